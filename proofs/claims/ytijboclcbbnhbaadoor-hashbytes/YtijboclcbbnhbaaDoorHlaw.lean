/-
  The law HashBytes at every input.
-/
import Derived.Test.YtijboclcbbnhbaaDoorHrof
namespace Go.Proofs.YtijboclcbbnhbaaDoor
open Go.RowKit Go.Lib

set_option maxHeartbeats 1000000 in
theorem lbytes_long (a n : Int) (ad : Option Addr) (cap len : Nat) (hl : 1000 < len) (w : World) : Calls Tryd.prog 3 #[.slice ad len cap, .int .u64 a, .int .i64 n] w fun e w' => e = .returned (.bool true) ∧ Below w.heap.size w w' := by
  have HA := hid (halive_any w)
  go_enter Tryd.func3, Tryd.ntmps3
  go_wp2_with fail
  refine HA.out.mono ?_
  rintro e w1 ⟨rfl, rfl⟩
  go_wp2
  go_ret
  exact ⟨rfl, Below.refl _ _⟩

set_option maxRecDepth 100000 in
set_option maxHeartbeats 4000000 in
theorem lbytes_short (a n : Int) (h1 : -9223372036854775808 ≤ n) (h2 : n ≤ 9223372036854775807) (ad : Option Addr) (cap : Nat) (bs : List Int) (hby : Byt bs) (hm : bs.length ≤ 1000) (w : World) (hE : FEnv w) (hI : Bys w.heap.size w ad bs) (hn : ad = none → bs.length = 0 ∧ cap = 0) :
    Calls Tryd.prog 3 #[.slice ad bs.length cap, .int .u64 a, .int .i64 n] w fun e w' => e = .returned (.bool true) ∧ Below w.heap.size w w' := by
  have HA := hid (halive_any w)
  have HB := hid (bytes_any ad cap bs (by omega) w hI hn)
  have HK := hid (fun g W (hC : CopyAt W g bs) (h : Bys W.heap.size W ad bs) => kept_any ad cap g bs (by omega) W hC h)
  have HO := hid (fun g W (hE : FEnv W) (hC : CopyAt W g bs) => of_any a (some ⟨g, 0, none⟩) (bs.length + 6) bs hby (by omega) W hE hC.bys)
  have HP := hid (fun g W (hC : CopyAt W g bs) => plain_any (some ⟨g, 0, none⟩) (bs.length + 6) bs hby (by omega) W hC.bys)
  have HR := hid (fun W (h : Bys W.heap.size W ad bs) => rplain_any ad cap bs hby (by omega) W h)
  have HQ := hid (fun W (h : Bys W.heap.size W ad bs) => rof_any a ad cap bs hby (by omega) W h hn)
  have hx := uv_range (mixB (furB (furB first64 (headOf a)) bs))
  have HE := hid hE
  have HI := hid hI
  clear hI hn hby hE
  unfold CopyEnd at HB
  generalize bs.length = len at *
  generalize uv (mixB (furB (furB first64 (headOf a)) bs)) = x at *
  generalize uv (furB first64 bs) = y at *
  have HBe := hid (below_any x n hx h1 h2)
  by_cases hlt : n < 1
  · rw [if_pos hlt] at HBe
    go_enter Tryd.func3, Tryd.ntmps3
    go_wp2_with fail
    refine HA.out.mono ?_
    rintro e w1 ⟨rfl, rfl⟩
    go_wp2_with fail
    refine HB.out.mono ?_
    rintro e w2 ⟨g, rfl, hg, hC2, hb⟩
    have HC2 := hid hC2
    have Hb2 := hid hb
    clear hb hg hC2
    go_wp2_with fail
    refine (HO.out _ _ (HE.out.kept Hb2.out) HC2.out).mono ?_
    rintro e w3 ⟨rfl, hb⟩
    have HC3 := hid (HC2.out.kept hb)
    have Hb3 := hid (sbel2 Hb2.out hb)
    have HI3 := hid (HI.out.below Hb3.out |>.mono Hb3.out.size)
    clear hb
    go_wp2_with fail
    refine (HBe.out _).mono ?_
    rintro e w4 ⟨rfl, rfl⟩
    go_wp2_with fail
    refine (HP.out _ _ HC3.out).mono ?_
    rintro e w4 ⟨rfl, rfl⟩
    go_wp2_with fail
    refine (HR.out _ HI3.out).mono ?_
    rintro e w4 ⟨rfl, rfl⟩
    go_wp2_with fail
    refine (HQ.out _ HI3.out).mono ?_
    rintro e w5 ⟨rfl, hb⟩
    have HC5 := hid (HC3.out.kept hb)
    have Hb5 := hid (sbel2 Hb3.out hb)
    have HI5 := hid (HI.out.below Hb5.out |>.mono Hb5.out.size)
    clear hb
    go_wp2_with fail
    refine (HK.out _ _ HC5.out HI5.out).mono ?_
    rintro e w8 ⟨rfl, hb⟩
    have Hb8 := hid (sbel2 Hb5.out hb)
    clear hb
    go_wp2
    go_ret
    exact ⟨rfl, Hb8.out⟩
  · rw [if_neg hlt] at HBe
    have k1 := Int.emod_nonneg x (show n ≠ 0 by omega)
    have k2 := Int.emod_lt_of_pos x (show 0 < n by omega)
    have k3 : IntKind.u64.wrap n = n := Go.IntWalk.u64_in _ (by omega)
    have k4 : x.tmod n = x % n := Int.tmod_eq_emod_of_nonneg hx.1
    have k5 : IntKind.u64.wrap (x % n) = x % n := Go.IntWalk.u64_in _ (by omega)
    have q1 : decide (x % n < 0) = false := decide_eq_false (by omega)
    have q2 : decide (n ≤ x % n) = false := decide_eq_false (by omega)
    generalize x % n = r at *
    go_enter Tryd.func3, Tryd.ntmps3
    go_wp2_with fail
    refine HA.out.mono ?_
    rintro e w1 ⟨rfl, rfl⟩
    go_wp2_with fail
    refine HB.out.mono ?_
    rintro e w2 ⟨g, rfl, hg, hC2, hb⟩
    have HC2 := hid hC2
    have Hb2 := hid hb
    clear hb hg hC2
    go_wp2_with fail
    refine (HO.out _ _ (HE.out.kept Hb2.out) HC2.out).mono ?_
    rintro e w3 ⟨rfl, hb⟩
    have HC3 := hid (HC2.out.kept hb)
    have Hb3 := hid (sbel2 Hb2.out hb)
    have HI3 := hid (HI.out.below Hb3.out |>.mono Hb3.out.size)
    clear hb
    go_wp2_with fail
    refine (HBe.out _).mono ?_
    rintro e w4 ⟨rfl, rfl⟩
    go_wp2_with fail
    refine (HP.out _ _ HC3.out).mono ?_
    rintro e w4 ⟨rfl, rfl⟩
    go_wp2_with fail
    refine (HR.out _ HI3.out).mono ?_
    rintro e w4 ⟨rfl, rfl⟩
    go_wp2_with fail
    refine (HQ.out _ HI3.out).mono ?_
    rintro e w5 ⟨rfl, hb⟩
    have HC5 := hid (HC3.out.kept hb)
    have Hb5 := hid (sbel2 Hb3.out hb)
    have HI5 := hid (HI.out.below Hb5.out |>.mono Hb5.out.size)
    clear hb
    go_wp2_with fail
    refine (HK.out _ _ HC5.out HI5.out).mono ?_
    rintro e w8 ⟨rfl, hb⟩
    have Hb8 := hid (sbel2 Hb5.out hb)
    clear hb
    go_wp2
    go_ret
    exact ⟨rfl, Hb8.out⟩

theorem lbytes_all (a n : Int) (_h : 0 ≤ a ∧ a ≤ 18446744073709551615) (hn : -9223372036854775808 ≤ n ∧ n ≤ 9223372036854775807) (ad : Option Addr) (cap : Nat) (bs : List Int) (hby : Byt bs) (w : World) (hE : FEnv w) (hI : Bys w.heap.size w ad bs) (h0 : ad = none → bs.length = 0 ∧ cap = 0) :
    Calls Tryd.prog 3 #[.slice ad bs.length cap, .int .u64 a, .int .i64 n] w fun e w' => e = .returned (.bool true) ∧ Below w.heap.size w w' := by
  by_cases h : bs.length ≤ 1000
  · exact lbytes_short a n hn.1 hn.2 ad cap bs hby h w hE hI h0
  · exact lbytes_long a n ad cap bs.length (by omega) w
end Go.Proofs.YtijboclcbbnhbaaDoor
