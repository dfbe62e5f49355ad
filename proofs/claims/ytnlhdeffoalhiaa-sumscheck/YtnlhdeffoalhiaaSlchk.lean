/-
  The law SumsCheck at every input.
-/
import Derived.Test.YtnlhdeffoalhiaaSkept
namespace Go.Proofs.Ytnlhdeffoalhiaa
open Go.RowKit Go.Lib

set_option maxHeartbeats 1000000 in
theorem lcheck_long (n : Int) (ad : Option Addr) (cap len : Nat) (hl : 2000 < len) (w : World) : Calls Try.prog 3 #[.slice ad len cap, .int .i64 n] w fun e w' => e = .returned (.bool true) ∧ Below w.heap.size w w' := by
  have HA := hid alive_any
  go_enter Try.func3, Try.ntmps3
  go_wp2_with fail
  refine (HA.out _).mono ?_
  rintro e w1 ⟨rfl, hb⟩
  have Hb := hid hb
  clear hb
  go_wp2
  go_ret
  exact ⟨rfl, Hb.out⟩

set_option maxRecDepth 100000 in
set_option maxHeartbeats 4000000 in
theorem lcheck_short (n : Int) (h1 : -9223372036854775808 ≤ n) (h2 : n ≤ 9223372036854775807) (ad : Option Addr) (cap : Nat) (bs : List Int) (hby : Byt bs) (hm : bs.length ≤ 2000) (w : World) (hI : Bys w.heap.size w ad bs) (hn : ad = none → bs.length = 0 ∧ cap = 0) :
    Calls Try.prog 3 #[.slice ad bs.length cap, .int .i64 n] w fun e w' => e = .returned (.bool true) ∧ Below w.heap.size w w' := by
  have HA := hid alive_any
  have HB := hid (fun W (h : Bys W.heap.size W ad bs) => bytes_any ad cap bs (by omega) W h hn)
  have HK := hid (fun g W (hC : CopyAt W g bs) (h : Bys W.heap.size W ad bs) => kept_any ad cap g bs (by omega) W hC h)
  have HC := hid (fun g W (hC : CopyAt W g bs) => scheck_any (some ⟨g, 0, none⟩) (bs.length + 6) bs hby (by omega) (by omega) W hC.bys)
  have HR := hid (fun W (h : Bys W.heap.size W ad bs) => rcheck_any ad cap bs hby (by omega) W h)
  have HTo := hid (fun W (h : Bys W.heap.size W ad bs) => rtotal_any ad cap bs hby (by omega) W h)
  have HF := hid (sfold_any n h1 h2)
  have HG := hid (rfold_any n h1 h2)
  have HAd := hid (fun g W (hC : CopyAt W g bs) => sadd_any n (bs.length + 6) (some ⟨g, 0, none⟩) bs hby (by omega) (by omega) W hC.bys)
  have ht := total_range hby (by omega)
  have HI := hid hI
  have FR : Hid ((n < 0 ∧ from40 n = 0) ∨ (0 ≤ n ∧ n ≤ 1099511627776 ∧ from40 n = n) ∨ (1099511627776 < n ∧ from40 n = 1099511627776)) := hid (by
    unfold from40
    by_cases a : n < 0
    · exact .inl ⟨a, by rw [if_pos a]⟩
    · by_cases b : 1099511627776 < n
      · exact .inr (.inr ⟨b, by rw [if_neg a, if_pos b]⟩)
      · exact .inr (.inl ⟨by omega, by omega, by rw [if_neg a, if_neg b]⟩))
  clear hI hn hby
  unfold CopyEnd at HB
  generalize bs.length = len at *
  generalize check bs = c at *
  generalize fold n = f at *
  generalize total bs = T at *
  generalize from40 n = M at *
  rcases FR.out with ⟨a, e⟩ | ⟨a, b, e⟩ | ⟨a, e⟩
  all_goals
    subst e
    clear FR
    go_enter Try.func3, Try.ntmps3
    go_wp2_with fail
    refine (HA.out _).mono ?_
    rintro e w1 ⟨rfl, hb⟩
    have HI1 := hid (HI.out.below hb |>.mono hb.size)
    have Hb := hid hb
    clear hb
    go_wp2_with fail
    refine (HB.out _ HI1.out).mono ?_
    rintro e w2 ⟨g, rfl, hg, hC2, hb⟩
    have HI2 := hid (HI1.out.below hb |>.mono hb.size)
    have HC2 := hid hC2
    have Hb2 := hid (sbel2 Hb.out hb)
    clear hb hg hC2
    go_wp2_with fail
    refine (HC.out _ _ HC2.out).mono ?_
    rintro e w3 ⟨rfl, hb⟩
    have HI3 := hid (HI2.out.below hb |>.mono hb.size)
    have HC3 := hid (HC2.out.kept hb)
    have Hb3 := hid (sbel2 Hb2.out hb)
    clear hb
    go_wp2_with fail
    refine (HR.out _ HI3.out).mono ?_
    rintro e w4 ⟨rfl, h⟩
    subst h
    go_wp2_with fail
    refine (HAd.out _ _ HC3.out).mono ?_
    rintro e w5 ⟨rfl, hb⟩
    have HI5 := hid (HI3.out.below hb |>.mono hb.size)
    have HC5 := hid (HC3.out.kept hb)
    have Hb5 := hid (sbel2 Hb3.out hb)
    clear hb
    go_wp2_with fail
    refine (HTo.out _ HI5.out).mono ?_
    rintro e w6 ⟨rfl, h⟩
    subst h
    go_wp2_with fail
    refine (HF.out _).mono ?_
    rintro e w7 ⟨rfl, h⟩
    subst h
    go_wp2_with fail
    refine (HG.out _).mono ?_
    rintro e w7 ⟨rfl, h⟩
    subst h
    go_wp2_with fail
    refine (HK.out _ _ HC5.out HI5.out).mono ?_
    rintro e w8 ⟨rfl, hb⟩
    have Hb8 := hid (sbel2 Hb5.out hb)
    clear hb
    go_wp2
    go_ret
    exact ⟨rfl, Hb8.out⟩
end Go.Proofs.Ytnlhdeffoalhiaa
