/-
  The law FrameCuts at every input.
-/
import Derived.Test.YtkpjdjenlmodnaaDoorEsm
import Derived.Test.YtkpjdjenlmodnaaDoorNerr
namespace Go.Proofs.YtkpjdjenlmodnaaDoor
open Go.RowKit Go.Lib

set_option linter.unusedSimpArgs false in
set_option maxRecDepth 100000 in
set_option maxHeartbeats 8000000 in
theorem cuts_any {w : World} {a : Nat → Addr} (bs : List Int) (ad : Option Addr) (cap : Nat) (hc : bs.length ≤ cap) (hn : ad = none → bs.length = 0 ∧ cap = 0) (hby : Byt bs) (hI : Bys w.heap.size w ad bs) (hE : Errs 18 a w) :
    Calls Tryd.prog 3 #[.slice ad bs.length cap] w fun e w' => e = .returned (.bool true) ∧ Below w.heap.size w w' := by
  have HA := hid (alive_any (hE.cell 3 (by omega)))
  have HE := hid hE
  have HI := hid hI
  have HBy := hid hby
  have HNn := hid hn
  clear hE hI hby hn
  obtain ⟨m, hm⟩ : ∃ m, m = bs.length := ⟨_, rfl⟩
  have HM := hid hm
  rw [← hm] at hc ⊢
  clear hm
  go_enter Tryd.func3, Tryd.ntmps3
  go_wp2_with fail
  refine HA.out.mono ?_
  rintro e w1 ⟨rfl, hb1⟩
  have HB1 := hid hb1
  clear hb1 HA
  by_cases h4 : 4000 < m
  · go_wp2
    go_ret
    exact ⟨rfl, HB1.out⟩
  have HI1 : Hid (Bys w1.heap.size w1 ad bs) := hid ((HI.out.below HB1.out).mono HB1.out.size)
  have HBt : Hid (Calls Tryd.prog 7 #[.slice ad m cap] w1 (CopyEnd bs w1)) := hid (by rw [HM.out]; exact bytes_any ad cap bs (by rw [← HM.out]; omega) w1 HI1.out HNn.out)
  go_wp2_with fail
  refine HBt.out.mono ?_
  rintro e w2 ⟨g, rfl, hg, hC, hb2⟩
  have HB2 : Hid (Below w.heap.size w w2) := hid (HB1.out.trans (hb2.mono HB1.out.size))
  have HI2 : Hid (Bys w2.heap.size w2 ad bs) := hid ((HI.out.below HB2.out).mono HB2.out.size)
  have HC2 := hid hC
  have HCt : Hid (Calls Tryd.prog 8 #[.slice (some ⟨g, 0, none⟩) bs.length (bs.length + 6)] w2 (CutEnd w2 bs (a 3))) :=
    hid (cut_any ((HE.out.below HB2.out).cell 3 (by omega)) bs (hC.bys.rowA (A := fun _ => True) fun _ _ => trivial) (by omega) (fun e => by cases e) HBy.out (by rw [← HM.out]; omega))
  clear HB1 HI1 HBt hg hC hb2
  rw [← HM.out] at HCt ⊢
  go_wp2_with fail
  refine HCt.out.mono ?_
  rintro e w3 ⟨v, F, xs, n, b, rfl, hcu, ho, hf, hb3⟩
  obtain ⟨adv, capv, rfl⟩ := own_shapeG ho
  have HB3 : Hid (Below w.heap.size w w3) := hid (HB2.out.trans (hb3.mono HB2.out.size))
  have HI3 : Hid (Bys w3.heap.size w3 ad bs) := hid ((HI.out.below HB3.out).mono HB3.out.size)
  have HC3 := hid (HC2.out.kept hb3)
  have HCu := hid hcu
  have HO3 := hid ho
  have HF3 := hid hf
  have HRt : Hid (Calls Tryd.prog 9 #[.slice ad m cap] w3 (RCutEnd w3 bs)) := hid (by rw [HM.out]; exact rcut_any bs (HI3.out.rowA (A := fun _ => True) fun _ _ => trivial) (by rw [← HM.out]; exact hc) HBy.out (by rw [← HM.out]; omega))
  have hfm : F.length ≤ 4000 := by have := hcu.few; rw [← HM.out] at this; omega
  have hnm : n ≤ 4000 := by have := hcu.few; rw [← HM.out] at this; omega
  obtain ⟨fl, hfl⟩ : ∃ fl, fl = F.length := ⟨_, rfl⟩
  rw [← hfl] at hfm ⊢
  have HFl := hid hfl
  obtain ⟨ev, hev⟩ : ∃ ev, ev = errV (a 3) b := ⟨_, rfl⟩
  rw [← hev]
  have HEv := hid hev
  clear HB2 HI2 HC2 HCt hcu ho hf hb3 hfl hev
  go_wp2_with fail
  refine HRt.out.mono ?_
  rintro e w4 ⟨v4, F4, xs4, n4, b4, rfl, hcu4, ho4, hf4, hb4⟩
  obtain ⟨rfl, rfl, rfl⟩ := HCu.out.unique hcu4
  obtain ⟨ad4, cap4, rfl⟩ := own_shapeG ho4
  rw [← HFl.out]
  have HB4 : Hid (Below w.heap.size w w4) := hid (HB3.out.trans (hb4.mono HB3.out.size))
  have HC4 := hid (HC3.out.kept hb4)
  have HO4 := hid (own_same HO3.out fun g e => hb4.block g (HO3.out.lt g e).2)
  have HF4 := hid (HF3.out.below hb4)
  have HV4 := hid (src_own HO4.out)
  have HOf : Hid (Calls Tryd.prog 11 #[.slice adv fl capv] w4 fun e w' => ∃ v, e = .returned v ∧ w'.ownsRow w4.heap.size 50 2 v F.length xs ∧ Below w4.heap.size w4 w') := hid (by
    rw [HFl.out]
    exact of_any HF4.out HV4.out.1 (fun e => (HV4.out.2 e).1) (by rw [← HFl.out]; omega))
  have HR4 := hid ho4
  have HG4 := hid hf4
  have hnn : ((n : Int) == (n : Int)) = true := by simp
  have HSame : Hid (∀ (w5 : World) (v5 : Value), w5.ownsRow w4.heap.size 50 2 v5 F.length xs → Below w4.heap.size w4 w5 → ∃ ad5 cap5, v5 = .slice ad5 fl cap5 ∧
      Calls Tryd.prog 10 #[.slice ad5 fl cap5, .slice ad4 fl cap4] w5 (fun e w' => e = .returned (.bool true) ∧ Below w5.heap.size w5 w')) := hid fun w5 v5 h5 hb5 => by
    obtain ⟨ad5, cap5, rfl⟩ := own_shapeG h5
    have hs5 := src_own h5
    have ho4' := own_same HR4.out fun g e => hb5.block g (HR4.out.lt g e).2
    have hs4 := src_own ho4'
    rw [HFl.out]
    exact ⟨ad5, cap5, rfl, same_any (HF4.out.below hb5) hs5.1 (fun e => (hs5.2 e).1) (HG4.out.below hb5) hs4.1 (fun e => (hs4.2 e).1) (by rw [← HFl.out]; omega)⟩
  clear HB3 HI3 HC3 HO3 HF3 HRt hcu4 ho4 hf4 hb4 HO4 HF4 HV4 HR4 HG4
  have HK : Hid (∀ W, Below w4.heap.size w4 W → Calls Tryd.prog 13 #[.slice (some ⟨g, 0, none⟩) m (m + 6), .slice ad m cap] W fun e w' => e = .returned (.bool true) ∧ Below W.heap.size W w') := hid fun W hW => by
    rw [HM.out]
    have hB := HB4.out.trans (hW.mono HB4.out.size)
    exact kept_any ad cap g bs (by rw [← HM.out]; omega) W (HC4.out.kept hW) ((HI.out.below hB).mono hB.size)
  have HE4 := hid (HE.out.below HB4.out)
  cases b with
  | true =>
    obtain rfl : ev = .iface 82 (.pointer (some (a 3))) := HEv.out
    have HNm : Hid (∀ W, Below w4.heap.size w4 W → Calls Tryd.prog 12 #[.iface 82 (.pointer (some (a 3)))] W fun e w' => e = .returned (.int .i64 4) ∧ Below W.heap.size W w') := hid fun W hW => num_err a 3 (by omega) _ (HE4.out.below hW)
    clear HEv HE4 HC4
    go_wp2_with fail
    refine HOf.out.mono ?_
    rintro e w5 ⟨v5, rfl, h5, hb5⟩
    obtain ⟨ad5, cap5, rfl, hs⟩ := HSame.out w5 v5 h5 hb5
    have HS5 := hid hs
    have HB5 := hid hb5
    clear hs h5 hb5 HSame HOf
    go_wp2_with fail
    refine HS5.out.mono ?_
    rintro e w6 ⟨rfl, hb6⟩
    have HB6 := hid (HB5.out.trans (hb6.mono HB5.out.size))
    clear hb6 HB5 HS5
    go_wp2_with fail
    refine (HNm.out w6 HB6.out).mono ?_
    rintro e w7 ⟨rfl, hb7⟩
    have HB7 := hid (HB6.out.trans (hb7.mono HB6.out.size))
    clear hb7 HB6 HNm
    go_wp2_with fail
    refine (HK.out w7 HB7.out).mono ?_
    rintro e w8 ⟨rfl, hb8⟩
    have HB8 := hid ((HB4.out.trans (HB7.out.mono HB4.out.size)).trans (hb8.mono (HB4.out.trans (HB7.out.mono HB4.out.size)).size))
    clear hb8 HB7 HK
    go_wp2
    go_ret
    exact ⟨rfl, HB8.out⟩
  | false =>
    obtain rfl : ev = .nilIface := HEv.out
    clear HEv HE4 HC4
    go_wp2_with fail
    refine HOf.out.mono ?_
    rintro e w5 ⟨v5, rfl, h5, hb5⟩
    obtain ⟨ad5, cap5, rfl, hs⟩ := HSame.out w5 v5 h5 hb5
    have HS5 := hid hs
    have HB5 := hid hb5
    clear hs h5 hb5 HSame HOf
    go_wp2_with fail
    refine HS5.out.mono ?_
    rintro e w6 ⟨rfl, hb6⟩
    have HB6 := hid (HB5.out.trans (hb6.mono HB5.out.size))
    clear hb6 HB5 HS5
    go_wp2_with fail
    refine (num_nil _).mono ?_
    rintro e w7 ⟨rfl, rfl⟩
    go_wp2_with fail
    refine (HK.out w6 HB6.out).mono ?_
    rintro e w8 ⟨rfl, hb8⟩
    have HB8 := hid ((HB4.out.trans (HB6.out.mono HB4.out.size)).trans (hb8.mono (HB4.out.trans (HB6.out.mono HB4.out.size)).size))
    clear hb8 HB6 HK
    go_wp2
    go_ret
    exact ⟨rfl, HB8.out⟩
end Go.Proofs.YtkpjdjenlmodnaaDoor
