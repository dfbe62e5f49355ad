/-
  The law FrameBytes where the frame has bytes.
-/
import Derived.Test.YtkpjdjenlmodnaaDoorFby
namespace Go.Proofs.YtkpjdjenlmodnaaDoor
open Go.RowKit Go.Lib

section
variable {w W V : World} {k0 k1 : Int} {ad0 ad1 : Option Addr} {cap0 cap1 l0 l1 : Nat} {bs0 bs1 : List Int} {a : Nat → Addr}

set_option linter.unusedSimpArgs false in
set_option maxRecDepth 100000 in
set_option maxHeartbeats 8000000 in
theorem fby_good (hm0 : bs0.length ≤ 1199) (hm1 : bs1.length ≤ 2000) (h1 : 0 ≤ k0) (h2 : k0 ≤ 255) (hby : Byt bs0) (hn0 : ad0 = none → bs0.length = 0 ∧ cap0 = 0) (hI0 : Bys w.heap.size w ad0 bs0) (hI1 : Bys w.heap.size w ad1 bs1) (hE : Errs 18 a w) :
    Calls Tryd.prog 5 #[.agg #[.int .i64 k0, .slice ad0 bs0.length cap0], .agg #[.int .i64 k1, .slice ad1 bs1.length cap1]] w fun e w' => e = .returned (.bool true) ∧ Below w.heap.size w w' := by
  have HX : Hid (∀ l0 l1, Boxed w ((w.alloc (.cells #[.int .i64 k0, .slice ad0 l0 cap0] 46)).alloc (.cells #[.int .i64 k1, .slice ad1 l1 cap1] 46)) k0 k1 ad0 ad1 cap0 cap1 l0 l1 bs0 bs1 a) := hid fun l0 l1 => boxed_first hI0 hI1 hE
  clear hI0 hI1 hE
  have HBy := hid hby
  have HNn := hid hn0
  clear hby hn0
  obtain ⟨l0, hl0⟩ : ∃ l, l = bs0.length := ⟨_, rfl⟩
  obtain ⟨l1, hl1⟩ : ∃ l, l = bs1.length := ⟨_, rfl⟩
  rw [← hl0] at hm0 ⊢
  rw [← hl1] at hm1 ⊢
  have HL0 := hid hl0
  have HL1 := hid hl1
  clear hl0 hl1
  obtain ⟨W1, hW1⟩ : ∃ W, W = (w.alloc (.cells #[.int .i64 k0, .slice ad0 l0 cap0] 46)).alloc (.cells #[.int .i64 k1, .slice ad1 l1 cap1] 46) := ⟨_, rfl⟩
  have HB1 := HX.out l0 l1
  rw [← hW1] at HB1
  have HB1 := hid HB1
  have HW1 := hid hW1.symm
  clear hW1 HX
  have HA := hid (alive_any (HB1.out.errs.cell 3 (by omega)))
  go_enter Tryd.func5, Tryd.ntmps5
  go_upto_region 1 with fail
  rw [HW1.out]
  go_wp2_with fail
  refine HA.out.mono ?_
  rintro e w2 ⟨rfl, hb2⟩
  have HB2 := hid (HB1.out.below hb2)
  clear hb2 HA HB1 HW1
  have c0 := HB2.out.f.cell 0
  have c1 := HB2.out.f.cell 1
  have d0 := HB2.out.g.cell 0
  have d1 := HB2.out.g.cell 1
  simp only [List.getElem?_toArray, List.getElem?_cons_zero, List.getElem?_cons_succ] at c0 c1 d0 d1
  have HF2 := hid HB2.out.f
  have HM0 : Hid (bs0.length ≤ 1199) := hid (by rw [← HL0.out]; exact hm0)
  have HFb : Hid (Calls Tryd.prog 19 #[.agg #[.int .i64 k0, .slice ad0 l0 cap0]] w2 fun e w' => ∃ v, e = .returned (.tuple #[v, .nilIface]) ∧ w'.ownsRow w2.heap.size 5 1 v (fbs k0 bs0).length ((fbs k0 bs0).map (Value.int .u8)) ∧ Below w2.heap.size w2 w') := hid (by
    rw [HL0.out]
    exact fb_good h1 h2 HM0.out HB2.out.rf HNn.out)
  go_wp2_with (first
    | ((show wpList _ _ _ (⟨some 24, _, _, _, _, _⟩ :: _) _ _); go_must (refine wpl_load 46 (.tmp 2) rfl w.heap.size rfl 46 _ _ HF2.out Tryd.underlying46 rfl 2 Tryd.infoFrameN rfl rfl ?_))
    | fail)
  refine HFb.out.mono ?_
  rintro e w3 ⟨v, rfl, ho, hb3⟩
  obtain ⟨adb, capb, rfl, hcb, hnb, hrb⟩ := own_body ho
  have HB3 := hid (HB2.out.below hb3)
  have HCt : Hid (Calls Tryd.prog 8 #[.slice adb (fbs k0 bs0).length capb] w3 (CutEnd w3 (fbs k0 bs0) (a 3))) := hid (cut_any (HB3.out.errs.cell 3 (by omega)) (fbs k0 bs0) hrb hcb hnb (byt_fbs k0 bs0 h1 h2 HBy.out) (by rw [fbs_length]; have := HM0.out; omega))
  have HCu : Hid (Cuts (fbs k0 bs0) [(k0, bs0)] 0 false) := hid (cuts_fbs k0 bs0 HM0.out)
  clear ho hcb hnb hrb hb3 HFb HB2 HF2 c0 c1 d0 d1
  obtain ⟨fl, hfl⟩ : ∃ fl, fl = (fbs k0 bs0).length := ⟨_, rfl⟩
  rw [← hfl] at HCt ⊢
  clear hfl
  have c0 := HB3.out.f.cell 0
  have c1 := HB3.out.f.cell 1
  have d0 := HB3.out.g.cell 0
  have d1 := HB3.out.g.cell 1
  simp only [List.getElem?_toArray, List.getElem?_cons_zero, List.getElem?_cons_succ] at c0 c1 d0 d1
  go_wp2_with fail
  refine HCt.out.mono ?_
  rintro e w4 ⟨v, F, xs, n, b, rfl, hcu, ho, hf, hb4⟩
  obtain ⟨rfl, rfl, rfl⟩ := HCu.out.unique hcu
  have HB4 := hid (HB3.out.below hb4)
  have HG : Hid (∃ gv adx cx capv, v = .slice (some ⟨gv, 0, none⟩) 1 capv ∧ ∀ V, Below w4.heap.size w4 V → V.rangeAt gv 0 [.int .i64 k0, .slice adx l0 cx] ∧ Bys V.heap.size V adx bs0) := hid (by
    rw [HL0.out]
    obtain ⟨h1', sv, h2', adx, cx, rfl, _, _, hr⟩ := hf.at 0 (k0, bs0) rfl
    rcases ho.2 with ⟨_, h0⟩ | ⟨gv, capv, cur, rfl, _⟩
    · exact absurd h0 (by simp)
    · refine ⟨gv, adx, cx, capv, rfl, fun V hV => ⟨fun j u hu => ?_, (Bys.below hV hr.bys).mono hV.size⟩⟩
      obtain ⟨g', o', e', hcell⟩ := (src_own ho).1 _ rfl
      cases e'
      have key : w4.cell? ⟨gv, 0 + j, none⟩ = some u := by
        match j, hu with
        | 0, hu => cases hu; exact hcell 0 _ h1'
        | 1, hu => cases hu; exact hcell 1 _ h2'
      exact (hV.cell (World.block_lt_of_cell? _ _ key)).trans key)
  obtain ⟨gv, adx, cx, capv, rfl, hG⟩ := HG.out
  have HG2 := hid hG
  clear hG HG hcu ho hf hb4 HCt HB3 c0 c1 d0 d1
  have he : errV (a 3) false = .nilIface := rfl
  have hz : ((0 : Nat) : Int) = 0 := rfl
  rw [he, hz]
  clear he hz
  have HS1 : Hid (∀ V, Below w4.heap.size w4 V → Calls Tryd.prog 20 #[.agg #[.int .i64 k0, .slice adx l0 cx], .agg #[.int .i64 k0, .slice ad0 l0 cap0]] V fun e w' => ∃ v, e = .returned v ∧ v = .bool true ∧ Below V.heap.size V w') := hid fun V hV => by
    rw [HL0.out]
    refine (fsame_any k0 k0 (HG2.out V hV).2 (HB4.out.below hV).rf).mono fun e w' hh => ⟨.bool true, ?_, rfl, hh.2⟩
    rw [hh.1]
    simp
  obtain ⟨q, hq⟩ : ∃ q, q = ((strOfNums bs0).toList == (strOfNums bs1).toList) := ⟨_, rfl⟩
  have HS2 : Hid (∀ V, Below w4.heap.size w4 V → Calls Tryd.prog 20 #[.agg #[.int .i64 k0, .slice ad0 l0 cap0], .agg #[.int .i64 k1, .slice ad1 l1 cap1]] V fun e w' => ∃ v, e = .returned v ∧ v = .bool (k0 == k1 && q) ∧ Below V.heap.size V w') := hid fun V hV => by
    rw [HL0.out, HL1.out, hq]
    refine (fsame_any k0 k1 (HB4.out.below hV).rf (HB4.out.below hV).rg).mono fun e w' hh => ⟨_, hh.1, rfl, hh.2⟩
  have q1 : (convert 22 9 (.slice ad0 l0 cap0)).run Tryd.prog w4 = .ok (.string (strOfNums bs0)) w4 := by rw [HL0.out]; exact conv_bys HB4.out.rf _
  have q2 : (convert 22 9 (.slice ad1 l1 cap1)).run Tryd.prog w4 = .ok (.string (strOfNums bs1)) w4 := by rw [HL1.out]; exact conv_bys HB4.out.rg _
  have HQ := hid hq
  clear hq
  generalize strOfNums bs0 = S0 at *
  generalize strOfNums bs1 = S1 at *
  have c0 := HB4.out.f.cell 0
  have c1 := HB4.out.f.cell 1
  have d0 := HB4.out.g.cell 0
  have d1 := HB4.out.g.cell 1
  simp only [List.getElem?_toArray, List.getElem?_cons_zero, List.getElem?_cons_succ] at c0 c1 d0 d1
  by_cases hk : k0 = k1
  · subst hk
    have e0 : (k0 == k0) = true := by simp
    simp only [e0, Bool.true_and] at HS2
    clear e0
    go_upto_region 12 with fail
    rw [← HQ.out]
    clear q1 q2
    obtain ⟨W, hW, hbW⟩ : ∃ W, W = w4.drew ∧ Below w4.heap.size w4 W := ⟨_, rfl, (Below.refl _ _).drew⟩
    refine wp_region_held_drew (S := fun V => Below w4.heap.size w4 V) (by kernel_rfl) (by rw [← hW]; exact hbW) (fun hS => ?_)
    rw [← hW] at hS ⊢
    clear hW hbW c0 c1 d0 d1
    change wpAnyH _ _ _ _ _ 30 #[false, false, false, false, false, false, false, false, false, false, false, false, false, false, false, false, false, false, false, false, false, false, false, false, false, false, false, false, false, false] _ _
    refine wpAnyH_take (i := 0) (v := .nilIface) rfl (by kernel_rfl) (by kernel_rfl) (by kernel_rfl) (fun _ _ _ h => h) (.inl ⟨by kernel_rfl, fun V hV => by unfold execOp; go_simp⟩) hS ?_
    simp only [List.getElem_toArray, List.getElem_cons_zero, List.getElem_cons_succ, Act.put, List.setIfInBounds_toArray, List.set_cons_zero, List.set_cons_succ]
    refine wpAnyH_take (i := 1) (v := .bool true) rfl (by kernel_rfl) (by kernel_rfl) (by kernel_rfl) (fun _ _ _ h => h) (.inl ⟨by kernel_rfl, fun V hV => by unfold execOp; go_simp⟩) hS ?_
    simp only [List.getElem_toArray, List.getElem_cons_zero, List.getElem_cons_succ, Act.put, List.setIfInBounds_toArray, List.set_cons_zero, List.set_cons_succ]
    refine wpAnyH_take (i := 2) (v := .bool true) rfl (by kernel_rfl) (by kernel_rfl) (by kernel_rfl) (fun _ _ _ h => h) (.inl ⟨by kernel_rfl, fun V hV => by unfold execOp; go_simp⟩) hS ?_
    simp only [List.getElem_toArray, List.getElem_cons_zero, List.getElem_cons_succ, Act.put, List.setIfInBounds_toArray, List.set_cons_zero, List.set_cons_succ]
    refine wpAnyH_take (i := 3) (v := .nilIface) rfl (by kernel_rfl) (by kernel_rfl) (by kernel_rfl) (fun _ _ _ h => h) (.inl ⟨by kernel_rfl, fun V hV => by unfold execOp; go_simp⟩) hS ?_
    simp only [List.getElem_toArray, List.getElem_cons_zero, List.getElem_cons_succ, Act.put, List.setIfInBounds_toArray, List.set_cons_zero, List.set_cons_succ]
    refine wpAnyH_take (i := 4) (v := .bool true) rfl (by kernel_rfl) (by kernel_rfl) (by kernel_rfl) (fun _ _ _ h => h) (.inl ⟨by kernel_rfl, fun V hV => by unfold execOp; go_simp⟩) hS ?_
    simp only [List.getElem_toArray, List.getElem_cons_zero, List.getElem_cons_succ, Act.put, List.setIfInBounds_toArray, List.set_cons_zero, List.set_cons_succ]
    refine wpAnyH_take (i := 5) (v := .bool true) rfl (by kernel_rfl) (by kernel_rfl) (by kernel_rfl) (fun _ _ _ h => h) (.inl ⟨by kernel_rfl, fun V hV => by unfold execOp; go_simp⟩) hS ?_
    simp only [List.getElem_toArray, List.getElem_cons_zero, List.getElem_cons_succ, Act.put, List.setIfInBounds_toArray, List.set_cons_zero, List.set_cons_succ]
    refine wpAnyH_take (i := 6) (v := .bool true) rfl (by kernel_rfl) (by kernel_rfl) (by kernel_rfl) (fun _ _ _ h => h) (.inl ⟨by kernel_rfl, fun V hV => by unfold execOp; go_simp⟩) hS ?_
    simp only [List.getElem_toArray, List.getElem_cons_zero, List.getElem_cons_succ, Act.put, List.setIfInBounds_toArray, List.set_cons_zero, List.set_cons_succ]
    refine wpAnyH_take (i := 7) (v := .int .i64 0) rfl (by kernel_rfl) (by kernel_rfl) (by kernel_rfl) (fun _ _ _ h => h) (.inl ⟨by kernel_rfl, fun V hV => by unfold execOp; go_simp⟩) hS ?_
    simp only [List.getElem_toArray, List.getElem_cons_zero, List.getElem_cons_succ, Act.put, List.setIfInBounds_toArray, List.set_cons_zero, List.set_cons_succ]
    refine wpAnyH_take (i := 8) (v := .bool true) rfl (by kernel_rfl) (by kernel_rfl) (by kernel_rfl) (fun _ _ _ h => h) (.inl ⟨by kernel_rfl, fun V hV => by unfold execOp; go_simp⟩) hS ?_
    simp only [List.getElem_toArray, List.getElem_cons_zero, List.getElem_cons_succ, Act.put, List.setIfInBounds_toArray, List.set_cons_zero, List.set_cons_succ]
    refine wpAnyH_take (i := 9) (v := .bool true) rfl (by kernel_rfl) (by kernel_rfl) (by kernel_rfl) (fun _ _ _ h => h) (.inl ⟨by kernel_rfl, fun V hV => by unfold execOp; go_simp⟩) hS ?_
    simp only [List.getElem_toArray, List.getElem_cons_zero, List.getElem_cons_succ, Act.put, List.setIfInBounds_toArray, List.set_cons_zero, List.set_cons_succ]
    refine wpAnyH_take (i := 10) (v := .bool true) rfl (by kernel_rfl) (by kernel_rfl) (by kernel_rfl) (fun _ _ _ h => h) (.inl ⟨by kernel_rfl, fun V hV => by unfold execOp; go_simp⟩) hS ?_
    simp only [List.getElem_toArray, List.getElem_cons_zero, List.getElem_cons_succ, Act.put, List.setIfInBounds_toArray, List.set_cons_zero, List.set_cons_succ]
    refine wpAnyH_take (i := 11) (v := .slice (some ⟨gv, 0, none⟩) 1 capv) rfl (by kernel_rfl) (by kernel_rfl) (by kernel_rfl) (fun _ _ _ h => h) (.inl ⟨by kernel_rfl, fun V hV => by unfold execOp; go_simp⟩) hS ?_
    simp only [List.getElem_toArray, List.getElem_cons_zero, List.getElem_cons_succ, Act.put, List.setIfInBounds_toArray, List.set_cons_zero, List.set_cons_succ]
    refine wpAnyH_take (i := 12) (v := .int .i64 1) rfl (by kernel_rfl) (by kernel_rfl) (by kernel_rfl) (fun _ _ _ h => h) (.inl ⟨by kernel_rfl, fun V hV => by unfold execOp; go_simp⟩) hS ?_
    simp only [List.getElem_toArray, List.getElem_cons_zero, List.getElem_cons_succ, Act.put, List.setIfInBounds_toArray, List.set_cons_zero, List.set_cons_succ]
    refine wpAnyH_take (i := 13) (v := .bool true) rfl (by kernel_rfl) (by kernel_rfl) (by kernel_rfl) (fun _ _ _ h => h) (.inl ⟨by kernel_rfl, fun V hV => by unfold execOp; go_simp⟩) hS ?_
    simp only [List.getElem_toArray, List.getElem_cons_zero, List.getElem_cons_succ, Act.put, List.setIfInBounds_toArray, List.set_cons_zero, List.set_cons_succ]
    refine wpAnyH_take (i := 14) (v := .bool true) rfl (by kernel_rfl) (by kernel_rfl) (by kernel_rfl) (fun _ _ _ h => h) (.inl ⟨by kernel_rfl, fun V hV => by unfold execOp; go_simp⟩) hS ?_
    simp only [List.getElem_toArray, List.getElem_cons_zero, List.getElem_cons_succ, Act.put, List.setIfInBounds_toArray, List.set_cons_zero, List.set_cons_succ]
    refine wpAnyH_take (i := 15) (v := .bool true) rfl (by kernel_rfl) (by kernel_rfl) (by kernel_rfl) (fun _ _ _ h => h) (.inl ⟨by kernel_rfl, fun V hV => by unfold execOp; go_simp⟩) hS ?_
    simp only [List.getElem_toArray, List.getElem_cons_zero, List.getElem_cons_succ, Act.put, List.setIfInBounds_toArray, List.set_cons_zero, List.set_cons_succ]
    refine wpAnyH_take (i := 16) (v := .slice (some ⟨gv, 0, none⟩) 1 capv) rfl (by kernel_rfl) (by kernel_rfl) (by kernel_rfl) (fun _ _ _ h => h) (.inl ⟨by kernel_rfl, fun V hV => by unfold execOp; go_simp⟩) hS ?_
    simp only [List.getElem_toArray, List.getElem_cons_zero, List.getElem_cons_succ, Act.put, List.setIfInBounds_toArray, List.set_cons_zero, List.set_cons_succ]
    refine wpAnyH_take (i := 17) (v := .pointer (some ⟨gv, 0, none⟩)) rfl (by kernel_rfl) (by kernel_rfl) (by kernel_rfl) (fun _ _ _ h => h) (.inl ⟨by kernel_rfl, fun V hV => by unfold execOp; go_simp⟩) hS ?_
    simp only [List.getElem_toArray, List.getElem_cons_zero, List.getElem_cons_succ, Act.put, List.setIfInBounds_toArray, List.set_cons_zero, List.set_cons_succ]
    refine wpAnyH_take (i := 18) (v := .agg #[.int .i64 k0, .slice adx l0 cx]) rfl (by kernel_rfl) (by kernel_rfl) (by kernel_rfl) (fun _ _ _ h => h) (yieldsIf_load_mid (by kernel_rfl) 46 (.tmp 93) rfl gv 0 (by kernel_rfl) [.int .i64 k0, .slice adx l0 cx] _ (fun V hV => (HG2.out V hV).1) Tryd.underlying46 rfl Tryd.infoFrameN) hS ?_
    simp only [List.getElem_toArray, List.getElem_cons_zero, List.getElem_cons_succ, Act.put, List.setIfInBounds_toArray, List.set_cons_zero, List.set_cons_succ]
    refine wpAnyH_take (i := 19) (v := .agg #[.int .i64 k0, .slice ad0 l0 cap0]) rfl (by kernel_rfl) (by kernel_rfl) (by kernel_rfl) (fun _ _ _ h => h) (yields_load 46 (.tmp 2) rfl w.heap.size (by kernel_rfl) 46 _ _ (fun V hV => (HB4.out.below hV).f) Tryd.underlying46 rfl 2 Tryd.infoFrameN rfl (by kernel_rfl)) hS ?_
    simp only [List.getElem_toArray, List.getElem_cons_zero, List.getElem_cons_succ, Act.put, List.setIfInBounds_toArray, List.set_cons_zero, List.set_cons_succ]
    refine wpAnyH_ready (rs := [20]) (by kernel_rfl) (by simp) ?_
    refine AllReadyH.cons rfl (fun K' hK => ?_) AllReadyH.nil
    refine step_callE 20 #[.agg #[.int .i64 k0, .slice adx l0 cx], .agg #[.int .i64 k0, .slice ad0 l0 cap0]] (by kernel_rfl) (by kernel_rfl) (HS1.out _ hS) (fun v1 u1 hR1 => ?_)
    obtain ⟨rfl, hb1⟩ := hR1
    refine hK.out _ _ (hS.trans (hb1.mono hS.size)) (fun hS => ?_)
    simp only [List.getElem_toArray, List.getElem_cons_zero, List.getElem_cons_succ, Act.put, List.setIfInBounds_toArray, List.set_cons_zero, List.set_cons_succ]
    refine wpAnyH_take (i := 21) (v := .bool true) rfl (by kernel_rfl) (by kernel_rfl) (by kernel_rfl) (fun _ _ _ h => h) (.inl ⟨by kernel_rfl, fun V hV => by unfold execOp; go_simp⟩) hS ?_
    simp only [List.getElem_toArray, List.getElem_cons_zero, List.getElem_cons_succ, Act.put, List.setIfInBounds_toArray, List.set_cons_zero, List.set_cons_succ]
    refine wpAnyH_take (i := 22) (v := .bool true) rfl (by kernel_rfl) (by kernel_rfl) (by kernel_rfl) (fun _ _ _ h => h) (.inl ⟨by kernel_rfl, fun V hV => by unfold execOp; go_simp⟩) hS ?_
    simp only [List.getElem_toArray, List.getElem_cons_zero, List.getElem_cons_succ, Act.put, List.setIfInBounds_toArray, List.set_cons_zero, List.set_cons_succ]
    refine wpAnyH_take (i := 26) (v := .bool q) rfl (by kernel_rfl) (by kernel_rfl) (by kernel_rfl) (fun _ _ _ h => h) (.inl ⟨by kernel_rfl, fun V hV => by unfold execOp; go_simp⟩) hS ?_
    simp only [List.getElem_toArray, List.getElem_cons_zero, List.getElem_cons_succ, Act.put, List.setIfInBounds_toArray, List.set_cons_zero, List.set_cons_succ]
    refine wpAnyH_take (i := 23) (v := .agg #[.int .i64 k0, .slice ad0 l0 cap0]) rfl (by kernel_rfl) (by kernel_rfl) (by kernel_rfl) (fun _ _ _ h => h) (yields_load 46 (.tmp 2) rfl w.heap.size (by kernel_rfl) 46 _ _ (fun V hV => (HB4.out.below hV).f) Tryd.underlying46 rfl 2 Tryd.infoFrameN rfl (by kernel_rfl)) hS ?_
    simp only [List.getElem_toArray, List.getElem_cons_zero, List.getElem_cons_succ, Act.put, List.setIfInBounds_toArray, List.set_cons_zero, List.set_cons_succ]
    refine wpAnyH_take (i := 24) (v := .agg #[.int .i64 k0, .slice ad1 l1 cap1]) rfl (by kernel_rfl) (by kernel_rfl) (by kernel_rfl) (fun _ _ _ h => h) (yields_load 46 (.tmp 3) rfl (w.heap.size + 1) (by kernel_rfl) 46 _ _ (fun V hV => (HB4.out.below hV).g) Tryd.underlying46 rfl 2 Tryd.infoFrameN rfl (by kernel_rfl)) hS ?_
    simp only [List.getElem_toArray, List.getElem_cons_zero, List.getElem_cons_succ, Act.put, List.setIfInBounds_toArray, List.set_cons_zero, List.set_cons_succ]
    refine wpAnyH_ready (rs := [25]) (by kernel_rfl) (by simp) ?_
    refine AllReadyH.cons rfl (fun K' hK => ?_) AllReadyH.nil
    refine step_callE 20 #[.agg #[.int .i64 k0, .slice ad0 l0 cap0], .agg #[.int .i64 k0, .slice ad1 l1 cap1]] (by kernel_rfl) (by kernel_rfl) (HS2.out _ hS) (fun v2 u2 hR2 => ?_)
    obtain ⟨rfl, hb2⟩ := hR2
    refine hK.out _ _ (hS.trans (hb2.mono hS.size)) (fun hS => ?_)
    simp only [List.getElem_toArray, List.getElem_cons_zero, List.getElem_cons_succ, Act.put, List.setIfInBounds_toArray, List.set_cons_zero, List.set_cons_succ]
    refine wpAnyH_take (i := 27) (v := .bool true) rfl (by kernel_rfl) (by kernel_rfl) (by kernel_rfl) (fun _ _ _ h => h) (.inl ⟨by kernel_rfl, fun V hV => by have qq : (q == q) = true := (by simp); unfold execOp; go_simp⟩) hS ?_
    simp only [List.getElem_toArray, List.getElem_cons_zero, List.getElem_cons_succ, Act.put, List.setIfInBounds_toArray, List.set_cons_zero, List.set_cons_succ]
    refine wpAnyH_take (i := 28) (v := .bool true) rfl (by kernel_rfl) (by kernel_rfl) (by kernel_rfl) (fun _ _ _ h => h) (.inl ⟨by kernel_rfl, fun V hV => by unfold execOp; go_simp⟩) hS ?_
    simp only [List.getElem_toArray, List.getElem_cons_zero, List.getElem_cons_succ, Act.put, List.setIfInBounds_toArray, List.set_cons_zero, List.set_cons_succ]
    refine wpAnyH_take (i := 29) (v := .bool true) rfl (by kernel_rfl) (by kernel_rfl) (by kernel_rfl) (fun _ _ _ h => h) (.inl ⟨by kernel_rfl, fun V hV => by unfold execOp; go_simp⟩) hS ?_
    simp only [List.getElem_toArray, List.getElem_cons_zero, List.getElem_cons_succ, Act.put, List.setIfInBounds_toArray, List.set_cons_zero, List.set_cons_succ]
    refine wpAnyH_done (by kernel_rfl) ?_ _
    have HR := hid hS
    clear hK K' hS 
    go_wp2
    go_ret
    exact ⟨rfl, HB4.out.low.trans (HR.out.mono HB4.out.low.size)⟩
  · have e0 : (k0 == k1) = false := by simp [hk]
    simp only [e0, Bool.false_and] at HS2
    go_upto_region 12 with fail
    clear q1 q2
    obtain ⟨W, hW, hbW⟩ : ∃ W, W = w4.drew ∧ Below w4.heap.size w4 W := ⟨_, rfl, (Below.refl _ _).drew⟩
    refine wp_region_held_drew (S := fun V => Below w4.heap.size w4 V) (by kernel_rfl) (by rw [← hW]; exact hbW) (fun hS => ?_)
    rw [← hW] at hS ⊢
    clear hW hbW c0 c1 d0 d1
    change wpAnyH _ _ _ _ _ 30 #[false, false, false, false, false, false, false, false, false, false, false, false, false, false, false, false, false, false, false, false, false, false, false, false, false, false, false, false, false, false] _ _
    refine wpAnyH_take (i := 0) (v := .nilIface) rfl (by kernel_rfl) (by kernel_rfl) (by kernel_rfl) (fun _ _ _ h => h) (.inl ⟨by kernel_rfl, fun V hV => by unfold execOp; go_simp⟩) hS ?_
    simp only [List.getElem_toArray, List.getElem_cons_zero, List.getElem_cons_succ, Act.put, List.setIfInBounds_toArray, List.set_cons_zero, List.set_cons_succ]
    refine wpAnyH_take (i := 1) (v := .bool true) rfl (by kernel_rfl) (by kernel_rfl) (by kernel_rfl) (fun _ _ _ h => h) (.inl ⟨by kernel_rfl, fun V hV => by unfold execOp; go_simp⟩) hS ?_
    simp only [List.getElem_toArray, List.getElem_cons_zero, List.getElem_cons_succ, Act.put, List.setIfInBounds_toArray, List.set_cons_zero, List.set_cons_succ]
    refine wpAnyH_take (i := 2) (v := .bool true) rfl (by kernel_rfl) (by kernel_rfl) (by kernel_rfl) (fun _ _ _ h => h) (.inl ⟨by kernel_rfl, fun V hV => by unfold execOp; go_simp⟩) hS ?_
    simp only [List.getElem_toArray, List.getElem_cons_zero, List.getElem_cons_succ, Act.put, List.setIfInBounds_toArray, List.set_cons_zero, List.set_cons_succ]
    refine wpAnyH_take (i := 3) (v := .nilIface) rfl (by kernel_rfl) (by kernel_rfl) (by kernel_rfl) (fun _ _ _ h => h) (.inl ⟨by kernel_rfl, fun V hV => by unfold execOp; go_simp⟩) hS ?_
    simp only [List.getElem_toArray, List.getElem_cons_zero, List.getElem_cons_succ, Act.put, List.setIfInBounds_toArray, List.set_cons_zero, List.set_cons_succ]
    refine wpAnyH_take (i := 4) (v := .bool true) rfl (by kernel_rfl) (by kernel_rfl) (by kernel_rfl) (fun _ _ _ h => h) (.inl ⟨by kernel_rfl, fun V hV => by unfold execOp; go_simp⟩) hS ?_
    simp only [List.getElem_toArray, List.getElem_cons_zero, List.getElem_cons_succ, Act.put, List.setIfInBounds_toArray, List.set_cons_zero, List.set_cons_succ]
    refine wpAnyH_take (i := 5) (v := .bool true) rfl (by kernel_rfl) (by kernel_rfl) (by kernel_rfl) (fun _ _ _ h => h) (.inl ⟨by kernel_rfl, fun V hV => by unfold execOp; go_simp⟩) hS ?_
    simp only [List.getElem_toArray, List.getElem_cons_zero, List.getElem_cons_succ, Act.put, List.setIfInBounds_toArray, List.set_cons_zero, List.set_cons_succ]
    refine wpAnyH_take (i := 6) (v := .bool true) rfl (by kernel_rfl) (by kernel_rfl) (by kernel_rfl) (fun _ _ _ h => h) (.inl ⟨by kernel_rfl, fun V hV => by unfold execOp; go_simp⟩) hS ?_
    simp only [List.getElem_toArray, List.getElem_cons_zero, List.getElem_cons_succ, Act.put, List.setIfInBounds_toArray, List.set_cons_zero, List.set_cons_succ]
    refine wpAnyH_take (i := 7) (v := .int .i64 0) rfl (by kernel_rfl) (by kernel_rfl) (by kernel_rfl) (fun _ _ _ h => h) (.inl ⟨by kernel_rfl, fun V hV => by unfold execOp; go_simp⟩) hS ?_
    simp only [List.getElem_toArray, List.getElem_cons_zero, List.getElem_cons_succ, Act.put, List.setIfInBounds_toArray, List.set_cons_zero, List.set_cons_succ]
    refine wpAnyH_take (i := 8) (v := .bool true) rfl (by kernel_rfl) (by kernel_rfl) (by kernel_rfl) (fun _ _ _ h => h) (.inl ⟨by kernel_rfl, fun V hV => by unfold execOp; go_simp⟩) hS ?_
    simp only [List.getElem_toArray, List.getElem_cons_zero, List.getElem_cons_succ, Act.put, List.setIfInBounds_toArray, List.set_cons_zero, List.set_cons_succ]
    refine wpAnyH_take (i := 9) (v := .bool true) rfl (by kernel_rfl) (by kernel_rfl) (by kernel_rfl) (fun _ _ _ h => h) (.inl ⟨by kernel_rfl, fun V hV => by unfold execOp; go_simp⟩) hS ?_
    simp only [List.getElem_toArray, List.getElem_cons_zero, List.getElem_cons_succ, Act.put, List.setIfInBounds_toArray, List.set_cons_zero, List.set_cons_succ]
    refine wpAnyH_take (i := 10) (v := .bool true) rfl (by kernel_rfl) (by kernel_rfl) (by kernel_rfl) (fun _ _ _ h => h) (.inl ⟨by kernel_rfl, fun V hV => by unfold execOp; go_simp⟩) hS ?_
    simp only [List.getElem_toArray, List.getElem_cons_zero, List.getElem_cons_succ, Act.put, List.setIfInBounds_toArray, List.set_cons_zero, List.set_cons_succ]
    refine wpAnyH_take (i := 11) (v := .slice (some ⟨gv, 0, none⟩) 1 capv) rfl (by kernel_rfl) (by kernel_rfl) (by kernel_rfl) (fun _ _ _ h => h) (.inl ⟨by kernel_rfl, fun V hV => by unfold execOp; go_simp⟩) hS ?_
    simp only [List.getElem_toArray, List.getElem_cons_zero, List.getElem_cons_succ, Act.put, List.setIfInBounds_toArray, List.set_cons_zero, List.set_cons_succ]
    refine wpAnyH_take (i := 12) (v := .int .i64 1) rfl (by kernel_rfl) (by kernel_rfl) (by kernel_rfl) (fun _ _ _ h => h) (.inl ⟨by kernel_rfl, fun V hV => by unfold execOp; go_simp⟩) hS ?_
    simp only [List.getElem_toArray, List.getElem_cons_zero, List.getElem_cons_succ, Act.put, List.setIfInBounds_toArray, List.set_cons_zero, List.set_cons_succ]
    refine wpAnyH_take (i := 13) (v := .bool true) rfl (by kernel_rfl) (by kernel_rfl) (by kernel_rfl) (fun _ _ _ h => h) (.inl ⟨by kernel_rfl, fun V hV => by unfold execOp; go_simp⟩) hS ?_
    simp only [List.getElem_toArray, List.getElem_cons_zero, List.getElem_cons_succ, Act.put, List.setIfInBounds_toArray, List.set_cons_zero, List.set_cons_succ]
    refine wpAnyH_take (i := 14) (v := .bool true) rfl (by kernel_rfl) (by kernel_rfl) (by kernel_rfl) (fun _ _ _ h => h) (.inl ⟨by kernel_rfl, fun V hV => by unfold execOp; go_simp⟩) hS ?_
    simp only [List.getElem_toArray, List.getElem_cons_zero, List.getElem_cons_succ, Act.put, List.setIfInBounds_toArray, List.set_cons_zero, List.set_cons_succ]
    refine wpAnyH_take (i := 15) (v := .bool true) rfl (by kernel_rfl) (by kernel_rfl) (by kernel_rfl) (fun _ _ _ h => h) (.inl ⟨by kernel_rfl, fun V hV => by unfold execOp; go_simp⟩) hS ?_
    simp only [List.getElem_toArray, List.getElem_cons_zero, List.getElem_cons_succ, Act.put, List.setIfInBounds_toArray, List.set_cons_zero, List.set_cons_succ]
    refine wpAnyH_take (i := 16) (v := .slice (some ⟨gv, 0, none⟩) 1 capv) rfl (by kernel_rfl) (by kernel_rfl) (by kernel_rfl) (fun _ _ _ h => h) (.inl ⟨by kernel_rfl, fun V hV => by unfold execOp; go_simp⟩) hS ?_
    simp only [List.getElem_toArray, List.getElem_cons_zero, List.getElem_cons_succ, Act.put, List.setIfInBounds_toArray, List.set_cons_zero, List.set_cons_succ]
    refine wpAnyH_take (i := 17) (v := .pointer (some ⟨gv, 0, none⟩)) rfl (by kernel_rfl) (by kernel_rfl) (by kernel_rfl) (fun _ _ _ h => h) (.inl ⟨by kernel_rfl, fun V hV => by unfold execOp; go_simp⟩) hS ?_
    simp only [List.getElem_toArray, List.getElem_cons_zero, List.getElem_cons_succ, Act.put, List.setIfInBounds_toArray, List.set_cons_zero, List.set_cons_succ]
    refine wpAnyH_take (i := 18) (v := .agg #[.int .i64 k0, .slice adx l0 cx]) rfl (by kernel_rfl) (by kernel_rfl) (by kernel_rfl) (fun _ _ _ h => h) (yieldsIf_load_mid (by kernel_rfl) 46 (.tmp 93) rfl gv 0 (by kernel_rfl) [.int .i64 k0, .slice adx l0 cx] _ (fun V hV => (HG2.out V hV).1) Tryd.underlying46 rfl Tryd.infoFrameN) hS ?_
    simp only [List.getElem_toArray, List.getElem_cons_zero, List.getElem_cons_succ, Act.put, List.setIfInBounds_toArray, List.set_cons_zero, List.set_cons_succ]
    refine wpAnyH_take (i := 19) (v := .agg #[.int .i64 k0, .slice ad0 l0 cap0]) rfl (by kernel_rfl) (by kernel_rfl) (by kernel_rfl) (fun _ _ _ h => h) (yields_load 46 (.tmp 2) rfl w.heap.size (by kernel_rfl) 46 _ _ (fun V hV => (HB4.out.below hV).f) Tryd.underlying46 rfl 2 Tryd.infoFrameN rfl (by kernel_rfl)) hS ?_
    simp only [List.getElem_toArray, List.getElem_cons_zero, List.getElem_cons_succ, Act.put, List.setIfInBounds_toArray, List.set_cons_zero, List.set_cons_succ]
    refine wpAnyH_ready (rs := [20]) (by kernel_rfl) (by simp) ?_
    refine AllReadyH.cons rfl (fun K' hK => ?_) AllReadyH.nil
    refine step_callE 20 #[.agg #[.int .i64 k0, .slice adx l0 cx], .agg #[.int .i64 k0, .slice ad0 l0 cap0]] (by kernel_rfl) (by kernel_rfl) (HS1.out _ hS) (fun v1 u1 hR1 => ?_)
    obtain ⟨rfl, hb1⟩ := hR1
    refine hK.out _ _ (hS.trans (hb1.mono hS.size)) (fun hS => ?_)
    simp only [List.getElem_toArray, List.getElem_cons_zero, List.getElem_cons_succ, Act.put, List.setIfInBounds_toArray, List.set_cons_zero, List.set_cons_succ]
    refine wpAnyH_take (i := 21) (v := .bool true) rfl (by kernel_rfl) (by kernel_rfl) (by kernel_rfl) (fun _ _ _ h => h) (.inl ⟨by kernel_rfl, fun V hV => by unfold execOp; go_simp⟩) hS ?_
    simp only [List.getElem_toArray, List.getElem_cons_zero, List.getElem_cons_succ, Act.put, List.setIfInBounds_toArray, List.set_cons_zero, List.set_cons_succ]
    refine wpAnyH_take (i := 22) (v := .bool true) rfl (by kernel_rfl) (by kernel_rfl) (by kernel_rfl) (fun _ _ _ h => h) (.inl ⟨by kernel_rfl, fun V hV => by unfold execOp; go_simp⟩) hS ?_
    simp only [List.getElem_toArray, List.getElem_cons_zero, List.getElem_cons_succ, Act.put, List.setIfInBounds_toArray, List.set_cons_zero, List.set_cons_succ]
    refine wpAnyH_take (i := 26) (v := .bool false) rfl (by kernel_rfl) (by kernel_rfl) (by kernel_rfl) (fun _ _ _ h => h) (.inl ⟨by kernel_rfl, fun V hV => by unfold execOp; go_simp⟩) hS ?_
    simp only [List.getElem_toArray, List.getElem_cons_zero, List.getElem_cons_succ, Act.put, List.setIfInBounds_toArray, List.set_cons_zero, List.set_cons_succ]
    refine wpAnyH_take (i := 23) (v := .agg #[.int .i64 k0, .slice ad0 l0 cap0]) rfl (by kernel_rfl) (by kernel_rfl) (by kernel_rfl) (fun _ _ _ h => h) (yields_load 46 (.tmp 2) rfl w.heap.size (by kernel_rfl) 46 _ _ (fun V hV => (HB4.out.below hV).f) Tryd.underlying46 rfl 2 Tryd.infoFrameN rfl (by kernel_rfl)) hS ?_
    simp only [List.getElem_toArray, List.getElem_cons_zero, List.getElem_cons_succ, Act.put, List.setIfInBounds_toArray, List.set_cons_zero, List.set_cons_succ]
    refine wpAnyH_take (i := 24) (v := .agg #[.int .i64 k1, .slice ad1 l1 cap1]) rfl (by kernel_rfl) (by kernel_rfl) (by kernel_rfl) (fun _ _ _ h => h) (yields_load 46 (.tmp 3) rfl (w.heap.size + 1) (by kernel_rfl) 46 _ _ (fun V hV => (HB4.out.below hV).g) Tryd.underlying46 rfl 2 Tryd.infoFrameN rfl (by kernel_rfl)) hS ?_
    simp only [List.getElem_toArray, List.getElem_cons_zero, List.getElem_cons_succ, Act.put, List.setIfInBounds_toArray, List.set_cons_zero, List.set_cons_succ]
    refine wpAnyH_ready (rs := [25]) (by kernel_rfl) (by simp) ?_
    refine AllReadyH.cons rfl (fun K' hK => ?_) AllReadyH.nil
    refine step_callE 20 #[.agg #[.int .i64 k0, .slice ad0 l0 cap0], .agg #[.int .i64 k1, .slice ad1 l1 cap1]] (by kernel_rfl) (by kernel_rfl) (HS2.out _ hS) (fun v2 u2 hR2 => ?_)
    obtain ⟨rfl, hb2⟩ := hR2
    refine hK.out _ _ (hS.trans (hb2.mono hS.size)) (fun hS => ?_)
    simp only [List.getElem_toArray, List.getElem_cons_zero, List.getElem_cons_succ, Act.put, List.setIfInBounds_toArray, List.set_cons_zero, List.set_cons_succ]
    refine wpAnyH_take (i := 27) (v := .bool true) rfl (by kernel_rfl) (by kernel_rfl) (by kernel_rfl) (fun _ _ _ h => h) (.inl ⟨by kernel_rfl, fun V hV => by have qq : (q == q) = true := (by simp); unfold execOp; go_simp⟩) hS ?_
    simp only [List.getElem_toArray, List.getElem_cons_zero, List.getElem_cons_succ, Act.put, List.setIfInBounds_toArray, List.set_cons_zero, List.set_cons_succ]
    refine wpAnyH_take (i := 28) (v := .bool true) rfl (by kernel_rfl) (by kernel_rfl) (by kernel_rfl) (fun _ _ _ h => h) (.inl ⟨by kernel_rfl, fun V hV => by unfold execOp; go_simp⟩) hS ?_
    simp only [List.getElem_toArray, List.getElem_cons_zero, List.getElem_cons_succ, Act.put, List.setIfInBounds_toArray, List.set_cons_zero, List.set_cons_succ]
    refine wpAnyH_take (i := 29) (v := .bool true) rfl (by kernel_rfl) (by kernel_rfl) (by kernel_rfl) (fun _ _ _ h => h) (.inl ⟨by kernel_rfl, fun V hV => by unfold execOp; go_simp⟩) hS ?_
    simp only [List.getElem_toArray, List.getElem_cons_zero, List.getElem_cons_succ, Act.put, List.setIfInBounds_toArray, List.set_cons_zero, List.set_cons_succ]
    refine wpAnyH_done (by kernel_rfl) ?_ _
    have HR := hid hS
    clear hK K' hS 
    go_wp2
    go_ret
    exact ⟨rfl, HB4.out.low.trans (HR.out.mono HB4.out.low.size)⟩

theorem fbytes_any (m0 : Int) (bs0 : List Int) (ad0 : Option Addr) (cap0 : Nat) (m1 : Int) (bs1 : List Int) (ad1 : Option Addr) (cap1 : Nat) (hn0 : ad0 = none → bs0.length = 0 ∧ cap0 = 0) (hby0 : Byt bs0) (hI0 : Bys w.heap.size w ad0 bs0) (hI1 : Bys w.heap.size w ad1 bs1) (hE : Errs 18 a w) :
    Calls Tryd.prog 5 #[.agg #[.int .i64 m0, .slice ad0 bs0.length cap0], .agg #[.int .i64 m1, .slice ad1 bs1.length cap1]] w fun e w' => e = .returned (.bool true) ∧ Below w.heap.size w w' := by
  by_cases hm : 2000 < bs0.length ∨ 2000 < bs1.length
  · exact fby_long hm hI0 hI1 hE
  by_cases hk : m0 < 0 ∨ 255 < m0
  · exact fby_range (by omega) (by omega) hk hI0 hI1 hE
  by_cases hl : 1199 < bs0.length
  · exact fby_over (by omega) (by omega) (by omega) (by omega) hl hI0 hI1 hE
  · exact fby_good (by omega) (by omega) (by omega) (by omega) hby0 hn0 hI0 hI1 hE
end
end Go.Proofs.YtkpjdjenlmodnaaDoor
