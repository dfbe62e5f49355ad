/-
  maglev: what owners makes of a whole table tells whose a place is; At.
-/
import Derived.Test.YtgpbmbefdgbblaaDoorLmet
namespace Go.Proofs.YtgpbmbefdgbblaaDoor
open Go.RowKit Go.Lib

set_option linter.unusedSimpArgs false in
set_option linter.unusedVariables false in
set_option maxRecDepth 100000 in
set_option maxHeartbeats 8000000 in
theorem own2_not (m : Int) (bs : List PS) (L : List Int) (ab as' : Option Addr) (cb cs b : Nat) (k : Nat) (hL : (L.length : Int) = m) (hLm : L.length ≤ 100000) (hbm : bs.length ≤ 100000) (w : World) (hB : Blk w b 26 #[.int .i64 m, .slice ab bs.length cb, .slice as' L.length cs]) (hT : TabIn w.heap.size w ab as' bs L) (hk : (k : Int) < m) (hno : ¬ (0 ≤ L.getD k 0 ∧ L.getD k 0 < bs.length)) :
    Calls Tryd.prog 33 #[.int .i64 (k : Int), .pointer (some ⟨b, 0, none⟩)] w fun e w' => e = .returned (ansO (ownT m bs L k)) ∧ Below w.heap.size w w' := by
  obtain ⟨W0, hW0⟩ : ∃ W, W = w.alloc (.cells (encP pz) 36) := ⟨_, rfl⟩
  have hb0 : Below w.heap.size w W0 := hW0 ▸ (Below.refl _ _).alloc (Nat.le_refl _) _
  have hk0 : Blk W0 w.heap.size 36 (encP pz) := hW0 ▸ Blk.new w _ _
  have HW0 : Hid (w.alloc (.cells #[.bool false, .int .u8 0, .int .u8 0, .int .u8 0, .int .u8 0, .int .u8 0, .int .u8 0, .int .u8 0, .int .u8 0, .int .u8 0, .int .u8 0, .int .u8 0, .int .u8 0, .int .u8 0, .int .u8 0, .int .u8 0, .int .u8 0, .int .i64 0] 36) = W0) := hid (by rw [hW0, encP_pz])
  have HB0 := hid hb0
  have HK0 := hid hk0
  have HZ := hid (encP_size pz)
  have HZ1 := hid (encP_one pz)
  have hBW := hB.kept hb0
  have HBW := hid hBW
  have HS := hid (fun (who : Int) W => has_any m who ab as' bs.length cb L.length cs W)
  have C0 : Hid (∀ V, Below W0.heap.size W0 V → V.cell? ⟨b, 0, none⟩ = some (.int .i64 m)) := hid (fun V h => (HBW.out.kept h).cell 0)
  have C1 : Hid (∀ V, Below W0.heap.size W0 V → V.cell? ⟨b, 1, none⟩ = some (.slice ab bs.length cb)) := hid (fun V h => (HBW.out.kept h).cell 1)
  have C2 : Hid (∀ V, Below W0.heap.size W0 V → V.cell? ⟨b, 2, none⟩ = some (.slice as' L.length cs)) := hid (fun V h => (HBW.out.kept h).cell 2)
  have hS0 : Below W0.heap.size W0 W0.drew := below_drewN W0 1
  obtain ⟨gs, os, eas, hgs, hck⟩ := hT.ints k (by omega)
  subst eas
  obtain ⟨who, hwho⟩ : ∃ who, who = L.getD k 0 := ⟨_, rfl⟩
  rw [← hwho] at hck
  have CK : Hid (∀ V, Below W0.heap.size W0 V → V.cell? ⟨gs, os + k, none⟩ = some (.int .i64 who)) := hid (fun V h => ((hb0.trans (h.mono hb0.size)).cell (p := ⟨gs, os + k, none⟩) hgs).trans hck)
  have HS1 := hid (HS.out who)
  obtain ⟨q, hq⟩ : ∃ q, q = (decide (0 ≤ who) && decide (who < (bs.length : Int))) := ⟨_, rfl⟩
  rw [← hq] at HS1
  have HO : Hid (ownT m bs L k = none) := hid (by unfold ownT; rw [if_neg]; rintro ⟨_, _, h1, h2⟩; exact hno ⟨h1, h2⟩)
  have hq0 : q = false := by
    rw [hq, Bool.and_eq_false_iff, decide_eq_false_iff_not, decide_eq_false_iff_not]
    rw [← hwho] at hno
    omega
  subst hq0
  clear hq hwho hno hck hgs hW0 hb0 hk0 hBW hB hT HS
  go_enter Tryd.func33, Tryd.ntmps33
  go_upto_region 1 with fail
  rw [HW0.out]
  refine wp_region_held_drew (S := fun V => Below W0.heap.size W0 V) (by kernel_rfl) hS0 (fun hS => ?_)
  change wpAnyH _ _ _ _ _ 18 #[false, false, false, false, false, false, false, false, false, false, false, false, false, false, false, false, false, false] _ _
  refine wpAnyH_take (i := 0) (v := .int .i64 (k : Int)) rfl (by kernel_rfl) (by kernel_rfl) (by kernel_rfl) (fun _ _ _ h => h) (.inl ⟨by kernel_rfl, fun V hV => by unfold execOp; go_simp⟩) hS ?_
  simp only [List.getElem_toArray, List.getElem_cons_zero, List.getElem_cons_succ, Act.put, List.setIfInBounds_toArray, List.set_cons_zero, List.set_cons_succ]
  refine wpAnyH_take (i := 1) (v := .bool false) rfl (by kernel_rfl) (by kernel_rfl) (by kernel_rfl) (fun _ _ _ h => h) (.inl ⟨by kernel_rfl, fun V hV => by unfold execOp; go_simp⟩) hS ?_
  simp only [List.getElem_toArray, List.getElem_cons_zero, List.getElem_cons_succ, Act.put, List.setIfInBounds_toArray, List.set_cons_zero, List.set_cons_succ]
  refine wpAnyH_take (i := 2) (v := .bool false) rfl (by kernel_rfl) (by kernel_rfl) (by kernel_rfl) (fun _ _ _ h => h) (.inl ⟨by kernel_rfl, fun V hV => by unfold execOp; go_simp⟩) hS ?_
  simp only [List.getElem_toArray, List.getElem_cons_zero, List.getElem_cons_succ, Act.put, List.setIfInBounds_toArray, List.set_cons_zero, List.set_cons_succ]
  refine wpAnyH_take (i := 3) (v := .int .i64 (k : Int)) rfl (by kernel_rfl) (by kernel_rfl) (by kernel_rfl) (fun _ _ _ h => h) (.inl ⟨by kernel_rfl, fun V hV => by unfold execOp; go_simp⟩) hS ?_
  simp only [List.getElem_toArray, List.getElem_cons_zero, List.getElem_cons_succ, Act.put, List.setIfInBounds_toArray, List.set_cons_zero, List.set_cons_succ]
  refine wpAnyH_take (i := 4) (v := .pointer (some ⟨b, 0, none⟩)) rfl (by kernel_rfl) (by kernel_rfl) (by kernel_rfl) (fun _ _ _ h => h) (.inl ⟨by kernel_rfl, fun V hV => by unfold execOp; go_simp⟩) hS ?_
  simp only [List.getElem_toArray, List.getElem_cons_zero, List.getElem_cons_succ, Act.put, List.setIfInBounds_toArray, List.set_cons_zero, List.set_cons_succ]
  refine wpAnyH_take (i := 5) (v := .int .i64 m) rfl (by kernel_rfl) (by kernel_rfl) (by kernel_rfl) (fun _ _ _ h => h) (.inl ⟨by kernel_rfl, fun V hV => by unfold execOp; have c := C0.out V hV; go_simp⟩) hS ?_
  simp only [List.getElem_toArray, List.getElem_cons_zero, List.getElem_cons_succ, Act.put, List.setIfInBounds_toArray, List.set_cons_zero, List.set_cons_succ]
  refine wpAnyH_take (i := 6) (v := .bool false) rfl (by kernel_rfl) (by kernel_rfl) (by kernel_rfl) (fun _ _ _ h => h) (.inl ⟨by kernel_rfl, fun V hV => by unfold execOp; go_simp; try omega⟩) hS ?_
  simp only [List.getElem_toArray, List.getElem_cons_zero, List.getElem_cons_succ, Act.put, List.setIfInBounds_toArray, List.set_cons_zero, List.set_cons_succ]
  refine wpAnyH_take (i := 7) (v := .bool false) rfl (by kernel_rfl) (by kernel_rfl) (by kernel_rfl) (fun _ _ _ h => h) (.inl ⟨by kernel_rfl, fun V hV => by unfold execOp; go_simp⟩) hS ?_
  simp only [List.getElem_toArray, List.getElem_cons_zero, List.getElem_cons_succ, Act.put, List.setIfInBounds_toArray, List.set_cons_zero, List.set_cons_succ]
  refine wpAnyH_take (i := 8) (v := .bool false) rfl (by kernel_rfl) (by kernel_rfl) (by kernel_rfl) (fun _ _ _ h => h) (.inl ⟨by kernel_rfl, fun V hV => by unfold execOp; go_simp⟩) hS ?_
  simp only [List.getElem_toArray, List.getElem_cons_zero, List.getElem_cons_succ, Act.put, List.setIfInBounds_toArray, List.set_cons_zero, List.set_cons_succ]
  refine wpAnyH_take (i := 9) (v := .agg #[.int .i64 m, .slice ab bs.length cb, .slice (some ⟨gs, os, none⟩) L.length cs]) rfl (by kernel_rfl) (by kernel_rfl) (by kernel_rfl) (fun _ _ _ h => h) (yields_load 26 (.tmp 1) rfl b rfl 26 _ _ (fun V h => HBW.out.kept h) Tryd.underlying26 rfl 3 Tryd.infoTable rfl (by kernel_rfl)) hS ?_
  simp only [List.getElem_toArray, List.getElem_cons_zero, List.getElem_cons_succ, Act.put, List.setIfInBounds_toArray, List.set_cons_zero, List.set_cons_succ]
  refine wpAnyH_take (i := 10) (v := .pointer (some ⟨b, 2, none⟩)) rfl (by kernel_rfl) (by kernel_rfl) (by kernel_rfl) (fun _ _ _ h => h) (.inl ⟨by kernel_rfl, fun V hV => by unfold execOp; go_simp⟩) hS ?_
  simp only [List.getElem_toArray, List.getElem_cons_zero, List.getElem_cons_succ, Act.put, List.setIfInBounds_toArray, List.set_cons_zero, List.set_cons_succ]
  refine wpAnyH_take (i := 11) (v := .slice (some ⟨gs, os, none⟩) L.length cs) rfl (by kernel_rfl) (by kernel_rfl) (by kernel_rfl) (fun _ _ _ h => h) (.inl ⟨by kernel_rfl, fun V hV => by unfold execOp; have c := C2.out V hV; go_simp⟩) hS ?_
  simp only [List.getElem_toArray, List.getElem_cons_zero, List.getElem_cons_succ, Act.put, List.setIfInBounds_toArray, List.set_cons_zero, List.set_cons_succ]
  refine wpAnyH_take (i := 12) (v := .int .i64 (k : Int)) rfl (by kernel_rfl) (by kernel_rfl) (by kernel_rfl) (fun _ _ _ h => h) (.inl ⟨by kernel_rfl, fun V hV => by unfold execOp; go_simp⟩) hS ?_
  simp only [List.getElem_toArray, List.getElem_cons_zero, List.getElem_cons_succ, Act.put, List.setIfInBounds_toArray, List.set_cons_zero, List.set_cons_succ]
  refine wpAnyH_take (i := 13) (v := .pointer (some ⟨gs, os + k, none⟩)) rfl (by kernel_rfl) (by kernel_rfl) (by kernel_rfl) (fun _ _ _ h => h) (.inl ⟨by kernel_rfl, fun V hV => by unfold execOp; go_simp; try (intro h; omega)⟩) hS ?_
  simp only [List.getElem_toArray, List.getElem_cons_zero, List.getElem_cons_succ, Act.put, List.setIfInBounds_toArray, List.set_cons_zero, List.set_cons_succ]
  refine wpAnyH_take (i := 14) (v := .int .i64 who) rfl (by kernel_rfl) (by kernel_rfl) (by kernel_rfl) (fun _ _ _ h => h) (.inl ⟨by kernel_rfl, fun V hV => by unfold execOp; have c := CK.out V hV; go_simp⟩) hS ?_
  simp only [List.getElem_toArray, List.getElem_cons_zero, List.getElem_cons_succ, Act.put, List.setIfInBounds_toArray, List.set_cons_zero, List.set_cons_succ]
  refine wpAnyH_ready (rs := [15]) (by kernel_rfl) (by simp) ?_
  refine AllReadyH.cons rfl (fun K' hK => ?_) AllReadyH.nil
  rw [if_pos (by kernel_rfl)]
  refine op_call 21 #[.agg #[.int .i64 m, .slice ab bs.length cb, .slice (some ⟨gs, os, none⟩) L.length cs], .int .i64 who] (by kernel_rfl) (.bool false) (HS1.out _) (fun W1 hb1 => hK.out _ _ (hS.trans (hb1.mono hS.size)) (fun hS => ?_))
  simp only [List.getElem_toArray, List.getElem_cons_zero, List.getElem_cons_succ, Act.put, List.setIfInBounds_toArray, List.set_cons_zero, List.set_cons_succ]
  refine wpAnyH_take (i := 16) (v := .bool (!false)) rfl (by kernel_rfl) (by kernel_rfl) (by kernel_rfl) (fun _ _ _ h => h) (.inl ⟨by kernel_rfl, fun V hV => by unfold execOp; go_simp⟩) hS ?_
  simp only [List.getElem_toArray, List.getElem_cons_zero, List.getElem_cons_succ, Act.put, List.setIfInBounds_toArray, List.set_cons_zero, List.set_cons_succ]
  refine wpAnyH_take (i := 17) (v := .bool (!false)) rfl (by kernel_rfl) (by kernel_rfl) (by kernel_rfl) (fun _ _ _ h => h) (.inl ⟨by kernel_rfl, fun V hV => by unfold execOp; go_simp⟩) hS ?_
  simp only [List.getElem_toArray, List.getElem_cons_zero, List.getElem_cons_succ, Act.put, List.setIfInBounds_toArray, List.set_cons_zero, List.set_cons_succ]
  refine wpAnyH_done (by kernel_rfl) ?_ _
  have HU : Hid (Blk W1 w.heap.size 36 (encP pz) ∧ Below w.heap.size w W1) := hid ⟨HK0.out.kept hS, bel2 HB0.out hS⟩
  clear hS
  go_wp2_with ((show wpList _ _ _ (⟨none, _, _, _, _, _⟩ :: _) _ _); go_must (refine wpl_store 36 (.tmp 3) (.tmp 23) rfl w.heap.size (encP pz) rfl rfl 36 _ (HU.out.1) 18 Tryd.infoPoint HZ.out.symm HZ.out HZ1.out rfl ?_))
  rw [HO.out]
  refine retA2 rfl w.heap.size rfl 36 _ _ (Blk.row HU.out.1 _) Tryd.underlying36 rfl 18 Tryd.infoPoint HZ.out.symm rfl _ rfl ⟨rfl, below_setRow HU.out.2 (Nat.le_refl _) _⟩

end Go.Proofs.YtgpbmbefdgbblaaDoor
