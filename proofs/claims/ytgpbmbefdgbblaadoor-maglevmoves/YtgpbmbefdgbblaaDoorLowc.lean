/-
  maglev: what owners makes of a whole table tells whose a place is; At.
-/
import Derived.Test.YtgpbmbefdgbblaaDoorLmet
namespace Go.Proofs.YtgpbmbefdgbblaaDoor
open Go.RowKit Go.Lib

set_option linter.unusedSimpArgs false in
set_option linter.unusedVariables false in
set_option maxRecDepth 100000 in
set_option maxHeartbeats 8000000 in
theorem own2_is (m : Int) (bs : List PS) (L : List Int) (ab as' : Option Addr) (cb cs b : Nat) (k : Nat) (hL : (L.length : Int) = m) (hLm : L.length ≤ 100000) (hbm : bs.length ≤ 100000) (w : World) (hB : Blk w b 26 #[.int .i64 m, .slice ab bs.length cb, .slice as' L.length cs]) (hT : TabIn w.heap.size w ab as' bs L) (hk : (k : Int) < m) (hyes : 0 ≤ L.getD k 0 ∧ L.getD k 0 < bs.length) :
    Calls Tryd.prog 33 #[.int .i64 (k : Int), .pointer (some ⟨b, 0, none⟩)] w fun e w' => e = .returned (ansO (ownT m bs L k)) ∧ Below w.heap.size w w' := by
  obtain ⟨W0, hW0⟩ : ∃ W, W = w.alloc (.cells (encP pz) 36) := ⟨_, rfl⟩
  have hb0 : Below w.heap.size w W0 := hW0 ▸ (Below.refl _ _).alloc (Nat.le_refl _) _
  have hk0 : Blk W0 w.heap.size 36 (encP pz) := hW0 ▸ Blk.new w _ _
  have HW0 : Hid (w.alloc (.cells #[.bool false, .int .u8 0, .int .u8 0, .int .u8 0, .int .u8 0, .int .u8 0, .int .u8 0, .int .u8 0, .int .u8 0, .int .u8 0, .int .u8 0, .int .u8 0, .int .u8 0, .int .u8 0, .int .u8 0, .int .u8 0, .int .u8 0, .int .i64 0] 36) = W0) := hid (by rw [hW0, encP_pz])
  have HB0 := hid hb0
  have HK0 := hid hk0
  have HZ := hid (encP_size pz)
  have HZ1 := hid (encP_one pz)
  have hBW := hB.kept hb0
  have HBW := hid hBW
  have HS := hid (fun (who : Int) W => has_any m who ab as' bs.length cb L.length cs W)
  have C0 : Hid (∀ V, Below W0.heap.size W0 V → V.cell? ⟨b, 0, none⟩ = some (.int .i64 m)) := hid (fun V h => (HBW.out.kept h).cell 0)
  have C1 : Hid (∀ V, Below W0.heap.size W0 V → V.cell? ⟨b, 1, none⟩ = some (.slice ab bs.length cb)) := hid (fun V h => (HBW.out.kept h).cell 1)
  have C2 : Hid (∀ V, Below W0.heap.size W0 V → V.cell? ⟨b, 2, none⟩ = some (.slice as' L.length cs)) := hid (fun V h => (HBW.out.kept h).cell 2)
  have hS0 : Below W0.heap.size W0 W0.drew := below_drewN W0 1
  obtain ⟨gs, os, eas, hgs, hck⟩ := hT.ints k (by omega)
  subst eas
  obtain ⟨who, hwho⟩ : ∃ who, who = L.getD k 0 := ⟨_, rfl⟩
  rw [← hwho] at hck
  have CK : Hid (∀ V, Below W0.heap.size W0 V → V.cell? ⟨gs, os + k, none⟩ = some (.int .i64 who)) := hid (fun V h => ((hb0.trans (h.mono hb0.size)).cell (p := ⟨gs, os + k, none⟩) hgs).trans hck)
  have HS1 := hid (HS.out who)
  obtain ⟨q, hq⟩ : ∃ q, q = (decide (0 ≤ who) && decide (who < (bs.length : Int))) := ⟨_, rfl⟩
  rw [← hq] at HS1
  rw [← hwho] at hyes
  obtain ⟨h, rfl⟩ : ∃ h : Nat, who = (h : Int) := ⟨who.toNat, by omega⟩
  have hh : h < bs.length := by omega
  obtain ⟨gb, ob, eab, hgb, hrx⟩ := hT.els h hh
  subst eab
  obtain ⟨x, hx⟩ : ∃ x, x = bs[h] := ⟨_, rfl⟩
  rw [← hx] at hrx
  have HO : Hid (ownT m bs L k = some x) := hid (by
    unfold ownT
    rw [show ((k : Int)).toNat = k from rfl, ← hwho, if_pos ⟨by omega, hk, by omega, by omega⟩, Int.toNat_natCast, getElem!_pos bs h hh, ← hx])
  have hq0 : q = true := by
    rw [hq, Bool.and_eq_true, decide_eq_true_eq, decide_eq_true_eq]
    omega
  subst hq0
  have HX := hid (encP_size x)
  have HX1 := hid (encP_one x)
  have hlw := hBW.lt
  have hbl : b < w.heap.size := hB.lt
  -- what stays where only the answer's block is written
  have HOld : Hid (∀ V W1 : World, Below W0.heap.size W0 W1 → (V = W1.drew ∨ V = W1.drew.setRow w.heap.size (encP x)) → Below w.heap.size w V) := hid (fun V W1 h1 h2 => by
    rcases h2 with rfl | rfl
    · exact (bel2 hb0 h1).drew
    · exact below_setRow (bel2 hb0 h1).drew (Nat.le_refl _) _)
  have D1 : Hid (∀ V W1 : World, Below W0.heap.size W0 W1 → (V = W1.drew ∨ V = W1.drew.setRow w.heap.size (encP x)) → V.cell? ⟨b, 1, none⟩ = some (.slice (some ⟨gb, ob, none⟩) bs.length cb)) := hid (fun V W1 h1 h2 => (hB.kept (HOld.out V W1 h1 h2)).cell 1)
  have D2 : Hid (∀ V W1 : World, Below W0.heap.size W0 W1 → (V = W1.drew ∨ V = W1.drew.setRow w.heap.size (encP x)) → V.cell? ⟨b, 2, none⟩ = some (.slice (some ⟨gs, os, none⟩) L.length cs)) := hid (fun V W1 h1 h2 => (hB.kept (HOld.out V W1 h1 h2)).cell 2)
  have DK : Hid (∀ V W1 : World, Below W0.heap.size W0 W1 → (V = W1.drew ∨ V = W1.drew.setRow w.heap.size (encP x)) → V.cell? ⟨gs, os + k, none⟩ = some (.int .i64 (h : Int))) := hid (fun V W1 h1 h2 => ((HOld.out V W1 h1 h2).cell (p := ⟨gs, os + k, none⟩) hgs).trans hck)
  have DX : Hid (∀ V W1 : World, Below W0.heap.size W0 W1 → (V = W1.drew ∨ V = W1.drew.setRow w.heap.size (encP x)) → V.rangeAt gb (ob + h * 18) (encPL x)) := hid (fun V W1 h1 h2 => rangeAt_below (HOld.out V W1 h1 h2) hgb hrx)
  clear hq hwho hck hgs hgb hrx hx hW0 hb0 hk0 hBW hB hT HS hlw hyes
  go_enter Tryd.func33, Tryd.ntmps33
  go_upto_region 1 with fail
  rw [HW0.out]
  refine wp_region_held_drew (S := fun V => Below W0.heap.size W0 V) (by kernel_rfl) hS0 (fun hS => ?_)
  change wpAnyH _ _ _ _ _ 18 #[false, false, false, false, false, false, false, false, false, false, false, false, false, false, false, false, false, false] _ _
  refine wpAnyH_take (i := 0) (v := .int .i64 (k : Int)) rfl (by kernel_rfl) (by kernel_rfl) (by kernel_rfl) (fun _ _ _ h => h) (.inl ⟨by kernel_rfl, fun V hV => by unfold execOp; go_simp⟩) hS ?_
  simp only [List.getElem_toArray, List.getElem_cons_zero, List.getElem_cons_succ, Act.put, List.setIfInBounds_toArray, List.set_cons_zero, List.set_cons_succ]
  refine wpAnyH_take (i := 1) (v := .bool false) rfl (by kernel_rfl) (by kernel_rfl) (by kernel_rfl) (fun _ _ _ h => h) (.inl ⟨by kernel_rfl, fun V hV => by unfold execOp; go_simp⟩) hS ?_
  simp only [List.getElem_toArray, List.getElem_cons_zero, List.getElem_cons_succ, Act.put, List.setIfInBounds_toArray, List.set_cons_zero, List.set_cons_succ]
  refine wpAnyH_take (i := 2) (v := .bool false) rfl (by kernel_rfl) (by kernel_rfl) (by kernel_rfl) (fun _ _ _ h => h) (.inl ⟨by kernel_rfl, fun V hV => by unfold execOp; go_simp⟩) hS ?_
  simp only [List.getElem_toArray, List.getElem_cons_zero, List.getElem_cons_succ, Act.put, List.setIfInBounds_toArray, List.set_cons_zero, List.set_cons_succ]
  refine wpAnyH_take (i := 3) (v := .int .i64 (k : Int)) rfl (by kernel_rfl) (by kernel_rfl) (by kernel_rfl) (fun _ _ _ h => h) (.inl ⟨by kernel_rfl, fun V hV => by unfold execOp; go_simp⟩) hS ?_
  simp only [List.getElem_toArray, List.getElem_cons_zero, List.getElem_cons_succ, Act.put, List.setIfInBounds_toArray, List.set_cons_zero, List.set_cons_succ]
  refine wpAnyH_take (i := 4) (v := .pointer (some ⟨b, 0, none⟩)) rfl (by kernel_rfl) (by kernel_rfl) (by kernel_rfl) (fun _ _ _ h => h) (.inl ⟨by kernel_rfl, fun V hV => by unfold execOp; go_simp⟩) hS ?_
  simp only [List.getElem_toArray, List.getElem_cons_zero, List.getElem_cons_succ, Act.put, List.setIfInBounds_toArray, List.set_cons_zero, List.set_cons_succ]
  refine wpAnyH_take (i := 5) (v := .int .i64 m) rfl (by kernel_rfl) (by kernel_rfl) (by kernel_rfl) (fun _ _ _ h => h) (.inl ⟨by kernel_rfl, fun V hV => by unfold execOp; have c := C0.out V hV; go_simp⟩) hS ?_
  simp only [List.getElem_toArray, List.getElem_cons_zero, List.getElem_cons_succ, Act.put, List.setIfInBounds_toArray, List.set_cons_zero, List.set_cons_succ]
  refine wpAnyH_take (i := 6) (v := .bool false) rfl (by kernel_rfl) (by kernel_rfl) (by kernel_rfl) (fun _ _ _ h => h) (.inl ⟨by kernel_rfl, fun V hV => by unfold execOp; go_simp; try omega⟩) hS ?_
  simp only [List.getElem_toArray, List.getElem_cons_zero, List.getElem_cons_succ, Act.put, List.setIfInBounds_toArray, List.set_cons_zero, List.set_cons_succ]
  refine wpAnyH_take (i := 7) (v := .bool false) rfl (by kernel_rfl) (by kernel_rfl) (by kernel_rfl) (fun _ _ _ h => h) (.inl ⟨by kernel_rfl, fun V hV => by unfold execOp; go_simp⟩) hS ?_
  simp only [List.getElem_toArray, List.getElem_cons_zero, List.getElem_cons_succ, Act.put, List.setIfInBounds_toArray, List.set_cons_zero, List.set_cons_succ]
  refine wpAnyH_take (i := 8) (v := .bool false) rfl (by kernel_rfl) (by kernel_rfl) (by kernel_rfl) (fun _ _ _ h => h) (.inl ⟨by kernel_rfl, fun V hV => by unfold execOp; go_simp⟩) hS ?_
  simp only [List.getElem_toArray, List.getElem_cons_zero, List.getElem_cons_succ, Act.put, List.setIfInBounds_toArray, List.set_cons_zero, List.set_cons_succ]
  refine wpAnyH_take (i := 9) (v := .agg #[.int .i64 m, .slice (some ⟨gb, ob, none⟩) bs.length cb, .slice (some ⟨gs, os, none⟩) L.length cs]) rfl (by kernel_rfl) (by kernel_rfl) (by kernel_rfl) (fun _ _ _ h => h) (yields_load 26 (.tmp 1) rfl b rfl 26 _ _ (fun V h => HBW.out.kept h) Tryd.underlying26 rfl 3 Tryd.infoTable rfl (by kernel_rfl)) hS ?_
  simp only [List.getElem_toArray, List.getElem_cons_zero, List.getElem_cons_succ, Act.put, List.setIfInBounds_toArray, List.set_cons_zero, List.set_cons_succ]
  refine wpAnyH_take (i := 10) (v := .pointer (some ⟨b, 2, none⟩)) rfl (by kernel_rfl) (by kernel_rfl) (by kernel_rfl) (fun _ _ _ h => h) (.inl ⟨by kernel_rfl, fun V hV => by unfold execOp; go_simp⟩) hS ?_
  simp only [List.getElem_toArray, List.getElem_cons_zero, List.getElem_cons_succ, Act.put, List.setIfInBounds_toArray, List.set_cons_zero, List.set_cons_succ]
  refine wpAnyH_take (i := 11) (v := .slice (some ⟨gs, os, none⟩) L.length cs) rfl (by kernel_rfl) (by kernel_rfl) (by kernel_rfl) (fun _ _ _ h => h) (.inl ⟨by kernel_rfl, fun V hV => by unfold execOp; have c := C2.out V hV; go_simp⟩) hS ?_
  simp only [List.getElem_toArray, List.getElem_cons_zero, List.getElem_cons_succ, Act.put, List.setIfInBounds_toArray, List.set_cons_zero, List.set_cons_succ]
  refine wpAnyH_take (i := 12) (v := .int .i64 (k : Int)) rfl (by kernel_rfl) (by kernel_rfl) (by kernel_rfl) (fun _ _ _ h => h) (.inl ⟨by kernel_rfl, fun V hV => by unfold execOp; go_simp⟩) hS ?_
  simp only [List.getElem_toArray, List.getElem_cons_zero, List.getElem_cons_succ, Act.put, List.setIfInBounds_toArray, List.set_cons_zero, List.set_cons_succ]
  refine wpAnyH_take (i := 13) (v := .pointer (some ⟨gs, os + k, none⟩)) rfl (by kernel_rfl) (by kernel_rfl) (by kernel_rfl) (fun _ _ _ h => h) (.inl ⟨by kernel_rfl, fun V hV => by unfold execOp; go_simp; try (intro h; omega)⟩) hS ?_
  simp only [List.getElem_toArray, List.getElem_cons_zero, List.getElem_cons_succ, Act.put, List.setIfInBounds_toArray, List.set_cons_zero, List.set_cons_succ]
  refine wpAnyH_take (i := 14) (v := .int .i64 (h : Int)) rfl (by kernel_rfl) (by kernel_rfl) (by kernel_rfl) (fun _ _ _ h => h) (.inl ⟨by kernel_rfl, fun V hV => by unfold execOp; have c := CK.out V hV; go_simp⟩) hS ?_
  simp only [List.getElem_toArray, List.getElem_cons_zero, List.getElem_cons_succ, Act.put, List.setIfInBounds_toArray, List.set_cons_zero, List.set_cons_succ]
  refine wpAnyH_ready (rs := [15]) (by kernel_rfl) (by simp) ?_
  refine AllReadyH.cons rfl (fun K' hK => ?_) AllReadyH.nil
  rw [if_pos (by kernel_rfl)]
  refine op_call 21 #[.agg #[.int .i64 m, .slice (some ⟨gb, ob, none⟩) bs.length cb, .slice (some ⟨gs, os, none⟩) L.length cs], .int .i64 (h : Int)] (by kernel_rfl) (.bool true) (HS1.out _) (fun W1 hb1 => hK.out _ _ (hS.trans (hb1.mono hS.size)) (fun hS => ?_))
  simp only [List.getElem_toArray, List.getElem_cons_zero, List.getElem_cons_succ, Act.put, List.setIfInBounds_toArray, List.set_cons_zero, List.set_cons_succ]
  refine wpAnyH_take (i := 16) (v := .bool (!true)) rfl (by kernel_rfl) (by kernel_rfl) (by kernel_rfl) (fun _ _ _ h => h) (.inl ⟨by kernel_rfl, fun V hV => by unfold execOp; go_simp⟩) hS ?_
  simp only [List.getElem_toArray, List.getElem_cons_zero, List.getElem_cons_succ, Act.put, List.setIfInBounds_toArray, List.set_cons_zero, List.set_cons_succ]
  refine wpAnyH_take (i := 17) (v := .bool (!true)) rfl (by kernel_rfl) (by kernel_rfl) (by kernel_rfl) (fun _ _ _ h => h) (.inl ⟨by kernel_rfl, fun V hV => by unfold execOp; go_simp⟩) hS ?_
  simp only [List.getElem_toArray, List.getElem_cons_zero, List.getElem_cons_succ, Act.put, List.setIfInBounds_toArray, List.set_cons_zero, List.set_cons_succ]
  refine wpAnyH_done (by kernel_rfl) ?_ _
  have HB1 : Hid (Below w.heap.size w W1) := hid (bel2 HB0.out hS)
  have HK1 : Hid (Blk W1 w.heap.size 36 (encP pz)) := hid (HK0.out.kept hS)
  have H01 := hid hS
  clear hS
  go_upto_region 3 with fail
  have hS2 : Below W0.heap.size W0 W1.drew := bel2 H01.out (below_drewN W1 1)
  refine wp_region_held_drew (S := fun V => V = W1.drew ∨ V = W1.drew.setRow w.heap.size (encP x)) (by kernel_rfl) (.inl rfl) (fun hS => ?_)
  change wpAnyH _ _ _ _ _ 11 #[false, false, false, false, false, false, false, false, false, false, false] _ _
  refine wpAnyH_take (i := 0) (v := .pointer (some ⟨b, 1, none⟩)) rfl (by kernel_rfl) (by kernel_rfl) (by kernel_rfl) (fun _ _ _ h => h) (.inl ⟨by kernel_rfl, fun V hV => by unfold execOp; go_simp; try (intro h; omega)⟩) hS ?_
  simp only [List.getElem_toArray, List.getElem_cons_zero, List.getElem_cons_succ, Act.put, List.setIfInBounds_toArray, List.set_cons_zero, List.set_cons_succ]
  refine wpAnyH_take (i := 1) (v := .slice (some ⟨gb, ob, none⟩) bs.length cb) rfl (by kernel_rfl) (by kernel_rfl) (by kernel_rfl) (fun _ _ _ h => h) (.inl ⟨by kernel_rfl, fun V hV => by unfold execOp; have c := D1.out V _ H01.out hV; go_simp⟩) hS ?_
  simp only [List.getElem_toArray, List.getElem_cons_zero, List.getElem_cons_succ, Act.put, List.setIfInBounds_toArray, List.set_cons_zero, List.set_cons_succ]
  refine wpAnyH_take (i := 2) (v := .pointer (some ⟨b, 2, none⟩)) rfl (by kernel_rfl) (by kernel_rfl) (by kernel_rfl) (fun _ _ _ h => h) (.inl ⟨by kernel_rfl, fun V hV => by unfold execOp; go_simp; try (intro h; omega)⟩) hS ?_
  simp only [List.getElem_toArray, List.getElem_cons_zero, List.getElem_cons_succ, Act.put, List.setIfInBounds_toArray, List.set_cons_zero, List.set_cons_succ]
  refine wpAnyH_take (i := 3) (v := .slice (some ⟨gs, os, none⟩) L.length cs) rfl (by kernel_rfl) (by kernel_rfl) (by kernel_rfl) (fun _ _ _ h => h) (.inl ⟨by kernel_rfl, fun V hV => by unfold execOp; have c := D2.out V _ H01.out hV; go_simp⟩) hS ?_
  simp only [List.getElem_toArray, List.getElem_cons_zero, List.getElem_cons_succ, Act.put, List.setIfInBounds_toArray, List.set_cons_zero, List.set_cons_succ]
  refine wpAnyH_take (i := 4) (v := .int .i64 (k : Int)) rfl (by kernel_rfl) (by kernel_rfl) (by kernel_rfl) (fun _ _ _ h => h) (.inl ⟨by kernel_rfl, fun V hV => by unfold execOp; go_simp; try (intro h; omega)⟩) hS ?_
  simp only [List.getElem_toArray, List.getElem_cons_zero, List.getElem_cons_succ, Act.put, List.setIfInBounds_toArray, List.set_cons_zero, List.set_cons_succ]
  refine wpAnyH_take (i := 5) (v := .pointer (some ⟨gs, os + k, none⟩)) rfl (by kernel_rfl) (by kernel_rfl) (by kernel_rfl) (fun _ _ _ h => h) (.inl ⟨by kernel_rfl, fun V hV => by unfold execOp; go_simp; try (intro h; omega)⟩) hS ?_
  simp only [List.getElem_toArray, List.getElem_cons_zero, List.getElem_cons_succ, Act.put, List.setIfInBounds_toArray, List.set_cons_zero, List.set_cons_succ]
  refine wpAnyH_take (i := 6) (v := .int .i64 (h : Int)) rfl (by kernel_rfl) (by kernel_rfl) (by kernel_rfl) (fun _ _ _ h => h) (.inl ⟨by kernel_rfl, fun V hV => by unfold execOp; have c := DK.out V _ H01.out hV; go_simp⟩) hS ?_
  simp only [List.getElem_toArray, List.getElem_cons_zero, List.getElem_cons_succ, Act.put, List.setIfInBounds_toArray, List.set_cons_zero, List.set_cons_succ]
  refine wpAnyH_take (i := 7) (v := .pointer (some ⟨gb, ob + h * 18, none⟩)) rfl (by kernel_rfl) (by kernel_rfl) (by kernel_rfl) (fun _ _ _ h => h) (.inl ⟨by kernel_rfl, fun V hV => by unfold execOp; go_simp; try (intro h; omega)⟩) hS ?_
  simp only [List.getElem_toArray, List.getElem_cons_zero, List.getElem_cons_succ, Act.put, List.setIfInBounds_toArray, List.set_cons_zero, List.set_cons_succ]
  refine wpAnyH_take (i := 8) (v := .agg (encP x)) rfl (by kernel_rfl) (by kernel_rfl) (by kernel_rfl) (fun _ _ _ h => h) (yieldsIf_load_mid (by kernel_rfl) 36 (.tmp 31) rfl gb (ob + h * 18) rfl (encPL x) _ (fun V hV => DX.out V _ H01.out hV) Tryd.underlying36 rfl (encPL_info0 x)) hS ?_
  simp only [List.getElem_toArray, List.getElem_cons_zero, List.getElem_cons_succ, Act.put, List.setIfInBounds_toArray, List.set_cons_zero, List.set_cons_succ]
  refine wpAnyH_ready (rs := [9]) (by kernel_rfl) (by simp) ?_
  refine AllReadyH.cons rfl (fun K' hK => ?_) AllReadyH.nil
  refine step_store 36 _ _ rfl w.heap.size (encP x) rfl rfl 36 (encP pz) (HK1.out.kept (below_drewN W1 1)) 18 Tryd.infoPoint HX.out.symm HZ.out HX1.out (by kernel_rfl) (hK.out _ _ (.inr rfl) (fun hS => ?_))
  simp only [List.getElem_toArray, List.getElem_cons_zero, List.getElem_cons_succ, Act.put, List.setIfInBounds_toArray, List.set_cons_zero, List.set_cons_succ]
  refine wpAnyH_take (i := 10) (v := .bool true) rfl (by kernel_rfl) (by kernel_rfl) (by kernel_rfl) (fun _ _ _ h => h) (.inl ⟨by kernel_rfl, fun V hV => by unfold execOp; go_simp; try (intro h; omega)⟩) hS ?_
  simp only [List.getElem_toArray, List.getElem_cons_zero, List.getElem_cons_succ, Act.put, List.setIfInBounds_toArray, List.set_cons_zero, List.set_cons_succ]
  refine wpAnyH_done (by kernel_rfl) ?_ _
  clear hS
  go_wp2
  rw [HO.out]
  refine retA2 rfl w.heap.size rfl 36 _ _ (Blk.row (HK1.out.kept (below_drewN W1 1)) _) Tryd.underlying36 rfl 18 Tryd.infoPoint HX.out.symm rfl _ rfl ⟨rfl, below_setRow (HB1.out.drew) (Nat.le_refl _) _⟩

end Go.Proofs.YtgpbmbefdgbblaaDoor
