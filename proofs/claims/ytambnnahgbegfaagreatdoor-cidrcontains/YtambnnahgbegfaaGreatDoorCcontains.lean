/-
  The walk of the law CidrContains.
-/
import Derived.Test.YtambnnahgbegfaaGreatDoorCrcut
namespace Go.Proofs.YtambnnahgbegfaaGreatDoor
open Go.RowKit

theorem exec_neq_self {P : Program} {a : Act} {w : World} {o : Oper} (t t' : TypeId) (x y : Operand) (ho : o.op = .binOp .neq t x y t') (n : Int) (hx : a.eval x = .int .i64 n) (hy : a.eval y = .int .i64 n) :
    (execOp a.eval o).run P w = .ok (.value (.bool false)) w := by
  unfold execOp
  simp only [ho, hx, hy, eqGuard, binOp]
  simp [go_sem]
theorem exec_eql_cid {a : Act} {o : Oper} (x y : Operand) (ho : o.op = .binOp .eql 48 x y 48) (s : Bool) (b : List Int) (hl : b.length = 16) (n : Int) (hx : a.eval x = .agg (cid s b n)) (hy : a.eval y = .agg (cid s b n)) (w : World) :
    (execOp a.eval o).run Tryz.prog w = .ok (.value (.bool true)) w := by
  have h := eql_cid s s b b n n hl hl w
  rw [show ((s == s && b == b) && n == n) = true by simp] at h
  unfold execOp
  simp only [ho, hx, hy]
  simp [go_sem] at h ⊢
  first | exact h | simp [h]
theorem exec_lss {P : Program} {a : Act} {w : World} {o : Oper} (t t' : TypeId) (x y : Operand) (ho : o.op = .binOp .lss t x y t') (n m : Int) (hx : a.eval x = .int .i64 n) (hy : a.eval y = .int .i64 m) (b : Bool) (h : decide (n < m) = b) :
    (execOp a.eval o).run P w = .ok (.value (.bool b)) w := by
  subst h
  unfold execOp
  simp only [ho, hx, hy, eqGuard, binOp]
  simp [go_sem]
theorem exec_gtr {P : Program} {a : Act} {w : World} {o : Oper} (t t' : TypeId) (x y : Operand) (ho : o.op = .binOp .gtr t x y t') (n m : Int) (hx : a.eval x = .int .i64 n) (hy : a.eval y = .int .i64 m) (b : Bool) (h : decide (n > m) = b) :
    (execOp a.eval o).run P w = .ok (.value (.bool b)) w := by
  subst h
  unfold execOp
  simp only [ho, hx, hy, eqGuard, binOp]
  simp [go_sem]

set_option linter.unusedSimpArgs false in
set_option maxRecDepth 100000 in
set_option maxHeartbeats 8000000 in
theorem con_A (cs ds sa : Bool) (cb db ab : List Int) (hlc : cb.length = 16) (hld : db.length = 16) (hla : ab.length = 16) (n m : Int) (K V : Bool) (M : Int) (E EA ER : Value) (w : World) (hE : Env E w) (hE3 : Env3 EA ER w)
    (c0 : ∀ w, Env E w → Env3 EA ER w → Calls Tryz.prog 23 #[] w fun e w' => e = .returned (.bool true) ∧ Below w.heap.size w w')
    (c1 : ∀ w, Env3 EA ER w → Calls Tryz.prog 30 #[.agg (cid cs cb n), .agg (adr sa ab)] w fun e w' => e = .returned (.bool K) ∧ Below w.heap.size w w')
    (c2 : ∀ w, Calls Tryz.prog 31 #[.agg (cid cs cb n), .agg (adr sa ab)] w fun e w' => e = .returned (.bool K) ∧ Below w.heap.size w w')
    (c3 : ∀ w, Env3 EA ER w → Calls Tryz.prog 32 #[.agg (cid cs cb n), .agg (cid ds db m)] w fun e w' => e = .returned (.bool V) ∧ Below w.heap.size w w')
    (c4 : ∀ w, Calls Tryz.prog 33 #[.agg (cid cs cb n), .agg (cid ds db m)] w fun e w' => e = .returned (.bool V) ∧ Below w.heap.size w w')
    (c5 : ∀ w, Calls Tryz.prog 34 #[.agg (cid cs cb n), .agg (cid ds db m)] w fun e w' => e = .returned (.int .i64 M) ∧ Below w.heap.size w w')
    (c6 : ∀ w, Calls Tryz.prog 35 #[.agg (cid cs cb n), .agg (cid ds db m)] w fun e w' => e = .returned (.int .i64 M) ∧ Below w.heap.size w w')
    (c7 : ∀ w, Env3 EA ER w → Calls Tryz.prog 36 #[.agg (adr sa ab), .int .i64 n] w fun e w' => e = .returned (.tuple #[.agg (cid false z16 0), EA]) ∧ Below w.heap.size w w')
    (c8 : ∀ w, Calls Tryz.prog 16 #[.agg (adr sa ab)] w fun e w' => e = .returned (.bool false) ∧ Below w.heap.size w w')
    (cN : ∀ w', Below w.heap.size w w' → Calls Tryz.prog 15 #[EA] w' fun e w2 => e = .returned (.int .i64 8) ∧ Below w'.heap.size w' w2) :
    Calls Tryz.prog 5 #[.agg (cid cs cb n), .agg (cid ds db m), .agg (adr sa ab)] w fun e w' => e = .returned (.bool true) ∧ Below w.heap.size w w' := by
  obtain ⟨W0, hW0⟩ : ∃ W, W = w.alloc (.cells (cid cs cb n) 48) := ⟨_, rfl⟩
  obtain ⟨W1, hW1⟩ : ∃ W, W = W0.alloc (.cells (cid ds db m) 48) := ⟨_, rfl⟩
  obtain ⟨W2, hW2⟩ : ∃ W, W = W1.alloc (.cells (adr sa ab) 24) := ⟨_, rfl⟩
  have hB0 : Blk W0 w.heap.size 48 (cid cs cb n) := hW0 ▸ Blk.new w _ _
  have hb0 : Below w.heap.size w W0 := hW0 ▸ (Below.refl _ _).alloc (Nat.le_refl _) _
  have hs0 : W0.heap.size = w.heap.size + 1 := by rw [hW0]; simp
  have hb1 : Below W0.heap.size W0 W1 := hW1 ▸ (Below.refl _ _).alloc (Nat.le_refl _) _
  have hB1 : Blk W1 (w.heap.size + 1) 48 (cid ds db m) := by rw [← hs0]; exact hW1 ▸ Blk.new W0 _ _
  have hs1 : W1.heap.size = w.heap.size + 1 + 1 := by rw [hW1]; simp [hs0]
  have hb2 : Below W1.heap.size W1 W2 := hW2 ▸ (Below.refl _ _).alloc (Nat.le_refl _) _
  have hB2 : Blk W2 (w.heap.size + 1 + 1) 24 (adr sa ab) := by rw [← hs1]; exact hW2 ▸ Blk.new W1 _ _
  have HW0 := Lib.hid hW0.symm
  have HW1 := Lib.hid hW1.symm
  have HW2 := Lib.hid hW2.symm
  have Hb : Hid (Below w.heap.size w W2) := Lib.hid (bel2 (bel2 hb0 hb1) hb2)
  have H2 : Hid (Blk W2 (w.heap.size) 48 (cid cs cb n) ∧ Blk W2 (w.heap.size + 1) 48 (cid ds db m) ∧ Blk W2 (w.heap.size + 1 + 1) 24 (adr sa ab) ∧ Env3 EA ER W2 ∧ Below w.heap.size w W2) := Lib.hid ⟨(hB0.kept hb1).kept hb2, hB1.kept hb2, hB2, hE3.kept Hb.out, Hb.out⟩
  have HE := Lib.hid (hE.kept Hb.out)
  have LC := Lib.hid hlc
  have L18c : Hid (18 = (cid cs cb n).size) := Lib.hid (by rw [cid_size, hlc])
  have L18d : Hid (18 = (cid ds db m).size) := Lib.hid (by rw [cid_size, hld])
  have L17 : Hid (17 = (adr sa ab).size) := Lib.hid (by rw [adr_size, hla])
  have C0 := Lib.hid c0
  have C1 := Lib.hid c1
  have C2 := Lib.hid c2
  have C3 := Lib.hid c3
  have C4 := Lib.hid c4
  have C5 := Lib.hid c5
  have C6 := Lib.hid c6
  have C7 := Lib.hid c7
  have C8 := Lib.hid c8
  have CN := Lib.hid cN
  have L18o : Hid (18 = (cid false z16 0).size) := Lib.hid rfl
  have hq : ∀ w, (binOp .eql 48 (.agg (cid false z16 0)) (.agg #[.bool false, .int .u8 0, .int .u8 0, .int .u8 0, .int .u8 0, .int .u8 0, .int .u8 0, .int .u8 0, .int .u8 0, .int .u8 0, .int .u8 0, .int .u8 0, .int .u8 0, .int .u8 0, .int .u8 0, .int .u8 0, .int .u8 0, .int .i64 0])).run Tryz.prog w = .ok (.bool true) w := fun w => eql_cid false false z16 z16 0 0 rfl rfl w
  clear hW0 hW1 hW2 hB0 hb0 hb1 hB1 hb2 hB2 hs0 hs1 hlc hld hla hE hE3 c0 c1 c2 c3 c4 c5 c6 c7 c8 cN
  go_enter Tryz.func5, Tryz.ntmps5
  go_upto_region 1 with fail
  rw [HW0.out]
  rw [HW1.out]
  rw [HW2.out]
  go_wp2_with fail
  refine (C0.out W2 HE.out H2.out.2.2.2.1).mono ?_
  rintro e w1 ⟨rfl, hb1⟩
  have hS0 : Blk w1.drew (w.heap.size) 48 (cid cs cb n) ∧ Blk w1.drew (w.heap.size + 1) 48 (cid ds db m) ∧ Blk w1.drew (w.heap.size + 1 + 1) 24 (adr sa ab) ∧ Env3 EA ER w1.drew ∧ Below w.heap.size w w1.drew := by
    obtain ⟨h1, h2, h3, h4, h5⟩ := H2.out
    have hbd := bel2 hb1 (below_drewN w1 1)
    exact ⟨h1.kept hbd, h2.kept hbd, h3.kept hbd, h4.kept hbd, bel2 h5 hbd⟩
  clear hb1 H2 C0
  go_wp2_with fail
  refine wp_region_held_drew (S := fun w' => Blk w' (w.heap.size) 48 (cid cs cb n) ∧ Blk w' (w.heap.size + 1) 48 (cid ds db m) ∧ Blk w' (w.heap.size + 1 + 1) 24 (adr sa ab) ∧ Env3 EA ER w' ∧ Below w.heap.size w w') (by kernel_rfl) hS0 (fun hS => ?_)
  change wpAnyH _ _ _ _ _ 25 #[false, false, false, false, false, false, false, false, false, false, false, false, false, false, false, false, false, false, false, false, false, false, false, false, false] _ _
  refine wpAnyH_take (i := 0) (v := .agg (cid cs cb n)) rfl (by kernel_rfl) (by kernel_rfl) (by kernel_rfl) (fun _ _ _ h => h) (yields_load 48 (.tmp 3) rfl (w.heap.size) (by kernel_rfl) _ _ _ (fun w h => h.1) Tryz.underlying48 rfl 18 Tryz.infoCidr L18c.out (by kernel_rfl)) hS ?_
  simp only [List.getElem_toArray, List.getElem_cons_zero, List.getElem_cons_succ, Act.put, List.setIfInBounds_toArray, List.set_cons_zero, List.set_cons_succ]
  refine wpAnyH_take (i := 1) (v := .agg (adr sa ab)) rfl (by kernel_rfl) (by kernel_rfl) (by kernel_rfl) (fun _ _ _ h => h) (yields_load 24 (.tmp 5) rfl (w.heap.size + 1 + 1) (by kernel_rfl) _ _ _ (fun w h => h.2.2.1) Tryz.underlying24 rfl 17 Tryz.infoAddr L17.out (by kernel_rfl)) hS ?_
  simp only [List.getElem_toArray, List.getElem_cons_zero, List.getElem_cons_succ, Act.put, List.setIfInBounds_toArray, List.set_cons_zero, List.set_cons_succ]
  refine wpAnyH_take (i := 3) (v := .agg (cid cs cb n)) rfl (by kernel_rfl) (by kernel_rfl) (by kernel_rfl) (fun _ _ _ h => h) (yields_load 48 (.tmp 3) rfl (w.heap.size) (by kernel_rfl) _ _ _ (fun w h => h.1) Tryz.underlying48 rfl 18 Tryz.infoCidr L18c.out (by kernel_rfl)) hS ?_
  simp only [List.getElem_toArray, List.getElem_cons_zero, List.getElem_cons_succ, Act.put, List.setIfInBounds_toArray, List.set_cons_zero, List.set_cons_succ]
  refine wpAnyH_take (i := 4) (v := .agg (adr sa ab)) rfl (by kernel_rfl) (by kernel_rfl) (by kernel_rfl) (fun _ _ _ h => h) (yields_load 24 (.tmp 5) rfl (w.heap.size + 1 + 1) (by kernel_rfl) _ _ _ (fun w h => h.2.2.1) Tryz.underlying24 rfl 17 Tryz.infoAddr L17.out (by kernel_rfl)) hS ?_
  simp only [List.getElem_toArray, List.getElem_cons_zero, List.getElem_cons_succ, Act.put, List.setIfInBounds_toArray, List.set_cons_zero, List.set_cons_succ]
  refine wpAnyH_ready (rs := [2]) (by kernel_rfl) (by simp) ?_
  refine AllReadyH.cons rfl (fun K' hK => ?_) AllReadyH.nil
  refine step_call 30 #[.agg (cid cs cb n), .agg (adr sa ab)] (by kernel_rfl) (by kernel_rfl) (.bool K) (C1.out _ hS.2.2.2.1) (fun w2 hb2 => hK.out _ _ (⟨hS.1.kept hb2, hS.2.1.kept hb2, hS.2.2.1.kept hb2, hS.2.2.2.1.kept hb2, bel2 hS.2.2.2.2 hb2⟩) (fun hS => ?_))
  simp only [List.getElem_toArray, List.getElem_cons_zero, List.getElem_cons_succ, Act.put, List.setIfInBounds_toArray, List.set_cons_zero, List.set_cons_succ]
  refine wpAnyH_ready (rs := [5]) (by kernel_rfl) (by simp) ?_
  refine AllReadyH.cons rfl (fun K' hK => ?_) AllReadyH.nil
  refine step_call 31 #[.agg (cid cs cb n), .agg (adr sa ab)] (by kernel_rfl) (by kernel_rfl) (.bool K) (C2.out _) (fun w3 hb3 => hK.out _ _ (⟨hS.1.kept hb3, hS.2.1.kept hb3, hS.2.2.1.kept hb3, hS.2.2.2.1.kept hb3, bel2 hS.2.2.2.2 hb3⟩) (fun hS => ?_))
  simp only [List.getElem_toArray, List.getElem_cons_zero, List.getElem_cons_succ, Act.put, List.setIfInBounds_toArray, List.set_cons_zero, List.set_cons_succ]
  refine wpAnyH_take (i := 6) (v := .bool false) rfl (by kernel_rfl) (by kernel_rfl) (by kernel_rfl) (fun _ _ _ h => h) (.inl ⟨by kernel_rfl, fun w _ => by cases K <;> kernel_rfl⟩) hS ?_
  simp only [List.getElem_toArray, List.getElem_cons_zero, List.getElem_cons_succ, Act.put, List.setIfInBounds_toArray, List.set_cons_zero, List.set_cons_succ]
  refine wpAnyH_take (i := 7) (v := .bool false) rfl (by kernel_rfl) (by kernel_rfl) (by kernel_rfl) (fun _ _ _ h => h) (.inl ⟨by kernel_rfl, fun w _ => by kernel_rfl⟩) hS ?_
  simp only [List.getElem_toArray, List.getElem_cons_zero, List.getElem_cons_succ, Act.put, List.setIfInBounds_toArray, List.set_cons_zero, List.set_cons_succ]
  refine wpAnyH_take (i := 8) (v := .agg (cid cs cb n)) rfl (by kernel_rfl) (by kernel_rfl) (by kernel_rfl) (fun _ _ _ h => h) (yields_load 48 (.tmp 3) rfl (w.heap.size) (by kernel_rfl) _ _ _ (fun w h => h.1) Tryz.underlying48 rfl 18 Tryz.infoCidr L18c.out (by kernel_rfl)) hS ?_
  simp only [List.getElem_toArray, List.getElem_cons_zero, List.getElem_cons_succ, Act.put, List.setIfInBounds_toArray, List.set_cons_zero, List.set_cons_succ]
  refine wpAnyH_take (i := 9) (v := .agg (cid ds db m)) rfl (by kernel_rfl) (by kernel_rfl) (by kernel_rfl) (fun _ _ _ h => h) (yields_load 48 (.tmp 4) rfl (w.heap.size + 1) (by kernel_rfl) _ _ _ (fun w h => h.2.1) Tryz.underlying48 rfl 18 Tryz.infoCidr L18d.out (by kernel_rfl)) hS ?_
  simp only [List.getElem_toArray, List.getElem_cons_zero, List.getElem_cons_succ, Act.put, List.setIfInBounds_toArray, List.set_cons_zero, List.set_cons_succ]
  refine wpAnyH_take (i := 11) (v := .agg (cid cs cb n)) rfl (by kernel_rfl) (by kernel_rfl) (by kernel_rfl) (fun _ _ _ h => h) (yields_load 48 (.tmp 3) rfl (w.heap.size) (by kernel_rfl) _ _ _ (fun w h => h.1) Tryz.underlying48 rfl 18 Tryz.infoCidr L18c.out (by kernel_rfl)) hS ?_
  simp only [List.getElem_toArray, List.getElem_cons_zero, List.getElem_cons_succ, Act.put, List.setIfInBounds_toArray, List.set_cons_zero, List.set_cons_succ]
  refine wpAnyH_take (i := 12) (v := .agg (cid ds db m)) rfl (by kernel_rfl) (by kernel_rfl) (by kernel_rfl) (fun _ _ _ h => h) (yields_load 48 (.tmp 4) rfl (w.heap.size + 1) (by kernel_rfl) _ _ _ (fun w h => h.2.1) Tryz.underlying48 rfl 18 Tryz.infoCidr L18d.out (by kernel_rfl)) hS ?_
  simp only [List.getElem_toArray, List.getElem_cons_zero, List.getElem_cons_succ, Act.put, List.setIfInBounds_toArray, List.set_cons_zero, List.set_cons_succ]
  refine wpAnyH_ready (rs := [10]) (by kernel_rfl) (by simp) ?_
  refine AllReadyH.cons rfl (fun K' hK => ?_) AllReadyH.nil
  rw [if_pos (by kernel_rfl)]
  refine op_call2 32 #[.agg (cid cs cb n), .agg (cid ds db m)] (by kernel_rfl) (.bool V) (C3.out _ hS.2.2.2.1) (fun w4 hb4 => hK.out _ _ (⟨hS.1.kept hb4, hS.2.1.kept hb4, hS.2.2.1.kept hb4, hS.2.2.2.1.kept hb4, bel2 hS.2.2.2.2 hb4⟩) (fun hS => ?_))
  simp only [List.getElem_toArray, List.getElem_cons_zero, List.getElem_cons_succ, Act.put, List.setIfInBounds_toArray, List.set_cons_zero, List.set_cons_succ]
  refine wpAnyH_ready (rs := [13]) (by kernel_rfl) (by simp) ?_
  refine AllReadyH.cons rfl (fun K' hK => ?_) AllReadyH.nil
  rw [if_pos (by kernel_rfl)]
  refine op_call2 33 #[.agg (cid cs cb n), .agg (cid ds db m)] (by kernel_rfl) (.bool V) (C4.out _) (fun w5 hb5 => hK.out _ _ (⟨hS.1.kept hb5, hS.2.1.kept hb5, hS.2.2.1.kept hb5, hS.2.2.2.1.kept hb5, bel2 hS.2.2.2.2 hb5⟩) (fun hS => ?_))
  simp only [List.getElem_toArray, List.getElem_cons_zero, List.getElem_cons_succ, Act.put, List.setIfInBounds_toArray, List.set_cons_zero, List.set_cons_succ]
  refine wpAnyH_take (i := 14) (v := .bool false) rfl (by kernel_rfl) (by kernel_rfl) (by kernel_rfl) (fun _ _ _ h => h) (.inl ⟨by kernel_rfl, fun w _ => by cases V <;> kernel_rfl⟩) hS ?_
  simp only [List.getElem_toArray, List.getElem_cons_zero, List.getElem_cons_succ, Act.put, List.setIfInBounds_toArray, List.set_cons_zero, List.set_cons_succ]
  refine wpAnyH_take (i := 15) (v := .bool false) rfl (by kernel_rfl) (by kernel_rfl) (by kernel_rfl) (fun _ _ _ h => h) (.inl ⟨by kernel_rfl, fun w _ => by kernel_rfl⟩) hS ?_
  simp only [List.getElem_toArray, List.getElem_cons_zero, List.getElem_cons_succ, Act.put, List.setIfInBounds_toArray, List.set_cons_zero, List.set_cons_succ]
  refine wpAnyH_take (i := 16) (v := .bool false) rfl (by kernel_rfl) (by kernel_rfl) (by kernel_rfl) (fun _ _ _ h => h) (.inl ⟨by kernel_rfl, fun w _ => by kernel_rfl⟩) hS ?_
  simp only [List.getElem_toArray, List.getElem_cons_zero, List.getElem_cons_succ, Act.put, List.setIfInBounds_toArray, List.set_cons_zero, List.set_cons_succ]
  refine wpAnyH_take (i := 17) (v := .agg (cid cs cb n)) rfl (by kernel_rfl) (by kernel_rfl) (by kernel_rfl) (fun _ _ _ h => h) (yields_load 48 (.tmp 3) rfl (w.heap.size) (by kernel_rfl) _ _ _ (fun w h => h.1) Tryz.underlying48 rfl 18 Tryz.infoCidr L18c.out (by kernel_rfl)) hS ?_
  simp only [List.getElem_toArray, List.getElem_cons_zero, List.getElem_cons_succ, Act.put, List.setIfInBounds_toArray, List.set_cons_zero, List.set_cons_succ]
  refine wpAnyH_take (i := 18) (v := .agg (cid ds db m)) rfl (by kernel_rfl) (by kernel_rfl) (by kernel_rfl) (fun _ _ _ h => h) (yields_load 48 (.tmp 4) rfl (w.heap.size + 1) (by kernel_rfl) _ _ _ (fun w h => h.2.1) Tryz.underlying48 rfl 18 Tryz.infoCidr L18d.out (by kernel_rfl)) hS ?_
  simp only [List.getElem_toArray, List.getElem_cons_zero, List.getElem_cons_succ, Act.put, List.setIfInBounds_toArray, List.set_cons_zero, List.set_cons_succ]
  refine wpAnyH_take (i := 20) (v := .agg (cid cs cb n)) rfl (by kernel_rfl) (by kernel_rfl) (by kernel_rfl) (fun _ _ _ h => h) (yields_load 48 (.tmp 3) rfl (w.heap.size) (by kernel_rfl) _ _ _ (fun w h => h.1) Tryz.underlying48 rfl 18 Tryz.infoCidr L18c.out (by kernel_rfl)) hS ?_
  simp only [List.getElem_toArray, List.getElem_cons_zero, List.getElem_cons_succ, Act.put, List.setIfInBounds_toArray, List.set_cons_zero, List.set_cons_succ]
  refine wpAnyH_take (i := 21) (v := .agg (cid ds db m)) rfl (by kernel_rfl) (by kernel_rfl) (by kernel_rfl) (fun _ _ _ h => h) (yields_load 48 (.tmp 4) rfl (w.heap.size + 1) (by kernel_rfl) _ _ _ (fun w h => h.2.1) Tryz.underlying48 rfl 18 Tryz.infoCidr L18d.out (by kernel_rfl)) hS ?_
  simp only [List.getElem_toArray, List.getElem_cons_zero, List.getElem_cons_succ, Act.put, List.setIfInBounds_toArray, List.set_cons_zero, List.set_cons_succ]
  refine wpAnyH_ready (rs := [19]) (by kernel_rfl) (by simp) ?_
  refine AllReadyH.cons rfl (fun K' hK => ?_) AllReadyH.nil
  rw [if_pos (by kernel_rfl)]
  refine op_call2 34 #[.agg (cid cs cb n), .agg (cid ds db m)] (by kernel_rfl) (.int .i64 M) (C5.out _) (fun w6 hb6 => hK.out _ _ (⟨hS.1.kept hb6, hS.2.1.kept hb6, hS.2.2.1.kept hb6, hS.2.2.2.1.kept hb6, bel2 hS.2.2.2.2 hb6⟩) (fun hS => ?_))
  simp only [List.getElem_toArray, List.getElem_cons_zero, List.getElem_cons_succ, Act.put, List.setIfInBounds_toArray, List.set_cons_zero, List.set_cons_succ]
  refine wpAnyH_ready (rs := [22]) (by kernel_rfl) (by simp) ?_
  refine AllReadyH.cons rfl (fun K' hK => ?_) AllReadyH.nil
  rw [if_pos (by kernel_rfl)]
  refine op_call2 35 #[.agg (cid cs cb n), .agg (cid ds db m)] (by kernel_rfl) (.int .i64 M) (C6.out _) (fun w7 hb7 => hK.out _ _ (⟨hS.1.kept hb7, hS.2.1.kept hb7, hS.2.2.1.kept hb7, hS.2.2.2.1.kept hb7, bel2 hS.2.2.2.2 hb7⟩) (fun hS => ?_))
  simp only [List.getElem_toArray, List.getElem_cons_zero, List.getElem_cons_succ, Act.put, List.setIfInBounds_toArray, List.set_cons_zero, List.set_cons_succ]
  refine wpAnyH_take (i := 23) (v := .bool false) rfl (by kernel_rfl) (by kernel_rfl) (by kernel_rfl) (fun _ _ _ h => h) (.inl ⟨by kernel_rfl, fun w _ => exec_neq_self 3 3 (.tmp 30) (.tmp 33) rfl M (by kernel_rfl) (by kernel_rfl)⟩) hS ?_
  simp only [List.getElem_toArray, List.getElem_cons_zero, List.getElem_cons_succ, Act.put, List.setIfInBounds_toArray, List.set_cons_zero, List.set_cons_succ]
  refine wpAnyH_take (i := 24) (v := .bool false) rfl (by kernel_rfl) (by kernel_rfl) (by kernel_rfl) (fun _ _ _ h => h) (.inl ⟨by kernel_rfl, fun w _ => by kernel_rfl⟩) hS ?_
  simp only [List.getElem_toArray, List.getElem_cons_zero, List.getElem_cons_succ, Act.put, List.setIfInBounds_toArray, List.set_cons_zero, List.set_cons_succ]
  refine wpAnyH_done (by kernel_rfl) ?_ _
  have HS := Lib.hid hS
  clear hS C1 C2 C3 C4 C5 C6
  have HBa : Hid (Blk w7 (w.heap.size + 1 + 1) 24 (adr sa ab)) := Lib.hid HS.out.2.2.1
  have cn : w7.cell? ⟨w.heap.size, 17, none⟩ = some (.int .i64 n) := cid_bitsCell HS.out.1 LC.out
  go_wp2_with (refine wpl_load 24 _ rfl (w.heap.size + 1 + 1) rfl _ _ _ HBa.out Tryz.underlying24 rfl 17 Tryz.infoAddr L17.out rfl ?_)
  refine (C7.out w7 HS.out.2.2.2.1).mono ?_
  rintro e w8 ⟨rfl, hb8⟩
  obtain ⟨W9, hW9⟩ : ∃ W, W = w8.alloc (.cells (cid false z16 0) 48) := ⟨_, rfl⟩
  have hB9 : Blk W9 w8.heap.size 48 (cid false z16 0) := hW9 ▸ Blk.new w8 _ _
  have hb9 : Below w8.heap.size w8 W9 := hW9 ▸ (Below.refl _ _).alloc (Nat.le_refl _) _
  have HW9 : Hid (w8.alloc (.cells #[.bool false, .int .u8 0, .int .u8 0, .int .u8 0, .int .u8 0, .int .u8 0, .int .u8 0, .int .u8 0, .int .u8 0, .int .u8 0, .int .u8 0, .int .u8 0, .int .u8 0, .int .u8 0, .int .u8 0, .int .u8 0, .int .u8 0, .int .i64 0] 48) = W9) := Lib.hid hW9.symm
  have HB9 := Lib.hid hB9
  obtain ⟨X, hX⟩ : ∃ X, X = W9.setRow w8.heap.size (cid false z16 0) := ⟨_, rfl⟩
  have HX := Lib.hid hX.symm
  have HSX : Hid ((Blk X (w.heap.size) 48 (cid cs cb n) ∧ Blk X (w.heap.size + 1) 48 (cid ds db m) ∧ Blk X (w.heap.size + 1 + 1) 24 (adr sa ab) ∧ Env3 EA ER X ∧ Below w.heap.size w X) ∧ Blk X w8.heap.size 48 (cid false z16 0) ∧ w.heap.size + 1 + 1 < w8.heap.size) := Lib.hid (by
    obtain ⟨h1, h2, h3, h4, h5⟩ := HS.out
    have hl := (h3.kept hb8).lt
    have h4' := h4.kept hb8
    refine ⟨⟨?_, ?_, ?_, ?_, ?_⟩, ?_, hl⟩
    · exact hX ▸ ((h1.kept hb8).kept hb9).rowOther (by omega) _
    · exact hX ▸ ((h2.kept hb8).kept hb9).rowOther (by omega) _
    · exact hX ▸ ((h3.kept hb8).kept hb9).rowOther (by omega) _
    · exact hX ▸ h4'.kept (below_setRow hb9 (Nat.le_refl _) _)
    · exact hX ▸ below_setRow (bel2 (bel2 h5 hb8) hb9) (by omega) _
    · exact hX ▸ hB9.row _)
  have HBa9 : Hid (Blk X (w.heap.size + 1 + 1) 24 (adr sa ab)) := Lib.hid HSX.out.1.2.2.1
  clear hb8 hW9 hB9 hb9 hX HS HBa cn
  go_wp2_with ((try rw [HW9.out]); first | (refine wpl_store 48 _ _ rfl w8.heap.size (cid false z16 0) rfl rfl _ _ HB9.out 18 Tryz.infoCidr L18o.out rfl (cid_one _ _ _) rfl ?_; rw [HX.out]) | (refine wpl_load 24 _ rfl (w.heap.size + 1 + 1) rfl _ _ _ HBa9.out Tryz.underlying24 rfl 17 Tryz.infoAddr L17.out rfl ?_))
  refine (C8.out X).mono ?_
  rintro e w10 ⟨rfl, hb10⟩
  have HST : Hid ((Blk w10 (w.heap.size) 48 (cid cs cb n) ∧ Blk w10 (w.heap.size + 1) 48 (cid ds db m) ∧ Blk w10 (w.heap.size + 1 + 1) 24 (adr sa ab) ∧ Env3 EA ER w10 ∧ Below w.heap.size w w10) ∧ Blk w10 w8.heap.size 48 (cid false z16 0)) := Lib.hid (by
    obtain ⟨⟨h1, h2, h3, h4, h5⟩, h6, _⟩ := HSX.out
    exact ⟨⟨h1.kept hb10, h2.kept hb10, h3.kept hb10, h4.kept hb10, bel2 h5 hb10⟩, h6.kept hb10⟩)
  have HBO : Hid (Blk w10 w8.heap.size 48 (cid false z16 0)) := Lib.hid HST.out.2
  clear hb10 HSX HBa9
  obtain ⟨wz, hwz⟩ : ∃ wz, wz = w10 := ⟨_, rfl⟩
  have HZ : Hid (Below w.heap.size w wz) := Lib.hid (hwz ▸ HST.out.1.2.2.2.2)
  have HbZ := HZ
  rw [← hwz] at HBO ⊢
  clear hwz
  go_wp2_with (refine wpl_load 48 _ rfl w8.heap.size rfl _ _ _ HBO.out Tryz.underlying48 rfl 18 Tryz.infoCidr L18o.out rfl ?_)
  refine (CN.out wz HZ.out).mono ?_
  rintro e w11 ⟨rfl, hb11⟩
  go_wp2
  go_ret
  exact ⟨rfl, bel2 HbZ.out hb11⟩

set_option linter.unusedSimpArgs false in
set_option maxRecDepth 100000 in
set_option maxHeartbeats 8000000 in
theorem con_B (cs ds sa : Bool) (cb db ab : List Int) (hlc : cb.length = 16) (hld : db.length = 16) (hla : ab.length = 16) (n m : Int) (K V : Bool) (M : Int) (E EA ER : Value) (w : World) (hE : Env E w) (hE3 : Env3 EA ER w)
    (c0 : ∀ w, Env E w → Env3 EA ER w → Calls Tryz.prog 23 #[] w fun e w' => e = .returned (.bool true) ∧ Below w.heap.size w w')
    (c1 : ∀ w, Env3 EA ER w → Calls Tryz.prog 30 #[.agg (cid cs cb n), .agg (adr sa ab)] w fun e w' => e = .returned (.bool K) ∧ Below w.heap.size w w')
    (c2 : ∀ w, Calls Tryz.prog 31 #[.agg (cid cs cb n), .agg (adr sa ab)] w fun e w' => e = .returned (.bool K) ∧ Below w.heap.size w w')
    (c3 : ∀ w, Env3 EA ER w → Calls Tryz.prog 32 #[.agg (cid cs cb n), .agg (cid ds db m)] w fun e w' => e = .returned (.bool V) ∧ Below w.heap.size w w')
    (c4 : ∀ w, Calls Tryz.prog 33 #[.agg (cid cs cb n), .agg (cid ds db m)] w fun e w' => e = .returned (.bool V) ∧ Below w.heap.size w w')
    (c5 : ∀ w, Calls Tryz.prog 34 #[.agg (cid cs cb n), .agg (cid ds db m)] w fun e w' => e = .returned (.int .i64 M) ∧ Below w.heap.size w w')
    (c6 : ∀ w, Calls Tryz.prog 35 #[.agg (cid cs cb n), .agg (cid ds db m)] w fun e w' => e = .returned (.int .i64 M) ∧ Below w.heap.size w w')
    (c7 : ∀ w, Env3 EA ER w → Calls Tryz.prog 36 #[.agg (adr sa ab), .int .i64 n] w fun e w' => e = .returned (.tuple #[.agg (cid false z16 0), ER]) ∧ Below w.heap.size w w')
    (c8 : ∀ w, Calls Tryz.prog 16 #[.agg (adr sa ab)] w fun e w' => e = .returned (.bool true) ∧ Below w.heap.size w w')
    (cN : ∀ w', Below w.heap.size w w' → Calls Tryz.prog 15 #[ER] w' fun e w2 => e = .returned (.int .i64 1) ∧ Below w'.heap.size w' w2) (hlt : decide (n < 0) = true) :
    Calls Tryz.prog 5 #[.agg (cid cs cb n), .agg (cid ds db m), .agg (adr sa ab)] w fun e w' => e = .returned (.bool true) ∧ Below w.heap.size w w' := by
  obtain ⟨W0, hW0⟩ : ∃ W, W = w.alloc (.cells (cid cs cb n) 48) := ⟨_, rfl⟩
  obtain ⟨W1, hW1⟩ : ∃ W, W = W0.alloc (.cells (cid ds db m) 48) := ⟨_, rfl⟩
  obtain ⟨W2, hW2⟩ : ∃ W, W = W1.alloc (.cells (adr sa ab) 24) := ⟨_, rfl⟩
  have hB0 : Blk W0 w.heap.size 48 (cid cs cb n) := hW0 ▸ Blk.new w _ _
  have hb0 : Below w.heap.size w W0 := hW0 ▸ (Below.refl _ _).alloc (Nat.le_refl _) _
  have hs0 : W0.heap.size = w.heap.size + 1 := by rw [hW0]; simp
  have hb1 : Below W0.heap.size W0 W1 := hW1 ▸ (Below.refl _ _).alloc (Nat.le_refl _) _
  have hB1 : Blk W1 (w.heap.size + 1) 48 (cid ds db m) := by rw [← hs0]; exact hW1 ▸ Blk.new W0 _ _
  have hs1 : W1.heap.size = w.heap.size + 1 + 1 := by rw [hW1]; simp [hs0]
  have hb2 : Below W1.heap.size W1 W2 := hW2 ▸ (Below.refl _ _).alloc (Nat.le_refl _) _
  have hB2 : Blk W2 (w.heap.size + 1 + 1) 24 (adr sa ab) := by rw [← hs1]; exact hW2 ▸ Blk.new W1 _ _
  have HW0 := Lib.hid hW0.symm
  have HW1 := Lib.hid hW1.symm
  have HW2 := Lib.hid hW2.symm
  have Hb : Hid (Below w.heap.size w W2) := Lib.hid (bel2 (bel2 hb0 hb1) hb2)
  have H2 : Hid (Blk W2 (w.heap.size) 48 (cid cs cb n) ∧ Blk W2 (w.heap.size + 1) 48 (cid ds db m) ∧ Blk W2 (w.heap.size + 1 + 1) 24 (adr sa ab) ∧ Env3 EA ER W2 ∧ Below w.heap.size w W2) := Lib.hid ⟨(hB0.kept hb1).kept hb2, hB1.kept hb2, hB2, hE3.kept Hb.out, Hb.out⟩
  have HE := Lib.hid (hE.kept Hb.out)
  have LC := Lib.hid hlc
  have L18c : Hid (18 = (cid cs cb n).size) := Lib.hid (by rw [cid_size, hlc])
  have L18d : Hid (18 = (cid ds db m).size) := Lib.hid (by rw [cid_size, hld])
  have L17 : Hid (17 = (adr sa ab).size) := Lib.hid (by rw [adr_size, hla])
  have C0 := Lib.hid c0
  have C1 := Lib.hid c1
  have C2 := Lib.hid c2
  have C3 := Lib.hid c3
  have C4 := Lib.hid c4
  have C5 := Lib.hid c5
  have C6 := Lib.hid c6
  have C7 := Lib.hid c7
  have C8 := Lib.hid c8
  have CN := Lib.hid cN
  have L18o : Hid (18 = (cid false z16 0).size) := Lib.hid rfl
  have hq : ∀ w, (binOp .eql 48 (.agg (cid false z16 0)) (.agg #[.bool false, .int .u8 0, .int .u8 0, .int .u8 0, .int .u8 0, .int .u8 0, .int .u8 0, .int .u8 0, .int .u8 0, .int .u8 0, .int .u8 0, .int .u8 0, .int .u8 0, .int .u8 0, .int .u8 0, .int .u8 0, .int .u8 0, .int .i64 0])).run Tryz.prog w = .ok (.bool true) w := fun w => eql_cid false false z16 z16 0 0 rfl rfl w
  clear hW0 hW1 hW2 hB0 hb0 hb1 hB1 hb2 hB2 hs0 hs1 hlc hld hla hE hE3 c0 c1 c2 c3 c4 c5 c6 c7 c8 cN
  go_enter Tryz.func5, Tryz.ntmps5
  go_upto_region 1 with fail
  rw [HW0.out]
  rw [HW1.out]
  rw [HW2.out]
  go_wp2_with fail
  refine (C0.out W2 HE.out H2.out.2.2.2.1).mono ?_
  rintro e w1 ⟨rfl, hb1⟩
  have hS0 : Blk w1.drew (w.heap.size) 48 (cid cs cb n) ∧ Blk w1.drew (w.heap.size + 1) 48 (cid ds db m) ∧ Blk w1.drew (w.heap.size + 1 + 1) 24 (adr sa ab) ∧ Env3 EA ER w1.drew ∧ Below w.heap.size w w1.drew := by
    obtain ⟨h1, h2, h3, h4, h5⟩ := H2.out
    have hbd := bel2 hb1 (below_drewN w1 1)
    exact ⟨h1.kept hbd, h2.kept hbd, h3.kept hbd, h4.kept hbd, bel2 h5 hbd⟩
  clear hb1 H2 C0
  go_wp2_with fail
  refine wp_region_held_drew (S := fun w' => Blk w' (w.heap.size) 48 (cid cs cb n) ∧ Blk w' (w.heap.size + 1) 48 (cid ds db m) ∧ Blk w' (w.heap.size + 1 + 1) 24 (adr sa ab) ∧ Env3 EA ER w' ∧ Below w.heap.size w w') (by kernel_rfl) hS0 (fun hS => ?_)
  change wpAnyH _ _ _ _ _ 25 #[false, false, false, false, false, false, false, false, false, false, false, false, false, false, false, false, false, false, false, false, false, false, false, false, false] _ _
  refine wpAnyH_take (i := 0) (v := .agg (cid cs cb n)) rfl (by kernel_rfl) (by kernel_rfl) (by kernel_rfl) (fun _ _ _ h => h) (yields_load 48 (.tmp 3) rfl (w.heap.size) (by kernel_rfl) _ _ _ (fun w h => h.1) Tryz.underlying48 rfl 18 Tryz.infoCidr L18c.out (by kernel_rfl)) hS ?_
  simp only [List.getElem_toArray, List.getElem_cons_zero, List.getElem_cons_succ, Act.put, List.setIfInBounds_toArray, List.set_cons_zero, List.set_cons_succ]
  refine wpAnyH_take (i := 1) (v := .agg (adr sa ab)) rfl (by kernel_rfl) (by kernel_rfl) (by kernel_rfl) (fun _ _ _ h => h) (yields_load 24 (.tmp 5) rfl (w.heap.size + 1 + 1) (by kernel_rfl) _ _ _ (fun w h => h.2.2.1) Tryz.underlying24 rfl 17 Tryz.infoAddr L17.out (by kernel_rfl)) hS ?_
  simp only [List.getElem_toArray, List.getElem_cons_zero, List.getElem_cons_succ, Act.put, List.setIfInBounds_toArray, List.set_cons_zero, List.set_cons_succ]
  refine wpAnyH_take (i := 3) (v := .agg (cid cs cb n)) rfl (by kernel_rfl) (by kernel_rfl) (by kernel_rfl) (fun _ _ _ h => h) (yields_load 48 (.tmp 3) rfl (w.heap.size) (by kernel_rfl) _ _ _ (fun w h => h.1) Tryz.underlying48 rfl 18 Tryz.infoCidr L18c.out (by kernel_rfl)) hS ?_
  simp only [List.getElem_toArray, List.getElem_cons_zero, List.getElem_cons_succ, Act.put, List.setIfInBounds_toArray, List.set_cons_zero, List.set_cons_succ]
  refine wpAnyH_take (i := 4) (v := .agg (adr sa ab)) rfl (by kernel_rfl) (by kernel_rfl) (by kernel_rfl) (fun _ _ _ h => h) (yields_load 24 (.tmp 5) rfl (w.heap.size + 1 + 1) (by kernel_rfl) _ _ _ (fun w h => h.2.2.1) Tryz.underlying24 rfl 17 Tryz.infoAddr L17.out (by kernel_rfl)) hS ?_
  simp only [List.getElem_toArray, List.getElem_cons_zero, List.getElem_cons_succ, Act.put, List.setIfInBounds_toArray, List.set_cons_zero, List.set_cons_succ]
  refine wpAnyH_ready (rs := [2]) (by kernel_rfl) (by simp) ?_
  refine AllReadyH.cons rfl (fun K' hK => ?_) AllReadyH.nil
  refine step_call 30 #[.agg (cid cs cb n), .agg (adr sa ab)] (by kernel_rfl) (by kernel_rfl) (.bool K) (C1.out _ hS.2.2.2.1) (fun w2 hb2 => hK.out _ _ (⟨hS.1.kept hb2, hS.2.1.kept hb2, hS.2.2.1.kept hb2, hS.2.2.2.1.kept hb2, bel2 hS.2.2.2.2 hb2⟩) (fun hS => ?_))
  simp only [List.getElem_toArray, List.getElem_cons_zero, List.getElem_cons_succ, Act.put, List.setIfInBounds_toArray, List.set_cons_zero, List.set_cons_succ]
  refine wpAnyH_ready (rs := [5]) (by kernel_rfl) (by simp) ?_
  refine AllReadyH.cons rfl (fun K' hK => ?_) AllReadyH.nil
  refine step_call 31 #[.agg (cid cs cb n), .agg (adr sa ab)] (by kernel_rfl) (by kernel_rfl) (.bool K) (C2.out _) (fun w3 hb3 => hK.out _ _ (⟨hS.1.kept hb3, hS.2.1.kept hb3, hS.2.2.1.kept hb3, hS.2.2.2.1.kept hb3, bel2 hS.2.2.2.2 hb3⟩) (fun hS => ?_))
  simp only [List.getElem_toArray, List.getElem_cons_zero, List.getElem_cons_succ, Act.put, List.setIfInBounds_toArray, List.set_cons_zero, List.set_cons_succ]
  refine wpAnyH_take (i := 6) (v := .bool false) rfl (by kernel_rfl) (by kernel_rfl) (by kernel_rfl) (fun _ _ _ h => h) (.inl ⟨by kernel_rfl, fun w _ => by cases K <;> kernel_rfl⟩) hS ?_
  simp only [List.getElem_toArray, List.getElem_cons_zero, List.getElem_cons_succ, Act.put, List.setIfInBounds_toArray, List.set_cons_zero, List.set_cons_succ]
  refine wpAnyH_take (i := 7) (v := .bool false) rfl (by kernel_rfl) (by kernel_rfl) (by kernel_rfl) (fun _ _ _ h => h) (.inl ⟨by kernel_rfl, fun w _ => by kernel_rfl⟩) hS ?_
  simp only [List.getElem_toArray, List.getElem_cons_zero, List.getElem_cons_succ, Act.put, List.setIfInBounds_toArray, List.set_cons_zero, List.set_cons_succ]
  refine wpAnyH_take (i := 8) (v := .agg (cid cs cb n)) rfl (by kernel_rfl) (by kernel_rfl) (by kernel_rfl) (fun _ _ _ h => h) (yields_load 48 (.tmp 3) rfl (w.heap.size) (by kernel_rfl) _ _ _ (fun w h => h.1) Tryz.underlying48 rfl 18 Tryz.infoCidr L18c.out (by kernel_rfl)) hS ?_
  simp only [List.getElem_toArray, List.getElem_cons_zero, List.getElem_cons_succ, Act.put, List.setIfInBounds_toArray, List.set_cons_zero, List.set_cons_succ]
  refine wpAnyH_take (i := 9) (v := .agg (cid ds db m)) rfl (by kernel_rfl) (by kernel_rfl) (by kernel_rfl) (fun _ _ _ h => h) (yields_load 48 (.tmp 4) rfl (w.heap.size + 1) (by kernel_rfl) _ _ _ (fun w h => h.2.1) Tryz.underlying48 rfl 18 Tryz.infoCidr L18d.out (by kernel_rfl)) hS ?_
  simp only [List.getElem_toArray, List.getElem_cons_zero, List.getElem_cons_succ, Act.put, List.setIfInBounds_toArray, List.set_cons_zero, List.set_cons_succ]
  refine wpAnyH_take (i := 11) (v := .agg (cid cs cb n)) rfl (by kernel_rfl) (by kernel_rfl) (by kernel_rfl) (fun _ _ _ h => h) (yields_load 48 (.tmp 3) rfl (w.heap.size) (by kernel_rfl) _ _ _ (fun w h => h.1) Tryz.underlying48 rfl 18 Tryz.infoCidr L18c.out (by kernel_rfl)) hS ?_
  simp only [List.getElem_toArray, List.getElem_cons_zero, List.getElem_cons_succ, Act.put, List.setIfInBounds_toArray, List.set_cons_zero, List.set_cons_succ]
  refine wpAnyH_take (i := 12) (v := .agg (cid ds db m)) rfl (by kernel_rfl) (by kernel_rfl) (by kernel_rfl) (fun _ _ _ h => h) (yields_load 48 (.tmp 4) rfl (w.heap.size + 1) (by kernel_rfl) _ _ _ (fun w h => h.2.1) Tryz.underlying48 rfl 18 Tryz.infoCidr L18d.out (by kernel_rfl)) hS ?_
  simp only [List.getElem_toArray, List.getElem_cons_zero, List.getElem_cons_succ, Act.put, List.setIfInBounds_toArray, List.set_cons_zero, List.set_cons_succ]
  refine wpAnyH_ready (rs := [10]) (by kernel_rfl) (by simp) ?_
  refine AllReadyH.cons rfl (fun K' hK => ?_) AllReadyH.nil
  rw [if_pos (by kernel_rfl)]
  refine op_call2 32 #[.agg (cid cs cb n), .agg (cid ds db m)] (by kernel_rfl) (.bool V) (C3.out _ hS.2.2.2.1) (fun w4 hb4 => hK.out _ _ (⟨hS.1.kept hb4, hS.2.1.kept hb4, hS.2.2.1.kept hb4, hS.2.2.2.1.kept hb4, bel2 hS.2.2.2.2 hb4⟩) (fun hS => ?_))
  simp only [List.getElem_toArray, List.getElem_cons_zero, List.getElem_cons_succ, Act.put, List.setIfInBounds_toArray, List.set_cons_zero, List.set_cons_succ]
  refine wpAnyH_ready (rs := [13]) (by kernel_rfl) (by simp) ?_
  refine AllReadyH.cons rfl (fun K' hK => ?_) AllReadyH.nil
  rw [if_pos (by kernel_rfl)]
  refine op_call2 33 #[.agg (cid cs cb n), .agg (cid ds db m)] (by kernel_rfl) (.bool V) (C4.out _) (fun w5 hb5 => hK.out _ _ (⟨hS.1.kept hb5, hS.2.1.kept hb5, hS.2.2.1.kept hb5, hS.2.2.2.1.kept hb5, bel2 hS.2.2.2.2 hb5⟩) (fun hS => ?_))
  simp only [List.getElem_toArray, List.getElem_cons_zero, List.getElem_cons_succ, Act.put, List.setIfInBounds_toArray, List.set_cons_zero, List.set_cons_succ]
  refine wpAnyH_take (i := 14) (v := .bool false) rfl (by kernel_rfl) (by kernel_rfl) (by kernel_rfl) (fun _ _ _ h => h) (.inl ⟨by kernel_rfl, fun w _ => by cases V <;> kernel_rfl⟩) hS ?_
  simp only [List.getElem_toArray, List.getElem_cons_zero, List.getElem_cons_succ, Act.put, List.setIfInBounds_toArray, List.set_cons_zero, List.set_cons_succ]
  refine wpAnyH_take (i := 15) (v := .bool false) rfl (by kernel_rfl) (by kernel_rfl) (by kernel_rfl) (fun _ _ _ h => h) (.inl ⟨by kernel_rfl, fun w _ => by kernel_rfl⟩) hS ?_
  simp only [List.getElem_toArray, List.getElem_cons_zero, List.getElem_cons_succ, Act.put, List.setIfInBounds_toArray, List.set_cons_zero, List.set_cons_succ]
  refine wpAnyH_take (i := 16) (v := .bool false) rfl (by kernel_rfl) (by kernel_rfl) (by kernel_rfl) (fun _ _ _ h => h) (.inl ⟨by kernel_rfl, fun w _ => by kernel_rfl⟩) hS ?_
  simp only [List.getElem_toArray, List.getElem_cons_zero, List.getElem_cons_succ, Act.put, List.setIfInBounds_toArray, List.set_cons_zero, List.set_cons_succ]
  refine wpAnyH_take (i := 17) (v := .agg (cid cs cb n)) rfl (by kernel_rfl) (by kernel_rfl) (by kernel_rfl) (fun _ _ _ h => h) (yields_load 48 (.tmp 3) rfl (w.heap.size) (by kernel_rfl) _ _ _ (fun w h => h.1) Tryz.underlying48 rfl 18 Tryz.infoCidr L18c.out (by kernel_rfl)) hS ?_
  simp only [List.getElem_toArray, List.getElem_cons_zero, List.getElem_cons_succ, Act.put, List.setIfInBounds_toArray, List.set_cons_zero, List.set_cons_succ]
  refine wpAnyH_take (i := 18) (v := .agg (cid ds db m)) rfl (by kernel_rfl) (by kernel_rfl) (by kernel_rfl) (fun _ _ _ h => h) (yields_load 48 (.tmp 4) rfl (w.heap.size + 1) (by kernel_rfl) _ _ _ (fun w h => h.2.1) Tryz.underlying48 rfl 18 Tryz.infoCidr L18d.out (by kernel_rfl)) hS ?_
  simp only [List.getElem_toArray, List.getElem_cons_zero, List.getElem_cons_succ, Act.put, List.setIfInBounds_toArray, List.set_cons_zero, List.set_cons_succ]
  refine wpAnyH_take (i := 20) (v := .agg (cid cs cb n)) rfl (by kernel_rfl) (by kernel_rfl) (by kernel_rfl) (fun _ _ _ h => h) (yields_load 48 (.tmp 3) rfl (w.heap.size) (by kernel_rfl) _ _ _ (fun w h => h.1) Tryz.underlying48 rfl 18 Tryz.infoCidr L18c.out (by kernel_rfl)) hS ?_
  simp only [List.getElem_toArray, List.getElem_cons_zero, List.getElem_cons_succ, Act.put, List.setIfInBounds_toArray, List.set_cons_zero, List.set_cons_succ]
  refine wpAnyH_take (i := 21) (v := .agg (cid ds db m)) rfl (by kernel_rfl) (by kernel_rfl) (by kernel_rfl) (fun _ _ _ h => h) (yields_load 48 (.tmp 4) rfl (w.heap.size + 1) (by kernel_rfl) _ _ _ (fun w h => h.2.1) Tryz.underlying48 rfl 18 Tryz.infoCidr L18d.out (by kernel_rfl)) hS ?_
  simp only [List.getElem_toArray, List.getElem_cons_zero, List.getElem_cons_succ, Act.put, List.setIfInBounds_toArray, List.set_cons_zero, List.set_cons_succ]
  refine wpAnyH_ready (rs := [19]) (by kernel_rfl) (by simp) ?_
  refine AllReadyH.cons rfl (fun K' hK => ?_) AllReadyH.nil
  rw [if_pos (by kernel_rfl)]
  refine op_call2 34 #[.agg (cid cs cb n), .agg (cid ds db m)] (by kernel_rfl) (.int .i64 M) (C5.out _) (fun w6 hb6 => hK.out _ _ (⟨hS.1.kept hb6, hS.2.1.kept hb6, hS.2.2.1.kept hb6, hS.2.2.2.1.kept hb6, bel2 hS.2.2.2.2 hb6⟩) (fun hS => ?_))
  simp only [List.getElem_toArray, List.getElem_cons_zero, List.getElem_cons_succ, Act.put, List.setIfInBounds_toArray, List.set_cons_zero, List.set_cons_succ]
  refine wpAnyH_ready (rs := [22]) (by kernel_rfl) (by simp) ?_
  refine AllReadyH.cons rfl (fun K' hK => ?_) AllReadyH.nil
  rw [if_pos (by kernel_rfl)]
  refine op_call2 35 #[.agg (cid cs cb n), .agg (cid ds db m)] (by kernel_rfl) (.int .i64 M) (C6.out _) (fun w7 hb7 => hK.out _ _ (⟨hS.1.kept hb7, hS.2.1.kept hb7, hS.2.2.1.kept hb7, hS.2.2.2.1.kept hb7, bel2 hS.2.2.2.2 hb7⟩) (fun hS => ?_))
  simp only [List.getElem_toArray, List.getElem_cons_zero, List.getElem_cons_succ, Act.put, List.setIfInBounds_toArray, List.set_cons_zero, List.set_cons_succ]
  refine wpAnyH_take (i := 23) (v := .bool false) rfl (by kernel_rfl) (by kernel_rfl) (by kernel_rfl) (fun _ _ _ h => h) (.inl ⟨by kernel_rfl, fun w _ => exec_neq_self 3 3 (.tmp 30) (.tmp 33) rfl M (by kernel_rfl) (by kernel_rfl)⟩) hS ?_
  simp only [List.getElem_toArray, List.getElem_cons_zero, List.getElem_cons_succ, Act.put, List.setIfInBounds_toArray, List.set_cons_zero, List.set_cons_succ]
  refine wpAnyH_take (i := 24) (v := .bool false) rfl (by kernel_rfl) (by kernel_rfl) (by kernel_rfl) (fun _ _ _ h => h) (.inl ⟨by kernel_rfl, fun w _ => by kernel_rfl⟩) hS ?_
  simp only [List.getElem_toArray, List.getElem_cons_zero, List.getElem_cons_succ, Act.put, List.setIfInBounds_toArray, List.set_cons_zero, List.set_cons_succ]
  refine wpAnyH_done (by kernel_rfl) ?_ _
  have HS := Lib.hid hS
  clear hS C1 C2 C3 C4 C5 C6
  have HBa : Hid (Blk w7 (w.heap.size + 1 + 1) 24 (adr sa ab)) := Lib.hid HS.out.2.2.1
  have cn : w7.cell? ⟨w.heap.size, 17, none⟩ = some (.int .i64 n) := cid_bitsCell HS.out.1 LC.out
  go_wp2_with (refine wpl_load 24 _ rfl (w.heap.size + 1 + 1) rfl _ _ _ HBa.out Tryz.underlying24 rfl 17 Tryz.infoAddr L17.out rfl ?_)
  refine (C7.out w7 HS.out.2.2.2.1).mono ?_
  rintro e w8 ⟨rfl, hb8⟩
  obtain ⟨W9, hW9⟩ : ∃ W, W = w8.alloc (.cells (cid false z16 0) 48) := ⟨_, rfl⟩
  have hB9 : Blk W9 w8.heap.size 48 (cid false z16 0) := hW9 ▸ Blk.new w8 _ _
  have hb9 : Below w8.heap.size w8 W9 := hW9 ▸ (Below.refl _ _).alloc (Nat.le_refl _) _
  have HW9 : Hid (w8.alloc (.cells #[.bool false, .int .u8 0, .int .u8 0, .int .u8 0, .int .u8 0, .int .u8 0, .int .u8 0, .int .u8 0, .int .u8 0, .int .u8 0, .int .u8 0, .int .u8 0, .int .u8 0, .int .u8 0, .int .u8 0, .int .u8 0, .int .u8 0, .int .i64 0] 48) = W9) := Lib.hid hW9.symm
  have HB9 := Lib.hid hB9
  obtain ⟨X, hX⟩ : ∃ X, X = W9.setRow w8.heap.size (cid false z16 0) := ⟨_, rfl⟩
  have HX := Lib.hid hX.symm
  have HSX : Hid ((Blk X (w.heap.size) 48 (cid cs cb n) ∧ Blk X (w.heap.size + 1) 48 (cid ds db m) ∧ Blk X (w.heap.size + 1 + 1) 24 (adr sa ab) ∧ Env3 EA ER X ∧ Below w.heap.size w X) ∧ Blk X w8.heap.size 48 (cid false z16 0) ∧ w.heap.size + 1 + 1 < w8.heap.size) := Lib.hid (by
    obtain ⟨h1, h2, h3, h4, h5⟩ := HS.out
    have hl := (h3.kept hb8).lt
    have h4' := h4.kept hb8
    refine ⟨⟨?_, ?_, ?_, ?_, ?_⟩, ?_, hl⟩
    · exact hX ▸ ((h1.kept hb8).kept hb9).rowOther (by omega) _
    · exact hX ▸ ((h2.kept hb8).kept hb9).rowOther (by omega) _
    · exact hX ▸ ((h3.kept hb8).kept hb9).rowOther (by omega) _
    · exact hX ▸ h4'.kept (below_setRow hb9 (Nat.le_refl _) _)
    · exact hX ▸ below_setRow (bel2 (bel2 h5 hb8) hb9) (by omega) _
    · exact hX ▸ hB9.row _)
  have HBa9 : Hid (Blk X (w.heap.size + 1 + 1) 24 (adr sa ab)) := Lib.hid HSX.out.1.2.2.1
  clear hb8 hW9 hB9 hb9 hX HS HBa cn
  go_wp2_with ((try rw [HW9.out]); first | (refine wpl_store 48 _ _ rfl w8.heap.size (cid false z16 0) rfl rfl _ _ HB9.out 18 Tryz.infoCidr L18o.out rfl (cid_one _ _ _) rfl ?_; rw [HX.out]) | (refine wpl_load 24 _ rfl (w.heap.size + 1 + 1) rfl _ _ _ HBa9.out Tryz.underlying24 rfl 17 Tryz.infoAddr L17.out rfl ?_))
  refine (C8.out X).mono ?_
  rintro e w10 ⟨rfl, hb10⟩
  have HST : Hid ((Blk w10 (w.heap.size) 48 (cid cs cb n) ∧ Blk w10 (w.heap.size + 1) 48 (cid ds db m) ∧ Blk w10 (w.heap.size + 1 + 1) 24 (adr sa ab) ∧ Env3 EA ER w10 ∧ Below w.heap.size w w10) ∧ Blk w10 w8.heap.size 48 (cid false z16 0)) := Lib.hid (by
    obtain ⟨⟨h1, h2, h3, h4, h5⟩, h6, _⟩ := HSX.out
    exact ⟨⟨h1.kept hb10, h2.kept hb10, h3.kept hb10, h4.kept hb10, bel2 h5 hb10⟩, h6.kept hb10⟩)
  have HBO : Hid (Blk w10 w8.heap.size 48 (cid false z16 0)) := Lib.hid HST.out.2
  clear hb10 HSX HBa9
  have hS8 : (Blk w10.drew (w.heap.size) 48 (cid cs cb n) ∧ Blk w10.drew (w.heap.size + 1) 48 (cid ds db m) ∧ Blk w10.drew (w.heap.size + 1 + 1) 24 (adr sa ab) ∧ Env3 EA ER w10.drew ∧ Below w.heap.size w w10.drew) ∧ Blk w10.drew w8.heap.size 48 (cid false z16 0) := by
    obtain ⟨⟨h1, h2, h3, h4, h5⟩, h6⟩ := HST.out
    have hbd := below_drewN w10 1
    exact ⟨⟨h1.kept hbd, h2.kept hbd, h3.kept hbd, h4.kept hbd, bel2 h5 hbd⟩, h6.kept hbd⟩
  clear HST HBO
  go_wp2_with fail
  refine wp_region_held_drew (S := fun w' => (Blk w' (w.heap.size) 48 (cid cs cb n) ∧ Blk w' (w.heap.size + 1) 48 (cid ds db m) ∧ Blk w' (w.heap.size + 1 + 1) 24 (adr sa ab) ∧ Env3 EA ER w' ∧ Below w.heap.size w w') ∧ Blk w' w8.heap.size 48 (cid false z16 0)) (by kernel_rfl) hS8 (fun hS => ?_)
  change wpAnyH _ _ _ _ _ 10 #[false, false, false, false, false, false, false, false, false, false] _ _
  refine wpAnyH_take (i := 0) (v := .pointer (some ⟨w.heap.size, 17, none⟩)) rfl (by kernel_rfl) (by kernel_rfl) (by kernel_rfl) (fun _ _ _ h => h) (.inl ⟨by kernel_rfl, fun w _ => by kernel_rfl⟩) hS ?_
  simp only [List.getElem_toArray, List.getElem_cons_zero, List.getElem_cons_succ, Act.put, List.setIfInBounds_toArray, List.set_cons_zero, List.set_cons_succ]
  refine wpAnyH_take (i := 1) (v := .int .i64 n) rfl (by kernel_rfl) (by kernel_rfl) (by kernel_rfl) (fun _ _ _ h => h) (yields_cell (.tmp 54) rfl (w.heap.size) 17 (by kernel_rfl) n (fun w h => cid_bitsCell h.1.1 LC.out) (by kernel_rfl)) hS ?_
  simp only [List.getElem_toArray, List.getElem_cons_zero, List.getElem_cons_succ, Act.put, List.setIfInBounds_toArray, List.set_cons_zero, List.set_cons_succ]
  refine wpAnyH_take (i := 2) (v := .bool true) rfl (by kernel_rfl) (by kernel_rfl) (by kernel_rfl) (fun _ _ _ h => h) (.inl ⟨by kernel_rfl, fun w _ => exec_lss 3 3 (.tmp 55) (.const (.int .i64 0)) rfl n 0 (by kernel_rfl) (by kernel_rfl) true hlt⟩) hS ?_
  simp only [List.getElem_toArray, List.getElem_cons_zero, List.getElem_cons_succ, Act.put, List.setIfInBounds_toArray, List.set_cons_zero, List.set_cons_succ]
  refine wpAnyH_take (i := 3) (v := .bool true) rfl (by kernel_rfl) (by kernel_rfl) (by kernel_rfl) (fun _ _ _ h => h) (.inl ⟨by kernel_rfl, fun w _ => by kernel_rfl⟩) hS ?_
  simp only [List.getElem_toArray, List.getElem_cons_zero, List.getElem_cons_succ, Act.put, List.setIfInBounds_toArray, List.set_cons_zero, List.set_cons_succ]
  refine wpAnyH_take (i := 4) (v := undef) rfl (by kernel_rfl) (by kernel_rfl) (by kernel_rfl) (fun _ _ _ h => h) (.inr ⟨by kernel_rfl, rfl⟩) hS ?_
  simp only [List.getElem_toArray, List.getElem_cons_zero, List.getElem_cons_succ, Act.put, List.setIfInBounds_toArray, List.set_cons_zero, List.set_cons_succ]
  refine wpAnyH_take (i := 5) (v := undef) rfl (by kernel_rfl) (by kernel_rfl) (by kernel_rfl) (fun _ _ _ h => h) (.inr ⟨by kernel_rfl, rfl⟩) hS ?_
  simp only [List.getElem_toArray, List.getElem_cons_zero, List.getElem_cons_succ, Act.put, List.setIfInBounds_toArray, List.set_cons_zero, List.set_cons_succ]
  refine wpAnyH_take (i := 6) (v := undef) rfl (by kernel_rfl) (by kernel_rfl) (by kernel_rfl) (fun _ _ _ h => h) (.inr ⟨by kernel_rfl, rfl⟩) hS ?_
  simp only [List.getElem_toArray, List.getElem_cons_zero, List.getElem_cons_succ, Act.put, List.setIfInBounds_toArray, List.set_cons_zero, List.set_cons_succ]
  refine wpAnyH_take (i := 7) (v := undef) rfl (by kernel_rfl) (by kernel_rfl) (by kernel_rfl) (fun _ _ _ h => h) (.inr ⟨by kernel_rfl, rfl⟩) hS ?_
  simp only [List.getElem_toArray, List.getElem_cons_zero, List.getElem_cons_succ, Act.put, List.setIfInBounds_toArray, List.set_cons_zero, List.set_cons_succ]
  refine wpAnyH_take (i := 8) (v := undef) rfl (by kernel_rfl) (by kernel_rfl) (by kernel_rfl) (fun _ _ _ h => h) (.inr ⟨by kernel_rfl, rfl⟩) hS ?_
  simp only [List.getElem_toArray, List.getElem_cons_zero, List.getElem_cons_succ, Act.put, List.setIfInBounds_toArray, List.set_cons_zero, List.set_cons_succ]
  refine wpAnyH_take (i := 9) (v := .bool true) rfl (by kernel_rfl) (by kernel_rfl) (by kernel_rfl) (fun _ _ _ h => h) (.inl ⟨by kernel_rfl, fun w _ => by kernel_rfl⟩) hS ?_
  simp only [List.getElem_toArray, List.getElem_cons_zero, List.getElem_cons_succ, Act.put, List.setIfInBounds_toArray, List.set_cons_zero, List.set_cons_succ]
  refine wpAnyH_done (by kernel_rfl) ?_ _
  obtain ⟨wz, hwz⟩ : ∃ wz, wz = w10.drew := ⟨_, rfl⟩
  have HZ : Hid (Below w.heap.size w wz) := Lib.hid (hwz ▸ hS.1.2.2.2.2)
  have HBO : Hid (Blk wz w8.heap.size 48 (cid false z16 0)) := Lib.hid (hwz ▸ hS.2)
  have HbZ := HZ
  rw [← hwz]
  clear hwz hS
  go_wp2_with (refine wpl_load 48 _ rfl w8.heap.size rfl _ _ _ HBO.out Tryz.underlying48 rfl 18 Tryz.infoCidr L18o.out rfl ?_)
  refine (CN.out wz HZ.out).mono ?_
  rintro e w11 ⟨rfl, hb11⟩
  go_wp2
  go_ret
  exact ⟨rfl, bel2 HbZ.out hb11⟩

set_option linter.unusedSimpArgs false in
set_option maxRecDepth 100000 in
set_option maxHeartbeats 8000000 in
theorem con_C (cs ds sa : Bool) (cb db ab : List Int) (hlc : cb.length = 16) (hld : db.length = 16) (hla : ab.length = 16) (n m : Int) (K V : Bool) (M : Int) (E EA ER : Value) (w : World) (hE : Env E w) (hE3 : Env3 EA ER w)
    (c0 : ∀ w, Env E w → Env3 EA ER w → Calls Tryz.prog 23 #[] w fun e w' => e = .returned (.bool true) ∧ Below w.heap.size w w')
    (c1 : ∀ w, Env3 EA ER w → Calls Tryz.prog 30 #[.agg (cid cs cb n), .agg (adr sa ab)] w fun e w' => e = .returned (.bool K) ∧ Below w.heap.size w w')
    (c2 : ∀ w, Calls Tryz.prog 31 #[.agg (cid cs cb n), .agg (adr sa ab)] w fun e w' => e = .returned (.bool K) ∧ Below w.heap.size w w')
    (c3 : ∀ w, Env3 EA ER w → Calls Tryz.prog 32 #[.agg (cid cs cb n), .agg (cid ds db m)] w fun e w' => e = .returned (.bool V) ∧ Below w.heap.size w w')
    (c4 : ∀ w, Calls Tryz.prog 33 #[.agg (cid cs cb n), .agg (cid ds db m)] w fun e w' => e = .returned (.bool V) ∧ Below w.heap.size w w')
    (c5 : ∀ w, Calls Tryz.prog 34 #[.agg (cid cs cb n), .agg (cid ds db m)] w fun e w' => e = .returned (.int .i64 M) ∧ Below w.heap.size w w')
    (c6 : ∀ w, Calls Tryz.prog 35 #[.agg (cid cs cb n), .agg (cid ds db m)] w fun e w' => e = .returned (.int .i64 M) ∧ Below w.heap.size w w')
    (c7 : ∀ w, Env3 EA ER w → Calls Tryz.prog 36 #[.agg (adr sa ab), .int .i64 n] w fun e w' => e = .returned (.tuple #[.agg (cid false z16 0), ER]) ∧ Below w.heap.size w w')
    (c8 : ∀ w, Calls Tryz.prog 16 #[.agg (adr sa ab)] w fun e w' => e = .returned (.bool true) ∧ Below w.heap.size w w')
    (cN : ∀ w', Below w.heap.size w w' → Calls Tryz.prog 15 #[ER] w' fun e w2 => e = .returned (.int .i64 1) ∧ Below w'.heap.size w' w2)
    (wd : Nat) (cW : ∀ w, Calls Tryz.prog 37 #[.agg (adr sa ab)] w fun e w' => e = .returned (.int .i64 (wd : Int)) ∧ Below w.heap.size w w') (hlt : decide (n < 0) = false) (hgt : decide (n > (wd : Int)) = true) :
    Calls Tryz.prog 5 #[.agg (cid cs cb n), .agg (cid ds db m), .agg (adr sa ab)] w fun e w' => e = .returned (.bool true) ∧ Below w.heap.size w w' := by
  obtain ⟨W0, hW0⟩ : ∃ W, W = w.alloc (.cells (cid cs cb n) 48) := ⟨_, rfl⟩
  obtain ⟨W1, hW1⟩ : ∃ W, W = W0.alloc (.cells (cid ds db m) 48) := ⟨_, rfl⟩
  obtain ⟨W2, hW2⟩ : ∃ W, W = W1.alloc (.cells (adr sa ab) 24) := ⟨_, rfl⟩
  have hB0 : Blk W0 w.heap.size 48 (cid cs cb n) := hW0 ▸ Blk.new w _ _
  have hb0 : Below w.heap.size w W0 := hW0 ▸ (Below.refl _ _).alloc (Nat.le_refl _) _
  have hs0 : W0.heap.size = w.heap.size + 1 := by rw [hW0]; simp
  have hb1 : Below W0.heap.size W0 W1 := hW1 ▸ (Below.refl _ _).alloc (Nat.le_refl _) _
  have hB1 : Blk W1 (w.heap.size + 1) 48 (cid ds db m) := by rw [← hs0]; exact hW1 ▸ Blk.new W0 _ _
  have hs1 : W1.heap.size = w.heap.size + 1 + 1 := by rw [hW1]; simp [hs0]
  have hb2 : Below W1.heap.size W1 W2 := hW2 ▸ (Below.refl _ _).alloc (Nat.le_refl _) _
  have hB2 : Blk W2 (w.heap.size + 1 + 1) 24 (adr sa ab) := by rw [← hs1]; exact hW2 ▸ Blk.new W1 _ _
  have HW0 := Lib.hid hW0.symm
  have HW1 := Lib.hid hW1.symm
  have HW2 := Lib.hid hW2.symm
  have Hb : Hid (Below w.heap.size w W2) := Lib.hid (bel2 (bel2 hb0 hb1) hb2)
  have H2 : Hid (Blk W2 (w.heap.size) 48 (cid cs cb n) ∧ Blk W2 (w.heap.size + 1) 48 (cid ds db m) ∧ Blk W2 (w.heap.size + 1 + 1) 24 (adr sa ab) ∧ Env3 EA ER W2 ∧ Below w.heap.size w W2) := Lib.hid ⟨(hB0.kept hb1).kept hb2, hB1.kept hb2, hB2, hE3.kept Hb.out, Hb.out⟩
  have HE := Lib.hid (hE.kept Hb.out)
  have LC := Lib.hid hlc
  have L18c : Hid (18 = (cid cs cb n).size) := Lib.hid (by rw [cid_size, hlc])
  have L18d : Hid (18 = (cid ds db m).size) := Lib.hid (by rw [cid_size, hld])
  have L17 : Hid (17 = (adr sa ab).size) := Lib.hid (by rw [adr_size, hla])
  have C0 := Lib.hid c0
  have C1 := Lib.hid c1
  have C2 := Lib.hid c2
  have C3 := Lib.hid c3
  have C4 := Lib.hid c4
  have C5 := Lib.hid c5
  have C6 := Lib.hid c6
  have C7 := Lib.hid c7
  have C8 := Lib.hid c8
  have CN := Lib.hid cN
  have CW := Lib.hid cW
  have L18o : Hid (18 = (cid false z16 0).size) := Lib.hid rfl
  have hq : ∀ w, (binOp .eql 48 (.agg (cid false z16 0)) (.agg #[.bool false, .int .u8 0, .int .u8 0, .int .u8 0, .int .u8 0, .int .u8 0, .int .u8 0, .int .u8 0, .int .u8 0, .int .u8 0, .int .u8 0, .int .u8 0, .int .u8 0, .int .u8 0, .int .u8 0, .int .u8 0, .int .u8 0, .int .i64 0])).run Tryz.prog w = .ok (.bool true) w := fun w => eql_cid false false z16 z16 0 0 rfl rfl w
  clear hW0 hW1 hW2 hB0 hb0 hb1 hB1 hb2 hB2 hs0 hs1 hlc hld hla hE hE3 c0 c1 c2 c3 c4 c5 c6 c7 c8 cN cW
  go_enter Tryz.func5, Tryz.ntmps5
  go_upto_region 1 with fail
  rw [HW0.out]
  rw [HW1.out]
  rw [HW2.out]
  go_wp2_with fail
  refine (C0.out W2 HE.out H2.out.2.2.2.1).mono ?_
  rintro e w1 ⟨rfl, hb1⟩
  have hS0 : Blk w1.drew (w.heap.size) 48 (cid cs cb n) ∧ Blk w1.drew (w.heap.size + 1) 48 (cid ds db m) ∧ Blk w1.drew (w.heap.size + 1 + 1) 24 (adr sa ab) ∧ Env3 EA ER w1.drew ∧ Below w.heap.size w w1.drew := by
    obtain ⟨h1, h2, h3, h4, h5⟩ := H2.out
    have hbd := bel2 hb1 (below_drewN w1 1)
    exact ⟨h1.kept hbd, h2.kept hbd, h3.kept hbd, h4.kept hbd, bel2 h5 hbd⟩
  clear hb1 H2 C0
  go_wp2_with fail
  refine wp_region_held_drew (S := fun w' => Blk w' (w.heap.size) 48 (cid cs cb n) ∧ Blk w' (w.heap.size + 1) 48 (cid ds db m) ∧ Blk w' (w.heap.size + 1 + 1) 24 (adr sa ab) ∧ Env3 EA ER w' ∧ Below w.heap.size w w') (by kernel_rfl) hS0 (fun hS => ?_)
  change wpAnyH _ _ _ _ _ 25 #[false, false, false, false, false, false, false, false, false, false, false, false, false, false, false, false, false, false, false, false, false, false, false, false, false] _ _
  refine wpAnyH_take (i := 0) (v := .agg (cid cs cb n)) rfl (by kernel_rfl) (by kernel_rfl) (by kernel_rfl) (fun _ _ _ h => h) (yields_load 48 (.tmp 3) rfl (w.heap.size) (by kernel_rfl) _ _ _ (fun w h => h.1) Tryz.underlying48 rfl 18 Tryz.infoCidr L18c.out (by kernel_rfl)) hS ?_
  simp only [List.getElem_toArray, List.getElem_cons_zero, List.getElem_cons_succ, Act.put, List.setIfInBounds_toArray, List.set_cons_zero, List.set_cons_succ]
  refine wpAnyH_take (i := 1) (v := .agg (adr sa ab)) rfl (by kernel_rfl) (by kernel_rfl) (by kernel_rfl) (fun _ _ _ h => h) (yields_load 24 (.tmp 5) rfl (w.heap.size + 1 + 1) (by kernel_rfl) _ _ _ (fun w h => h.2.2.1) Tryz.underlying24 rfl 17 Tryz.infoAddr L17.out (by kernel_rfl)) hS ?_
  simp only [List.getElem_toArray, List.getElem_cons_zero, List.getElem_cons_succ, Act.put, List.setIfInBounds_toArray, List.set_cons_zero, List.set_cons_succ]
  refine wpAnyH_take (i := 3) (v := .agg (cid cs cb n)) rfl (by kernel_rfl) (by kernel_rfl) (by kernel_rfl) (fun _ _ _ h => h) (yields_load 48 (.tmp 3) rfl (w.heap.size) (by kernel_rfl) _ _ _ (fun w h => h.1) Tryz.underlying48 rfl 18 Tryz.infoCidr L18c.out (by kernel_rfl)) hS ?_
  simp only [List.getElem_toArray, List.getElem_cons_zero, List.getElem_cons_succ, Act.put, List.setIfInBounds_toArray, List.set_cons_zero, List.set_cons_succ]
  refine wpAnyH_take (i := 4) (v := .agg (adr sa ab)) rfl (by kernel_rfl) (by kernel_rfl) (by kernel_rfl) (fun _ _ _ h => h) (yields_load 24 (.tmp 5) rfl (w.heap.size + 1 + 1) (by kernel_rfl) _ _ _ (fun w h => h.2.2.1) Tryz.underlying24 rfl 17 Tryz.infoAddr L17.out (by kernel_rfl)) hS ?_
  simp only [List.getElem_toArray, List.getElem_cons_zero, List.getElem_cons_succ, Act.put, List.setIfInBounds_toArray, List.set_cons_zero, List.set_cons_succ]
  refine wpAnyH_ready (rs := [2]) (by kernel_rfl) (by simp) ?_
  refine AllReadyH.cons rfl (fun K' hK => ?_) AllReadyH.nil
  refine step_call 30 #[.agg (cid cs cb n), .agg (adr sa ab)] (by kernel_rfl) (by kernel_rfl) (.bool K) (C1.out _ hS.2.2.2.1) (fun w2 hb2 => hK.out _ _ (⟨hS.1.kept hb2, hS.2.1.kept hb2, hS.2.2.1.kept hb2, hS.2.2.2.1.kept hb2, bel2 hS.2.2.2.2 hb2⟩) (fun hS => ?_))
  simp only [List.getElem_toArray, List.getElem_cons_zero, List.getElem_cons_succ, Act.put, List.setIfInBounds_toArray, List.set_cons_zero, List.set_cons_succ]
  refine wpAnyH_ready (rs := [5]) (by kernel_rfl) (by simp) ?_
  refine AllReadyH.cons rfl (fun K' hK => ?_) AllReadyH.nil
  refine step_call 31 #[.agg (cid cs cb n), .agg (adr sa ab)] (by kernel_rfl) (by kernel_rfl) (.bool K) (C2.out _) (fun w3 hb3 => hK.out _ _ (⟨hS.1.kept hb3, hS.2.1.kept hb3, hS.2.2.1.kept hb3, hS.2.2.2.1.kept hb3, bel2 hS.2.2.2.2 hb3⟩) (fun hS => ?_))
  simp only [List.getElem_toArray, List.getElem_cons_zero, List.getElem_cons_succ, Act.put, List.setIfInBounds_toArray, List.set_cons_zero, List.set_cons_succ]
  refine wpAnyH_take (i := 6) (v := .bool false) rfl (by kernel_rfl) (by kernel_rfl) (by kernel_rfl) (fun _ _ _ h => h) (.inl ⟨by kernel_rfl, fun w _ => by cases K <;> kernel_rfl⟩) hS ?_
  simp only [List.getElem_toArray, List.getElem_cons_zero, List.getElem_cons_succ, Act.put, List.setIfInBounds_toArray, List.set_cons_zero, List.set_cons_succ]
  refine wpAnyH_take (i := 7) (v := .bool false) rfl (by kernel_rfl) (by kernel_rfl) (by kernel_rfl) (fun _ _ _ h => h) (.inl ⟨by kernel_rfl, fun w _ => by kernel_rfl⟩) hS ?_
  simp only [List.getElem_toArray, List.getElem_cons_zero, List.getElem_cons_succ, Act.put, List.setIfInBounds_toArray, List.set_cons_zero, List.set_cons_succ]
  refine wpAnyH_take (i := 8) (v := .agg (cid cs cb n)) rfl (by kernel_rfl) (by kernel_rfl) (by kernel_rfl) (fun _ _ _ h => h) (yields_load 48 (.tmp 3) rfl (w.heap.size) (by kernel_rfl) _ _ _ (fun w h => h.1) Tryz.underlying48 rfl 18 Tryz.infoCidr L18c.out (by kernel_rfl)) hS ?_
  simp only [List.getElem_toArray, List.getElem_cons_zero, List.getElem_cons_succ, Act.put, List.setIfInBounds_toArray, List.set_cons_zero, List.set_cons_succ]
  refine wpAnyH_take (i := 9) (v := .agg (cid ds db m)) rfl (by kernel_rfl) (by kernel_rfl) (by kernel_rfl) (fun _ _ _ h => h) (yields_load 48 (.tmp 4) rfl (w.heap.size + 1) (by kernel_rfl) _ _ _ (fun w h => h.2.1) Tryz.underlying48 rfl 18 Tryz.infoCidr L18d.out (by kernel_rfl)) hS ?_
  simp only [List.getElem_toArray, List.getElem_cons_zero, List.getElem_cons_succ, Act.put, List.setIfInBounds_toArray, List.set_cons_zero, List.set_cons_succ]
  refine wpAnyH_take (i := 11) (v := .agg (cid cs cb n)) rfl (by kernel_rfl) (by kernel_rfl) (by kernel_rfl) (fun _ _ _ h => h) (yields_load 48 (.tmp 3) rfl (w.heap.size) (by kernel_rfl) _ _ _ (fun w h => h.1) Tryz.underlying48 rfl 18 Tryz.infoCidr L18c.out (by kernel_rfl)) hS ?_
  simp only [List.getElem_toArray, List.getElem_cons_zero, List.getElem_cons_succ, Act.put, List.setIfInBounds_toArray, List.set_cons_zero, List.set_cons_succ]
  refine wpAnyH_take (i := 12) (v := .agg (cid ds db m)) rfl (by kernel_rfl) (by kernel_rfl) (by kernel_rfl) (fun _ _ _ h => h) (yields_load 48 (.tmp 4) rfl (w.heap.size + 1) (by kernel_rfl) _ _ _ (fun w h => h.2.1) Tryz.underlying48 rfl 18 Tryz.infoCidr L18d.out (by kernel_rfl)) hS ?_
  simp only [List.getElem_toArray, List.getElem_cons_zero, List.getElem_cons_succ, Act.put, List.setIfInBounds_toArray, List.set_cons_zero, List.set_cons_succ]
  refine wpAnyH_ready (rs := [10]) (by kernel_rfl) (by simp) ?_
  refine AllReadyH.cons rfl (fun K' hK => ?_) AllReadyH.nil
  rw [if_pos (by kernel_rfl)]
  refine op_call2 32 #[.agg (cid cs cb n), .agg (cid ds db m)] (by kernel_rfl) (.bool V) (C3.out _ hS.2.2.2.1) (fun w4 hb4 => hK.out _ _ (⟨hS.1.kept hb4, hS.2.1.kept hb4, hS.2.2.1.kept hb4, hS.2.2.2.1.kept hb4, bel2 hS.2.2.2.2 hb4⟩) (fun hS => ?_))
  simp only [List.getElem_toArray, List.getElem_cons_zero, List.getElem_cons_succ, Act.put, List.setIfInBounds_toArray, List.set_cons_zero, List.set_cons_succ]
  refine wpAnyH_ready (rs := [13]) (by kernel_rfl) (by simp) ?_
  refine AllReadyH.cons rfl (fun K' hK => ?_) AllReadyH.nil
  rw [if_pos (by kernel_rfl)]
  refine op_call2 33 #[.agg (cid cs cb n), .agg (cid ds db m)] (by kernel_rfl) (.bool V) (C4.out _) (fun w5 hb5 => hK.out _ _ (⟨hS.1.kept hb5, hS.2.1.kept hb5, hS.2.2.1.kept hb5, hS.2.2.2.1.kept hb5, bel2 hS.2.2.2.2 hb5⟩) (fun hS => ?_))
  simp only [List.getElem_toArray, List.getElem_cons_zero, List.getElem_cons_succ, Act.put, List.setIfInBounds_toArray, List.set_cons_zero, List.set_cons_succ]
  refine wpAnyH_take (i := 14) (v := .bool false) rfl (by kernel_rfl) (by kernel_rfl) (by kernel_rfl) (fun _ _ _ h => h) (.inl ⟨by kernel_rfl, fun w _ => by cases V <;> kernel_rfl⟩) hS ?_
  simp only [List.getElem_toArray, List.getElem_cons_zero, List.getElem_cons_succ, Act.put, List.setIfInBounds_toArray, List.set_cons_zero, List.set_cons_succ]
  refine wpAnyH_take (i := 15) (v := .bool false) rfl (by kernel_rfl) (by kernel_rfl) (by kernel_rfl) (fun _ _ _ h => h) (.inl ⟨by kernel_rfl, fun w _ => by kernel_rfl⟩) hS ?_
  simp only [List.getElem_toArray, List.getElem_cons_zero, List.getElem_cons_succ, Act.put, List.setIfInBounds_toArray, List.set_cons_zero, List.set_cons_succ]
  refine wpAnyH_take (i := 16) (v := .bool false) rfl (by kernel_rfl) (by kernel_rfl) (by kernel_rfl) (fun _ _ _ h => h) (.inl ⟨by kernel_rfl, fun w _ => by kernel_rfl⟩) hS ?_
  simp only [List.getElem_toArray, List.getElem_cons_zero, List.getElem_cons_succ, Act.put, List.setIfInBounds_toArray, List.set_cons_zero, List.set_cons_succ]
  refine wpAnyH_take (i := 17) (v := .agg (cid cs cb n)) rfl (by kernel_rfl) (by kernel_rfl) (by kernel_rfl) (fun _ _ _ h => h) (yields_load 48 (.tmp 3) rfl (w.heap.size) (by kernel_rfl) _ _ _ (fun w h => h.1) Tryz.underlying48 rfl 18 Tryz.infoCidr L18c.out (by kernel_rfl)) hS ?_
  simp only [List.getElem_toArray, List.getElem_cons_zero, List.getElem_cons_succ, Act.put, List.setIfInBounds_toArray, List.set_cons_zero, List.set_cons_succ]
  refine wpAnyH_take (i := 18) (v := .agg (cid ds db m)) rfl (by kernel_rfl) (by kernel_rfl) (by kernel_rfl) (fun _ _ _ h => h) (yields_load 48 (.tmp 4) rfl (w.heap.size + 1) (by kernel_rfl) _ _ _ (fun w h => h.2.1) Tryz.underlying48 rfl 18 Tryz.infoCidr L18d.out (by kernel_rfl)) hS ?_
  simp only [List.getElem_toArray, List.getElem_cons_zero, List.getElem_cons_succ, Act.put, List.setIfInBounds_toArray, List.set_cons_zero, List.set_cons_succ]
  refine wpAnyH_take (i := 20) (v := .agg (cid cs cb n)) rfl (by kernel_rfl) (by kernel_rfl) (by kernel_rfl) (fun _ _ _ h => h) (yields_load 48 (.tmp 3) rfl (w.heap.size) (by kernel_rfl) _ _ _ (fun w h => h.1) Tryz.underlying48 rfl 18 Tryz.infoCidr L18c.out (by kernel_rfl)) hS ?_
  simp only [List.getElem_toArray, List.getElem_cons_zero, List.getElem_cons_succ, Act.put, List.setIfInBounds_toArray, List.set_cons_zero, List.set_cons_succ]
  refine wpAnyH_take (i := 21) (v := .agg (cid ds db m)) rfl (by kernel_rfl) (by kernel_rfl) (by kernel_rfl) (fun _ _ _ h => h) (yields_load 48 (.tmp 4) rfl (w.heap.size + 1) (by kernel_rfl) _ _ _ (fun w h => h.2.1) Tryz.underlying48 rfl 18 Tryz.infoCidr L18d.out (by kernel_rfl)) hS ?_
  simp only [List.getElem_toArray, List.getElem_cons_zero, List.getElem_cons_succ, Act.put, List.setIfInBounds_toArray, List.set_cons_zero, List.set_cons_succ]
  refine wpAnyH_ready (rs := [19]) (by kernel_rfl) (by simp) ?_
  refine AllReadyH.cons rfl (fun K' hK => ?_) AllReadyH.nil
  rw [if_pos (by kernel_rfl)]
  refine op_call2 34 #[.agg (cid cs cb n), .agg (cid ds db m)] (by kernel_rfl) (.int .i64 M) (C5.out _) (fun w6 hb6 => hK.out _ _ (⟨hS.1.kept hb6, hS.2.1.kept hb6, hS.2.2.1.kept hb6, hS.2.2.2.1.kept hb6, bel2 hS.2.2.2.2 hb6⟩) (fun hS => ?_))
  simp only [List.getElem_toArray, List.getElem_cons_zero, List.getElem_cons_succ, Act.put, List.setIfInBounds_toArray, List.set_cons_zero, List.set_cons_succ]
  refine wpAnyH_ready (rs := [22]) (by kernel_rfl) (by simp) ?_
  refine AllReadyH.cons rfl (fun K' hK => ?_) AllReadyH.nil
  rw [if_pos (by kernel_rfl)]
  refine op_call2 35 #[.agg (cid cs cb n), .agg (cid ds db m)] (by kernel_rfl) (.int .i64 M) (C6.out _) (fun w7 hb7 => hK.out _ _ (⟨hS.1.kept hb7, hS.2.1.kept hb7, hS.2.2.1.kept hb7, hS.2.2.2.1.kept hb7, bel2 hS.2.2.2.2 hb7⟩) (fun hS => ?_))
  simp only [List.getElem_toArray, List.getElem_cons_zero, List.getElem_cons_succ, Act.put, List.setIfInBounds_toArray, List.set_cons_zero, List.set_cons_succ]
  refine wpAnyH_take (i := 23) (v := .bool false) rfl (by kernel_rfl) (by kernel_rfl) (by kernel_rfl) (fun _ _ _ h => h) (.inl ⟨by kernel_rfl, fun w _ => exec_neq_self 3 3 (.tmp 30) (.tmp 33) rfl M (by kernel_rfl) (by kernel_rfl)⟩) hS ?_
  simp only [List.getElem_toArray, List.getElem_cons_zero, List.getElem_cons_succ, Act.put, List.setIfInBounds_toArray, List.set_cons_zero, List.set_cons_succ]
  refine wpAnyH_take (i := 24) (v := .bool false) rfl (by kernel_rfl) (by kernel_rfl) (by kernel_rfl) (fun _ _ _ h => h) (.inl ⟨by kernel_rfl, fun w _ => by kernel_rfl⟩) hS ?_
  simp only [List.getElem_toArray, List.getElem_cons_zero, List.getElem_cons_succ, Act.put, List.setIfInBounds_toArray, List.set_cons_zero, List.set_cons_succ]
  refine wpAnyH_done (by kernel_rfl) ?_ _
  have HS := Lib.hid hS
  clear hS C1 C2 C3 C4 C5 C6
  have HBa : Hid (Blk w7 (w.heap.size + 1 + 1) 24 (adr sa ab)) := Lib.hid HS.out.2.2.1
  have cn : w7.cell? ⟨w.heap.size, 17, none⟩ = some (.int .i64 n) := cid_bitsCell HS.out.1 LC.out
  go_wp2_with (refine wpl_load 24 _ rfl (w.heap.size + 1 + 1) rfl _ _ _ HBa.out Tryz.underlying24 rfl 17 Tryz.infoAddr L17.out rfl ?_)
  refine (C7.out w7 HS.out.2.2.2.1).mono ?_
  rintro e w8 ⟨rfl, hb8⟩
  obtain ⟨W9, hW9⟩ : ∃ W, W = w8.alloc (.cells (cid false z16 0) 48) := ⟨_, rfl⟩
  have hB9 : Blk W9 w8.heap.size 48 (cid false z16 0) := hW9 ▸ Blk.new w8 _ _
  have hb9 : Below w8.heap.size w8 W9 := hW9 ▸ (Below.refl _ _).alloc (Nat.le_refl _) _
  have HW9 : Hid (w8.alloc (.cells #[.bool false, .int .u8 0, .int .u8 0, .int .u8 0, .int .u8 0, .int .u8 0, .int .u8 0, .int .u8 0, .int .u8 0, .int .u8 0, .int .u8 0, .int .u8 0, .int .u8 0, .int .u8 0, .int .u8 0, .int .u8 0, .int .u8 0, .int .i64 0] 48) = W9) := Lib.hid hW9.symm
  have HB9 := Lib.hid hB9
  obtain ⟨X, hX⟩ : ∃ X, X = W9.setRow w8.heap.size (cid false z16 0) := ⟨_, rfl⟩
  have HX := Lib.hid hX.symm
  have HSX : Hid ((Blk X (w.heap.size) 48 (cid cs cb n) ∧ Blk X (w.heap.size + 1) 48 (cid ds db m) ∧ Blk X (w.heap.size + 1 + 1) 24 (adr sa ab) ∧ Env3 EA ER X ∧ Below w.heap.size w X) ∧ Blk X w8.heap.size 48 (cid false z16 0) ∧ w.heap.size + 1 + 1 < w8.heap.size) := Lib.hid (by
    obtain ⟨h1, h2, h3, h4, h5⟩ := HS.out
    have hl := (h3.kept hb8).lt
    have h4' := h4.kept hb8
    refine ⟨⟨?_, ?_, ?_, ?_, ?_⟩, ?_, hl⟩
    · exact hX ▸ ((h1.kept hb8).kept hb9).rowOther (by omega) _
    · exact hX ▸ ((h2.kept hb8).kept hb9).rowOther (by omega) _
    · exact hX ▸ ((h3.kept hb8).kept hb9).rowOther (by omega) _
    · exact hX ▸ h4'.kept (below_setRow hb9 (Nat.le_refl _) _)
    · exact hX ▸ below_setRow (bel2 (bel2 h5 hb8) hb9) (by omega) _
    · exact hX ▸ hB9.row _)
  have HBa9 : Hid (Blk X (w.heap.size + 1 + 1) 24 (adr sa ab)) := Lib.hid HSX.out.1.2.2.1
  clear hb8 hW9 hB9 hb9 hX HS HBa cn
  go_wp2_with ((try rw [HW9.out]); first | (refine wpl_store 48 _ _ rfl w8.heap.size (cid false z16 0) rfl rfl _ _ HB9.out 18 Tryz.infoCidr L18o.out rfl (cid_one _ _ _) rfl ?_; rw [HX.out]) | (refine wpl_load 24 _ rfl (w.heap.size + 1 + 1) rfl _ _ _ HBa9.out Tryz.underlying24 rfl 17 Tryz.infoAddr L17.out rfl ?_))
  refine (C8.out X).mono ?_
  rintro e w10 ⟨rfl, hb10⟩
  have HST : Hid ((Blk w10 (w.heap.size) 48 (cid cs cb n) ∧ Blk w10 (w.heap.size + 1) 48 (cid ds db m) ∧ Blk w10 (w.heap.size + 1 + 1) 24 (adr sa ab) ∧ Env3 EA ER w10 ∧ Below w.heap.size w w10) ∧ Blk w10 w8.heap.size 48 (cid false z16 0)) := Lib.hid (by
    obtain ⟨⟨h1, h2, h3, h4, h5⟩, h6, _⟩ := HSX.out
    exact ⟨⟨h1.kept hb10, h2.kept hb10, h3.kept hb10, h4.kept hb10, bel2 h5 hb10⟩, h6.kept hb10⟩)
  have HBO : Hid (Blk w10 w8.heap.size 48 (cid false z16 0)) := Lib.hid HST.out.2
  clear hb10 HSX HBa9
  have hS8 : (Blk w10.drew (w.heap.size) 48 (cid cs cb n) ∧ Blk w10.drew (w.heap.size + 1) 48 (cid ds db m) ∧ Blk w10.drew (w.heap.size + 1 + 1) 24 (adr sa ab) ∧ Env3 EA ER w10.drew ∧ Below w.heap.size w w10.drew) ∧ Blk w10.drew w8.heap.size 48 (cid false z16 0) := by
    obtain ⟨⟨h1, h2, h3, h4, h5⟩, h6⟩ := HST.out
    have hbd := below_drewN w10 1
    exact ⟨⟨h1.kept hbd, h2.kept hbd, h3.kept hbd, h4.kept hbd, bel2 h5 hbd⟩, h6.kept hbd⟩
  clear HST HBO
  go_wp2_with fail
  refine wp_region_held_drew (S := fun w' => (Blk w' (w.heap.size) 48 (cid cs cb n) ∧ Blk w' (w.heap.size + 1) 48 (cid ds db m) ∧ Blk w' (w.heap.size + 1 + 1) 24 (adr sa ab) ∧ Env3 EA ER w' ∧ Below w.heap.size w w') ∧ Blk w' w8.heap.size 48 (cid false z16 0)) (by kernel_rfl) hS8 (fun hS => ?_)
  change wpAnyH _ _ _ _ _ 10 #[false, false, false, false, false, false, false, false, false, false] _ _
  refine wpAnyH_take (i := 0) (v := .pointer (some ⟨w.heap.size, 17, none⟩)) rfl (by kernel_rfl) (by kernel_rfl) (by kernel_rfl) (fun _ _ _ h => h) (.inl ⟨by kernel_rfl, fun w _ => by kernel_rfl⟩) hS ?_
  simp only [List.getElem_toArray, List.getElem_cons_zero, List.getElem_cons_succ, Act.put, List.setIfInBounds_toArray, List.set_cons_zero, List.set_cons_succ]
  refine wpAnyH_take (i := 1) (v := .int .i64 n) rfl (by kernel_rfl) (by kernel_rfl) (by kernel_rfl) (fun _ _ _ h => h) (yields_cell (.tmp 54) rfl (w.heap.size) 17 (by kernel_rfl) n (fun w h => cid_bitsCell h.1.1 LC.out) (by kernel_rfl)) hS ?_
  simp only [List.getElem_toArray, List.getElem_cons_zero, List.getElem_cons_succ, Act.put, List.setIfInBounds_toArray, List.set_cons_zero, List.set_cons_succ]
  refine wpAnyH_take (i := 2) (v := .bool false) rfl (by kernel_rfl) (by kernel_rfl) (by kernel_rfl) (fun _ _ _ h => h) (.inl ⟨by kernel_rfl, fun w _ => exec_lss 3 3 (.tmp 55) (.const (.int .i64 0)) rfl n 0 (by kernel_rfl) (by kernel_rfl) false hlt⟩) hS ?_
  simp only [List.getElem_toArray, List.getElem_cons_zero, List.getElem_cons_succ, Act.put, List.setIfInBounds_toArray, List.set_cons_zero, List.set_cons_succ]
  refine wpAnyH_take (i := 3) (v := .bool false) rfl (by kernel_rfl) (by kernel_rfl) (by kernel_rfl) (fun _ _ _ h => h) (.inl ⟨by kernel_rfl, fun w _ => by kernel_rfl⟩) hS ?_
  simp only [List.getElem_toArray, List.getElem_cons_zero, List.getElem_cons_succ, Act.put, List.setIfInBounds_toArray, List.set_cons_zero, List.set_cons_succ]
  refine wpAnyH_take (i := 4) (v := .pointer (some ⟨w.heap.size, 17, none⟩)) rfl (by kernel_rfl) (by kernel_rfl) (by kernel_rfl) (fun _ _ _ h => h) (.inl ⟨by kernel_rfl, fun w _ => by kernel_rfl⟩) hS ?_
  simp only [List.getElem_toArray, List.getElem_cons_zero, List.getElem_cons_succ, Act.put, List.setIfInBounds_toArray, List.set_cons_zero, List.set_cons_succ]
  refine wpAnyH_take (i := 5) (v := .int .i64 n) rfl (by kernel_rfl) (by kernel_rfl) (by kernel_rfl) (fun _ _ _ h => h) (yields_cell (.tmp 58) rfl (w.heap.size) 17 (by kernel_rfl) n (fun w h => cid_bitsCell h.1.1 LC.out) (by kernel_rfl)) hS ?_
  simp only [List.getElem_toArray, List.getElem_cons_zero, List.getElem_cons_succ, Act.put, List.setIfInBounds_toArray, List.set_cons_zero, List.set_cons_succ]
  refine wpAnyH_take (i := 6) (v := .agg (adr sa ab)) rfl (by kernel_rfl) (by kernel_rfl) (by kernel_rfl) (fun _ _ _ h => h) (yields_load 24 (.tmp 5) rfl (w.heap.size + 1 + 1) (by kernel_rfl) _ _ _ (fun w h => h.1.2.2.1) Tryz.underlying24 rfl 17 Tryz.infoAddr L17.out (by kernel_rfl)) hS ?_
  simp only [List.getElem_toArray, List.getElem_cons_zero, List.getElem_cons_succ, Act.put, List.setIfInBounds_toArray, List.set_cons_zero, List.set_cons_succ]
  refine wpAnyH_ready (rs := [7]) (by kernel_rfl) (by simp) ?_
  refine AllReadyH.cons rfl (fun K' hK => ?_) AllReadyH.nil
  rw [if_pos (by kernel_rfl)]
  refine op_call2 37 #[.agg (adr sa ab)] (by kernel_rfl) (.int .i64 (wd : Int)) (CW.out _) (fun w11 hb11 => hK.out _ _ (⟨⟨hS.1.1.kept hb11, hS.1.2.1.kept hb11, hS.1.2.2.1.kept hb11, hS.1.2.2.2.1.kept hb11, bel2 hS.1.2.2.2.2 hb11⟩, hS.2.kept hb11⟩) (fun hS => ?_))
  simp only [List.getElem_toArray, List.getElem_cons_zero, List.getElem_cons_succ, Act.put, List.setIfInBounds_toArray, List.set_cons_zero, List.set_cons_succ]
  refine wpAnyH_take (i := 8) (v := .bool true) rfl (by kernel_rfl) (by kernel_rfl) (by kernel_rfl) (fun _ _ _ h => h) (.inl ⟨by kernel_rfl, fun w _ => exec_gtr 3 3 (.tmp 59) (.tmp 61) rfl n wd (by kernel_rfl) (by kernel_rfl) true hgt⟩) hS ?_
  simp only [List.getElem_toArray, List.getElem_cons_zero, List.getElem_cons_succ, Act.put, List.setIfInBounds_toArray, List.set_cons_zero, List.set_cons_succ]
  refine wpAnyH_take (i := 9) (v := .bool true) rfl (by kernel_rfl) (by kernel_rfl) (by kernel_rfl) (fun _ _ _ h => h) (.inl ⟨by kernel_rfl, fun w _ => by kernel_rfl⟩) hS ?_
  simp only [List.getElem_toArray, List.getElem_cons_zero, List.getElem_cons_succ, Act.put, List.setIfInBounds_toArray, List.set_cons_zero, List.set_cons_succ]
  refine wpAnyH_done (by kernel_rfl) ?_ _
  obtain ⟨wz, hwz⟩ : ∃ wz, wz = w11 := ⟨_, rfl⟩
  have HZ : Hid (Below w.heap.size w wz) := Lib.hid (hwz ▸ hS.1.2.2.2.2)
  have HBO : Hid (Blk wz w8.heap.size 48 (cid false z16 0)) := Lib.hid (hwz ▸ hS.2)
  have HbZ := HZ
  rw [← hwz]
  clear hwz hS
  go_wp2_with (refine wpl_load 48 _ rfl w8.heap.size rfl _ _ _ HBO.out Tryz.underlying48 rfl 18 Tryz.infoCidr L18o.out rfl ?_)
  refine (CN.out wz HZ.out).mono ?_
  rintro e w11 ⟨rfl, hb11⟩
  go_wp2
  go_ret
  exact ⟨rfl, bel2 HbZ.out hb11⟩

set_option linter.unusedSimpArgs false in
set_option maxRecDepth 100000 in
set_option maxHeartbeats 8000000 in
theorem con_D (cs ds sa : Bool) (cb db ab : List Int) (hlc : cb.length = 16) (hld : db.length = 16) (hla : ab.length = 16) (n m : Int) (K V : Bool) (M : Int) (E EA ER : Value) (w : World) (hE : Env E w) (hE3 : Env3 EA ER w)
    (ob : List Int) (hlo : ob.length = 16)
    (c0 : ∀ w, Env E w → Env3 EA ER w → Calls Tryz.prog 23 #[] w fun e w' => e = .returned (.bool true) ∧ Below w.heap.size w w')
    (c1 : ∀ w, Env3 EA ER w → Calls Tryz.prog 30 #[.agg (cid cs cb n), .agg (adr sa ab)] w fun e w' => e = .returned (.bool K) ∧ Below w.heap.size w w')
    (c2 : ∀ w, Calls Tryz.prog 31 #[.agg (cid cs cb n), .agg (adr sa ab)] w fun e w' => e = .returned (.bool K) ∧ Below w.heap.size w w')
    (c3 : ∀ w, Env3 EA ER w → Calls Tryz.prog 32 #[.agg (cid cs cb n), .agg (cid ds db m)] w fun e w' => e = .returned (.bool V) ∧ Below w.heap.size w w')
    (c4 : ∀ w, Calls Tryz.prog 33 #[.agg (cid cs cb n), .agg (cid ds db m)] w fun e w' => e = .returned (.bool V) ∧ Below w.heap.size w w')
    (c5 : ∀ w, Calls Tryz.prog 34 #[.agg (cid cs cb n), .agg (cid ds db m)] w fun e w' => e = .returned (.int .i64 M) ∧ Below w.heap.size w w')
    (c6 : ∀ w, Calls Tryz.prog 35 #[.agg (cid cs cb n), .agg (cid ds db m)] w fun e w' => e = .returned (.int .i64 M) ∧ Below w.heap.size w w')
    (c7 : ∀ w, Env3 EA ER w → Calls Tryz.prog 36 #[.agg (adr sa ab), .int .i64 n] w fun e w' => e = .returned (.tuple #[.agg (cid sa ob n), .nilIface]) ∧ Below w.heap.size w w')
    (c8 : ∀ w, Calls Tryz.prog 16 #[.agg (adr sa ab)] w fun e w' => e = .returned (.bool true) ∧ Below w.heap.size w w')
    (cU : ∀ w, Calls Tryz.prog 38 #[.agg (adr sa ab), .int .i64 n] w fun e w' => e = .returned (.agg (adr sa ob)) ∧ Below w.heap.size w w')
    (cX : ∀ w, Env3 EA ER w → Calls Tryz.prog 30 #[.agg (cid sa ob n), .agg (adr sa ab)] w fun e w' => e = .returned (.bool true) ∧ Below w.heap.size w w')
    (wd : Nat) (cW : ∀ w, Calls Tryz.prog 37 #[.agg (adr sa ab)] w fun e w' => e = .returned (.int .i64 (wd : Int)) ∧ Below w.heap.size w w') (hlt : decide (n < 0) = false) (hgt : decide (n > (wd : Int)) = false) :
    Calls Tryz.prog 5 #[.agg (cid cs cb n), .agg (cid ds db m), .agg (adr sa ab)] w fun e w' => e = .returned (.bool true) ∧ Below w.heap.size w w' := by
  obtain ⟨W0, hW0⟩ : ∃ W, W = w.alloc (.cells (cid cs cb n) 48) := ⟨_, rfl⟩
  obtain ⟨W1, hW1⟩ : ∃ W, W = W0.alloc (.cells (cid ds db m) 48) := ⟨_, rfl⟩
  obtain ⟨W2, hW2⟩ : ∃ W, W = W1.alloc (.cells (adr sa ab) 24) := ⟨_, rfl⟩
  have hB0 : Blk W0 w.heap.size 48 (cid cs cb n) := hW0 ▸ Blk.new w _ _
  have hb0 : Below w.heap.size w W0 := hW0 ▸ (Below.refl _ _).alloc (Nat.le_refl _) _
  have hs0 : W0.heap.size = w.heap.size + 1 := by rw [hW0]; simp
  have hb1 : Below W0.heap.size W0 W1 := hW1 ▸ (Below.refl _ _).alloc (Nat.le_refl _) _
  have hB1 : Blk W1 (w.heap.size + 1) 48 (cid ds db m) := by rw [← hs0]; exact hW1 ▸ Blk.new W0 _ _
  have hs1 : W1.heap.size = w.heap.size + 1 + 1 := by rw [hW1]; simp [hs0]
  have hb2 : Below W1.heap.size W1 W2 := hW2 ▸ (Below.refl _ _).alloc (Nat.le_refl _) _
  have hB2 : Blk W2 (w.heap.size + 1 + 1) 24 (adr sa ab) := by rw [← hs1]; exact hW2 ▸ Blk.new W1 _ _
  have HW0 := Lib.hid hW0.symm
  have HW1 := Lib.hid hW1.symm
  have HW2 := Lib.hid hW2.symm
  have Hb : Hid (Below w.heap.size w W2) := Lib.hid (bel2 (bel2 hb0 hb1) hb2)
  have H2 : Hid (Blk W2 (w.heap.size) 48 (cid cs cb n) ∧ Blk W2 (w.heap.size + 1) 48 (cid ds db m) ∧ Blk W2 (w.heap.size + 1 + 1) 24 (adr sa ab) ∧ Env3 EA ER W2 ∧ Below w.heap.size w W2) := Lib.hid ⟨(hB0.kept hb1).kept hb2, hB1.kept hb2, hB2, hE3.kept Hb.out, Hb.out⟩
  have HE := Lib.hid (hE.kept Hb.out)
  have LC := Lib.hid hlc
  have L18c : Hid (18 = (cid cs cb n).size) := Lib.hid (by rw [cid_size, hlc])
  have L18d : Hid (18 = (cid ds db m).size) := Lib.hid (by rw [cid_size, hld])
  have L17 : Hid (17 = (adr sa ab).size) := Lib.hid (by rw [adr_size, hla])
  have C0 := Lib.hid c0
  have C1 := Lib.hid c1
  have C2 := Lib.hid c2
  have C3 := Lib.hid c3
  have C4 := Lib.hid c4
  have C5 := Lib.hid c5
  have C6 := Lib.hid c6
  have C7 := Lib.hid c7
  have C8 := Lib.hid c8
  have CU := Lib.hid cU
  have CX := Lib.hid cX
  have CW := Lib.hid cW
  have LO := Lib.hid hlo
  have L18o : Hid (18 = (cid sa ob n).size) := Lib.hid (by rw [cid_size, hlo])
  clear hW0 hW1 hW2 hB0 hb0 hb1 hB1 hb2 hB2 hs0 hs1 hlc hld hla hE hE3 c0 c1 c2 c3 c4 c5 c6 c7 c8 cU cX cW hlo
  go_enter Tryz.func5, Tryz.ntmps5
  go_upto_region 1 with fail
  rw [HW0.out]
  rw [HW1.out]
  rw [HW2.out]
  go_wp2_with fail
  refine (C0.out W2 HE.out H2.out.2.2.2.1).mono ?_
  rintro e w1 ⟨rfl, hb1⟩
  have hS0 : Blk w1.drew (w.heap.size) 48 (cid cs cb n) ∧ Blk w1.drew (w.heap.size + 1) 48 (cid ds db m) ∧ Blk w1.drew (w.heap.size + 1 + 1) 24 (adr sa ab) ∧ Env3 EA ER w1.drew ∧ Below w.heap.size w w1.drew := by
    obtain ⟨h1, h2, h3, h4, h5⟩ := H2.out
    have hbd := bel2 hb1 (below_drewN w1 1)
    exact ⟨h1.kept hbd, h2.kept hbd, h3.kept hbd, h4.kept hbd, bel2 h5 hbd⟩
  clear hb1 H2 C0
  go_wp2_with fail
  refine wp_region_held_drew (S := fun w' => Blk w' (w.heap.size) 48 (cid cs cb n) ∧ Blk w' (w.heap.size + 1) 48 (cid ds db m) ∧ Blk w' (w.heap.size + 1 + 1) 24 (adr sa ab) ∧ Env3 EA ER w' ∧ Below w.heap.size w w') (by kernel_rfl) hS0 (fun hS => ?_)
  change wpAnyH _ _ _ _ _ 25 #[false, false, false, false, false, false, false, false, false, false, false, false, false, false, false, false, false, false, false, false, false, false, false, false, false] _ _
  refine wpAnyH_take (i := 0) (v := .agg (cid cs cb n)) rfl (by kernel_rfl) (by kernel_rfl) (by kernel_rfl) (fun _ _ _ h => h) (yields_load 48 (.tmp 3) rfl (w.heap.size) (by kernel_rfl) _ _ _ (fun w h => h.1) Tryz.underlying48 rfl 18 Tryz.infoCidr L18c.out (by kernel_rfl)) hS ?_
  simp only [List.getElem_toArray, List.getElem_cons_zero, List.getElem_cons_succ, Act.put, List.setIfInBounds_toArray, List.set_cons_zero, List.set_cons_succ]
  refine wpAnyH_take (i := 1) (v := .agg (adr sa ab)) rfl (by kernel_rfl) (by kernel_rfl) (by kernel_rfl) (fun _ _ _ h => h) (yields_load 24 (.tmp 5) rfl (w.heap.size + 1 + 1) (by kernel_rfl) _ _ _ (fun w h => h.2.2.1) Tryz.underlying24 rfl 17 Tryz.infoAddr L17.out (by kernel_rfl)) hS ?_
  simp only [List.getElem_toArray, List.getElem_cons_zero, List.getElem_cons_succ, Act.put, List.setIfInBounds_toArray, List.set_cons_zero, List.set_cons_succ]
  refine wpAnyH_take (i := 3) (v := .agg (cid cs cb n)) rfl (by kernel_rfl) (by kernel_rfl) (by kernel_rfl) (fun _ _ _ h => h) (yields_load 48 (.tmp 3) rfl (w.heap.size) (by kernel_rfl) _ _ _ (fun w h => h.1) Tryz.underlying48 rfl 18 Tryz.infoCidr L18c.out (by kernel_rfl)) hS ?_
  simp only [List.getElem_toArray, List.getElem_cons_zero, List.getElem_cons_succ, Act.put, List.setIfInBounds_toArray, List.set_cons_zero, List.set_cons_succ]
  refine wpAnyH_take (i := 4) (v := .agg (adr sa ab)) rfl (by kernel_rfl) (by kernel_rfl) (by kernel_rfl) (fun _ _ _ h => h) (yields_load 24 (.tmp 5) rfl (w.heap.size + 1 + 1) (by kernel_rfl) _ _ _ (fun w h => h.2.2.1) Tryz.underlying24 rfl 17 Tryz.infoAddr L17.out (by kernel_rfl)) hS ?_
  simp only [List.getElem_toArray, List.getElem_cons_zero, List.getElem_cons_succ, Act.put, List.setIfInBounds_toArray, List.set_cons_zero, List.set_cons_succ]
  refine wpAnyH_ready (rs := [2]) (by kernel_rfl) (by simp) ?_
  refine AllReadyH.cons rfl (fun K' hK => ?_) AllReadyH.nil
  refine step_call 30 #[.agg (cid cs cb n), .agg (adr sa ab)] (by kernel_rfl) (by kernel_rfl) (.bool K) (C1.out _ hS.2.2.2.1) (fun w2 hb2 => hK.out _ _ (⟨hS.1.kept hb2, hS.2.1.kept hb2, hS.2.2.1.kept hb2, hS.2.2.2.1.kept hb2, bel2 hS.2.2.2.2 hb2⟩) (fun hS => ?_))
  simp only [List.getElem_toArray, List.getElem_cons_zero, List.getElem_cons_succ, Act.put, List.setIfInBounds_toArray, List.set_cons_zero, List.set_cons_succ]
  refine wpAnyH_ready (rs := [5]) (by kernel_rfl) (by simp) ?_
  refine AllReadyH.cons rfl (fun K' hK => ?_) AllReadyH.nil
  refine step_call 31 #[.agg (cid cs cb n), .agg (adr sa ab)] (by kernel_rfl) (by kernel_rfl) (.bool K) (C2.out _) (fun w3 hb3 => hK.out _ _ (⟨hS.1.kept hb3, hS.2.1.kept hb3, hS.2.2.1.kept hb3, hS.2.2.2.1.kept hb3, bel2 hS.2.2.2.2 hb3⟩) (fun hS => ?_))
  simp only [List.getElem_toArray, List.getElem_cons_zero, List.getElem_cons_succ, Act.put, List.setIfInBounds_toArray, List.set_cons_zero, List.set_cons_succ]
  refine wpAnyH_take (i := 6) (v := .bool false) rfl (by kernel_rfl) (by kernel_rfl) (by kernel_rfl) (fun _ _ _ h => h) (.inl ⟨by kernel_rfl, fun w _ => by cases K <;> kernel_rfl⟩) hS ?_
  simp only [List.getElem_toArray, List.getElem_cons_zero, List.getElem_cons_succ, Act.put, List.setIfInBounds_toArray, List.set_cons_zero, List.set_cons_succ]
  refine wpAnyH_take (i := 7) (v := .bool false) rfl (by kernel_rfl) (by kernel_rfl) (by kernel_rfl) (fun _ _ _ h => h) (.inl ⟨by kernel_rfl, fun w _ => by kernel_rfl⟩) hS ?_
  simp only [List.getElem_toArray, List.getElem_cons_zero, List.getElem_cons_succ, Act.put, List.setIfInBounds_toArray, List.set_cons_zero, List.set_cons_succ]
  refine wpAnyH_take (i := 8) (v := .agg (cid cs cb n)) rfl (by kernel_rfl) (by kernel_rfl) (by kernel_rfl) (fun _ _ _ h => h) (yields_load 48 (.tmp 3) rfl (w.heap.size) (by kernel_rfl) _ _ _ (fun w h => h.1) Tryz.underlying48 rfl 18 Tryz.infoCidr L18c.out (by kernel_rfl)) hS ?_
  simp only [List.getElem_toArray, List.getElem_cons_zero, List.getElem_cons_succ, Act.put, List.setIfInBounds_toArray, List.set_cons_zero, List.set_cons_succ]
  refine wpAnyH_take (i := 9) (v := .agg (cid ds db m)) rfl (by kernel_rfl) (by kernel_rfl) (by kernel_rfl) (fun _ _ _ h => h) (yields_load 48 (.tmp 4) rfl (w.heap.size + 1) (by kernel_rfl) _ _ _ (fun w h => h.2.1) Tryz.underlying48 rfl 18 Tryz.infoCidr L18d.out (by kernel_rfl)) hS ?_
  simp only [List.getElem_toArray, List.getElem_cons_zero, List.getElem_cons_succ, Act.put, List.setIfInBounds_toArray, List.set_cons_zero, List.set_cons_succ]
  refine wpAnyH_take (i := 11) (v := .agg (cid cs cb n)) rfl (by kernel_rfl) (by kernel_rfl) (by kernel_rfl) (fun _ _ _ h => h) (yields_load 48 (.tmp 3) rfl (w.heap.size) (by kernel_rfl) _ _ _ (fun w h => h.1) Tryz.underlying48 rfl 18 Tryz.infoCidr L18c.out (by kernel_rfl)) hS ?_
  simp only [List.getElem_toArray, List.getElem_cons_zero, List.getElem_cons_succ, Act.put, List.setIfInBounds_toArray, List.set_cons_zero, List.set_cons_succ]
  refine wpAnyH_take (i := 12) (v := .agg (cid ds db m)) rfl (by kernel_rfl) (by kernel_rfl) (by kernel_rfl) (fun _ _ _ h => h) (yields_load 48 (.tmp 4) rfl (w.heap.size + 1) (by kernel_rfl) _ _ _ (fun w h => h.2.1) Tryz.underlying48 rfl 18 Tryz.infoCidr L18d.out (by kernel_rfl)) hS ?_
  simp only [List.getElem_toArray, List.getElem_cons_zero, List.getElem_cons_succ, Act.put, List.setIfInBounds_toArray, List.set_cons_zero, List.set_cons_succ]
  refine wpAnyH_ready (rs := [10]) (by kernel_rfl) (by simp) ?_
  refine AllReadyH.cons rfl (fun K' hK => ?_) AllReadyH.nil
  rw [if_pos (by kernel_rfl)]
  refine op_call2 32 #[.agg (cid cs cb n), .agg (cid ds db m)] (by kernel_rfl) (.bool V) (C3.out _ hS.2.2.2.1) (fun w4 hb4 => hK.out _ _ (⟨hS.1.kept hb4, hS.2.1.kept hb4, hS.2.2.1.kept hb4, hS.2.2.2.1.kept hb4, bel2 hS.2.2.2.2 hb4⟩) (fun hS => ?_))
  simp only [List.getElem_toArray, List.getElem_cons_zero, List.getElem_cons_succ, Act.put, List.setIfInBounds_toArray, List.set_cons_zero, List.set_cons_succ]
  refine wpAnyH_ready (rs := [13]) (by kernel_rfl) (by simp) ?_
  refine AllReadyH.cons rfl (fun K' hK => ?_) AllReadyH.nil
  rw [if_pos (by kernel_rfl)]
  refine op_call2 33 #[.agg (cid cs cb n), .agg (cid ds db m)] (by kernel_rfl) (.bool V) (C4.out _) (fun w5 hb5 => hK.out _ _ (⟨hS.1.kept hb5, hS.2.1.kept hb5, hS.2.2.1.kept hb5, hS.2.2.2.1.kept hb5, bel2 hS.2.2.2.2 hb5⟩) (fun hS => ?_))
  simp only [List.getElem_toArray, List.getElem_cons_zero, List.getElem_cons_succ, Act.put, List.setIfInBounds_toArray, List.set_cons_zero, List.set_cons_succ]
  refine wpAnyH_take (i := 14) (v := .bool false) rfl (by kernel_rfl) (by kernel_rfl) (by kernel_rfl) (fun _ _ _ h => h) (.inl ⟨by kernel_rfl, fun w _ => by cases V <;> kernel_rfl⟩) hS ?_
  simp only [List.getElem_toArray, List.getElem_cons_zero, List.getElem_cons_succ, Act.put, List.setIfInBounds_toArray, List.set_cons_zero, List.set_cons_succ]
  refine wpAnyH_take (i := 15) (v := .bool false) rfl (by kernel_rfl) (by kernel_rfl) (by kernel_rfl) (fun _ _ _ h => h) (.inl ⟨by kernel_rfl, fun w _ => by kernel_rfl⟩) hS ?_
  simp only [List.getElem_toArray, List.getElem_cons_zero, List.getElem_cons_succ, Act.put, List.setIfInBounds_toArray, List.set_cons_zero, List.set_cons_succ]
  refine wpAnyH_take (i := 16) (v := .bool false) rfl (by kernel_rfl) (by kernel_rfl) (by kernel_rfl) (fun _ _ _ h => h) (.inl ⟨by kernel_rfl, fun w _ => by kernel_rfl⟩) hS ?_
  simp only [List.getElem_toArray, List.getElem_cons_zero, List.getElem_cons_succ, Act.put, List.setIfInBounds_toArray, List.set_cons_zero, List.set_cons_succ]
  refine wpAnyH_take (i := 17) (v := .agg (cid cs cb n)) rfl (by kernel_rfl) (by kernel_rfl) (by kernel_rfl) (fun _ _ _ h => h) (yields_load 48 (.tmp 3) rfl (w.heap.size) (by kernel_rfl) _ _ _ (fun w h => h.1) Tryz.underlying48 rfl 18 Tryz.infoCidr L18c.out (by kernel_rfl)) hS ?_
  simp only [List.getElem_toArray, List.getElem_cons_zero, List.getElem_cons_succ, Act.put, List.setIfInBounds_toArray, List.set_cons_zero, List.set_cons_succ]
  refine wpAnyH_take (i := 18) (v := .agg (cid ds db m)) rfl (by kernel_rfl) (by kernel_rfl) (by kernel_rfl) (fun _ _ _ h => h) (yields_load 48 (.tmp 4) rfl (w.heap.size + 1) (by kernel_rfl) _ _ _ (fun w h => h.2.1) Tryz.underlying48 rfl 18 Tryz.infoCidr L18d.out (by kernel_rfl)) hS ?_
  simp only [List.getElem_toArray, List.getElem_cons_zero, List.getElem_cons_succ, Act.put, List.setIfInBounds_toArray, List.set_cons_zero, List.set_cons_succ]
  refine wpAnyH_take (i := 20) (v := .agg (cid cs cb n)) rfl (by kernel_rfl) (by kernel_rfl) (by kernel_rfl) (fun _ _ _ h => h) (yields_load 48 (.tmp 3) rfl (w.heap.size) (by kernel_rfl) _ _ _ (fun w h => h.1) Tryz.underlying48 rfl 18 Tryz.infoCidr L18c.out (by kernel_rfl)) hS ?_
  simp only [List.getElem_toArray, List.getElem_cons_zero, List.getElem_cons_succ, Act.put, List.setIfInBounds_toArray, List.set_cons_zero, List.set_cons_succ]
  refine wpAnyH_take (i := 21) (v := .agg (cid ds db m)) rfl (by kernel_rfl) (by kernel_rfl) (by kernel_rfl) (fun _ _ _ h => h) (yields_load 48 (.tmp 4) rfl (w.heap.size + 1) (by kernel_rfl) _ _ _ (fun w h => h.2.1) Tryz.underlying48 rfl 18 Tryz.infoCidr L18d.out (by kernel_rfl)) hS ?_
  simp only [List.getElem_toArray, List.getElem_cons_zero, List.getElem_cons_succ, Act.put, List.setIfInBounds_toArray, List.set_cons_zero, List.set_cons_succ]
  refine wpAnyH_ready (rs := [19]) (by kernel_rfl) (by simp) ?_
  refine AllReadyH.cons rfl (fun K' hK => ?_) AllReadyH.nil
  rw [if_pos (by kernel_rfl)]
  refine op_call2 34 #[.agg (cid cs cb n), .agg (cid ds db m)] (by kernel_rfl) (.int .i64 M) (C5.out _) (fun w6 hb6 => hK.out _ _ (⟨hS.1.kept hb6, hS.2.1.kept hb6, hS.2.2.1.kept hb6, hS.2.2.2.1.kept hb6, bel2 hS.2.2.2.2 hb6⟩) (fun hS => ?_))
  simp only [List.getElem_toArray, List.getElem_cons_zero, List.getElem_cons_succ, Act.put, List.setIfInBounds_toArray, List.set_cons_zero, List.set_cons_succ]
  refine wpAnyH_ready (rs := [22]) (by kernel_rfl) (by simp) ?_
  refine AllReadyH.cons rfl (fun K' hK => ?_) AllReadyH.nil
  rw [if_pos (by kernel_rfl)]
  refine op_call2 35 #[.agg (cid cs cb n), .agg (cid ds db m)] (by kernel_rfl) (.int .i64 M) (C6.out _) (fun w7 hb7 => hK.out _ _ (⟨hS.1.kept hb7, hS.2.1.kept hb7, hS.2.2.1.kept hb7, hS.2.2.2.1.kept hb7, bel2 hS.2.2.2.2 hb7⟩) (fun hS => ?_))
  simp only [List.getElem_toArray, List.getElem_cons_zero, List.getElem_cons_succ, Act.put, List.setIfInBounds_toArray, List.set_cons_zero, List.set_cons_succ]
  refine wpAnyH_take (i := 23) (v := .bool false) rfl (by kernel_rfl) (by kernel_rfl) (by kernel_rfl) (fun _ _ _ h => h) (.inl ⟨by kernel_rfl, fun w _ => exec_neq_self 3 3 (.tmp 30) (.tmp 33) rfl M (by kernel_rfl) (by kernel_rfl)⟩) hS ?_
  simp only [List.getElem_toArray, List.getElem_cons_zero, List.getElem_cons_succ, Act.put, List.setIfInBounds_toArray, List.set_cons_zero, List.set_cons_succ]
  refine wpAnyH_take (i := 24) (v := .bool false) rfl (by kernel_rfl) (by kernel_rfl) (by kernel_rfl) (fun _ _ _ h => h) (.inl ⟨by kernel_rfl, fun w _ => by kernel_rfl⟩) hS ?_
  simp only [List.getElem_toArray, List.getElem_cons_zero, List.getElem_cons_succ, Act.put, List.setIfInBounds_toArray, List.set_cons_zero, List.set_cons_succ]
  refine wpAnyH_done (by kernel_rfl) ?_ _
  have HS := Lib.hid hS
  clear hS C1 C2 C3 C4 C5 C6
  have HBa : Hid (Blk w7 (w.heap.size + 1 + 1) 24 (adr sa ab)) := Lib.hid HS.out.2.2.1
  have cn : w7.cell? ⟨w.heap.size, 17, none⟩ = some (.int .i64 n) := cid_bitsCell HS.out.1 LC.out
  go_wp2_with (refine wpl_load 24 _ rfl (w.heap.size + 1 + 1) rfl _ _ _ HBa.out Tryz.underlying24 rfl 17 Tryz.infoAddr L17.out rfl ?_)
  refine (C7.out w7 HS.out.2.2.2.1).mono ?_
  rintro e w8 ⟨rfl, hb8⟩
  obtain ⟨W9, hW9⟩ : ∃ W, W = w8.alloc (.cells (cid false z16 0) 48) := ⟨_, rfl⟩
  have hB9 : Blk W9 w8.heap.size 48 (cid false z16 0) := hW9 ▸ Blk.new w8 _ _
  have hb9 : Below w8.heap.size w8 W9 := hW9 ▸ (Below.refl _ _).alloc (Nat.le_refl _) _
  have HW9 : Hid (w8.alloc (.cells #[.bool false, .int .u8 0, .int .u8 0, .int .u8 0, .int .u8 0, .int .u8 0, .int .u8 0, .int .u8 0, .int .u8 0, .int .u8 0, .int .u8 0, .int .u8 0, .int .u8 0, .int .u8 0, .int .u8 0, .int .u8 0, .int .u8 0, .int .i64 0] 48) = W9) := Lib.hid hW9.symm
  have HB9 := Lib.hid hB9
  obtain ⟨X, hX⟩ : ∃ X, X = W9.setRow w8.heap.size (cid sa ob n) := ⟨_, rfl⟩
  have HX := Lib.hid hX.symm
  have HSX : Hid ((Blk X (w.heap.size) 48 (cid cs cb n) ∧ Blk X (w.heap.size + 1) 48 (cid ds db m) ∧ Blk X (w.heap.size + 1 + 1) 24 (adr sa ab) ∧ Env3 EA ER X ∧ Below w.heap.size w X) ∧ Blk X w8.heap.size 48 (cid sa ob n) ∧ w.heap.size + 1 + 1 < w8.heap.size) := Lib.hid (by
    obtain ⟨h1, h2, h3, h4, h5⟩ := HS.out
    have hl := (h3.kept hb8).lt
    have h4' := h4.kept hb8
    refine ⟨⟨?_, ?_, ?_, ?_, ?_⟩, ?_, hl⟩
    · exact hX ▸ ((h1.kept hb8).kept hb9).rowOther (by omega) _
    · exact hX ▸ ((h2.kept hb8).kept hb9).rowOther (by omega) _
    · exact hX ▸ ((h3.kept hb8).kept hb9).rowOther (by omega) _
    · exact hX ▸ h4'.kept (below_setRow hb9 (Nat.le_refl _) _)
    · exact hX ▸ below_setRow (bel2 (bel2 h5 hb8) hb9) (by omega) _
    · exact hX ▸ hB9.row _)
  have HBa9 : Hid (Blk X (w.heap.size + 1 + 1) 24 (adr sa ab)) := Lib.hid HSX.out.1.2.2.1
  clear hb8 hW9 hB9 hb9 hX HS HBa cn
  go_wp2_with ((try rw [HW9.out]); first | (refine wpl_store 48 _ _ rfl w8.heap.size (cid sa ob n) rfl rfl _ _ HB9.out 18 Tryz.infoCidr L18o.out rfl (cid_one _ _ _) rfl ?_; rw [HX.out]) | (refine wpl_load 24 _ rfl (w.heap.size + 1 + 1) rfl _ _ _ HBa9.out Tryz.underlying24 rfl 17 Tryz.infoAddr L17.out rfl ?_))
  refine (C8.out X).mono ?_
  rintro e w10 ⟨rfl, hb10⟩
  have HST : Hid ((Blk w10 (w.heap.size) 48 (cid cs cb n) ∧ Blk w10 (w.heap.size + 1) 48 (cid ds db m) ∧ Blk w10 (w.heap.size + 1 + 1) 24 (adr sa ab) ∧ Env3 EA ER w10 ∧ Below w.heap.size w w10) ∧ Blk w10 w8.heap.size 48 (cid sa ob n)) := Lib.hid (by
    obtain ⟨⟨h1, h2, h3, h4, h5⟩, h6, _⟩ := HSX.out
    exact ⟨⟨h1.kept hb10, h2.kept hb10, h3.kept hb10, h4.kept hb10, bel2 h5 hb10⟩, h6.kept hb10⟩)
  have HBO : Hid (Blk w10 w8.heap.size 48 (cid sa ob n)) := Lib.hid HST.out.2
  clear hb10 HSX HBa9
  have hS8 : (Blk w10.drew (w.heap.size) 48 (cid cs cb n) ∧ Blk w10.drew (w.heap.size + 1) 48 (cid ds db m) ∧ Blk w10.drew (w.heap.size + 1 + 1) 24 (adr sa ab) ∧ Env3 EA ER w10.drew ∧ Below w.heap.size w w10.drew) ∧ Blk w10.drew w8.heap.size 48 (cid sa ob n) := by
    obtain ⟨⟨h1, h2, h3, h4, h5⟩, h6⟩ := HST.out
    have hbd := below_drewN w10 1
    exact ⟨⟨h1.kept hbd, h2.kept hbd, h3.kept hbd, h4.kept hbd, bel2 h5 hbd⟩, h6.kept hbd⟩
  clear HST HBO
  go_wp2_with fail
  refine wp_region_held_drew (S := fun w' => (Blk w' (w.heap.size) 48 (cid cs cb n) ∧ Blk w' (w.heap.size + 1) 48 (cid ds db m) ∧ Blk w' (w.heap.size + 1 + 1) 24 (adr sa ab) ∧ Env3 EA ER w' ∧ Below w.heap.size w w') ∧ Blk w' w8.heap.size 48 (cid sa ob n)) (by kernel_rfl) hS8 (fun hS => ?_)
  change wpAnyH _ _ _ _ _ 10 #[false, false, false, false, false, false, false, false, false, false] _ _
  refine wpAnyH_take (i := 0) (v := .pointer (some ⟨w.heap.size, 17, none⟩)) rfl (by kernel_rfl) (by kernel_rfl) (by kernel_rfl) (fun _ _ _ h => h) (.inl ⟨by kernel_rfl, fun w _ => by kernel_rfl⟩) hS ?_
  simp only [List.getElem_toArray, List.getElem_cons_zero, List.getElem_cons_succ, Act.put, List.setIfInBounds_toArray, List.set_cons_zero, List.set_cons_succ]
  refine wpAnyH_take (i := 1) (v := .int .i64 n) rfl (by kernel_rfl) (by kernel_rfl) (by kernel_rfl) (fun _ _ _ h => h) (yields_cell (.tmp 54) rfl (w.heap.size) 17 (by kernel_rfl) n (fun w h => cid_bitsCell h.1.1 LC.out) (by kernel_rfl)) hS ?_
  simp only [List.getElem_toArray, List.getElem_cons_zero, List.getElem_cons_succ, Act.put, List.setIfInBounds_toArray, List.set_cons_zero, List.set_cons_succ]
  refine wpAnyH_take (i := 2) (v := .bool false) rfl (by kernel_rfl) (by kernel_rfl) (by kernel_rfl) (fun _ _ _ h => h) (.inl ⟨by kernel_rfl, fun w _ => exec_lss 3 3 (.tmp 55) (.const (.int .i64 0)) rfl n 0 (by kernel_rfl) (by kernel_rfl) false hlt⟩) hS ?_
  simp only [List.getElem_toArray, List.getElem_cons_zero, List.getElem_cons_succ, Act.put, List.setIfInBounds_toArray, List.set_cons_zero, List.set_cons_succ]
  refine wpAnyH_take (i := 3) (v := .bool false) rfl (by kernel_rfl) (by kernel_rfl) (by kernel_rfl) (fun _ _ _ h => h) (.inl ⟨by kernel_rfl, fun w _ => by kernel_rfl⟩) hS ?_
  simp only [List.getElem_toArray, List.getElem_cons_zero, List.getElem_cons_succ, Act.put, List.setIfInBounds_toArray, List.set_cons_zero, List.set_cons_succ]
  refine wpAnyH_take (i := 4) (v := .pointer (some ⟨w.heap.size, 17, none⟩)) rfl (by kernel_rfl) (by kernel_rfl) (by kernel_rfl) (fun _ _ _ h => h) (.inl ⟨by kernel_rfl, fun w _ => by kernel_rfl⟩) hS ?_
  simp only [List.getElem_toArray, List.getElem_cons_zero, List.getElem_cons_succ, Act.put, List.setIfInBounds_toArray, List.set_cons_zero, List.set_cons_succ]
  refine wpAnyH_take (i := 5) (v := .int .i64 n) rfl (by kernel_rfl) (by kernel_rfl) (by kernel_rfl) (fun _ _ _ h => h) (yields_cell (.tmp 58) rfl (w.heap.size) 17 (by kernel_rfl) n (fun w h => cid_bitsCell h.1.1 LC.out) (by kernel_rfl)) hS ?_
  simp only [List.getElem_toArray, List.getElem_cons_zero, List.getElem_cons_succ, Act.put, List.setIfInBounds_toArray, List.set_cons_zero, List.set_cons_succ]
  refine wpAnyH_take (i := 6) (v := .agg (adr sa ab)) rfl (by kernel_rfl) (by kernel_rfl) (by kernel_rfl) (fun _ _ _ h => h) (yields_load 24 (.tmp 5) rfl (w.heap.size + 1 + 1) (by kernel_rfl) _ _ _ (fun w h => h.1.2.2.1) Tryz.underlying24 rfl 17 Tryz.infoAddr L17.out (by kernel_rfl)) hS ?_
  simp only [List.getElem_toArray, List.getElem_cons_zero, List.getElem_cons_succ, Act.put, List.setIfInBounds_toArray, List.set_cons_zero, List.set_cons_succ]
  refine wpAnyH_ready (rs := [7]) (by kernel_rfl) (by simp) ?_
  refine AllReadyH.cons rfl (fun K' hK => ?_) AllReadyH.nil
  rw [if_pos (by kernel_rfl)]
  refine op_call2 37 #[.agg (adr sa ab)] (by kernel_rfl) (.int .i64 (wd : Int)) (CW.out _) (fun w11 hb11 => hK.out _ _ (⟨⟨hS.1.1.kept hb11, hS.1.2.1.kept hb11, hS.1.2.2.1.kept hb11, hS.1.2.2.2.1.kept hb11, bel2 hS.1.2.2.2.2 hb11⟩, hS.2.kept hb11⟩) (fun hS => ?_))
  simp only [List.getElem_toArray, List.getElem_cons_zero, List.getElem_cons_succ, Act.put, List.setIfInBounds_toArray, List.set_cons_zero, List.set_cons_succ]
  refine wpAnyH_take (i := 8) (v := .bool false) rfl (by kernel_rfl) (by kernel_rfl) (by kernel_rfl) (fun _ _ _ h => h) (.inl ⟨by kernel_rfl, fun w _ => exec_gtr 3 3 (.tmp 59) (.tmp 61) rfl n wd (by kernel_rfl) (by kernel_rfl) false hgt⟩) hS ?_
  simp only [List.getElem_toArray, List.getElem_cons_zero, List.getElem_cons_succ, Act.put, List.setIfInBounds_toArray, List.set_cons_zero, List.set_cons_succ]
  refine wpAnyH_take (i := 9) (v := .bool false) rfl (by kernel_rfl) (by kernel_rfl) (by kernel_rfl) (fun _ _ _ h => h) (.inl ⟨by kernel_rfl, fun w _ => by kernel_rfl⟩) hS ?_
  simp only [List.getElem_toArray, List.getElem_cons_zero, List.getElem_cons_succ, Act.put, List.setIfInBounds_toArray, List.set_cons_zero, List.set_cons_succ]
  refine wpAnyH_done (by kernel_rfl) ?_ _
  have hS10 : (Blk w11.drew (w.heap.size) 48 (cid cs cb n) ∧ Blk w11.drew (w.heap.size + 1) 48 (cid ds db m) ∧ Blk w11.drew (w.heap.size + 1 + 1) 24 (adr sa ab) ∧ Env3 EA ER w11.drew ∧ Below w.heap.size w w11.drew) ∧ Blk w11.drew w8.heap.size 48 (cid sa ob n) := by
    obtain ⟨⟨h1, h2, h3, h4, h5⟩, h6⟩ := hS
    have hbd := below_drewN w11 1
    exact ⟨⟨h1.kept hbd, h2.kept hbd, h3.kept hbd, h4.kept hbd, bel2 h5 hbd⟩, h6.kept hbd⟩
  clear hS
  go_wp2_with fail
  refine wp_region_held_drew (S := fun w' => (Blk w' (w.heap.size) 48 (cid cs cb n) ∧ Blk w' (w.heap.size + 1) 48 (cid ds db m) ∧ Blk w' (w.heap.size + 1 + 1) 24 (adr sa ab) ∧ Env3 EA ER w' ∧ Below w.heap.size w w') ∧ Blk w' w8.heap.size 48 (cid sa ob n)) (by kernel_rfl) hS10 (fun hS => ?_)
  change wpAnyH _ _ _ _ _ 19 #[false, false, false, false, false, false, false, false, false, false, false, false, false, false, false, false, false, false, false] _ _
  refine wpAnyH_take (i := 0) (v := .nilIface) rfl (by kernel_rfl) (by kernel_rfl) (by kernel_rfl) (fun _ _ _ h => h) (.inl ⟨by kernel_rfl, fun w _ => by kernel_rfl⟩) hS ?_
  simp only [List.getElem_toArray, List.getElem_cons_zero, List.getElem_cons_succ, Act.put, List.setIfInBounds_toArray, List.set_cons_zero, List.set_cons_succ]
  refine wpAnyH_take (i := 1) (v := .bool true) rfl (by kernel_rfl) (by kernel_rfl) (by kernel_rfl) (fun _ _ _ h => h) (.inl ⟨by kernel_rfl, fun w _ => by kernel_rfl⟩) hS ?_
  simp only [List.getElem_toArray, List.getElem_cons_zero, List.getElem_cons_succ, Act.put, List.setIfInBounds_toArray, List.set_cons_zero, List.set_cons_succ]
  refine wpAnyH_take (i := 2) (v := .bool true) rfl (by kernel_rfl) (by kernel_rfl) (by kernel_rfl) (fun _ _ _ h => h) (.inl ⟨by kernel_rfl, fun w _ => by kernel_rfl⟩) hS ?_
  simp only [List.getElem_toArray, List.getElem_cons_zero, List.getElem_cons_succ, Act.put, List.setIfInBounds_toArray, List.set_cons_zero, List.set_cons_succ]
  refine wpAnyH_take (i := 3) (v := .agg (cid sa ob n)) rfl (by kernel_rfl) (by kernel_rfl) (by kernel_rfl) (fun _ _ _ h => h) (yields_load 48 (.tmp 7) rfl w8.heap.size (by kernel_rfl) _ _ _ (fun w h => h.2) Tryz.underlying48 rfl 18 Tryz.infoCidr L18o.out (by kernel_rfl)) hS ?_
  simp only [List.getElem_toArray, List.getElem_cons_zero, List.getElem_cons_succ, Act.put, List.setIfInBounds_toArray, List.set_cons_zero, List.set_cons_succ]
  refine wpAnyH_take (i := 4) (v := .agg (adr sa ab)) rfl (by kernel_rfl) (by kernel_rfl) (by kernel_rfl) (fun _ _ _ h => h) (yields_load 24 (.tmp 5) rfl (w.heap.size + 1 + 1) (by kernel_rfl) _ _ _ (fun w h => h.1.2.2.1) Tryz.underlying24 rfl 17 Tryz.infoAddr L17.out (by kernel_rfl)) hS ?_
  simp only [List.getElem_toArray, List.getElem_cons_zero, List.getElem_cons_succ, Act.put, List.setIfInBounds_toArray, List.set_cons_zero, List.set_cons_succ]
  refine wpAnyH_take (i := 5) (v := .pointer (some ⟨w.heap.size, 17, none⟩)) rfl (by kernel_rfl) (by kernel_rfl) (by kernel_rfl) (fun _ _ _ h => h) (.inl ⟨by kernel_rfl, fun w _ => by kernel_rfl⟩) hS ?_
  simp only [List.getElem_toArray, List.getElem_cons_zero, List.getElem_cons_succ, Act.put, List.setIfInBounds_toArray, List.set_cons_zero, List.set_cons_succ]
  refine wpAnyH_take (i := 6) (v := .int .i64 n) rfl (by kernel_rfl) (by kernel_rfl) (by kernel_rfl) (fun _ _ _ h => h) (yields_cell (.tmp 77) rfl (w.heap.size) 17 (by kernel_rfl) n (fun w h => cid_bitsCell h.1.1 LC.out) (by kernel_rfl)) hS ?_
  simp only [List.getElem_toArray, List.getElem_cons_zero, List.getElem_cons_succ, Act.put, List.setIfInBounds_toArray, List.set_cons_zero, List.set_cons_succ]
  refine wpAnyH_take (i := 8) (v := .pointer (some ⟨w.heap.size, 17, none⟩)) rfl (by kernel_rfl) (by kernel_rfl) (by kernel_rfl) (fun _ _ _ h => h) (.inl ⟨by kernel_rfl, fun w _ => by kernel_rfl⟩) hS ?_
  simp only [List.getElem_toArray, List.getElem_cons_zero, List.getElem_cons_succ, Act.put, List.setIfInBounds_toArray, List.set_cons_zero, List.set_cons_succ]
  refine wpAnyH_take (i := 9) (v := .int .i64 n) rfl (by kernel_rfl) (by kernel_rfl) (by kernel_rfl) (fun _ _ _ h => h) (yields_cell (.tmp 80) rfl (w.heap.size) 17 (by kernel_rfl) n (fun w h => cid_bitsCell h.1.1 LC.out) (by kernel_rfl)) hS ?_
  simp only [List.getElem_toArray, List.getElem_cons_zero, List.getElem_cons_succ, Act.put, List.setIfInBounds_toArray, List.set_cons_zero, List.set_cons_succ]
  refine wpAnyH_ready (rs := [7]) (by kernel_rfl) (by simp) ?_
  refine AllReadyH.cons rfl (fun K' hK => ?_) AllReadyH.nil
  rw [if_pos (by kernel_rfl)]
  refine op_call2 38 #[.agg (adr sa ab), .int .i64 n] (by kernel_rfl) (.agg (adr sa ob)) (CU.out _) (fun w12 hb12 => hK.out _ _ (⟨⟨hS.1.1.kept hb12, hS.1.2.1.kept hb12, hS.1.2.2.1.kept hb12, hS.1.2.2.2.1.kept hb12, bel2 hS.1.2.2.2.2 hb12⟩, hS.2.kept hb12⟩) (fun hS => ?_))
  simp only [List.getElem_toArray, List.getElem_cons_zero, List.getElem_cons_succ, Act.put, List.setIfInBounds_toArray, List.set_cons_zero, List.set_cons_succ]
  refine wpAnyH_take (i := 10) (v := .agg (cid sa ob n)) rfl (by kernel_rfl) (by kernel_rfl) (by kernel_rfl) (fun _ _ _ h => h) (.inl ⟨by kernel_rfl, fun w _ => exec_build_cid (.tmp 79) (.tmp 81) rfl sa ob LO.out n (by kernel_rfl) (by kernel_rfl) w⟩) hS ?_
  simp only [List.getElem_toArray, List.getElem_cons_zero, List.getElem_cons_succ, Act.put, List.setIfInBounds_toArray, List.set_cons_zero, List.set_cons_succ]
  refine wpAnyH_take (i := 11) (v := .bool true) rfl (by kernel_rfl) (by kernel_rfl) (by kernel_rfl) (fun _ _ _ h => h) (.inl ⟨by kernel_rfl, fun w _ => exec_eql_cid (.tmp 75) (.tmp 82) rfl sa ob LO.out n (by kernel_rfl) (by kernel_rfl) w⟩) hS ?_
  simp only [List.getElem_toArray, List.getElem_cons_zero, List.getElem_cons_succ, Act.put, List.setIfInBounds_toArray, List.set_cons_zero, List.set_cons_succ]
  refine wpAnyH_take (i := 12) (v := .bool true) rfl (by kernel_rfl) (by kernel_rfl) (by kernel_rfl) (fun _ _ _ h => h) (.inl ⟨by kernel_rfl, fun w _ => by kernel_rfl⟩) hS ?_
  simp only [List.getElem_toArray, List.getElem_cons_zero, List.getElem_cons_succ, Act.put, List.setIfInBounds_toArray, List.set_cons_zero, List.set_cons_succ]
  refine wpAnyH_take (i := 13) (v := .bool true) rfl (by kernel_rfl) (by kernel_rfl) (by kernel_rfl) (fun _ _ _ h => h) (.inl ⟨by kernel_rfl, fun w _ => by kernel_rfl⟩) hS ?_
  simp only [List.getElem_toArray, List.getElem_cons_zero, List.getElem_cons_succ, Act.put, List.setIfInBounds_toArray, List.set_cons_zero, List.set_cons_succ]
  refine wpAnyH_take (i := 14) (v := .agg (cid sa ob n)) rfl (by kernel_rfl) (by kernel_rfl) (by kernel_rfl) (fun _ _ _ h => h) (yields_load 48 (.tmp 7) rfl w8.heap.size (by kernel_rfl) _ _ _ (fun w h => h.2) Tryz.underlying48 rfl 18 Tryz.infoCidr L18o.out (by kernel_rfl)) hS ?_
  simp only [List.getElem_toArray, List.getElem_cons_zero, List.getElem_cons_succ, Act.put, List.setIfInBounds_toArray, List.set_cons_zero, List.set_cons_succ]
  refine wpAnyH_take (i := 15) (v := .agg (adr sa ab)) rfl (by kernel_rfl) (by kernel_rfl) (by kernel_rfl) (fun _ _ _ h => h) (yields_load 24 (.tmp 5) rfl (w.heap.size + 1 + 1) (by kernel_rfl) _ _ _ (fun w h => h.1.2.2.1) Tryz.underlying24 rfl 17 Tryz.infoAddr L17.out (by kernel_rfl)) hS ?_
  simp only [List.getElem_toArray, List.getElem_cons_zero, List.getElem_cons_succ, Act.put, List.setIfInBounds_toArray, List.set_cons_zero, List.set_cons_succ]
  refine wpAnyH_ready (rs := [16]) (by kernel_rfl) (by simp) ?_
  refine AllReadyH.cons rfl (fun K' hK => ?_) AllReadyH.nil
  rw [if_pos (by kernel_rfl)]
  refine op_call2 30 #[.agg (cid sa ob n), .agg (adr sa ab)] (by kernel_rfl) (.bool true) (CX.out _ hS.1.2.2.2.1) (fun w13 hb13 => hK.out _ _ (⟨⟨hS.1.1.kept hb13, hS.1.2.1.kept hb13, hS.1.2.2.1.kept hb13, hS.1.2.2.2.1.kept hb13, bel2 hS.1.2.2.2.2 hb13⟩, hS.2.kept hb13⟩) (fun hS => ?_))
  simp only [List.getElem_toArray, List.getElem_cons_zero, List.getElem_cons_succ, Act.put, List.setIfInBounds_toArray, List.set_cons_zero, List.set_cons_succ]
  refine wpAnyH_take (i := 17) (v := .bool true) rfl (by kernel_rfl) (by kernel_rfl) (by kernel_rfl) (fun _ _ _ h => h) (.inl ⟨by kernel_rfl, fun w _ => by kernel_rfl⟩) hS ?_
  simp only [List.getElem_toArray, List.getElem_cons_zero, List.getElem_cons_succ, Act.put, List.setIfInBounds_toArray, List.set_cons_zero, List.set_cons_succ]
  refine wpAnyH_take (i := 18) (v := .bool true) rfl (by kernel_rfl) (by kernel_rfl) (by kernel_rfl) (fun _ _ _ h => h) (.inl ⟨by kernel_rfl, fun w _ => by kernel_rfl⟩) hS ?_
  simp only [List.getElem_toArray, List.getElem_cons_zero, List.getElem_cons_succ, Act.put, List.setIfInBounds_toArray, List.set_cons_zero, List.set_cons_succ]
  refine wpAnyH_done (by kernel_rfl) ?_ _
  have HbE := Lib.hid hS.1.2.2.2.2
  clear hS
  go_wp2
  go_ret
  exact ⟨rfl, HbE.out⟩
end Go.Proofs.YtambnnahgbegfaaGreatDoor
