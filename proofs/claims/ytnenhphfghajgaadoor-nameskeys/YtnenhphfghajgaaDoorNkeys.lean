/-
  The walk of the law NamesKeys.
-/
import Derived.Test.YtnenhphfghajgaaDoorNrpar
import Derived.Test.YtnenhphfghajgaaDoorNerr
namespace Go.Proofs.YtnenhphfghajgaaDoor
open Go.RowKit

section
variable {a : Act} {w : World} {o : Oper}
theorem exec_neq2 (_t t' : TypeId) (x y : Operand) (ho : o.op = .binOp .neq 23 x y t') (p q : ByteArray) (hx : a.eval x = kv p q) (hy : a.eval y = kv p q) :
    (execOp a.eval o).run Tryd.prog w = .ok (.value (.bool false)) w := by
  have h := neq_key p q p q w
  rw [show (!(p.toList == p.toList && q.toList == q.toList)) = false by simp] at h
  unfold execOp
  simp only [ho, hx, hy]
  go_simp
theorem exec_eql2 (_t t' : TypeId) (x y : Operand) (ho : o.op = .binOp .eql 23 x y t') (p q : ByteArray) (hx : a.eval x = kv p q) (hy : a.eval y = kv p q) :
    (execOp a.eval o).run Tryd.prog w = .ok (.value (.bool true)) w := by
  have h := eql_key p q p q w
  rw [show (p.toList == p.toList && q.toList == q.toList) = true by simp] at h
  unfold execOp
  simp only [ho, hx, hy]
  go_simp
theorem exec_seq2 {P : Program} (t t' : TypeId) (x y : Operand) (ho : o.op = .binOp .eql t x y t') (s : ByteArray) (hx : a.eval x = .string s) (hy : a.eval y = .string s) :
    (execOp a.eval o).run P w = .ok (.value (.bool true)) w := by
  unfold execOp
  simp only [ho, hx, hy, eqGuard, binOp]
  simp [Op.stringOp, go_sem]
theorem exec_sadd {P : Program} (t t' : TypeId) (x y : Operand) (ho : o.op = .binOp .add t x y t') (p q : ByteArray) (hx : a.eval x = .string p) (hy : a.eval y = .string q) (h : p.size + q.size ≤ 1000) :
    (execOp a.eval o).run P w = .ok (.value (.string (p ++ q))) w := by
  unfold execOp
  simp only [ho, hx, hy, eqGuard, binOp]
  simp [Op.stringOp, go_sem]
  omega
theorem exec_ldS (_t : TypeId) (x : Operand) (ho : o.op = .load 9 x) (g i : Nat) (hx : a.eval x = .pointer (some ⟨g, i, none⟩)) (s : ByteArray) (hc : w.cell? ⟨g, i, none⟩ = some (.string s)) :
    (execOp a.eval o).run Tryd.prog w = .ok (.value (.string s)) w := by
  unfold execOp
  simp only [ho, hx]
  go_simp
end

set_option maxRecDepth 100000 in
set_option maxHeartbeats 2000000 in
theorem keys_long (s a b : ByteArray) (hs : 100 < s.size ∨ (s.size ≤ 100 ∧ 100 < a.size) ∨ (s.size ≤ 100 ∧ a.size ≤ 100 ∧ 100 < b.size)) (E : Value) (w : World) (hE : NEnv E w) :
    Calls Tryd.prog 3 #[.string s, (kv a b)] w fun e w' => e = .returned (.bool true) ∧ Below w.heap.size w w' := by
  obtain ⟨W0, hW0⟩ : ∃ W, W = w.alloc (.cells #[.string a, .string b] 23) := ⟨_, rfl⟩
  have hB0 : Blk W0 w.heap.size 23 #[.string a, .string b] := hW0 ▸ Blk.new w _ _
  have hb0 : Below w.heap.size w W0 := hW0 ▸ (Below.refl _ _).alloc (Nat.le_refl _) _
  have HW0 := Lib.hid hW0.symm
  have C0 := Lib.hid (nalive_any E W0 (hE.kept hb0))
  clear hW0 hE
  go_enter Tryd.func3, Tryd.ntmps3
  go_wp2_with fail
  rw [HW0.out]
  refine C0.out.mono ?_
  rintro e w1 ⟨rfl, hb1⟩
  have c0 : w1.cell? ⟨w.heap.size, 0, none⟩ = some (.string a) := (hB0.kept hb1).cell 0
  have c1 : w1.cell? ⟨w.heap.size, 1, none⟩ = some (.string b) := (hB0.kept hb1).cell 1
  rcases hs with h | ⟨h, h2⟩ | ⟨h, h2, h3⟩
  all_goals
    go_wp2
    go_ret
    exact ⟨rfl, bel2 hb0 hb1⟩

set_option linter.unusedSimpArgs false in
set_option maxRecDepth 100000 in
set_option maxHeartbeats 8000000 in
theorem keys_true (s a b xa xb : ByteArray) (hs : s.size ≤ 100) (ha : a.size ≤ 100) (hb : b.size ≤ 100) (L R : Bool) (E : Value) (w : World) (hE : NEnv E w)
    (cA : ∀ w, NEnv E w → Calls Tryd.prog 6 #[.string s] w fun e w' => e = .returned (.tuple #[(kv xa xb), .nilIface]) ∧ Below w.heap.size w w')
    (cB : ∀ w, Calls Tryd.prog 7 #[.string s] w fun e w' => e = .returned (.tuple #[(kv xa xb), .bool true]) ∧ Below w.heap.size w w')
    (c1 : ∀ w, Calls Tryd.prog 8 #[.string s] w fun e w' => e = .returned (.bool L) ∧ Below w.heap.size w w')
    (c2 : ∀ w, Calls Tryd.prog 9 #[.string s] w fun e w' => e = .returned (.bool L) ∧ Below w.heap.size w w')
    (c3 : ∀ w, Calls Tryd.prog 10 #[(kv a b)] w fun e w' => e = .returned (.bool R) ∧ Below w.heap.size w w')
    (c4 : ∀ w, Calls Tryd.prog 11 #[(kv a b)] w fun e w' => e = .returned (.bool R) ∧ Below w.heap.size w w')
    (c5 : ∀ w, Calls Tryd.prog 13 #[(kv a b)] w fun e w' => e = .returned (.string (if R = true then a ++ ⟨#[47]⟩ ++ b else ⟨#[]⟩)) ∧ Below w.heap.size w w')
    (c6 : R = true → ∀ w, NEnv E w → Calls Tryd.prog 6 #[.string (a ++ ⟨#[47]⟩ ++ b)] w fun e w' => e = .returned (.tuple #[(kv a b), .nilIface]) ∧ Below w.heap.size w w') :
    Calls Tryd.prog 3 #[.string s, (kv a b)] w fun e w' => e = .returned (.bool true) ∧ Below w.heap.size w w' := by
  obtain ⟨W0, hW0⟩ : ∃ W, W = w.alloc (.cells #[.string a, .string b] 23) := ⟨_, rfl⟩
  have hB0 : Blk W0 w.heap.size 23 #[.string a, .string b] := hW0 ▸ Blk.new w _ _
  have hb0 : Below w.heap.size w W0 := hW0 ▸ (Below.refl _ _).alloc (Nat.le_refl _) _
  have HW0 := Lib.hid hW0.symm
  have HB0 := Lib.hid hB0
  have Hb0 := Lib.hid hb0
  have HE := Lib.hid hE
  have CA := Lib.hid cA
  have CB := Lib.hid cB
  have C1 := Lib.hid c1
  have C2 := Lib.hid c2
  have C3 := Lib.hid c3
  have C4 := Lib.hid c4
  have C5 := Lib.hid c5
  have C6 := Lib.hid c6
  have hz1 : a.size + (⟨#[47]⟩ : ByteArray).size ≤ 1000 := by
    have : (⟨#[47]⟩ : ByteArray).size = 1 := rfl
    omega
  have hz2 : (a ++ ⟨#[47]⟩).size + b.size ≤ 1000 := by
    have : (⟨#[47]⟩ : ByteArray).size = 1 := rfl
    rw [ByteArray.size_append]
    omega
  have HZ1 := Lib.hid hz1
  have HZ2 := Lib.hid hz2

  clear hW0 hB0 hb0 hE cA cB c1 c2 c3 c4 c5 c6 hz1 hz2
  go_enter Tryd.func3, Tryd.ntmps3
  go_wp2_with fail
  rw [HW0.out]
  refine (nalive_any E W0 (HE.out.kept Hb0.out)).mono ?_
  rintro e w1 ⟨rfl, hb1⟩
  have HB1 := Lib.hid (HB0.out.kept hb1)
  have Hb1 := Lib.hid (bel2 Hb0.out hb1)
  clear hb1
  have k0 : w1.cell? ⟨w.heap.size, 0, none⟩ = some (.string a) := HB1.out.cell 0
  have k1 : w1.cell? ⟨w.heap.size, 1, none⟩ = some (.string b) := HB1.out.cell 1
  go_wp2_with fail
  refine (CA.out w1 (HE.out.kept Hb1.out)).mono ?_
  rintro e w2 ⟨rfl, hb2⟩
  have HB2 := Lib.hid (HB1.out.kept hb2)
  have Hb2 := Lib.hid (bel2 Hb1.out hb2)
  clear hb2 k0 k1
  obtain ⟨W3, hW3⟩ : ∃ W, W = w2.alloc (.cells #[.string xa, .string xb] 23) := ⟨_, rfl⟩
  have hbW3 : Below w2.heap.size w2 W3 := hW3 ▸ (Below.refl _ _).alloc (Nat.le_refl _) _
  have HNW3 : Hid (Blk W3 w2.heap.size 23 #[.string xa, .string xb]) := Lib.hid (hW3 ▸ Blk.new w2 _ _)
  have HW3 := Lib.hid hW3.symm
  have HB3 := Lib.hid (HB2.out.kept hbW3)
  have Hb3 := Lib.hid (bel2 Hb2.out hbW3)
  clear hW3 hbW3
  go_wp2_with fail
  rw [HW3.out]
  refine (CB.out W3).mono ?_
  rintro e w4 ⟨rfl, hb4⟩
  have HB4 := Lib.hid (HB3.out.kept hb4)
  have HX4 := Lib.hid (HNW3.out.kept hb4)
  have Hb4 := Lib.hid (bel2 Hb3.out hb4)
  clear hb4
  obtain ⟨W5, hW5⟩ : ∃ W, W = w4.alloc (.cells #[.string xa, .string xb] 23) := ⟨_, rfl⟩
  have hbW5 : Below w4.heap.size w4 W5 := hW5 ▸ (Below.refl _ _).alloc (Nat.le_refl _) _
  have HNW5 : Hid (Blk W5 w4.heap.size 23 #[.string xa, .string xb]) := Lib.hid (hW5 ▸ Blk.new w4 _ _)
  have HW5 := Lib.hid hW5.symm
  have HB5 := Lib.hid (HB4.out.kept hbW5)
  have HX5 := Lib.hid (HX4.out.kept hbW5)
  have Hb5 := Lib.hid (bel2 Hb4.out hbW5)
  clear hW5 hbW5
  have hS0 : Blk W5.drew (w.heap.size) 23 #[.string a, .string b] ∧ Blk W5.drew (w2.heap.size) 23 #[.string xa, .string xb] ∧ Blk W5.drew (w4.heap.size) 23 #[.string xa, .string xb] ∧ Below w.heap.size w W5.drew :=
    ⟨HB5.out.kept (below_drewN W5 1), HX5.out.kept (below_drewN W5 1), HNW5.out.kept (below_drewN W5 1), bel2 Hb5.out (below_drewN W5 1)⟩
  go_wp2_with fail
  rw [HW5.out]
  refine wp_region_held_drew (S := fun w' => Blk w' (w.heap.size) 23 #[.string a, .string b] ∧ Blk w' (w2.heap.size) 23 #[.string xa, .string xb] ∧ Blk w' (w4.heap.size) 23 #[.string xa, .string xb] ∧ Below w.heap.size w w') (by kernel_rfl) hS0 (fun hS => ?_)
  change wpAnyH _ _ _ _ _ 32 #[false, false, false, false, false, false, false, false, false, false, false, false, false, false, false, false, false, false, false, false, false, false, false, false, false, false, false, false, false, false, false, false] _ _
  refine wpAnyH_take (i := 0) (v := .string s) rfl (by kernel_rfl) (by kernel_rfl) (by kernel_rfl) (fun _ _ _ h => h) (.inl ⟨by kernel_rfl, fun w _ => by kernel_rfl⟩) hS ?_
  simp only [List.getElem_toArray, List.getElem_cons_zero, List.getElem_cons_succ, Act.put, List.setIfInBounds_toArray, List.set_cons_zero, List.set_cons_succ]
  refine wpAnyH_take (i := 2) (v := .string s) rfl (by kernel_rfl) (by kernel_rfl) (by kernel_rfl) (fun _ _ _ h => h) (.inl ⟨by kernel_rfl, fun w _ => by kernel_rfl⟩) hS ?_
  simp only [List.getElem_toArray, List.getElem_cons_zero, List.getElem_cons_succ, Act.put, List.setIfInBounds_toArray, List.set_cons_zero, List.set_cons_succ]
  refine wpAnyH_ready (rs := [1]) (by kernel_rfl) (by simp) ?_
  refine AllReadyH.cons rfl (fun K' hK => ?_) AllReadyH.nil
  refine step_call 8 #[.string s] (by kernel_rfl) (by kernel_rfl) (.bool L) (C1.out _) (fun v1 hv1 => hK.out _ _ (⟨hS.1.kept hv1, hS.2.1.kept hv1, hS.2.2.1.kept hv1, bel2 hS.2.2.2 hv1⟩) (fun hS => ?_))
  simp only [List.getElem_toArray, List.getElem_cons_zero, List.getElem_cons_succ, Act.put, List.setIfInBounds_toArray, List.set_cons_zero, List.set_cons_succ]
  refine wpAnyH_ready (rs := [3]) (by kernel_rfl) (by simp) ?_
  refine AllReadyH.cons rfl (fun K' hK => ?_) AllReadyH.nil
  refine step_call 9 #[.string s] (by kernel_rfl) (by kernel_rfl) (.bool L) (C2.out _) (fun v2 hv2 => hK.out _ _ (⟨hS.1.kept hv2, hS.2.1.kept hv2, hS.2.2.1.kept hv2, bel2 hS.2.2.2 hv2⟩) (fun hS => ?_))
  simp only [List.getElem_toArray, List.getElem_cons_zero, List.getElem_cons_succ, Act.put, List.setIfInBounds_toArray, List.set_cons_zero, List.set_cons_succ]
  refine wpAnyH_take (i := 4) (v := .bool false) rfl (by kernel_rfl) (by kernel_rfl) (by kernel_rfl) (fun _ _ _ h => h) (.inl ⟨by kernel_rfl, fun w _ => by cases L <;> kernel_rfl⟩) hS ?_
  simp only [List.getElem_toArray, List.getElem_cons_zero, List.getElem_cons_succ, Act.put, List.setIfInBounds_toArray, List.set_cons_zero, List.set_cons_succ]
  refine wpAnyH_take (i := 5) (v := .bool false) rfl (by kernel_rfl) (by kernel_rfl) (by kernel_rfl) (fun _ _ _ h => h) (.inl ⟨by kernel_rfl, fun w _ => by kernel_rfl⟩) hS ?_
  simp only [List.getElem_toArray, List.getElem_cons_zero, List.getElem_cons_succ, Act.put, List.setIfInBounds_toArray, List.set_cons_zero, List.set_cons_succ]
  refine wpAnyH_take (i := 6) (v := (kv a b)) rfl (by kernel_rfl) (by kernel_rfl) (by kernel_rfl) (fun _ _ _ h => h) (yields_load 23 (.tmp 3) rfl (w.heap.size) (by kernel_rfl) _ _ _ (fun w h => h.1) Tryd.underlying23 rfl 2 Tryd.infoKey rfl (by kernel_rfl)) hS ?_
  simp only [List.getElem_toArray, List.getElem_cons_zero, List.getElem_cons_succ, Act.put, List.setIfInBounds_toArray, List.set_cons_zero, List.set_cons_succ]
  refine wpAnyH_take (i := 8) (v := (kv a b)) rfl (by kernel_rfl) (by kernel_rfl) (by kernel_rfl) (fun _ _ _ h => h) (yields_load 23 (.tmp 3) rfl (w.heap.size) (by kernel_rfl) _ _ _ (fun w h => h.1) Tryd.underlying23 rfl 2 Tryd.infoKey rfl (by kernel_rfl)) hS ?_
  simp only [List.getElem_toArray, List.getElem_cons_zero, List.getElem_cons_succ, Act.put, List.setIfInBounds_toArray, List.set_cons_zero, List.set_cons_succ]
  refine wpAnyH_ready (rs := [7]) (by kernel_rfl) (by simp) ?_
  refine AllReadyH.cons rfl (fun K' hK => ?_) AllReadyH.nil
  rw [if_pos (by kernel_rfl)]
  refine op_call 10 #[(kv a b)] (by kernel_rfl) (.bool R) (C3.out _) (fun v3 hv3 => hK.out _ _ (⟨hS.1.kept hv3, hS.2.1.kept hv3, hS.2.2.1.kept hv3, bel2 hS.2.2.2 hv3⟩) (fun hS => ?_))
  simp only [List.getElem_toArray, List.getElem_cons_zero, List.getElem_cons_succ, Act.put, List.setIfInBounds_toArray, List.set_cons_zero, List.set_cons_succ]
  refine wpAnyH_ready (rs := [9]) (by kernel_rfl) (by simp) ?_
  refine AllReadyH.cons rfl (fun K' hK => ?_) AllReadyH.nil
  rw [if_pos (by kernel_rfl)]
  refine op_call 11 #[(kv a b)] (by kernel_rfl) (.bool R) (C4.out _) (fun v4 hv4 => hK.out _ _ (⟨hS.1.kept hv4, hS.2.1.kept hv4, hS.2.2.1.kept hv4, bel2 hS.2.2.2 hv4⟩) (fun hS => ?_))
  simp only [List.getElem_toArray, List.getElem_cons_zero, List.getElem_cons_succ, Act.put, List.setIfInBounds_toArray, List.set_cons_zero, List.set_cons_succ]
  refine wpAnyH_take (i := 10) (v := .bool false) rfl (by kernel_rfl) (by kernel_rfl) (by kernel_rfl) (fun _ _ _ h => h) (.inl ⟨by kernel_rfl, fun w _ => by cases R <;> kernel_rfl⟩) hS ?_
  simp only [List.getElem_toArray, List.getElem_cons_zero, List.getElem_cons_succ, Act.put, List.setIfInBounds_toArray, List.set_cons_zero, List.set_cons_succ]
  refine wpAnyH_take (i := 11) (v := .bool false) rfl (by kernel_rfl) (by kernel_rfl) (by kernel_rfl) (fun _ _ _ h => h) (.inl ⟨by kernel_rfl, fun w _ => by kernel_rfl⟩) hS ?_
  simp only [List.getElem_toArray, List.getElem_cons_zero, List.getElem_cons_succ, Act.put, List.setIfInBounds_toArray, List.set_cons_zero, List.set_cons_succ]
  refine wpAnyH_take (i := 12) (v := .bool false) rfl (by kernel_rfl) (by kernel_rfl) (by kernel_rfl) (fun _ _ _ h => h) (.inl ⟨by kernel_rfl, fun w _ => by kernel_rfl⟩) hS ?_
  simp only [List.getElem_toArray, List.getElem_cons_zero, List.getElem_cons_succ, Act.put, List.setIfInBounds_toArray, List.set_cons_zero, List.set_cons_succ]
  refine wpAnyH_take (i := 13) (v := (kv xa xb)) rfl (by kernel_rfl) (by kernel_rfl) (by kernel_rfl) (fun _ _ _ h => h) (yields_load 23 (.tmp 5) rfl (w2.heap.size) (by kernel_rfl) _ _ _ (fun w h => h.2.1) Tryd.underlying23 rfl 2 Tryd.infoKey rfl (by kernel_rfl)) hS ?_
  simp only [List.getElem_toArray, List.getElem_cons_zero, List.getElem_cons_succ, Act.put, List.setIfInBounds_toArray, List.set_cons_zero, List.set_cons_succ]
  refine wpAnyH_take (i := 14) (v := (kv xa xb)) rfl (by kernel_rfl) (by kernel_rfl) (by kernel_rfl) (fun _ _ _ h => h) (yields_load 23 (.tmp 7) rfl (w4.heap.size) (by kernel_rfl) _ _ _ (fun w h => h.2.2.1) Tryd.underlying23 rfl 2 Tryd.infoKey rfl (by kernel_rfl)) hS ?_
  simp only [List.getElem_toArray, List.getElem_cons_zero, List.getElem_cons_succ, Act.put, List.setIfInBounds_toArray, List.set_cons_zero, List.set_cons_succ]
  refine wpAnyH_take (i := 15) (v := .bool false) rfl (by kernel_rfl) (by kernel_rfl) (by kernel_rfl) (fun _ _ _ h => h) (.inl ⟨by kernel_rfl, fun w _ => exec_neq2 23 23 (.tmp 50) (.tmp 51) rfl xa xb (by kernel_rfl) (by kernel_rfl)⟩) hS ?_
  simp only [List.getElem_toArray, List.getElem_cons_zero, List.getElem_cons_succ, Act.put, List.setIfInBounds_toArray, List.set_cons_zero, List.set_cons_succ]
  refine wpAnyH_take (i := 16) (v := .bool false) rfl (by kernel_rfl) (by kernel_rfl) (by kernel_rfl) (fun _ _ _ h => h) (.inl ⟨by kernel_rfl, fun w _ => by kernel_rfl⟩) hS ?_
  simp only [List.getElem_toArray, List.getElem_cons_zero, List.getElem_cons_succ, Act.put, List.setIfInBounds_toArray, List.set_cons_zero, List.set_cons_succ]
  refine wpAnyH_take (i := 17) (v := .bool false) rfl (by kernel_rfl) (by kernel_rfl) (by kernel_rfl) (fun _ _ _ h => h) (.inl ⟨by kernel_rfl, fun w _ => by kernel_rfl⟩) hS ?_
  simp only [List.getElem_toArray, List.getElem_cons_zero, List.getElem_cons_succ, Act.put, List.setIfInBounds_toArray, List.set_cons_zero, List.set_cons_succ]
  refine wpAnyH_take (i := 18) (v := .nilIface) rfl (by kernel_rfl) (by kernel_rfl) (by kernel_rfl) (fun _ _ _ h => h) (.inl ⟨by kernel_rfl, fun w _ => by kernel_rfl⟩) hS ?_
  simp only [List.getElem_toArray, List.getElem_cons_zero, List.getElem_cons_succ, Act.put, List.setIfInBounds_toArray, List.set_cons_zero, List.set_cons_succ]
  refine wpAnyH_take (i := 19) (v := .bool true) rfl (by kernel_rfl) (by kernel_rfl) (by kernel_rfl) (fun _ _ _ h => h) (.inl ⟨by kernel_rfl, fun w _ => by kernel_rfl⟩) hS ?_
  simp only [List.getElem_toArray, List.getElem_cons_zero, List.getElem_cons_succ, Act.put, List.setIfInBounds_toArray, List.set_cons_zero, List.set_cons_succ]
  refine wpAnyH_take (i := 20) (v := .bool true) rfl (by kernel_rfl) (by kernel_rfl) (by kernel_rfl) (fun _ _ _ h => h) (.inl ⟨by kernel_rfl, fun w _ => by kernel_rfl⟩) hS ?_
  simp only [List.getElem_toArray, List.getElem_cons_zero, List.getElem_cons_succ, Act.put, List.setIfInBounds_toArray, List.set_cons_zero, List.set_cons_succ]
  refine wpAnyH_take (i := 21) (v := .bool false) rfl (by kernel_rfl) (by kernel_rfl) (by kernel_rfl) (fun _ _ _ h => h) (.inl ⟨by kernel_rfl, fun w _ => by kernel_rfl⟩) hS ?_
  simp only [List.getElem_toArray, List.getElem_cons_zero, List.getElem_cons_succ, Act.put, List.setIfInBounds_toArray, List.set_cons_zero, List.set_cons_succ]
  refine wpAnyH_take (i := 22) (v := .bool false) rfl (by kernel_rfl) (by kernel_rfl) (by kernel_rfl) (fun _ _ _ h => h) (.inl ⟨by kernel_rfl, fun w _ => by kernel_rfl⟩) hS ?_
  simp only [List.getElem_toArray, List.getElem_cons_zero, List.getElem_cons_succ, Act.put, List.setIfInBounds_toArray, List.set_cons_zero, List.set_cons_succ]
  refine wpAnyH_take (i := 23) (v := .bool false) rfl (by kernel_rfl) (by kernel_rfl) (by kernel_rfl) (fun _ _ _ h => h) (.inl ⟨by kernel_rfl, fun w _ => by kernel_rfl⟩) hS ?_
  simp only [List.getElem_toArray, List.getElem_cons_zero, List.getElem_cons_succ, Act.put, List.setIfInBounds_toArray, List.set_cons_zero, List.set_cons_succ]
  refine wpAnyH_take (i := 24) (v := .bool true) rfl (by kernel_rfl) (by kernel_rfl) (by kernel_rfl) (fun _ _ _ h => h) (.inl ⟨by kernel_rfl, fun w _ => by kernel_rfl⟩) hS ?_
  simp only [List.getElem_toArray, List.getElem_cons_zero, List.getElem_cons_succ, Act.put, List.setIfInBounds_toArray, List.set_cons_zero, List.set_cons_succ]
  refine wpAnyH_take (i := 25) (v := .bool false) rfl (by kernel_rfl) (by kernel_rfl) (by kernel_rfl) (fun _ _ _ h => h) (.inl ⟨by kernel_rfl, fun w _ => by kernel_rfl⟩) hS ?_
  simp only [List.getElem_toArray, List.getElem_cons_zero, List.getElem_cons_succ, Act.put, List.setIfInBounds_toArray, List.set_cons_zero, List.set_cons_succ]
  refine wpAnyH_take (i := 26) (v := .bool false) rfl (by kernel_rfl) (by kernel_rfl) (by kernel_rfl) (fun _ _ _ h => h) (.inl ⟨by kernel_rfl, fun w _ => by kernel_rfl⟩) hS ?_
  simp only [List.getElem_toArray, List.getElem_cons_zero, List.getElem_cons_succ, Act.put, List.setIfInBounds_toArray, List.set_cons_zero, List.set_cons_succ]
  refine wpAnyH_take (i := 27) (v := undef) rfl (by kernel_rfl) (by kernel_rfl) (by kernel_rfl) (fun _ _ _ h => h) (.inr ⟨by kernel_rfl, rfl⟩) hS ?_
  simp only [List.getElem_toArray, List.getElem_cons_zero, List.getElem_cons_succ, Act.put, List.setIfInBounds_toArray, List.set_cons_zero, List.set_cons_succ]
  refine wpAnyH_take (i := 28) (v := undef) rfl (by kernel_rfl) (by kernel_rfl) (by kernel_rfl) (fun _ _ _ h => h) (.inr ⟨by kernel_rfl, rfl⟩) hS ?_
  simp only [List.getElem_toArray, List.getElem_cons_zero, List.getElem_cons_succ, Act.put, List.setIfInBounds_toArray, List.set_cons_zero, List.set_cons_succ]
  refine wpAnyH_take (i := 29) (v := undef) rfl (by kernel_rfl) (by kernel_rfl) (by kernel_rfl) (fun _ _ _ h => h) (.inr ⟨by kernel_rfl, rfl⟩) hS ?_
  simp only [List.getElem_toArray, List.getElem_cons_zero, List.getElem_cons_succ, Act.put, List.setIfInBounds_toArray, List.set_cons_zero, List.set_cons_succ]
  refine wpAnyH_take (i := 30) (v := .bool false) rfl (by kernel_rfl) (by kernel_rfl) (by kernel_rfl) (fun _ _ _ h => h) (.inl ⟨by kernel_rfl, fun w _ => by kernel_rfl⟩) hS ?_
  simp only [List.getElem_toArray, List.getElem_cons_zero, List.getElem_cons_succ, Act.put, List.setIfInBounds_toArray, List.set_cons_zero, List.set_cons_succ]
  refine wpAnyH_take (i := 31) (v := .bool false) rfl (by kernel_rfl) (by kernel_rfl) (by kernel_rfl) (fun _ _ _ h => h) (.inl ⟨by kernel_rfl, fun w _ => by kernel_rfl⟩) hS ?_
  simp only [List.getElem_toArray, List.getElem_cons_zero, List.getElem_cons_succ, Act.put, List.setIfInBounds_toArray, List.set_cons_zero, List.set_cons_succ]
  refine wpAnyH_done (by kernel_rfl) ?_ _
  have HBf := Lib.hid hS.1
  have Hbf := Lib.hid hS.2.2.2
  clear hS0 hS
  go_wp2_with (refine wpl_load 23 _ rfl w.heap.size rfl _ _ _ HBf.out Tryd.underlying23 rfl 2 Tryd.infoKey rfl rfl ?_)
  refine (C4.out _).mono ?_
  rintro e w6 ⟨rfl, hb6⟩
  have HB6 := Lib.hid (HBf.out.kept hb6)
  have Hb6 := Lib.hid (bel2 Hbf.out hb6)
  clear hb6
  cases R with
  | false =>
    go_wp2_with (refine wpl_load 23 _ rfl w.heap.size rfl _ _ _ HB6.out Tryd.underlying23 rfl 2 Tryd.infoKey rfl rfl ?_)
    refine (C5.out _).mono ?_
    rintro e w7 ⟨rfl, hb7⟩
    have Hb7 := Lib.hid (bel2 Hb6.out hb7)
    clear hb7
    go_wp2
    go_ret
    exact ⟨rfl, Hb7.out⟩
  | true =>
    have C5t : Hid (∀ w, Calls Tryd.prog 13 #[(kv a b)] w fun e w' => e = .returned (.string (a ++ ⟨#[47]⟩ ++ b)) ∧ Below w.heap.size w w') := Lib.hid (fun w => C5.out w)
    have C6t := Lib.hid (C6.out rfl)
    clear C5 C6
    go_wp2_with (refine wpl_load 23 _ rfl w.heap.size rfl _ _ _ HB6.out Tryd.underlying23 rfl 2 Tryd.infoKey rfl rfl ?_)
    refine (C5t.out _).mono ?_
    rintro e w7 ⟨rfl, hb7⟩
    have HB7 := Lib.hid (HB6.out.kept hb7)
    have Hb7 := Lib.hid (bel2 Hb6.out hb7)
    clear hb7
    go_wp2_with fail
    refine (C6t.out _ (HE.out.kept Hb7.out)).mono ?_
    rintro e w8 ⟨rfl, hb8⟩
    have HB8 := Lib.hid (HB7.out.kept hb8)
    have Hb8 := Lib.hid (bel2 Hb7.out hb8)
    clear hb8
    obtain ⟨W9, hW9⟩ : ∃ W, W = w8.alloc (.cells #[.string a, .string b] 23) := ⟨_, rfl⟩
    have hbW9 : Below w8.heap.size w8 W9 := hW9 ▸ (Below.refl _ _).alloc (Nat.le_refl _) _
    have HNW9 : Hid (Blk W9 w8.heap.size 23 #[.string a, .string b]) := Lib.hid (hW9 ▸ Blk.new w8 _ _)
    have HW9 := Lib.hid hW9.symm
    have HB9 := Lib.hid (HB8.out.kept hbW9)
    have Hb9 := Lib.hid (bel2 Hb8.out hbW9)
    clear hW9 hbW9
    have hS1 : Blk W9.drew (w.heap.size) 23 #[.string a, .string b] ∧ Blk W9.drew (w8.heap.size) 23 #[.string a, .string b] ∧ Below w.heap.size w W9.drew :=
      ⟨HB9.out.kept (below_drewN W9 1), HNW9.out.kept (below_drewN W9 1), bel2 Hb9.out (below_drewN W9 1)⟩
    go_wp2_with fail
    rw [HW9.out]
    refine wp_region_held_drew (S := fun w' => Blk w' (w.heap.size) 23 #[.string a, .string b] ∧ Blk w' (w8.heap.size) 23 #[.string a, .string b] ∧ Below w.heap.size w w') (by kernel_rfl) hS1 (fun hS => ?_)
    change wpAnyH _ _ _ _ _ 19 #[false, false, false, false, false, false, false, false, false, false, false, false, false, false, false, false, false, false, false] _ _
    refine wpAnyH_take (i := 0) (v := (kv a b)) rfl (by kernel_rfl) (by kernel_rfl) (by kernel_rfl) (fun _ _ _ h => h) (yields_load 23 (.tmp 3) rfl (w.heap.size) (by kernel_rfl) _ _ _ (fun w h => h.1) Tryd.underlying23 rfl 2 Tryd.infoKey rfl (by kernel_rfl)) hS ?_
    simp only [List.getElem_toArray, List.getElem_cons_zero, List.getElem_cons_succ, Act.put, List.setIfInBounds_toArray, List.set_cons_zero, List.set_cons_succ]
    refine wpAnyH_take (i := 2) (v := .pointer (some ⟨w.heap.size, 0, none⟩)) rfl (by kernel_rfl) (by kernel_rfl) (by kernel_rfl) (fun _ _ _ h => h) (.inl ⟨by kernel_rfl, fun w _ => by kernel_rfl⟩) hS ?_
    simp only [List.getElem_toArray, List.getElem_cons_zero, List.getElem_cons_succ, Act.put, List.setIfInBounds_toArray, List.set_cons_zero, List.set_cons_succ]
    refine wpAnyH_take (i := 5) (v := .pointer (some ⟨w.heap.size, 1, none⟩)) rfl (by kernel_rfl) (by kernel_rfl) (by kernel_rfl) (fun _ _ _ h => h) (.inl ⟨by kernel_rfl, fun w _ => by kernel_rfl⟩) hS ?_
    simp only [List.getElem_toArray, List.getElem_cons_zero, List.getElem_cons_succ, Act.put, List.setIfInBounds_toArray, List.set_cons_zero, List.set_cons_succ]
    refine wpAnyH_take (i := 3) (v := .string a) rfl (by kernel_rfl) (by kernel_rfl) (by kernel_rfl) (fun _ _ _ h => h) (.inl ⟨by kernel_rfl, fun w hw => exec_ldS 9 (.tmp 83) rfl _ 0 (by kernel_rfl) a (hw.1.cell 0)⟩) hS ?_
    simp only [List.getElem_toArray, List.getElem_cons_zero, List.getElem_cons_succ, Act.put, List.setIfInBounds_toArray, List.set_cons_zero, List.set_cons_succ]
    refine wpAnyH_take (i := 6) (v := .string b) rfl (by kernel_rfl) (by kernel_rfl) (by kernel_rfl) (fun _ _ _ h => h) (.inl ⟨by kernel_rfl, fun w hw => exec_ldS 9 (.tmp 86) rfl _ 1 (by kernel_rfl) b (hw.1.cell 1)⟩) hS ?_
    simp only [List.getElem_toArray, List.getElem_cons_zero, List.getElem_cons_succ, Act.put, List.setIfInBounds_toArray, List.set_cons_zero, List.set_cons_succ]
    refine wpAnyH_take (i := 4) (v := .string (a ++ ⟨#[47]⟩)) rfl (by kernel_rfl) (by kernel_rfl) (by kernel_rfl) (fun _ _ _ h => h) (.inl ⟨by kernel_rfl, fun w _ => exec_sadd 9 9 (.tmp 84) _ rfl a ⟨#[47]⟩ (by kernel_rfl) (by kernel_rfl) HZ1.out⟩) hS ?_
    simp only [List.getElem_toArray, List.getElem_cons_zero, List.getElem_cons_succ, Act.put, List.setIfInBounds_toArray, List.set_cons_zero, List.set_cons_succ]
    refine wpAnyH_take (i := 7) (v := .string (a ++ ⟨#[47]⟩ ++ b)) rfl (by kernel_rfl) (by kernel_rfl) (by kernel_rfl) (fun _ _ _ h => h) (.inl ⟨by kernel_rfl, fun w _ => exec_sadd 9 9 (.tmp 85) (.tmp 87) rfl (a ++ ⟨#[47]⟩) b (by kernel_rfl) (by kernel_rfl) HZ2.out⟩) hS ?_
    simp only [List.getElem_toArray, List.getElem_cons_zero, List.getElem_cons_succ, Act.put, List.setIfInBounds_toArray, List.set_cons_zero, List.set_cons_succ]
    refine wpAnyH_ready (rs := [1]) (by kernel_rfl) (by simp) ?_
    refine AllReadyH.cons rfl (fun K' hK => ?_) AllReadyH.nil
    refine step_call 13 #[(kv a b)] (by kernel_rfl) (by kernel_rfl) (.string (a ++ ⟨#[47]⟩ ++ b)) (C5t.out _) (fun v6 hv6 => hK.out _ _ (⟨hS.1.kept hv6, hS.2.1.kept hv6, bel2 hS.2.2 hv6⟩) (fun hS => ?_))
    simp only [List.getElem_toArray, List.getElem_cons_zero, List.getElem_cons_succ, Act.put, List.setIfInBounds_toArray, List.set_cons_zero, List.set_cons_succ]
    refine wpAnyH_take (i := 8) (v := .bool true) rfl (by kernel_rfl) (by kernel_rfl) (by kernel_rfl) (fun _ _ _ h => h) (.inl ⟨by kernel_rfl, fun w _ => exec_seq2 9 9 (.tmp 82) (.tmp 88) rfl (a ++ ⟨#[47]⟩ ++ b) (by kernel_rfl) (by kernel_rfl)⟩) hS ?_
    simp only [List.getElem_toArray, List.getElem_cons_zero, List.getElem_cons_succ, Act.put, List.setIfInBounds_toArray, List.set_cons_zero, List.set_cons_succ]
    refine wpAnyH_take (i := 9) (v := .bool true) rfl (by kernel_rfl) (by kernel_rfl) (by kernel_rfl) (fun _ _ _ h => h) (.inl ⟨by kernel_rfl, fun w _ => by kernel_rfl⟩) hS ?_
    simp only [List.getElem_toArray, List.getElem_cons_zero, List.getElem_cons_succ, Act.put, List.setIfInBounds_toArray, List.set_cons_zero, List.set_cons_succ]
    refine wpAnyH_take (i := 10) (v := .nilIface) rfl (by kernel_rfl) (by kernel_rfl) (by kernel_rfl) (fun _ _ _ h => h) (.inl ⟨by kernel_rfl, fun w _ => by kernel_rfl⟩) hS ?_
    simp only [List.getElem_toArray, List.getElem_cons_zero, List.getElem_cons_succ, Act.put, List.setIfInBounds_toArray, List.set_cons_zero, List.set_cons_succ]
    refine wpAnyH_take (i := 11) (v := .bool true) rfl (by kernel_rfl) (by kernel_rfl) (by kernel_rfl) (fun _ _ _ h => h) (.inl ⟨by kernel_rfl, fun w _ => by kernel_rfl⟩) hS ?_
    simp only [List.getElem_toArray, List.getElem_cons_zero, List.getElem_cons_succ, Act.put, List.setIfInBounds_toArray, List.set_cons_zero, List.set_cons_succ]
    refine wpAnyH_take (i := 12) (v := .bool true) rfl (by kernel_rfl) (by kernel_rfl) (by kernel_rfl) (fun _ _ _ h => h) (.inl ⟨by kernel_rfl, fun w _ => by kernel_rfl⟩) hS ?_
    simp only [List.getElem_toArray, List.getElem_cons_zero, List.getElem_cons_succ, Act.put, List.setIfInBounds_toArray, List.set_cons_zero, List.set_cons_succ]
    refine wpAnyH_take (i := 13) (v := .bool true) rfl (by kernel_rfl) (by kernel_rfl) (by kernel_rfl) (fun _ _ _ h => h) (.inl ⟨by kernel_rfl, fun w _ => by kernel_rfl⟩) hS ?_
    simp only [List.getElem_toArray, List.getElem_cons_zero, List.getElem_cons_succ, Act.put, List.setIfInBounds_toArray, List.set_cons_zero, List.set_cons_succ]
    refine wpAnyH_take (i := 14) (v := (kv a b)) rfl (by kernel_rfl) (by kernel_rfl) (by kernel_rfl) (fun _ _ _ h => h) (yields_load 23 (.tmp 9) rfl (w8.heap.size) (by kernel_rfl) _ _ _ (fun w h => h.2.1) Tryd.underlying23 rfl 2 Tryd.infoKey rfl (by kernel_rfl)) hS ?_
    simp only [List.getElem_toArray, List.getElem_cons_zero, List.getElem_cons_succ, Act.put, List.setIfInBounds_toArray, List.set_cons_zero, List.set_cons_succ]
    refine wpAnyH_take (i := 15) (v := (kv a b)) rfl (by kernel_rfl) (by kernel_rfl) (by kernel_rfl) (fun _ _ _ h => h) (yields_load 23 (.tmp 3) rfl (w.heap.size) (by kernel_rfl) _ _ _ (fun w h => h.1) Tryd.underlying23 rfl 2 Tryd.infoKey rfl (by kernel_rfl)) hS ?_
    simp only [List.getElem_toArray, List.getElem_cons_zero, List.getElem_cons_succ, Act.put, List.setIfInBounds_toArray, List.set_cons_zero, List.set_cons_succ]
    refine wpAnyH_take (i := 16) (v := .bool true) rfl (by kernel_rfl) (by kernel_rfl) (by kernel_rfl) (fun _ _ _ h => h) (.inl ⟨by kernel_rfl, fun w _ => exec_eql2 23 23 (.tmp 95) (.tmp 96) rfl a b (by kernel_rfl) (by kernel_rfl)⟩) hS ?_
    simp only [List.getElem_toArray, List.getElem_cons_zero, List.getElem_cons_succ, Act.put, List.setIfInBounds_toArray, List.set_cons_zero, List.set_cons_succ]
    refine wpAnyH_take (i := 17) (v := .bool true) rfl (by kernel_rfl) (by kernel_rfl) (by kernel_rfl) (fun _ _ _ h => h) (.inl ⟨by kernel_rfl, fun w _ => by kernel_rfl⟩) hS ?_
    simp only [List.getElem_toArray, List.getElem_cons_zero, List.getElem_cons_succ, Act.put, List.setIfInBounds_toArray, List.set_cons_zero, List.set_cons_succ]
    refine wpAnyH_take (i := 18) (v := .bool true) rfl (by kernel_rfl) (by kernel_rfl) (by kernel_rfl) (fun _ _ _ h => h) (.inl ⟨by kernel_rfl, fun w _ => by kernel_rfl⟩) hS ?_
    simp only [List.getElem_toArray, List.getElem_cons_zero, List.getElem_cons_succ, Act.put, List.setIfInBounds_toArray, List.set_cons_zero, List.set_cons_succ]
    refine wpAnyH_done (by kernel_rfl) ?_ _
    have Hbz := Lib.hid hS.2.2
    clear hS1 hS
    go_wp2
    go_ret
    exact ⟨rfl, Hbz.out⟩

set_option linter.unusedSimpArgs false in
set_option maxRecDepth 100000 in
set_option maxHeartbeats 8000000 in
theorem keys_false (s a b xa xb : ByteArray) (hs : s.size ≤ 100) (ha : a.size ≤ 100) (hb : b.size ≤ 100) (ue : TypeId) (pe : Value) (L R : Bool) (E : Value) (w : World) (hE : NEnv E w)
    (cA : ∀ w, NEnv E w → Calls Tryd.prog 6 #[.string s] w fun e w' => e = .returned (.tuple #[(kv xa xb), (.iface ue pe)]) ∧ Below w.heap.size w w')
    (cB : ∀ w, Calls Tryd.prog 7 #[.string s] w fun e w' => e = .returned (.tuple #[(kv xa xb), .bool false]) ∧ Below w.heap.size w w')
    (cN : ∀ w', Below w.heap.size w w' → Calls Tryd.prog 12 #[(.iface ue pe)] w' fun e w2 => e = .returned (.int .i64 6) ∧ Below w'.heap.size w' w2)
    (c1 : ∀ w, Calls Tryd.prog 8 #[.string s] w fun e w' => e = .returned (.bool L) ∧ Below w.heap.size w w')
    (c2 : ∀ w, Calls Tryd.prog 9 #[.string s] w fun e w' => e = .returned (.bool L) ∧ Below w.heap.size w w')
    (c3 : ∀ w, Calls Tryd.prog 10 #[(kv a b)] w fun e w' => e = .returned (.bool R) ∧ Below w.heap.size w w')
    (c4 : ∀ w, Calls Tryd.prog 11 #[(kv a b)] w fun e w' => e = .returned (.bool R) ∧ Below w.heap.size w w')
    (c5 : ∀ w, Calls Tryd.prog 13 #[(kv a b)] w fun e w' => e = .returned (.string (if R = true then a ++ ⟨#[47]⟩ ++ b else ⟨#[]⟩)) ∧ Below w.heap.size w w')
    (c6 : R = true → ∀ w, NEnv E w → Calls Tryd.prog 6 #[.string (a ++ ⟨#[47]⟩ ++ b)] w fun e w' => e = .returned (.tuple #[(kv a b), .nilIface]) ∧ Below w.heap.size w w') :
    Calls Tryd.prog 3 #[.string s, (kv a b)] w fun e w' => e = .returned (.bool true) ∧ Below w.heap.size w w' := by
  obtain ⟨W0, hW0⟩ : ∃ W, W = w.alloc (.cells #[.string a, .string b] 23) := ⟨_, rfl⟩
  have hB0 : Blk W0 w.heap.size 23 #[.string a, .string b] := hW0 ▸ Blk.new w _ _
  have hb0 : Below w.heap.size w W0 := hW0 ▸ (Below.refl _ _).alloc (Nat.le_refl _) _
  have HW0 := Lib.hid hW0.symm
  have HB0 := Lib.hid hB0
  have Hb0 := Lib.hid hb0
  have HE := Lib.hid hE
  have CA := Lib.hid cA
  have CB := Lib.hid cB
  have C1 := Lib.hid c1
  have C2 := Lib.hid c2
  have C3 := Lib.hid c3
  have C4 := Lib.hid c4
  have C5 := Lib.hid c5
  have C6 := Lib.hid c6
  have hz1 : a.size + (⟨#[47]⟩ : ByteArray).size ≤ 1000 := by
    have : (⟨#[47]⟩ : ByteArray).size = 1 := rfl
    omega
  have hz2 : (a ++ ⟨#[47]⟩).size + b.size ≤ 1000 := by
    have : (⟨#[47]⟩ : ByteArray).size = 1 := rfl
    rw [ByteArray.size_append]
    omega
  have HZ1 := Lib.hid hz1
  have HZ2 := Lib.hid hz2
  have CN := Lib.hid cN
  clear hW0 hB0 hb0 hE cA cB c1 c2 c3 c4 c5 c6 hz1 hz2 cN
  go_enter Tryd.func3, Tryd.ntmps3
  go_wp2_with fail
  rw [HW0.out]
  refine (nalive_any E W0 (HE.out.kept Hb0.out)).mono ?_
  rintro e w1 ⟨rfl, hb1⟩
  have HB1 := Lib.hid (HB0.out.kept hb1)
  have Hb1 := Lib.hid (bel2 Hb0.out hb1)
  clear hb1
  have k0 : w1.cell? ⟨w.heap.size, 0, none⟩ = some (.string a) := HB1.out.cell 0
  have k1 : w1.cell? ⟨w.heap.size, 1, none⟩ = some (.string b) := HB1.out.cell 1
  go_wp2_with fail
  refine (CA.out w1 (HE.out.kept Hb1.out)).mono ?_
  rintro e w2 ⟨rfl, hb2⟩
  have HB2 := Lib.hid (HB1.out.kept hb2)
  have Hb2 := Lib.hid (bel2 Hb1.out hb2)
  clear hb2 k0 k1
  obtain ⟨W3, hW3⟩ : ∃ W, W = w2.alloc (.cells #[.string xa, .string xb] 23) := ⟨_, rfl⟩
  have hbW3 : Below w2.heap.size w2 W3 := hW3 ▸ (Below.refl _ _).alloc (Nat.le_refl _) _
  have HNW3 : Hid (Blk W3 w2.heap.size 23 #[.string xa, .string xb]) := Lib.hid (hW3 ▸ Blk.new w2 _ _)
  have HW3 := Lib.hid hW3.symm
  have HB3 := Lib.hid (HB2.out.kept hbW3)
  have Hb3 := Lib.hid (bel2 Hb2.out hbW3)
  clear hW3 hbW3
  go_wp2_with fail
  rw [HW3.out]
  refine (CB.out W3).mono ?_
  rintro e w4 ⟨rfl, hb4⟩
  have HB4 := Lib.hid (HB3.out.kept hb4)
  have HX4 := Lib.hid (HNW3.out.kept hb4)
  have Hb4 := Lib.hid (bel2 Hb3.out hb4)
  clear hb4
  obtain ⟨W5, hW5⟩ : ∃ W, W = w4.alloc (.cells #[.string xa, .string xb] 23) := ⟨_, rfl⟩
  have hbW5 : Below w4.heap.size w4 W5 := hW5 ▸ (Below.refl _ _).alloc (Nat.le_refl _) _
  have HNW5 : Hid (Blk W5 w4.heap.size 23 #[.string xa, .string xb]) := Lib.hid (hW5 ▸ Blk.new w4 _ _)
  have HW5 := Lib.hid hW5.symm
  have HB5 := Lib.hid (HB4.out.kept hbW5)
  have HX5 := Lib.hid (HX4.out.kept hbW5)
  have Hb5 := Lib.hid (bel2 Hb4.out hbW5)
  clear hW5 hbW5
  have hS0 : Blk W5.drew (w.heap.size) 23 #[.string a, .string b] ∧ Blk W5.drew (w2.heap.size) 23 #[.string xa, .string xb] ∧ Blk W5.drew (w4.heap.size) 23 #[.string xa, .string xb] ∧ Below w.heap.size w W5.drew :=
    ⟨HB5.out.kept (below_drewN W5 1), HX5.out.kept (below_drewN W5 1), HNW5.out.kept (below_drewN W5 1), bel2 Hb5.out (below_drewN W5 1)⟩
  go_wp2_with fail
  rw [HW5.out]
  refine wp_region_held_drew (S := fun w' => Blk w' (w.heap.size) 23 #[.string a, .string b] ∧ Blk w' (w2.heap.size) 23 #[.string xa, .string xb] ∧ Blk w' (w4.heap.size) 23 #[.string xa, .string xb] ∧ Below w.heap.size w w') (by kernel_rfl) hS0 (fun hS => ?_)
  change wpAnyH _ _ _ _ _ 32 #[false, false, false, false, false, false, false, false, false, false, false, false, false, false, false, false, false, false, false, false, false, false, false, false, false, false, false, false, false, false, false, false] _ _
  refine wpAnyH_take (i := 0) (v := .string s) rfl (by kernel_rfl) (by kernel_rfl) (by kernel_rfl) (fun _ _ _ h => h) (.inl ⟨by kernel_rfl, fun w _ => by kernel_rfl⟩) hS ?_
  simp only [List.getElem_toArray, List.getElem_cons_zero, List.getElem_cons_succ, Act.put, List.setIfInBounds_toArray, List.set_cons_zero, List.set_cons_succ]
  refine wpAnyH_take (i := 2) (v := .string s) rfl (by kernel_rfl) (by kernel_rfl) (by kernel_rfl) (fun _ _ _ h => h) (.inl ⟨by kernel_rfl, fun w _ => by kernel_rfl⟩) hS ?_
  simp only [List.getElem_toArray, List.getElem_cons_zero, List.getElem_cons_succ, Act.put, List.setIfInBounds_toArray, List.set_cons_zero, List.set_cons_succ]
  refine wpAnyH_ready (rs := [1]) (by kernel_rfl) (by simp) ?_
  refine AllReadyH.cons rfl (fun K' hK => ?_) AllReadyH.nil
  refine step_call 8 #[.string s] (by kernel_rfl) (by kernel_rfl) (.bool L) (C1.out _) (fun v1 hv1 => hK.out _ _ (⟨hS.1.kept hv1, hS.2.1.kept hv1, hS.2.2.1.kept hv1, bel2 hS.2.2.2 hv1⟩) (fun hS => ?_))
  simp only [List.getElem_toArray, List.getElem_cons_zero, List.getElem_cons_succ, Act.put, List.setIfInBounds_toArray, List.set_cons_zero, List.set_cons_succ]
  refine wpAnyH_ready (rs := [3]) (by kernel_rfl) (by simp) ?_
  refine AllReadyH.cons rfl (fun K' hK => ?_) AllReadyH.nil
  refine step_call 9 #[.string s] (by kernel_rfl) (by kernel_rfl) (.bool L) (C2.out _) (fun v2 hv2 => hK.out _ _ (⟨hS.1.kept hv2, hS.2.1.kept hv2, hS.2.2.1.kept hv2, bel2 hS.2.2.2 hv2⟩) (fun hS => ?_))
  simp only [List.getElem_toArray, List.getElem_cons_zero, List.getElem_cons_succ, Act.put, List.setIfInBounds_toArray, List.set_cons_zero, List.set_cons_succ]
  refine wpAnyH_take (i := 4) (v := .bool false) rfl (by kernel_rfl) (by kernel_rfl) (by kernel_rfl) (fun _ _ _ h => h) (.inl ⟨by kernel_rfl, fun w _ => by cases L <;> kernel_rfl⟩) hS ?_
  simp only [List.getElem_toArray, List.getElem_cons_zero, List.getElem_cons_succ, Act.put, List.setIfInBounds_toArray, List.set_cons_zero, List.set_cons_succ]
  refine wpAnyH_take (i := 5) (v := .bool false) rfl (by kernel_rfl) (by kernel_rfl) (by kernel_rfl) (fun _ _ _ h => h) (.inl ⟨by kernel_rfl, fun w _ => by kernel_rfl⟩) hS ?_
  simp only [List.getElem_toArray, List.getElem_cons_zero, List.getElem_cons_succ, Act.put, List.setIfInBounds_toArray, List.set_cons_zero, List.set_cons_succ]
  refine wpAnyH_take (i := 6) (v := (kv a b)) rfl (by kernel_rfl) (by kernel_rfl) (by kernel_rfl) (fun _ _ _ h => h) (yields_load 23 (.tmp 3) rfl (w.heap.size) (by kernel_rfl) _ _ _ (fun w h => h.1) Tryd.underlying23 rfl 2 Tryd.infoKey rfl (by kernel_rfl)) hS ?_
  simp only [List.getElem_toArray, List.getElem_cons_zero, List.getElem_cons_succ, Act.put, List.setIfInBounds_toArray, List.set_cons_zero, List.set_cons_succ]
  refine wpAnyH_take (i := 8) (v := (kv a b)) rfl (by kernel_rfl) (by kernel_rfl) (by kernel_rfl) (fun _ _ _ h => h) (yields_load 23 (.tmp 3) rfl (w.heap.size) (by kernel_rfl) _ _ _ (fun w h => h.1) Tryd.underlying23 rfl 2 Tryd.infoKey rfl (by kernel_rfl)) hS ?_
  simp only [List.getElem_toArray, List.getElem_cons_zero, List.getElem_cons_succ, Act.put, List.setIfInBounds_toArray, List.set_cons_zero, List.set_cons_succ]
  refine wpAnyH_ready (rs := [7]) (by kernel_rfl) (by simp) ?_
  refine AllReadyH.cons rfl (fun K' hK => ?_) AllReadyH.nil
  rw [if_pos (by kernel_rfl)]
  refine op_call 10 #[(kv a b)] (by kernel_rfl) (.bool R) (C3.out _) (fun v3 hv3 => hK.out _ _ (⟨hS.1.kept hv3, hS.2.1.kept hv3, hS.2.2.1.kept hv3, bel2 hS.2.2.2 hv3⟩) (fun hS => ?_))
  simp only [List.getElem_toArray, List.getElem_cons_zero, List.getElem_cons_succ, Act.put, List.setIfInBounds_toArray, List.set_cons_zero, List.set_cons_succ]
  refine wpAnyH_ready (rs := [9]) (by kernel_rfl) (by simp) ?_
  refine AllReadyH.cons rfl (fun K' hK => ?_) AllReadyH.nil
  rw [if_pos (by kernel_rfl)]
  refine op_call 11 #[(kv a b)] (by kernel_rfl) (.bool R) (C4.out _) (fun v4 hv4 => hK.out _ _ (⟨hS.1.kept hv4, hS.2.1.kept hv4, hS.2.2.1.kept hv4, bel2 hS.2.2.2 hv4⟩) (fun hS => ?_))
  simp only [List.getElem_toArray, List.getElem_cons_zero, List.getElem_cons_succ, Act.put, List.setIfInBounds_toArray, List.set_cons_zero, List.set_cons_succ]
  refine wpAnyH_take (i := 10) (v := .bool false) rfl (by kernel_rfl) (by kernel_rfl) (by kernel_rfl) (fun _ _ _ h => h) (.inl ⟨by kernel_rfl, fun w _ => by cases R <;> kernel_rfl⟩) hS ?_
  simp only [List.getElem_toArray, List.getElem_cons_zero, List.getElem_cons_succ, Act.put, List.setIfInBounds_toArray, List.set_cons_zero, List.set_cons_succ]
  refine wpAnyH_take (i := 11) (v := .bool false) rfl (by kernel_rfl) (by kernel_rfl) (by kernel_rfl) (fun _ _ _ h => h) (.inl ⟨by kernel_rfl, fun w _ => by kernel_rfl⟩) hS ?_
  simp only [List.getElem_toArray, List.getElem_cons_zero, List.getElem_cons_succ, Act.put, List.setIfInBounds_toArray, List.set_cons_zero, List.set_cons_succ]
  refine wpAnyH_take (i := 12) (v := .bool false) rfl (by kernel_rfl) (by kernel_rfl) (by kernel_rfl) (fun _ _ _ h => h) (.inl ⟨by kernel_rfl, fun w _ => by kernel_rfl⟩) hS ?_
  simp only [List.getElem_toArray, List.getElem_cons_zero, List.getElem_cons_succ, Act.put, List.setIfInBounds_toArray, List.set_cons_zero, List.set_cons_succ]
  refine wpAnyH_take (i := 13) (v := (kv xa xb)) rfl (by kernel_rfl) (by kernel_rfl) (by kernel_rfl) (fun _ _ _ h => h) (yields_load 23 (.tmp 5) rfl (w2.heap.size) (by kernel_rfl) _ _ _ (fun w h => h.2.1) Tryd.underlying23 rfl 2 Tryd.infoKey rfl (by kernel_rfl)) hS ?_
  simp only [List.getElem_toArray, List.getElem_cons_zero, List.getElem_cons_succ, Act.put, List.setIfInBounds_toArray, List.set_cons_zero, List.set_cons_succ]
  refine wpAnyH_take (i := 14) (v := (kv xa xb)) rfl (by kernel_rfl) (by kernel_rfl) (by kernel_rfl) (fun _ _ _ h => h) (yields_load 23 (.tmp 7) rfl (w4.heap.size) (by kernel_rfl) _ _ _ (fun w h => h.2.2.1) Tryd.underlying23 rfl 2 Tryd.infoKey rfl (by kernel_rfl)) hS ?_
  simp only [List.getElem_toArray, List.getElem_cons_zero, List.getElem_cons_succ, Act.put, List.setIfInBounds_toArray, List.set_cons_zero, List.set_cons_succ]
  refine wpAnyH_take (i := 15) (v := .bool false) rfl (by kernel_rfl) (by kernel_rfl) (by kernel_rfl) (fun _ _ _ h => h) (.inl ⟨by kernel_rfl, fun w _ => exec_neq2 23 23 (.tmp 50) (.tmp 51) rfl xa xb (by kernel_rfl) (by kernel_rfl)⟩) hS ?_
  simp only [List.getElem_toArray, List.getElem_cons_zero, List.getElem_cons_succ, Act.put, List.setIfInBounds_toArray, List.set_cons_zero, List.set_cons_succ]
  refine wpAnyH_take (i := 16) (v := .bool false) rfl (by kernel_rfl) (by kernel_rfl) (by kernel_rfl) (fun _ _ _ h => h) (.inl ⟨by kernel_rfl, fun w _ => by kernel_rfl⟩) hS ?_
  simp only [List.getElem_toArray, List.getElem_cons_zero, List.getElem_cons_succ, Act.put, List.setIfInBounds_toArray, List.set_cons_zero, List.set_cons_succ]
  refine wpAnyH_take (i := 17) (v := .bool false) rfl (by kernel_rfl) (by kernel_rfl) (by kernel_rfl) (fun _ _ _ h => h) (.inl ⟨by kernel_rfl, fun w _ => by kernel_rfl⟩) hS ?_
  simp only [List.getElem_toArray, List.getElem_cons_zero, List.getElem_cons_succ, Act.put, List.setIfInBounds_toArray, List.set_cons_zero, List.set_cons_succ]
  refine wpAnyH_take (i := 18) (v := (.iface ue pe)) rfl (by kernel_rfl) (by kernel_rfl) (by kernel_rfl) (fun _ _ _ h => h) (.inl ⟨by kernel_rfl, fun w _ => by kernel_rfl⟩) hS ?_
  simp only [List.getElem_toArray, List.getElem_cons_zero, List.getElem_cons_succ, Act.put, List.setIfInBounds_toArray, List.set_cons_zero, List.set_cons_succ]
  refine wpAnyH_take (i := 19) (v := .bool false) rfl (by kernel_rfl) (by kernel_rfl) (by kernel_rfl) (fun _ _ _ h => h) (.inl ⟨by kernel_rfl, fun w _ => by kernel_rfl⟩) hS ?_
  simp only [List.getElem_toArray, List.getElem_cons_zero, List.getElem_cons_succ, Act.put, List.setIfInBounds_toArray, List.set_cons_zero, List.set_cons_succ]
  refine wpAnyH_take (i := 20) (v := .bool false) rfl (by kernel_rfl) (by kernel_rfl) (by kernel_rfl) (fun _ _ _ h => h) (.inl ⟨by kernel_rfl, fun w _ => by kernel_rfl⟩) hS ?_
  simp only [List.getElem_toArray, List.getElem_cons_zero, List.getElem_cons_succ, Act.put, List.setIfInBounds_toArray, List.set_cons_zero, List.set_cons_succ]
  refine wpAnyH_take (i := 21) (v := .bool false) rfl (by kernel_rfl) (by kernel_rfl) (by kernel_rfl) (fun _ _ _ h => h) (.inl ⟨by kernel_rfl, fun w _ => by kernel_rfl⟩) hS ?_
  simp only [List.getElem_toArray, List.getElem_cons_zero, List.getElem_cons_succ, Act.put, List.setIfInBounds_toArray, List.set_cons_zero, List.set_cons_succ]
  refine wpAnyH_take (i := 22) (v := .bool false) rfl (by kernel_rfl) (by kernel_rfl) (by kernel_rfl) (fun _ _ _ h => h) (.inl ⟨by kernel_rfl, fun w _ => by kernel_rfl⟩) hS ?_
  simp only [List.getElem_toArray, List.getElem_cons_zero, List.getElem_cons_succ, Act.put, List.setIfInBounds_toArray, List.set_cons_zero, List.set_cons_succ]
  refine wpAnyH_take (i := 23) (v := .bool false) rfl (by kernel_rfl) (by kernel_rfl) (by kernel_rfl) (fun _ _ _ h => h) (.inl ⟨by kernel_rfl, fun w _ => by kernel_rfl⟩) hS ?_
  simp only [List.getElem_toArray, List.getElem_cons_zero, List.getElem_cons_succ, Act.put, List.setIfInBounds_toArray, List.set_cons_zero, List.set_cons_succ]
  refine wpAnyH_take (i := 24) (v := .bool false) rfl (by kernel_rfl) (by kernel_rfl) (by kernel_rfl) (fun _ _ _ h => h) (.inl ⟨by kernel_rfl, fun w _ => by kernel_rfl⟩) hS ?_
  simp only [List.getElem_toArray, List.getElem_cons_zero, List.getElem_cons_succ, Act.put, List.setIfInBounds_toArray, List.set_cons_zero, List.set_cons_succ]
  refine wpAnyH_take (i := 25) (v := .bool true) rfl (by kernel_rfl) (by kernel_rfl) (by kernel_rfl) (fun _ _ _ h => h) (.inl ⟨by kernel_rfl, fun w _ => by kernel_rfl⟩) hS ?_
  simp only [List.getElem_toArray, List.getElem_cons_zero, List.getElem_cons_succ, Act.put, List.setIfInBounds_toArray, List.set_cons_zero, List.set_cons_succ]
  refine wpAnyH_take (i := 26) (v := .bool true) rfl (by kernel_rfl) (by kernel_rfl) (by kernel_rfl) (fun _ _ _ h => h) (.inl ⟨by kernel_rfl, fun w _ => by kernel_rfl⟩) hS ?_
  simp only [List.getElem_toArray, List.getElem_cons_zero, List.getElem_cons_succ, Act.put, List.setIfInBounds_toArray, List.set_cons_zero, List.set_cons_succ]
  refine wpAnyH_take (i := 27) (v := (.iface ue pe)) rfl (by kernel_rfl) (by kernel_rfl) (by kernel_rfl) (fun _ _ _ h => h) (.inl ⟨by kernel_rfl, fun w _ => by kernel_rfl⟩) hS ?_
  simp only [List.getElem_toArray, List.getElem_cons_zero, List.getElem_cons_succ, Act.put, List.setIfInBounds_toArray, List.set_cons_zero, List.set_cons_succ]
  refine wpAnyH_ready (rs := [28]) (by kernel_rfl) (by simp) ?_
  refine AllReadyH.cons rfl (fun K' hK => ?_) AllReadyH.nil
  rw [if_pos (by kernel_rfl)]
  refine op_call 12 #[(.iface ue pe)] (by kernel_rfl) (.int .i64 6) (CN.out _ hS.2.2.2) (fun v5 hv5 => hK.out _ _ (⟨hS.1.kept hv5, hS.2.1.kept hv5, hS.2.2.1.kept hv5, bel2 hS.2.2.2 hv5⟩) (fun hS => ?_))
  simp only [List.getElem_toArray, List.getElem_cons_zero, List.getElem_cons_succ, Act.put, List.setIfInBounds_toArray, List.set_cons_zero, List.set_cons_succ]
  refine wpAnyH_take (i := 29) (v := .bool false) rfl (by kernel_rfl) (by kernel_rfl) (by kernel_rfl) (fun _ _ _ h => h) (.inl ⟨by kernel_rfl, fun w _ => by kernel_rfl⟩) hS ?_
  simp only [List.getElem_toArray, List.getElem_cons_zero, List.getElem_cons_succ, Act.put, List.setIfInBounds_toArray, List.set_cons_zero, List.set_cons_succ]
  refine wpAnyH_take (i := 30) (v := .bool false) rfl (by kernel_rfl) (by kernel_rfl) (by kernel_rfl) (fun _ _ _ h => h) (.inl ⟨by kernel_rfl, fun w _ => by kernel_rfl⟩) hS ?_
  simp only [List.getElem_toArray, List.getElem_cons_zero, List.getElem_cons_succ, Act.put, List.setIfInBounds_toArray, List.set_cons_zero, List.set_cons_succ]
  refine wpAnyH_take (i := 31) (v := .bool false) rfl (by kernel_rfl) (by kernel_rfl) (by kernel_rfl) (fun _ _ _ h => h) (.inl ⟨by kernel_rfl, fun w _ => by kernel_rfl⟩) hS ?_
  simp only [List.getElem_toArray, List.getElem_cons_zero, List.getElem_cons_succ, Act.put, List.setIfInBounds_toArray, List.set_cons_zero, List.set_cons_succ]
  refine wpAnyH_done (by kernel_rfl) ?_ _
  have HBf := Lib.hid hS.1
  have Hbf := Lib.hid hS.2.2.2
  clear hS0 hS
  go_wp2_with (refine wpl_load 23 _ rfl w.heap.size rfl _ _ _ HBf.out Tryd.underlying23 rfl 2 Tryd.infoKey rfl rfl ?_)
  refine (C4.out _).mono ?_
  rintro e w6 ⟨rfl, hb6⟩
  have HB6 := Lib.hid (HBf.out.kept hb6)
  have Hb6 := Lib.hid (bel2 Hbf.out hb6)
  clear hb6
  cases R with
  | false =>
    go_wp2_with (refine wpl_load 23 _ rfl w.heap.size rfl _ _ _ HB6.out Tryd.underlying23 rfl 2 Tryd.infoKey rfl rfl ?_)
    refine (C5.out _).mono ?_
    rintro e w7 ⟨rfl, hb7⟩
    have Hb7 := Lib.hid (bel2 Hb6.out hb7)
    clear hb7
    go_wp2
    go_ret
    exact ⟨rfl, Hb7.out⟩
  | true =>
    have C5t : Hid (∀ w, Calls Tryd.prog 13 #[(kv a b)] w fun e w' => e = .returned (.string (a ++ ⟨#[47]⟩ ++ b)) ∧ Below w.heap.size w w') := Lib.hid (fun w => C5.out w)
    have C6t := Lib.hid (C6.out rfl)
    clear C5 C6
    go_wp2_with (refine wpl_load 23 _ rfl w.heap.size rfl _ _ _ HB6.out Tryd.underlying23 rfl 2 Tryd.infoKey rfl rfl ?_)
    refine (C5t.out _).mono ?_
    rintro e w7 ⟨rfl, hb7⟩
    have HB7 := Lib.hid (HB6.out.kept hb7)
    have Hb7 := Lib.hid (bel2 Hb6.out hb7)
    clear hb7
    go_wp2_with fail
    refine (C6t.out _ (HE.out.kept Hb7.out)).mono ?_
    rintro e w8 ⟨rfl, hb8⟩
    have HB8 := Lib.hid (HB7.out.kept hb8)
    have Hb8 := Lib.hid (bel2 Hb7.out hb8)
    clear hb8
    obtain ⟨W9, hW9⟩ : ∃ W, W = w8.alloc (.cells #[.string a, .string b] 23) := ⟨_, rfl⟩
    have hbW9 : Below w8.heap.size w8 W9 := hW9 ▸ (Below.refl _ _).alloc (Nat.le_refl _) _
    have HNW9 : Hid (Blk W9 w8.heap.size 23 #[.string a, .string b]) := Lib.hid (hW9 ▸ Blk.new w8 _ _)
    have HW9 := Lib.hid hW9.symm
    have HB9 := Lib.hid (HB8.out.kept hbW9)
    have Hb9 := Lib.hid (bel2 Hb8.out hbW9)
    clear hW9 hbW9
    have hS1 : Blk W9.drew (w.heap.size) 23 #[.string a, .string b] ∧ Blk W9.drew (w8.heap.size) 23 #[.string a, .string b] ∧ Below w.heap.size w W9.drew :=
      ⟨HB9.out.kept (below_drewN W9 1), HNW9.out.kept (below_drewN W9 1), bel2 Hb9.out (below_drewN W9 1)⟩
    go_wp2_with fail
    rw [HW9.out]
    refine wp_region_held_drew (S := fun w' => Blk w' (w.heap.size) 23 #[.string a, .string b] ∧ Blk w' (w8.heap.size) 23 #[.string a, .string b] ∧ Below w.heap.size w w') (by kernel_rfl) hS1 (fun hS => ?_)
    change wpAnyH _ _ _ _ _ 19 #[false, false, false, false, false, false, false, false, false, false, false, false, false, false, false, false, false, false, false] _ _
    refine wpAnyH_take (i := 0) (v := (kv a b)) rfl (by kernel_rfl) (by kernel_rfl) (by kernel_rfl) (fun _ _ _ h => h) (yields_load 23 (.tmp 3) rfl (w.heap.size) (by kernel_rfl) _ _ _ (fun w h => h.1) Tryd.underlying23 rfl 2 Tryd.infoKey rfl (by kernel_rfl)) hS ?_
    simp only [List.getElem_toArray, List.getElem_cons_zero, List.getElem_cons_succ, Act.put, List.setIfInBounds_toArray, List.set_cons_zero, List.set_cons_succ]
    refine wpAnyH_take (i := 2) (v := .pointer (some ⟨w.heap.size, 0, none⟩)) rfl (by kernel_rfl) (by kernel_rfl) (by kernel_rfl) (fun _ _ _ h => h) (.inl ⟨by kernel_rfl, fun w _ => by kernel_rfl⟩) hS ?_
    simp only [List.getElem_toArray, List.getElem_cons_zero, List.getElem_cons_succ, Act.put, List.setIfInBounds_toArray, List.set_cons_zero, List.set_cons_succ]
    refine wpAnyH_take (i := 5) (v := .pointer (some ⟨w.heap.size, 1, none⟩)) rfl (by kernel_rfl) (by kernel_rfl) (by kernel_rfl) (fun _ _ _ h => h) (.inl ⟨by kernel_rfl, fun w _ => by kernel_rfl⟩) hS ?_
    simp only [List.getElem_toArray, List.getElem_cons_zero, List.getElem_cons_succ, Act.put, List.setIfInBounds_toArray, List.set_cons_zero, List.set_cons_succ]
    refine wpAnyH_take (i := 3) (v := .string a) rfl (by kernel_rfl) (by kernel_rfl) (by kernel_rfl) (fun _ _ _ h => h) (.inl ⟨by kernel_rfl, fun w hw => exec_ldS 9 (.tmp 83) rfl _ 0 (by kernel_rfl) a (hw.1.cell 0)⟩) hS ?_
    simp only [List.getElem_toArray, List.getElem_cons_zero, List.getElem_cons_succ, Act.put, List.setIfInBounds_toArray, List.set_cons_zero, List.set_cons_succ]
    refine wpAnyH_take (i := 6) (v := .string b) rfl (by kernel_rfl) (by kernel_rfl) (by kernel_rfl) (fun _ _ _ h => h) (.inl ⟨by kernel_rfl, fun w hw => exec_ldS 9 (.tmp 86) rfl _ 1 (by kernel_rfl) b (hw.1.cell 1)⟩) hS ?_
    simp only [List.getElem_toArray, List.getElem_cons_zero, List.getElem_cons_succ, Act.put, List.setIfInBounds_toArray, List.set_cons_zero, List.set_cons_succ]
    refine wpAnyH_take (i := 4) (v := .string (a ++ ⟨#[47]⟩)) rfl (by kernel_rfl) (by kernel_rfl) (by kernel_rfl) (fun _ _ _ h => h) (.inl ⟨by kernel_rfl, fun w _ => exec_sadd 9 9 (.tmp 84) _ rfl a ⟨#[47]⟩ (by kernel_rfl) (by kernel_rfl) HZ1.out⟩) hS ?_
    simp only [List.getElem_toArray, List.getElem_cons_zero, List.getElem_cons_succ, Act.put, List.setIfInBounds_toArray, List.set_cons_zero, List.set_cons_succ]
    refine wpAnyH_take (i := 7) (v := .string (a ++ ⟨#[47]⟩ ++ b)) rfl (by kernel_rfl) (by kernel_rfl) (by kernel_rfl) (fun _ _ _ h => h) (.inl ⟨by kernel_rfl, fun w _ => exec_sadd 9 9 (.tmp 85) (.tmp 87) rfl (a ++ ⟨#[47]⟩) b (by kernel_rfl) (by kernel_rfl) HZ2.out⟩) hS ?_
    simp only [List.getElem_toArray, List.getElem_cons_zero, List.getElem_cons_succ, Act.put, List.setIfInBounds_toArray, List.set_cons_zero, List.set_cons_succ]
    refine wpAnyH_ready (rs := [1]) (by kernel_rfl) (by simp) ?_
    refine AllReadyH.cons rfl (fun K' hK => ?_) AllReadyH.nil
    refine step_call 13 #[(kv a b)] (by kernel_rfl) (by kernel_rfl) (.string (a ++ ⟨#[47]⟩ ++ b)) (C5t.out _) (fun v6 hv6 => hK.out _ _ (⟨hS.1.kept hv6, hS.2.1.kept hv6, bel2 hS.2.2 hv6⟩) (fun hS => ?_))
    simp only [List.getElem_toArray, List.getElem_cons_zero, List.getElem_cons_succ, Act.put, List.setIfInBounds_toArray, List.set_cons_zero, List.set_cons_succ]
    refine wpAnyH_take (i := 8) (v := .bool true) rfl (by kernel_rfl) (by kernel_rfl) (by kernel_rfl) (fun _ _ _ h => h) (.inl ⟨by kernel_rfl, fun w _ => exec_seq2 9 9 (.tmp 82) (.tmp 88) rfl (a ++ ⟨#[47]⟩ ++ b) (by kernel_rfl) (by kernel_rfl)⟩) hS ?_
    simp only [List.getElem_toArray, List.getElem_cons_zero, List.getElem_cons_succ, Act.put, List.setIfInBounds_toArray, List.set_cons_zero, List.set_cons_succ]
    refine wpAnyH_take (i := 9) (v := .bool true) rfl (by kernel_rfl) (by kernel_rfl) (by kernel_rfl) (fun _ _ _ h => h) (.inl ⟨by kernel_rfl, fun w _ => by kernel_rfl⟩) hS ?_
    simp only [List.getElem_toArray, List.getElem_cons_zero, List.getElem_cons_succ, Act.put, List.setIfInBounds_toArray, List.set_cons_zero, List.set_cons_succ]
    refine wpAnyH_take (i := 10) (v := .nilIface) rfl (by kernel_rfl) (by kernel_rfl) (by kernel_rfl) (fun _ _ _ h => h) (.inl ⟨by kernel_rfl, fun w _ => by kernel_rfl⟩) hS ?_
    simp only [List.getElem_toArray, List.getElem_cons_zero, List.getElem_cons_succ, Act.put, List.setIfInBounds_toArray, List.set_cons_zero, List.set_cons_succ]
    refine wpAnyH_take (i := 11) (v := .bool true) rfl (by kernel_rfl) (by kernel_rfl) (by kernel_rfl) (fun _ _ _ h => h) (.inl ⟨by kernel_rfl, fun w _ => by kernel_rfl⟩) hS ?_
    simp only [List.getElem_toArray, List.getElem_cons_zero, List.getElem_cons_succ, Act.put, List.setIfInBounds_toArray, List.set_cons_zero, List.set_cons_succ]
    refine wpAnyH_take (i := 12) (v := .bool true) rfl (by kernel_rfl) (by kernel_rfl) (by kernel_rfl) (fun _ _ _ h => h) (.inl ⟨by kernel_rfl, fun w _ => by kernel_rfl⟩) hS ?_
    simp only [List.getElem_toArray, List.getElem_cons_zero, List.getElem_cons_succ, Act.put, List.setIfInBounds_toArray, List.set_cons_zero, List.set_cons_succ]
    refine wpAnyH_take (i := 13) (v := .bool true) rfl (by kernel_rfl) (by kernel_rfl) (by kernel_rfl) (fun _ _ _ h => h) (.inl ⟨by kernel_rfl, fun w _ => by kernel_rfl⟩) hS ?_
    simp only [List.getElem_toArray, List.getElem_cons_zero, List.getElem_cons_succ, Act.put, List.setIfInBounds_toArray, List.set_cons_zero, List.set_cons_succ]
    refine wpAnyH_take (i := 14) (v := (kv a b)) rfl (by kernel_rfl) (by kernel_rfl) (by kernel_rfl) (fun _ _ _ h => h) (yields_load 23 (.tmp 9) rfl (w8.heap.size) (by kernel_rfl) _ _ _ (fun w h => h.2.1) Tryd.underlying23 rfl 2 Tryd.infoKey rfl (by kernel_rfl)) hS ?_
    simp only [List.getElem_toArray, List.getElem_cons_zero, List.getElem_cons_succ, Act.put, List.setIfInBounds_toArray, List.set_cons_zero, List.set_cons_succ]
    refine wpAnyH_take (i := 15) (v := (kv a b)) rfl (by kernel_rfl) (by kernel_rfl) (by kernel_rfl) (fun _ _ _ h => h) (yields_load 23 (.tmp 3) rfl (w.heap.size) (by kernel_rfl) _ _ _ (fun w h => h.1) Tryd.underlying23 rfl 2 Tryd.infoKey rfl (by kernel_rfl)) hS ?_
    simp only [List.getElem_toArray, List.getElem_cons_zero, List.getElem_cons_succ, Act.put, List.setIfInBounds_toArray, List.set_cons_zero, List.set_cons_succ]
    refine wpAnyH_take (i := 16) (v := .bool true) rfl (by kernel_rfl) (by kernel_rfl) (by kernel_rfl) (fun _ _ _ h => h) (.inl ⟨by kernel_rfl, fun w _ => exec_eql2 23 23 (.tmp 95) (.tmp 96) rfl a b (by kernel_rfl) (by kernel_rfl)⟩) hS ?_
    simp only [List.getElem_toArray, List.getElem_cons_zero, List.getElem_cons_succ, Act.put, List.setIfInBounds_toArray, List.set_cons_zero, List.set_cons_succ]
    refine wpAnyH_take (i := 17) (v := .bool true) rfl (by kernel_rfl) (by kernel_rfl) (by kernel_rfl) (fun _ _ _ h => h) (.inl ⟨by kernel_rfl, fun w _ => by kernel_rfl⟩) hS ?_
    simp only [List.getElem_toArray, List.getElem_cons_zero, List.getElem_cons_succ, Act.put, List.setIfInBounds_toArray, List.set_cons_zero, List.set_cons_succ]
    refine wpAnyH_take (i := 18) (v := .bool true) rfl (by kernel_rfl) (by kernel_rfl) (by kernel_rfl) (fun _ _ _ h => h) (.inl ⟨by kernel_rfl, fun w _ => by kernel_rfl⟩) hS ?_
    simp only [List.getElem_toArray, List.getElem_cons_zero, List.getElem_cons_succ, Act.put, List.setIfInBounds_toArray, List.set_cons_zero, List.set_cons_succ]
    refine wpAnyH_done (by kernel_rfl) ?_ _
    have Hbz := Lib.hid hS.2.2
    clear hS1 hS
    go_wp2
    go_ret
    exact ⟨rfl, Hbz.out⟩

end Go.Proofs.YtnenhphfghajgaaDoor
