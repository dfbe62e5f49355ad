/-
  Addresses and points as cells: loads, stores, equality.
-/
import Derived.Test.YtgpbmbefdgbblaaDoorTput
import Derived.Test.YtgpbmbefdgbblaaDoorRnd
import Derived.Deep.WholeRow
import Derived.Deep.QuietTactic
namespace Go.Proofs.YtgpbmbefdgbblaaDoor
open Go.RowKit

section
variable {P : Program}
end
/-- An array's cells. -/
def arr (k : IntKind) (b : List Int) : Array Value := (b.map (Value.int k)).toArray
theorem arr_size (k : IntKind) (b : List Int) : (arr k b).size = b.length := by simp [arr]
theorem arr_at (k : IntKind) (b : List Int) (i : Nat) (h : i < b.length) : (arr k b)[i]? = some (.int k (nth b i)) := by
  simp [arr, nth, List.getElem?_eq_getElem h, List.getD]
theorem arr_one (k : IntKind) (b : List Int) : (arr k b).all (·.oneCell') = true := by
  rw [Array.all_eq_true_iff_forall_mem]
  intro v hv
  simp only [arr, List.mem_toArray, List.mem_map] at hv
  rcases hv with ⟨x, _, rfl⟩
  rfl
theorem arr_set (k : IntKind) (b : List Int) (i : Nat) (v : Int) : (arr k b).setIfInBounds i (.int k v) = arr k (b.set i v) := by
  simp [arr, List.map_set]
theorem Tryd.infoArr : (Tryd.prog.info? 32).map (·.size) = some 16 := by kernel_rfl
/-- Six noughts and such: the list of sixteen noughts. -/
abbrev z16 : List Int := [0, 0, 0, 0, 0, 0, 0, 0, 0, 0, 0, 0, 0, 0, 0, 0]
theorem adr_z16 : adr false z16 = #[.bool false, .int .u8 0, .int .u8 0, .int .u8 0, .int .u8 0, .int .u8 0, .int .u8 0, .int .u8 0, .int .u8 0, .int .u8 0, .int .u8 0, .int .u8 0, .int .u8 0, .int .u8 0, .int .u8 0, .int .u8 0, .int .u8 0] := rfl
section
variable {P : Program}
theorem all_range_eqI : ∀ (xs ys : List Int), xs.length = ys.length → ((List.range xs.length).all fun i => nth xs i == nth ys i) = (xs == ys)
  | [], [], _ => rfl
  | x :: xs, y :: ys, h => by
    have ih := all_range_eqI xs ys (by simpa using h)
    rw [List.length_cons, List.range_succ_eq_map, List.all_cons, List.all_map]
    simp only [nth, List.getD_cons_zero, Function.comp_def, List.getD_cons_succ] at ih ⊢
    rw [ih]
    simp [List.cons_beq_cons]
  | [], _ :: _, h => by simp at h
  | _ :: _, [], h => by simp at h
theorem run_equalIn_ints (w : World) (d : Nat) (t e : TypeId) (k : IntKind) (n : Nat) (ht : P.underlying t = some (.array n e)) (he : P.underlying e = some (.int k)) (hsz : ∀ w, (sizeOf e).run P w = .ok 1 w)
    (xs ys : List Int) (hx : xs.length = n) (hy : ys.length = n) : (Op.equalIn (d + 2) t (.agg (arr k xs)) (.agg (arr k ys))).run P w = .ok (xs == ys) w := by
  rw [← all_range_eqI xs ys (hx.trans hy.symm), hx, List.range_eq_range', Op.equalIn]
  simp only [Sem.run_bind, run_underlying ht, Result.andThen_ok, hsz, Std.Legacy.Range.forIn_eq_forIn_range', Std.Legacy.Range.size, Nat.sub_zero, Nat.add_sub_cancel, Nat.div_one]
  have hl : ∀ i ∈ List.range' 0 n 1, i < n := fun i hi => by simpa using (List.mem_range'_1.1 hi).2
  generalize List.range' 0 n 1 = l at hl ⊢
  induction l with
  | nil => simp
  | cons i l ih =>
    have hi : i < n := hl i (by simp)
    have px : (part e (arr k xs) (i * 1)).run P w = .ok (.int k (nth xs i)) w := by
      simp [part, isAgg, run_underlying he, arr_at k xs i (by omega)]
    have py : (part e (arr k ys) (i * 1)).run P w = .ok (.int k (nth ys i)) w := by
      simp [part, isAgg, run_underlying he, arr_at k ys i (by omega)]
    have pe : (Op.equalIn (d + 1) e (.int k (nth xs i)) (.int k (nth ys i))).run P w = .ok (nth xs i == nth ys i) w := run_equalIn_int w d e k k _ _ he
    simp only [List.forIn_cons, Sem.run_bind, px, py, pe, Result.andThen_ok, List.all_cons]
    cases hb : (nth xs i == nth ys i)
    · simp
    · simp only [Bool.not_true, Bool.false_eq_true, if_false, Sem.run_pure, Result.andThen_ok, Bool.true_and]
      exact ih fun j hj => hl j (by simp [hj])
end
theorem Tryd.size5 (w : World) : (sizeOf 5).run Tryd.prog w = .ok 1 w := by kernel_rfl
theorem Tryd.sizeArr (w : World) : (sizeOf 32).run Tryd.prog w = .ok 16 w := by kernel_rfl
theorem Tryd.fieldsAddr : Tryd.prog.underlying 34 = some (.struct (Tryd.prog.fieldsOf 34)) := by kernel_rfl
theorem Tryd.heldAddr : Tryd.prog.stoodInHeld 34 = false := by kernel_rfl
theorem Tryd.listAddr : (Tryd.prog.fieldsOf 34).toList.map (fun f => (f.name == "_", f.type, f.offset)) = [(false, 4, 0), (false, 32, 1)] := by kernel_rfl
theorem Tryd.guardAddr : Tryd.prog.eqGuardType Tryd.prog.depth 34 = false := by kernel_rfl
theorem Tryd.guardArr : Tryd.prog.eqGuardType Tryd.prog.depth 32 = false := by kernel_rfl
theorem adr_extract (s : Bool) (x : List Int) (hx : x.length = 16) : (adr s x).extract 1 (1 + 16) = arr .u8 x := by
  simp only [adr, arr, List.extract_toArray, List.extract_eq_take_drop]
  simp [hx, List.take_of_length_le]
theorem equalIn_adr (d : Nat) (s t : Bool) (x y : List Int) (hx : x.length = 16) (hy : y.length = 16) (w : World) :
    (Op.equalIn (d + 3) 34 (.agg (adr s x)) (.agg (adr t y))).run Tryd.prog w = .ok (s == t && x == y) w := by
  rw [run_equalIn_struct w (d + 2) 34 _ _ Tryd.fieldsAddr Tryd.heldAddr]
  have hl := Tryd.listAddr
  generalize (Tryd.prog.fieldsOf 34).toList = l at hl ⊢
  have h2 : l.length = 2 := by simpa using congrArg List.length hl
  obtain ⟨f, g, rfl⟩ : ∃ f g, l = [f, g] := by
    cases l with
    | nil => simp at h2
    | cons f l =>
      cases l with
      | nil => simp at h2
      | cons g l =>
        cases l with
        | nil => exact ⟨f, g, rfl⟩
        | cons _ _ => simp at h2
  simp only [List.map_cons, List.map_nil, List.cons.injEq, Prod.mk.injEq, and_true, beq_eq_false_iff_ne] at hl
  obtain ⟨⟨f1, f2, f3⟩, g1, g2, g3⟩ := hl
  have p1 : ∀ (s : Bool) x, (part 4 (adr s x) 0).run Tryd.prog w = .ok (.bool s) w := fun s x => by simp [part, isAgg, run_underlying Tryd.underlying4, adr_zero]
  have p2 : ∀ (s : Bool) x, x.length = 16 → (part 32 (adr s x) 1).run Tryd.prog w = .ok (.agg (arr .u8 x)) w := fun s x h => by
    simp only [part, isAgg, Sem.run_bind, run_underlying Tryd.underlying32, Result.andThen_ok, Sem.run_pure, if_true, Tryd.sizeArr, adr_extract s x h]
  have e1 := run_equalIn_bool' (P := Tryd.prog) w (d + 1) 4 s t Tryd.underlying4
  have e2 := run_equalIn_ints w d 32 5 .u8 16 Tryd.underlying32 Tryd.underlying5 Tryd.size5 x y hx hy
  rw [Op.eqFields, if_pos f1, f2, f3]
  simp only [Sem.run_bind, p1, Result.andThen_ok, e1, Sem.run_ite, Sem.run_pure]
  by_cases hst : (!(s == t)) = true
  · rw [if_pos hst]
    have : (s == t) = false := by simpa using hst
    rw [this]
    rfl
  · rw [if_neg hst]
    have : (s == t) = true := by simpa using hst
    rw [this, Op.eqFields, if_pos g1, g2, g3]
    rw [Sem.run_bind, p2 s x hx, Result.andThen_ok, Sem.run_bind, p2 t y hy, Result.andThen_ok, Sem.run_bind, e2, Result.andThen_ok, Sem.run_ite, Bool.true_and]
    by_cases hxy : (!(x == y)) = true
    · rw [if_pos hxy]
      have : (x == y) = false := by simpa using hxy
      rw [this, Sem.run_pure]
    · rw [if_neg hxy]
      have : (x == y) = true := by simpa using hxy
      rw [this, Op.eqFields, Sem.run_pure]
theorem eql_adr (s t : Bool) (x y : List Int) (hx : x.length = 16) (hy : y.length = 16) (w : World) :
    (binOp .eql 34 (.agg (adr s x)) (.agg (adr t y))).run Tryd.prog w = .ok (.bool (s == t && x == y)) w := by
  rw [run_eql_struct, equalIn_adr 9997 s t x y hx hy]
  rfl
theorem eql_arr (x y : List Int) (hx : x.length = 16) (hy : y.length = 16) (w : World) :
    (binOp .eql 32 (.agg (arr .u8 x)) (.agg (arr .u8 y))).run Tryd.prog w = .ok (.bool (x == y)) w := by
  rw [run_eql_struct, run_equalIn_ints w 9998 32 5 .u8 16 Tryd.underlying32 Tryd.underlying5 Tryd.size5 x y hx hy]
  rfl
theorem Tryd.fieldsPoint : Tryd.prog.underlying 36 = some (.struct (Tryd.prog.fieldsOf 36)) := by kernel_rfl
theorem Tryd.heldPoint : Tryd.prog.stoodInHeld 36 = false := by kernel_rfl
theorem Tryd.listPoint : (Tryd.prog.fieldsOf 36).toList.map (fun f => (f.name == "_", f.type, f.offset)) = [(false, 34, 0), (false, 3, 17)] := by kernel_rfl
theorem equalIn_pnt (d : Nat) (s t : Bool) (x y : List Int) (n m : Int) (hx : x.length = 16) (hy : y.length = 16) (w : World) :
    (Op.equalIn (d + 4) 36 (.agg (pnt s x n)) (.agg (pnt t y m))).run Tryd.prog w = .ok ((s == t && x == y) && n == m) w := by
  rw [run_equalIn_struct w (d + 3) 36 _ _ Tryd.fieldsPoint Tryd.heldPoint]
  have hl := Tryd.listPoint
  generalize (Tryd.prog.fieldsOf 36).toList = l at hl ⊢
  have h2 : l.length = 2 := by simpa using congrArg List.length hl
  obtain ⟨f, g, rfl⟩ : ∃ f g, l = [f, g] := by
    cases l with
    | nil => simp at h2
    | cons f l =>
      cases l with
      | nil => simp at h2
      | cons g l =>
        cases l with
        | nil => exact ⟨f, g, rfl⟩
        | cons _ _ => simp at h2
  simp only [List.map_cons, List.map_nil, List.cons.injEq, Prod.mk.injEq, and_true, beq_eq_false_iff_ne] at hl
  obtain ⟨⟨f1, f2, f3⟩, g1, g2, g3⟩ := hl
  have p1 : ∀ (s : Bool) x n, x.length = 16 → (part 34 (pnt s x n) 0).run Tryd.prog w = .ok (.agg (adr s x)) w := fun s x n h => by
    simp only [part, isAgg, Sem.run_bind, run_underlying Tryd.fieldsAddr, Result.andThen_ok, Sem.run_pure, if_true, Tryd.sizeAddr, pnt_extract s x n h]
  have p2 : ∀ (s : Bool) x n, x.length = 16 → (part 3 (pnt s x n) 17).run Tryd.prog w = .ok (.int .i64 n) w := fun s x n h => by
    simp [part, isAgg, run_underlying Tryd.underlying3, pnt_port s x n h]
  have e1 := equalIn_adr d s t x y hx hy w
  have e2 : (Op.equalIn (d + 3) 3 (.int .i64 n) (.int .i64 m)).run Tryd.prog w = .ok (n == m) w := by
    simp [Op.equalIn, run_underlying Tryd.underlying3, go_sem]
  rw [Op.eqFields, if_pos f1, f2, f3]
  simp only [Sem.run_bind, p1 s x n hx, p1 t y m hy, Result.andThen_ok, e1, Sem.run_ite, Sem.run_pure]
  by_cases hst : (!(s == t && x == y)) = true
  · rw [if_pos hst]
    have : (s == t && x == y) = false := by cases hh : (s == t && x == y) <;> simp_all
    rw [this]
    rfl
  · rw [if_neg hst]
    have : (s == t && x == y) = true := by cases hh : (s == t && x == y) <;> simp_all
    rw [this, Op.eqFields, if_pos g1, g2, g3]
    rw [Sem.run_bind, p2 s x n hx, Result.andThen_ok, Sem.run_bind, p2 t y m hy, Result.andThen_ok, Sem.run_bind, e2, Result.andThen_ok, Sem.run_ite, Bool.true_and]
    by_cases hxy : (!(n == m)) = true
    · rw [if_pos hxy]
      have : (n == m) = false := by simpa using hxy
      rw [this, Sem.run_pure]
    · rw [if_neg hxy]
      have : (n == m) = true := by simpa using hxy
      rw [this, Op.eqFields, Sem.run_pure]
theorem eql_pnt (s t : Bool) (x y : List Int) (n m : Int) (hx : x.length = 16) (hy : y.length = 16) (w : World) :
    (binOp .eql 36 (.agg (pnt s x n)) (.agg (pnt t y m))).run Tryd.prog w = .ok (.bool ((s == t && x == y) && n == m)) w := by
  rw [run_eql_struct, equalIn_pnt 9996 s t x y n m hx hy]
  rfl
section
variable {P : Program}
end
section
variable {P : Program} {ops : Array Oper} {a : Act} {w : World} {o : Oper}
theorem exec_geq (t t' : TypeId) (x y : Operand) (ho : o.op = .binOp .geq t x y t') (n m : Int) (hx : a.eval x = .int .i64 n) (hy : a.eval y = .int .i64 m) (b : Bool) (h : decide (n ≥ m) = b) :
    (execOp a.eval o).run P w = .ok (.value (.bool b)) w := by
  subst h
  unfold execOp
  simp only [ho, hx, hy, eqGuard, binOp]
  simp [go_sem]
theorem exec_leq (t t' : TypeId) (x y : Operand) (ho : o.op = .binOp .leq t x y t') (n m : Int) (hx : a.eval x = .int .i64 n) (hy : a.eval y = .int .i64 m) (b : Bool) (h : decide (n ≤ m) = b) :
    (execOp a.eval o).run P w = .ok (.value (.bool b)) w := by
  subst h
  unfold execOp
  simp only [ho, hx, hy, eqGuard, binOp]
  simp [go_sem]
end
end Go.Proofs.YtgpbmbefdgbblaaDoor
