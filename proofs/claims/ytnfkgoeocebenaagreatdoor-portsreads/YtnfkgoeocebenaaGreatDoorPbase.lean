/-
  A point's cells, equality of points, its parts in memory, and steps of regions that draw.
-/
import Derived.Test.YtnfkgoeocebenaaGreatDoorParsed
import Derived.Test.YtnfkgoeocebenaaGreatDoorErr
import Derived.Test.YtnfkgoeocebenaaGreatDoorHeld
import Derived.Deep.MidRow
namespace Go.Proofs.YtnfkgoeocebenaaGreatDoor
open Go.RowKit

theorem wpl_load_pmid {P : Program} {ops : Array Oper} {rest : List Oper} {o : Oper} {a : Act} {w : World} {Q : Exit → Act → World → Prop} (ty : TypeId) (x : Operand) (ho : o.op = .load ty x)
    (b off : Nat) (hx : a.eval x = .pointer (some ⟨b, off, none⟩)) (cs : List Value) (d : TypeDesc) (hc : w.rangeAt b off cs)
    (hu : P.underlying ty = some d) (hd : d.isRow = true) (n : Nat) (hi : (P.info? ty).map (·.size) = some n) (hn : n = cs.length) (hw : Region.wanted o (yielded ops a.tmps) = true)
    (h : wpList P ops Q rest (a.put o.dst (.agg cs.toArray)) w) : wpList P ops Q (o :: rest) a w :=
  BigFrame.wpList_want hw fun _ hK => wp_load_mid ty x ho b off hx cs d hc hu hd (hn ▸ hi) (hK _ _ h)

/-- A point's cells. -/
def pnt (s : Bool) (b : List Int) (n : Int) : Array Value := ((Value.bool s :: b.map (Value.int .u8)) ++ [Value.int .i64 n]).toArray
theorem pnt_size (s : Bool) (b : List Int) (n : Int) : (pnt s b n).size = b.length + 2 := by simp [pnt]
theorem pnt_one (s : Bool) (b : List Int) (n : Int) : (pnt s b n).all (·.oneCell') = true := by
  rw [Array.all_eq_true_iff_forall_mem]
  intro v hv
  simp only [pnt, List.mem_toArray, List.mem_append, List.mem_cons, List.mem_map, List.not_mem_nil, or_false] at hv
  rcases hv with (rfl | ⟨x, _, rfl⟩) | rfl <;> rfl
theorem pnt_zero (s : Bool) (b : List Int) (n : Int) : (pnt s b n)[0]? = some (.bool s) := rfl
theorem pnt_at (s : Bool) (b : List Int) (n : Int) (i : Nat) (h : i < b.length) : (pnt s b n)[1 + i]? = some (.int .u8 (nth b i)) := by
  simp only [pnt, List.getElem?_toArray]
  rw [List.getElem?_append_left (by simp; omega)]
  simp [nth, Nat.add_comm 1 i, List.getElem?_eq_getElem h, List.getD]
theorem pnt_port (s : Bool) (b : List Int) (n : Int) (h : b.length = 16) : (pnt s b n)[17]? = some (.int .i64 n) := by
  simp only [pnt, List.getElem?_toArray]
  rw [List.getElem?_append_right (by simp [h])]
  simp [h]
theorem pnt_extract (s : Bool) (b : List Int) (n : Int) (h : b.length = 16) : (pnt s b n).extract 0 (0 + 17) = adr s b := by
  simp only [pnt, adr, List.extract_toArray, List.extract_eq_take_drop]
  simp [h]

theorem Tryz.infoPoint : (Tryz.prog.info? 60).map (·.size) = some 18 := by kernel_rfl
theorem Tryz.sizeAddr (w : World) : (sizeOf 24).run Tryz.prog w = .ok 17 w := by kernel_rfl
theorem Tryz.fieldsPoint : Tryz.prog.underlying 60 = some (.struct (Tryz.prog.fieldsOf 60)) := by kernel_rfl
theorem Tryz.heldPoint : Tryz.prog.stoodInHeld 60 = false := by kernel_rfl
theorem Tryz.listPoint : (Tryz.prog.fieldsOf 60).toList.map (fun f => (f.name == "_", f.type, f.offset)) = [(false, 24, 0), (false, 3, 17)] := by kernel_rfl

theorem equalIn_pnt (d : Nat) (s t : Bool) (x y : List Int) (n m : Int) (hx : x.length = 16) (hy : y.length = 16) (w : World) :
    (Op.equalIn (d + 4) 60 (.agg (pnt s x n)) (.agg (pnt t y m))).run Tryz.prog w = .ok ((s == t && x == y) && n == m) w := by
  rw [run_equalIn_struct w (d + 3) 60 _ _ Tryz.fieldsPoint Tryz.heldPoint]
  have hl := Tryz.listPoint
  generalize (Tryz.prog.fieldsOf 60).toList = l at hl ⊢
  have h2 : l.length = 2 := by simpa using congrArg List.length hl
  obtain ⟨f, g, rfl⟩ : ∃ f g, l = [f, g] := by
    cases l with
    | nil => simp at h2
    | cons f l =>
      cases l with
      | nil => simp at h2
      | cons g l =>
        cases l with
        | nil => exact ⟨f, g, rfl⟩
        | cons _ _ => simp at h2
  simp only [List.map_cons, List.map_nil, List.cons.injEq, Prod.mk.injEq, and_true, beq_eq_false_iff_ne] at hl
  obtain ⟨⟨f1, f2, f3⟩, g1, g2, g3⟩ := hl
  have p1 : ∀ (s : Bool) x n, x.length = 16 → (part 24 (pnt s x n) 0).run Tryz.prog w = .ok (.agg (adr s x)) w := fun s x n h => by
    simp only [part, isAgg, Sem.run_bind, run_underlying Tryz.fieldsAddr, Result.andThen_ok, Sem.run_pure, if_true, Tryz.sizeAddr, pnt_extract s x n h]
  have p2 : ∀ (s : Bool) x n, x.length = 16 → (part 3 (pnt s x n) 17).run Tryz.prog w = .ok (.int .i64 n) w := fun s x n h => by
    simp [part, isAgg, run_underlying Tryz.underlying3, pnt_port s x n h]
  have e1 := equalIn_adr d s t x y hx hy w
  have e2 : (Op.equalIn (d + 3) 3 (.int .i64 n) (.int .i64 m)).run Tryz.prog w = .ok (n == m) w := by
    simp [Op.equalIn, run_underlying Tryz.underlying3, go_sem]
  rw [Op.eqFields, if_pos f1, f2, f3]
  simp only [Sem.run_bind, p1 s x n hx, p1 t y m hy, Result.andThen_ok, e1, Sem.run_ite, Sem.run_pure]
  by_cases hst : (!(s == t && x == y)) = true
  · rw [if_pos hst]
    have : (s == t && x == y) = false := by cases hh : (s == t && x == y) <;> simp_all
    rw [this]
    rfl
  · rw [if_neg hst]
    have : (s == t && x == y) = true := by cases hh : (s == t && x == y) <;> simp_all
    rw [this, Op.eqFields, if_pos g1, g2, g3]
    rw [Sem.run_bind, p2 s x n hx, Result.andThen_ok, Sem.run_bind, p2 t y m hy, Result.andThen_ok, Sem.run_bind, e2, Result.andThen_ok, Sem.run_ite, Bool.true_and]
    by_cases hxy : (!(n == m)) = true
    · rw [if_pos hxy]
      have : (n == m) = false := by simpa using hxy
      rw [this, Sem.run_pure]
    · rw [if_neg hxy]
      have : (n == m) = true := by simpa using hxy
      rw [this, Op.eqFields, Sem.run_pure]

theorem eql_pnt (s t : Bool) (x y : List Int) (n m : Int) (hx : x.length = 16) (hy : y.length = 16) (w : World) :
    (binOp .eql 60 (.agg (pnt s x n)) (.agg (pnt t y m))).run Tryz.prog w = .ok (.bool ((s == t && x == y) && n == m)) w := by
  rw [run_eql_struct, equalIn_pnt 9996 s t x y n m hx hy]
  rfl

/-- The address of a point that lies in a block. -/
theorem pnt_range {w : World} {g : Nat} {s : Bool} {b : List Int} {n : Int} (h : Blk w g 60 (pnt s b n)) : w.rangeAt g 0 (adr s b).toList := by
  intro j v hv
  rw [Nat.zero_add, h.cell]
  have hj := (List.getElem?_eq_some_iff.1 hv).1
  simp only [adr] at hv hj
  simp only [pnt, List.getElem?_toArray]
  rw [List.getElem?_append_left (by simpa using hj)]
  exact hv

theorem pnt_portCell {w : World} {g : Nat} {s : Bool} {b : List Int} {n : Int} (h : Blk w g 60 (pnt s b n)) (hl : b.length = 16) : w.cell? ⟨g, 17, none⟩ = some (.int .i64 n) := by rw [h.cell, pnt_port s b n hl]

section
variable {P : Program}
/-- The address out of a point's block. -/
theorem wpl_load_padr {ops : Array Oper} {rest : List Oper} {o : Oper} {a : Act} {w : World} {Q : Exit → Act → World → Prop} (x : Operand) (ho : o.op = .load 24 x)
    (g : Nat) (hx : a.eval x = .pointer (some ⟨g, 0, none⟩)) (s : Bool) (b : List Int) (n : Int) (hB : Blk w g 60 (pnt s b n)) (hl : b.length = 16) (hw : Region.wanted o (yielded ops a.tmps) = true)
    (h : wpList Tryz.prog ops Q rest (a.put o.dst (.agg (adr s b))) w) : wpList Tryz.prog ops Q (o :: rest) a w :=
  wpl_load_pmid 24 x ho g 0 hx (adr s b).toList _ (pnt_range hB) Tryz.underlying24 rfl 17 Tryz.infoAddr (by rw [Array.length_toList, adr_size, hl]) hw h
end

section
variable {P : Program} {ops : Array Oper} {a : Act} {w : World} {o : Oper}
/-- A call of a Go function by its contract, at the operation itself. -/
theorem op_call2 {K : Act → World → Prop} {Q : Exit → Act → World → Prop} (f : FuncId) (args : Array Value) (hrun : (execOp a.eval o).run P w = .ok (.enter f args) w) {R : World → Prop} (v : Value)
    (hc : Calls P f args w fun e w' => e = .returned v ∧ R w') (h : ∀ w', R w' → K (a.put o.dst v) w') : Oper.wp P o a w K Q := by
  unfold Oper.wp
  rw [hrun, Oper.upon_enter]
  refine hc.mono fun e w'' hh => ?_
  obtain ⟨rfl, hR⟩ := hh
  exact h _ hR

theorem yields_padr {S : World → Prop} {oi : Oper} (x : Operand) (ho : oi.op = .load 24 x) (g : Nat) (hx : a.eval x = .pointer (some ⟨g, 0, none⟩)) (s : Bool) (b : List Int) (n : Int)
    (hS : ∀ w, S w → Blk w g 60 (pnt s b n)) (hl : b.length = 16) (hw : Region.wanted oi (yielded ops a.tmps) = true) : YieldsIf Tryz.prog ops S oi (.agg (adr s b)) a :=
  yieldsIf_load_mid hw 24 x ho g 0 hx (adr s b).toList _ (fun w h => pnt_range (hS w h)) Tryz.underlying24 rfl (by rw [Array.length_toList, adr_size, hl]; exact Tryz.infoAddr)

theorem yields_cell {S : World → Prop} {oi : Oper} (x : Operand) (ho : oi.op = .load 3 x) (g off : Nat) (hx : a.eval x = .pointer (some ⟨g, off, none⟩)) (n : Int)
    (hS : ∀ w, S w → w.cell? ⟨g, off, none⟩ = some (.int .i64 n)) (hw : Region.wanted oi (yielded ops a.tmps) = true) : YieldsIf Tryz.prog ops S oi (.int .i64 n) a :=
  .inl ⟨hw, fun w hw' => by
    have h := hS w hw'
    unfold execOp
    simp only [ho, hx]
    simp [go_sem, h]⟩

theorem exec_geq (t t' : TypeId) (x y : Operand) (ho : o.op = .binOp .geq t x y t') (n m : Int) (hx : a.eval x = .int .i64 n) (hy : a.eval y = .int .i64 m) (b : Bool) (h : decide (n ≥ m) = b) :
    (execOp a.eval o).run P w = .ok (.value (.bool b)) w := by
  subst h
  unfold execOp
  simp only [ho, hx, hy, eqGuard, binOp]
  simp [go_sem]
theorem exec_leq (t t' : TypeId) (x y : Operand) (ho : o.op = .binOp .leq t x y t') (n m : Int) (hx : a.eval x = .int .i64 n) (hy : a.eval y = .int .i64 m) (b : Bool) (h : decide (n ≤ m) = b) :
    (execOp a.eval o).run P w = .ok (.value (.bool b)) w := by
  subst h
  unfold execOp
  simp only [ho, hx, hy, eqGuard, binOp]
  simp [go_sem]
end
end Go.Proofs.YtnfkgoeocebenaaGreatDoor
