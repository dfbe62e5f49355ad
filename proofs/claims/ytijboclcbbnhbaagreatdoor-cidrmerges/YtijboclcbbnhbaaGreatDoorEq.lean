/-
  Two addresses, two arrays of bytes, held against each other; what a function hands back out of a block.
-/
import Derived.Test.YtijboclcbbnhbaaGreatDoorBase
import Derived.Stop.BytesEq
namespace Go.Proofs.YtijboclcbbnhbaaGreatDoor
open Go.RowKit

section
variable {P : Program}
theorem retA {fn : Func} {R : Ending → World → Prop} {a : Act} {w : World} {p : Tmp} {ty : TypeId} (h : fn.results = #[.cell p ty]) (g : Nat) (hp : a.tmps.getD p undef = .pointer (some ⟨g, 0, none⟩))
    (t : TypeId) (cs : Array Value) (d : TypeDesc) (hg : Blk w g t cs) (hu : P.underlying ty = some d) (hd : (match d with | .struct _ | .array _ _ => true | _ => false) = true)
    (n : Nat) (hi : (P.info? ty).map (·.size) = some n) (hn : n = cs.size) (hdf : a.defers = []) (hR : R (.returned (.agg cs)) w) : bodyPost P fn R .ret a w :=
  bodyPost_ret (results_cell_row h a.tmps w g t cs (0, 0) d hp hg hu hd (hn ▸ hi)) hdf hR

theorem retA2 {fn : Func} {R : Ending → World → Prop} {a : Act} {w : World} {p u : Tmp} {ty : TypeId} (h : fn.results = #[.cell p ty, .tmp u]) (g : Nat) (hp : a.tmps.getD p undef = .pointer (some ⟨g, 0, none⟩))
    (t : TypeId) (cs : Array Value) (d : TypeDesc) (hg : Blk w g t cs) (hu : P.underlying ty = some d) (hd : (match d with | .struct _ | .array _ _ => true | _ => false) = true)
    (n : Nat) (hi : (P.info? ty).map (·.size) = some n) (hn : n = cs.size) (hdf : a.defers = []) (v : Value) (hv : a.tmps.getD u undef = v) (hR : R (.returned (.tuple #[.agg cs, v])) w) : bodyPost P fn R .ret a w := by
  refine bodyPost_ret ?_ hdf (hv ▸ hR)
  rw [results_cell_tmp h, hp]
  simp only [asAddr, Sem.run_pure, Result.andThen_ok, run_loadVar_row w g t ty cs (0, 0) d hg hu hd (hn ▸ hi)]

theorem all_range_eqI : ∀ (xs ys : List Int), xs.length = ys.length → ((List.range xs.length).all fun i => nth xs i == nth ys i) = (xs == ys)
  | [], [], _ => rfl
  | x :: xs, y :: ys, h => by
    have ih := all_range_eqI xs ys (by simpa using h)
    rw [List.length_cons, List.range_succ_eq_map, List.all_cons, List.all_map]
    simp only [nth, List.getD_cons_zero, Function.comp_def, List.getD_cons_succ] at ih ⊢
    rw [ih]
    simp [List.cons_beq_cons]
  | [], _ :: _, h => by simp at h
  | _ :: _, [], h => by simp at h

theorem run_equalIn_ints (w : World) (d : Nat) (t e : TypeId) (k : IntKind) (n : Nat) (ht : P.underlying t = some (.array n e)) (he : P.underlying e = some (.int k)) (hsz : ∀ w, (sizeOf e).run P w = .ok 1 w)
    (xs ys : List Int) (hx : xs.length = n) (hy : ys.length = n) : (Op.equalIn (d + 2) t (.agg (arr k xs)) (.agg (arr k ys))).run P w = .ok (xs == ys) w := by
  rw [← all_range_eqI xs ys (hx.trans hy.symm), hx, List.range_eq_range', Op.equalIn]
  simp only [Sem.run_bind, run_underlying ht, Result.andThen_ok, hsz, Std.Legacy.Range.forIn_eq_forIn_range', Std.Legacy.Range.size, Nat.sub_zero, Nat.add_sub_cancel, Nat.div_one]
  have hl : ∀ i ∈ List.range' 0 n 1, i < n := fun i hi => by simpa using (List.mem_range'_1.1 hi).2
  generalize List.range' 0 n 1 = l at hl ⊢
  induction l with
  | nil => simp
  | cons i l ih =>
    have hi : i < n := hl i (by simp)
    have px : (part e (arr k xs) (i * 1)).run P w = .ok (.int k (nth xs i)) w := by
      simp [part, isAgg, run_underlying he, arr_at k xs i (by omega)]
    have py : (part e (arr k ys) (i * 1)).run P w = .ok (.int k (nth ys i)) w := by
      simp [part, isAgg, run_underlying he, arr_at k ys i (by omega)]
    have pe : (Op.equalIn (d + 1) e (.int k (nth xs i)) (.int k (nth ys i))).run P w = .ok (nth xs i == nth ys i) w := run_equalIn_int w d e k k _ _ he
    simp only [List.forIn_cons, Sem.run_bind, px, py, pe, Result.andThen_ok, List.all_cons]
    cases hb : (nth xs i == nth ys i)
    · simp
    · simp only [Bool.not_true, Bool.false_eq_true, if_false, Sem.run_pure, Result.andThen_ok, Bool.true_and]
      exact ih fun j hj => hl j (by simp [hj])
end

theorem Tryz.size5 (w : World) : (sizeOf 5).run Tryz.prog w = .ok 1 w := by kernel_rfl
theorem Tryz.sizeArr (w : World) : (sizeOf 23).run Tryz.prog w = .ok 16 w := by kernel_rfl
theorem Tryz.fieldsAddr : Tryz.prog.underlying 25 = some (.struct (Tryz.prog.fieldsOf 25)) := by kernel_rfl
theorem Tryz.heldAddr : Tryz.prog.stoodInHeld 25 = false := by kernel_rfl
theorem Tryz.listAddr : (Tryz.prog.fieldsOf 25).toList.map (fun f => (f.name == "_", f.type, f.offset)) = [(false, 4, 0), (false, 23, 1)] := by kernel_rfl
theorem Tryz.guardAddr : Tryz.prog.eqGuardType Tryz.prog.depth 25 = false := by kernel_rfl
theorem Tryz.guardArr : Tryz.prog.eqGuardType Tryz.prog.depth 23 = false := by kernel_rfl

theorem adr_extract (s : Bool) (x : List Int) (hx : x.length = 16) : (adr s x).extract 1 (1 + 16) = arr .u8 x := by
  simp only [adr, arr, List.extract_toArray, List.extract_eq_take_drop]
  simp [hx, List.take_of_length_le]

theorem equalIn_adr (d : Nat) (s t : Bool) (x y : List Int) (hx : x.length = 16) (hy : y.length = 16) (w : World) :
    (Op.equalIn (d + 3) 25 (.agg (adr s x)) (.agg (adr t y))).run Tryz.prog w = .ok (s == t && x == y) w := by
  rw [run_equalIn_struct w (d + 2) 25 _ _ Tryz.fieldsAddr Tryz.heldAddr]
  have hl := Tryz.listAddr
  generalize (Tryz.prog.fieldsOf 25).toList = l at hl ⊢
  have h2 : l.length = 2 := by simpa using congrArg List.length hl
  obtain ⟨f, g, rfl⟩ : ∃ f g, l = [f, g] := by
    cases l with
    | nil => simp at h2
    | cons f l =>
      cases l with
      | nil => simp at h2
      | cons g l =>
        cases l with
        | nil => exact ⟨f, g, rfl⟩
        | cons _ _ => simp at h2
  simp only [List.map_cons, List.map_nil, List.cons.injEq, Prod.mk.injEq, and_true, beq_eq_false_iff_ne] at hl
  obtain ⟨⟨f1, f2, f3⟩, g1, g2, g3⟩ := hl
  have p1 : ∀ (s : Bool) x, (part 4 (adr s x) 0).run Tryz.prog w = .ok (.bool s) w := fun s x => by simp [part, isAgg, run_underlying Tryz.underlying4, adr_zero]
  have p2 : ∀ (s : Bool) x, x.length = 16 → (part 23 (adr s x) 1).run Tryz.prog w = .ok (.agg (arr .u8 x)) w := fun s x h => by
    simp only [part, isAgg, Sem.run_bind, run_underlying Tryz.underlying23, Result.andThen_ok, Sem.run_pure, if_true, Tryz.sizeArr, adr_extract s x h]
  have e1 := run_equalIn_bool' (P := Tryz.prog) w (d + 1) 4 s t Tryz.underlying4
  have e2 := run_equalIn_ints w d 23 5 .u8 16 Tryz.underlying23 Tryz.underlying5 Tryz.size5 x y hx hy
  rw [Op.eqFields, if_pos f1, f2, f3]
  simp only [Sem.run_bind, p1, Result.andThen_ok, e1, Sem.run_ite, Sem.run_pure]
  by_cases hst : (!(s == t)) = true
  · rw [if_pos hst]
    have : (s == t) = false := by simpa using hst
    rw [this]
    rfl
  · rw [if_neg hst]
    have : (s == t) = true := by simpa using hst
    rw [this, Op.eqFields, if_pos g1, g2, g3]
    rw [Sem.run_bind, p2 s x hx, Result.andThen_ok, Sem.run_bind, p2 t y hy, Result.andThen_ok, Sem.run_bind, e2, Result.andThen_ok, Sem.run_ite, Bool.true_and]
    by_cases hxy : (!(x == y)) = true
    · rw [if_pos hxy]
      have : (x == y) = false := by simpa using hxy
      rw [this, Sem.run_pure]
    · rw [if_neg hxy]
      have : (x == y) = true := by simpa using hxy
      rw [this, Op.eqFields, Sem.run_pure]

theorem eql_adr (s t : Bool) (x y : List Int) (hx : x.length = 16) (hy : y.length = 16) (w : World) :
    (binOp .eql 25 (.agg (adr s x)) (.agg (adr t y))).run Tryz.prog w = .ok (.bool (s == t && x == y)) w := by
  rw [run_eql_struct, equalIn_adr 9997 s t x y hx hy]
  rfl

theorem eql_arr (x y : List Int) (hx : x.length = 16) (hy : y.length = 16) (w : World) :
    (binOp .eql 23 (.agg (arr .u8 x)) (.agg (arr .u8 y))).run Tryz.prog w = .ok (.bool (x == y)) w := by
  rw [run_eql_struct, run_equalIn_ints w 9998 23 5 .u8 16 Tryz.underlying23 Tryz.underlying5 Tryz.size5 x y hx hy]
  rfl
end Go.Proofs.YtijboclcbbnhbaaGreatDoor
