/-
  append of whole numbers, whatever is appended; a list of one number.
-/
import Derived.Test.YtahconkjhneogaaDoorDall
import Derived.Laws.AppendOwnNone
namespace Go.Proofs.YtahconkjhneogaaDoor
open Go.RowKit Go.Lib

/-- Whole numbers as cells. -/
def ivs (L : List Int) : List Value := L.map (Value.int .i64)
theorem ivs_app (L : List Int) (x : Int) : ivs L ++ [.int .i64 x] = ivs (L ++ [x]) := by simp [ivs]
theorem ivs_one (L : List Int) : ∀ v ∈ ivs L, v.oneCell' = true := fun v h => by
  obtain ⟨x, _, rfl⟩ := List.mem_map.1 h
  rfl

theorem row_shape {W : World} {b : Nat} {e : TypeId} {v : Value} {n : Nat} {xs : List Value} (h : W.ownsRow b e 1 v n xs) : ∃ ad cap, v = .slice ad n cap := by
  rcases h.2 with ⟨rfl, rfl⟩ | ⟨g, cap, cur, rfl, _⟩
  · exact ⟨none, 0, rfl⟩
  · exact ⟨_, cap, rfl⟩
theorem row_none {W : World} {b : Nat} {e : TypeId} {ad : Option Addr} {n cap : Nat} {xs : List Value} (h : W.ownsRow b e 1 (.slice ad n cap) n xs) : ad = none → n = 0 ∧ cap = 0 := by
  rintro rfl
  rcases h.2 with ⟨h', h0⟩ | ⟨g, cap, cur, h', _⟩
  · simp only [Value.slice.injEq] at h'
    exact ⟨h0, h'.2.2⟩
  · simp at h'

/-- What is owned reads as numbers. -/
theorem own_ints {w : World} {base : Nat} {ad : Option Addr} {cap : Nat} {L : List Int} {k : Nat} (h : w.ownsRow base 3 1 (.slice ad k cap) k (ivs L)) : IntsIn w.heap.size w ad L := by
  have hl : L.length = k := by have := h.1; rw [ivs, List.length_map, Nat.mul_one] at this; exact this
  intro j hj
  have hh := h
  rcases h.2 with ⟨h', h0⟩ | ⟨g, cap', cur, h', _, hg, _⟩
  · omega
  · simp only [Value.slice.injEq] at h'
    obtain ⟨rfl, -, rfl⟩ := h'
    refine ⟨g, 0, rfl, (Array.getElem?_eq_some_iff.1 hg).1, ?_⟩
    rw [Nat.zero_add, hh.cellAt j (by omega)]
    simp [ivs, List.getElem?_eq_getElem hj]

section
variable {ops : Array Oper} {o : Oper} {a : Act} {w : World} {K : Act → World → Prop} {Q : Exit → Act → World → Prop} {E : Prop}
/-- append of numbers: a step of a region. -/
theorem r_appI (s x : Operand) (ho : o.op = .call { callee := .builtin .append, args := #[s, x], argTypes := #[22, 22] }) (base : Nat) (v : Value) (n : Nat) (xs : List Value) (hs : a.eval s = v) (hown : w.ownsRow base 3 1 v n xs)
    (ao : Option Addr) (m c : Nat) (ms : List Int) (hx : a.eval x = .slice ao m c) (hl : ms.length = m) (n₀ : Nat) (hb : IntsIn n₀ w ao ms) (hn : ao = none → m = 0 ∧ c = 0)
    (h63 : n + m ≤ 1000000) (hbase : base ≤ w.heap.size) (hw : Region.wanted o (yielded ops a.tmps) = true)
    (h : ∀ v' w', w'.ownsRow base 3 1 v' (n + m) (xs ++ ivs ms) → w.grownBy w' v.ownBlock → K (a.put o.dst v') w') : if Region.wanted o (yielded ops a.tmps) = true then Oper.wp Tryd.prog o a w K Q else E := by
  obtain ⟨i0, hi, hz0, hz1, hz2⟩ := info_parts (P := Tryd.prog) (show (Tryd.prog.info? 3).map (fun i => (i.zero, i.size, i.bytes)) = some (some (.int .i64 0), 1, 8) by kernel_rfl)
  rw [if_pos hw]
  cases ao with
  | none =>
    obtain ⟨rfl, rfl⟩ := hn rfl
    obtain rfl : ms = [] := List.length_eq_zero_iff.1 hl
    have hrun := run_append_owned_none (P := Tryd.prog) (w := w) base 22 o.type 3 i0 1 Tryd.underlying22 hi v n xs hown
    unfold Oper.wp execOp
    simp only [ho, resolve, invoke, builtin, Sem.run_bind, Sem.run_pure, Result.andThen_ok, List.map_toArray, List.map_cons, List.map_nil, hs, hx, hrun]
    exact h _ _ (by simpa [ivs] using hown) (World.grownBy.refl _ _)
  | some ad =>
    refine wp_append_own w s x 22 ho base 3 i0 (.int .i64 0) 1 8 Tryd.underlying22 hi hz0 hz1 hz2 rfl (by decide) v n xs hs hown ad m c (ivs ms) hx (by rw [ivs, List.length_map, hl, Nat.mul_one]) ?_ (ivs_one ms) (by unfold maxLen; omega) (by omega) hbase (fun v' w' h2 h3 _ => h v' w' h2 h3)
    intro j u hu
    rw [ivs, List.getElem?_map] at hu
    obtain ⟨y, hy, rfl⟩ := Option.map_eq_some_iff.1 hu
    have hj := (List.getElem?_eq_some_iff.1 hy).1
    obtain ⟨g, of, e, hg, hc⟩ := hb j hj
    cases e
    rw [show (⟨g, of, none⟩ : Addr).add j = ⟨g, of + j, none⟩ by unfold Addr.add; split <;> simp_all, hc, List.getD, hy]
    rfl
end
theorem wpl_appI {ops : Array Oper} {rest : List Oper} {o : Oper} {a : Act} {w : World} {Q : Exit → Act → World → Prop} (s x : Operand) (ho : o.op = .call { callee := .builtin .append, args := #[s, x], argTypes := #[22, 22] }) (base : Nat) (v : Value) (n : Nat) (xs : List Value) (hs : a.eval s = v) (hown : w.ownsRow base 3 1 v n xs)
    (ao : Option Addr) (m c : Nat) (ms : List Int) (hx : a.eval x = .slice ao m c) (hl : ms.length = m) (n₀ : Nat) (hb : IntsIn n₀ w ao ms) (hn : ao = none → m = 0 ∧ c = 0)
    (h63 : n + m ≤ 1000000) (hbase : base ≤ w.heap.size) (hw : Region.wanted o (yielded ops a.tmps) = true)
    (h : ∀ v' w', w'.ownsRow base 3 1 v' (n + m) (xs ++ ivs ms) → w.grownBy w' v.ownBlock → wpList Tryd.prog ops Q rest (a.put o.dst v') w') : wpList Tryd.prog ops Q (o :: rest) a w :=
  BigFrame.wpList_want hw fun K hK => by
    have := r_appI (ops := ops) (K := K) (Q := Q) (E := False) s x ho base v n xs hs hown ao m c ms hx hl n₀ hb hn h63 hbase hw (fun v' w' h1 h2 => hK _ _ (h v' w' h1 h2))
    rw [if_pos hw] at this
    exact this
end Go.Proofs.YtahconkjhneogaaDoor
