/-
  append of bytes, whatever is appended, as a step of a region.
-/
import Derived.Test.YtkpjdjenlmodnaaDoorHbys
import Derived.Test.YtkpjdjenlmodnaaDoorRnd
import Derived.Laws.OwnMore
import Derived.Laws.AppendOwnNone
namespace Go.Proofs.YtkpjdjenlmodnaaDoor
open Go.RowKit Go.Lib

section
variable {ops : Array Oper} {o : Oper} {a : Act} {w : World} {K : Act → World → Prop} {Q : Exit → Act → World → Prop} {E : Prop}
/-- append, whatever is appended: a step of a drawn region. -/
theorem r_app (s x : Operand) (ho : o.op = .call { callee := .builtin .append, args := #[s, x], argTypes := #[22, 22] }) (base : Nat) (v : Value) (n : Nat) (xs : List Value) (hs : a.eval s = v) (hown : w.ownsRow base 5 1 v n xs)
    (ao : Option Addr) (m c : Nat) (ms : List Int) (hx : a.eval x = .slice ao m c) (hl : ms.length = m) (n₀ : Nat) (hb : Bys n₀ w ao ms) (hn : ao = none → m = 0 ∧ c = 0)
    (h63 : n + m ≤ 1000000) (hbase : base ≤ w.heap.size) (hw : Region.wanted o (yielded ops a.tmps) = true)
    (h : ∀ v' w', w'.ownsRow base 5 1 v' (n + m) (xs ++ ms.map (Value.int .u8)) → w.grownBy w' v.ownBlock → K (a.put o.dst v') w') : if Region.wanted o (yielded ops a.tmps) = true then Oper.wp Tryd.prog o a w K Q else E := by
  obtain ⟨i0, hi, hz0, hz1, hz2⟩ := info_parts Tryd.infoByteS
  rw [if_pos hw]
  cases ao with
  | none =>
    obtain ⟨rfl, rfl⟩ := hn rfl
    obtain rfl : ms = [] := List.length_eq_zero_iff.1 hl
    have hrun := run_append_owned_none (P := Tryd.prog) (w := w) base 22 o.type 5 i0 1 Tryd.underlying22 hi v n xs hown
    unfold Oper.wp execOp
    simp only [ho, resolve, invoke, builtin, Sem.run_bind, Sem.run_pure, Result.andThen_ok, List.map_toArray, List.map_cons, List.map_nil, hs, hx, hrun]
    exact h _ _ (by simpa using hown) (World.grownBy.refl _ _)
  | some ad =>
    refine wp_append_own w s x 22 ho base 5 i0 (.int .u8 0) 1 1 Tryd.underlying22 hi hz0 hz1 hz2 rfl (by decide) v n xs hs hown ad m c (ms.map (Value.int .u8)) hx (by rw [List.length_map, hl, Nat.mul_one]) ?_ (u8_one ms) (by unfold maxLen; omega) (by omega) hbase (fun v' w' h2 h3 _ => h v' w' h2 h3)
    intro j u hu
    rw [List.getElem?_map] at hu
    obtain ⟨y, hy, rfl⟩ := Option.map_eq_some_iff.1 hu
    have hj := (List.getElem?_eq_some_iff.1 hy).1
    obtain ⟨g, of, e, hg, hc⟩ := hb j hj
    cases e
    rw [show (⟨g, of, none⟩ : Addr).add j = ⟨g, of + j, none⟩ by unfold Addr.add; split <;> simp_all, hc, List.getD, hy]
    rfl
end

/-- What is owned reads as bytes. -/
theorem own_bys {w : World} {base : Nat} {v : Value} {k : Nat} {ms : List Int} (h : w.ownsRow base 5 1 v k (ms.map (Value.int .u8))) : ms.length = k ∧ ∃ ad cap, v = .slice ad k cap ∧ k ≤ cap ∧ Bys w.heap.size w ad ms := by
  have hl : ms.length = k := by have := h.1; rw [List.length_map, Nat.mul_one] at this; exact this
  refine ⟨hl, ?_⟩
  rcases h.2 with ⟨h', h0⟩ | ⟨g, cap, cur, h', _, hg, hk, _, _, _⟩
  · subst h0
    exact ⟨none, 0, h', Nat.le_refl _, fun j hj => by omega⟩
  · subst h'
    refine ⟨some ⟨g, 0, none⟩, cap, rfl, hk, fun j hj => ⟨g, 0, rfl, (Array.getElem?_eq_some_iff.1 hg).1, ?_⟩⟩
    rw [Nat.zero_add, h.cellAt j (by omega), List.getElem?_map, List.getD, List.getElem?_eq_getElem hj]
    rfl
/-- append, whatever is appended: a step of a plain region. -/
theorem wpl_app {ops : Array Oper} {rest : List Oper} {o : Oper} {a : Act} {w : World} {Q : Exit → Act → World → Prop} (s x : Operand) (ho : o.op = .call { callee := .builtin .append, args := #[s, x], argTypes := #[22, 22] }) (base : Nat) (v : Value) (n : Nat) (xs : List Value) (hs : a.eval s = v) (hown : w.ownsRow base 5 1 v n xs)
    (ao : Option Addr) (m c : Nat) (ms : List Int) (hx : a.eval x = .slice ao m c) (hl : ms.length = m) (n₀ : Nat) (hb : Bys n₀ w ao ms) (hn : ao = none → m = 0 ∧ c = 0)
    (h63 : n + m ≤ 1000000) (hbase : base ≤ w.heap.size) (hw : Region.wanted o (yielded ops a.tmps) = true)
    (h : ∀ v' w', w'.ownsRow base 5 1 v' (n + m) (xs ++ ms.map (Value.int .u8)) → w.grownBy w' v.ownBlock → wpList Tryd.prog ops Q rest (a.put o.dst v') w') : wpList Tryd.prog ops Q (o :: rest) a w :=
  BigFrame.wpList_want hw fun K hK => by
    have := r_app (ops := ops) (K := K) (Q := Q) (E := False) s x ho base v n xs hs hown ao m c ms hx hl n₀ hb hn h63 hbase hw (fun v' w' h1 h2 => hK _ _ (h v' w' h1 h2))
    rw [if_pos hw] at this
    exact this

theorem own_blockP {w : World} {base : Nat} {v : Value} {n : Nat} {xs : List Value} (h : w.ownsRow base 5 1 v n xs) : ∀ k, v.ownBlock = some k → base ≤ k := fun k e => by
  rcases h.2 with ⟨rfl, _⟩ | ⟨g, cap, cur, rfl, hb, _⟩
  · cases e
  · cases e
    exact hb
theorem bys_new (w : World) (t : TypeId) (bs : List Int) : Bys (w.alloc (.cells (bs.map (Value.int .u8)).toArray t)).heap.size (w.alloc (.cells (bs.map (Value.int .u8)).toArray t)) (some ⟨w.heap.size, 0, none⟩) bs := fun j hj =>
  ⟨w.heap.size, 0, rfl, by simp, by rw [Nat.zero_add, new_cell]; simp [List.getElem?_eq_getElem hj, List.getD]⟩
end Go.Proofs.YtkpjdjenlmodnaaDoor
