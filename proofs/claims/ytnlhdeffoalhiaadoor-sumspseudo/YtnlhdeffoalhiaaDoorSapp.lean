/-
  Slices of bytes cut and appended, nil ones too, as steps of a drawn region.
-/
import Derived.Test.YtnlhdeffoalhiaaDoorRnd
import Derived.Test.YtnlhdeffoalhiaaDoorSkept
import Derived.Test.YtnlhdeffoalhiaaDoorSpch
import Derived.Laws.OwnMore
import Derived.Laws.AppendOwnNone
namespace Go.Proofs.YtnlhdeffoalhiaaDoor
open Go.RowKit Go.Lib

/-- Where a cut slice begins. -/
def cutA (ad : Option Addr) (cap l : Nat) : Option Addr := if cap = l then ad else Option.map (fun x => x.add l) ad

theorem bys_cut {n₀ : Nat} {W : World} {ad : Option Addr} {bs : List Int} {cap : Nat} (h : Bys n₀ W ad bs) (hc : bs.length ≤ cap) (hn : ad = none → bs.length = 0 ∧ cap = 0) (p n : Nat) (hp : p + n ≤ bs.length) :
    Bys n₀ W (cutA ad cap p) (stood bs p n) ∧ (cutA ad cap p = none → n = 0 ∧ cap - p = 0) := by
  have hl := stood_length hp
  cases ad with
  | none =>
    obtain ⟨h1, h2⟩ := hn rfl
    exact ⟨fun j hj => by omega, fun _ => by omega⟩
  | some a =>
    unfold cutA
    by_cases e : cap = p
    · rw [if_pos e]
      exact ⟨fun j hj => by omega, fun h => by cases h⟩
    · rw [if_neg e]
      refine ⟨fun j hj => ?_, fun h => by cases h⟩
      obtain ⟨g, o, e1, hg, hc1⟩ := h (p + j) (by omega)
      cases e1
      refine ⟨g, o + p, ?_, hg, ?_⟩
      · simp only [Option.map_some]
        congr 1
        unfold Addr.add
        split <;> simp_all
      · rw [stood_at (by omega), Nat.add_assoc]
        exact hc1

theorem bys_take {n₀ : Nat} {W : World} {ad : Option Addr} {bs : List Int} (h : Bys n₀ W ad bs) (n : Nat) (hn : n ≤ bs.length) : Bys n₀ W ad (stood bs 0 n) := fun j hj => by
  rw [stood_length (by omega)] at hj
  obtain ⟨g, o, e, hg, hc⟩ := h j (by omega)
  exact ⟨g, o, e, hg, by rw [stood_at hj, Nat.zero_add]; exact hc⟩

section
variable {ops : Array Oper} {o : Oper} {a : Act} {w : World} {K : Act → World → Prop} {Q : Exit → Act → World → Prop} {E : Prop}
theorem exec_cut (x lo hi : Operand) (ho : o.op = .slice 33 x (some lo) (some hi) none) (ad : Option Addr) (len cap l h : Nat) (hx : a.eval x = .slice ad len cap) (hlo : a.eval lo = .int .i64 l) (hhi : a.eval hi = .int .i64 h) (h1 : l ≤ h) (h2 : h ≤ cap) :
    (execOp a.eval o).run Tryd.prog w = .ok (.value (.slice (cutA ad cap l) (h - l) (cap - l))) w := by
  unfold execOp cutA
  simp only [ho, Option.map_some, Option.map_none, hx, hlo, hhi]
  clear hx hlo hhi ho
  go_simp
theorem exec_cutH (x hi : Operand) (ho : o.op = .slice 33 x none (some hi) none) (ad : Option Addr) (len cap h : Nat) (hx : a.eval x = .slice ad len cap) (hhi : a.eval hi = .int .i64 h) (h2 : h ≤ cap) :
    (execOp a.eval o).run Tryd.prog w = .ok (.value (.slice ad h cap)) w := by
  unfold execOp
  simp only [ho, Option.map_some, Option.map_none, hx, hhi]
  clear hx hhi ho
  go_simp
theorem exec_cutL (x lo : Operand) (ho : o.op = .slice 33 x (some lo) none none) (ad : Option Addr) (len cap l : Nat) (hx : a.eval x = .slice ad len cap) (hlo : a.eval lo = .int .i64 l) (h1 : l ≤ len) :
    (execOp a.eval o).run Tryd.prog w = .ok (.value (.slice (cutA ad cap l) (len - l) (cap - l))) w := by
  unfold execOp cutA
  simp only [ho, Option.map_some, Option.map_none, hx, hlo]
  clear hx hlo ho
  go_simp

theorem exec_addN (t t' : TypeId) (x y : Operand) (ho : o.op = .binOp .add t x y t') (i j : Nat) (hx : a.eval x = .int .i64 i) (hy : a.eval y = .int .i64 j) (h : i + j ≤ 1000000) :
    (execOp a.eval o).run Tryd.prog w = .ok (.value (.int .i64 ((i + j : Nat) : Int))) w := by
  unfold execOp
  simp only [ho, hx, hy]
  clear hx hy ho
  go_simp
  exact Go.IntWalk.i64_in _ (by omega)
theorem exec_eqlI (t t' : TypeId) (x y : Operand) (ho : o.op = .binOp .eql t x y t') (n : Int) (hx : a.eval x = .int .i64 n) (hy : a.eval y = .int .i64 n) :
    (execOp a.eval o).run Tryd.prog w = .ok (.value (.bool true)) w := by
  unfold execOp
  simp only [ho, hx, hy, eqGuard, binOp]
  simp [go_sem]
theorem exec_lit0 (ho : o.op = .buildSlice 33 0 #[]) :
    (execOp a.eval o).run Tryd.prog w = .ok (.value (.slice (some ⟨w.heap.size, 0, none⟩) 0 0)) (w.alloc (.cells #[] 5)) := by
  unfold execOp
  simp only [ho]
  go_simp

/-- append, whatever is appended: a step of a drawn region. -/
theorem r_app (s x : Operand) (ho : o.op = .call { callee := .builtin .append, args := #[s, x], argTypes := #[33, 33] }) (base : Nat) (v : Value) (n : Nat) (xs : List Value) (hs : a.eval s = v) (hown : w.ownsRow base 5 1 v n xs)
    (ao : Option Addr) (m c : Nat) (ms : List Int) (hx : a.eval x = .slice ao m c) (hl : ms.length = m) (n₀ : Nat) (hb : Bys n₀ w ao ms) (hn : ao = none → m = 0 ∧ c = 0)
    (h63 : n + m ≤ 1000000) (hbase : base ≤ w.heap.size) (hw : Region.wanted o (yielded ops a.tmps) = true)
    (h : ∀ v' w', w'.ownsRow base 5 1 v' (n + m) (xs ++ ms.map (Value.int .u8)) → w.grownBy w' v.ownBlock → K (a.put o.dst v') w') : if Region.wanted o (yielded ops a.tmps) = true then Oper.wp Tryd.prog o a w K Q else E := by
  obtain ⟨i0, hi, hz0, hz1, hz2⟩ := info_parts Tryd.infoByteS
  rw [if_pos hw]
  cases ao with
  | none =>
    obtain ⟨rfl, rfl⟩ := hn rfl
    obtain rfl : ms = [] := List.length_eq_zero_iff.1 hl
    have hrun := run_append_owned_none (P := Tryd.prog) (w := w) base 33 o.type 5 i0 1 Tryd.underlying33 hi v n xs hown
    unfold Oper.wp execOp
    simp only [ho, resolve, invoke, builtin, Sem.run_bind, Sem.run_pure, Result.andThen_ok, List.map_toArray, List.map_cons, List.map_nil, hs, hx, hrun]
    exact h _ _ (by simpa using hown) (World.grownBy.refl _ _)
  | some ad =>
    refine wp_append_own w s x 33 ho base 5 i0 (.int .u8 0) 1 1 Tryd.underlying33 hi hz0 hz1 hz2 rfl (by decide) v n xs hs hown ad m c (ms.map (Value.int .u8)) hx (by rw [List.length_map, hl, Nat.mul_one]) ?_ (u8_one ms) (by unfold maxLen; omega) (by omega) hbase (fun v' w' h2 h3 _ => h v' w' h2 h3)
    intro j u hu
    rw [List.getElem?_map] at hu
    obtain ⟨y, hy, rfl⟩ := Option.map_eq_some_iff.1 hu
    have hj := (List.getElem?_eq_some_iff.1 hy).1
    obtain ⟨g, of, e, hg, hc⟩ := hb j hj
    cases e
    rw [show (⟨g, of, none⟩ : Addr).add j = ⟨g, of + j, none⟩ by unfold Addr.add; split <;> simp_all, hc, List.getD, hy]
    rfl
end

/-- What is owned reads as bytes. -/
theorem own_bys {w : World} {base : Nat} {v : Value} {k : Nat} {ms : List Int} (h : w.ownsRow base 5 1 v k (ms.map (Value.int .u8))) : ms.length = k ∧ ∃ ad cap, v = .slice ad k cap ∧ k ≤ cap ∧ Bys w.heap.size w ad ms := by
  have hl : ms.length = k := by have := h.1; rw [List.length_map, Nat.mul_one] at this; exact this
  refine ⟨hl, ?_⟩
  rcases h.2 with ⟨h', h0⟩ | ⟨g, cap, cur, h', _, hg, hk, _, _, _⟩
  · subst h0
    exact ⟨none, 0, h', Nat.le_refl _, fun j hj => by omega⟩
  · subst h'
    refine ⟨some ⟨g, 0, none⟩, cap, rfl, hk, fun j hj => ⟨g, 0, rfl, (Array.getElem?_eq_some_iff.1 hg).1, ?_⟩⟩
    rw [Nat.zero_add, h.cellAt j (by omega), List.getElem?_map, List.getD, List.getElem?_eq_getElem hj]
    rfl
theorem put_eq (bs ns : List Int) (p n : Nat) : stood bs 0 p ++ stood ns 0 n ++ stood bs (p + n) (bs.length - (p + n)) = put bs ns p n := by
  simp only [stood, put, List.drop_zero]
  rw [List.take_of_length_le (l := bs.drop (p + n)) (by rw [List.length_drop]; omega)]
end Go.Proofs.YtnlhdeffoalhiaaDoor
