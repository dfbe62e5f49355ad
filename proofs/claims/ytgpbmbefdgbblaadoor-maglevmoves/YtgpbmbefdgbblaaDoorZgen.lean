/-
  Whole elements loaded and stored within the wide fence, in a round's body too.
-/
import Derived.Test.YtgpbmbefdgbblaaDoorZbase
import Derived.Test.YtgpbmbefdgbblaaDoorRnd
import Derived.Deep.MidRow
import Derived.RangeFuncNested
import Derived.RangeFuncBound
import Derived.RangeFuncCalls
import Derived.RangeFuncLeaves
import Derived.RangeFuncWrites
import Derived.RangeFuncBox
import Derived.Shelf.Abstract
import Derived.Shelf.RegionOpen
import Derived.WalkKit
import Derived.OwnWalkIn
import Derived.LoopNIn
import Derived.LoopIn
import Derived.TacticsInMore
import Derived.Maps.AppendAt
namespace Go.Proofs.YtgpbmbefdgbblaaDoor
open Go.RowKit Go.Lib

/-- The wide fence, or a round's within it. -/
def WideF (F : Fence) : Prop := F = Fence.wide ∨ ∃ l, F = Fence.wide.inRound l

section
variable {P : Program} {F : Fence} {n : Nat}
theorem operIn_of (hF : WideF F) {o : Oper} (hop : ∀ c, o.op ≠ .defer c) {a : Act} {w : World} {K : Act → World → Prop} {Q : Exit → Act → World → Prop} (h : Oper.wp P o a w K Q) : Oper.wpIn F n P o a w K Q := by
  have e : o.semAt F.round a.eval = execOp a.eval o := by
    rcases hF with rfl | ⟨l, rfl⟩
    · rfl
    · exact Oper.semAt_some l a.eval o hop
  have hd : F.depth = none := by rcases hF with rfl | ⟨l, rfl⟩ <;> rfl
  refine ⟨fun f _ => by rcases hF with rfl | ⟨l, rfl⟩ <;> trivial, ?_⟩
  rw [e]
  unfold Oper.wp at h
  generalize (execOp a.eval o).run P w = r at h ⊢
  cases r with
  | ok x w' =>
    cases x <;> simp only [Oper.upon, Oper.uponIn] at h ⊢
    case enter f args =>
      refine ⟨fun h => by rw [hd] at h; simp at h, ?_⟩
      rcases hF with rfl | ⟨l, rfl⟩
      · exact callsIn_wide.2 h
      · exact CallsIn.inRound l (callsIn_wide.2 h)
    case row r args =>
      refine ⟨fun h => by rw [hd] at h; simp at h, ?_⟩
      rcases hF with rfl | ⟨l, rfl⟩
      · exact rowsIn_round (l := 0) h
      · exact rowsIn_round h
    all_goals exact h
  | halt x w' => cases x <;> simp only [Oper.upon, Oper.uponIn] at h ⊢ <;> exact h

def plainOp (o : Oper) : Bool := match o.op with | .defer _ => false | _ => true
theorem plain_spec {o : Oper} (h : plainOp o = true) (c : Call) : o.op ≠ .defer c := fun e => by
  unfold plainOp at h
  rw [e] at h
  cases h

/-- A step of a plain region, within the wide fence. -/
theorem wlIn (hF : WideF F) {ops : Array Oper} {rest : List Oper} {o : Oper} {a : Act} {w : World} {Q : Exit → Act → World → Prop} (hop : plainOp o = true) (hw : Region.wanted o (yielded ops a.tmps) = true)
    (h : ∀ K : Act → World → Prop, (∀ a w, wpListIn F n P ops Q rest a w → K a w) → o.wp P a w K Q) : wpListIn F n P ops Q (o :: rest) a w :=
  BigFrame.wpListIn_want hw fun K hK => operIn_of hF (plain_spec hop) (h K hK)

theorem wlIn_run (hF : WideF F) {ops : Array Oper} {rest : List Oper} {o : Oper} {a : Act} {w : World} {Q : Exit → Act → World → Prop} (v : Value) (w' : World) (hrun : (execOp a.eval o).run P w = .ok (.value v) w') (hop : plainOp o = true) (hw : Region.wanted o (yielded ops a.tmps) = true) {m : Nat}
    (h : wpListIn F m P ops Q rest (a.put o.dst v) w') : wpListIn F m P ops Q (o :: rest) a w :=
  wlIn hF hop hw fun _ hK => o_run v w' hrun (hK _ _ h)

theorem wlIn_load (hF : WideF F) {ops : Array Oper} {rest : List Oper} {o : Oper} {a : Act} {w : World} {Q : Exit → Act → World → Prop} (ty : TypeId) (x : Operand) (ho : o.op = .load ty x)
    (g : Nat) (hx : a.eval x = .pointer (some ⟨g, 0, none⟩)) (t : TypeId) (cs : Array Value) (d : TypeDesc) (hg : Blk w g t cs)
    (hu : P.underlying ty = some d) (hd : (match d with | .struct _ | .array _ _ => true | _ => false) = true) (n : Nat) (hi : (P.info? ty).map (·.size) = some n) (hn : n = cs.size)
    (hop : plainOp o = true) (hw : Region.wanted o (yielded ops a.tmps) = true) {m : Nat}
    (h : wpListIn F m P ops Q rest (a.put o.dst (.agg cs)) w) : wpListIn F m P ops Q (o :: rest) a w :=
  wlIn hF hop hw fun _ hK => wp_load_row ty x ho g hx t cs (0, 0) d hg hu hd (hn ▸ hi) (hK _ _ h)

theorem wlIn_load_mid (hF : WideF F) {ops : Array Oper} {rest : List Oper} {o : Oper} {a : Act} {w : World} {Q : Exit → Act → World → Prop} (ty : TypeId) (x : Operand) (ho : o.op = .load ty x)
    (b off : Nat) (hx : a.eval x = .pointer (some ⟨b, off, none⟩)) (cs : List Value) (d : TypeDesc) (hc : w.rangeAt b off cs)
    (hu : P.underlying ty = some d) (hd : d.isRow = true) (hi : (P.info? ty).map (·.size) = some cs.length)
    (hop : plainOp o = true) (hw : Region.wanted o (yielded ops a.tmps) = true) {m : Nat}
    (h : wpListIn F m P ops Q rest (a.put o.dst (.agg cs.toArray)) w) : wpListIn F m P ops Q (o :: rest) a w :=
  wlIn hF hop hw fun _ hK => wp_load_mid ty x ho b off hx cs d hc hu hd hi (hK _ _ h)

theorem wlIn_store (hF : WideF F) {ops : Array Oper} {rest : List Oper} {o : Oper} {a : Act} {w : World} {Q : Exit → Act → World → Prop} (ty : TypeId) (x y : Operand) (ho : o.op = .store ty x y)
    (g : Nat) (cells : Array Value) (hx : a.eval x = .pointer (some ⟨g, 0, none⟩)) (hy : a.eval y = .agg cells)
    (t : TypeId) (old : Array Value) (hg : Blk w g t old) (n : Nat) (hi : (P.info? ty).map (·.size) = some n) (hn : n = cells.size)
    (hold : old.size = n) (h1 : cells.all (·.oneCell') = true) (hop : plainOp o = true) (hw : Region.wanted o (yielded ops a.tmps) = true) {m : Nat}
    (h : wpListIn F m P ops Q rest (a.put o.dst undef) (w.setRow g cells)) : wpListIn F m P ops Q (o :: rest) a w :=
  wlIn hF hop hw fun _ hK => wp_store_row ty x y ho g cells hx hy t old hg (hn ▸ hi) (hold.trans hn) h1 (hK _ _ h)
end

/-- What is stored whole into a block just made. -/
theorem setRow_new (w : World) (z cs : Array Value) (t : TypeId) : (w.alloc (.cells z t)).setRow w.heap.size cs = w.alloc (.cells cs t) := by
  unfold World.setRow World.alloc
  congr 1
  apply Array.ext_getElem?
  intro i
  rw [Array.getElem?_modify]
  by_cases hi : w.heap.size = i
  · subst hi
    simp
  · rw [if_neg hi]
    by_cases h : i < w.heap.size
    · rw [Array.getElem?_push_lt h, Array.getElem?_push_lt h]
    · rw [Array.getElem?_eq_none (by simp; omega), Array.getElem?_eq_none (by simp; omega)]

/-- The elements xs lie at the address, k cells each, below n₀. -/
def Elems {α : Type} (enc : α → Array Value) (k n₀ : Nat) (W : World) (ad : Option Addr) (xs : List α) : Prop := ∀ j (hj : j < xs.length), ∃ g o, ad = some ⟨g, o, none⟩ ∧ g < n₀ ∧ W.rangeAt g (o + j * k) (enc xs[j]).toList
theorem rangeAt_below {n₀ : Nat} {A B : World} (h : Below n₀ A B) {g o : Nat} {cs : List Value} (hg : g < n₀) (hr : A.rangeAt g o cs) : B.rangeAt g o cs := fun j v hj => (h.cell (p := ⟨g, o + j, none⟩) hg).trans (hr j v hj)
theorem Elems.below {α : Type} {enc : α → Array Value} {k n₀ : Nat} {A B : World} (h : Below n₀ A B) {ad : Option Addr} {xs : List α} (hb : Elems enc k n₀ A ad xs) : Elems enc k n₀ B ad xs := fun j hj => by
  obtain ⟨g, o, h1, h2, h3⟩ := hb j hj
  exact ⟨g, o, h1, h2, rangeAt_below h h2 h3⟩
theorem Elems.mono {α : Type} {enc : α → Array Value} {k n₀ n₁ : Nat} {A : World} {ad : Option Addr} {xs : List α} (hb : Elems enc k n₀ A ad xs) (h : n₀ ≤ n₁) : Elems enc k n₁ A ad xs := fun j hj => by
  obtain ⟨g, o, h1, h2, h3⟩ := hb j hj
  exact ⟨g, o, h1, Nat.lt_of_lt_of_le h2 h, h3⟩
theorem Tryd.infoPntY : (Tryd.prog.info? 36).map (·.size) = some 18 := by kernel_rfl
end Go.Proofs.YtgpbmbefdgbblaaDoor
