/-
  Sums: the numbers of bytes one behind another (an iterator), and Add.
-/
import Derived.Test.YtnlhdeffoalhiaaDoorSfew
import Derived.RangeFuncNested
import Derived.RangeFuncBound
import Derived.RangeFuncCalls
import Derived.RangeFuncLeaves
import Derived.RangeFuncWrites
import Derived.RangeFuncBox
import Derived.Shelf.Abstract
import Derived.Shelf.RegionOpen
import Derived.WalkKit
import Derived.OwnWalkIn
import Derived.LoopNIn
import Derived.LoopIn
namespace Go.Proofs.YtnlhdeffoalhiaaDoor
open Go.RowKit Go.Shelf Go.Lib
attribute [local go_sem] Oper.semAt_some

/-- The bytes bs lie at the address, below n₀. -/
def Bys (n₀ : Nat) (W : World) (ad : Option Addr) (bs : List Int) : Prop := ∀ j, j < bs.length → ∃ g o, ad = some ⟨g, o, none⟩ ∧ g < n₀ ∧ W.cell? ⟨g, o + j, none⟩ = some (.int .u8 (bs.getD j 0))
theorem Bys.below {n₀ : Nat} {A B : World} (h : Below n₀ A B) {ad : Option Addr} {bs : List Int} (hb : Bys n₀ A ad bs) : Bys n₀ B ad bs := fun j hj => by
  obtain ⟨g, o, h1, h2, h3⟩ := hb j hj
  exact ⟨g, o, h1, h2, (h.cell (p := ⟨g, o + j, none⟩) h2).trans h3⟩
theorem Bys.mono {n₀ n₁ : Nat} {A : World} {ad : Option Addr} {bs : List Int} (hb : Bys n₀ A ad bs) (h : n₀ ≤ n₁) : Bys n₁ A ad bs := fun j hj => by
  obtain ⟨g, o, h1, h2, h3⟩ := hb j hj
  exact ⟨g, o, h1, Nat.lt_of_lt_of_le h2 h, h3⟩

set_option maxHeartbeats 2000000 in
theorem word_in (F : Fence) (n : Nat) (hf : F.fn 54) (hro : F.round = none) (g o len cap : Nat) (x y z : Int) (hx : 0 ≤ x ∧ x ≤ 255) (hy : 0 ≤ y ∧ y ≤ 255) (hl : 1 ≤ len) (hz : x * 256 + y = z) (w : World)
    (h0 : w.cell? ⟨g, o, none⟩ = some (.int .u8 x)) (h1 : 1 < len → w.cell? ⟨g, o + 1, none⟩ = some (.int .u8 y)) (hy0 : len = 1 → y = 0) :
    CallsIn F n Tryd.prog 54 #[.slice (some ⟨g, o, none⟩) len cap] w fun e w' => e = .returned (.int .i64 z) ∧ w' = w := by
  have HZ := hid hz
  clear hz
  have HO := hid (or8 x y hx hy)
  by_cases hc : 1 < len
  · have h1' := h1 hc
    refine callsIn_of_wp Tryd.func54 rfl hf ?_ hro
    simp only [Tryd.ntmps54, List.size_toArray, List.length_cons, List.length_nil, Nat.reduceAdd, Nat.reduceSub, Array.replicate_succ, Array.replicate_zero, List.push_toArray, List.append_toArray, List.nil_append, List.cons_append]
    gi_wp2
    go_ret
    exact ⟨ret_i rfl (HO.out.trans HZ.out), rfl⟩
  · have e1 : len = 1 := by omega
    have e0 := hy0 e1
    subst e1 e0
    refine callsIn_of_wp Tryd.func54 rfl hf ?_ hro
    simp only [Tryd.ntmps54, List.size_toArray, List.length_cons, List.length_nil, Nat.reduceAdd, Nat.reduceSub, Array.replicate_succ, Array.replicate_zero, List.push_toArray, List.append_toArray, List.nil_append, List.cons_append]
    gi_wp2
    go_ret
    exact ⟨ret_i rfl (by have := HZ.out; omega), rfl⟩

set_option maxHeartbeats 1000000 in
theorem words_in (F : Fence) (n : Nat) (hf : F.fn 40) (hro : F.round = none) (a : Option Addr) (len cap : Nat) (w : World) :
    CallsIn F n Tryd.prog 40 #[.slice a len cap] w fun e w' => e = .returned (.func (.func 53) #[] #[.pointer (some ⟨w.heap.size, 0, none⟩)]) ∧ w' = w.alloc (.cells #[.slice a len cap] 33) := by
  refine callsIn_of_wp Tryd.func40 rfl hf ?_ hro
  simp only [Tryd.ntmps40, List.size_toArray, List.length_cons, List.length_nil, Nat.reduceAdd, Nat.reduceSub, Array.replicate_succ, Array.replicate_zero, List.push_toArray, List.append_toArray, List.nil_append, List.cons_append]
  gi_wp2
  go_ret
  exact ⟨rfl, rfl⟩

/-- What lies below n₀ stays, and so does block B. -/
structure KB (n₀ B : Nat) (W W' : World) : Prop where
  low : Below n₀ W W'
  box : W'.heap[B]? = W.heap[B]?
theorem KB.refl (n₀ B : Nat) (W : World) : KB n₀ B W W := ⟨Below.refl _ _, rfl⟩
theorem KB.trans {n₀ B : Nat} {W W' W2 : World} (h : KB n₀ B W W') (k : KB n₀ B W' W2) : KB n₀ B W W2 := ⟨h.low.trans k.low, k.box.trans h.box⟩
theorem KB.cell {n₀ B : Nat} {W W' : World} (h : KB n₀ B W W') (o : Nat) : W'.cell? ⟨B, o, none⟩ = W.cell? ⟨B, o, none⟩ := World.cell?_of_block h.box
theorem KB.put {n₀ B : Nat} {w : World} (h1 : n₀ ≤ w.heap.size) (h2 : B < w.heap.size) (W : World) (l : Nat) (o o' : Obj) (hl : w.heap.size ≤ l) (h : W.heap[l]? = some o) (hc : o.isCells = false) (hw : o.isWalk = false) : KB n₀ B W (W.putObj l o') :=
  ⟨belowK_b h1 W l o o' hl h hc hw, (belowK_b (w := w) (Nat.le_refl _) W l o o' hl h hc hw).block B h2⟩
theorem KB.set {n₀ B g : Nat} (W : World) (h1 : n₀ ≤ g) (h2 : B ≠ g) (i : Nat) (v : Value) : KB n₀ B W (W.setCell ⟨g, i, none⟩ v) :=
  ⟨(Below.refl _ W).setCell (p := ⟨g, i, none⟩) h1 v, Below.heap_setCell W ⟨g, i, none⟩ v B h2⟩

end Go.Proofs.YtnlhdeffoalhiaaDoor
