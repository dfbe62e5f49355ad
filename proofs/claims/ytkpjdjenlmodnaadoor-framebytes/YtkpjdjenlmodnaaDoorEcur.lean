/-
  A cursor in memory, at any place, with or without an error (the program's and the document's have one make: bytes, a place, and what went wrong); what stays when one block alone is written.
-/
import Derived.Test.YtkpjdjenlmodnaaDoorNkit
import Derived.ArgAppend
namespace Go.Proofs.YtkpjdjenlmodnaaDoor
open Go.RowKit

/-- All blocks but c stay. -/
structure Keep (c : Nat) (w w' : World) : Prop where
  low : Below c w w'
  rest : ∀ g, g < w.heap.size → g ≠ c → w'.heap[g]? = w.heap[g]?

section
variable {c : Nat} {w w' w2 : World}
theorem Keep.refl (c : Nat) (w : World) : Keep c w w := ⟨Below.refl _ _, fun _ _ _ => rfl⟩
theorem Keep.trans (h : Keep c w w') (k : Keep c w' w2) : Keep c w w2 :=
  ⟨h.low.trans k.low, fun g hg hne => (k.rest g (Nat.lt_of_lt_of_le hg h.low.size) hne).trans (h.rest g hg hne)⟩
theorem Keep.of (hb : Below w.heap.size w w') (hc : c ≤ w.heap.size) : Keep c w w' := ⟨hb.mono hc, fun g hg _ => hb.block g hg⟩
theorem Keep.set (w : World) (c i : Nat) (v : Value) : Keep c w (w.setCell ⟨c, i, none⟩ v) :=
  ⟨(Below.refl _ _).setCell (p := ⟨c, i, none⟩) (Nat.le_refl _) v, fun g _ hne => Below.heap_setCell w _ _ g hne⟩
theorem Keep.cell (h : Keep c w w') {g o : Nat} {v : Value} (hv : w.cell? ⟨g, o, none⟩ = some v) (hne : g ≠ c) : w'.cell? ⟨g, o, none⟩ = some v := by
  have hg : g < w.heap.size := World.block_lt_of_cell? w ⟨g, o, none⟩ hv
  rw [World.cell?_of_block (w := w) (h.rest g hg hne)]
  exact hv
theorem Keep.blk (h : Keep c w w') {g : Nat} {t : TypeId} {cs : Array Value} (hv : Blk w g t cs) (hne : g ≠ c) : Blk w' g t cs := by
  unfold Blk
  rw [h.rest g hv.lt hne]
  exact hv
end

/-- In world w the row of bytes bs lies at the address, and none of it in block c. -/
def Row (w : World) (c : Nat) (ad : Option Addr) (bs : List Int) : Prop := ∀ j, j < bs.length → ∃ g o, ad = some ⟨g, o, none⟩ ∧ g ≠ c ∧ w.cell? ⟨g, o + j, none⟩ = some (.int .u8 (bs.getD j 0))

theorem Row.keep {c d : Nat} {w w' : World} {ad : Option Addr} {bs : List Int} (h : Row w c ad bs) (hk : Keep d w w') (hd : ∀ j, j < bs.length → ∀ g o, ad = some ⟨g, o, none⟩ → g ≠ d) : Row w' c ad bs := fun j hj => by
  obtain ⟨g, o, h1, h2, h3⟩ := h j hj
  exact ⟨g, o, h1, h2, hk.cell h3 (hd j hj g o h1)⟩
theorem Row.self {c : Nat} {w w' : World} {ad : Option Addr} {bs : List Int} (h : Row w c ad bs) (hk : Keep c w w') : Row w' c ad bs := h.keep hk fun j hj g o e => by
  obtain ⟨g', o', h1, h2, _⟩ := h j hj
  rw [h1] at e
  cases e
  exact h2
theorem Row.kept {c : Nat} {w w' : World} {ad : Option Addr} {bs : List Int} (h : Row w c ad bs) (hb : Below w.heap.size w w') : Row w' c ad bs := fun j hj => by
  obtain ⟨g, o, h1, h2, h3⟩ := h j hj
  exact ⟨g, o, h1, h2, cell_stays h3 hb⟩

/-- In world w, block c is a cursor (of type t) over bs at place p; x tells what went wrong. -/
structure Cur (w : World) (t : TypeId) (c : Nat) (ad : Option Addr) (cap : Nat) (bs : List Int) (p : Nat) (x : Value) : Prop where
  obj : Blk w c t #[.slice ad bs.length cap, .int .i64 p, x]
  row : Row w c ad bs
  le : p ≤ bs.length
  room : bs.length ≤ cap
  most : bs.length ≤ 1000000
  byte : ∀ j, 0 ≤ bs.getD j 0 ∧ bs.getD j 0 ≤ 255

section
variable {w w' : World} {t : TypeId} {c : Nat} {ad : Option Addr} {cap : Nat} {bs : List Int} {p : Nat} {x : Value}
theorem Cur.cell0 (h : Cur w t c ad cap bs p x) : w.cell? ⟨c, 0, none⟩ = some (.slice ad bs.length cap) := by rw [h.obj.cell]; rfl
theorem Cur.cell1 (h : Cur w t c ad cap bs p x) : w.cell? ⟨c, 1, none⟩ = some (.int .i64 p) := by rw [h.obj.cell]; rfl
theorem Cur.cell2 (h : Cur w t c ad cap bs p x) : w.cell? ⟨c, 2, none⟩ = some x := by rw [h.obj.cell]; rfl
theorem Cur.free (h : Cur w t c ad cap bs p x) (i : Nat) : w.frozen? ⟨c, i, none⟩ = false := h.obj.frozen i
theorem Cur.kept (h : Cur w t c ad cap bs p x) (hb : Below w.heap.size w w') : Cur w' t c ad cap bs p x := ⟨h.obj.kept hb, h.row.kept hb, h.le, h.room, h.most, h.byte⟩
theorem Cur.drewN (h : Cur w t c ad cap bs p x) (n : Nat) : Cur (w.drewN n) t c ad cap bs p x := h.kept (below_drewN w n)
/-- The place goes on. -/
theorem Cur.goes (h : Cur w t c ad cap bs p x) (q : Nat) (hq : q ≤ bs.length) : Cur (w.setCell ⟨c, 1, none⟩ (.int .i64 q)) t c ad cap bs q x := by
  refine ⟨?_, h.row.self (Keep.set w c 1 _), hq, h.room, h.most, h.byte⟩
  have := h.obj.set 1 (.int .i64 q)
  simpa using this
/-- Something went wrong. -/
theorem Cur.fails (h : Cur w t c ad cap bs p x) (y : Value) : Cur (w.setCell ⟨c, 2, none⟩ y) t c ad cap bs p y := by
  refine ⟨?_, h.row.self (Keep.set w c 2 _), h.le, h.room, h.most, h.byte⟩
  have := h.obj.set 2 y
  simpa using this
end

/-- What a call on a cursor ends in. -/
def CurEnd (v : Value) (t : TypeId) (c : Nat) (ad : Option Addr) (cap : Nat) (bs : List Int) (q : Nat) (y : Value) (w : World) (e : Ending) (w' : World) : Prop :=
  e = .returned v ∧ Cur w' t c ad cap bs q y ∧ Keep c w w'

theorem drewN_drewN (w : World) (n m : Nat) : (w.drewN n).drewN m = w.drewN (n + m) := by simp [World.drewN, Nat.add_assoc]
theorem keep_drewN (c : Nat) (w : World) (n : Nat) : Keep c w (w.drewN n) := ⟨⟨rfl, rfl, rfl, Nat.le_refl _, fun _ _ => rfl⟩, fun _ _ _ => rfl⟩
def Drew (v : Value) (w : World) (e : Ending) (w' : World) : Prop := e = .returned v ∧ ∃ n, w' = w.drewN n
end Go.Proofs.YtkpjdjenlmodnaaDoor
