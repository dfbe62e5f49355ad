/-
  addr.Read of a cursor, whatever lies there.
-/
import Derived.Test.YtnfkgoeocebenaaGreatDoorKaread
namespace Go.Proofs.YtnfkgoeocebenaaGreatDoor
open Go.RowKit

/-- What an address is that is read of bytes from p on; the place behind it, and the error's number. -/
def readA (bs : List Int) (p : Nat) : (Bool × List Int) × Nat × Nat :=
  if p < bs.length then
    (if bs.getD p 0 = 4 then (if p + 5 ≤ bs.length then ((false, pad16 ((bs.drop (p + 1)).take 4)), p + 5, 0) else ((false, z16), p + 1, 2))
    else if bs.getD p 0 = 6 then (if p + 17 ≤ bs.length then ((true, pad16 ((bs.drop (p + 1)).take 16)), p + 17, 0) else ((false, z16), p + 1, 2))
    else ((false, z16), p + 1, 7))
  else ((false, z16), p, 2)

theorem readA_len (bs : List Int) (p : Nat) : (readA bs p).1.2.length = 16 := by
  unfold readA
  split
  · split
    · split
      · exact pad16_length _ (by rw [List.length_take]; omega)
      · rfl
    · split
      · split
        · exact pad16_length _ (by rw [List.length_take]; omega)
        · rfl
      · rfl
  · rfl

/-- An error by its number. -/
def errV (a : Nat → Addr) (k : Nat) : Value := if k = 0 then .nilIface else .iface 211 (.pointer (some (a (k - 1))))

/-- Where package api's errors are held. -/
def ErrC (a : Nat → Addr) (w : World) : Prop := ∀ i, i < 18 → w.cell? ⟨gi i, 0, none⟩ = some (.iface 211 (.pointer (some (a i))))
theorem ErrC.kept {a : Nat → Addr} {w w' : World} (h : ErrC a w) (hb : Below w.heap.size w w') : ErrC a w' := fun i hi => cell_kept (h i hi) hb
theorem ErrC.keep {a : Nat → Addr} {w w' : World} {t : TypeId} {c : Nat} {ad : Option Addr} {cap : Nat} {bs : List Int} {p : Nat} {x : Value} (h : ErrC a w) (hc : Cur w t c ad cap bs p x) (hk : Keep c w w') : ErrC a w' := fun i hi => by
  refine hk.cell (h i hi) fun e => ?_
  have h1 := h i hi
  rw [e, hc.cell0] at h1
  cases h1
theorem Errs.c {a : Nat → Addr} {w : World} (h : Errs 18 a w) : ErrC a w := h.cell
theorem ErrC.short {a : Nat → Addr} {w : World} (h : ErrC a w) : w.cell? ⟨2, 0, none⟩ = some (.iface 211 (.pointer (some (a 1)))) := h 1 (by decide)
theorem ErrC.form {a : Nat → Addr} {w : World} (h : ErrC a w) : w.cell? ⟨0, 0, none⟩ = some (.iface 211 (.pointer (some (a 3)))) := h 3 (by decide)
theorem ErrC.kind {a : Nat → Addr} {w : World} (h : ErrC a w) : w.cell? ⟨6, 0, none⟩ = some (.iface 211 (.pointer (some (a 6)))) := h 6 (by decide)
theorem ErrC.range {a : Nat → Addr} {w : World} (h : ErrC a w) : w.cell? ⟨1, 0, none⟩ = some (.iface 211 (.pointer (some (a 0)))) := h 0 (by decide)

theorem Keep.setRow {c r : Nat} {w w' : World} (h : Keep c w w') (hc : c ≤ r) (hr : w.heap.size ≤ r) (cs : Array Value) : Keep c w (w'.setRow r cs) :=
  ⟨below_setRow h.low hc cs, fun g hg hne => (setRow_other w' r g cs (by omega)).trans (h.rest g hg hne)⟩
/-- A row that lies nowhere in the cursor is written. -/
theorem Cur.setRow {w w' : World} {t : TypeId} {c : Nat} {ad : Option Addr} {cap : Nat} {bs : List Int} {p q : Nat} {x y : Value} (h0 : Cur w t c ad cap bs p x) (h : Cur w' t c ad cap bs q y) {r : Nat} (hr : w.heap.size ≤ r) (cs : Array Value) : Cur (w'.setRow r cs) t c ad cap bs q y := by
  have hc := h0.obj.lt
  refine ⟨h.obj.rowOther (by omega) cs, fun j hj => ?_, h.le, h.room, h.most, h.byte⟩
  obtain ⟨g, o, e, hne, hx⟩ := h.row j hj
  obtain ⟨g0, o0, e0, _, hx0⟩ := h0.row j hj
  rw [e] at e0
  cases e0
  have hg : g < w.heap.size := World.block_lt_of_cell? w _ hx0
  exact ⟨g, o, e, hne, (World.cell?_of_block (w := w') (setRow_other w' r g cs (by omega))).trans hx⟩

theorem aread_fin {w w3 V : World} {t : TypeId} {c : Nat} {ad : Option Addr} {cap : Nat} {bs : List Int} {p q : Nat} {x y : Value} {o : Obj} (h0 : Cur w t c ad cap bs p x) (h3 : Cur w3 t c ad cap bs q y) (hk : Keep c (w.alloc o) w3) (hV : Below w3.heap.size w3 V) (cs : Array Value) :
    Cur (V.setRow w.heap.size cs) t c ad cap bs q y ∧ Keep c w (V.setRow w.heap.size cs) := by
  have hc := h0.obj.lt
  have hk0 : Keep c w (w.alloc o) := Keep.of ((Below.refl _ _).alloc (Nat.le_refl _) _) (Nat.le_of_lt hc)
  have h3c := h3.obj.lt
  exact ⟨Cur.setRow h0 (h3.kept hV) (Nat.le_refl _) cs, ((hk0.trans hk).trans (Keep.of hV (Nat.le_of_lt h3c))).setRow (Nat.le_of_lt hc) (Nat.le_refl _) cs⟩

theorem acc1 (bs : List Int) (p : Nat) (hb : ∀ j, 0 ≤ bs.getD j 0 ∧ bs.getD j 0 ≤ 255) : ((accN bs p 1 : Nat) : Int) = bs.getD p 0 := by
  show (((0 * 256 + (bs.getD (p + 0) 0).toNat : Nat)) : Int) = _
  have := hb p
  rw [Nat.add_zero, Nat.zero_mul, Nat.zero_add]
  omega

section
variable {w : World} {c : Nat} {ad : Option Addr} {cap : Nat} {bs : List Int} {p : Nat}
/-- What Read ends in. -/
def AreadEnd (t : TypeId) (s : Bool) (b : List Int) (c : Nat) (ad : Option Addr) (cap : Nat) (bs : List Int) (q : Nat) (y : Value) (w : World) (e : Ending) (w' : World) : Prop := e = .returned (.agg (adr s b)) ∧ Cur w' t c ad cap bs q y ∧ Keep c w w'

/-- No address, whatever mark there is, where the cursor has an error behind the mark. -/
theorem aread_zero (a : Nat → Addr) (m : Int) (q : Nat) (x y : Value) (u : TypeId) (v : Value) (hy : y = .iface u v) (h : Cur w 79 c ad cap bs p x) (hE : ErrC a w) (h4 : (m == 4) = false) (h6 : (m == 6) = false)
    (cN : Calls Tryz.prog 51 #[.pointer (some ⟨c, 0, none⟩), .int .i64 1] (w.alloc (.cells (adr false z16) 24)) fun e w1 => e = .returned (.int .i64 m) ∧ ∃ z, Cur w1 79 c ad cap bs q z ∧ (z = y ∨ z = .nilIface ∧ y = .iface 211 (.pointer (some (a 6)))) ∧ Keep c (w.alloc (.cells (adr false z16) 24)) w1) :
    Calls Tryz.prog 19 #[.pointer (some ⟨c, 0, none⟩)] w (AreadEnd 79 false z16 c ad cap bs q y w) := by
  have hb0 : Below w.heap.size w (w.alloc (.cells (adr false z16) 24)) := (Below.refl _ _).alloc (Nat.le_refl _) _
  have hlt := h.obj.lt
  have hB0 : Blk (w.alloc (.cells (adr false z16) 24)) w.heap.size 24 (adr false z16) := Blk.new w _ _
  have hne : w.heap.size ≠ c := by omega
  obtain ⟨W0, hW0⟩ : ∃ W, W = w.alloc (.cells (adr false z16) 24) := ⟨_, rfl⟩
  have hE0 : ErrC a W0 := hW0 ▸ hE.kept hb0
  have h0 : Cur W0 79 c ad cap bs p x := hW0 ▸ h.kept hb0
  have cN' := cN
  rw [← hW0] at cN' hB0
  refine (aread_none c false z16 rfl m h4 h6 w (R1 := fun w1 => ∃ z, Cur w1 79 c ad cap bs q z ∧ (z = y ∨ z = .nilIface ∧ y = .iface 211 (.pointer (some (a 6)))) ∧ Keep c W0 w1)
    (R2 := fun v w2 => v = .slice none 0 0 ∧ Cur w2 79 c ad cap bs q y ∧ Keep c W0 w2)
    (R3 := fun w3 => Cur w3 79 c ad cap bs q y ∧ Keep c W0 w3)
    (RF := fun w2 => Cur w2 79 c ad cap bs q y ∧ Keep c W0 w2) (.iface 211 (.pointer (some (a 6)))) (by rw [← hW0]; exact cN') ?_ ?_ ?_ ?_ ?_).mono ?_
  · rintro w1 ⟨z, hz, _, hk⟩
    exact (hE0.keep h0 hk).kind
  · rintro w1 ⟨z, hz, hzy, hk⟩
    rcases hzy with rfl | ⟨rfl, rfl⟩
    · subst hy
      refine (fail_skip hz _).mono ?_
      rintro e w2 ⟨hr, rfl⟩
      exact ⟨hr, hz, hk⟩
    · refine (fail_set hz _ _).mono ?_
      rintro e w2 ⟨hr, hC, hK⟩
      exact ⟨hr, hC, hk.trans hK⟩
  · rintro w1 ⟨hz, hk⟩
    subst hy
    refine (bytes_bad hz 0 ⟨_, (hE0.keep h0 hk).short⟩).mono ?_
    rintro e w2 ⟨rfl, hC, hK⟩
    exact ⟨_, rfl, rfl, hC, hk.trans hK⟩
  · rintro v w2 ⟨rfl, hC, hk⟩
    refine (from_bad none 0 0 (by decide) (by decide) _ w2 (hE0.keep h0 hk).form).mono ?_
    rintro e w3 ⟨rfl, hb⟩
    exact ⟨_, rfl, hC.kept hb, hk.trans (Keep.of hb (Nat.le_of_lt hC.obj.lt))⟩
  · rintro w3 ⟨_, hk⟩
    exact hk.blk hB0 hne
  · rintro e w' ⟨rfl, w3, V, ⟨h3, hk⟩, hV, rfl⟩
    rw [hW0] at hk
    obtain ⟨r1, r2⟩ := aread_fin h h3 hk hV (adr false z16)
    exact ⟨rfl, r1, r2⟩
end
end Go.Proofs.YtnfkgoeocebenaaGreatDoor
