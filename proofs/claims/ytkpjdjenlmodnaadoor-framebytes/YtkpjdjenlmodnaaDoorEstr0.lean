/-
  A stream in memory; New, Waits, Broken, Count.
-/
import Derived.Test.YtkpjdjenlmodnaaDoorEmem
import Derived.Test.YtkpjdjenlmodnaaDoorEcur
import Derived.Test.YtkpjdjenlmodnaaDoorEread2
namespace Go.Proofs.YtkpjdjenlmodnaaDoor
open Go.RowKit Go.Lib

/-- In world w, block c is a stream in which the bytes p wait, that told n frames, and is broken, or not. -/
structure Str (w : World) (c : Nat) (p : List Int) (n : Nat) (b : Bool) : Prop where
  obj : ∃ cs, Blk w c 55 cs ∧ cs.size = 1205 ∧ (∀ j, j < p.length → cs[j]? = some (.int .u8 (p.getD j 0))) ∧ cs[1202]? = some (.int .i64 p.length) ∧ cs[1203]? = some (.int .i64 n) ∧ cs[1204]? = some (.bool b)
  le : p.length ≤ 1202
  byte : Byt p

section
variable {w w' : World} {c : Nat} {p : List Int} {n : Nat} {b : Bool}
theorem Str.lt (h : Str w c p n b) : c < w.heap.size := by
  obtain ⟨cs, h1, _⟩ := h.obj
  exact h1.lt
theorem Str.same (h : Str w c p n b) (e : w'.heap[c]? = w.heap[c]?) : Str w' c p n b := by
  obtain ⟨cs, h1, h2⟩ := h.obj
  exact ⟨⟨cs, by unfold Blk at *; rw [e]; exact h1, h2⟩, h.le, h.byte⟩
theorem Str.kept (h : Str w c p n b) (hb : Below w.heap.size w w') : Str w' c p n b := h.same (hb.block c h.lt)
theorem Str.cellP (h : Str w c p n b) (j : Nat) (hj : j < p.length) : w.cell? ⟨c, j, none⟩ = some (.int .u8 (p.getD j 0)) := by
  obtain ⟨cs, h1, h2, h3, h4⟩ := h.obj
  rw [h1.cell]
  exact h3 j hj
theorem Str.cellW (h : Str w c p n b) : w.cell? ⟨c, 1202, none⟩ = some (.int .i64 p.length) := by
  obtain ⟨cs, h1, h2, h3, h4, h5, h6⟩ := h.obj
  rw [h1.cell]
  exact h4
theorem Str.cellN (h : Str w c p n b) : w.cell? ⟨c, 1203, none⟩ = some (.int .i64 n) := by
  obtain ⟨cs, h1, h2, h3, h4, h5, h6⟩ := h.obj
  rw [h1.cell]
  exact h5
theorem Str.cellB (h : Str w c p n b) : w.cell? ⟨c, 1204, none⟩ = some (.bool b) := by
  obtain ⟨cs, h1, h2, h3, h4, h5, h6⟩ := h.obj
  rw [h1.cell]
  exact h6
theorem Str.free (h : Str w c p n b) (i : Nat) : w.frozen? ⟨c, i, none⟩ = false := by
  obtain ⟨cs, h1, _⟩ := h.obj
  exact h1.frozen i
theorem Str.there (h : Str w c p n b) (i : Nat) (hi : i < 1205) : (w.cell? ⟨c, i, none⟩).isSome = true := by
  obtain ⟨cs, h1, h2, _⟩ := h.obj
  rw [h1.cell, Array.getElem?_eq_getElem (by omega)]
  rfl
/-- Fewer bytes wait, or as many more as lie there. -/
theorem Str.waits (h : Str w c p n b) (q : List Int) (hq : q.length ≤ 1202) (hb : Byt q) (hc : ∀ j, j < q.length → w.cell? ⟨c, j, none⟩ = some (.int .u8 (q.getD j 0))) : Str (w.setCell ⟨c, 1202, none⟩ (.int .i64 q.length)) c q n b := by
  obtain ⟨cs, h1, h2, h3, h4, h5, h6⟩ := h.obj
  refine ⟨⟨_, h1.set 1202 _, by simpa using h2, fun j hj => ?_, ?_, ?_, ?_⟩, hq, hb⟩
  · rw [Array.getElem?_setIfInBounds_ne (by omega), ← h1.cell]
    exact hc j hj
  · exact Array.getElem?_setIfInBounds_self_of_lt (by omega)
  · rw [Array.getElem?_setIfInBounds_ne (by omega)]; exact h5
  · rw [Array.getElem?_setIfInBounds_ne (by omega)]; exact h6
theorem Str.counts (h : Str w c p n b) (m : Nat) : Str (w.setCell ⟨c, 1203, none⟩ (.int .i64 m)) c p m b := by
  obtain ⟨cs, h1, h2, h3, h4, h5, h6⟩ := h.obj
  have hp := h.le
  refine ⟨⟨_, h1.set 1203 _, by simpa using h2, fun j hj => ?_, ?_, ?_, ?_⟩, h.le, h.byte⟩
  · rw [Array.getElem?_setIfInBounds_ne (by omega)]; exact h3 j hj
  · rw [Array.getElem?_setIfInBounds_ne (by omega)]; exact h4
  · exact Array.getElem?_setIfInBounds_self_of_lt (by omega)
  · rw [Array.getElem?_setIfInBounds_ne (by omega)]; exact h6
theorem Str.breaks (h : Str w c p n b) (b' : Bool) : Str (w.setCell ⟨c, 1204, none⟩ (.bool b')) c p n b' := by
  obtain ⟨cs, h1, h2, h3, h4, h5, h6⟩ := h.obj
  have hp := h.le
  refine ⟨⟨_, h1.set 1204 _, by simpa using h2, fun j hj => ?_, ?_, ?_, ?_⟩, h.le, h.byte⟩
  · rw [Array.getElem?_setIfInBounds_ne (by omega)]; exact h3 j hj
  · rw [Array.getElem?_setIfInBounds_ne (by omega)]; exact h4
  · rw [Array.getElem?_setIfInBounds_ne (by omega)]; exact h5
  · exact Array.getElem?_setIfInBounds_self_of_lt (by omega)

set_option maxHeartbeats 1000000 in
theorem waits_any (h : Str w c p n b) : Calls Tryd.prog 17 #[.pointer (some ⟨c, 0, none⟩)] w fun e w' => e = .returned (.int .i64 p.length) ∧ w = w' := by
  have h1 := h.cellW
  clear h
  go_enter Tryd.func17, Tryd.ntmps17
  go_wp2
  go_ret
  exact ⟨rfl, rfl⟩
set_option maxHeartbeats 1000000 in
theorem broken_any (h : Str w c p n b) : Calls Tryd.prog 16 #[.pointer (some ⟨c, 0, none⟩)] w fun e w' => e = .returned (.bool b) ∧ w = w' := by
  have h1 := h.cellB
  clear h
  go_enter Tryd.func16, Tryd.ntmps16
  go_wp2
  go_ret
  exact ⟨rfl, rfl⟩
set_option maxHeartbeats 1000000 in
theorem count_any (h : Str w c p n b) : Calls Tryd.prog 18 #[.pointer (some ⟨c, 0, none⟩)] w fun e w' => e = .returned (.int .i64 n) ∧ w = w' := by
  have h1 := h.cellN
  clear h
  go_enter Tryd.func18, Tryd.ntmps18
  go_wp2
  go_ret
  exact ⟨rfl, rfl⟩
end
end Go.Proofs.YtkpjdjenlmodnaaDoor
