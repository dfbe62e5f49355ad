/-
  The walks of addr.Four and addr.Right.
-/
import Derived.Test.YtnfkgoeocebenaaDoorEq
import Derived.Deep.RegionHeld3
import Derived.StillTactics
import Derived.Laws.Pointers
namespace Go.Proofs.YtnfkgoeocebenaaDoor
open Go.RowKit
/-- All cells of a block that holds an address. -/
theorem cells16 {w' : World} {g : Nat} {s : Bool} {b : List Int} (hl : b.length = 16) (h : Blk w' g 33 (adr s b)) : w'.cell? ⟨g, 0, none⟩ = some (.bool s) ∧ w'.cell? ⟨g, 1, none⟩ = some (.int .u8 (nth b 0)) ∧ w'.cell? ⟨g, 2, none⟩ = some (.int .u8 (nth b 1)) ∧ w'.cell? ⟨g, 3, none⟩ = some (.int .u8 (nth b 2)) ∧ w'.cell? ⟨g, 4, none⟩ = some (.int .u8 (nth b 3)) ∧ w'.cell? ⟨g, 5, none⟩ = some (.int .u8 (nth b 4)) ∧ w'.cell? ⟨g, 6, none⟩ = some (.int .u8 (nth b 5)) ∧ w'.cell? ⟨g, 7, none⟩ = some (.int .u8 (nth b 6)) ∧ w'.cell? ⟨g, 8, none⟩ = some (.int .u8 (nth b 7)) ∧ w'.cell? ⟨g, 9, none⟩ = some (.int .u8 (nth b 8)) ∧ w'.cell? ⟨g, 10, none⟩ = some (.int .u8 (nth b 9)) ∧ w'.cell? ⟨g, 11, none⟩ = some (.int .u8 (nth b 10)) ∧ w'.cell? ⟨g, 12, none⟩ = some (.int .u8 (nth b 11)) ∧ w'.cell? ⟨g, 13, none⟩ = some (.int .u8 (nth b 12)) ∧ w'.cell? ⟨g, 14, none⟩ = some (.int .u8 (nth b 13)) ∧ w'.cell? ⟨g, 15, none⟩ = some (.int .u8 (nth b 14)) ∧ w'.cell? ⟨g, 16, none⟩ = some (.int .u8 (nth b 15)) := by
  have hc : ∀ i, i < 16 → w'.cell? ⟨g, 1 + i, none⟩ = some (.int .u8 (nth b i)) := fun i hi => by rw [h.cell, adr_at _ _ _ (by omega)]
  exact ⟨by rw [h.cell]; rfl, hc 0 (by omega), hc 1 (by omega), hc 2 (by omega), hc 3 (by omega), hc 4 (by omega), hc 5 (by omega), hc 6 (by omega), hc 7 (by omega), hc 8 (by omega), hc 9 (by omega), hc 10 (by omega), hc 11 (by omega), hc 12 (by omega), hc 13 (by omega), hc 14 (by omega), hc 15 (by omega)⟩

/-- Are all bytes behind the fourth noughts? -/
def flat (b : List Int) : Bool := b == [nth b 0, nth b 1, nth b 2, nth b 3, 0, 0, 0, 0, 0, 0, 0, 0, 0, 0, 0, 0]

theorem lit16 (s : Bool) (b : List Int) (hl : b.length = 16) : adr s b = #[.bool s, .int .u8 (nth b 0), .int .u8 (nth b 1), .int .u8 (nth b 2), .int .u8 (nth b 3), .int .u8 (nth b 4), .int .u8 (nth b 5), .int .u8 (nth b 6), .int .u8 (nth b 7), .int .u8 (nth b 8), .int .u8 (nth b 9), .int .u8 (nth b 10), .int .u8 (nth b 11), .int .u8 (nth b 12), .int .u8 (nth b 13), .int .u8 (nth b 14), .int .u8 (nth b 15)] := by
  match b, hl with
  | [a0, a1, a2, a3, a4, a5, a6, a7, a8, a9, a10, a11, a12, a13, a14, a15], _ => rfl
theorem list16 (b : List Int) (hl : b.length = 16) : b = [nth b 0, nth b 1, nth b 2, nth b 3, nth b 4, nth b 5, nth b 6, nth b 7, nth b 8, nth b 9, nth b 10, nth b 11, nth b 12, nth b 13, nth b 14, nth b 15] := by
  match b, hl with
  | [a0, a1, a2, a3, a4, a5, a6, a7, a8, a9, a10, a11, a12, a13, a14, a15], _ => rfl

theorem flat_of (b : List Int) (hl : b.length = 16) (h : ∀ j, 4 ≤ j → j < 16 → nth b j = 0) : flat b = true := by
  have e := list16 b hl
  rw [h 4 (by omega) (by omega), h 5 (by omega) (by omega), h 6 (by omega) (by omega), h 7 (by omega) (by omega), h 8 (by omega) (by omega), h 9 (by omega) (by omega), h 10 (by omega) (by omega), h 11 (by omega) (by omega), h 12 (by omega) (by omega), h 13 (by omega) (by omega), h 14 (by omega) (by omega), h 15 (by omega) (by omega)] at e
  unfold flat
  rw [← e]
  simp
theorem flat_not (b : List Int) (j : Nat) (h4 : 4 ≤ j) (h16 : j < 16) (h : nth b j ≠ 0) : flat b = false := by
  rw [← Bool.not_eq_true]
  intro hf
  unfold flat at hf
  have e := beq_iff_eq.1 hf
  apply h
  rw [e]
  have : j = 4 ∨ j = 5 ∨ j = 6 ∨ j = 7 ∨ j = 8 ∨ j = 9 ∨ j = 10 ∨ j = 11 ∨ j = 12 ∨ j = 13 ∨ j = 14 ∨ j = 15 := by omega
  rcases this with rfl | rfl | rfl | rfl | rfl | rfl | rfl | rfl | rfl | rfl | rfl | rfl <;> rfl
end Go.Proofs.YtnfkgoeocebenaaDoor
