/-
  The law MaglevMoves.
-/
import Derived.Test.YtgpbmbefdgbblaaDoorLali
namespace Go.Proofs.YtgpbmbefdgbblaaDoor
open Go.RowKit Go.Lib

/-- What a filling ends with, as a table in memory. -/
theorem FillEnd.tab {E : Nat → TypeId × Value} {xs : List PS} {m : Int} {w : World} {e : Ending} {w' : World} (h : FillEnd E xs m w e w') :
    Below w.heap.size w w' ∧ ((fillE xs m ≠ 0 ∧ e = .returned (.tuple #[.agg #[.int .i64 0, .slice none 0 0, .slice none 0 0], .iface (E (fillE xs m)).1 (E (fillE xs m)).2])) ∨
      (fillE xs m = 0 ∧ ∃ (M : Nat) (ab : Option Addr) (cap S : Nat), m = (M : Int) ∧ sizedB (M : Int) = true ∧ 0 < (psorted xs).length ∧ (psorted xs).length ≤ 24 ∧ (psorted xs).length ≤ M ∧ e = .returned (.tuple #[.agg #[.int .i64 (M : Int), .slice ab (psorted xs).length cap, .slice (some ⟨S, 0, none⟩) (fillT (ordL M (psorted xs)) (psorted xs).length M M).length M], .nilIface]) ∧
        TabIn w'.heap.size w' ab (some ⟨S, 0, none⟩) (psorted xs) (fillT (ordL M (psorted xs)) (psorted xs).length M M))) := by
  obtain ⟨hb, h | ⟨h0, M, ab, cap, S, hM, he, h1, h2, h3⟩⟩ := h
  · exact ⟨hb, .inl h⟩
  · refine ⟨hb, .inr ⟨h0, M, ab, cap, S, hM, ?_, ?_, ?_, ?_, by rw [fillT_length]; exact he, h2, h3.ints⟩⟩
    · unfold fillE at h0
      cases hs : sizedB m
      · rw [if_pos hs] at h0; cases h0
      · rw [← hM]; exact hs
    all_goals
      unfold fillE at h0
      cases hs : sizedB m
      · rw [if_pos hs] at h0; cases h0
      · rw [if_neg (by rw [hs]; decide)] at h0
        cases ha : anyNo xs
        · rw [if_neg (by rw [ha]; decide)] at h0
          by_cases h4 : (psorted xs).length = 0
          · rw [if_pos h4] at h0; cases h0
          · rw [if_neg h4] at h0
            by_cases h5 : min 24 m < (psorted xs).length
            · rw [if_pos h5] at h0; cases h0
            · omega
        · rw [if_pos ha] at h0; cases h0
theorem tab_zero (n₀ : Nat) (w : World) : TabIn n₀ w none none [] [] := ⟨fun j hj => by simp at hj, fun j hj => by simp at hj⟩
theorem whole_zero : wholeT 0 [] = false := by
  unfold wholeT
  cases hs : sizedB 0
  · rfl
  · have := (sized_range hs).1
    omega
theorem own_zero (p : Int) : ownW 0 [] [] p = none := by unfold ownW; rw [if_neg (by rw [whole_zero]; decide)]

end Go.Proofs.YtgpbmbefdgbblaaDoor
