/-
  Bits cut one by one (plain facts).
-/
import Derived.Test.YtambnnahgbegfaaGreatDoorCalive
namespace Go.Proofs.YtambnnahgbegfaaGreatDoor
open Go.RowKit

theorem msk_step : ∀ x : Fin 256, ∀ r : Fin 8, x.val &&& mskN (r.val + 1) = (x.val &&& mskN r.val) + x.val / 2 ^ (7 - r.val) % 2 * 2 ^ (7 - r.val) ∧ (x.val &&& mskN r.val) + x.val / 2 ^ (7 - r.val) % 2 * 2 ^ (7 - r.val) < 256 := by decide +kernel

theorem cutN_zero (A : List Nat) (j : Nat) : cutN A 0 j = 0 := by
  unfold cutN
  rw [show clampN (0 - 8 * (j : Int)) = 0 by unfold clampN; rw [if_pos (by omega)]]
  simp [mskN]

theorem cutTo_nought (A : List Nat) : cutTo A 0 16 = [0, 0, 0, 0, 0, 0, 0, 0, 0, 0, 0, 0, 0, 0, 0, 0] := by
  unfold cutTo
  rw [List.map_congr_left (g := fun _ => 0) (fun j hj => by rw [if_pos (List.mem_range.1 hj), cutN_zero])]
  decide

theorem getD_byte (A : List Nat) (hA : ∀ x ∈ A, x < 256) (j : Nat) : A.getD j 0 < 256 := by
  by_cases h : j < A.length
  · rw [List.getD, List.getElem?_eq_getElem h]
    exact hA _ (List.getElem_mem h)
  · rw [List.getD, List.getElem?_eq_none (by omega)]
    decide

theorem cut_next (A : List Nat) (hA : ∀ x ∈ A, x < 256) (k : Nat) :
    (cutTo A k 16).set (k / 8) (cutN A k (k / 8) + bitn A k * 2 ^ (7 - k % 8)) = cutTo A ((k + 1 : Nat) : Int) 16 ∧ cutN A k (k / 8) + bitn A k * 2 ^ (7 - k % 8) < 256 := by
  have hx := getD_byte A hA (k / 8)
  have hs := msk_step ⟨A.getD (k / 8) 0, hx⟩ ⟨k % 8, by omega⟩
  simp only at hs
  have hc : clampN ((k : Int) - 8 * (k / 8 : Nat)) = k % 8 := by
    unfold clampN
    split
    · omega
    · split <;> omega
  have hc' : clampN (((k + 1 : Nat) : Int) - 8 * (k / 8 : Nat)) = k % 8 + 1 := by
    unfold clampN
    split
    · omega
    · split <;> omega
  have e0 : cutN A k (k / 8) = A.getD (k / 8) 0 &&& mskN (k % 8) := by unfold cutN; rw [hc]
  have e1 : cutN A ((k + 1 : Nat) : Int) (k / 8) = A.getD (k / 8) 0 &&& mskN (k % 8 + 1) := by unfold cutN; rw [hc']
  have eb : bitn A k = A.getD (k / 8) 0 / 2 ^ (7 - k % 8) % 2 := rfl
  rw [e0, eb]
  refine ⟨?_, hs.2⟩
  rw [← hs.1, ← e1]
  apply List.ext_getElem
  · simp [cutTo]
  · intro i h1 h2
    simp only [cutTo, List.length_set, List.length_map, List.length_range] at h1
    rw [List.getElem_set]
    simp only [cutTo, List.getElem_map, List.getElem_range, if_pos h1]
    by_cases e : k / 8 = i
    · rw [if_pos e, e]
    · rw [if_neg e]
      unfold cutN
      congr 2
      simp only [clampN]
      repeat' split
      all_goals omega
end Go.Proofs.YtambnnahgbegfaaGreatDoor
