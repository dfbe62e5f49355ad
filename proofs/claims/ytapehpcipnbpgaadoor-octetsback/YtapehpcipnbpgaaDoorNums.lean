/-
  Plain facts on numbers as bytes, the high one first. No program.
-/
import Derived.WalkKit
namespace Go.Proofs.YtapehpcipnbpgaaDoor

/-- The last k bytes of n, the high one first. -/
def be (n : Nat) : Nat → List Int
  | 0 => []
  | k + 1 => ((n / 256 ^ k % 256 : Nat) : Int) :: be n k

theorem be_length (n : Nat) : ∀ k, (be n k).length = k
  | 0 => rfl
  | k + 1 => by simp [be, be_length n k]

theorem be_bounds (n : Nat) : ∀ k, ∀ x ∈ be n k, 0 ≤ x ∧ x ≤ 255
  | 0, x, h => by cases h
  | k + 1, x, h => by
    simp only [be, List.mem_cons] at h
    rcases h with rfl | h
    · omega
    · exact be_bounds n k x h

/-- What a row of s bytes holds when k bytes of n stand at its end. -/
def row (n s k : Nat) : List Int := List.replicate (s - k) 0 ++ be n k

theorem row_zero (n s : Nat) : row n s 0 = List.replicate s 0 := by simp [row, be]
theorem row_full (n s : Nat) : row n s s = be n s := by simp [row]
theorem row_length (n s k : Nat) (h : k ≤ s) : (row n s k).length = s := by simp [row, be_length]; omega

theorem row_set (n s k : Nat) (h : k < s) : (row n s k).set (s - 1 - k) ((n / 256 ^ k % 256 : Nat) : Int) = row n s (k + 1) := by
  unfold row
  obtain ⟨m, hm⟩ : ∃ m, s - k = m + 1 := ⟨s - k - 1, by omega⟩
  rw [hm, show s - 1 - k = m by omega, show s - (k + 1) = m by omega, List.replicate_succ', List.append_assoc, List.set_append_right _ _ (by simp)]
  simp [be]

theorem rows_set (n s k : Nat) (h : k < s) : ((row n s k).map (Value.int .u8)).set (s - 1 - k) (.int .u8 ((n / 256 ^ k % 256 : Nat) : Int)) = (row n s (k + 1)).map (Value.int .u8) := by
  rw [← row_set n s k h, List.map_set]

theorem pow256 (k : Nat) : (2 : Nat) ^ (8 * k) = 256 ^ k := by rw [Nat.pow_mul]

/-- A shift to the right by 8 k bits is a division by 256 ^ k. -/
theorem shr8 (n k : Nat) : ((n : Int) / 2 ^ (8 * k)) = ((n / 256 ^ k : Nat) : Int) := by
  have : ((2 : Int) ^ (8 * k)) = ((256 ^ k : Nat) : Int) := by rw [← pow256]; simp
  rw [this]
  simp

theorem shr8m (n k : Nat) : ((n : Int) / 2 ^ (8 * k) % 256) = ((n / 256 ^ k % 256 : Nat) : Int) := by rw [shr8]; simp
theorem shr8_ne (n k : Nat) (h : n / 256 ^ k ≠ 0) : ((n : Int) / 2 ^ (8 * k) != 0) = true := by rw [shr8, bne_iff_ne]; omega
theorem shr8_eq (n k : Nat) (h : n / 256 ^ k = 0) : ((n : Int) / 2 ^ (8 * k) != 0) = false := by rw [shr8, h]; rfl

end Go.Proofs.YtapehpcipnbpgaaDoor
