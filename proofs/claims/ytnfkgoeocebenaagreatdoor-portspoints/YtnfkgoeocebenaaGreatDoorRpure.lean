/-
  Where the document's Format finds the longest row of noughts.
-/
import Derived.Test.YtnfkgoeocebenaaGreatDoorRfour
namespace Go.Proofs.YtnfkgoeocebenaaGreatDoor
open Go.RowKit

/-- How many noughts stand from k on. -/
def runz (z : List Bool) (k : Nat) : Nat := ((z.drop k).takeWhile id).length
/-- Behind k places: where the first of the longest rows begins, and how long it is. -/
def bl (z : List Bool) : Nat → Nat × Nat
  | 0 => (0, 1)
  | k + 1 => if (bl z k).2 < runz z k then (k, runz z k) else bl z k

theorem bl_all : ∀ b0 b1 b2 b3 b4 b5 b6 b7 : Bool,
    ((nzB [b0, b1, b2, b3, b4, b5, b6, b7] 8).2.1 = (nzB [b0, b1, b2, b3, b4, b5, b6, b7] 8).2.2 ∧ (bl [b0, b1, b2, b3, b4, b5, b6, b7] 8).2 = 1) ∨
    (2 ≤ (bl [b0, b1, b2, b3, b4, b5, b6, b7] 8).2 ∧ (bl [b0, b1, b2, b3, b4, b5, b6, b7] 8).1 = (nzB [b0, b1, b2, b3, b4, b5, b6, b7] 8).2.1 ∧ (bl [b0, b1, b2, b3, b4, b5, b6, b7] 8).1 + (bl [b0, b1, b2, b3, b4, b5, b6, b7] 8).2 = (nzB [b0, b1, b2, b3, b4, b5, b6, b7] 8).2.2) := by decide +kernel
theorem bl_le : ∀ b0 b1 b2 b3 b4 b5 b6 b7 : Bool, ∀ k : Fin 9, (bl [b0, b1, b2, b3, b4, b5, b6, b7] k.val).1 ≤ 8 ∧ (bl [b0, b1, b2, b3, b4, b5, b6, b7] k.val).2 ≤ 8 ∧ 1 ≤ (bl [b0, b1, b2, b3, b4, b5, b6, b7] k.val).2 := by decide +kernel

theorem bl_of (g : List Nat) (h8 : g.length = 8) : ((nzB (zeros g) 8).2.1 = (nzB (zeros g) 8).2.2 ∧ (bl (zeros g) 8).2 = 1) ∨
    (2 ≤ (bl (zeros g) 8).2 ∧ (bl (zeros g) 8).1 = (nzB (zeros g) 8).2.1 ∧ (bl (zeros g) 8).1 + (bl (zeros g) 8).2 = (nzB (zeros g) 8).2.2) := by
  match g, h8 with
  | [a0, a1, a2, a3, a4, a5, a6, a7], _ => exact bl_all (a0 == 0) (a1 == 0) (a2 == 0) (a3 == 0) (a4 == 0) (a5 == 0) (a6 == 0) (a7 == 0)
theorem bl_bd (g : List Nat) (h8 : g.length = 8) (k : Nat) (hk : k ≤ 8) : (bl (zeros g) k).1 ≤ 8 ∧ (bl (zeros g) k).2 ≤ 8 ∧ 1 ≤ (bl (zeros g) k).2 := by
  match g, h8 with
  | [a0, a1, a2, a3, a4, a5, a6, a7], _ => exact bl_le (a0 == 0) (a1 == 0) (a2 == 0) (a3 == 0) (a4 == 0) (a5 == 0) (a6 == 0) (a7 == 0) ⟨k, by omega⟩

theorem takeWhile_run : ∀ (l : List Bool) (n : Nat), n ≤ l.length → (∀ j, j < n → l.getD j false = true) → (n < l.length → l.getD n false = false) → (l.takeWhile id).length = n
  | [], n, h, _, _ => by simp at h; simp [h]
  | true :: l, 0, _, _, h2 => by simp at h2
  | false :: l, 0, _, _, _ => by simp
  | b :: l, n + 1, h, h1, h2 => by
    have hb : b = true := by simpa using h1 0 (by omega)
    subst hb
    have := takeWhile_run l n (by simpa using h) (fun j hj => by simpa using h1 (j + 1) (by omega)) (fun hn => by simpa using h2 (by simpa using hn))
    simp [this]
theorem runz_of (g : List Nat) (h8 : g.length = 8) (k n : Nat) (hkn : k + n ≤ 8) (h1 : ∀ j, j < n → g.getD (k + j) 0 = 0) (h2 : k + n = 8 ∨ g.getD (k + n) 0 ≠ 0) : runz (zeros g) k = n := by
  have hz : (zeros g).length = 8 := by simp [zeros, h8]
  have hd : ∀ j, k + j < 8 → ((zeros g).drop k).getD j false = (g.getD (k + j) 0 == 0) := fun j hj => by
    rw [← zeros_at g (k + j) (by omega)]
    simp [List.getD, List.getElem?_drop]
  refine takeWhile_run _ _ (by rw [List.length_drop, hz]; omega) (fun j hj => ?_) (fun hn => ?_)
  · rw [hd j (by omega), h1 j hj]; rfl
  · rw [List.length_drop, hz] at hn
    rw [hd n (by omega)]
    rcases h2 with h2 | h2
    · omega
    · exact beq_eq_false_iff_ne.2 h2

/-- The text behind i places, where the row of noughts is f to t. -/
def t6 (g : List Nat) (f t i : Nat) : List UInt8 := if i ≤ f then gtext (g.take i) else gtext (g.take f) ++ ([58, 58] ++ gtext ((g.take i).drop t))
theorem gtext_one (n : Nat) : gtext [n] = hexs n := by simp [gtext, Lib.join_one]
theorem gtext_snoc (l : List Nat) (n : Nat) (h : l ≠ []) : gtext (l ++ [n]) = (gtext l ++ [58]) ++ hexs n := by
  unfold gtext
  rw [List.map_append, List.map_singleton, join_snoc _ _ _ (by simpa using h), List.append_assoc]
theorem t6_le (g : List Nat) (h8 : g.length = 8) (f t i : Nat) : (t6 g f t i).length ≤ 100 := by
  unfold t6
  split
  · have := gtext_le (g.take i) 8 (by rw [List.length_take]; omega)
    omega
  · have h1 := gtext_le (g.take f) 8 (by rw [List.length_take]; omega)
    have h2 := gtext_le ((g.take i).drop t) 8 (by rw [List.length_drop, List.length_take]; omega)
    simp only [List.length_append, List.length_cons, List.length_nil]
    omega
theorem take_succ (g : List Nat) (i : Nat) (h : i < g.length) : g.take (i + 1) = g.take i ++ [g.getD i 0] := by
  rw [List.take_succ_eq_append_getElem h]
  simp [List.getD, List.getElem?_eq_getElem h]
/-- The first group. -/
theorem t6_first (g : List Nat) (h8 : g.length = 8) (f t : Nat) (hf : 0 < f) : t6 g f t 1 = t6 g f t 0 ++ hexs (g.getD 0 0) := by
  unfold t6
  rw [if_pos (by omega), if_pos (by omega), take_succ g 0 (by omega), List.take_zero, List.nil_append, gtext_one]
  rfl
/-- A group ahead of the row. -/
theorem t6_ahead (g : List Nat) (h8 : g.length = 8) (f t i : Nat) (hi : i < f) (h0 : 0 < i) (hi8 : i < 8) : t6 g f t (i + 1) = (t6 g f t i ++ [58]) ++ hexs (g.getD i 0) := by
  unfold t6
  rw [if_pos (by omega), if_pos (by omega), take_succ g i (by omega), gtext_snoc _ _ (by intro e; have := congrArg List.length e; rw [List.length_take, List.length_nil] at this; omega)]
/-- The row. -/
theorem t6_row (g : List Nat) (h8 : g.length = 8) (f t : Nat) (hf : f < t) (ht : t ≤ 8) : t6 g f t t = t6 g f t f ++ [58, 58] := by
  unfold t6
  rw [if_neg (by omega), if_pos (by omega), List.drop_eq_nil_of_le (by rw [List.length_take]; omega)]
  simp [gtext, Lib.join_nil]
/-- The first group behind the row. -/
theorem t6_behind (g : List Nat) (h8 : g.length = 8) (f t : Nat) (hf : f < t) (ht : t < 8) : t6 g f t (t + 1) = t6 g f t t ++ hexs (g.getD t 0) := by
  unfold t6
  rw [if_neg (by omega), if_neg (by omega), take_succ g t (by omega), List.drop_append_of_le_length (by rw [List.length_take]; omega), List.drop_eq_nil_of_le (by rw [List.length_take]; omega), List.nil_append, gtext_one]
  simp [gtext, Lib.join_nil]
/-- A later group. -/
theorem t6_later (g : List Nat) (h8 : g.length = 8) (f t i : Nat) (hf : f < t) (hi : t < i) (hi8 : i < 8) : t6 g f t (i + 1) = (t6 g f t i ++ [58]) ++ hexs (g.getD i 0) := by
  unfold t6
  rw [if_neg (by omega), if_neg (by omega), take_succ g i (by omega), List.drop_append_of_le_length (by rw [List.length_take]; omega), gtext_snoc _ _ (by intro e; have := congrArg List.length e; rw [List.length_drop, List.length_take, List.length_nil] at this; omega)]
  simp [List.append_assoc]
theorem t6_end (g : List Nat) (h8 : g.length = 8) : t6 g (if (nzB (zeros g) 8).2.1 = (nzB (zeros g) 8).2.2 then 8 else (nzB (zeros g) 8).2.1) (nzB (zeros g) 8).2.2 8 = text6 g := by
  unfold t6 text6
  have e : g.take 8 = g := List.take_of_length_le (by omega)
  by_cases h : (nzB (zeros g) 8).2.1 = (nzB (zeros g) 8).2.2
  · rw [if_pos h, if_pos h, if_pos (by omega), e]
  · obtain ⟨h1, h2, _⟩ := nz_of g h8
    rw [if_neg h, if_neg h, if_neg (by omega), e]
end Go.Proofs.YtnfkgoeocebenaaGreatDoor
