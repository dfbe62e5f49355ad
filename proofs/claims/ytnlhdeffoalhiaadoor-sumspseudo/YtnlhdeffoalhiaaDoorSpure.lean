/-
  Sums, plain facts: sixteen bits of a number, a folded sum, the numbers of bytes and their sum.
-/
import Derived.Test.YtnlhdeffoalhiaaDoorProg
import Derived.IntWalk
import Derived.WalkKit
namespace Go.Proofs.YtnlhdeffoalhiaaDoor
open Go.RowKit

theorem and16 (x : Int) : bits .and .i64 x 65535 = x % 65536 := by
  unfold bits
  have h : (BitVec.ofInt IntKind.i64.bits x &&& BitVec.ofInt IntKind.i64.bits 65535).toNat = (x % 65536).toNat := by
    rw [BitVec.toNat_and, BitVec.toNat_ofInt, BitVec.toNat_ofInt]
    show ((x % ((2 ^ 64 : Nat) : Int)).toNat &&& ((65535 : Int) % ((2 ^ 64 : Nat) : Int)).toNat) = _
    rw [show ((65535 : Int) % ((2 ^ 64 : Nat) : Int)).toNat = 2 ^ 16 - 1 by decide, Nat.and_two_pow_sub_one_eq_mod]
    omega
  show IntKind.i64.wrap ((BitVec.ofInt IntKind.i64.bits x &&& BitVec.ofInt IntKind.i64.bits 65535).toNat : Int) = _
  rw [h, Go.IntWalk.i64_in _ (by omega)]
  omega

theorem or8 (x y : Int) (hx : 0 ≤ x ∧ x ≤ 255) (hy : 0 ≤ y ∧ y ≤ 255) : bits .or .i64 (x * 256) y = x * 256 + y := by
  obtain ⟨a, rfl⟩ : ∃ a : Nat, x = a := ⟨x.toNat, by omega⟩
  obtain ⟨b, rfl⟩ : ∃ b : Nat, y = b := ⟨y.toNat, by omega⟩
  unfold bits
  have h : (BitVec.ofInt IntKind.i64.bits ((a : Int) * 256) ||| BitVec.ofInt IntKind.i64.bits (b : Int)).toNat = a * 256 + b := by
    rw [BitVec.toNat_or, BitVec.toNat_ofInt, BitVec.toNat_ofInt]
    have e1 : (((a : Int) * 256) % ((2 ^ IntKind.i64.bits : Nat) : Int)).toNat = a <<< 8 := by
      show (((a : Int) * 256) % ((2 ^ 64 : Nat) : Int)).toNat = _
      rw [Nat.shiftLeft_eq]
      omega
    have e2 : ((b : Int) % ((2 ^ IntKind.i64.bits : Nat) : Int)).toNat = b := by
      show ((b : Int) % ((2 ^ 64 : Nat) : Int)).toNat = _
      omega
    rw [e1, e2, ← Nat.shiftLeft_add_eq_or_of_lt (show b < 2 ^ 8 by omega), Nat.shiftLeft_eq]
  show IntKind.i64.wrap ((BitVec.ofInt IntKind.i64.bits ((a : Int) * 256) ||| BitVec.ofInt IntKind.i64.bits (b : Int)).toNat : Int) = _
  rw [h, Go.IntWalk.i64_in _ (by omega)]
  omega

/-- A folded sum, as the document tells it. -/
def fold (n : Int) : Int := if n ≤ 0 then 0 else (n - 1) % 65535 + 1
theorem fold_small {n : Int} (h0 : 0 ≤ n) (h1 : n ≤ 65535) : fold n = n := by unfold fold; split <;> omega
theorem fold_max (n : Int) : fold (max n 0) = fold n := by
  by_cases h : n ≤ 0
  · rw [show max n 0 = 0 by omega]; unfold fold; rw [if_pos (by omega), if_pos h]
  · rw [show max n 0 = n by omega]
theorem fold_step {n : Int} (h : 65535 < n) : fold (n / 65536 + n % 65536) = fold n := by
  unfold fold
  rw [if_neg (by omega), if_neg (by omega)]
  omega
theorem fold_range (n : Int) : 0 ≤ fold n ∧ fold n ≤ 65535 := by unfold fold; split <;> omega

/-- A checksum behind a change. -/
def change (c x y : Int) : Int := 65535 - fold (65535 - c % 65536 + 65535 - x % 65536 + y % 65536)
theorem change_range (c x y : Int) : 0 ≤ change c x y ∧ change c x y ≤ 65535 := by
  have := fold_range (65535 - c % 65536 + 65535 - x % 65536 + y % 65536)
  unfold change
  omega

/-- Do two checksums tell the same? -/
def same (a b : Int) : Bool := decide (a % 65536 = b % 65536) || (decide (a % 65536 = 0) && decide (b % 65536 = 65535)) || (decide (a % 65536 = 65535) && decide (b % 65536 = 0))

/-- The number of bytes at a place. -/
def wordAt (bs : List Int) (p : Nat) : Int := bs.getD p 0 * 256 + bs.getD (p + 1) 0
/-- So many numbers of bytes, added up. -/
def wsum (bs : List Int) : Nat → Int
  | 0 => 0
  | k + 1 => wsum bs k + wordAt bs (2 * k)
/-- How many numbers there are in so many bytes. -/
def nw (n : Nat) : Nat := (n + 1) / 2
/-- The first so many bytes, added up as the document tells. -/
def tsum (bs : List Int) : Nat → Int
  | 0 => 0
  | k + 1 => tsum bs k + (if k % 2 = 0 then bs.getD k 0 * 256 else bs.getD k 0)
theorem tsum_even (bs : List Int) : ∀ k, tsum bs (2 * k) = wsum bs k
  | 0 => rfl
  | k + 1 => by
    show tsum bs (2 * k + 1 + 1) = wsum bs k + wordAt bs (2 * k)
    rw [tsum, tsum, tsum_even bs k, if_pos (by omega), if_neg (by omega), wordAt]
    omega
theorem tsum_all (bs : List Int) : tsum bs bs.length = wsum bs (nw bs.length) := by
  unfold nw
  by_cases h : bs.length % 2 = 0
  · rw [← tsum_even]
    congr 1
    omega
  · rw [← tsum_even, show 2 * ((bs.length + 1) / 2) = bs.length + 1 by omega, tsum]
    rw [show bs.getD bs.length 0 = 0 by simp [List.getD]]
    split <;> omega
/-- All numbers of bytes. -/
def total (bs : List Int) : Int := wsum bs (nw bs.length)
def check (bs : List Int) : Int := 65535 - fold (total bs)
theorem check_range (bs : List Int) : 0 ≤ check bs ∧ check bs ≤ 65535 := by
  have := fold_range (total bs)
  unfold check
  omega

def Byt (bs : List Int) : Prop := ∀ j, 0 ≤ bs.getD j 0 ∧ bs.getD j 0 ≤ 255
theorem Byt.of {bs : List Int} (h : ∀ x ∈ bs, 0 ≤ x ∧ x ≤ 255) : Byt bs := fun j => by
  by_cases hj : j < bs.length
  · rw [List.getD, List.getElem?_eq_getElem hj]
    exact h _ (List.getElem_mem hj)
  · rw [List.getD, List.getElem?_eq_none (by omega)]
    simp
theorem word_range {bs : List Int} (h : Byt bs) (p : Nat) : 0 ≤ wordAt bs p ∧ wordAt bs p ≤ 65535 := by
  have h1 := h p
  have h2 := h (p + 1)
  unfold wordAt
  omega
theorem wsum_range {bs : List Int} (h : Byt bs) : ∀ k : Nat, 0 ≤ wsum bs k ∧ wsum bs k ≤ 65535 * (k : Int)
  | 0 => by simp [wsum]
  | k + 1 => by
    have h1 := wsum_range h k
    have h2 := word_range h (2 * k)
    rw [wsum]
    push_cast
    omega

/-- What has come behind k rounds: place and number. -/
def wlist (bs : List Int) (k : Nat) : List (Int × Int) := (List.range k).map fun j => (((2 * j : Nat) : Int), wordAt bs (2 * j))
theorem wlist_succ (bs : List Int) (k : Nat) : wlist bs (k + 1) = wlist bs k ++ [(((2 * k : Nat) : Int), wordAt bs (2 * k))] := by simp [wlist, List.range_succ]
theorem wlist_length (bs : List Int) (k : Nat) : (wlist bs k).length = k := by simp [wlist]
end Go.Proofs.YtnlhdeffoalhiaaDoor
