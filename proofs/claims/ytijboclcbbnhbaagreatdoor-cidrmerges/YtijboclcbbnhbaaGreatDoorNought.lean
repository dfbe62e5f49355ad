/-
  The walk of addr.noughts, and where the longest row of noughts lies.
-/
import Derived.Test.YtijboclcbbnhbaaGreatDoorGrof
namespace Go.Proofs.YtijboclcbbnhbaaGreatDoor
open Go.RowKit

/-- Behind k groups: how many noughts stand at the end, and where the longest row of two or more lies. -/
def nzB (z : List Bool) : Nat → Nat × Nat × Nat
  | 0 => (0, 0, 0)
  | k + 1 => if z.getD k false = false then (0, (nzB z k).2.1, (nzB z k).2.2)
    else if 2 ≤ (nzB z k).1 + 1 ∧ (nzB z k).2.2 - (nzB z k).2.1 < (nzB z k).1 + 1 then ((nzB z k).1 + 1, k - (nzB z k).1, k + 1)
    else ((nzB z k).1 + 1, (nzB z k).2.1, (nzB z k).2.2)

def zeros (g : List Nat) : List Bool := g.map (· == 0)
theorem zeros_at (g : List Nat) (k : Nat) (h : k < g.length) : (zeros g).getD k false = (g.getD k 0 == 0) := by
  simp [zeros, List.getD, List.getElem?_eq_getElem h]

theorem nzB_bounds (z : List Bool) : ∀ k, (nzB z k).1 ≤ k ∧ (nzB z k).2.1 ≤ (nzB z k).2.2 ∧ (nzB z k).2.2 ≤ k
  | 0 => ⟨Nat.le_refl _, Nat.le_refl _, Nat.le_refl _⟩
  | k + 1 => by
    have ih := nzB_bounds z k
    unfold nzB
    split
    · exact ⟨by simp, ih.2.1, by simp only; omega⟩
    · split
      · exact ⟨by simp only; omega, by simp only; omega, by simp⟩
      · exact ⟨by simp only; omega, ih.2.1, by simp only; omega⟩

set_option maxRecDepth 100000 in
set_option maxHeartbeats 4000000 in
theorem noughts_any (g : List Nat) (h8 : g.length = 8) (hg : ∀ n ∈ g, n < 65536) (w : World) :
    Calls Tryz.prog 68 #[.agg (arr .u16 (ints g))] w fun e w' => e = .returned (.tuple #[.int .i64 ((nzB (zeros g) 8).2.1 : Nat), .int .i64 ((nzB (zeros g) 8).2.2 : Nat)]) ∧ Below w.heap.size w w' := by
  obtain ⟨W0, hW0⟩ : ∃ W, W = w.alloc (.cells (arr .u16 (ints g)) 74) := ⟨_, rfl⟩
  have hB0 : Blk W0 w.heap.size 74 (arr .u16 (ints g)) := hW0 ▸ Blk.new w _ _
  have hb0 : Below w.heap.size w W0 := hW0 ▸ (Below.refl _ _).alloc (Nat.le_refl _) _
  have HW0 := Lib.hid hW0.symm
  have HB0 := Lib.hid hB0
  have H8 := Lib.hid h8
  have HG := Lib.hid hg
  have HL8 : Hid (8 = (arr .u16 (ints g)).size) := Lib.hid (by rw [arr_size, ints_length, h8])
  clear hW0 hB0 h8 hg
  go_enter Tryz.func68, Tryz.ntmps68
  go_wp2_with ((try rw [HW0.out]); refine wpl_load 74 _ rfl _ rfl _ _ _ HB0.out Tryz.underlying74 rfl 8 Tryz.infoGrp HL8.out rfl ?_)
  go_loop [2, 3, 4, 8] (fun f t l i => ∃ k : Nat, k ≤ 8 ∧ i = .int .i64 k ∧ ∃ a b c : Nat, a ≤ k ∧ b ≤ c ∧ c ≤ k ∧ l = .int .i64 a ∧ f = .int .i64 b ∧ t = .int .i64 c ∧ Hid (nzB (zeros g) k = (a, b, c))) (fun _ _ _ i => 8 - (intOf i).toNat)
  case atStart => exact ⟨0, Nat.zero_le _, rfl, 0, 0, 0, by omega, by omega, by omega, rfl, rfl, rfl, rfl⟩
  case round =>
    obtain ⟨k, hk, rfl, a, b, c, ha, hbc, hck, rfl, rfl, rfl, hh⟩ := hrel
    by_cases hlt : k < 8
    · have hkg : k < g.length := by rw [H8.out]; exact hlt
      obtain ⟨n, hn⟩ : ∃ n, n = g.getD k 0 := ⟨_, rfl⟩
      have hix := run_index_grp (arr .u16 (ints g)) k (.int .u16 (n : Int)) hlt (by
        rw [arr_at _ _ _ (by rw [ints_length]; exact hkg), nth_ints, hn])
      have hz := zeros_at g k hkg
      rw [← hn] at hz
      have hs : nzB (zeros g) (k + 1) = if (zeros g).getD k false = false then (0, b, c) else if 2 ≤ a + 1 ∧ c - b < a + 1 then (a + 1, k - a, k + 1) else (a + 1, b, c) := by
        rw [nzB, hh.out]
      have HN := Lib.hid hn
      have HS := Lib.hid hs
      have HZ := Lib.hid hz
      clear hn hs hz hkg hh
      by_cases h0 : n = 0
      · subst h0
        by_cases h2 : 2 ≤ a + 1 ∧ c - b < a + 1
        · have q1 : (2 : Int) ≤ (a : Int) + 1 := by omega
          have q2 : ((c : Int) - (b : Int)) < (a : Int) + 1 := by omega
          have HS1 : Hid (nzB (zeros g) (k + 1) = (a + 1, k - a, k + 1)) := Lib.hid (by rw [HS.out, HZ.out, if_neg (by simp), if_pos h2])
          clear HS HZ h2
          go_wp2
          go_round
          case rel => exact ⟨k + 1, by omega, by go_num, a + 1, k - a, k + 1, by omega, by omega, by omega, by go_num, by congr 1; omega, by go_num, HS1.out⟩
          case measure => simp [intOf]; omega
        · have HS1 : Hid (nzB (zeros g) (k + 1) = (a + 1, b, c)) := Lib.hid (by rw [HS.out, HZ.out, if_neg (by simp), if_neg h2])
          clear HS HZ
          by_cases h1 : 2 ≤ a + 1
          · have q1 : (2 : Int) ≤ (a : Int) + 1 := by omega
            have q2 : (a : Int) + 1 ≤ (c : Int) - (b : Int) := by omega
            clear h2
            go_wp2
            go_round
            case rel => exact ⟨k + 1, by omega, by go_num, a + 1, b, c, by omega, by omega, by omega, by go_num, rfl, rfl, HS1.out⟩
            case measure => simp [intOf]; omega
          · have q1 : (a : Int) + 1 < 2 := by omega
            clear h2
            go_wp2
            go_round
            case rel => exact ⟨k + 1, by omega, by go_num, a + 1, b, c, by omega, by omega, by omega, by go_num, rfl, rfl, HS1.out⟩
            case measure => simp [intOf]; omega
      · have q : ((n : Int) != 0) = true := by rw [bne_iff_ne]; omega
        have HS1 : Hid (nzB (zeros g) (k + 1) = (0, b, c)) := Lib.hid (by rw [HS.out, HZ.out, if_pos (by simpa using h0)])
        clear HS HZ h0
        go_wp2
        go_round
        case rel => exact ⟨k + 1, by omega, by go_num, 0, b, c, by omega, by omega, by omega, rfl, rfl, rfl, HS1.out⟩
        case measure => simp [intOf]; omega
    · obtain rfl : k = 8 := by omega
      go_wp2
      go_ret2
      rw [hh.out]
      exact ⟨rfl, hb0⟩

/-- All that is asked of where the row lies, of eight groups, whichever are noughts. -/
theorem nz_all : ∀ b0 b1 b2 b3 b4 b5 b6 b7 : Bool, (nzB [b0, b1, b2, b3, b4, b5, b6, b7] 8).2.1 ≤ (nzB [b0, b1, b2, b3, b4, b5, b6, b7] 8).2.2 ∧ (nzB [b0, b1, b2, b3, b4, b5, b6, b7] 8).2.2 ≤ 8 ∧
    ((nzB [b0, b1, b2, b3, b4, b5, b6, b7] 8).2.1 = (nzB [b0, b1, b2, b3, b4, b5, b6, b7] 8).2.2 ∨ (nzB [b0, b1, b2, b3, b4, b5, b6, b7] 8).2.1 + 2 ≤ (nzB [b0, b1, b2, b3, b4, b5, b6, b7] 8).2.2) ∧
    ∀ i : Fin 8, (nzB [b0, b1, b2, b3, b4, b5, b6, b7] 8).2.1 ≤ i.val → i.val < (nzB [b0, b1, b2, b3, b4, b5, b6, b7] 8).2.2 → [b0, b1, b2, b3, b4, b5, b6, b7].getD i.val false = true := by decide +kernel

theorem nz_of (g : List Nat) (h8 : g.length = 8) : (nzB (zeros g) 8).2.1 ≤ (nzB (zeros g) 8).2.2 ∧ (nzB (zeros g) 8).2.2 ≤ 8 ∧
    ((nzB (zeros g) 8).2.1 = (nzB (zeros g) 8).2.2 ∨ (nzB (zeros g) 8).2.1 + 2 ≤ (nzB (zeros g) 8).2.2) ∧
    ∀ i, (nzB (zeros g) 8).2.1 ≤ i → i < (nzB (zeros g) 8).2.2 → g.getD i 0 = 0 := by
  match g, h8 with
  | [a0, a1, a2, a3, a4, a5, a6, a7], _ =>
    obtain ⟨h1, h2, h3, h4⟩ := nz_all (a0 == 0) (a1 == 0) (a2 == 0) (a3 == 0) (a4 == 0) (a5 == 0) (a6 == 0) (a7 == 0)
    refine ⟨h1, h2, h3, fun i hi hj => ?_⟩
    have hi8 : i < 8 := Nat.lt_of_lt_of_le hj h2
    have := h4 ⟨i, hi8⟩ hi hj
    have hz := zeros_at [a0, a1, a2, a3, a4, a5, a6, a7] i hi8
    rw [show zeros [a0, a1, a2, a3, a4, a5, a6, a7] = [a0 == 0, a1 == 0, a2 == 0, a3 == 0, a4 == 0, a5 == 0, a6 == 0, a7 == 0] from rfl, this] at hz
    exact beq_iff_eq.1 hz.symm
end Go.Proofs.YtijboclcbbnhbaaGreatDoor
