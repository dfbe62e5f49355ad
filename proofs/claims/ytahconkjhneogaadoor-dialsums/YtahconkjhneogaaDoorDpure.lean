/-
  Whole numbers as floats: their bits, what these stand for, sums.
-/
import Derived.Test.YtahconkjhneogaaDoorProg
import Derived.Laws.FloatArith
namespace Go.Proofs.YtahconkjhneogaaDoor
open Ieee

/-- The bits of a whole number. -/
def fi (n : Int) : Nat := FloatKind.f64.nearest n

theorem fi_def (n : Int) : fi n = double.nearest (decide (n < 0)) n.natAbs 0 := rfl

theorem log2_mul_pow (m k : Nat) (h : m ≠ 0) : (m * 2 ^ k).log2 = m.log2 + k := by
  have h1 : m * 2 ^ k ≠ 0 := Nat.mul_ne_zero h (Nat.ne_of_gt (Nat.two_pow_pos _))
  have a := Nat.log2_self_le h
  have b : m < 2 ^ (m.log2 + 1) := Nat.lt_log2_self
  have e : (m * 2 ^ k).log2 = m.log2 + k := by
    apply Nat.le_antisymm
    · apply Nat.lt_succ_iff.1
      rw [Nat.log2_lt h1]
      rw [show (m.log2 + k).succ = (m.log2 + 1) + k by omega, Nat.pow_add]
      exact Nat.mul_lt_mul_of_pos_right b (Nat.two_pow_pos _)
    · rw [Nat.le_log2 h1, Nat.pow_add]
      exact Nat.mul_le_mul_right _ a
  exact e

theorem cut_zero (neg : Bool) (n : Nat) : Toward.even.cut neg n 0 = n := by
  simp [Toward.cut, Nat.shiftLeft_eq, Nat.mod_one]

theorem dbl_bin : double.binade = 2 ^ 52 := rfl
theorem dbl_inf : double.infRung = 2047 * 2 ^ 52 := by decide +kernel
theorem dbl_sig : double.signWeight = 2048 * 2 ^ 52 := by decide +kernel
theorem dbl_lp : double.leastPlace = -1074 := by decide +kernel
theorem dbl_fb : ((double.fractionBits : Nat) : Int) = 52 := rfl

/-- A word told apart: B rungs to a binade. -/
theorem read_word (neg : Bool) (K M B : Nat) (hB : 2 ^ 52 = B) (hK1 : 1 ≤ K) (hK : K ≤ 2045) (h1 : B ≤ M) (h2 : M < 2 * B) : double.read (double.word neg ((K - 1) * B + M)) = .number neg M (-1074 + ((K - 1 : Nat) : Int)) := by
  have hp : 0 < B := hB ▸ Nat.two_pow_pos 52
  unfold Format.read Format.word
  rw [dbl_bin, dbl_inf, dbl_sig, dbl_lp, hB]
  have hX : (K - 1) * B ≤ 2044 * B := Nat.mul_le_mul_right _ (by omega)
  have r0 : ∀ b : Bool, (if b = true then 2048 * B + ((K - 1) * B + M) else (K - 1) * B + M) % (2048 * B) = (K - 1) * B + M := by
    intro b
    split
    · rw [Nat.add_mod_left, Nat.mod_eq_of_lt (by omega)]
    · rw [Nat.mod_eq_of_lt (by omega)]
  have r1 : ((if neg = true then 2048 * B + ((K - 1) * B + M) else (K - 1) * B + M) / (2048 * B) % 2 == 1) = neg := by
    cases neg
    · simp only [Bool.false_eq_true, if_false]
      rw [Nat.div_eq_of_lt (by omega)]; rfl
    · simp only [if_true]
      rw [Nat.add_div_left _ (by omega), Nat.div_eq_of_lt (by omega)]; rfl
  simp only [r0, r1]
  rw [if_neg (by omega), if_pos (by omega)]
  have d : ((K - 1) * B + M) / B = K := by
    have : (K - 1) * B + M = M - B + K * B := by
      have : K * B = (K - 1) * B + B := by rw [← Nat.succ_mul]; congr 1; omega
      omega
    rw [this, Nat.add_mul_div_right _ _ hp, Nat.div_eq_of_lt (by omega), Nat.zero_add]
  have e : ((K - 1) * B + M) % B = M - B := by
    have : (K - 1) * B + M = M - B + K * B := by
      have : K * B = (K - 1) * B + B := by rw [← Nat.succ_mul]; congr 1; omega
      omega
    rw [this, Nat.add_mul_mod_self_right, Nat.mod_eq_of_lt (by omega)]
  rw [d, e, show B + (M - B) = M by omega]

theorem nearest_word (neg : Bool) (m B : Nat) (hB : 2 ^ 52 = B) (h : m ≠ 0) (hl : m.log2 ≤ 52) (h2 : m * 2 ^ (52 - m.log2) < 2 * B) : double.nearest neg m 0 = double.word neg ((m.log2 + 1023 - 1) * B + m * 2 ^ (52 - m.log2)) := by
  unfold Format.nearest
  rw [if_neg h, dbl_lp, dbl_fb]
  have l2 : max ((0 : Int) + (m.log2 : Int) - 52) (-1074) = (m.log2 : Int) - 52 := by omega
  have c2 : ((m.log2 : Int) - 52 - 0).toNat = 0 := by omega
  have s2 : ((0 : Int) - ((m.log2 : Int) - 52)).toNat = 52 - m.log2 := by omega
  have t2 : ((m.log2 : Int) - 52 - -1074).toNat = m.log2 + 1023 - 1 := by omega
  have hX : (m.log2 + 1023 - 1) * B ≤ 1074 * B := Nat.mul_le_mul_right _ (by omega)
  simp only [l2, c2, s2, t2, cut_zero, Nat.shiftLeft_eq, dbl_bin, dbl_inf, hB]
  rw [Nat.min_eq_left (by omega)]

/-- What a whole number's bits stand for. -/
theorem read_nearest (neg : Bool) (m : Nat) (h : m ≠ 0) (hl : m.log2 ≤ 52) : double.read (double.nearest neg m 0) = .number neg (m * 2 ^ (52 - m.log2)) ((m.log2 : Int) - 52) := by
  obtain ⟨B, hB⟩ : ∃ B, 2 ^ 52 = B := ⟨_, rfl⟩
  have h1 : m * 2 ^ (52 - m.log2) < 2 * B := by
    have a : m * 2 ^ (52 - m.log2) < 2 ^ (m.log2 + 1) * 2 ^ (52 - m.log2) := Nat.mul_lt_mul_of_pos_right Nat.lt_log2_self (Nat.two_pow_pos _)
    rw [← Nat.pow_add, show m.log2 + 1 + (52 - m.log2) = 52 + 1 by omega, Nat.pow_succ, hB] at a
    omega
  have h2 : B ≤ m * 2 ^ (52 - m.log2) := by
    have a : 2 ^ m.log2 * 2 ^ (52 - m.log2) ≤ m * 2 ^ (52 - m.log2) := Nat.mul_le_mul_right _ (Nat.log2_self_le h)
    rwa [← Nat.pow_add, show m.log2 + (52 - m.log2) = 52 by omega, hB] at a
  rw [nearest_word neg m B hB h hl h1, read_word neg (m.log2 + 1023) _ B hB (by omega) (by omega) h2 h1]
  rw [show (-1074 : Int) + ((m.log2 + 1023 - 1 : Nat) : Int) = (m.log2 : Int) - 52 by omega]

theorem read_zero (neg : Bool) : double.read (double.nearest neg 0 0) = .number neg 0 (-1074) := by
  cases neg <;> decide +kernel

theorem nearest_zero (neg : Bool) (p : Int) : double.nearest neg 0 p = double.word neg 0 := by
  unfold Format.nearest
  rw [if_pos rfl]

theorem cut_exact (neg : Bool) (n d : Nat) (h : n ≠ 0) : Toward.even.cut neg (n * 2 ^ d) d = n := by
  have hl := log2_mul_pow n d h
  have hm : min d ((n * 2 ^ d).log2 + 2) = d := by omega
  unfold Toward.cut
  rw [hm]
  have h2 : (2 ^ d == 0) = false := by rw [beq_eq_false_iff_ne]; exact Nat.ne_of_gt (Nat.two_pow_pos _)
  simp only [Nat.shiftLeft_eq, Nat.one_mul, Nat.mul_mod_left, Nat.mul_zero, h2, Bool.false_and]
  rw [Nat.mul_div_cancel _ (Nat.two_pow_pos _)]
  simp

/-- A whole number written behind its own places: the same word. -/
theorem nearest_shift (neg : Bool) (m k : Nat) (h : m ≠ 0) (hl : m.log2 ≤ 52) : double.nearest neg (m * 2 ^ k) (-(k : Int)) = double.nearest neg m 0 := by
  have h1 : m * 2 ^ k ≠ 0 := Nat.mul_ne_zero h (Nat.ne_of_gt (Nat.two_pow_pos _))
  have e := log2_mul_pow m k h
  unfold Format.nearest
  rw [if_neg h1, if_neg h, e, dbl_lp, dbl_fb]
  have l1 : max (-(k : Int) + ((m.log2 + k : Nat) : Int) - 52) (-1074) = (m.log2 : Int) - 52 := by omega
  have l2 : max ((0 : Int) + (m.log2 : Int) - 52) (-1074) = (m.log2 : Int) - 52 := by omega
  simp only [l1, l2]
  have c2 : ((m.log2 : Int) - 52 - 0).toNat = 0 := by omega
  have s2 : ((0 : Int) - ((m.log2 : Int) - 52)).toNat = 52 - m.log2 := by omega
  rw [c2, s2, cut_zero]
  by_cases hc : k ≤ 52 - m.log2
  · have c1 : ((m.log2 : Int) - 52 - -(k : Int)).toNat = 0 := by omega
    have s1 : (-(k : Int) - ((m.log2 : Int) - 52)).toNat = 52 - m.log2 - k := by omega
    rw [c1, s1, cut_zero, Nat.shiftLeft_eq, Nat.shiftLeft_eq, Nat.mul_assoc, ← Nat.pow_add, show k + (52 - m.log2 - k) = 52 - m.log2 by omega]
  · have c1 : ((m.log2 : Int) - 52 - -(k : Int)).toNat = k - (52 - m.log2) := by omega
    have s1 : (-(k : Int) - ((m.log2 : Int) - 52)).toNat = 0 := by omega
    rw [c1, s1, Nat.shiftLeft_eq, Nat.shiftLeft_eq, Nat.pow_zero, Nat.mul_one]
    have : m * 2 ^ k = (m * 2 ^ (52 - m.log2)) * 2 ^ (k - (52 - m.log2)) := by
      rw [Nat.mul_assoc, ← Nat.pow_add, show 52 - m.log2 + (k - (52 - m.log2)) = k by omega]
    rw [this, cut_exact _ _ _ (Nat.mul_ne_zero h (Nat.ne_of_gt (Nat.two_pow_pos _)))]

theorem small_log2 {n : Nat} (h : n < 2 ^ 53) : n.log2 ≤ 52 := by
  by_cases h0 : n = 0
  · subst h0; decide
  · have : n.log2 < 53 := (Nat.log2_lt h0).2 h
    omega

theorem signed_eq (neg : Bool) (m up : Nat) : signed neg m up = (if neg then -1 else 1) * ((m * 2 ^ up : Nat) : Int) := by
  unfold signed
  cases neg <;> simp [Nat.shiftLeft_eq]

/-- Whatever a whole number's bits stand for: it counts as much, at its own place and below. -/
theorem read_fi (n : Int) (h : n.natAbs < 2 ^ 53) : ∃ s m i, double.read (fi n) = .number s m i ∧ i ≤ 0 ∧ -1074 ≤ i ∧ (∀ b : Int, b ≤ i → signed s m (i - b).toNat = n * (2 ^ (-b).toNat : Nat)) ∧ (n = 0 → s = false) := by
  rw [fi_def]
  by_cases h0 : n = 0
  · subst h0
    refine ⟨false, 0, -1074, read_zero false, by omega, by omega, fun b hb => ?_, fun _ => rfl⟩
    rw [signed_eq]; simp
  · have hl := small_log2 h
    refine ⟨decide (n < 0), _, _, read_nearest _ _ (by omega) hl, by omega, by omega, fun b hb => ?_, fun h => absurd h h0⟩
    rw [signed_eq, Nat.mul_assoc, ← Nat.pow_add, show 52 - n.natAbs.log2 + ((n.natAbs.log2 : Int) - 52 - b).toNat = (-b).toNat by omega, Int.natCast_mul, ← Int.mul_assoc]
    congr 1
    by_cases hn : n < 0
    · simp [hn]; omega
    · simp [hn]; omega

/-- SUMS OF WHOLE NUMBERS ARE EXACT. -/
theorem fi_add (a b : Int) (ha : a.natAbs < 2 ^ 53) (hb : b.natAbs < 2 ^ 53) (hab : (a + b).natAbs < 2 ^ 53) : double.add (fi a) (fi b) = some (fi (a + b)) := by
  obtain ⟨s, m, i, r1, i1, i2, e1, z1⟩ := read_fi a ha
  obtain ⟨t, n, j, r2, j1, j2, e2, z2⟩ := read_fi b hb
  unfold Format.add
  rw [r1, r2]
  unfold Datum.sum
  simp only [Option.map_some, e1 (min i j) (by omega), e2 (min i j) (by omega), ← Int.add_mul]
  congr 1
  unfold Format.write
  simp only
  have hp : (0 : Int) < (2 ^ (-min i j).toNat : Nat) := by exact_mod_cast Nat.two_pow_pos _
  by_cases h0 : a + b = 0
  · rw [h0, Int.zero_mul, if_pos rfl, fi_def]
    have hst : (s && t) = false := by
      by_cases hz : a = 0
      · rw [z1 hz]; rfl
      · have hbz : b = -a := by omega
        have q1 := e1 i (by omega)
        have q2 := e2 j (by omega)
        rw [signed_eq] at q1 q2
        cases s
        · rfl
        · cases t
          · rfl
          · exfalso
            have p1 : (0 : Int) < (2 ^ (-i).toNat : Nat) := by exact_mod_cast Nat.two_pow_pos _
            have p2 : (0 : Int) < (2 ^ (-j).toNat : Nat) := by exact_mod_cast Nat.two_pow_pos _
            simp only [if_true] at q1 q2
            have n1 : a * (2 ^ (-i).toNat : Nat) ≤ 0 := by rw [← q1]; omega
            have n2 : b * (2 ^ (-j).toNat : Nat) ≤ 0 := by rw [← q2]; omega
            have m1 : a ≤ 0 := by
              by_cases h : 0 < a
              · have := Int.mul_pos h p1; omega
              · omega
            have m2 : b ≤ 0 := by
              by_cases h : 0 < b
              · have := Int.mul_pos h p2; omega
              · omega
            omega
    rw [hst, Int.natAbs_zero, nearest_zero, nearest_zero]
    rfl
  · have hne : (a + b) * (2 ^ (-min i j).toNat : Nat) ≠ 0 := Int.mul_ne_zero h0 (by omega)
    rw [if_neg hne, fi_def, Int.natAbs_mul, Int.natAbs_natCast]
    have hs : decide ((a + b) * (2 ^ (-min i j).toNat : Nat) < 0) = decide (a + b < 0) := by
      rw [decide_eq_decide]
      constructor
      · intro h
        by_cases g : a + b < 0
        · exact g
        · have := Int.mul_nonneg (show 0 ≤ a + b by omega) (Int.le_of_lt hp); omega
      · intro h
        exact Int.mul_neg_of_neg_of_pos h hp
    rw [hs]
    have := nearest_shift (decide (a + b < 0)) (a + b).natAbs (-min i j).toNat (by omega) (small_log2 hab)
    rwa [show -(((-min i j).toNat : Nat) : Int) = min i j by omega] at this

/-- How whole numbers stand to each other. -/
theorem order_fi (a b : Int) (ha : a.natAbs < 2 ^ 53) (hb : b.natAbs < 2 ^ 53) : double.order (fi a) (fi b) = some (compare a b) := by
  obtain ⟨s, m, i, r1, i1, i2, e1, z1⟩ := read_fi a ha
  obtain ⟨t, n, j, r2, j1, j2, e2, z2⟩ := read_fi b hb
  unfold Format.order
  rw [r1, r2]
  unfold Datum.order
  simp only [e1 (min i j) (by omega), e2 (min i j) (by omega)]
  have hp : (0 : Int) < (2 ^ (-min i j).toNat : Nat) := by exact_mod_cast Nat.two_pow_pos _
  congr 1
  rcases Int.lt_trichotomy a b with h | h | h
  · rw [Int.compare_eq_lt.2 h, Int.compare_eq_lt]
    exact Int.mul_lt_mul_of_pos_right h hp
  · subst h; rw [(Int.compare_eq_eq.2 rfl : compare a a = .eq), Int.compare_eq_eq]
  · rw [Int.compare_eq_gt.2 h, Int.compare_eq_gt]
    exact Int.mul_lt_mul_of_pos_right h hp

end Go.Proofs.YtahconkjhneogaaDoor
