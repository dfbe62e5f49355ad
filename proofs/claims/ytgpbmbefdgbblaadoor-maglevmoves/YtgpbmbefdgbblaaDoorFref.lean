/-
  The document's Is, Rest, Power and Least (linkboyref08); prime.rest.
-/
import Derived.Test.YtgpbmbefdgbblaaDoorFlea
namespace Go.Proofs.YtgpbmbefdgbblaaDoor
open Go.RowKit Go.Lib

theorem tmod_cases (a : Int) {p : Int} (hp : 1 ≤ p) : (0 ≤ a.tmod p ∧ a.tmod p < p ∧ a % p = a.tmod p) ∨ (-p < a.tmod p ∧ a.tmod p < 0 ∧ a % p = a.tmod p + p) := by
  have h1 := Int.emod_nonneg a (show p ≠ 0 by omega)
  have h2 := Int.emod_lt_of_pos a (show 0 < p by omega)
  rcases Int.lt_or_le a 0 with h | h
  · have e : a.tmod p = -((-a) % p) := by
      rw [← Int.tmod_eq_emod_of_nonneg (show 0 ≤ -a by omega), Int.neg_tmod, Int.neg_neg]
    have h3 := Int.emod_nonneg (-a) (show p ≠ 0 by omega)
    have h4 := Int.emod_lt_of_pos (-a) (show 0 < p by omega)
    have e2 : (a % p + (-a) % p) % p = 0 := by rw [← Int.add_emod, Int.add_right_neg, Int.zero_emod]
    obtain ⟨c, hc⟩ := Int.dvd_of_emod_eq_zero e2
    have hc2 : c = 0 ∨ c = 1 := by
      rcases Int.lt_or_le c 0 with k | k
      · have := Int.mul_le_mul_of_nonneg_left (show c ≤ -1 by omega) (show 0 ≤ p by omega)
        omega
      · rcases Int.lt_or_le 1 c with k2 | k2
        · have := Int.mul_le_mul_of_nonneg_left (show 2 ≤ c by omega) (show 0 ≤ p by omega)
          omega
        · omega
    rcases hc2 with rfl | rfl
    · left; omega
    · right; omega
  · rw [Int.tmod_eq_emod_of_nonneg h]
    exact .inl ⟨h1, h2, rfl⟩



theorem rem_nonneg {n d : Int} (h : 0 ≤ n) : n.tmod d = n % d := Int.tmod_eq_emod_of_nonneg h



theorem mul_bound {x y p : Int} (hx : 0 ≤ x ∧ x < p) (hy : 0 ≤ y ∧ y < p) (hp : p ≤ 2147483648) : 0 ≤ x * y ∧ x * y ≤ 4611686018427387904 := by
  have h := Int.mul_le_mul (show x ≤ 2147483648 by omega) (show y ≤ 2147483648 by omega) hy.1 (by omega)
  exact ⟨Int.mul_nonneg hx.1 hy.1, by omega⟩

end Go.Proofs.YtgpbmbefdgbblaaDoor
