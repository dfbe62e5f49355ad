/-
  The document's Is, Rest, Power and Least (linkboyref08); prime.rest.
-/
import Derived.Test.YtpijdbajonddlaaDoorFlea
namespace Go.Proofs.YtpijdbajonddlaaDoor
open Go.RowKit Go.Lib

theorem tmod_cases (a : Int) {p : Int} (hp : 1 ≤ p) : (0 ≤ a.tmod p ∧ a.tmod p < p ∧ a % p = a.tmod p) ∨ (-p < a.tmod p ∧ a.tmod p < 0 ∧ a % p = a.tmod p + p) := by
  have h1 := Int.emod_nonneg a (show p ≠ 0 by omega)
  have h2 := Int.emod_lt_of_pos a (show 0 < p by omega)
  rcases Int.lt_or_le a 0 with h | h
  · have e : a.tmod p = -((-a) % p) := by
      rw [← Int.tmod_eq_emod_of_nonneg (show 0 ≤ -a by omega), Int.neg_tmod, Int.neg_neg]
    have h3 := Int.emod_nonneg (-a) (show p ≠ 0 by omega)
    have h4 := Int.emod_lt_of_pos (-a) (show 0 < p by omega)
    have e2 : (a % p + (-a) % p) % p = 0 := by rw [← Int.add_emod, Int.add_right_neg, Int.zero_emod]
    obtain ⟨c, hc⟩ := Int.dvd_of_emod_eq_zero e2
    have hc2 : c = 0 ∨ c = 1 := by
      rcases Int.lt_or_le c 0 with k | k
      · have := Int.mul_le_mul_of_nonneg_left (show c ≤ -1 by omega) (show 0 ≤ p by omega)
        omega
      · rcases Int.lt_or_le 1 c with k2 | k2
        · have := Int.mul_le_mul_of_nonneg_left (show 2 ≤ c by omega) (show 0 ≤ p by omega)
          omega
        · omega
    rcases hc2 with rfl | rfl
    · left; omega
    · right; omega
  · rw [Int.tmod_eq_emod_of_nonneg h]
    exact .inl ⟨h1, h2, rfl⟩


set_option maxHeartbeats 2000000 in
theorem rest_any (a p : Int) (h1 : 1 ≤ p) (h2 : p ≤ 2147483648) (w : World) : Calls Tryd.prog 40 #[.int .i64 a, .int .i64 p] w fun e w' => e = .returned (.int .i64 (a % p)) ∧ w = w' := by
  have hne : p ≠ 0 := by omega
  have hc := tmod_cases a h1
  generalize a % p = r at hc ⊢
  rcases hc with ⟨h3, h4, h5⟩ | ⟨h3, h4, h5⟩
  all_goals
    have HE := hid h5
    clear h5
    generalize ht : a.tmod p = t at *
    go_enter Tryd.func40, Tryd.ntmps40
    go_wp2
    go_ret
    exact ⟨ret_i rfl HE.out.symm, rfl⟩

theorem rem_nonneg {n d : Int} (h : 0 ≤ n) : n.tmod d = n % d := Int.tmod_eq_emod_of_nonneg h

set_option maxHeartbeats 4000000 in
theorem ris_any (n : Int) (w : World) : Calls Tryd.prog 24 #[.int .i64 n] w fun e w' => e = .returned (.bool (isP n)) ∧ w = w' := by
  by_cases h1 : n < 2
  · have HE : Hid (false = isP n) := hid (isP_small h1).symm
    go_enter Tryd.func24, Tryd.ntmps24
    go_wp2
    go_ret
    exact ⟨ret_b rfl HE.out, rfl⟩
  by_cases h2 : 2147483648 < n
  · have HE : Hid (false = isP n) := hid (isP_great (by omega)).symm
    go_enter Tryd.func24, Tryd.ntmps24
    go_wp2
    go_ret
    exact ⟨ret_b rfl HE.out, rfl⟩
  by_cases h3 : n % 2 = 0
  · by_cases h4 : n = 2
    · subst h4
      have HE : Hid (true = isP 2) := hid isP_two.symm
      go_enter Tryd.func24, Tryd.ntmps24
      go_wp2
      go_ret
      exact ⟨ret_b rfl HE.out, rfl⟩
    · have HE : Hid (false = isP n) := hid ((isP_false n).2 fun ⟨_, _, h⟩ => not_even (by omega) (by omega) h).symm
      have h5 : (n == 2) = false := beq_eq_false_iff_ne.2 h4
      go_enter Tryd.func24, Tryd.ntmps24
      go_wp2
      go_ret
      exact ⟨ret_b rfl HE.out, rfl⟩
  · have HN : Hid (2 ≤ n.toNat ∧ n.toNat % 2 = 1 ∧ ((n.toNat : Nat) : Int) = n) := hid (by omega)
    go_enter Tryd.func24, Tryd.ntmps24
    go_wp2
    go_loop [3] (fun i => ∃ k : Nat, ∃ d : Int, Hid (d = 2 * (k : Int) + 3 ∧ ∀ j, j < k → n % (2 * (j : Int) + 3) ≠ 0) ∧ 3 ≤ d ∧ d ≤ 46342 ∧ i = .int .i64 d) (fun i => 46344 - (intOf i).toNat)
    case atStart => exact ⟨0, 3, hid ⟨rfl, fun j hj => by omega⟩, by omega, by omega, rfl⟩
    case round =>
      obtain ⟨k, d, HK, hd1, hd2, rfl⟩ := hrel
      have hq := sq_great (d := d) (by omega) hd2
      by_cases hlt : d * d ≤ n
      · have hd3 : d ≤ 46340 := sq_small (by omega) (by omega)
        by_cases hm : n % d = 0
        · have HE : Hid (false = isP n) := hid ((isP_false n).2 fun ⟨_, _, h⟩ => not_prm (n := n.toNat) (d := d.toNat) (by omega) (by
            have := Int.mul_le_mul_of_nonneg_left (show 2 ≤ d by omega) (show 0 ≤ d by omega)
            omega) (by
            have : (((n.toNat % d.toNat : Nat)) : Int) = 0 := by rw [Int.natCast_emod, HN.out.2.2, show ((d.toNat : Nat) : Int) = d by omega, hm]
            omega) h).symm
          go_wp2
          go_ret
          exact ⟨ret_b rfl HE.out, rfl⟩
        · have hr := Int.emod_nonneg n (show d ≠ 0 by omega)
          have hr2 := Int.emod_lt_of_pos n (show 0 < d by omega)
          go_wp2
          go_round
          case rel => exact ⟨k + 1, d + 2, hid ⟨by have := HK.out.1; omega, fun j hj => by
            by_cases e : j = k
            · subst e; rw [← HK.out.1]; exact hm
            · exact HK.out.2 j (by omega)⟩, by omega, by omega, rfl⟩
          case measure => simp [intOf]; omega
      · have HE : Hid (true = isP n) := hid ((isP_iff n).2 ⟨by omega, by omega, prm_odd HN.out.1 HN.out.2.1 fun j hj hz => by
          by_cases e : j < k
          · refine HK.out.2 j e ?_
            rw [← HN.out.2.2]
            have : ((n.toNat % (2 * j + 3) : Nat) : Int) = 0 := by rw [hz]; rfl
            simpa using this
          · have h6 : (2 * j + 3) * (2 * j + 3) ≥ d.toNat * d.toNat := Nat.mul_le_mul (by have := HK.out.1; omega) (by have := HK.out.1; omega)
            have h7 : ((d.toNat * d.toNat : Nat) : Int) = d * d := by rw [Int.natCast_mul, show ((d.toNat : Nat) : Int) = d by omega]
            have := HN.out.2.2
            omega⟩).symm
        go_wp2
        go_ret
        exact ⟨ret_b rfl HE.out, rfl⟩


theorem mul_bound {x y p : Int} (hx : 0 ≤ x ∧ x < p) (hy : 0 ≤ y ∧ y < p) (hp : p ≤ 2147483648) : 0 ≤ x * y ∧ x * y ≤ 4611686018427387904 := by
  have h := Int.mul_le_mul (show x ≤ 2147483648 by omega) (show y ≤ 2147483648 by omega) hy.1 (by omega)
  exact ⟨Int.mul_nonneg hx.1 hy.1, by omega⟩

end Go.Proofs.YtpijdbajonddlaaDoor
