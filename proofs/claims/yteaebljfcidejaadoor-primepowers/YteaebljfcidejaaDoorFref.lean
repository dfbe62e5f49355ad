/-
  The document's Is, Rest, Power and Least (linkboyref08); prime.rest.
-/
import Derived.Test.YteaebljfcidejaaDoorFlea
namespace Go.Proofs.YteaebljfcidejaaDoor
open Go.RowKit Go.Lib

theorem tmod_cases (a : Int) {p : Int} (hp : 1 ≤ p) : (0 ≤ a.tmod p ∧ a.tmod p < p ∧ a % p = a.tmod p) ∨ (-p < a.tmod p ∧ a.tmod p < 0 ∧ a % p = a.tmod p + p) := by
  have h1 := Int.emod_nonneg a (show p ≠ 0 by omega)
  have h2 := Int.emod_lt_of_pos a (show 0 < p by omega)
  rcases Int.lt_or_le a 0 with h | h
  · have e : a.tmod p = -((-a) % p) := by
      rw [← Int.tmod_eq_emod_of_nonneg (show 0 ≤ -a by omega), Int.neg_tmod, Int.neg_neg]
    have h3 := Int.emod_nonneg (-a) (show p ≠ 0 by omega)
    have h4 := Int.emod_lt_of_pos (-a) (show 0 < p by omega)
    have e2 : (a % p + (-a) % p) % p = 0 := by rw [← Int.add_emod, Int.add_right_neg, Int.zero_emod]
    obtain ⟨c, hc⟩ := Int.dvd_of_emod_eq_zero e2
    have hc2 : c = 0 ∨ c = 1 := by
      rcases Int.lt_or_le c 0 with k | k
      · have := Int.mul_le_mul_of_nonneg_left (show c ≤ -1 by omega) (show 0 ≤ p by omega)
        omega
      · rcases Int.lt_or_le 1 c with k2 | k2
        · have := Int.mul_le_mul_of_nonneg_left (show 2 ≤ c by omega) (show 0 ≤ p by omega)
          omega
        · omega
    rcases hc2 with rfl | rfl
    · left; omega
    · right; omega
  · rw [Int.tmod_eq_emod_of_nonneg h]
    exact .inl ⟨h1, h2, rfl⟩

set_option maxHeartbeats 2000000 in
theorem rrest_any (a p : Int) (h1 : 1 ≤ p) (h2 : p ≤ 2147483648) (w : World) : Calls Tryd.prog 18 #[.int .i64 a, .int .i64 p] w fun e w' => e = .returned (.int .i64 (a % p)) ∧ w = w' := by
  have hne : p ≠ 0 := by omega
  have hc := tmod_cases a h1
  generalize a % p = r at hc ⊢
  rcases hc with ⟨h3, h4, h5⟩ | ⟨h3, h4, h5⟩
  all_goals
    have HE := hid h5
    clear h5
    generalize ht : a.tmod p = t at *
    go_enter Tryd.func18, Tryd.ntmps18
    go_wp2
    go_ret
    exact ⟨ret_i rfl HE.out.symm, rfl⟩

set_option maxHeartbeats 2000000 in
theorem rest_any (a p : Int) (h1 : 1 ≤ p) (h2 : p ≤ 2147483648) (w : World) : Calls Tryd.prog 23 #[.int .i64 a, .int .i64 p] w fun e w' => e = .returned (.int .i64 (a % p)) ∧ w = w' := by
  have hne : p ≠ 0 := by omega
  have hc := tmod_cases a h1
  generalize a % p = r at hc ⊢
  rcases hc with ⟨h3, h4, h5⟩ | ⟨h3, h4, h5⟩
  all_goals
    have HE := hid h5
    clear h5
    generalize ht : a.tmod p = t at *
    go_enter Tryd.func23, Tryd.ntmps23
    go_wp2
    go_ret
    exact ⟨ret_i rfl HE.out.symm, rfl⟩

theorem rem_nonneg {n d : Int} (h : 0 ≤ n) : n.tmod d = n % d := Int.tmod_eq_emod_of_nonneg h

set_option maxHeartbeats 4000000 in
theorem ris_any (n : Int) (w : World) : Calls Tryd.prog 9 #[.int .i64 n] w fun e w' => e = .returned (.bool (isP n)) ∧ w = w' := by
  by_cases h1 : n < 2
  · have HE : Hid (false = isP n) := hid (isP_small h1).symm
    go_enter Tryd.func9, Tryd.ntmps9
    go_wp2
    go_ret
    exact ⟨ret_b rfl HE.out, rfl⟩
  by_cases h2 : 2147483648 < n
  · have HE : Hid (false = isP n) := hid (isP_great (by omega)).symm
    go_enter Tryd.func9, Tryd.ntmps9
    go_wp2
    go_ret
    exact ⟨ret_b rfl HE.out, rfl⟩
  by_cases h3 : n % 2 = 0
  · by_cases h4 : n = 2
    · subst h4
      have HE : Hid (true = isP 2) := hid isP_two.symm
      go_enter Tryd.func9, Tryd.ntmps9
      go_wp2
      go_ret
      exact ⟨ret_b rfl HE.out, rfl⟩
    · have HE : Hid (false = isP n) := hid ((isP_false n).2 fun ⟨_, _, h⟩ => not_even (by omega) (by omega) h).symm
      have h5 : (n == 2) = false := beq_eq_false_iff_ne.2 h4
      go_enter Tryd.func9, Tryd.ntmps9
      go_wp2
      go_ret
      exact ⟨ret_b rfl HE.out, rfl⟩
  · have HN : Hid (2 ≤ n.toNat ∧ n.toNat % 2 = 1 ∧ ((n.toNat : Nat) : Int) = n) := hid (by omega)
    go_enter Tryd.func9, Tryd.ntmps9
    go_wp2
    go_loop [3] (fun i => ∃ k : Nat, ∃ d : Int, Hid (d = 2 * (k : Int) + 3 ∧ ∀ j, j < k → n % (2 * (j : Int) + 3) ≠ 0) ∧ 3 ≤ d ∧ d ≤ 46342 ∧ i = .int .i64 d) (fun i => 46344 - (intOf i).toNat)
    case atStart => exact ⟨0, 3, hid ⟨rfl, fun j hj => by omega⟩, by omega, by omega, rfl⟩
    case round =>
      obtain ⟨k, d, HK, hd1, hd2, rfl⟩ := hrel
      have hq := sq_great (d := d) (by omega) hd2
      by_cases hlt : d * d ≤ n
      · have hd3 : d ≤ 46340 := sq_small (by omega) (by omega)
        by_cases hm : n % d = 0
        · have HE : Hid (false = isP n) := hid ((isP_false n).2 fun ⟨_, _, h⟩ => not_prm (n := n.toNat) (d := d.toNat) (by omega) (by
            have := Int.mul_le_mul_of_nonneg_left (show 2 ≤ d by omega) (show 0 ≤ d by omega)
            omega) (by
            have : (((n.toNat % d.toNat : Nat)) : Int) = 0 := by rw [Int.natCast_emod, HN.out.2.2, show ((d.toNat : Nat) : Int) = d by omega, hm]
            omega) h).symm
          go_wp2
          go_ret
          exact ⟨ret_b rfl HE.out, rfl⟩
        · have hr := Int.emod_nonneg n (show d ≠ 0 by omega)
          have hr2 := Int.emod_lt_of_pos n (show 0 < d by omega)
          go_wp2
          go_round
          case rel => exact ⟨k + 1, d + 2, hid ⟨by have := HK.out.1; omega, fun j hj => by
            by_cases e : j = k
            · subst e; rw [← HK.out.1]; exact hm
            · exact HK.out.2 j (by omega)⟩, by omega, by omega, rfl⟩
          case measure => simp [intOf]; omega
      · have HE : Hid (true = isP n) := hid ((isP_iff n).2 ⟨by omega, by omega, prm_odd HN.out.1 HN.out.2.1 fun j hj hz => by
          by_cases e : j < k
          · refine HK.out.2 j e ?_
            rw [← HN.out.2.2]
            have : ((n.toNat % (2 * j + 3) : Nat) : Int) = 0 := by rw [hz]; rfl
            simpa using this
          · have h6 : (2 * j + 3) * (2 * j + 3) ≥ d.toNat * d.toNat := Nat.mul_le_mul (by have := HK.out.1; omega) (by have := HK.out.1; omega)
            have h7 : ((d.toNat * d.toNat : Nat) : Int) = d * d := by rw [Int.natCast_mul, show ((d.toNat : Nat) : Int) = d by omega]
            have := HN.out.2.2
            omega⟩).symm
        go_wp2
        go_ret
        exact ⟨ret_b rfl HE.out, rfl⟩

set_option maxHeartbeats 4000000 in
theorem rleast_any (n : Int) (h1 : 2 ≤ n) (h2 : n ≤ 2147483648) (w : World) : Calls Tryd.prog 10 #[.int .i64 n] w fun e w' => e = .returned (.int .i64 (leastOf n)) ∧ w = w' := by
  have HI := hid ris_any
  have HN : Hid (leastOf n = ((lst n.toNat : Nat) : Int) ∧ ((n.toNat : Nat) : Int) = n ∧ 2 ≤ n.toNat) := hid ⟨by rw [leastOf, if_neg (by omega)], by omega, by omega⟩
  go_enter Tryd.func10, Tryd.ntmps10
  go_wp2
  go_loop [3] (fun i => ∃ d : Int, Hid (d ≤ ((lst n.toNat : Nat) : Int)) ∧ 2 ≤ d ∧ d ≤ 46342 ∧ i = .int .i64 d) (fun i => 46344 - (intOf i).toNat)
  case atStart => exact ⟨2, hid (by have := (lst_range HN.out.2.2).1; omega), by omega, by omega, rfl⟩
  case round =>
    obtain ⟨d, HK, hd1, hd2, rfl⟩ := hrel
    by_cases hlt : d < 46342
    · by_cases hm : n % d = 0
      · have HE : Hid (d = leastOf n ∧ isP d = true) := hid (by
          obtain ⟨h3, h4, h5⟩ := lst_spec HN.out.2.2
          have h6 := h5 d.toNat (by omega) (Nat.dvd_of_mod_eq_zero (by
            have : (((n.toNat % d.toNat : Nat)) : Int) = 0 := by rw [Int.natCast_emod, HN.out.2.1, show ((d.toNat : Nat) : Int) = d by omega, hm]
            omega))
          have h7 : d = ((lst n.toNat : Nat) : Int) := by have := HK.out; omega
          refine ⟨h7.trans HN.out.1.symm, (isP_iff d).2 ⟨by omega, by omega, ?_⟩⟩
          rw [h7]
          exact h3)
        have HI2 := hid (HI.out d)
        rw [HE.out.2] at HI2
        go_wp2_with fail
        refine (HI2.out _).mono ?_
        rintro e w1 ⟨rfl, rfl⟩
        go_wp2
        go_ret
        exact ⟨ret_i rfl HE.out.1, rfl⟩
      · have hr := Int.emod_nonneg n (show d ≠ 0 by omega)
        have hr2 := Int.emod_lt_of_pos n (show 0 < d by omega)
        have HE : Hid (d + 1 ≤ ((lst n.toNat : Nat) : Int)) := hid (by
          obtain ⟨h3, h4, h5⟩ := lst_spec HN.out.2.2
          have h6 : d ≠ ((lst n.toNat : Nat) : Int) := fun e => hm (by
            rw [e, ← HN.out.2.1, ← Int.natCast_emod]
            rw [show lst ((n.toNat : Nat) : Int).toNat = lst n.toNat by rfl, Nat.mod_eq_zero_of_dvd h4]
            rfl)
          have := HK.out
          omega)
        go_wp2
        go_round
        case rel => exact ⟨d + 1, HE, by omega, by omega, rfl⟩
        case measure => simp [intOf]; omega
    · have HE : Hid (n = leastOf n) := hid (by
        have hp : Prm n.toNat := Classical.byContradiction fun hnp => by
          have h3 := least_sq HN.out.2.2 hnp (lst_spec HN.out.2.2).2.2
          have h4 := HK.out
          have h5 := Nat.mul_le_mul (show 46342 ≤ lst n.toNat by omega) (show 46342 ≤ lst n.toNat by omega)
          omega
        rw [HN.out.1, (lst_prm HN.out.2.2).2 hp]
        exact HN.out.2.1.symm)
      go_wp2
      go_ret
      exact ⟨ret_i rfl HE.out, rfl⟩

theorem mul_bound {x y p : Int} (hx : 0 ≤ x ∧ x < p) (hy : 0 ≤ y ∧ y < p) (hp : p ≤ 2147483648) : 0 ≤ x * y ∧ x * y ≤ 4611686018427387904 := by
  have h := Int.mul_le_mul (show x ≤ 2147483648 by omega) (show y ≤ 2147483648 by omega) hy.1 (by omega)
  exact ⟨Int.mul_nonneg hx.1 hy.1, by omega⟩

set_option maxHeartbeats 4000000 in
theorem rpower_any (a p : Int) (h1 : 1 ≤ p) (h2 : p ≤ 2147483648) : ∀ (m k : Nat), k ≤ m → k ≤ 9223372036854775807 → ∀ w : World, Calls Tryd.prog 16 #[.int .i64 a, .int .i64 k, .int .i64 p] w fun e w' => e = .returned (.int .i64 (pwr a k p)) ∧ w = w' := by
  intro m
  induction m with
  | zero =>
    intro k hk hk2 w
    obtain rfl : k = 0 := by omega
    have HE : Hid (1 % p = pwr a 0 p) := hid (pwr_zero a h1).symm
    have hne : p ≠ 0 := by omega
    go_enter Tryd.func16, Tryd.ntmps16
    go_wp2
    go_ret
    exact ⟨ret_i rfl HE.out, rfl⟩
  | succ m ih =>
    intro k hk hk2 w
    by_cases h0 : k = 0
    · exact ih k (by omega) hk2 w
    have hh := ih (k / 2) (by omega) (by omega)
    have hr := pwr_range a (k / 2) h1
    have HP := pwr_half a k h1
    have HR := hid (fun w => rrest_any a p h1 h2 w)
    have hrr := Int.emod_nonneg a (show p ≠ 0 by omega)
    have hrr2 := Int.emod_lt_of_pos a (show 0 < p by omega)
    have hne : p ≠ 0 := by omega
    obtain ⟨q, hq⟩ : ∃ q : Nat, k / 2 = q := ⟨_, rfl⟩
    rw [hq] at hh hr HP
    have hb := mul_bound hr hr h2
    have hm := Int.emod_nonneg (pwr a q p * pwr a q p) hne
    have hm2 := Int.emod_lt_of_pos (pwr a q p * pwr a q p) (show 0 < p by omega)
    have hb2 := mul_bound (x := pwr a q p * pwr a q p % p) (y := a % p) ⟨hm, hm2⟩ ⟨hrr, hrr2⟩ h2
    have hm3 := Int.emod_nonneg (pwr a q p * pwr a q p % p * (a % p)) hne
    have hm4 := Int.emod_lt_of_pos (pwr a q p * pwr a q p % p * (a % p)) (show 0 < p by omega)
    have HH := hid hh
    clear hh ih
    have HX := hid hq
    have hkq : (k : Int) / 2 = (q : Int) := by omega
    have hkt : (k : Int).tdiv 2 = (q : Int) := by rw [Int.tdiv_eq_ediv_of_nonneg (by omega)]; exact hkq
    have hk0 : ¬ (k : Int) = 0 := by omega
    have hkm := Nat.mod_two_eq_zero_or_one k
    rcases hkm with he | he
    · have he2 : (k : Int) % 2 = 0 := by omega
      rw [if_neg (by omega)] at HP
      have HP2 := hid HP
      clear HP
      clear he hq
      generalize pwr a k p = z at *
      generalize hz0 : pwr a q p * pwr a q p % p = z0 at *
      generalize pwr a q p = x at *
      go_enter Tryd.func16, Tryd.ntmps16
      go_wp2_with fail
      refine (HH.out _).mono ?_
      rintro e w1 ⟨rfl, rfl⟩
      go_wp2
      go_ret
      exact ⟨ret_i rfl (hz0.trans HP2.out.symm), rfl⟩
    · have he2 : (k : Int) % 2 = 1 := by omega
      rw [if_pos (by omega)] at HP
      have HP2 := hid HP
      clear HP
      clear he hq
      generalize pwr a k p = z at *
      generalize hz0 : pwr a q p * pwr a q p % p = z0 at *
      generalize pwr a q p = x at *
      generalize a % p = r at *
      generalize hz1 : z0 * r % p = z1 at *
      go_enter Tryd.func16, Tryd.ntmps16
      go_wp2_with fail
      refine (HH.out _).mono ?_
      rintro e w1 ⟨rfl, rfl⟩
      go_wp2_with fail
      refine (HR.out _).mono ?_
      rintro e w1 ⟨rfl, rfl⟩
      go_wp2
      go_ret
      exact ⟨ret_i rfl (hz1.trans HP2.out.symm), rfl⟩
end Go.Proofs.YteaebljfcidejaaDoor
