/-
  Numbers, plain facts for layer 8: primes, Euclid's lemma, a number to the power of a prime (Fermat), inverses, division up to the square, the least one that divides, powers halved; 2147483647 is prime. No program.
-/
namespace Go.Proofs.YtgpbmbefdgbblaaDoor

/-- A prime number. -/
def Prm (n : Nat) : Prop := 2 ≤ n ∧ ∀ d, 2 ≤ d → d < n → n % d ≠ 0

theorem Prm.two_le {p : Nat} (h : Prm p) : 2 ≤ p := h.1
theorem Prm.dvd_eq {p d : Nat} (h : Prm p) (hd : d ∣ p) : d = 1 ∨ d = p := by
  have hp : 0 < p := by have := h.1; omega
  have hle := Nat.le_of_dvd hp hd
  have h0 : d ≠ 0 := fun e => by subst e; have := Nat.zero_dvd.1 hd; omega
  by_cases h1 : d = 1
  · exact .inl h1
  · by_cases h2 : d = p
    · exact .inr h2
    · exact absurd (Nat.mod_eq_zero_of_dvd hd) (h.2 d (by omega) (by omega))
theorem Prm.coprime {p a : Nat} (h : Prm p) (ha : ¬ p ∣ a) : Nat.Coprime p a := by
  rcases h.dvd_eq (Nat.gcd_dvd_left p a) with e | e
  · exact e
  · exact absurd (e ▸ Nat.gcd_dvd_right p a) ha
theorem Prm.euclid {p a b : Nat} (h : Prm p) (hab : p ∣ a * b) : p ∣ a ∨ p ∣ b := by
  by_cases ha : p ∣ a
  · exact .inl ha
  · exact .inr ((h.coprime ha).dvd_of_dvd_mul_left hab)

/-! ### Powers modulo a prime -/
/-- The number of ways. -/
def chs : Nat → Nat → Nat
  | _, 0 => 1
  | 0, _ + 1 => 0
  | n + 1, k + 1 => chs n k + chs n (k + 1)
theorem chs_zero (n : Nat) : chs n 0 = 1 := by cases n <;> rfl
theorem chs_above : ∀ n k, n < k → chs n k = 0
  | 0, k + 1, _ => rfl
  | n + 1, k + 1, h => by rw [chs, chs_above n k (by omega), chs_above n (k + 1) (by omega)]
theorem chs_self : ∀ n, chs n n = 1
  | 0 => rfl
  | n + 1 => by rw [chs, chs_self n, chs_above n (n + 1) (by omega)]
theorem chs_one : ∀ n, chs n 1 = n
  | 0 => rfl
  | n + 1 => by rw [chs, chs_zero, chs_one n]; omega
theorem chs_mul : ∀ n k, (k + 1) * chs (n + 1) (k + 1) = (n + 1) * chs n k
  | 0, 0 => rfl
  | 0, k + 1 => by simp [chs]
  | n + 1, 0 => by rw [chs_zero, Nat.zero_add, chs_one]; omega
  | n + 1, k + 1 => by
    have h1 := chs_mul n k
    have h2 := chs_mul n (k + 1)
    rw [chs, Nat.mul_add, h2]
    rw [show (k + 1 + 1) * chs (n + 1) (k + 1) = (k + 1) * chs (n + 1) (k + 1) + chs (n + 1) (k + 1) by rw [Nat.add_mul (k + 1) 1, Nat.one_mul], h1]
    rw [show (n + 1 + 1) * chs (n + 1) (k + 1) = (n + 1) * chs (n + 1) (k + 1) + chs (n + 1) (k + 1) by rw [Nat.add_mul (n + 1) 1, Nat.one_mul]]
    have e : chs (n + 1) (k + 1) = chs n k + chs n (k + 1) := rfl
    rw [e, Nat.mul_add]
    omega
theorem Prm.dvd_chs {p : Nat} (h : Prm p) (k : Nat) (h1 : 0 < k) (h2 : k < p) : p ∣ chs p k := by
  obtain ⟨q, rfl⟩ : ∃ q, p = q + 1 := ⟨p - 1, by omega⟩
  obtain ⟨j, rfl⟩ : ∃ j, k = j + 1 := ⟨k - 1, by omega⟩
  have e := chs_mul q j
  have hd : q + 1 ∣ (j + 1) * chs (q + 1) (j + 1) := by rw [e]; exact Nat.dvd_mul_right _ _
  rcases h.euclid hd with h3 | h3
  · have := Nat.le_of_dvd (by omega) h3
    omega
  · exact h3
/-- The sum of all ways' powers below a place. -/
def bin (x n : Nat) : Nat → Nat
  | 0 => 0
  | k + 1 => bin x n k + chs n k * x ^ k
theorem bin_succ (x n : Nat) : ∀ k, bin x (n + 1) (k + 1) = bin x n (k + 1) + x * bin x n k
  | 0 => by simp [bin, chs_zero]
  | k + 1 => by
    rw [bin, bin_succ x n k, bin, bin, bin, chs, Nat.mul_add, Nat.add_mul, Nat.pow_succ]
    have e : x * (chs n k * x ^ k) = chs n k * (x ^ k * x) := by
      rw [Nat.mul_left_comm, Nat.mul_comm x (x ^ k)]
    rw [e]
    omega
theorem bin_all (x : Nat) : ∀ n, (x + 1) ^ n = bin x n (n + 1)
  | 0 => by simp [bin, chs_zero]
  | n + 1 => by
    have e : bin x n (n + 1 + 1) = bin x n (n + 1) := by
      show bin x n (n + 1) + chs n (n + 1) * x ^ (n + 1) = _
      rw [chs_above n (n + 1) (by omega), Nat.zero_mul, Nat.add_zero]
    rw [Nat.pow_succ, bin_all x n, bin_succ, e, Nat.mul_add, Nat.mul_one, Nat.mul_comm]
    omega
theorem bin_mod {p : Nat} (h : Prm p) (x : Nat) : ∀ k, k < p → bin x p (k + 1) % p = 1 % p
  | 0, _ => by simp [bin, chs_zero]
  | k + 1, hk => by
    obtain ⟨c, hc⟩ := h.dvd_chs (k + 1) (by omega) hk
    rw [bin, Nat.add_mod, bin_mod h x k (by omega), hc, Nat.mul_assoc, Nat.mul_mod_right, Nat.add_zero, Nat.mod_mod]
/-- A number to the power of a prime is that number, modulo the prime. -/
theorem fermat {p : Nat} (h : Prm p) : ∀ a : Nat, a ^ p % p = a % p
  | 0 => by
    have := h.1
    rw [Nat.zero_pow (by omega)]
  | a + 1 => by
    have h2 := h.1
    have e : bin a p (p + 1) = bin a p p + a ^ p := by rw [bin, chs_self, Nat.one_mul]
    obtain ⟨q, hq⟩ : ∃ q, p = q + 1 := ⟨p - 1, by omega⟩
    have hb : bin a p p % p = 1 % p := by
      have := bin_mod h a q (by omega)
      rwa [← hq] at this
    rw [bin_all, e, Nat.add_mod, hb, fermat h a, ← Nat.add_mod, Nat.add_comm]
theorem fermat_one {p : Nat} (h : Prm p) (a : Nat) (ha : ¬ p ∣ a) : a ^ (p - 1) % p = 1 := by
  have h2 := h.1
  have hf := fermat h a
  obtain ⟨q, rfl⟩ : ∃ q, p = q + 1 := ⟨p - 1, by omega⟩
  rw [Nat.add_sub_cancel]
  have ha0 : 0 < a := Nat.pos_of_ne_zero (fun e => ha (e ▸ Nat.dvd_zero _))
  have h1 : 0 < a ^ q := Nat.pow_pos ha0
  have hd : q + 1 ∣ a * (a ^ q - 1) := by
    rw [Nat.mul_sub, Nat.mul_one, Nat.mul_comm, ← Nat.pow_succ]
    exact Nat.dvd_of_mod_eq_zero (Nat.sub_mod_eq_zero_of_mod_eq hf)
  rcases h.euclid hd with h3 | h3
  · exact absurd h3 ha
  · obtain ⟨c, hc⟩ := h3
    have : a ^ q = 1 + (q + 1) * c := by omega
    rw [this, Nat.add_mul_mod_self_left, Nat.mod_eq_of_lt (by omega)]

/-! ### Division -/
theorem not_prm {n d : Nat} (h2 : 2 ≤ d) (hd : d < n) (h : n % d = 0) : ¬ Prm n := fun hp => hp.2 d h2 hd h
/-- Of a number that a smaller one divides, one divides whose square is no more. -/
theorem small_div {n d : Nat} (h2 : 2 ≤ d) (hd : d < n) (h : n % d = 0) : ∃ e, 2 ≤ e ∧ e ∣ n ∧ e * e ≤ n := by
  obtain ⟨c, hc⟩ := Nat.dvd_of_mod_eq_zero h
  have hc2 : 2 ≤ c := by
    rcases Nat.lt_or_ge c 2 with h1 | h1
    · have : c = 0 ∨ c = 1 := by omega
      rcases this with rfl | rfl
      · rw [Nat.mul_zero] at hc; omega
      · rw [Nat.mul_one] at hc; omega
    · exact h1
  by_cases hle : d ≤ c
  · exact ⟨d, h2, ⟨c, hc⟩, by rw [hc]; exact Nat.mul_le_mul_left d hle⟩
  · exact ⟨c, hc2, ⟨d, by rw [hc, Nat.mul_comm]⟩, by rw [hc]; exact Nat.mul_le_mul_right c (by omega)⟩
/-- No number divides whose square is no more: a prime. -/
theorem prm_of {n : Nat} (h2 : 2 ≤ n) (h : ∀ d, 2 ≤ d → d * d ≤ n → n % d ≠ 0) : Prm n := ⟨h2, fun d hd hlt hm => by
  obtain ⟨e, he, hed, hee⟩ := small_div hd hlt hm
  exact h e he hee (Nat.mod_eq_zero_of_dvd hed)⟩
theorem sq_lt {d n : Nat} (h2 : 2 ≤ d) (h : d * d ≤ n) : d < n := by
  have := Nat.mul_le_mul_right d h2
  omega
theorem prm_odd {n : Nat} (h2 : 2 ≤ n) (ho : n % 2 = 1) (h : ∀ k, (2 * k + 3) * (2 * k + 3) ≤ n → n % (2 * k + 3) ≠ 0) : Prm n := prm_of h2 fun d hd hdd hm => by
  obtain ⟨c, hc⟩ := Nat.dvd_of_mod_eq_zero hm
  have hod : d % 2 = 1 := by
    rcases Nat.mod_two_eq_zero_or_one d with e | e
    · rw [hc, Nat.mul_mod, e, Nat.zero_mul] at ho
      cases ho
    · exact e
  obtain ⟨k, rfl⟩ : ∃ k, d = 2 * k + 3 := ⟨(d - 3) / 2, by omega⟩
  exact h k hdd hm
theorem prm_two : Prm 2 := ⟨Nat.le_refl _, fun d h1 h2 => by omega⟩
theorem not_even {n : Nat} (h : n % 2 = 0) (hn : n ≠ 2) : ¬ Prm n := fun hp => hp.2 2 (Nat.le_refl _) (by have := hp.1; omega) h
/-- The least number that divides is a prime. -/
theorem least_prm {n : Nat} (h2 : 2 ≤ n) : ∀ k, ∀ d, d ≤ k → 2 ≤ d → d ∣ n → ∃ e, e ≤ d ∧ Prm e ∧ e ∣ n ∧ ∀ f, 2 ≤ f → f ∣ n → e ≤ f
  | 0, d, hk, hd, _ => by omega
  | k + 1, d, hk, hd, hdn => by
    by_cases h : ∃ f, 2 ≤ f ∧ f < d ∧ f ∣ n
    · obtain ⟨f, hf, hfd, hfn⟩ := h
      obtain ⟨e, h1, h3⟩ := least_prm h2 k f (by omega) hf hfn
      exact ⟨e, by omega, h3⟩
    · refine ⟨d, Nat.le_refl _, ⟨hd, fun f hf hfd hm => h ⟨f, hf, hfd, Nat.dvd_trans (Nat.dvd_of_mod_eq_zero hm) hdn⟩⟩, hdn, fun f hf hfn => ?_⟩
      rcases Nat.lt_or_ge f d with h1 | h1
      · exact absurd ⟨f, hf, h1, hfn⟩ h
      · exact h1
theorem has_least {n : Nat} (h2 : 2 ≤ n) : ∃ e, Prm e ∧ e ∣ n ∧ ∀ f, 2 ≤ f → f ∣ n → e ≤ f := by
  obtain ⟨e, _, h1, h3, h4⟩ := least_prm h2 n n (Nat.le_refl _) h2 (Nat.dvd_refl _)
  exact ⟨e, h1, h3, h4⟩
/-- .. and its square is no more, if the number isn't a prime. -/
theorem least_sq {n e : Nat} (h2 : 2 ≤ n) (hn : ¬ Prm n) (he : ∀ f, 2 ≤ f → f ∣ n → e ≤ f) : e * e ≤ n := by
  have h : ∃ d, 2 ≤ d ∧ d < n ∧ n % d = 0 := Classical.byContradiction fun hno => hn ⟨h2, fun d h1 h3 h4 => hno ⟨d, h1, h3, h4⟩⟩
  obtain ⟨d, h1, h3, h4⟩ := h
  obtain ⟨f, hf, hfn, hff⟩ := small_div h1 h3 h4
  exact Nat.le_trans (Nat.mul_le_mul (he f hf hfn) (he f hf hfn)) hff

/-! ### Powers, halved -/
theorem pow_half (a k p : Nat) : a ^ k % p = ((a ^ (k / 2) % p) * (a ^ (k / 2) % p) % p) * (a % p) ^ (k % 2) % p := by
  have e : a ^ k = (a ^ (k / 2) * a ^ (k / 2)) * a ^ (k % 2) := by
    rw [← Nat.pow_add, ← Nat.pow_add]
    congr 1
    omega
  rw [e, Nat.mul_mod, Nat.mul_mod (a ^ (k / 2)), Nat.pow_mod a (k % 2)]
  simp [Nat.mul_mod, Nat.pow_mod]
/-- What a number is multiplied with to be 1. -/
theorem inverse_pow {p a : Nat} (h : Prm p) (ha : ¬ p ∣ a) : (a % p) * (a ^ (p - 2) % p) % p = 1 := by
  have h2 := h.1
  rw [← Nat.mul_mod, Nat.mul_comm, ← Nat.pow_succ, show (p - 2).succ = p - 1 by omega]
  exact fermat_one h a ha

/-! ### The greatest prime that is asked for -/
/-- No odd number of so many from a place on divides (halved: no deep recursion). -/
def noDiv (n : Nat) : Nat → Nat → Bool
  | 0, s => n % (2 * s + 3) != 0
  | d + 1, s => noDiv n d s && noDiv n d (s + 2 ^ d)
theorem noDiv_spec (n : Nat) : ∀ d s, noDiv n d s = true → ∀ k, s ≤ k → k < s + 2 ^ d → n % (2 * k + 3) ≠ 0
  | 0, s, h, k, h1, h2 => by
    obtain rfl : k = s := by simp at h2; omega
    simpa [noDiv] using h
  | d + 1, s, h, k, h1, h2 => by
    rw [noDiv, Bool.and_eq_true] at h
    rw [Nat.pow_succ] at h2
    by_cases hk : k < s + 2 ^ d
    · exact noDiv_spec n d s h.1 k h1 hk
    · exact noDiv_spec n d (s + 2 ^ d) h.2 k (by omega) (by omega)
theorem prm_last : Prm 2147483647 := prm_odd (by decide) (by decide) fun k hk => by
  have h0 : noDiv 2147483647 15 0 = true := by decide +kernel
  refine noDiv_spec _ 15 0 h0 k (Nat.zero_le _) ?_
  rcases Nat.lt_or_ge k 32768 with h | h
  · simpa using h
  · have := Nat.mul_le_mul (show 65539 ≤ 2 * k + 3 by omega) (show 65539 ≤ 2 * k + 3 by omega)
    omega
end Go.Proofs.YtgpbmbefdgbblaaDoor
