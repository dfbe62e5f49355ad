/-
  Numbers, plain facts for layer 8: the least one that divides, found; which numbers are prime, as a Boolean; what is tried, one behind another; the primes between two numbers. No program.
-/
import Derived.Test.YtgpbmbefdgbblaaDoorFpure
namespace Go.Proofs.YtgpbmbefdgbblaaDoor

/-- The least number from 2 on that divides (0: none). -/
def lst (n : Nat) : Nat := ((List.range (n + 1)).find? fun d => decide (2 ≤ d) && n % d == 0).getD 0
theorem lst_eq {n e : Nat} (h2 : 2 ≤ n) (he : 2 ≤ e) (hd : e ∣ n) (hm : ∀ f, 2 ≤ f → f ∣ n → e ≤ f) : lst n = e := by
  have hle := Nat.le_of_dvd (by omega) hd
  have h : (List.range (n + 1)).find? (fun d => decide (2 ≤ d) && n % d == 0) = some e := by
    rw [List.find?_range_eq_some]
    refine ⟨by simpa using ⟨he, Nat.mod_eq_zero_of_dvd hd⟩, by simp; omega, fun j hj => ?_⟩
    simp only [Bool.not_eq_true', Bool.and_eq_false_iff, decide_eq_false_iff_not, beq_eq_false_iff_ne]
    by_cases h : 2 ≤ j
    · refine .inr fun hz => ?_
      have := hm j h (Nat.dvd_of_mod_eq_zero hz)
      omega
    · exact .inl h
  rw [lst, h, Option.getD_some]
theorem lst_spec {n : Nat} (h2 : 2 ≤ n) : Prm (lst n) ∧ lst n ∣ n ∧ ∀ f, 2 ≤ f → f ∣ n → lst n ≤ f := by
  obtain ⟨e, h1, h3, h4⟩ := has_least h2
  rw [lst_eq h2 h1.1 h3 h4]
  exact ⟨h1, h3, h4⟩
theorem lst_prm {n : Nat} (h2 : 2 ≤ n) : lst n = n ↔ Prm n := by
  refine ⟨fun h => h ▸ (lst_spec h2).1, fun h => lst_eq h2 h2 (Nat.dvd_refl n) fun f hf hd => ?_⟩
  rcases h.dvd_eq hd with e | e <;> omega
theorem lst_range {n : Nat} (h2 : 2 ≤ n) : 2 ≤ lst n ∧ lst n ≤ n := ⟨(lst_spec h2).1.1, (lst_spec h2).2.2 n h2 (Nat.dvd_refl n)⟩

/-- What prime.Least tells. -/
def leastOf (n : Int) : Int := if n < 2 ∨ 2147483648 < n then 0 else (lst n.toNat : Int)
/-- What prime.Is tells. -/
def isP (n : Int) : Bool := decide (2 ≤ n) && (leastOf n == n)
theorem isP_iff (n : Int) : isP n = true ↔ 2 ≤ n ∧ n ≤ 2147483648 ∧ Prm n.toNat := by
  unfold isP leastOf
  by_cases h1 : 2 ≤ n
  · by_cases h2 : n ≤ 2147483648
    · rw [if_neg (by omega), decide_eq_true h1, Bool.true_and, beq_iff_eq, ← lst_prm (by omega)]
      omega
    · rw [if_pos (by omega), decide_eq_true h1, Bool.true_and, beq_iff_eq]
      omega
  · simp [h1]
theorem isP_false (n : Int) : isP n = false ↔ ¬ (2 ≤ n ∧ n ≤ 2147483648 ∧ Prm n.toNat) := by
  rw [← isP_iff]; simp
theorem isP_prm {n : Int} (h : isP n = true) : Prm n.toNat := ((isP_iff n).1 h).2.2
theorem isP_range {n : Int} (h : isP n = true) : 2 ≤ n ∧ n ≤ 2147483648 := ⟨((isP_iff n).1 h).1, ((isP_iff n).1 h).2.1⟩
theorem isP_two : isP 2 = true := (isP_iff 2).2 ⟨by omega, by omega, prm_two⟩
theorem isP_last : isP 2147483647 = true := (isP_iff _).2 ⟨by omega, by omega, prm_last⟩
theorem isP_small {n : Int} (h : n < 2) : isP n = false := (isP_false n).2 (by omega)
theorem isP_great {n : Int} (h : 2147483647 < n) : isP n = false := (isP_false n).2 fun ⟨_, h2, h3⟩ => by
  obtain rfl : n = 2147483648 := by omega
  exact not_even (by decide) (by decide) h3

/-! ### What is tried -/
/-- The trial at a place: 2, then the odd numbers. -/
def tri (k : Nat) : Int := if k = 0 then 2 else 2 * (k : Int) + 1
def trl (k : Nat) : List Int := (List.range k).map tri
theorem trl_zero : trl 0 = [] := rfl
theorem trl_one : trl 1 = [2] := rfl
theorem trl_succ (k : Nat) : trl (k + 1) = trl k ++ [tri k] := by simp [trl, List.range_succ]
theorem trl_length (k : Nat) : (trl k).length = k := by simp [trl]
theorem tri_zero : tri 0 = 2 := rfl
theorem tri_succ (k : Nat) : tri (k + 1) = 2 * (k : Int) + 3 := by unfold tri; rw [if_neg (by omega)]; omega
theorem tri_mem {k j : Nat} (h : j < k) : tri j ∈ trl k := List.mem_map.2 ⟨j, List.mem_range.2 h, rfl⟩

/-- No trial up to the square divides: a prime. -/
theorem trl_done {n k : Nat} (h2 : 2 ≤ n) (hk : 1 ≤ k) (hs : (n : Int) < tri k * tri k) (h : ∀ x ∈ trl k, (n : Int) % x ≠ 0) : lst n = n := by
  have h0 := h 2 (tri_mem (j := 0) hk)
  refine (lst_prm h2).2 (prm_odd h2 (by omega) fun i hi hm => ?_)
  by_cases hik : i + 1 < k
  · refine h (tri (i + 1)) (tri_mem hik) ?_
    rw [tri_succ]
    have : ((n % (2 * i + 3) : Nat) : Int) = 0 := by rw [hm]; rfl
    simpa using this
  · have e : tri k = (2 * (k - 1 : Nat) + 3 : Nat) := by
      obtain ⟨q, rfl⟩ : ∃ q, k = q + 1 := ⟨k - 1, by omega⟩
      rw [tri_succ]
      simp
    rw [e] at hs
    have h3 := Nat.mul_le_mul (show 2 * (k - 1) + 3 ≤ 2 * i + 3 by omega) (show 2 * (k - 1) + 3 ≤ 2 * i + 3 by omega)
    have h4 : n < (2 * (k - 1) + 3) * (2 * (k - 1) + 3) := by exact_mod_cast hs
    omega
/-- The first trial that divides is the least number that does. -/
theorem trl_found {n k : Nat} (h2 : 2 ≤ n) (hd : (n : Int) % tri k = 0) (h : ∀ x ∈ trl k, (n : Int) % x ≠ 0) : ((lst n : Nat) : Int) = tri k := by
  obtain ⟨e, he⟩ : ∃ e : Nat, tri k = e := by
    cases k with
    | zero => exact ⟨2, rfl⟩
    | succ k => exact ⟨2 * k + 3, by rw [tri_succ]; omega⟩
  have he2 : 2 ≤ e := by
    cases k with
    | zero => rw [tri_zero] at he; omega
    | succ k => rw [tri_succ] at he; omega
  have hdv : e ∣ n := Nat.dvd_of_mod_eq_zero (by rw [he] at hd; exact_mod_cast hd)
  rw [he, lst_eq h2 he2 hdv]
  intro f hf hfn
  rcases Nat.lt_or_ge f e with hlt | hge
  · exfalso
    have hm := Nat.mod_eq_zero_of_dvd hfn
    rcases Nat.mod_two_eq_zero_or_one f with h0 | h1
    · have hk : 0 < k := by
        rcases Nat.eq_zero_or_pos k with rfl | hk
        · rw [tri_zero] at he; omega
        · exact hk
      have : 2 ∣ n := Nat.dvd_trans (Nat.dvd_of_mod_eq_zero h0) hfn
      exact h 2 (tri_mem (j := 0) hk) (by have := Nat.mod_eq_zero_of_dvd this; omega)
    · obtain ⟨j, rfl⟩ : ∃ j, f = 2 * j + 3 := ⟨(f - 3) / 2, by omega⟩
      have hjk : j + 1 < k := by
        cases k with
        | zero => rw [tri_zero] at he; omega
        | succ k => rw [tri_succ] at he; omega
      refine h (tri (j + 1)) (tri_mem hjk) ?_
      rw [tri_succ]
      have : ((n % (2 * j + 3) : Nat) : Int) = 0 := by rw [hm]; rfl
      simpa using this
  · exact hge

/-! ### The primes from a number on, so many numbers far -/
def pls (a : Int) (k : Nat) : List Int := ((List.range k).map fun j : Nat => a + (j : Int)).filter isP
theorem pls_zero (a : Int) : pls a 0 = [] := rfl
theorem pls_yes {a : Int} {k : Nat} (h : isP (a + k) = true) : pls a (k + 1) = pls a k ++ [a + k] := by
  simp [pls, List.range_succ, h]
theorem pls_no {a : Int} {k : Nat} (h : isP (a + k) = false) : pls a (k + 1) = pls a k := by
  simp [pls, List.range_succ, h]
theorem pls_mem {a x : Int} {k : Nat} : x ∈ pls a k ↔ a ≤ x ∧ x < a + k ∧ isP x = true := by
  unfold pls
  rw [List.mem_filter, List.mem_map]
  constructor
  · rintro ⟨⟨j, hj, rfl⟩, hp⟩
    have := List.mem_range.1 hj
    exact ⟨by omega, by omega, hp⟩
  · rintro ⟨h1, h2, h3⟩
    exact ⟨⟨(x - a).toNat, List.mem_range.2 (by omega), by omega⟩, h3⟩
theorem pls_length (a : Int) (k : Nat) : (pls a k).length ≤ k := by
  unfold pls
  refine Nat.le_trans (List.length_filter_le _ _) (by simp)
theorem pls_le (a : Int) : ∀ k m : Nat, k ≤ m → pls a k <+: pls a m
  | k, 0, h => by obtain rfl : k = 0 := by omega
                  exact List.prefix_rfl
  | k, m + 1, h => by
    by_cases e : k = m + 1
    · subst e; exact List.prefix_rfl
    · refine List.IsPrefix.trans (pls_le a k m (by omega)) ?_
      cases hp : isP (a + m) with
      | true => rw [pls_yes hp]; exact List.prefix_append _ _
      | false => rw [pls_no hp]; exact List.prefix_rfl
theorem pls_length_lt {a : Int} {k m : Nat} (h : k < m) (hp : isP (a + k) = true) : (pls a k).length < (pls a m).length := by
  have := (pls_le a (k + 1) m h).length_le
  rw [pls_yes hp, List.length_append, List.length_singleton] at this
  omega
/-- At the place of a prime there lies this prime. -/
theorem pls_at {a : Int} {k m : Nat} (h : k < m) (hp : isP (a + k) = true) : (pls a m)[(pls a k).length]? = some (a + k) := by
  obtain ⟨t, ht⟩ := pls_le a (k + 1) m h
  rw [← ht, pls_yes hp, List.append_assoc, List.getElem?_append_right (Nat.le_refl _), Nat.sub_self]
  rfl
/-- The first one that comes. -/
theorem pls_first {a p : Int} {k : Nat} (h : pls a k = [p]) : a ≤ p ∧ p < a + k ∧ isP p = true ∧ ∀ q, a ≤ q → q < p → isP q = false := by
  have hp : p ∈ pls a k := by rw [h]; exact List.mem_singleton.2 rfl
  obtain ⟨h1, h2, h3⟩ := pls_mem.1 hp
  refine ⟨h1, h2, h3, fun q hq hlt => ?_⟩
  cases hb : isP q with
  | false => rfl
  | true =>
    have : q ∈ pls a k := pls_mem.2 ⟨hq, by omega, hb⟩
    rw [h] at this
    have := List.mem_singleton.1 this
    omega

/-! ### Powers and inverses -/
/-- A number to a power, modulo another one. -/
def pwr (a : Int) (k : Nat) (p : Int) : Int := (((a % p).toNat ^ k % p.toNat : Nat) : Int)
theorem pwr_range (a : Int) (k : Nat) {p : Int} (h : 1 ≤ p) : 0 ≤ pwr a k p ∧ pwr a k p < p := by
  unfold pwr
  have := Nat.mod_lt ((a % p).toNat ^ k) (show 0 < p.toNat by omega)
  omega
theorem pwr_zero (a : Int) {p : Int} (h : 1 ≤ p) : pwr a 0 p = 1 % p := by
  unfold pwr
  rw [Nat.pow_zero]
  have e : ((p.toNat : Nat) : Int) = p := by omega
  rw [Int.natCast_emod, e]
  rfl
theorem mod_toNat {a p : Int} (h : 1 ≤ p) : (((a % p).toNat : Nat) : Int) = a % p := by
  have := Int.emod_nonneg a (show p ≠ 0 by omega)
  omega
/-- A power out of the power of the half. -/
theorem pwr_half (a : Int) (k : Nat) {p : Int} (h : 1 ≤ p) : pwr a k p = if k % 2 = 1 then pwr a (k / 2) p * pwr a (k / 2) p % p * (a % p) % p else pwr a (k / 2) p * pwr a (k / 2) p % p := by
  have e : ((p.toNat : Nat) : Int) = p := by omega
  have hh := pow_half (a % p).toNat k p.toNat
  rcases Nat.mod_two_eq_zero_or_one k with h0 | h1
  · rw [if_neg (by omega)]
    rw [h0, Nat.pow_zero, Nat.mul_one, Nat.mod_mod] at hh
    unfold pwr
    rw [hh, Int.natCast_emod, Int.natCast_mul, e]
  · rw [if_pos h1]
    have hlt : (a % p).toNat % p.toNat = (a % p).toNat := Nat.mod_eq_of_lt (by have := Int.emod_lt_of_pos a (show 0 < p by omega); omega)
    rw [h1, Nat.pow_one, hlt] at hh
    unfold pwr
    rw [hh, Int.natCast_emod, Int.natCast_mul, Int.natCast_emod, Int.natCast_mul, e, mod_toNat h]
/-- What is left of a power on the way: so much is done, so much is to come. -/
def PwInv (a : Int) (K : Nat) (p x y : Int) (k : Nat) : Prop := 0 ≤ x ∧ x < p ∧ 0 ≤ y ∧ y < p ∧ x.toNat * y.toNat ^ k % p.toNat = (a % p).toNat ^ K % p.toNat
theorem PwInv.start (a : Int) (K : Nat) {p : Int} (h : 1 ≤ p) : PwInv a K p (1 % p) (a % p) K := by
  have h1 := Int.emod_nonneg 1 (show p ≠ 0 by omega)
  have h2 := Int.emod_lt_of_pos 1 (show 0 < p by omega)
  have h3 := Int.emod_nonneg a (show p ≠ 0 by omega)
  have h4 := Int.emod_lt_of_pos a (show 0 < p by omega)
  refine ⟨h1, h2, h3, h4, ?_⟩
  have e : (1 % p).toNat = 1 % p.toNat := by
    have : ((1 % p).toNat : Int) = ((1 % p.toNat : Nat) : Int) := by
      rw [Int.natCast_emod, mod_toNat h]
      congr 1
      omega
    exact_mod_cast this
  rw [e, Nat.mod_mul_mod, Nat.one_mul]
theorem mul_toNat {x y p : Int} (hx : 0 ≤ x) (hy : 0 ≤ y) (h : 1 ≤ p) : (x * y % p).toNat = x.toNat * y.toNat % p.toNat := by
  have : ((x * y % p).toNat : Int) = ((x.toNat * y.toNat % p.toNat : Nat) : Int) := by
    rw [mod_toNat h, Int.natCast_emod, Int.natCast_mul]
    congr 1
    · congr 1 <;> omega
    · omega
  exact_mod_cast this
theorem PwInv.even {a : Int} {K : Nat} {p x y : Int} {k : Nat} (h1 : 1 ≤ p) (hk : k % 2 = 0) (h : PwInv a K p x y k) : PwInv a K p x (y * y % p) (k / 2) := by
  obtain ⟨hx0, hx1, hy0, hy1, he⟩ := h
  refine ⟨hx0, hx1, Int.emod_nonneg _ (by omega), Int.emod_lt_of_pos _ (by omega), ?_⟩
  rw [mul_toNat hy0 hy0 h1, ← he, Nat.mul_mod, ← Nat.pow_mod, ← Nat.mul_mod]
  congr 2
  rw [← Nat.pow_two, ← Nat.pow_mul]
  congr 1
  omega
theorem PwInv.odd {a : Int} {K : Nat} {p x y : Int} {k : Nat} (h1 : 1 ≤ p) (hk : k % 2 = 1) (h : PwInv a K p x y k) : PwInv a K p (x * y % p) (y * y % p) (k / 2) := by
  obtain ⟨hx0, hx1, hy0, hy1, he⟩ := h
  refine ⟨Int.emod_nonneg _ (by omega), Int.emod_lt_of_pos _ (by omega), Int.emod_nonneg _ (by omega), Int.emod_lt_of_pos _ (by omega), ?_⟩
  rw [mul_toNat hy0 hy0 h1, mul_toNat hx0 hy0 h1, ← he, Nat.mul_mod, ← Nat.pow_mod, ← Nat.mul_mod, Nat.mod_mul_mod]
  congr 1
  rw [Nat.mul_assoc]
  congr 1
  rw [← Nat.pow_two, ← Nat.pow_mul, ← Nat.pow_succ']
  congr 1
  omega
theorem PwInv.done {a : Int} {K : Nat} {p x y : Int} (h1 : 1 ≤ p) (h : PwInv a K p x y 0) : x = pwr a K p := by
  obtain ⟨hx0, hx1, _, _, he⟩ := h
  rw [Nat.pow_zero, Nat.mul_one, Nat.mod_eq_of_lt (by omega)] at he
  unfold pwr
  rw [← he]
  omega
theorem pwr_fermat (a : Int) {p : Int} (hp : isP p = true) : pwr a p.toNat p = a % p := by
  have h1 := (isP_range hp).1
  unfold pwr
  rw [fermat (isP_prm hp), Nat.mod_eq_of_lt (by have := Int.emod_lt_of_pos a (show 0 < p by omega); omega), mod_toNat (by omega)]
theorem pwr_inverse (a : Int) {p : Int} (hp : isP p = true) (ha : a % p ≠ 0) : pwr a (p.toNat - 2) p * (a % p) % p = 1 ∧ 1 ≤ pwr a (p.toNat - 2) p ∧ pwr a (p.toNat - 2) p < p := by
  have h1 := (isP_range hp).1
  have h3 := Int.emod_nonneg a (show p ≠ 0 by omega)
  have h4 := Int.emod_lt_of_pos a (show 0 < p by omega)
  have hd : ¬ p.toNat ∣ (a % p).toNat := fun h => by
    have := Nat.le_of_dvd (by omega) h
    omega
  have hi := inverse_pow (isP_prm hp) hd
  rw [Nat.mod_eq_of_lt (show (a % p).toNat < p.toNat by omega)] at hi
  have hr := pwr_range a (p.toNat - 2) (show 1 ≤ p by omega)
  have e : pwr a (p.toNat - 2) p * (a % p) % p = 1 := by
    rw [Int.mul_comm]
    have : ((((a % p).toNat * ((a % p).toNat ^ (p.toNat - 2) % p.toNat) % p.toNat : Nat)) : Int) = 1 := by rw [hi]; rfl
    rw [Int.natCast_emod, Int.natCast_mul, mod_toNat (by omega)] at this
    rw [show ((p.toNat : Nat) : Int) = p by omega] at this
    exact this
  refine ⟨e, ?_, hr.2⟩
  rcases Int.lt_or_le 0 (pwr a (p.toNat - 2) p) with h | h
  · omega
  · have h0 : pwr a (p.toNat - 2) p = 0 := by omega
    rw [h0, Int.zero_mul, Int.zero_emod] at e
    omega
end Go.Proofs.YtgpbmbefdgbblaaDoor
