/-
  Plain facts of a table's filling: turn by turn the first free place of one's own order; all places are taken, each backend has its share. No program. · Numbers, plain facts for layer 8: primes, Euclid's lemma, a number to the power of a prime (Fermat), inverses, division up to the square, the least one that divides, powers halved; 2147483647 is prime. No program. · Numbers, plain facts for layer 8: the least one that divides, found; which numbers are prime, as a Boolean; what is tried, one behind another; the primes between two numbers. No program. · Blocks that are known whole, and what stays: for the texts of layer 5. · prime: what is tried, one behind another (an iterator). · prime.Least and prime.Is, inside a fence and outside. · The document's Is, Rest, Power and Least (linkboyref08); prime.rest. · prime.Power, and the law PrimePowers but for the example. · prime.Inverse. · Plain facts of strides: the places, the number of a place. · Blocks known whole, and steps of a region that draws its order: for the texts of layer 5; two keys held against each other. · stride: sized, Right, rest, order and what it makes; the document's Sized, Right. · stride: Place, When, All, the cursor; the document's All; linkboynum.SameInts; the example. · stride: All of a right stride, the cursor; the document's All; linkboynum.SameInts; the example.
-/
import Derived.Test.YtahconkjhneogaaGreatDoorChecked
import Derived.WalkKit
import Derived.WalkSpells
import Derived.WalkLawsBesides
import Derived.BigQuiet
import Derived.Deep.QuietTactic
import Derived.Deep.WholeRow
import Derived.Lib.Hide
import Derived.Laws.CopyOwn
import Derived.Lib.Split
import Derived.RangeFuncNested
import Derived.RangeFuncBound
import Derived.RangeFuncCalls
import Derived.RangeFuncLeaves
import Derived.RangeFuncWrites
import Derived.RangeFuncBox
import Derived.Shelf.Abstract
import Derived.Shelf.RegionOpen
import Derived.OwnWalkIn
import Derived.LoopNIn
import Derived.LoopIn
import Derived.TacticsInMore
import Derived.Deep.RegionHeld3
import Derived.Stop.BytesEq
import Derived.RegionTactic
import Derived.Deep.OwnRows
import Derived.OwnWalk
import Derived.Laws.OwnMore
import Derived.Deep.DeepMust
import Derived.Deep.LoopGhost
namespace Go.Proofs.YtahconkjhneogaaGreatDoor

/-- The first number from j on whose place is free, within so many. -/
def firstFree (S : List Int) (f : Nat → Nat) : Nat → Nat → Nat
  | 0, j => j
  | g + 1, j => if S.getD (f j) 0 = -1 then j else firstFree S f g (j + 1)

theorem firstFree_eq (S : List Int) (f : Nat → Nat) : ∀ (g j J : Nat), j ≤ J → J ≤ j + g → (J < j + g → S.getD (f J) 0 = -1) → (∀ i, j ≤ i → i < J → S.getD (f i) 0 ≠ -1) → firstFree S f g j = J
  | 0, j, J, h1, h2, _, _ => by unfold firstFree; omega
  | g + 1, j, J, h1, h2, h3, h4 => by
    unfold firstFree
    by_cases h : S.getD (f j) 0 = -1
    · rw [if_pos h]
      by_cases e : j = J
      · exact e
      · exact absurd h (h4 j (Nat.le_refl _) (by omega))
    · rw [if_neg h]
      by_cases e : j = J
      · subst e
        exact absurd (h3 (by omega)) h
      · exact firstFree_eq S f g (j + 1) J (by omega) (by omega) (fun h => h3 (by omega)) (fun i a b => h4 i (by omega) b)

theorem firstFree_spec (S : List Int) (f : Nat → Nat) : ∀ (g j : Nat), (∃ J, j ≤ J ∧ J < j + g ∧ S.getD (f J) 0 = -1) →
    j ≤ firstFree S f g j ∧ firstFree S f g j < j + g ∧ S.getD (f (firstFree S f g j)) 0 = -1 ∧ ∀ i, j ≤ i → i < firstFree S f g j → S.getD (f i) 0 ≠ -1
  | 0, j, ⟨J, h1, h2, _⟩ => by omega
  | g + 1, j, ⟨J, h1, h2, h3⟩ => by
    unfold firstFree
    by_cases h : S.getD (f j) 0 = -1
    · rw [if_pos h]
      exact ⟨Nat.le_refl _, by omega, h, fun i a b => by omega⟩
    · rw [if_neg h]
      have hne : j ≠ J := by rintro rfl; exact h h3
      obtain ⟨a, b, c, d⟩ := firstFree_spec S f g (j + 1) ⟨J, by omega, by omega, h3⟩
      exact ⟨by omega, by omega, c, fun i h1 h2 => by
        by_cases e : i = j
        · subst e; exact h
        · exact d i (by omega) h2⟩

/-- The slots behind so many turns; ord i j is backend i's place number j. -/
def fillT (ord : Nat → Nat → Nat) (n M : Nat) : Nat → List Int
  | 0 => List.replicate M (-1)
  | t + 1 => (fillT ord n M t).set (ord (t % n) (firstFree (fillT ord n M t) (ord (t % n)) M 0)) ((t % n : Nat) : Int)

/-- The orders go over all places. -/
def Onto (ord : Nat → Nat → Nat) (n M : Nat) : Prop := ∀ i, i < n → (∀ j, ord i j < M) ∧ ∀ p, p < M → ∃ j, j < M ∧ ord i j = p

theorem fillT_length (ord : Nat → Nat → Nat) (n M : Nat) : ∀ t, (fillT ord n M t).length = M
  | 0 => by simp [fillT]
  | t + 1 => by simp [fillT, fillT_length ord n M t]

/-- How many of the first turns are one's own. -/
def turns (n i : Nat) : Nat → Nat
  | 0 => 0
  | t + 1 => turns n i t + if t % n = i then 1 else 0

theorem count_set_free {S : List Int} {p : Nat} (hp : p < S.length) (hf : S[p] = -1) (v a : Int) : (S.set p v).count a = S.count a - (if (-1 : Int) = a then 1 else 0) + (if v = a then 1 else 0) := by
  rw [List.count_set hp, hf]
  simp

theorem free_exists {S : List Int} (h : 0 < S.count (-1)) : ∃ p, ∃ hp : p < S.length, S[p] = -1 := List.getElem_of_mem (List.count_pos_iff.1 h)

theorem fillT_facts {ord : Nat → Nat → Nat} {n M : Nat} (hn : 0 < n) (ho : Onto ord n M) : ∀ t, t ≤ M →
    (fillT ord n M t).count (-1) = M - t ∧ (∀ i, i < n → (fillT ord n M t).count (i : Int) = turns n i t) ∧ (∀ x ∈ fillT ord n M t, x = -1 ∨ (0 ≤ x ∧ x < n))
  | 0, _ => by
    refine ⟨by simp [fillT], fun i hi => ?_, fun x hx => .inl (by simp [fillT] at hx; exact hx.2)⟩
    simp only [fillT, turns]
    rw [List.count_eq_zero]
    intro h
    have := (List.mem_replicate.1 h).2
    omega
  | t + 1, ht => by
    obtain ⟨h1, h2, h3⟩ := fillT_facts hn ho t (by omega)
    have hl := fillT_length ord n M t
    obtain ⟨p, hp, hpf⟩ := free_exists (S := fillT ord n M t) (by omega)
    have hi := Nat.mod_lt t hn
    obtain ⟨o1, o2⟩ := ho (t % n) hi
    obtain ⟨J, hJ, hJp⟩ := o2 p (by omega)
    obtain ⟨_, _, c, _⟩ := firstFree_spec (fillT ord n M t) (ord (t % n)) M 0 ⟨J, by omega, by omega, by rw [hJp, List.getD_eq_getElem?_getD, List.getElem?_eq_getElem hp, hpf]; rfl⟩
    have hq := o1 (firstFree (fillT ord n M t) (ord (t % n)) M 0)
    generalize hQ : ord (t % n) (firstFree (fillT ord n M t) (ord (t % n)) M 0) = q at c hq
    have hq' : q < (fillT ord n M t).length := by omega
    have cf : (fillT ord n M t)[q] = -1 := by
      rw [List.getD_eq_getElem?_getD, List.getElem?_eq_getElem hq'] at c
      exact c
    have e : fillT ord n M (t + 1) = (fillT ord n M t).set q ((t % n : Nat) : Int) := by
      show (fillT ord n M t).set (ord (t % n) (firstFree (fillT ord n M t) (ord (t % n)) M 0)) _ = _
      rw [hQ]
    refine ⟨?_, fun i hin => ?_, fun x hx => ?_⟩
    · rw [e, count_set_free hq' cf, h1, if_pos rfl, if_neg (by omega)]
      omega
    · rw [e, count_set_free hq' cf, h2 i hin, if_neg (by omega)]
      simp only [turns]
      by_cases g : t % n = i
      · rw [if_pos g, if_pos (by omega)]; rfl
      · rw [if_neg g, if_neg (by omega)]; rfl
    · rw [e] at hx
      rcases List.mem_or_eq_of_mem_set hx with h | h
      · exact h3 x h
      · exact .inr (by omega)

/-- Before the last turn a place is free; the first free one. -/
theorem fillT_step {ord : Nat → Nat → Nat} {n M : Nat} (hn : 0 < n) (ho : Onto ord n M) {t : Nat} (ht : t < M) :
    ∃ J, J < M ∧ (fillT ord n M t).getD (ord (t % n) J) 0 = -1 ∧ (∀ i, i < J → (fillT ord n M t).getD (ord (t % n) i) 0 ≠ -1) ∧ fillT ord n M (t + 1) = (fillT ord n M t).set (ord (t % n) J) ((t % n : Nat) : Int) := by
  obtain ⟨h1, _, _⟩ := fillT_facts hn ho t (by omega)
  have hl := fillT_length ord n M t
  obtain ⟨p, hp, hpf⟩ := free_exists (S := fillT ord n M t) (by omega)
  obtain ⟨o1, o2⟩ := ho (t % n) (Nat.mod_lt t hn)
  obtain ⟨J, hJ, hJp⟩ := o2 p (by omega)
  obtain ⟨_, b, c, d⟩ := firstFree_spec (fillT ord n M t) (ord (t % n)) M 0 ⟨J, by omega, by omega, by rw [hJp, List.getD_eq_getElem?_getD, List.getElem?_eq_getElem hp, hpf]; rfl⟩
  exact ⟨_, by omega, c, fun i hi => d i (by omega) hi, rfl⟩

theorem fillT_set {ord : Nat → Nat → Nat} {n M t J : Nat} (hJ : J < M) (h : (fillT ord n M t).getD (ord (t % n) J) 0 = -1) (hb : ∀ i, i < J → (fillT ord n M t).getD (ord (t % n) i) 0 ≠ -1) :
    (fillT ord n M t).set (ord (t % n) J) ((t % n : Nat) : Int) = fillT ord n M (t + 1) := by
  rw [fillT, firstFree_eq _ _ M 0 J (by omega) (by omega) (fun _ => h) (fun i _ hi => hb i hi)]

theorem fillT_end {ord : Nat → Nat → Nat} {n M : Nat} (hn : 0 < n) (ho : Onto ord n M) : ∀ x ∈ fillT ord n M M, 0 ≤ x ∧ x < n := fun x hx => by
  obtain ⟨h1, _, h3⟩ := fillT_facts hn ho M (Nat.le_refl _)
  rcases h3 x hx with rfl | h
  · have := List.count_pos_iff.2 hx
    omega
  · exact h

theorem turns_eq {n i : Nat} (hi : i < n) : ∀ t, turns n i t = t / n + if i < t % n then 1 else 0
  | 0 => by simp [turns]
  | t + 1 => by
    rw [turns, turns_eq hi t]
    have hn : 0 < n := by omega
    have hm := Nat.mod_lt t hn
    have hd := Nat.div_add_mod t n
    by_cases h : t % n + 1 = n
    · have e1 : (t + 1) % n = 0 := by
        rw [show t + 1 = n * (t / n + 1) by rw [Nat.mul_add]; omega]
        exact Nat.mul_mod_right _ _
      have e2 : (t + 1) / n = t / n + 1 := by
        rw [show t + 1 = n * (t / n + 1) by rw [Nat.mul_add]; omega]
        exact Nat.mul_div_cancel_left _ hn
      rw [e1, e2]
      by_cases g : t % n = i
      · rw [if_pos g, if_neg (by omega), if_neg (by omega)]
      · rw [if_neg g, if_pos (by omega), if_neg (by omega)]
    · have e : t + 1 = n * (t / n) + (t % n + 1) := by omega
      have e1 : (t + 1) % n = t % n + 1 := by
        rw [e, Nat.mul_add_mod, Nat.mod_eq_of_lt (show t % n + 1 < n by omega)]
      have e2 : (t + 1) / n = t / n := by
        rw [e, Nat.mul_add_div hn, Nat.div_eq_of_lt (show t % n + 1 < n by omega)]
        omega
      rw [e1, e2]
      by_cases g : t % n = i
      · rw [if_pos g, if_neg (by omega), if_pos (by omega)]
      · rw [if_neg g]
        by_cases k : i < t % n
        · rw [if_pos k, if_pos (by omega)]
        · rw [if_neg k, if_neg (by omega)]

/-- Each has the floor or the ceiling of its share. -/
theorem turns_share {n i : Nat} (hi : i < n) (M : Nat) : turns n i M = M / n ∨ turns n i M = (M + n - 1) / n := by
  rw [turns_eq hi M]
  have hn : 0 < n := by omega
  have hm := Nat.mod_lt M hn
  have hd := Nat.div_add_mod M n
  by_cases h : i < M % n
  · rw [if_pos h]
    refine .inr ?_
    have e : M + n - 1 = n * (M / n + 1) + (M % n - 1) := by rw [Nat.mul_add]; omega
    rw [e, Nat.mul_add_div hn, Nat.div_eq_of_lt (show M % n - 1 < n by omega)]
  · rw [if_neg h]
    exact .inl rfl

/-- How many the first ones have. -/
def sumTurns (n M : Nat) : Nat → Nat
  | 0 => 0
  | k + 1 => sumTurns n M k + turns n k M
theorem sumTurns_succ (n M : Nat) : ∀ k, sumTurns n (M + 1) k = sumTurns n M k + if M % n < k then 1 else 0
  | 0 => by simp [sumTurns]
  | k + 1 => by
    rw [sumTurns, sumTurns_succ n M k, sumTurns, turns]
    by_cases h : M % n = k
    · rw [if_pos h, if_neg (by omega), if_pos (by omega)]; omega
    · rw [if_neg h]
      by_cases g : M % n < k
      · rw [if_pos g, if_pos (by omega)]; omega
      · rw [if_neg g, if_neg (by omega)]; omega
theorem sumTurns_zero (n : Nat) : ∀ k, sumTurns n 0 k = 0
  | 0 => rfl
  | k + 1 => by rw [sumTurns, sumTurns_zero n k]; rfl
theorem sumTurns_all {n : Nat} (hn : 0 < n) : ∀ M, sumTurns n M n = M
  | 0 => sumTurns_zero n n
  | M + 1 => by rw [sumTurns_succ, sumTurns_all hn M, if_pos (Nat.mod_lt _ hn)]
end Go.Proofs.YtahconkjhneogaaGreatDoor

namespace Go.Proofs.YtahconkjhneogaaGreatDoor

/-- A prime number. -/
def Prm (n : Nat) : Prop := 2 ≤ n ∧ ∀ d, 2 ≤ d → d < n → n % d ≠ 0

theorem Prm.two_le {p : Nat} (h : Prm p) : 2 ≤ p := h.1
theorem Prm.dvd_eq {p d : Nat} (h : Prm p) (hd : d ∣ p) : d = 1 ∨ d = p := by
  have hp : 0 < p := by have := h.1; omega
  have hle := Nat.le_of_dvd hp hd
  have h0 : d ≠ 0 := fun e => by subst e; have := Nat.zero_dvd.1 hd; omega
  by_cases h1 : d = 1
  · exact .inl h1
  · by_cases h2 : d = p
    · exact .inr h2
    · exact absurd (Nat.mod_eq_zero_of_dvd hd) (h.2 d (by omega) (by omega))
theorem Prm.coprime {p a : Nat} (h : Prm p) (ha : ¬ p ∣ a) : Nat.Coprime p a := by
  rcases h.dvd_eq (Nat.gcd_dvd_left p a) with e | e
  · exact e
  · exact absurd (e ▸ Nat.gcd_dvd_right p a) ha
theorem Prm.euclid {p a b : Nat} (h : Prm p) (hab : p ∣ a * b) : p ∣ a ∨ p ∣ b := by
  by_cases ha : p ∣ a
  · exact .inl ha
  · exact .inr ((h.coprime ha).dvd_of_dvd_mul_left hab)

/-! ### Powers modulo a prime -/
/-- The number of ways. -/
def chs : Nat → Nat → Nat
  | _, 0 => 1
  | 0, _ + 1 => 0
  | n + 1, k + 1 => chs n k + chs n (k + 1)
theorem chs_zero (n : Nat) : chs n 0 = 1 := by cases n <;> rfl
theorem chs_above : ∀ n k, n < k → chs n k = 0
  | 0, k + 1, _ => rfl
  | n + 1, k + 1, h => by rw [chs, chs_above n k (by omega), chs_above n (k + 1) (by omega)]
theorem chs_self : ∀ n, chs n n = 1
  | 0 => rfl
  | n + 1 => by rw [chs, chs_self n, chs_above n (n + 1) (by omega)]
theorem chs_one : ∀ n, chs n 1 = n
  | 0 => rfl
  | n + 1 => by rw [chs, chs_zero, chs_one n]; omega
theorem chs_mul : ∀ n k, (k + 1) * chs (n + 1) (k + 1) = (n + 1) * chs n k
  | 0, 0 => rfl
  | 0, k + 1 => by simp [chs]
  | n + 1, 0 => by rw [chs_zero, Nat.zero_add, chs_one]; omega
  | n + 1, k + 1 => by
    have h1 := chs_mul n k
    have h2 := chs_mul n (k + 1)
    rw [chs, Nat.mul_add, h2]
    rw [show (k + 1 + 1) * chs (n + 1) (k + 1) = (k + 1) * chs (n + 1) (k + 1) + chs (n + 1) (k + 1) by rw [Nat.add_mul (k + 1) 1, Nat.one_mul], h1]
    rw [show (n + 1 + 1) * chs (n + 1) (k + 1) = (n + 1) * chs (n + 1) (k + 1) + chs (n + 1) (k + 1) by rw [Nat.add_mul (n + 1) 1, Nat.one_mul]]
    have e : chs (n + 1) (k + 1) = chs n k + chs n (k + 1) := rfl
    rw [e, Nat.mul_add]
    omega
theorem Prm.dvd_chs {p : Nat} (h : Prm p) (k : Nat) (h1 : 0 < k) (h2 : k < p) : p ∣ chs p k := by
  obtain ⟨q, rfl⟩ : ∃ q, p = q + 1 := ⟨p - 1, by omega⟩
  obtain ⟨j, rfl⟩ : ∃ j, k = j + 1 := ⟨k - 1, by omega⟩
  have e := chs_mul q j
  have hd : q + 1 ∣ (j + 1) * chs (q + 1) (j + 1) := by rw [e]; exact Nat.dvd_mul_right _ _
  rcases h.euclid hd with h3 | h3
  · have := Nat.le_of_dvd (by omega) h3
    omega
  · exact h3
/-- The sum of all ways' powers below a place. -/
def bin (x n : Nat) : Nat → Nat
  | 0 => 0
  | k + 1 => bin x n k + chs n k * x ^ k
theorem bin_succ (x n : Nat) : ∀ k, bin x (n + 1) (k + 1) = bin x n (k + 1) + x * bin x n k
  | 0 => by simp [bin, chs_zero]
  | k + 1 => by
    rw [bin, bin_succ x n k, bin, bin, bin, chs, Nat.mul_add, Nat.add_mul, Nat.pow_succ]
    have e : x * (chs n k * x ^ k) = chs n k * (x ^ k * x) := by
      rw [Nat.mul_left_comm, Nat.mul_comm x (x ^ k)]
    rw [e]
    omega
theorem bin_all (x : Nat) : ∀ n, (x + 1) ^ n = bin x n (n + 1)
  | 0 => by simp [bin, chs_zero]
  | n + 1 => by
    have e : bin x n (n + 1 + 1) = bin x n (n + 1) := by
      show bin x n (n + 1) + chs n (n + 1) * x ^ (n + 1) = _
      rw [chs_above n (n + 1) (by omega), Nat.zero_mul, Nat.add_zero]
    rw [Nat.pow_succ, bin_all x n, bin_succ, e, Nat.mul_add, Nat.mul_one, Nat.mul_comm]
    omega
theorem bin_mod {p : Nat} (h : Prm p) (x : Nat) : ∀ k, k < p → bin x p (k + 1) % p = 1 % p
  | 0, _ => by simp [bin, chs_zero]
  | k + 1, hk => by
    obtain ⟨c, hc⟩ := h.dvd_chs (k + 1) (by omega) hk
    rw [bin, Nat.add_mod, bin_mod h x k (by omega), hc, Nat.mul_assoc, Nat.mul_mod_right, Nat.add_zero, Nat.mod_mod]
/-- A number to the power of a prime is that number, modulo the prime. -/
theorem fermat {p : Nat} (h : Prm p) : ∀ a : Nat, a ^ p % p = a % p
  | 0 => by
    have := h.1
    rw [Nat.zero_pow (by omega)]
  | a + 1 => by
    have h2 := h.1
    have e : bin a p (p + 1) = bin a p p + a ^ p := by rw [bin, chs_self, Nat.one_mul]
    obtain ⟨q, hq⟩ : ∃ q, p = q + 1 := ⟨p - 1, by omega⟩
    have hb : bin a p p % p = 1 % p := by
      have := bin_mod h a q (by omega)
      rwa [← hq] at this
    rw [bin_all, e, Nat.add_mod, hb, fermat h a, ← Nat.add_mod, Nat.add_comm]
theorem fermat_one {p : Nat} (h : Prm p) (a : Nat) (ha : ¬ p ∣ a) : a ^ (p - 1) % p = 1 := by
  have h2 := h.1
  have hf := fermat h a
  obtain ⟨q, rfl⟩ : ∃ q, p = q + 1 := ⟨p - 1, by omega⟩
  rw [Nat.add_sub_cancel]
  have ha0 : 0 < a := Nat.pos_of_ne_zero (fun e => ha (e ▸ Nat.dvd_zero _))
  have h1 : 0 < a ^ q := Nat.pow_pos ha0
  have hd : q + 1 ∣ a * (a ^ q - 1) := by
    rw [Nat.mul_sub, Nat.mul_one, Nat.mul_comm, ← Nat.pow_succ]
    exact Nat.dvd_of_mod_eq_zero (Nat.sub_mod_eq_zero_of_mod_eq hf)
  rcases h.euclid hd with h3 | h3
  · exact absurd h3 ha
  · obtain ⟨c, hc⟩ := h3
    have : a ^ q = 1 + (q + 1) * c := by omega
    rw [this, Nat.add_mul_mod_self_left, Nat.mod_eq_of_lt (by omega)]

/-! ### Division -/
theorem not_prm {n d : Nat} (h2 : 2 ≤ d) (hd : d < n) (h : n % d = 0) : ¬ Prm n := fun hp => hp.2 d h2 hd h
/-- Of a number that a smaller one divides, one divides whose square is no more. -/
theorem small_div {n d : Nat} (h2 : 2 ≤ d) (hd : d < n) (h : n % d = 0) : ∃ e, 2 ≤ e ∧ e ∣ n ∧ e * e ≤ n := by
  obtain ⟨c, hc⟩ := Nat.dvd_of_mod_eq_zero h
  have hc2 : 2 ≤ c := by
    rcases Nat.lt_or_ge c 2 with h1 | h1
    · have : c = 0 ∨ c = 1 := by omega
      rcases this with rfl | rfl
      · rw [Nat.mul_zero] at hc; omega
      · rw [Nat.mul_one] at hc; omega
    · exact h1
  by_cases hle : d ≤ c
  · exact ⟨d, h2, ⟨c, hc⟩, by rw [hc]; exact Nat.mul_le_mul_left d hle⟩
  · exact ⟨c, hc2, ⟨d, by rw [hc, Nat.mul_comm]⟩, by rw [hc]; exact Nat.mul_le_mul_right c (by omega)⟩
/-- No number divides whose square is no more: a prime. -/
theorem prm_of {n : Nat} (h2 : 2 ≤ n) (h : ∀ d, 2 ≤ d → d * d ≤ n → n % d ≠ 0) : Prm n := ⟨h2, fun d hd hlt hm => by
  obtain ⟨e, he, hed, hee⟩ := small_div hd hlt hm
  exact h e he hee (Nat.mod_eq_zero_of_dvd hed)⟩
theorem sq_lt {d n : Nat} (h2 : 2 ≤ d) (h : d * d ≤ n) : d < n := by
  have := Nat.mul_le_mul_right d h2
  omega
theorem prm_odd {n : Nat} (h2 : 2 ≤ n) (ho : n % 2 = 1) (h : ∀ k, (2 * k + 3) * (2 * k + 3) ≤ n → n % (2 * k + 3) ≠ 0) : Prm n := prm_of h2 fun d hd hdd hm => by
  obtain ⟨c, hc⟩ := Nat.dvd_of_mod_eq_zero hm
  have hod : d % 2 = 1 := by
    rcases Nat.mod_two_eq_zero_or_one d with e | e
    · rw [hc, Nat.mul_mod, e, Nat.zero_mul] at ho
      cases ho
    · exact e
  obtain ⟨k, rfl⟩ : ∃ k, d = 2 * k + 3 := ⟨(d - 3) / 2, by omega⟩
  exact h k hdd hm
theorem prm_two : Prm 2 := ⟨Nat.le_refl _, fun d h1 h2 => by omega⟩
theorem not_even {n : Nat} (h : n % 2 = 0) (hn : n ≠ 2) : ¬ Prm n := fun hp => hp.2 2 (Nat.le_refl _) (by have := hp.1; omega) h
/-- The least number that divides is a prime. -/
theorem least_prm {n : Nat} (h2 : 2 ≤ n) : ∀ k, ∀ d, d ≤ k → 2 ≤ d → d ∣ n → ∃ e, e ≤ d ∧ Prm e ∧ e ∣ n ∧ ∀ f, 2 ≤ f → f ∣ n → e ≤ f
  | 0, d, hk, hd, _ => by omega
  | k + 1, d, hk, hd, hdn => by
    by_cases h : ∃ f, 2 ≤ f ∧ f < d ∧ f ∣ n
    · obtain ⟨f, hf, hfd, hfn⟩ := h
      obtain ⟨e, h1, h3⟩ := least_prm h2 k f (by omega) hf hfn
      exact ⟨e, by omega, h3⟩
    · refine ⟨d, Nat.le_refl _, ⟨hd, fun f hf hfd hm => h ⟨f, hf, hfd, Nat.dvd_trans (Nat.dvd_of_mod_eq_zero hm) hdn⟩⟩, hdn, fun f hf hfn => ?_⟩
      rcases Nat.lt_or_ge f d with h1 | h1
      · exact absurd ⟨f, hf, h1, hfn⟩ h
      · exact h1
theorem has_least {n : Nat} (h2 : 2 ≤ n) : ∃ e, Prm e ∧ e ∣ n ∧ ∀ f, 2 ≤ f → f ∣ n → e ≤ f := by
  obtain ⟨e, _, h1, h3, h4⟩ := least_prm h2 n n (Nat.le_refl _) h2 (Nat.dvd_refl _)
  exact ⟨e, h1, h3, h4⟩
/-- .. and its square is no more, if the number isn't a prime. -/
theorem least_sq {n e : Nat} (h2 : 2 ≤ n) (hn : ¬ Prm n) (he : ∀ f, 2 ≤ f → f ∣ n → e ≤ f) : e * e ≤ n := by
  have h : ∃ d, 2 ≤ d ∧ d < n ∧ n % d = 0 := Classical.byContradiction fun hno => hn ⟨h2, fun d h1 h3 h4 => hno ⟨d, h1, h3, h4⟩⟩
  obtain ⟨d, h1, h3, h4⟩ := h
  obtain ⟨f, hf, hfn, hff⟩ := small_div h1 h3 h4
  exact Nat.le_trans (Nat.mul_le_mul (he f hf hfn) (he f hf hfn)) hff

/-! ### Powers, halved -/
theorem pow_half (a k p : Nat) : a ^ k % p = ((a ^ (k / 2) % p) * (a ^ (k / 2) % p) % p) * (a % p) ^ (k % 2) % p := by
  have e : a ^ k = (a ^ (k / 2) * a ^ (k / 2)) * a ^ (k % 2) := by
    rw [← Nat.pow_add, ← Nat.pow_add]
    congr 1
    omega
  rw [e, Nat.mul_mod, Nat.mul_mod (a ^ (k / 2)), Nat.pow_mod a (k % 2)]
  simp [Nat.mul_mod, Nat.pow_mod]
/-- What a number is multiplied with to be 1. -/
theorem inverse_pow {p a : Nat} (h : Prm p) (ha : ¬ p ∣ a) : (a % p) * (a ^ (p - 2) % p) % p = 1 := by
  have h2 := h.1
  rw [← Nat.mul_mod, Nat.mul_comm, ← Nat.pow_succ, show (p - 2).succ = p - 1 by omega]
  exact fermat_one h a ha

/-! ### The greatest prime that is asked for -/
/-- No odd number of so many from a place on divides (halved: no deep recursion). -/
def noDiv (n : Nat) : Nat → Nat → Bool
  | 0, s => n % (2 * s + 3) != 0
  | d + 1, s => noDiv n d s && noDiv n d (s + 2 ^ d)
theorem noDiv_spec (n : Nat) : ∀ d s, noDiv n d s = true → ∀ k, s ≤ k → k < s + 2 ^ d → n % (2 * k + 3) ≠ 0
  | 0, s, h, k, h1, h2 => by
    obtain rfl : k = s := by simp at h2; omega
    simpa [noDiv] using h
  | d + 1, s, h, k, h1, h2 => by
    rw [noDiv, Bool.and_eq_true] at h
    rw [Nat.pow_succ] at h2
    by_cases hk : k < s + 2 ^ d
    · exact noDiv_spec n d s h.1 k h1 hk
    · exact noDiv_spec n d (s + 2 ^ d) h.2 k (by omega) (by omega)
theorem prm_last : Prm 2147483647 := prm_odd (by decide) (by decide) fun k hk => by
  have h0 : noDiv 2147483647 15 0 = true := by decide +kernel
  refine noDiv_spec _ 15 0 h0 k (Nat.zero_le _) ?_
  rcases Nat.lt_or_ge k 32768 with h | h
  · simpa using h
  · have := Nat.mul_le_mul (show 65539 ≤ 2 * k + 3 by omega) (show 65539 ≤ 2 * k + 3 by omega)
    omega
end Go.Proofs.YtahconkjhneogaaGreatDoor

namespace Go.Proofs.YtahconkjhneogaaGreatDoor

/-- The least number from 2 on that divides (0: none). -/
def lst (n : Nat) : Nat := ((List.range (n + 1)).find? fun d => decide (2 ≤ d) && n % d == 0).getD 0
theorem lst_eq {n e : Nat} (h2 : 2 ≤ n) (he : 2 ≤ e) (hd : e ∣ n) (hm : ∀ f, 2 ≤ f → f ∣ n → e ≤ f) : lst n = e := by
  have hle := Nat.le_of_dvd (by omega) hd
  have h : (List.range (n + 1)).find? (fun d => decide (2 ≤ d) && n % d == 0) = some e := by
    rw [List.find?_range_eq_some]
    refine ⟨by simpa using ⟨he, Nat.mod_eq_zero_of_dvd hd⟩, by simp; omega, fun j hj => ?_⟩
    simp only [Bool.not_eq_true', Bool.and_eq_false_iff, decide_eq_false_iff_not, beq_eq_false_iff_ne]
    by_cases h : 2 ≤ j
    · refine .inr fun hz => ?_
      have := hm j h (Nat.dvd_of_mod_eq_zero hz)
      omega
    · exact .inl h
  rw [lst, h, Option.getD_some]
theorem lst_spec {n : Nat} (h2 : 2 ≤ n) : Prm (lst n) ∧ lst n ∣ n ∧ ∀ f, 2 ≤ f → f ∣ n → lst n ≤ f := by
  obtain ⟨e, h1, h3, h4⟩ := has_least h2
  rw [lst_eq h2 h1.1 h3 h4]
  exact ⟨h1, h3, h4⟩
theorem lst_prm {n : Nat} (h2 : 2 ≤ n) : lst n = n ↔ Prm n := by
  refine ⟨fun h => h ▸ (lst_spec h2).1, fun h => lst_eq h2 h2 (Nat.dvd_refl n) fun f hf hd => ?_⟩
  rcases h.dvd_eq hd with e | e <;> omega
theorem lst_range {n : Nat} (h2 : 2 ≤ n) : 2 ≤ lst n ∧ lst n ≤ n := ⟨(lst_spec h2).1.1, (lst_spec h2).2.2 n h2 (Nat.dvd_refl n)⟩

/-- What prime.Least tells. -/
def leastOf (n : Int) : Int := if n < 2 ∨ 2147483648 < n then 0 else (lst n.toNat : Int)
/-- What prime.Is tells. -/
def isP (n : Int) : Bool := decide (2 ≤ n) && (leastOf n == n)
theorem isP_iff (n : Int) : isP n = true ↔ 2 ≤ n ∧ n ≤ 2147483648 ∧ Prm n.toNat := by
  unfold isP leastOf
  by_cases h1 : 2 ≤ n
  · by_cases h2 : n ≤ 2147483648
    · rw [if_neg (by omega), decide_eq_true h1, Bool.true_and, beq_iff_eq, ← lst_prm (by omega)]
      omega
    · rw [if_pos (by omega), decide_eq_true h1, Bool.true_and, beq_iff_eq]
      omega
  · simp [h1]
theorem isP_false (n : Int) : isP n = false ↔ ¬ (2 ≤ n ∧ n ≤ 2147483648 ∧ Prm n.toNat) := by
  rw [← isP_iff]; simp
theorem isP_prm {n : Int} (h : isP n = true) : Prm n.toNat := ((isP_iff n).1 h).2.2
theorem isP_range {n : Int} (h : isP n = true) : 2 ≤ n ∧ n ≤ 2147483648 := ⟨((isP_iff n).1 h).1, ((isP_iff n).1 h).2.1⟩
theorem isP_two : isP 2 = true := (isP_iff 2).2 ⟨by omega, by omega, prm_two⟩
theorem isP_last : isP 2147483647 = true := (isP_iff _).2 ⟨by omega, by omega, prm_last⟩
theorem isP_small {n : Int} (h : n < 2) : isP n = false := (isP_false n).2 (by omega)
theorem isP_great {n : Int} (h : 2147483647 < n) : isP n = false := (isP_false n).2 fun ⟨_, h2, h3⟩ => by
  obtain rfl : n = 2147483648 := by omega
  exact not_even (by decide) (by decide) h3

/-! ### What is tried -/
/-- The trial at a place: 2, then the odd numbers. -/
def tri (k : Nat) : Int := if k = 0 then 2 else 2 * (k : Int) + 1
def trl (k : Nat) : List Int := (List.range k).map tri
theorem trl_zero : trl 0 = [] := rfl
theorem trl_one : trl 1 = [2] := rfl
theorem trl_succ (k : Nat) : trl (k + 1) = trl k ++ [tri k] := by simp [trl, List.range_succ]
theorem trl_length (k : Nat) : (trl k).length = k := by simp [trl]
theorem tri_zero : tri 0 = 2 := rfl
theorem tri_succ (k : Nat) : tri (k + 1) = 2 * (k : Int) + 3 := by unfold tri; rw [if_neg (by omega)]; omega
theorem tri_mem {k j : Nat} (h : j < k) : tri j ∈ trl k := List.mem_map.2 ⟨j, List.mem_range.2 h, rfl⟩

/-- No trial up to the square divides: a prime. -/
theorem trl_done {n k : Nat} (h2 : 2 ≤ n) (hk : 1 ≤ k) (hs : (n : Int) < tri k * tri k) (h : ∀ x ∈ trl k, (n : Int) % x ≠ 0) : lst n = n := by
  have h0 := h 2 (tri_mem (j := 0) hk)
  refine (lst_prm h2).2 (prm_odd h2 (by omega) fun i hi hm => ?_)
  by_cases hik : i + 1 < k
  · refine h (tri (i + 1)) (tri_mem hik) ?_
    rw [tri_succ]
    have : ((n % (2 * i + 3) : Nat) : Int) = 0 := by rw [hm]; rfl
    simpa using this
  · have e : tri k = (2 * (k - 1 : Nat) + 3 : Nat) := by
      obtain ⟨q, rfl⟩ : ∃ q, k = q + 1 := ⟨k - 1, by omega⟩
      rw [tri_succ]
      simp
    rw [e] at hs
    have h3 := Nat.mul_le_mul (show 2 * (k - 1) + 3 ≤ 2 * i + 3 by omega) (show 2 * (k - 1) + 3 ≤ 2 * i + 3 by omega)
    have h4 : n < (2 * (k - 1) + 3) * (2 * (k - 1) + 3) := by exact_mod_cast hs
    omega
/-- The first trial that divides is the least number that does. -/
theorem trl_found {n k : Nat} (h2 : 2 ≤ n) (hd : (n : Int) % tri k = 0) (h : ∀ x ∈ trl k, (n : Int) % x ≠ 0) : ((lst n : Nat) : Int) = tri k := by
  obtain ⟨e, he⟩ : ∃ e : Nat, tri k = e := by
    cases k with
    | zero => exact ⟨2, rfl⟩
    | succ k => exact ⟨2 * k + 3, by rw [tri_succ]; omega⟩
  have he2 : 2 ≤ e := by
    cases k with
    | zero => rw [tri_zero] at he; omega
    | succ k => rw [tri_succ] at he; omega
  have hdv : e ∣ n := Nat.dvd_of_mod_eq_zero (by rw [he] at hd; exact_mod_cast hd)
  rw [he, lst_eq h2 he2 hdv]
  intro f hf hfn
  rcases Nat.lt_or_ge f e with hlt | hge
  · exfalso
    have hm := Nat.mod_eq_zero_of_dvd hfn
    rcases Nat.mod_two_eq_zero_or_one f with h0 | h1
    · have hk : 0 < k := by
        rcases Nat.eq_zero_or_pos k with rfl | hk
        · rw [tri_zero] at he; omega
        · exact hk
      have : 2 ∣ n := Nat.dvd_trans (Nat.dvd_of_mod_eq_zero h0) hfn
      exact h 2 (tri_mem (j := 0) hk) (by have := Nat.mod_eq_zero_of_dvd this; omega)
    · obtain ⟨j, rfl⟩ : ∃ j, f = 2 * j + 3 := ⟨(f - 3) / 2, by omega⟩
      have hjk : j + 1 < k := by
        cases k with
        | zero => rw [tri_zero] at he; omega
        | succ k => rw [tri_succ] at he; omega
      refine h (tri (j + 1)) (tri_mem hjk) ?_
      rw [tri_succ]
      have : ((n % (2 * j + 3) : Nat) : Int) = 0 := by rw [hm]; rfl
      simpa using this
  · exact hge

/-! ### The primes from a number on, so many numbers far -/
def pls (a : Int) (k : Nat) : List Int := ((List.range k).map fun j : Nat => a + (j : Int)).filter isP
theorem pls_zero (a : Int) : pls a 0 = [] := rfl
theorem pls_yes {a : Int} {k : Nat} (h : isP (a + k) = true) : pls a (k + 1) = pls a k ++ [a + k] := by
  simp [pls, List.range_succ, h]
theorem pls_no {a : Int} {k : Nat} (h : isP (a + k) = false) : pls a (k + 1) = pls a k := by
  simp [pls, List.range_succ, h]
theorem pls_mem {a x : Int} {k : Nat} : x ∈ pls a k ↔ a ≤ x ∧ x < a + k ∧ isP x = true := by
  unfold pls
  rw [List.mem_filter, List.mem_map]
  constructor
  · rintro ⟨⟨j, hj, rfl⟩, hp⟩
    have := List.mem_range.1 hj
    exact ⟨by omega, by omega, hp⟩
  · rintro ⟨h1, h2, h3⟩
    exact ⟨⟨(x - a).toNat, List.mem_range.2 (by omega), by omega⟩, h3⟩
theorem pls_length (a : Int) (k : Nat) : (pls a k).length ≤ k := by
  unfold pls
  refine Nat.le_trans (List.length_filter_le _ _) (by simp)
theorem pls_le (a : Int) : ∀ k m : Nat, k ≤ m → pls a k <+: pls a m
  | k, 0, h => by obtain rfl : k = 0 := by omega
                  exact List.prefix_rfl
  | k, m + 1, h => by
    by_cases e : k = m + 1
    · subst e; exact List.prefix_rfl
    · refine List.IsPrefix.trans (pls_le a k m (by omega)) ?_
      cases hp : isP (a + m) with
      | true => rw [pls_yes hp]; exact List.prefix_append _ _
      | false => rw [pls_no hp]; exact List.prefix_rfl
theorem pls_length_lt {a : Int} {k m : Nat} (h : k < m) (hp : isP (a + k) = true) : (pls a k).length < (pls a m).length := by
  have := (pls_le a (k + 1) m h).length_le
  rw [pls_yes hp, List.length_append, List.length_singleton] at this
  omega
/-- At the place of a prime there lies this prime. -/
theorem pls_at {a : Int} {k m : Nat} (h : k < m) (hp : isP (a + k) = true) : (pls a m)[(pls a k).length]? = some (a + k) := by
  obtain ⟨t, ht⟩ := pls_le a (k + 1) m h
  rw [← ht, pls_yes hp, List.append_assoc, List.getElem?_append_right (Nat.le_refl _), Nat.sub_self]
  rfl
/-- The first one that comes. -/
theorem pls_first {a p : Int} {k : Nat} (h : pls a k = [p]) : a ≤ p ∧ p < a + k ∧ isP p = true ∧ ∀ q, a ≤ q → q < p → isP q = false := by
  have hp : p ∈ pls a k := by rw [h]; exact List.mem_singleton.2 rfl
  obtain ⟨h1, h2, h3⟩ := pls_mem.1 hp
  refine ⟨h1, h2, h3, fun q hq hlt => ?_⟩
  cases hb : isP q with
  | false => rfl
  | true =>
    have : q ∈ pls a k := pls_mem.2 ⟨hq, by omega, hb⟩
    rw [h] at this
    have := List.mem_singleton.1 this
    omega

/-! ### Powers and inverses -/
/-- A number to a power, modulo another one. -/
def pwr (a : Int) (k : Nat) (p : Int) : Int := (((a % p).toNat ^ k % p.toNat : Nat) : Int)
theorem pwr_range (a : Int) (k : Nat) {p : Int} (h : 1 ≤ p) : 0 ≤ pwr a k p ∧ pwr a k p < p := by
  unfold pwr
  have := Nat.mod_lt ((a % p).toNat ^ k) (show 0 < p.toNat by omega)
  omega
theorem pwr_zero (a : Int) {p : Int} (h : 1 ≤ p) : pwr a 0 p = 1 % p := by
  unfold pwr
  rw [Nat.pow_zero]
  have e : ((p.toNat : Nat) : Int) = p := by omega
  rw [Int.natCast_emod, e]
  rfl
theorem mod_toNat {a p : Int} (h : 1 ≤ p) : (((a % p).toNat : Nat) : Int) = a % p := by
  have := Int.emod_nonneg a (show p ≠ 0 by omega)
  omega
/-- A power out of the power of the half. -/
theorem pwr_half (a : Int) (k : Nat) {p : Int} (h : 1 ≤ p) : pwr a k p = if k % 2 = 1 then pwr a (k / 2) p * pwr a (k / 2) p % p * (a % p) % p else pwr a (k / 2) p * pwr a (k / 2) p % p := by
  have e : ((p.toNat : Nat) : Int) = p := by omega
  have hh := pow_half (a % p).toNat k p.toNat
  rcases Nat.mod_two_eq_zero_or_one k with h0 | h1
  · rw [if_neg (by omega)]
    rw [h0, Nat.pow_zero, Nat.mul_one, Nat.mod_mod] at hh
    unfold pwr
    rw [hh, Int.natCast_emod, Int.natCast_mul, e]
  · rw [if_pos h1]
    have hlt : (a % p).toNat % p.toNat = (a % p).toNat := Nat.mod_eq_of_lt (by have := Int.emod_lt_of_pos a (show 0 < p by omega); omega)
    rw [h1, Nat.pow_one, hlt] at hh
    unfold pwr
    rw [hh, Int.natCast_emod, Int.natCast_mul, Int.natCast_emod, Int.natCast_mul, e, mod_toNat h]
/-- What is left of a power on the way: so much is done, so much is to come. -/
def PwInv (a : Int) (K : Nat) (p x y : Int) (k : Nat) : Prop := 0 ≤ x ∧ x < p ∧ 0 ≤ y ∧ y < p ∧ x.toNat * y.toNat ^ k % p.toNat = (a % p).toNat ^ K % p.toNat
theorem PwInv.start (a : Int) (K : Nat) {p : Int} (h : 1 ≤ p) : PwInv a K p (1 % p) (a % p) K := by
  have h1 := Int.emod_nonneg 1 (show p ≠ 0 by omega)
  have h2 := Int.emod_lt_of_pos 1 (show 0 < p by omega)
  have h3 := Int.emod_nonneg a (show p ≠ 0 by omega)
  have h4 := Int.emod_lt_of_pos a (show 0 < p by omega)
  refine ⟨h1, h2, h3, h4, ?_⟩
  have e : (1 % p).toNat = 1 % p.toNat := by
    have : ((1 % p).toNat : Int) = ((1 % p.toNat : Nat) : Int) := by
      rw [Int.natCast_emod, mod_toNat h]
      congr 1
      omega
    exact_mod_cast this
  rw [e, Nat.mod_mul_mod, Nat.one_mul]
theorem mul_toNat {x y p : Int} (hx : 0 ≤ x) (hy : 0 ≤ y) (h : 1 ≤ p) : (x * y % p).toNat = x.toNat * y.toNat % p.toNat := by
  have : ((x * y % p).toNat : Int) = ((x.toNat * y.toNat % p.toNat : Nat) : Int) := by
    rw [mod_toNat h, Int.natCast_emod, Int.natCast_mul]
    congr 1
    · congr 1 <;> omega
    · omega
  exact_mod_cast this
theorem PwInv.even {a : Int} {K : Nat} {p x y : Int} {k : Nat} (h1 : 1 ≤ p) (hk : k % 2 = 0) (h : PwInv a K p x y k) : PwInv a K p x (y * y % p) (k / 2) := by
  obtain ⟨hx0, hx1, hy0, hy1, he⟩ := h
  refine ⟨hx0, hx1, Int.emod_nonneg _ (by omega), Int.emod_lt_of_pos _ (by omega), ?_⟩
  rw [mul_toNat hy0 hy0 h1, ← he, Nat.mul_mod, ← Nat.pow_mod, ← Nat.mul_mod]
  congr 2
  rw [← Nat.pow_two, ← Nat.pow_mul]
  congr 1
  omega
theorem PwInv.odd {a : Int} {K : Nat} {p x y : Int} {k : Nat} (h1 : 1 ≤ p) (hk : k % 2 = 1) (h : PwInv a K p x y k) : PwInv a K p (x * y % p) (y * y % p) (k / 2) := by
  obtain ⟨hx0, hx1, hy0, hy1, he⟩ := h
  refine ⟨Int.emod_nonneg _ (by omega), Int.emod_lt_of_pos _ (by omega), Int.emod_nonneg _ (by omega), Int.emod_lt_of_pos _ (by omega), ?_⟩
  rw [mul_toNat hy0 hy0 h1, mul_toNat hx0 hy0 h1, ← he, Nat.mul_mod, ← Nat.pow_mod, ← Nat.mul_mod, Nat.mod_mul_mod]
  congr 1
  rw [Nat.mul_assoc]
  congr 1
  rw [← Nat.pow_two, ← Nat.pow_mul, ← Nat.pow_succ']
  congr 1
  omega
theorem PwInv.done {a : Int} {K : Nat} {p x y : Int} (h1 : 1 ≤ p) (h : PwInv a K p x y 0) : x = pwr a K p := by
  obtain ⟨hx0, hx1, _, _, he⟩ := h
  rw [Nat.pow_zero, Nat.mul_one, Nat.mod_eq_of_lt (by omega)] at he
  unfold pwr
  rw [← he]
  omega
theorem pwr_fermat (a : Int) {p : Int} (hp : isP p = true) : pwr a p.toNat p = a % p := by
  have h1 := (isP_range hp).1
  unfold pwr
  rw [fermat (isP_prm hp), Nat.mod_eq_of_lt (by have := Int.emod_lt_of_pos a (show 0 < p by omega); omega), mod_toNat (by omega)]
theorem pwr_inverse (a : Int) {p : Int} (hp : isP p = true) (ha : a % p ≠ 0) : pwr a (p.toNat - 2) p * (a % p) % p = 1 ∧ 1 ≤ pwr a (p.toNat - 2) p ∧ pwr a (p.toNat - 2) p < p := by
  have h1 := (isP_range hp).1
  have h3 := Int.emod_nonneg a (show p ≠ 0 by omega)
  have h4 := Int.emod_lt_of_pos a (show 0 < p by omega)
  have hd : ¬ p.toNat ∣ (a % p).toNat := fun h => by
    have := Nat.le_of_dvd (by omega) h
    omega
  have hi := inverse_pow (isP_prm hp) hd
  rw [Nat.mod_eq_of_lt (show (a % p).toNat < p.toNat by omega)] at hi
  have hr := pwr_range a (p.toNat - 2) (show 1 ≤ p by omega)
  have e : pwr a (p.toNat - 2) p * (a % p) % p = 1 := by
    rw [Int.mul_comm]
    have : ((((a % p).toNat * ((a % p).toNat ^ (p.toNat - 2) % p.toNat) % p.toNat : Nat)) : Int) = 1 := by rw [hi]; rfl
    rw [Int.natCast_emod, Int.natCast_mul, mod_toNat (by omega)] at this
    rw [show ((p.toNat : Nat) : Int) = p by omega] at this
    exact this
  refine ⟨e, ?_, hr.2⟩
  rcases Int.lt_or_le 0 (pwr a (p.toNat - 2) p) with h | h
  · omega
  · have h0 : pwr a (p.toNat - 2) p = 0 := by omega
    rw [h0, Int.zero_mul, Int.zero_emod] at e
    omega
end Go.Proofs.YtahconkjhneogaaGreatDoor

namespace Go.Proofs.YtahconkjhneogaaGreatDoor
open Go.RowKit

theorem below_drewN (w : World) (n : Nat) : Below w.heap.size w (w.drewN n) := ⟨rfl, rfl, rfl, Nat.le_refl _, fun _ _ => rfl⟩

/-- Two steps, each of which leaves what lay there. -/
theorem bel2 {w w1 w2 : World} (h1 : Below w.heap.size w w1) (h2 : Below w1.heap.size w1 w2) : Below w.heap.size w w2 := h1.trans (h2.mono h1.size)

theorem cell_stays {w w' : World} {a : Addr} {v : Value} (h : w.cell? a = some v) (hb : Below w.heap.size w w') : w'.cell? a = some v := by
  rw [hb.cell (World.block_lt_of_cell? w _ h)]
  exact h

theorem list_at (s : ByteArray) (k : Nat) (h : k < s.size) : s.data.toList[k]? = some s[k] := by
  have h' : k < s.data.toList.length := by rw [← Lib.size_eq]; exact h
  rw [List.getElem?_eq_getElem h']
  rfl

theorem ret_bool {a b : Bool} (h : a = b) : Ending.returned (.bool a) = .returned (.bool b) := by rw [h]
end Go.Proofs.YtahconkjhneogaaGreatDoor

namespace Go.Proofs.YtahconkjhneogaaGreatDoor
open Go.RowKit Go.Shelf Go.Lib
attribute [local go_sem] Oper.semAt_some

/-- What lies below n₀ stays, and so does block B. -/
structure KB (n₀ B : Nat) (W W' : World) : Prop where
  low : Below n₀ W W'
  box : W'.heap[B]? = W.heap[B]?
theorem KB.refl (n₀ B : Nat) (W : World) : KB n₀ B W W := ⟨Below.refl _ _, rfl⟩
theorem KB.trans {n₀ B : Nat} {W W' W2 : World} (h : KB n₀ B W W') (k : KB n₀ B W' W2) : KB n₀ B W W2 := ⟨h.low.trans k.low, k.box.trans h.box⟩
theorem KB.cell {n₀ B : Nat} {W W' : World} (h : KB n₀ B W W') (o : Nat) : W'.cell? ⟨B, o, none⟩ = W.cell? ⟨B, o, none⟩ := World.cell?_of_block h.box
theorem KB.put {n₀ B : Nat} {w : World} (h1 : n₀ ≤ w.heap.size) (h2 : B < w.heap.size) (W : World) (l : Nat) (o o' : Obj) (hl : w.heap.size ≤ l) (h : W.heap[l]? = some o) (hc : o.isCells = false) (hw : o.isWalk = false) : KB n₀ B W (W.putObj l o') :=
  ⟨belowK_b h1 W l o o' hl h hc hw, (belowK_b (w := w) (Nat.le_refl _) W l o o' hl h hc hw).block B h2⟩
theorem KB.set {n₀ B g : Nat} (W : World) (h1 : n₀ ≤ g) (h2 : B ≠ g) (i : Nat) (v : Value) : KB n₀ B W (W.setCell ⟨g, i, none⟩ v) :=
  ⟨(Below.refl _ W).setCell (p := ⟨g, i, none⟩) h1 v, Below.heap_setCell W ⟨g, i, none⟩ v B h2⟩
theorem KB.below {n₀ B n : Nat} {W W' : World} (h : Below n W W') (h1 : n₀ ≤ n) (h2 : B < n) : KB n₀ B W W' := ⟨h.mono h1, h.block B h2⟩

theorem sq_small {d : Int} (h0 : 0 ≤ d) (h : d * d ≤ 2147483648) : d ≤ 46340 := by
  rcases Int.lt_or_le 46340 d with h1 | h1
  · have := Int.mul_le_mul (show 46341 ≤ d by omega) (show 46341 ≤ d by omega) (by omega) h0
    omega
  · exact h1
theorem sq_great {d : Int} (h0 : 0 ≤ d) (h : d ≤ 46342) : 0 ≤ d * d ∧ d * d ≤ 2147580964 := by
  have h1 := Int.mul_le_mul h h h0 (by omega)
  exact ⟨Int.mul_nonneg h0 h0, by omega⟩
theorem tri_pos {k : Nat} (h : 1 ≤ k) : tri k = 2 * (k : Int) + 1 := by unfold tri; rw [if_neg (by omega)]

set_option maxRecDepth 100000 in
set_option maxHeartbeats 4000000 in
theorem trials1_in (F : Fence) (n : Nat) (hf : F.fn 89) (hro : F.round = none) (hn : 1 ≤ n) (l Bs n₀ : Nat) (N : Int) (hN : 2 ≤ N ∧ N ≤ 2147483648) (J Jx : List Int → World → Prop)
    (hY : ∀ pre x W, J pre W → pre.length < 30000 → x = tri pre.length → YieldAt F (n - 1) Tryz.prog l #[.int .i64 x] W fun e W' =>
      (e = .returned (.bool true) ∧ J (pre ++ [x]) W' ∧ KB n₀ Bs W W') ∨ (e = .returned (.bool false) ∧ Jx (pre ++ [x]) W'))
    (W : World) (hBs : W.cell? ⟨Bs, 0, none⟩ = some (.int .i64 N)) (h0 : J [] W) :
    CallsIn F n Tryz.prog 89 #[.func (.yield l) #[] #[], .pointer (some ⟨Bs, 0, none⟩)] W fun e W' => (∃ v, e = .returned v) ∧
      ((∃ ys, (∃ k, 1 ≤ k ∧ ys = trl k ∧ N < tri k * tri k) ∧ J ys W') ∨ (∃ pre, (∃ k, pre = trl (k + 1)) ∧ Jx pre W')) := by
  have h1 : 1 ≤ n - 1 + 1 := by omega
  obtain ⟨fn, tmps, assign, body, hyy, hR⟩ := hY [] 2 W h0 (by simp) rfl
  refine callsIn_of_wp Tryz.func89 rfl hf ?_ hro
  simp only [Tryz.ntmps89, List.size_toArray, List.length_cons, List.length_nil, Nat.reduceAdd, Nat.reduceSub, Array.replicate_succ, Array.replicate_zero, List.push_toArray, List.append_toArray, List.nil_append, List.cons_append]
  gi_wp2
  refine hR.mono ?_
  rintro e W1 (⟨rfl, hJ1, hk1⟩ | ⟨rfl, hJx1⟩)
  · have HJ : Hid (J (trl 1) W1) := hid hJ1
    clear hyy hR hJ1
    gi_wp2
    gi_loopw [3] (fun i wr => ∃ k : Nat, ∃ d : Int, Hid (1 ≤ k ∧ d = tri k ∧ d = 2 * (k : Int) + 1) ∧ 3 ≤ d ∧ d ≤ 46342 ∧ i = .int .i64 d ∧ J (trl k) wr ∧ KB n₀ Bs W wr) (fun i _ => 46344 - (intOf i).toNat)
    case atStart => exact ⟨1, 3, hid ⟨by omega, rfl, rfl⟩, by omega, by omega, rfl, HJ.out, hk1⟩
    case round =>
      obtain ⟨k, d, HK, hd1, hd2, rfl, hJs, hnx⟩ := hrel
      have hBx : wr.cell? ⟨Bs, 0, none⟩ = some (.int .i64 N) := (hnx.cell 0).trans hBs
      have hq := sq_great (d := d) (by omega) hd2
      by_cases hlt : d * d ≤ N
      · have hd3 : d ≤ 46340 := sq_small (by omega) (by omega)
        obtain ⟨fn, tmps, assign, body, hyy, hR⟩ := hY _ d wr hJs (by rw [trl_length]; have := HK.out; omega) (by rw [trl_length]; exact HK.out.2.1)
        gi_wp2
        refine hR.mono ?_
        rintro e W3 (⟨rfl, hJ3, hk3⟩ | ⟨rfl, hJx3⟩)
        · gi_wp2
          go_roundw
          case rel => exact ⟨k + 1, d + 2, hid ⟨by omega, by rw [tri_pos (by omega)]; have := HK.out.2.2; omega, by have := HK.out.2.2; omega⟩, by omega, by omega, rfl, by rw [trl_succ, ← HK.out.2.1]; exact hJ3, hnx.trans hk3⟩
          case measure => simp [intOf]; omega
        · gi_wp2
          refine bodyPost_ret (results_none rfl _ _ _) rfl ?_
          exact ⟨⟨_, rfl⟩, .inr ⟨_, ⟨k, by rw [trl_succ, ← HK.out.2.1]⟩, hJx3⟩⟩
      · gi_wp2
        go_end0
        exact ⟨⟨_, rfl⟩, .inl ⟨_, ⟨k, HK.out.1, rfl, by rw [← HK.out.2.1]; omega⟩, hJs⟩⟩
  · gi_wp2
    refine bodyPost_ret (results_none rfl _ _ _) rfl ?_
    exact ⟨⟨_, rfl⟩, .inr ⟨_, ⟨0, rfl⟩, hJx1⟩⟩

set_option maxHeartbeats 1000000 in
theorem trials_in (F : Fence) (n : Nat) (hf : F.fn 78) (hro : F.round = none) (N : Int) (w : World) :
    CallsIn F n Tryz.prog 78 #[.int .i64 N] w fun e w' => e = .returned (.func (.func 89) #[] #[.pointer (some ⟨w.heap.size, 0, none⟩)]) ∧ w' = w.alloc (.cells #[.int .i64 N] 3) := by
  refine callsIn_of_wp Tryz.func78 rfl hf ?_ hro
  simp only [Tryz.ntmps78, List.size_toArray, List.length_cons, List.length_nil, Nat.reduceAdd, Nat.reduceSub, Array.replicate_succ, Array.replicate_zero, List.push_toArray, List.append_toArray, List.nil_append, List.cons_append]
  gi_wp2
  go_ret
  exact ⟨rfl, rfl⟩

/-- What is handed to a round: a number from 2 on, not too great. -/
abbrev Tr := { x : Int // 2 ≤ x ∧ x ≤ 100000 }
theorem tri_ok {k : Nat} (h : k < 30000) : 2 ≤ tri k ∧ tri k ≤ 100000 := by unfold tri; split <;> omega

theorem trials_stops (F : Fence) (n : Nat) (hf : F.fn 89) (hro : F.round = none) (hn : 1 ≤ n) (Bs n₀ : Nat) (N : Int) (hN : 2 ≤ N ∧ N ≤ 2147483648) (w : World) (hBn : Bs < w.heap.size)
    (hc : w.cell? ⟨Bs, 0, none⟩ = some (.int .i64 N)) :
    SeqStopsK F n Tryz.prog 89 #[.pointer (some ⟨Bs, 0, none⟩)] (fun x : Tr => #[Value.int .i64 x.1]) (KB n₀ Bs) (fun ys => ∃ k, 1 ≤ k ∧ ys.map (·.1) = trl k ∧ N < tri k * tri k) (fun pre => ∃ k, pre.map (·.1) = trl (k + 1)) 30000 w := fun l J Jx W hW _ _ hY h0 => by
  have hc' := (hW.cell (p := ⟨Bs, 0, none⟩) hBn).trans hc
  refine (trials1_in F n hf hro hn l Bs n₀ N hN (fun pre W => ∃ pre' : List Tr, pre = pre'.map (·.1) ∧ J pre' W) (fun pre W => ∃ pre' : List Tr, pre = pre'.map (·.1) ∧ Jx pre' W) ?_ W hc' ⟨[], rfl, h0⟩).mono ?_
  · rintro pre x W1 ⟨pre', rfl, hj⟩ hk hx
    rw [List.length_map] at hk hx
    obtain ⟨fn, tmps, assign, body, hyy, hR⟩ := hY pre' ⟨x, hx ▸ tri_ok hk⟩ W1 hj hk
    refine ⟨fn, tmps, assign, body, hyy, hR.mono ?_⟩
    rintro e W2 (⟨h1, h2, h3⟩ | ⟨h1, h2⟩)
    · exact .inl ⟨h1, ⟨_, by simp, h2⟩, h3⟩
    · exact .inr ⟨h1, _, by simp, h2⟩
  · rintro e W2 ⟨he, ⟨ys, ⟨k, hk, rfl, hs⟩, pre', e1, hj⟩ | ⟨pre, ⟨k, rfl⟩, pre', e1, hj⟩⟩
    · exact ⟨he, .inl ⟨pre', ⟨k, hk, e1.symm, hs⟩, hj⟩⟩
    · exact ⟨he, .inr ⟨pre', ⟨k, e1.symm⟩, hj⟩⟩
end Go.Proofs.YtahconkjhneogaaGreatDoor

namespace Go.Proofs.YtahconkjhneogaaGreatDoor
open Go.RowKit Go.Shelf Go.Lib
attribute [local go_sem] Oper.semAt_some

/-- The last one that came. -/
def lastD (pre : List Tr) : Int := (pre.getLast?.map (·.1)).getD 0
theorem lastD_app (q : List Tr) (x : Tr) : lastD (q ++ [x]) = x.1 := by simp [lastD]

/-- The last one divides, none ahead of it does. -/
def Found (N : Int) (pre : List Tr) : Prop := ∃ q x, pre = q ++ [x] ∧ (∀ y ∈ q, N % y.1 ≠ 0) ∧ N % x.1 = 0

theorem ret_i {v : Value} {x y : Int} (hv : v = .int .i64 x) (h : x = y) : Ending.returned v = .returned (.int .i64 y) := by rw [hv, h]
theorem ret_b {v : Value} {x y : Bool} (hv : v = .bool x) (h : x = y) : Ending.returned v = .returned (.bool y) := by rw [hv, h]

set_option maxRecDepth 100000 in
set_option maxHeartbeats 4000000 in
theorem least_no (F : Fence) (n : Nat) (h11 : F.fn 62) (hro : F.round = none) (N : Int) (hN : N < 2 ∨ 2147483648 < N) (w : World) :
    CallsIn F n Tryz.prog 62 #[.int .i64 N] w fun e W' => e = .returned (.int .i64 0) ∧ Below w.heap.size w W' := by
  rcases hN with h | h
  all_goals
    refine callsIn_of_wp Tryz.func62 rfl h11 ?_ hro
    simp only [Tryz.ntmps62, List.size_toArray, List.length_cons, List.length_nil, Nat.reduceAdd, Nat.reduceSub, Array.replicate_succ, Array.replicate_zero, List.push_toArray, List.append_toArray, List.nil_append, List.cons_append]
    have hB : Below w.heap.size w ((w.alloc (.cells #[.int .i64 N] 3)).alloc (.cells #[.int .i64 0] 3)) := ((Below.refl _ w).alloc (Nat.le_refl _) _).alloc (by simp) _
    have bR := (Boxed.new (w.alloc (.cells #[.int .i64 N] 3)) 3 (.int .i64 0)).cell
    simp only [World.size_alloc] at bR
    gi_wp2
    refine bodyPost_ret (v := .int .i64 0) ?_ rfl ⟨rfl, hB⟩
    simp [results, Tryz.f62, go_sem, bR]

set_option maxRecDepth 100000 in
set_option maxHeartbeats 4000000 in
theorem least_yes (F : Fence) (n : Nat) (h11 : F.fn 62) (h19 : F.fn 78) (h24 : F.fn 89) (hro : F.round = none) (hn : 3 ≤ n) (N : Int) (hN : 2 ≤ N ∧ N ≤ 2147483648) (w : World) :
    CallsIn F n Tryz.prog 62 #[.int .i64 N] w fun e W' => e = .returned (.int .i64 (lst N.toNat)) ∧ Below w.heap.size w W' := by
  have h1 : 1 ≤ n := by omega
  have HN := hid hN
  refine callsIn_of_wp_marks Tryz.func62 rfl h11 ?_ hro
  simp only [Tryz.ntmps62, List.size_toArray, List.length_cons, List.length_nil, Nat.reduceAdd, Nat.reduceSub, Array.replicate_succ, Array.replicate_zero, List.push_toArray, List.append_toArray, List.nil_append, List.cons_append]
  gi_wp2_with (gi_at_call 78; refine (trials_in F (n - 1) h19 hro _ _).mono ?_; rintro e w' ⟨rfl, rfl⟩)
  have bN := Boxed.new w 3 (.int .i64 N)
  have bR := Boxed.new (w.alloc (.cells #[.int .i64 N] 3)) 3 (.int .i64 0)
  have bB := Boxed.new ((w.alloc (.cells #[.int .i64 N] 3)).alloc (.cells #[.int .i64 0] 3)) 3 (.int .i64 N)
  simp only [World.size_alloc] at bR bB
  have hB1 : Below w.heap.size w (((w.alloc (.cells #[.int .i64 N] 3)).alloc (.cells #[.int .i64 0] 3)).alloc (.cells #[.int .i64 N] 3)) := (((Below.refl _ w).alloc (Nat.le_refl _) _).alloc (by simp) _).alloc (by simp; omega) _
  refine wpIn_rangeFunc_ownG hro h1 (gf := 89) (lb := #[.pointer (some ⟨w.heap.size + 1 + 1, 0, none⟩)]) rfl h24 (enters_of Tryz.func89 (by kernel_rfl) rfl)
    (trials_stops F (n - 1) h24 hro (by omega) (w.heap.size + 1 + 1) w.heap.size N HN.out _ (by simp) bB.cell) KB.trans (KB.put (by simp; omega) (by simp)) (Below.refl _ _) (fun _ => rfl)
    (fun pre W => ((∀ y ∈ pre, N % y.1 ≠ 0) ∧ W.cell? ⟨w.heap.size, 0, none⟩ = some (.int .i64 N) ∧ W.cell? ⟨w.heap.size + 1, 0, none⟩ = some (.int .i64 0) ∧ W.frozen? ⟨w.heap.size + 1, 0, none⟩ = false) ∧ Below w.heap.size w W)
    (fun c pre W => (c = .ret ∧ Found N pre ∧ W.cell? ⟨w.heap.size + 1, 0, none⟩ = some (.int .i64 (lastD pre))) ∧ Below w.heap.size w W)
    (OwnFrom.and (Own.from (fun s A B row hs hg hr => ⟨hs.1, cell_kept hs.2.1 hg hr, cell_kept hs.2.2.1 hg hr, (frozen_kept hs.2.2.1 hg hr).trans hs.2.2.2⟩) _) (ownFrom_below (Nat.le_refl _) (by simp; omega)))
    (fun c => OwnFrom.and (Own.from (fun s A B row hs hg hr => ⟨hs.1, hs.2.1, cell_kept hs.2.2 hg hr⟩) _) (ownFrom_below (Nat.le_refl _) (by simp; omega)))
    ⟨⟨by simp, ((bN.alloc _).alloc _).cell, (bR.alloc _).cell, (bR.alloc _).frozen⟩, hB1⟩
    (fun x => { tmps := #[.int .i64 N, .pointer (some ⟨w.heap.size, 0, none⟩), .pointer (some ⟨w.heap.size + 1, 0, none⟩), .int .i64 x.1, .int .i64 N, .bool (decide (N < 2)), .bool (decide (N < 2)), .int .i64 N, .bool (decide (2147483648 < N)), .bool (decide (N < 2) || decide (2147483648 < N)), .int .i64 N, .func (.func 89) #[] #[.pointer (some ⟨w.heap.size + 1 + 1, 0, none⟩)], .int .i64 x.1, undef, undef, undef, undef, undef, undef], defers := [] }) ?assign ?body ?done ?stop
  case assign =>
    intro l x W K hK
    gi_wp2
    exact hK
  case body =>
    rintro l pre x W ⟨⟨hp, hcn, hcr, hfr⟩, hB⟩ _
    obtain ⟨x, hx1, hx2⟩ := x
    have HP := hid hp
    clear hp
    by_cases hm : N % x = 0
    · gi_wp2
      exact ⟨(KeepsOthers.setCell _ _ _).from _, ⟨rfl, ⟨pre, ⟨x, hx1, hx2⟩, rfl, HP.out, hm⟩, by rw [lastD_app]; exact World.cell?_setCell_same' _ _ _ (by rw [hcr]; rfl)⟩, hB.setCell (p := ⟨w.heap.size + 1, 0, none⟩) (by simp) _⟩
    · gi_wp2
      exact ⟨(KeepsOthers.refl _).from _, KB.refl _ _ _, ⟨fun y hy => (List.mem_append.1 hy).elim (HP.out y) (fun e => by simp at e; subst e; exact hm), hcn, hcr, hfr⟩, hB⟩
  case done =>
    rintro D ys W hD ⟨k, hk, hys, hs⟩ ⟨⟨hne, hcn, hcr, hfr⟩, hB⟩ hK
    have HE : Hid (N = ((lst N.toNat : Nat) : Int)) := hid (by
      have e : ((N.toNat : Nat) : Int) = N := by have := HN.out; omega
      rw [trl_done (n := N.toNat) (k := k) (by have := HN.out; omega) hk (by rw [e]; exact hs) (fun x hx => by rw [← hys] at hx; obtain ⟨y, hy, rfl⟩ := List.mem_map.1 hx; rw [e]; exact hne y hy)]
      exact e.symm)
    clear hne hys hs
    gi_wp2
    have hK' := (KeepsOthers.setCell W ⟨w.heap.size + 1, 0, none⟩ (.int .i64 N)).same D _ hK rfl
    refine ⟨by simp, .inl ⟨_, _, rfl, run_takeDeferred hK', ?_⟩⟩
    have hc5 := cell_kept (World.cell?_setCell_same' W ⟨w.heap.size + 1, 0, none⟩ (.int .i64 N) (by rw [hcr]; rfl)) (grownBy_putObj' _ D (.deferred none)) (fun r e => by cases e; exact ⟨_, hK', rfl⟩)
    refine ⟨.int .i64 N, ?_, ret_i rfl HE.out, (hB.setCell (p := ⟨w.heap.size + 1, 0, none⟩) (by simp) _).trans (belowK_b (w := w) (Nat.le_refl _) _ D _ _ (by simp at hD; omega) hK' rfl rfl)⟩
    simp [results, Tryz.f62, go_sem, hc5]
  case stop =>
    rintro D c pre W hD ⟨k, hpre⟩ ⟨⟨rfl, ⟨q, x, rfl, hne, hx⟩, hcr⟩, hB⟩ hK
    rw [lastD_app] at hcr
    have HE : Hid (x.1 = ((lst N.toNat : Nat) : Int)) := hid (by
      have e : ((N.toNat : Nat) : Int) = N := by have := HN.out; omega
      rw [List.map_append, trl_succ] at hpre
      obtain ⟨e1, e2⟩ := List.append_inj' hpre rfl
      have e3 : x.1 = tri k := by simpa using e2
      rw [trl_found (n := N.toNat) (k := k) (by have := HN.out; omega) (by rw [e, ← e3]; exact hx) (fun z hz => by rw [← e1] at hz; obtain ⟨y, hy, rfl⟩ := List.mem_map.1 hz; rw [e]; exact hne y hy)]
      exact e3)
    gi_wp2
    refine ⟨by simp, .inl ⟨_, _, rfl, run_takeDeferred hK, ?_⟩⟩
    have hc5 := cell_kept hcr (grownBy_putObj' _ D (.deferred none)) (fun r e => by cases e; exact ⟨_, hK, rfl⟩)
    refine ⟨.int .i64 x.1, ?_, ret_i rfl HE.out, hB.trans (belowK_b (w := w) (Nat.le_refl _) W D _ _ (by simp at hD; omega) hK rfl rfl)⟩
    simp [results, Tryz.f62, go_sem, hc5]

/-- prime.Least of every number. -/
theorem least_in (F : Fence) (n : Nat) (h11 : F.fn 62) (h19 : F.fn 78) (h24 : F.fn 89) (hro : F.round = none) (hn : 3 ≤ n) (N : Int) (w : World) :
    CallsIn F n Tryz.prog 62 #[.int .i64 N] w fun e W' => e = .returned (.int .i64 (leastOf N)) ∧ Below w.heap.size w W' := by
  by_cases h : N < 2 ∨ 2147483648 < N
  · rw [leastOf, if_pos h]
    exact least_no F n h11 hro N h w
  · rw [leastOf, if_neg h]
    exact least_yes F n h11 h19 h24 hro hn N (by omega) w

set_option maxRecDepth 100000 in
set_option maxHeartbeats 4000000 in
theorem is_in (F : Fence) (n : Nat) (h8 : F.fn 39) (h11 : F.fn 62) (h19 : F.fn 78) (h24 : F.fn 89) (hro : F.round = none) (hn : 4 ≤ n) (N : Int) (w : World) :
    CallsIn F n Tryz.prog 39 #[.int .i64 N] w fun e W' => e = .returned (.bool (isP N)) ∧ Below w.heap.size w W' := by
  have HL := hid (least_in F (n - 1) h11 h19 h24 hro (by omega) N w)
  have HP : Hid (isP N = (decide (2 ≤ N) && (leastOf N == N))) := hid rfl
  have h1 : 1 ≤ n := by omega
  generalize leastOf N = m at HL HP
  generalize isP N = b at HP ⊢
  by_cases h : 2 ≤ N
  · have HQ : Hid ((m == N) = b) := hid (by rw [HP.out, decide_eq_true h, Bool.true_and])
    clear HP
    refine callsIn_of_wp Tryz.func39 rfl h8 ?_ hro
    simp only [Tryz.ntmps39, List.size_toArray, List.length_cons, List.length_nil, Nat.reduceAdd, Nat.reduceSub, Array.replicate_succ, Array.replicate_zero, List.push_toArray, List.append_toArray, List.nil_append, List.cons_append]
    gi_wp2_with (gi_at_call 62; refine HL.out.mono ?_; rintro e w' ⟨rfl, hb⟩; have Hb := hid hb; clear hb)
    go_ret
    exact ⟨ret_b rfl HQ.out, Hb.out⟩
  · have HQ : Hid (false = b) := hid (by rw [HP.out, decide_eq_false h, Bool.false_and])
    clear HP
    refine callsIn_of_wp Tryz.func39 rfl h8 ?_ hro
    simp only [Tryz.ntmps39, List.size_toArray, List.length_cons, List.length_nil, Nat.reduceAdd, Nat.reduceSub, Array.replicate_succ, Array.replicate_zero, List.push_toArray, List.append_toArray, List.nil_append, List.cons_append]
    gi_wp2
    go_ret
    exact ⟨ret_b rfl HQ.out, Below.refl _ _⟩

theorem least_any (N : Int) (w : World) : Calls Tryz.prog 62 #[.int .i64 N] w fun e W' => e = .returned (.int .i64 (leastOf N)) ∧ Below w.heap.size w W' :=
  callsIn_wide.1 (least_in Fence.wide 3 trivial trivial trivial rfl (by omega) N w)
theorem is_any (N : Int) (w : World) : Calls Tryz.prog 39 #[.int .i64 N] w fun e W' => e = .returned (.bool (isP N)) ∧ Below w.heap.size w W' :=
  callsIn_wide.1 (is_in Fence.wide 4 trivial trivial trivial trivial rfl (by omega) N w)
end Go.Proofs.YtahconkjhneogaaGreatDoor

namespace Go.Proofs.YtahconkjhneogaaGreatDoor
open Go.RowKit Go.Lib

theorem tmod_cases (a : Int) {p : Int} (hp : 1 ≤ p) : (0 ≤ a.tmod p ∧ a.tmod p < p ∧ a % p = a.tmod p) ∨ (-p < a.tmod p ∧ a.tmod p < 0 ∧ a % p = a.tmod p + p) := by
  have h1 := Int.emod_nonneg a (show p ≠ 0 by omega)
  have h2 := Int.emod_lt_of_pos a (show 0 < p by omega)
  rcases Int.lt_or_le a 0 with h | h
  · have e : a.tmod p = -((-a) % p) := by
      rw [← Int.tmod_eq_emod_of_nonneg (show 0 ≤ -a by omega), Int.neg_tmod, Int.neg_neg]
    have h3 := Int.emod_nonneg (-a) (show p ≠ 0 by omega)
    have h4 := Int.emod_lt_of_pos (-a) (show 0 < p by omega)
    have e2 : (a % p + (-a) % p) % p = 0 := by rw [← Int.add_emod, Int.add_right_neg, Int.zero_emod]
    obtain ⟨c, hc⟩ := Int.dvd_of_emod_eq_zero e2
    have hc2 : c = 0 ∨ c = 1 := by
      rcases Int.lt_or_le c 0 with k | k
      · have := Int.mul_le_mul_of_nonneg_left (show c ≤ -1 by omega) (show 0 ≤ p by omega)
        omega
      · rcases Int.lt_or_le 1 c with k2 | k2
        · have := Int.mul_le_mul_of_nonneg_left (show 2 ≤ c by omega) (show 0 ≤ p by omega)
          omega
        · omega
    rcases hc2 with rfl | rfl
    · left; omega
    · right; omega
  · rw [Int.tmod_eq_emod_of_nonneg h]
    exact .inl ⟨h1, h2, rfl⟩



theorem rem_nonneg {n d : Int} (h : 0 ≤ n) : n.tmod d = n % d := Int.tmod_eq_emod_of_nonneg h

set_option maxHeartbeats 4000000 in
theorem ris_any (n : Int) (w : World) : Calls Tryz.prog 36 #[.int .i64 n] w fun e w' => e = .returned (.bool (isP n)) ∧ w = w' := by
  by_cases h1 : n < 2
  · have HE : Hid (false = isP n) := hid (isP_small h1).symm
    go_enter Tryz.func36, Tryz.ntmps36
    go_wp2
    go_ret
    exact ⟨ret_b rfl HE.out, rfl⟩
  by_cases h2 : 2147483648 < n
  · have HE : Hid (false = isP n) := hid (isP_great (by omega)).symm
    go_enter Tryz.func36, Tryz.ntmps36
    go_wp2
    go_ret
    exact ⟨ret_b rfl HE.out, rfl⟩
  by_cases h3 : n % 2 = 0
  · by_cases h4 : n = 2
    · subst h4
      have HE : Hid (true = isP 2) := hid isP_two.symm
      go_enter Tryz.func36, Tryz.ntmps36
      go_wp2
      go_ret
      exact ⟨ret_b rfl HE.out, rfl⟩
    · have HE : Hid (false = isP n) := hid ((isP_false n).2 fun ⟨_, _, h⟩ => not_even (by omega) (by omega) h).symm
      have h5 : (n == 2) = false := beq_eq_false_iff_ne.2 h4
      go_enter Tryz.func36, Tryz.ntmps36
      go_wp2
      go_ret
      exact ⟨ret_b rfl HE.out, rfl⟩
  · have HN : Hid (2 ≤ n.toNat ∧ n.toNat % 2 = 1 ∧ ((n.toNat : Nat) : Int) = n) := hid (by omega)
    go_enter Tryz.func36, Tryz.ntmps36
    go_wp2
    go_loop [3] (fun i => ∃ k : Nat, ∃ d : Int, Hid (d = 2 * (k : Int) + 3 ∧ ∀ j, j < k → n % (2 * (j : Int) + 3) ≠ 0) ∧ 3 ≤ d ∧ d ≤ 46342 ∧ i = .int .i64 d) (fun i => 46344 - (intOf i).toNat)
    case atStart => exact ⟨0, 3, hid ⟨rfl, fun j hj => by omega⟩, by omega, by omega, rfl⟩
    case round =>
      obtain ⟨k, d, HK, hd1, hd2, rfl⟩ := hrel
      have hq := sq_great (d := d) (by omega) hd2
      by_cases hlt : d * d ≤ n
      · have hd3 : d ≤ 46340 := sq_small (by omega) (by omega)
        by_cases hm : n % d = 0
        · have HE : Hid (false = isP n) := hid ((isP_false n).2 fun ⟨_, _, h⟩ => not_prm (n := n.toNat) (d := d.toNat) (by omega) (by
            have := Int.mul_le_mul_of_nonneg_left (show 2 ≤ d by omega) (show 0 ≤ d by omega)
            omega) (by
            have : (((n.toNat % d.toNat : Nat)) : Int) = 0 := by rw [Int.natCast_emod, HN.out.2.2, show ((d.toNat : Nat) : Int) = d by omega, hm]
            omega) h).symm
          go_wp2
          go_ret
          exact ⟨ret_b rfl HE.out, rfl⟩
        · have hr := Int.emod_nonneg n (show d ≠ 0 by omega)
          have hr2 := Int.emod_lt_of_pos n (show 0 < d by omega)
          go_wp2
          go_round
          case rel => exact ⟨k + 1, d + 2, hid ⟨by have := HK.out.1; omega, fun j hj => by
            by_cases e : j = k
            · subst e; rw [← HK.out.1]; exact hm
            · exact HK.out.2 j (by omega)⟩, by omega, by omega, rfl⟩
          case measure => simp [intOf]; omega
      · have HE : Hid (true = isP n) := hid ((isP_iff n).2 ⟨by omega, by omega, prm_odd HN.out.1 HN.out.2.1 fun j hj hz => by
          by_cases e : j < k
          · refine HK.out.2 j e ?_
            rw [← HN.out.2.2]
            have : ((n.toNat % (2 * j + 3) : Nat) : Int) = 0 := by rw [hz]; rfl
            simpa using this
          · have h6 : (2 * j + 3) * (2 * j + 3) ≥ d.toNat * d.toNat := Nat.mul_le_mul (by have := HK.out.1; omega) (by have := HK.out.1; omega)
            have h7 : ((d.toNat * d.toNat : Nat) : Int) = d * d := by rw [Int.natCast_mul, show ((d.toNat : Nat) : Int) = d by omega]
            have := HN.out.2.2
            omega⟩).symm
        go_wp2
        go_ret
        exact ⟨ret_b rfl HE.out, rfl⟩


theorem mul_bound {x y p : Int} (hx : 0 ≤ x ∧ x < p) (hy : 0 ≤ y ∧ y < p) (hp : p ≤ 2147483648) : 0 ≤ x * y ∧ x * y ≤ 4611686018427387904 := by
  have h := Int.mul_le_mul (show x ≤ 2147483648 by omega) (show y ≤ 2147483648 by omega) hy.1 (by omega)
  exact ⟨Int.mul_nonneg hx.1 hy.1, by omega⟩

end Go.Proofs.YtahconkjhneogaaGreatDoor

namespace Go.Proofs.YtahconkjhneogaaGreatDoor
open Go.RowKit Go.Lib


/-- What prime.Power tells. -/
def powerOf (a k p : Int) : Int := if p < 1 ∨ 2147483648 < p ∨ k < 0 then 0 else pwr a k.toNat p


end Go.Proofs.YtahconkjhneogaaGreatDoor

namespace Go.Proofs.YtahconkjhneogaaGreatDoor
open Go.RowKit Go.Lib

/-- What prime.Inverse tells. -/
def inverseOf (a p : Int) (e1 e2 : Value) : Value := if isP p then (if a % p = 0 then .tuple #[.int .i64 0, e2] else .tuple #[.int .i64 (pwr a (p.toNat - 2) p), .nilIface]) else .tuple #[.int .i64 0, e1]

end Go.Proofs.YtahconkjhneogaaGreatDoor

namespace Go.Proofs.YtahconkjhneogaaGreatDoor

/-- May a table have so many places? -/
def sizedB (n : Int) : Bool := decide (n ≤ 251) && isP n
/-- Is a stride right? -/
def rightS (m o k : Int) : Bool := sizedB m && decide (0 ≤ o) && decide (o < m) && decide (0 < k) && decide (k < m)
/-- The place number j. -/
def plc (m o k j : Int) : Int := (o + j % m * k) % m
/-- All places. -/
def plcs (m o k : Int) : List Int := (List.range m.toNat).map fun j : Nat => plc m o k j
/-- The number whose place it is. -/
def whn (m o k p : Int) : Int := ((p - o) * pwr k (m.toNat - 2) m) % m

theorem rightS_iff (m o k : Int) : rightS m o k = true ↔ m ≤ 251 ∧ isP m = true ∧ 0 ≤ o ∧ o < m ∧ 0 < k ∧ k < m := by
  unfold rightS sizedB
  simp only [Bool.and_eq_true, decide_eq_true_eq]
  constructor
  · rintro ⟨⟨⟨⟨⟨a, b⟩, c⟩, d⟩, e⟩, f⟩; exact ⟨a, b, c, d, e, f⟩
  · rintro ⟨a, b, c, d, e, f⟩; exact ⟨⟨⟨⟨⟨a, b⟩, c⟩, d⟩, e⟩, f⟩

theorem sized_range {m : Int} (h : sizedB m = true) : 2 ≤ m ∧ m ≤ 251 ∧ isP m = true := by
  unfold sizedB at h
  simp only [Bool.and_eq_true, decide_eq_true_eq] at h
  exact ⟨(isP_range h.2).1, h.1, h.2⟩

theorem plc_range {m : Int} (o k j : Int) (h : 1 ≤ m) : 0 ≤ plc m o k j ∧ plc m o k j < m :=
  ⟨Int.emod_nonneg _ (by omega), Int.emod_lt_of_pos _ (by omega)⟩
theorem plc_plain (m o k j : Int) : plc m o k j = (o + j * k) % m := by
  unfold plc
  rw [Int.add_emod, Int.mul_emod, Int.emod_emod_of_dvd j (Int.dvd_refl m), ← Int.mul_emod, ← Int.add_emod]
theorem plc_zero {m o : Int} (k : Int) (h0 : 0 ≤ o) (h1 : o < m) : plc m o k 0 = o := by
  rw [plc_plain, Int.zero_mul, Int.add_zero, Int.emod_eq_of_lt h0 h1]
theorem plc_add (m o k j : Int) : plc m o k (j + m) = plc m o k j := by
  unfold plc
  rw [Int.add_emod_right]
theorem plc_mod (m o k j : Int) : plc m o k (j % m) = plc m o k j := by
  unfold plc
  rw [Int.emod_emod_of_dvd j (Int.dvd_refl m)]
theorem plc_succ {m o k : Int} (j : Int) (hm : 1 ≤ m) (hk : 0 < k) (hkm : k < m) : plc m o k (j + 1) = if m ≤ plc m o k j + k then plc m o k j + k - m else plc m o k j + k := by
  have hr := plc_range o k j hm
  have e : plc m o k (j + 1) = (plc m o k j + k) % m := by
    rw [plc_plain, plc_plain, Int.emod_add_emod, Int.add_mul, Int.one_mul, Int.add_assoc]
  rw [e]
  by_cases h : m ≤ plc m o k j + k
  · rw [if_pos h, ← Int.sub_emod_right, Int.emod_eq_of_lt (by omega) (by omega)]
  · rw [if_neg h, Int.emod_eq_of_lt (by omega) (by omega)]

theorem whn_range {m : Int} (o k p : Int) (h : 1 ≤ m) : 0 ≤ whn m o k p ∧ whn m o k p < m :=
  ⟨Int.emod_nonneg _ (by omega), Int.emod_lt_of_pos _ (by omega)⟩
theorem inv_mul {m k : Int} (hp : isP m = true) (h0 : 0 < k) (h1 : k < m) : (pwr k (m.toNat - 2) m * k) % m = 1 := by
  have e : k % m = k := Int.emod_eq_of_lt (by omega) h1
  have := (pwr_inverse k hp (by omega)).1
  rwa [e] at this
/-- The number that is told is one whose place it is. -/
theorem plc_whn {m o k p : Int} (h : rightS m o k = true) (hp0 : 0 ≤ p) (hp1 : p < m) : plc m o k (whn m o k p) = p := by
  obtain ⟨_, hP, _, _, hk0, hk1⟩ := (rightS_iff m o k).1 h
  rw [plc_plain]
  unfold whn
  have hi := inv_mul hP hk0 hk1
  generalize pwr k (m.toNat - 2) m = i at hi
  have e1 : ((p - o) * i % m * k) % m = (p - o) % m := by
    rw [Int.mul_emod, Int.emod_emod_of_dvd _ (Int.dvd_refl m), ← Int.mul_emod, Int.mul_assoc, Int.mul_emod, hi, Int.mul_one, Int.emod_emod_of_dvd _ (Int.dvd_refl m)]
  rw [Int.add_emod, e1, ← Int.add_emod, show o + (p - o) = p by omega, Int.emod_eq_of_lt hp0 hp1]
/-- The number of a place is the one that is told. -/
theorem whn_plc {m o k j : Int} (h : rightS m o k = true) (hj0 : 0 ≤ j) (hj1 : j < m) : whn m o k (plc m o k j) = j := by
  obtain ⟨_, hP, _, _, hk0, hk1⟩ := (rightS_iff m o k).1 h
  rw [plc_plain]
  unfold whn
  have hi := inv_mul hP hk0 hk1
  generalize pwr k (m.toNat - 2) m = i at hi
  have e1 : (((o + j * k) % m - o) * i) % m = (j * (i * k)) % m := by
    rw [Int.mul_emod, Int.emod_sub_emod, show o + j * k - o = j * k by omega, ← Int.mul_emod, Int.mul_assoc, Int.mul_comm k i]
  rw [e1, Int.mul_emod, hi, Int.mul_one, Int.emod_emod_of_dvd _ (Int.dvd_refl m), Int.emod_eq_of_lt hj0 hj1]
theorem plc_inj {m o k i j : Int} (h : rightS m o k = true) (hi0 : 0 ≤ i) (hi1 : i < m) (hj0 : 0 ≤ j) (hj1 : j < m) (e : plc m o k i = plc m o k j) : i = j := by
  rw [← whn_plc h hi0 hi1, e, whn_plc h hj0 hj1]

theorem plcs_length (m o k : Int) : (plcs m o k).length = m.toNat := by simp [plcs]
theorem plcs_getD (m o k : Int) {j : Nat} (h : j < m.toNat) : (plcs m o k).getD j 0 = plc m o k j := by
  simp [plcs, List.getD_eq_getElem?_getD, h]
theorem plcs_take_succ (m o k : Int) {j : Nat} (h : j < m.toNat) : (plcs m o k).take (j + 1) = (plcs m o k).take j ++ [plc m o k j] := by
  rw [List.take_succ_eq_append_getElem (by simpa [plcs] using h)]
  simp [plcs]

/-- What When tells of a stride, right or not, and of a place, one or not. -/
def whenOf (m o k p : Int) : Int := if rightS m o k = true ∧ 0 ≤ p ∧ p < m then whn m o k p else -1
/-- What Place tells. -/
def placeOf (m o k j : Int) : Int := if rightS m o k = true then plc m o k j else -1

/-- The last number below k whose place is p, as the law looks for it. -/
theorem last_plc {m o k p : Int} (h : rightS m o k = true) (n : Nat) (hn : (n : Int) < m) :
    (plc m o k n = p ↔ (0 ≤ p ∧ p < m) ∧ whn m o k p = n) := by
  constructor
  · intro e
    have hr := plc_range o k (n : Int) (show 1 ≤ m by omega)
    exact ⟨e ▸ hr, by rw [← e]; exact whn_plc h (by omega) hn⟩
  · rintro ⟨⟨a, b⟩, c⟩
    rw [← c]
    exact plc_whn h a b
end Go.Proofs.YtahconkjhneogaaGreatDoor

namespace Go.Proofs.YtahconkjhneogaaGreatDoor
open Go.RowKit

/-- Block g holds the cells cs, of type t, none of them frozen. -/
def Blk (w : World) (g : Nat) (t : TypeId) (cs : Array Value) : Prop := w.heap[g]? = some (.cells cs t (0, 0))

theorem Blk.lt {w : World} {g : Nat} {t : TypeId} {cs : Array Value} (h : Blk w g t cs) : g < w.heap.size := (Array.getElem?_eq_some_iff.1 h).1
theorem Blk.new (w : World) (t : TypeId) (cs : Array Value) : Blk (w.alloc (.cells cs t)) w.heap.size t cs := heap_alloc_last w _
theorem Blk.below {w w' : World} {n g : Nat} {t : TypeId} {cs : Array Value} (h : Blk w g t cs) (hb : Below n w w') (hg : g < n) : Blk w' g t cs := by
  unfold Blk
  rw [hb.block g hg]
  exact h
theorem Blk.kept {w w' : World} {g : Nat} {t : TypeId} {cs : Array Value} (h : Blk w g t cs) (hb : Below w.heap.size w w') : Blk w' g t cs := h.below hb h.lt
theorem Blk.alloc {w : World} {g : Nat} {t : TypeId} {cs : Array Value} (h : Blk w g t cs) (o : Obj) : Blk (w.alloc o) g t cs := h.kept ((Below.refl _ _).alloc (Nat.le_refl _) _)
theorem Blk.row {w : World} {g : Nat} {t : TypeId} {cs : Array Value} (h : Blk w g t cs) (cs' : Array Value) : Blk (w.setRow g cs') g t cs' := setRow_heap w g cs cs' t (0, 0) h
theorem Blk.rowOther {w : World} {g k : Nat} {t : TypeId} {cs : Array Value} (h : Blk w g t cs) (hne : g ≠ k) (cs' : Array Value) : Blk (w.setRow k cs') g t cs := by
  unfold Blk
  rw [setRow_other w k g cs' hne]
  exact h
theorem Blk.cell {w : World} {g : Nat} {t : TypeId} {cs : Array Value} (h : Blk w g t cs) (i : Nat) : w.cell? ⟨g, i, none⟩ = cs[i]? := cell_of_row w g i cs t (0, 0) h
theorem Blk.frozen {w : World} {g : Nat} {t : TypeId} {cs : Array Value} (h : Blk w g t cs) (i : Nat) : w.frozen? ⟨g, i, none⟩ = false := by
  unfold Blk at h
  simp [World.frozen?, h]

theorem Blk.set {w : World} {g : Nat} {t : TypeId} {cs : Array Value} (h : Blk w g t cs) (i : Nat) (v : Value) : Blk (w.setCell ⟨g, i, none⟩ v) g t (cs.setIfInBounds i v) := heap_setCell_same w g i cs t v h
theorem Blk.setOther {w : World} {g k : Nat} {t : TypeId} {cs : Array Value} (h : Blk w g t cs) (hne : g ≠ k) (i : Nat) (v : Value) : Blk (w.setCell ⟨k, i, none⟩ v) g t cs := by
  unfold Blk
  rw [heap_setCell_other w ⟨k, i, none⟩ g v hne]
  exact h
theorem own_blk {w : World} {base g n : Nat} {e : TypeId} {xs : List Value} (h : w.ownsRow base e 1 (.slice (some ⟨g, 0, none⟩) n n) n xs) : Blk w g e xs.toArray := by
  rcases h.2 with ⟨h', _⟩ | ⟨g', cap, cur, h', _, hg, _, _, hcs, htake⟩
  · cases h'
  · simp only [Value.slice.injEq, Option.some.injEq, Addr.mk.injEq, and_true, true_and] at h'
    obtain ⟨rfl, rfl⟩ := h'
    have : cur = xs.toArray := by
      apply Array.ext'
      rw [← htake, List.take_of_length_le (by simp; omega)]
    unfold Blk
    rw [← this]
    exact hg

section
variable {P : Program}
theorem wpl_load {ops : Array Oper} {rest : List Oper} {o : Oper} {a : Act} {w : World} {Q : Exit → Act → World → Prop} (ty : TypeId) (x : Operand) (ho : o.op = .load ty x)
    (g : Nat) (hx : a.eval x = .pointer (some ⟨g, 0, none⟩)) (t : TypeId) (cs : Array Value) (d : TypeDesc) (hg : Blk w g t cs)
    (hu : P.underlying ty = some d) (hd : (match d with | .struct _ | .array _ _ => true | _ => false) = true) (n : Nat) (hi : (P.info? ty).map (·.size) = some n) (hn : n = cs.size)
    (hw : Region.wanted o (yielded ops a.tmps) = true)
    (h : wpList P ops Q rest (a.put o.dst (.agg cs)) w) : wpList P ops Q (o :: rest) a w :=
  BigFrame.wpList_want hw fun _ hK => wp_load_row ty x ho g hx t cs (0, 0) d hg hu hd (hn ▸ hi) (hK _ _ h)

theorem wpl_store {ops : Array Oper} {rest : List Oper} {o : Oper} {a : Act} {w : World} {Q : Exit → Act → World → Prop} (ty : TypeId) (x y : Operand) (ho : o.op = .store ty x y)
    (g : Nat) (cells : Array Value) (hx : a.eval x = .pointer (some ⟨g, 0, none⟩)) (hy : a.eval y = .agg cells)
    (t : TypeId) (old : Array Value) (hg : Blk w g t old) (n : Nat) (hi : (P.info? ty).map (·.size) = some n) (hn : n = cells.size)
    (hold : old.size = n) (h1 : cells.all (·.oneCell') = true) (hw : Region.wanted o (yielded ops a.tmps) = true)
    (h : wpList P ops Q rest (a.put o.dst undef) (w.setRow g cells)) : wpList P ops Q (o :: rest) a w :=
  BigFrame.wpList_want hw fun _ hK => wp_store_row ty x y ho g cells hx hy t old hg (hn ▸ hi) (hold.trans hn) h1 (hK _ _ h)

/-- An operation whose run is known. -/
theorem wpl_run {ops : Array Oper} {rest : List Oper} {o : Oper} {a : Act} {w : World} {Q : Exit → Act → World → Prop}
    (v : Value) (w' : World) (hrun : (execOp a.eval o).run P w = .ok (.value v) w') (hw : Region.wanted o (yielded ops a.tmps) = true)
    (h : wpList P ops Q rest (a.put o.dst v) w') : wpList P ops Q (o :: rest) a w :=
  BigFrame.wpList_want hw fun K hK => by
    unfold Oper.wp
    rw [hrun, Oper.upon_value]
    exact hK _ _ h
end


section
variable {P : Program}
theorem retA {fn : Func} {R : Ending → World → Prop} {a : Act} {w : World} {p : Tmp} {ty : TypeId} (h : fn.results = #[.cell p ty]) (g : Nat) (hp : a.tmps.getD p undef = .pointer (some ⟨g, 0, none⟩))
    (t : TypeId) (cs : Array Value) (d : TypeDesc) (hg : Blk w g t cs) (hu : P.underlying ty = some d) (hd : (match d with | .struct _ | .array _ _ => true | _ => false) = true)
    (n : Nat) (hi : (P.info? ty).map (·.size) = some n) (hn : n = cs.size) (hdf : a.defers = []) (hR : R (.returned (.agg cs)) w) : bodyPost P fn R .ret a w :=
  bodyPost_ret (results_cell_row h a.tmps w g t cs (0, 0) d hp hg hu hd (hn ▸ hi)) hdf hR

theorem retA2 {fn : Func} {R : Ending → World → Prop} {a : Act} {w : World} {p u : Tmp} {ty : TypeId} (h : fn.results = #[.cell p ty, .tmp u]) (g : Nat) (hp : a.tmps.getD p undef = .pointer (some ⟨g, 0, none⟩))
    (t : TypeId) (cs : Array Value) (d : TypeDesc) (hg : Blk w g t cs) (hu : P.underlying ty = some d) (hd : (match d with | .struct _ | .array _ _ => true | _ => false) = true)
    (n : Nat) (hi : (P.info? ty).map (·.size) = some n) (hn : n = cs.size) (hdf : a.defers = []) (v : Value) (hv : a.tmps.getD u undef = v) (hR : R (.returned (.tuple #[.agg cs, v])) w) : bodyPost P fn R .ret a w := by
  refine bodyPost_ret ?_ hdf (hv ▸ hR)
  rw [results_cell_tmp h, hp]
  simp only [asAddr, Sem.run_pure, Result.andThen_ok, run_loadVar_row w g t ty cs (0, 0) d hg hu hd (hn ▸ hi)]

end

section
variable {P : Program} {ops : Array Oper} {o : Oper} {a : Act} {w : World} {K : Act → World → Prop} {Q : Exit → Act → World → Prop} {E : Prop}
/-- A call of a Go function by its contract. -/
theorem step_call (f : FuncId) (args : Array Value) (hrun : (execOp a.eval o).run P w = .ok (.enter f args) w) (hw : Region.wanted o (yielded ops a.tmps) = true) {R : World → Prop} (v : Value)
    (hc : Calls P f args w fun e w' => e = .returned v ∧ R w') (h : ∀ w', R w' → K (a.put o.dst v) w') : if Region.wanted o (yielded ops a.tmps) = true then Oper.wp P o a w K Q else E := by
  rw [if_pos hw]
  unfold Oper.wp
  rw [hrun, Oper.upon_enter]
  refine hc.mono fun e w'' hh => ?_
  obtain ⟨rfl, hR⟩ := hh
  exact h _ hR

/-- A load of a block that is known whole may be taken first. -/
theorem yields_load {S : World → Prop} {oi : Oper} (ty : TypeId) (x : Operand) (ho : oi.op = .load ty x) (g : Nat) (hx : a.eval x = .pointer (some ⟨g, 0, none⟩)) (t : TypeId) (cs : Array Value) (d : TypeDesc)
    (hS : ∀ w, S w → Blk w g t cs) (hu : P.underlying ty = some d) (hd : (match d with | .struct _ | .array _ _ => true | _ => false) = true) (n : Nat) (hi : (P.info? ty).map (·.size) = some n) (hn : n = cs.size)
    (hw : Region.wanted oi (yielded ops a.tmps) = true) : YieldsIf P ops S oi (.agg cs) a :=
  .inl ⟨hw, fun w hw' => by
    unfold execOp
    simp only [ho, hx, Instr.loadAt, Instr.sureAddr, Sem.run_bind, Sem.run_pure, Result.andThen_ok, run_loadVar_row w g t ty cs (0, 0) d (hS w hw') hu hd (hn ▸ hi)]⟩
end

section
variable {P : Program} {ops : Array Oper} {Q : Exit → Act → World → Prop} {md : Region.Mode}
theorem wpAnyH_mono {S S' : World → Prop} (hS : ∀ w, S' w → S w) : ∀ (fuel : Nat) (listed : Array Bool) (a : Act) (w : World), wpAnyH P md ops Q S' fuel listed a w → wpAnyH P md ops Q S fuel listed a w
  | 0, _, _, _, h => h
  | fuel + 1, _, _, _, h => ⟨h.1, fun i hi => wpOp_mono (fun a' w' h' => ⟨hS w' h'.1, wpAnyH_mono hS fuel _ a' w' h'.2⟩) (h.2 i hi)⟩
end
section
variable {P : Program} {ops : Array Oper} {o : Oper} {a : Act} {w : World} {K : Act → World → Prop} {Q : Exit → Act → World → Prop} {E : Prop}
/-- A call of a Go function by its contract, its answer whatever the contract tells. -/
theorem step_callE (f : FuncId) (args : Array Value) (hrun : (execOp a.eval o).run P w = .ok (.enter f args) w) (hw : Region.wanted o (yielded ops a.tmps) = true) {R : Value → World → Prop}
    (hc : Calls P f args w fun e w' => ∃ v, e = .returned v ∧ R v w') (h : ∀ v w', R v w' → K (a.put o.dst v) w') : if Region.wanted o (yielded ops a.tmps) = true then Oper.wp P o a w K Q else E := by
  rw [if_pos hw]
  unfold Oper.wp
  rw [hrun, Oper.upon_enter]
  refine hc.mono fun e w'' hh => ?_
  obtain ⟨v, rfl, hR⟩ := hh
  exact h _ _ hR
theorem op_callE (f : FuncId) (args : Array Value) (hrun : (execOp a.eval o).run P w = .ok (.enter f args) w) {R : Value → World → Prop}
    (hc : Calls P f args w fun e w' => ∃ v, e = .returned v ∧ R v w') (h : ∀ v w', R v w' → K (a.put o.dst v) w') : Oper.wp P o a w K Q := by
  unfold Oper.wp
  rw [hrun, Oper.upon_enter]
  refine hc.mono fun e w'' hh => ?_
  obtain ⟨v, rfl, hR⟩ := hh
  exact h _ _ hR
end

theorem op_call {P : Program} {o : Oper} {a : Act} {w : World} {K : Act → World → Prop} {Q : Exit → Act → World → Prop} (f : FuncId) (args : Array Value) (hrun : (execOp a.eval o).run P w = .ok (.enter f args) w) {R : World → Prop} (v : Value)
    (hc : Calls P f args w fun e w' => e = .returned v ∧ R w') (h : ∀ w', R w' → K (a.put o.dst v) w') : Oper.wp P o a w K Q := by
  unfold Oper.wp
  rw [hrun, Oper.upon_enter]
  refine hc.mono fun e w'' hh => ?_
  obtain ⟨rfl, hR⟩ := hh
  exact h _ hR

section
variable {P : Program} {ops : Array Oper} {o : Oper} {a : Act} {w : World} {K : Act → World → Prop} {Q : Exit → Act → World → Prop} {E : Prop}
/-- The store of an aggregate into a block that is known whole, as a step of a region that draws its order. -/
theorem step_store (ty : TypeId) (x y : Operand) (ho : o.op = .store ty x y)
    (g : Nat) (cells : Array Value) (hx : a.eval x = .pointer (some ⟨g, 0, none⟩)) (hy : a.eval y = .agg cells)
    (t : TypeId) (old : Array Value) (hg : Blk w g t old) (n : Nat) (hi : (P.info? ty).map (·.size) = some n) (hn : n = cells.size)
    (hold : old.size = n) (h1 : cells.all (·.oneCell') = true) (hw : Region.wanted o (yielded ops a.tmps) = true)
    (h : K (a.put o.dst undef) (w.setRow g cells)) : if Region.wanted o (yielded ops a.tmps) = true then Oper.wp P o a w K Q else E := by
  rw [if_pos hw]
  exact wp_store_row ty x y ho g cells hx hy t old hg (hn ▸ hi) (hold.trans hn) h1 h
/-- Any operation whose run is known. -/
theorem step_run (v : Value) (w' : World) (hrun : (execOp a.eval o).run P w = .ok (.value v) w') (hw : Region.wanted o (yielded ops a.tmps) = true)
    (h : K (a.put o.dst v) w') : if Region.wanted o (yielded ops a.tmps) = true then Oper.wp P o a w K Q else E := by
  rw [if_pos hw]
  unfold Oper.wp
  rw [hrun, Oper.upon_value]
  exact h
end

end Go.Proofs.YtahconkjhneogaaGreatDoor

namespace Go.Proofs.YtahconkjhneogaaGreatDoor
open Go.RowKit Go.Lib

set_option maxHeartbeats 1000000 in
theorem sized_any (n : Int) (w : World) : Calls Tryz.prog 86 #[.int .i64 n] w fun e w' => e = .returned (.bool (sizedB n)) ∧ Below w.heap.size w w' := by
  have HI := hid (is_any n w)
  by_cases h : n ≤ 251
  · have HE : Hid (isP n = sizedB n) := hid (by unfold sizedB; rw [decide_eq_true h, Bool.true_and])
    generalize isP n = b at *
    go_enter Tryz.func86, Tryz.ntmps86
    go_wp2_with fail
    refine HI.out.mono ?_
    rintro e w1 ⟨rfl, hb⟩
    have Hb := hid hb
    clear hb
    go_wp2
    go_ret
    exact ⟨ret_b rfl HE.out, Hb.out⟩
  · have HE : Hid (false = sizedB n) := hid (by unfold sizedB; rw [decide_eq_false h, Bool.false_and])
    go_enter Tryz.func86, Tryz.ntmps86
    go_wp2
    go_ret
    exact ⟨ret_b rfl HE.out, Below.refl _ _⟩

set_option maxHeartbeats 1000000 in
theorem rsized_any (n : Int) (w : World) : Calls Tryz.prog 15 #[.int .i64 n] w fun e w' => e = .returned (.bool (sizedB n)) ∧ w = w' := by
  have HI := hid (ris_any n w)
  by_cases h : n ≤ 251
  · have HE : Hid (isP n = sizedB n) := hid (by unfold sizedB; rw [decide_eq_true h, Bool.true_and])
    generalize isP n = b at *
    go_enter Tryz.func15, Tryz.ntmps15
    go_wp2_with fail
    refine HI.out.mono ?_
    rintro e w1 ⟨rfl, rfl⟩
    go_wp2
    go_ret
    exact ⟨ret_b rfl HE.out, rfl⟩
  · have HE : Hid (false = sizedB n) := hid (by unfold sizedB; rw [decide_eq_false h, Bool.false_and])
    go_enter Tryz.func15, Tryz.ntmps15
    go_wp2
    go_ret
    exact ⟨ret_b rfl HE.out, rfl⟩

set_option maxHeartbeats 4000000 in
theorem right_any (m o k : Int) (w : World) : Calls Tryz.prog 102 #[.agg #[.int .i64 m, .int .i64 o, .int .i64 k]] w fun e w' => e = .returned (.bool (rightS m o k)) ∧ Below w.heap.size w w' := by
  have HI := hid (fun W => sized_any m W)
  have HN := hid (Blk.new w 100 #[.int .i64 m, .int .i64 o, .int .i64 k])
  have HB : Hid (Below w.heap.size w (w.alloc (.cells #[.int .i64 m, .int .i64 o, .int .i64 k] 100))) := hid ((Below.refl _ w).alloc (Nat.le_refl _) _)
  have HR : Hid (rightS m o k = (sizedB m && decide (0 ≤ o) && decide (o < m) && decide (0 < k) && decide (k < m))) := hid rfl
  generalize sizedB m = b at HI HR
  generalize rightS m o k = r at HR ⊢
  have key : ∀ c : Bool, (b && decide (0 ≤ o) && decide (o < m) && decide (0 < k) && decide (k < m)) = c → (b = false ∧ c = false) ∨ (b = true ∧ ((o < 0 ∧ c = false) ∨ (0 ≤ o ∧ ((m ≤ o ∧ c = false) ∨ (o < m ∧ ((k ≤ 0 ∧ c = false) ∨ (0 < k ∧ ((m ≤ k ∧ c = false) ∨ (k < m ∧ c = true))))))))) := by
    intro c hc
    subst hc
    cases b
    · simp
    · by_cases h1 : 0 ≤ o <;> by_cases h2 : o < m <;> by_cases h3 : 0 < k <;> by_cases h4 : k < m <;> simp [h1, h2, h3, h4] <;> omega
  rcases key r HR.out.symm with ⟨rfl, h0⟩ | ⟨rfl, ⟨h1, h0⟩ | ⟨h1, ⟨h2, h0⟩ | ⟨h2, ⟨h3, h0⟩ | ⟨h3, ⟨h4, h0⟩ | ⟨h4, h0⟩⟩⟩⟩⟩
  all_goals
    have HE := hid h0.symm
    clear h0 HR key
    go_enter Tryz.func102, Tryz.ntmps102
    go_wp2_with fail
    refine (HI.out _).mono ?_
    rintro e w1 ⟨rfl, hb⟩
    have Hb := hid hb
    have c0 : w1.cell? ⟨w.heap.size, 0, none⟩ = some (.int .i64 m) := (HN.out.kept hb).cell 0
    have c1 : w1.cell? ⟨w.heap.size, 1, none⟩ = some (.int .i64 o) := (HN.out.kept hb).cell 1
    have c2 : w1.cell? ⟨w.heap.size, 2, none⟩ = some (.int .i64 k) := (HN.out.kept hb).cell 2
    clear hb
    go_wp2
    go_ret
    exact ⟨ret_b rfl (by first | exact HE.out | (rw [decide_eq_false (by omega)]; exact HE.out) | (rw [decide_eq_true (by omega)]; exact HE.out)), bel2 HB.out Hb.out⟩


set_option maxHeartbeats 2000000 in
theorem srest_any (n m : Int) (h1 : 1 ≤ m) (h2 : m ≤ 251) (w : World) : Calls Tryz.prog 105 #[.int .i64 n, .int .i64 m] w fun e w' => e = .returned (.int .i64 (n % m)) ∧ w = w' := by
  have hne : m ≠ 0 := by omega
  have hc := tmod_cases n h1
  have h3 := Int.emod_nonneg n hne
  have h4 := Int.emod_lt_of_pos n (show 0 < m by omega)
  generalize ht : n.tmod m = t at *
  have hs : 0 ≤ t + m := by omega
  have ht1 : -m < t := by omega
  have ht2 : t < m := by omega
  have e1 : (t + m) % m = n % m := by
    rw [Int.add_emod_right]
    rcases hc with ⟨a, b, c⟩ | ⟨a, b, c⟩
    · rw [c, Int.emod_eq_of_lt a b]
    · rw [c, ← Int.add_emod_right, Int.emod_eq_of_lt (by omega) (by omega)]
  have e2 : (t + m).tmod m = n % m := by rw [Int.tmod_eq_emod_of_nonneg hs, e1]
  clear hc
  generalize n % m = r at *
  go_enter Tryz.func105, Tryz.ntmps105
  go_wp2
  go_ret
  exact ⟨ret_i rfl (by first | rfl | exact e1 | exact e2), rfl⟩

/-- The functions that tell a stride's places. -/
def noF : Value := .func (.func 103) #[] #[]
def yesF (b : Nat) : Value := .func (.func 104) #[] #[.pointer (some ⟨b, 0, none⟩)]

set_option maxHeartbeats 2000000 in
theorem order_no (m o k : Int) (h : rightS m o k = false) (w : World) : Calls Tryz.prog 88 #[.agg #[.int .i64 m, .int .i64 o, .int .i64 k]] w fun e w' => e = .returned (.func (.func 103) #[] #[]) ∧ Below w.heap.size w w' := by
  have HI := hid (fun W => h ▸ right_any m o k W)
  have HB : Hid (Below w.heap.size w (w.alloc (.cells #[.int .i64 m, .int .i64 o, .int .i64 k] 100))) := hid ((Below.refl _ w).alloc (Nat.le_refl _) _)
  clear h
  go_enter Tryz.func88, Tryz.ntmps88
  go_wp2_with fail
  refine (HI.out _).mono ?_
  rintro e w1 ⟨rfl, hb⟩
  have Hb := hid hb
  clear hb
  go_wp2
  go_ret
  exact ⟨rfl, bel2 HB.out Hb.out⟩

set_option maxHeartbeats 2000000 in
theorem order_yes (m o k : Int) (h : rightS m o k = true) (w : World) : Calls Tryz.prog 88 #[.agg #[.int .i64 m, .int .i64 o, .int .i64 k]] w fun e w' => e = .returned (.func (.func 104) #[] #[.pointer (some ⟨w.heap.size, 0, none⟩)]) ∧ Blk w' w.heap.size 100 #[.int .i64 m, .int .i64 o, .int .i64 k] ∧ Below w.heap.size w w' := by
  have HI := hid (fun W => h ▸ right_any m o k W)
  have HN := hid (Blk.new w 100 #[.int .i64 m, .int .i64 o, .int .i64 k])
  have HB : Hid (Below w.heap.size w (w.alloc (.cells #[.int .i64 m, .int .i64 o, .int .i64 k] 100))) := hid ((Below.refl _ w).alloc (Nat.le_refl _) _)
  clear h
  go_enter Tryz.func88, Tryz.ntmps88
  go_wp2_with fail
  refine (HI.out _).mono ?_
  rintro e w1 ⟨rfl, hb⟩
  have Hb := hid hb
  clear hb
  go_wp2
  go_ret
  exact ⟨rfl, HN.out.kept Hb.out, bel2 HB.out Hb.out⟩

set_option maxHeartbeats 2000000 in
theorem placeno_any (j : Int) (w : World) : Calls Tryz.prog 103 #[.int .i64 j] w fun e w' => e = .returned (.int .i64 (-1)) ∧ w = w' := by
  go_enter Tryz.func103, Tryz.ntmps103
  go_wp2
  go_ret
  exact ⟨rfl, rfl⟩

theorem calls_flip {P : Program} {f : FuncId} {args : Array Value} {w : World} {x : Ending} (h : Calls P f args w fun e w' => e = x ∧ w = w') : Calls P f args w fun e w' => e = x ∧ w' = w := h.mono fun _ _ ⟨a, b⟩ => ⟨a, b.symm⟩

theorem mul_small {x y : Int} (hx : 0 ≤ x ∧ x ≤ 251) (hy : 0 ≤ y ∧ y ≤ 251) : 0 ≤ x * y ∧ x * y ≤ 63001 := by
  refine ⟨Int.mul_nonneg hx.1 hy.1, ?_⟩
  have := Int.mul_le_mul hx.2 hy.2 hy.1 (show (0 : Int) ≤ 251 by omega)
  omega

set_option maxHeartbeats 4000000 in
theorem placeyes_any (m o k j : Int) (h : rightS m o k = true) (b : Nat) (w : World) (hb : Blk w b 100 #[.int .i64 m, .int .i64 o, .int .i64 k]) :
    Calls Tryz.prog 104 #[.int .i64 j, .pointer (some ⟨b, 0, none⟩)] w fun e w' => e = .returned (.int .i64 (plc m o k j)) ∧ Below w.heap.size w w' := by
  obtain ⟨a1, a2, a3, a4, a5, a6⟩ := (rightS_iff m o k).1 h
  have a7 := (isP_range a2).1
  have HI := hid (fun W => srest_any j m (by omega) a1 W)
  have HE : Hid ((o + j % m * k) % m = plc m o k j) := hid rfl
  have r1 := Int.emod_nonneg j (show m ≠ 0 by omega)
  have r2 := Int.emod_lt_of_pos j (show 0 < m by omega)
  have q := mul_small (x := j % m) (y := k) ⟨r1, by omega⟩ ⟨by omega, by omega⟩
  have c0 : w.cell? ⟨b, 0, none⟩ = some (.int .i64 m) := hb.cell 0
  have c1 : w.cell? ⟨b, 1, none⟩ = some (.int .i64 o) := hb.cell 1
  have c2 : w.cell? ⟨b, 2, none⟩ = some (.int .i64 k) := hb.cell 2
  clear h a2 hb
  have hne : m ≠ 0 := by omega
  generalize j % m = r at *
  generalize plc m o k j = z at *
  generalize hrk : r * k = y at *
  have e1 : IntKind.i64.wrap (r * k) = y := by rw [hrk]; exact IntWalk.i64_in _ (by omega)
  have e2 : IntKind.i64.wrap (o + y) = o + y := IntWalk.i64_in _ (by omega)
  have e3 : (o + y).tmod m = (o + y) % m := Int.tmod_eq_emod_of_nonneg (by omega)
  have HE := hid HE.out
  clear hrk
  go_enter Tryz.func104, Tryz.ntmps104
  go_wp2
  go_quiet ((go_at_call 105; exact Calls.quiet_of_same (calls_flip (HI.out _))))
  go_wp2
  go_ret
  exact ⟨ret_i rfl HE.out, below_drewN _ _⟩
end Go.Proofs.YtahconkjhneogaaGreatDoor

namespace Go.Proofs.YtahconkjhneogaaGreatDoor
open Go.RowKit Go.Lib

/-- M numbers lie at the head of block g. -/
def NumAt (W : World) (g M : Nat) (f : Nat → Int) : Prop := g < W.heap.size ∧ ∀ j, j < M → W.cell? ⟨g, j, none⟩ = some (.int .i64 (f j))
theorem NumAt.kept {w w' : World} {g M : Nat} {f : Nat → Int} (h : NumAt w g M f) (hb : Below w.heap.size w w') : NumAt w' g M f :=
  ⟨Nat.lt_of_lt_of_le h.1 hb.size, fun j hj => (hb.cell (p := ⟨g, j, none⟩) h.1).trans (h.2 j hj)⟩
theorem NumAt.grown {w w' : World} {g M c : Nat} {f : Nat → Int} (h : NumAt w g M f) (hb : w.grownBy w' (some c)) (hne : g ≠ c) : NumAt w' g M f :=
  ⟨Nat.lt_of_lt_of_le h.1 hb.size, fun j hj => (World.cell?_of_block (a := ⟨g, j, none⟩) (hb.block g h.1 (fun e => hne (Option.some.inj e)))).trans (h.2 j hj)⟩





end Go.Proofs.YtahconkjhneogaaGreatDoor

namespace Go.Proofs.YtahconkjhneogaaGreatDoor
open Go.RowKit Go.Lib

theorem Tryz.infoIntV : (Tryz.prog.info? 3).map (fun i => (i.zero, i.size, i.bytes)) = some (some (.int .i64 0), 1, 8) := by kernel_rfl

/-- What All tells of a right stride. -/
def AllEnd (M : Nat) (o k : Int) (w : World) (e : Ending) (w' : World) : Prop := ∃ g, e = .returned (.slice (some ⟨g, 0, none⟩) M M) ∧ w.heap.size ≤ g ∧ NumAt w' g M (fun j => plc M o k j) ∧ Below w.heap.size w w'

theorem row_set {w : World} {g M c : Nat} {o k : Int} {t : TypeId} (h : w.rowIs g t M (fun j => .int .i64 (if j < c then plc M o k j else 0))) : (w.setCell ⟨g, c, none⟩ (.int .i64 (plc M o k c))).rowIs g t M (fun j => .int .i64 (if j < c + 1 then plc M o k j else 0)) :=
  (h.set c _).congr fun j _ => by
    by_cases h1 : j = c
    · subst h1; simp
    · by_cases h2 : j < c
      · simp [h1, h2, Nat.lt_succ_of_lt h2]
      · simp [h1, h2, show ¬ j < c + 1 by omega]

end Go.Proofs.YtahconkjhneogaaGreatDoor
