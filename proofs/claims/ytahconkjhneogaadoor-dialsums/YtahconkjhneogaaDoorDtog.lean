/-
  The law DialTogether.
-/
import Derived.Test.YtahconkjhneogaaDoorDapp
import Derived.Test.YtahconkjhneogaaDoorDliv
namespace Go.Proofs.YtahconkjhneogaaDoor
open Go.RowKit Go.Lib

/-- The sum of the first c of the balances. -/
def sumr (xs : List Int) (k : Nat) : Nat → Int
  | 0 => 0
  | c + 1 => sumr xs k c + balr xs (c : Nat) k
def sumi (xs : List Int) (k : Nat) : Nat → Int
  | 0 => 0
  | c + 1 => sumi xs k c + bali xs (c : Nat) k
theorem sumr_zero (xs : List Int) : ∀ c, sumr xs 0 c = 0
  | 0 => rfl
  | c + 1 => by unfold sumr; rw [sumr_zero xs c]; rfl
theorem sumi_zero (xs : List Int) : ∀ c, sumi xs 0 c = 0
  | 0 => rfl
  | c + 1 => by unfold sumi; rw [sumi_zero xs c]; rfl
theorem sumr_succ (xs : List Int) (k : Nat) (h : 0 ≤ xs.getD k 0) : ∀ c : Nat, sumr xs (k + 1) c = sumr xs k c + (if xs.getD k 0 < c then qr k else 0)
  | 0 => by rw [if_neg (by omega)]; rfl
  | c + 1 => by
    have := sumr_succ xs k h c
    unfold sumr
    rw [this]
    rw [show balr xs (c : Nat) (k + 1) = balr xs (c : Nat) k + (if xs.getD k 0 = (c : Nat) then qr k else 0) from rfl]
    by_cases h1 : xs.getD k 0 < c
    · rw [if_pos h1, if_neg (by omega), if_pos (by omega)]; omega
    · by_cases h2 : xs.getD k 0 = (c : Nat)
      · rw [if_neg h1, if_pos h2, if_pos (by omega)]; omega
      · rw [if_neg h1, if_neg h2, if_neg (by omega)]; omega
theorem sumi_succ (xs : List Int) (k : Nat) (h : 0 ≤ xs.getD k 0) : ∀ c : Nat, sumi xs (k + 1) c = sumi xs k c + (if xs.getD k 0 < c then qi k else 0)
  | 0 => by rw [if_neg (by omega)]; rfl
  | c + 1 => by
    have := sumi_succ xs k h c
    unfold sumi
    rw [this]
    rw [show bali xs (c : Nat) (k + 1) = bali xs (c : Nat) k + (if xs.getD k 0 = (c : Nat) then qi k else 0) from rfl]
    by_cases h1 : xs.getD k 0 < c
    · rw [if_pos h1, if_neg (by omega), if_pos (by omega)]; omega
    · by_cases h2 : xs.getD k 0 = (c : Nat)
      · rw [if_neg h1, if_pos h2, if_pos (by omega)]; omega
      · rw [if_neg h1, if_neg h2, if_neg (by omega)]; omega
/-- All balances, together, are the total. -/
theorem sum_total (xs : List Int) (M : Nat) (h : ∀ j, j < xs.length → 0 ≤ xs.getD j 0 ∧ xs.getD j 0 < M) : ∀ k, k ≤ xs.length → sumr xs k M = totr k ∧ sumi xs k M = toti k
  | 0, _ => ⟨sumr_zero xs M, sumi_zero xs M⟩
  | k + 1, hk => by
    obtain ⟨i1, i2⟩ := sum_total xs M h k (by omega)
    obtain ⟨h1, h2⟩ := h k (by omega)
    rw [sumr_succ xs k h1, sumi_succ xs k h1, if_pos h2, if_pos h2, i1, i2]
    exact ⟨rfl, rfl⟩
theorem sumr_small (xs : List Int) (k : Nat) : ∀ c, (sumr xs k c).natAbs ≤ c * k
  | 0 => by simp [sumr]
  | c + 1 => by
    have := sumr_small xs k c
    have := balr_small xs (c : Nat) k
    unfold sumr
    rw [Nat.succ_mul]
    omega
theorem sumi_small (xs : List Int) (k : Nat) : ∀ c, (sumi xs k c).natAbs ≤ c * k
  | 0 => by simp [sumi]
  | c + 1 => by
    have := sumi_small xs k c
    have := bali_small xs (c : Nat) k
    unfold sumi
    rw [Nat.succ_mul]
    omega
theorem q_succ (k : Nat) : qr (k + 1) = -qi k ∧ qi (k + 1) = qr k := by
  have hc : k % 4 = 0 ∨ k % 4 = 1 ∨ k % 4 = 2 ∨ k % 4 = 3 := by omega
  unfold qr qi
  rcases hc with h | h | h | h
  · rw [show (k + 1) % 4 = 1 by omega, h]; decide
  · rw [show (k + 1) % 4 = 2 by omega, h]; decide
  · rw [show (k + 1) % 4 = 3 by omega, h]; decide
  · rw [show (k + 1) % 4 = 0 by omega, h]; decide
/-- Places one further on. -/
theorem bal_on (x : Int) (xs : List Int) (who : Int) (h : x ≠ who) : ∀ k, balr (x :: xs) who (k + 1) = -bali xs who k ∧ bali (x :: xs) who (k + 1) = balr xs who k
  | 0 => by
    unfold balr bali
    simp [h, balr, bali]
  | k + 1 => by
    obtain ⟨i1, i2⟩ := bal_on x xs who h k
    rw [show balr (x :: xs) who (k + 1 + 1) = balr (x :: xs) who (k + 1) + (if xs.getD k 0 = who then qr (k + 1) else 0) from rfl, show bali (x :: xs) who (k + 1 + 1) = bali (x :: xs) who (k + 1) + (if xs.getD k 0 = who then qi (k + 1) else 0) from rfl, i1, i2, (q_succ k).1, (q_succ k).2]
    rw [show bali xs who (k + 1) = bali xs who k + (if xs.getD k 0 = who then qi k else 0) from rfl, show balr xs who (k + 1) = balr xs who k + (if xs.getD k 0 = who then qr k else 0) from rfl]
    by_cases e : xs.getD k 0 = who
    · simp only [if_pos e]
      exact ⟨by omega, trivial⟩
    · simp only [if_neg e]
      exact ⟨by omega, trivial⟩

theorem fe_fi (a : Int) (h : a.natAbs ≤ 1000000) : (FloatKind.f64.format.order (fi a) (fi a) == some .eq) = true := by
  have p : (1000000 : Nat) < 2 ^ 53 := by decide
  rw [show FloatKind.f64.format = Ieee.double from rfl, order_fi a a (by omega) (by omega), (Int.compare_eq_eq.2 rfl : compare a a = .eq)]
  rfl
theorem ng_all : (List.range 801).all (fun b => FloatKind.f64.format.order (fi (-((b : Int) - 400))) (ng (fi ((b : Int) - 400))) == some .eq) = true := by decide +kernel
theorem ng_fi (a : Int) (h : a.natAbs ≤ 400) : (FloatKind.f64.format.order (fi (-a)) (ng (fi a)) == some .eq) = true := by
  have := (List.all_eq_true.1 ng_all) (a + 400).toNat (by rw [List.mem_range]; omega)
  rwa [show ((a + 400).toNat : Int) - 400 = a by omega] at this

set_option linter.unusedSimpArgs false in
set_option maxRecDepth 100000 in
set_option maxHeartbeats 4000000 in
theorem together_out (ad : Option Addr) (n cap : Nat) (m : Int) (h : 300 < n ∨ m < 1 ∨ 24 < m) (w : World) :
    Calls Tryd.prog 4 #[.slice ad n cap, .int .i64 m] w fun e w' => e = .returned (.bool true) ∧ Below w.heap.size w w' := by
  have HA := hid (alive_any w)
  by_cases h1 : 300 < n
  · clear h
    go_enter Tryd.func4, Tryd.ntmps4
    go_wp2_with fail
    refine HA.out.mono ?_
    rintro e w1 ⟨rfl, hb⟩
    have Hb := hid hb
    clear hb
    go_wp2
    go_ret
    exact ⟨rfl, Hb.out⟩
  · have q1 : decide ((300 : Int) < (n : Int)) = false := decide_eq_false (by omega)
    by_cases h2 : m < 1
    · clear h
      go_enter Tryd.func4, Tryd.ntmps4
      go_wp2_with fail
      refine HA.out.mono ?_
      rintro e w1 ⟨rfl, hb⟩
      have Hb := hid hb
      clear hb
      go_wp2
      go_ret
      exact ⟨rfl, Hb.out⟩
    · have h3 : 24 < m := by omega
      clear h
      go_enter Tryd.func4, Tryd.ntmps4
      go_wp2_with fail
      refine HA.out.mono ?_
      rintro e w1 ⟨rfl, hb⟩
      have Hb := hid hb
      clear hb
      go_wp2
      go_ret
      exact ⟨rfl, Hb.out⟩
end Go.Proofs.YtahconkjhneogaaDoor
