/-
  Sums: the calls that only reckon: Fold, Change, Same, and the document's.
-/
import Derived.Test.YtnlhdeffoalhiaaSpure
import Derived.Lib.Hide
import Derived.TacticsInMore
namespace Go.Proofs.Ytnlhdeffoalhiaa
open Go.RowKit Go.Lib
attribute [local go_sem] and16

theorem ret_i {v : Value} {x y : Int} (hv : v = .int .i64 x) (h : x = y) : Ending.returned v = .returned (.int .i64 y) := by rw [hv, h]
theorem ret_b {v : Value} {x y : Bool} (hv : v = .bool x) (h : x = y) : Ending.returned v = .returned (.bool y) := by rw [hv, h]

set_option maxHeartbeats 2000000 in
theorem sfold_any (n : Int) (h1 : -9223372036854775808 ≤ n) (h2 : n ≤ 9223372036854775807) (w : World) : Calls Try.prog 12 #[.int .i64 n] w fun e w' => e = .returned (.int .i64 (fold n)) ∧ w' = w := by
  have go : ∀ m : Int, (n < 0 ∧ m = 0) ∨ (n = 0 ∧ m = 0) ∨ (0 < n ∧ m = n) → fold m = fold n := by
    rintro m (⟨h, rfl⟩ | ⟨rfl, rfl⟩ | ⟨h, rfl⟩)
    · unfold fold; rw [if_pos (by omega), if_pos (by omega)]
    · rfl
    · rfl
  have GO := hid go
  clear go
  rcases Int.lt_trichotomy n 0 with h0 | rfl | h0
  all_goals
    go_enter Try.func12, Try.ntmps12
    go_wp2
    go_loop [0] (fun i => ∃ s : Int, 0 ≤ s ∧ s ≤ 9223372036854775807 ∧ i = .int .i64 s ∧ Hid (fold s = fold _)) (fun i => (intOf i).toNat)
    case atStart => exact ⟨_, by omega, by omega, rfl, hid (GO.out _ (by first | exact .inr (.inl ⟨trivial, rfl⟩) | exact .inr (.inl ⟨rfl, rfl⟩) | exact .inl ⟨by assumption, rfl⟩ | exact .inr (.inr ⟨by assumption, rfl⟩)))⟩
    case round =>
      obtain ⟨s, hs1, hs2, rfl, HS⟩ := hrel
      by_cases hc : 65535 < s
      · go_wp2
        go_round
        case rel => exact ⟨_, by omega, by omega, rfl, hid ((fold_step hc).trans HS.out)⟩
        case measure => simp [intOf]; omega
      · go_wp2
        go_ret
        exact ⟨ret_i rfl ((fold_small hs1 (by omega)).symm.trans HS.out), rfl⟩

set_option maxHeartbeats 2000000 in
theorem rfold_any (n : Int) (h1 : -9223372036854775808 ≤ n) (h2 : n ≤ 9223372036854775807) (w : World) : Calls Try.prog 13 #[.int .i64 n] w fun e w' => e = .returned (.int .i64 (fold n)) ∧ w' = w := by
  have GO : Hid ((n ≤ 0 → 0 = fold n) ∧ (0 < n → (n - 1) % 65535 + 1 = fold n)) := hid ⟨fun h => by rw [fold, if_pos h], fun h => by rw [fold, if_neg (by omega)]⟩
  by_cases h : n ≤ 0
  · go_enter Try.func13, Try.ntmps13
    go_wp2
    go_ret
    exact ⟨ret_i rfl (GO.out.1 h), rfl⟩
  · go_enter Try.func13, Try.ntmps13
    go_wp2
    go_ret
    exact ⟨ret_i rfl (GO.out.2 h), rfl⟩

theorem low_eq (n : Int) : wrap64 ((IntKind.u64.wrap n).tmod 65536) = n % 65536 := by
  rw [show IntKind.u64.wrap n = n % 18446744073709551616 by simp [IntKind.wrap, IntKind.bits, IntKind.signed], Int.tmod_eq_emod_of_nonneg (by omega)]
  unfold wrap64
  omega

set_option maxHeartbeats 2000000 in
theorem low_any (n : Int) (w : World) : Calls Try.prog 22 #[.int .i64 n] w fun e w' => e = .returned (.int .i64 (n % 65536)) ∧ w' = w := by
  go_enter Try.func22, Try.ntmps22
  go_wp2
  go_ret
  exact ⟨ret_i rfl (low_eq n), rfl⟩

theorem same_eq (a b : Int) (hne : ¬ a % 65536 = b % 65536) (x : Int) (hx : x = (a % 65536 - b % 65536) ∧ b % 65536 < a % 65536 ∨ x = (b % 65536 - a % 65536) ∧ a % 65536 < b % 65536) : (a % 65536 == b % 65536 || x == 65535) = same a b := by
  unfold same
  rw [beq_eq_false_iff_ne.2 hne, decide_eq_false hne, Bool.false_or, Bool.false_or]
  rw [Bool.eq_iff_iff]
  simp only [beq_iff_eq, Bool.or_eq_true, Bool.and_eq_true, decide_eq_true_eq]
  omega

set_option maxHeartbeats 2000000 in
theorem ssame_any (a b : Int) (w : World) : Calls Try.prog 17 #[.int .i64 a, .int .i64 b] w fun e w' => e = .returned (.bool (same a b)) ∧ w' = w := by
  by_cases h : a % 65536 = b % 65536
  · have HS : Hid (true = same a b) := hid (by unfold same; rw [decide_eq_true h]; rfl)
    go_enter Try.func17, Try.ntmps17
    go_wp2
    go_ret
    exact ⟨ret_b rfl HS.out, rfl⟩
  · have HS := hid (same_eq a b h)
    go_enter Try.func17, Try.ntmps17
    go_wp2
    all_goals
      go_ret
      exact ⟨ret_b rfl (HS.out _ (by omega)), rfl⟩

set_option maxHeartbeats 2000000 in
theorem rsame_any (a b : Int) (w : World) : Calls Try.prog 18 #[.int .i64 a, .int .i64 b] w fun e w' => e = .returned (.bool (same a b)) ∧ w' = w := by
  have ha := low_any a
  have hb := low_any b
  have HA := hid ha
  have HB := hid hb
  clear ha hb
  have r1 : 0 ≤ a % 65536 ∧ a % 65536 ≤ 65535 := by omega
  have r2 : 0 ≤ b % 65536 ∧ b % 65536 ≤ 65535 := by omega
  have e : same a b = (decide (a % 65536 = b % 65536) || (decide (a % 65536 = 0) && decide (b % 65536 = 65535)) || (decide (a % 65536 = 65535) && decide (b % 65536 = 0))) := rfl
  rw [e]
  generalize a % 65536 = x at HA r1 ⊢
  generalize b % 65536 = y at HB r2 ⊢
  by_cases h1 : x = y <;> by_cases h2 : x = 0 <;> by_cases h3 : y = 65535 <;> by_cases h4 : x = 65535 <;> by_cases h5 : y = 0
  all_goals first
    | (exfalso; omega)
    | (go_enter Try.func18, Try.ntmps18
       go_wp2_with fail
       refine (HA.out _).mono ?_
       rintro e w1 ⟨rfl, rfl⟩
       go_wp2_with fail
       refine (HB.out _).mono ?_
       rintro e w1 ⟨rfl, rfl⟩
       go_wp2
       go_ret
       exact ⟨ret_b rfl (by simp [*]), rfl⟩)

theorem chg_range (c x y : Int) : 0 ≤ 65535 - c % 65536 + 65535 - x % 65536 + y % 65536 ∧ 65535 - c % 65536 + 65535 - x % 65536 + y % 65536 ≤ 196605 := by omega

set_option maxHeartbeats 2000000 in
theorem schange_any (c x y : Int) (w : World) : Calls Try.prog 15 #[.int .i64 c, .int .i64 x, .int .i64 y] w fun e w' => e = .returned (.int .i64 (change c x y)) ∧ w' = w := by
  have hr := chg_range c x y
  have HF := hid (sfold_any (65535 - c % 65536 + 65535 - x % 65536 + y % 65536) (by omega) (by omega))
  have hf := fold_range (65535 - c % 65536 + 65535 - x % 65536 + y % 65536)
  have HC : Hid (change c x y = 65535 - fold (65535 - c % 65536 + 65535 - x % 65536 + y % 65536)) := hid rfl
  generalize fold (65535 - c % 65536 + 65535 - x % 65536 + y % 65536) = f at HF hf HC
  go_enter Try.func15, Try.ntmps15
  go_wp2_with fail
  refine (HF.out _).mono ?_
  rintro e w1 ⟨rfl, rfl⟩
  go_wp2
  go_ret
  exact ⟨ret_i rfl HC.out.symm, rfl⟩

set_option maxHeartbeats 2000000 in
theorem rchange_any (c x y : Int) (w : World) : Calls Try.prog 16 #[.int .i64 c, .int .i64 x, .int .i64 y] w fun e w' => e = .returned (.int .i64 (change c x y)) ∧ w' = w := by
  have hr := chg_range c x y
  have H1 := hid (low_any c)
  have H2 := hid (low_any x)
  have H3 := hid (low_any y)
  have HF := hid (rfold_any (65535 - c % 65536 + 65535 - x % 65536 + y % 65536) (by omega) (by omega))
  have hf := fold_range (65535 - c % 65536 + 65535 - x % 65536 + y % 65536)
  have HC : Hid (change c x y = 65535 - fold (65535 - c % 65536 + 65535 - x % 65536 + y % 65536)) := hid rfl
  generalize fold (65535 - c % 65536 + 65535 - x % 65536 + y % 65536) = f at HF hf HC
  go_enter Try.func16, Try.ntmps16
  go_wp2_with fail
  refine (H1.out _).mono ?_
  rintro e w1 ⟨rfl, rfl⟩
  go_wp2_with fail
  refine (H2.out _).mono ?_
  rintro e w1 ⟨rfl, rfl⟩
  go_wp2_with fail
  refine (H3.out _).mono ?_
  rintro e w1 ⟨rfl, rfl⟩
  go_wp2_with fail
  refine (HF.out _).mono ?_
  rintro e w1 ⟨rfl, rfl⟩
  go_wp2
  go_ret
  exact ⟨ret_i rfl HC.out.symm, rfl⟩
end Go.Proofs.Ytnlhdeffoalhiaa
