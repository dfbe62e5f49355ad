/-
  Sums: the calls that only reckon: Fold, Change, Same, and the document's.
-/
import Derived.Test.YtnlhdeffoalhiaaDoorSpure
import Derived.Lib.Hide
import Derived.TacticsInMore
namespace Go.Proofs.YtnlhdeffoalhiaaDoor
open Go.RowKit Go.Lib
attribute [local go_sem] and16

theorem ret_i {v : Value} {x y : Int} (hv : v = .int .i64 x) (h : x = y) : Ending.returned v = .returned (.int .i64 y) := by rw [hv, h]
theorem ret_b {v : Value} {x y : Bool} (hv : v = .bool x) (h : x = y) : Ending.returned v = .returned (.bool y) := by rw [hv, h]

set_option maxHeartbeats 2000000 in
theorem sfold_any (n : Int) (h1 : -9223372036854775808 ≤ n) (h2 : n ≤ 9223372036854775807) (w : World) : Calls Tryd.prog 30 #[.int .i64 n] w fun e w' => e = .returned (.int .i64 (fold n)) ∧ w' = w := by
  have go : ∀ m : Int, (n < 0 ∧ m = 0) ∨ (n = 0 ∧ m = 0) ∨ (0 < n ∧ m = n) → fold m = fold n := by
    rintro m (⟨h, rfl⟩ | ⟨rfl, rfl⟩ | ⟨h, rfl⟩)
    · unfold fold; rw [if_pos (by omega), if_pos (by omega)]
    · rfl
    · rfl
  have GO := hid go
  clear go
  rcases Int.lt_trichotomy n 0 with h0 | rfl | h0
  all_goals
    go_enter Tryd.func30, Tryd.ntmps30
    go_wp2
    go_loop [0] (fun i => ∃ s : Int, 0 ≤ s ∧ s ≤ 9223372036854775807 ∧ i = .int .i64 s ∧ Hid (fold s = fold _)) (fun i => (intOf i).toNat)
    case atStart => exact ⟨_, by omega, by omega, rfl, hid (GO.out _ (by first | exact .inr (.inl ⟨trivial, rfl⟩) | exact .inr (.inl ⟨rfl, rfl⟩) | exact .inl ⟨by assumption, rfl⟩ | exact .inr (.inr ⟨by assumption, rfl⟩)))⟩
    case round =>
      obtain ⟨s, hs1, hs2, rfl, HS⟩ := hrel
      by_cases hc : 65535 < s
      · go_wp2
        go_round
        case rel => exact ⟨_, by omega, by omega, rfl, hid ((fold_step hc).trans HS.out)⟩
        case measure => simp [intOf]; omega
      · go_wp2
        go_ret
        exact ⟨ret_i rfl ((fold_small hs1 (by omega)).symm.trans HS.out), rfl⟩


theorem low_eq (n : Int) : wrap64 ((IntKind.u64.wrap n).tmod 65536) = n % 65536 := by
  rw [show IntKind.u64.wrap n = n % 18446744073709551616 by simp [IntKind.wrap, IntKind.bits, IntKind.signed], Int.tmod_eq_emod_of_nonneg (by omega)]
  unfold wrap64
  omega


theorem same_eq (a b : Int) (hne : ¬ a % 65536 = b % 65536) (x : Int) (hx : x = (a % 65536 - b % 65536) ∧ b % 65536 < a % 65536 ∨ x = (b % 65536 - a % 65536) ∧ a % 65536 < b % 65536) : (a % 65536 == b % 65536 || x == 65535) = same a b := by
  unfold same
  rw [beq_eq_false_iff_ne.2 hne, decide_eq_false hne, Bool.false_or, Bool.false_or]
  rw [Bool.eq_iff_iff]
  simp only [beq_iff_eq, Bool.or_eq_true, Bool.and_eq_true, decide_eq_true_eq]
  omega



theorem chg_range (c x y : Int) : 0 ≤ 65535 - c % 65536 + 65535 - x % 65536 + y % 65536 ∧ 65535 - c % 65536 + 65535 - x % 65536 + y % 65536 ≤ 196605 := by omega


end Go.Proofs.YtnlhdeffoalhiaaDoor
