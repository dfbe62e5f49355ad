/-
  prime.Power, and the law PrimePowers but for the example.
-/
import Derived.Test.YtpijdbajonddlaaDoorFref
namespace Go.Proofs.YtpijdbajonddlaaDoor
open Go.RowKit Go.Lib

set_option maxHeartbeats 2000000 in
theorem times_any (x y p : Int) (b : Nat) (h1 : 1 ≤ p) (h2 : p ≤ 2147483648) (hx : 0 ≤ x ∧ x < p) (hy : 0 ≤ y ∧ y < p) (w : World) (hc : w.cell? ⟨b, 0, none⟩ = some (.int .i64 p)) :
    Calls Tryd.prog 44 #[.int .i64 x, .int .i64 y, .pointer (some ⟨b, 0, none⟩)] w fun e w' => e = .returned (.int .i64 (x * y % p)) ∧ w = w' := by
  have hb := mul_bound hx hy h2
  have hne : p ≠ 0 := by omega
  go_enter Tryd.func44, Tryd.ntmps44
  go_wp2
  go_ret
  exact ⟨rfl, rfl⟩

/-- What prime.Power tells. -/
def powerOf (a k p : Int) : Int := if p < 1 ∨ 2147483648 < p ∨ k < 0 then 0 else pwr a k.toNat p

set_option maxHeartbeats 4000000 in
theorem power_any (a k p : Int) (hk : k ≤ 9223372036854775807) (w : World) : Calls Tryd.prog 41 #[.int .i64 a, .int .i64 k, .int .i64 p] w fun e w' => e = .returned (.int .i64 (powerOf a k p)) ∧ Below w.heap.size w w' := by
  have hB : Below w.heap.size w (w.alloc (.cells #[.int .i64 p] 3)) := (Below.refl _ w).alloc (Nat.le_refl _) _
  have hc : (w.alloc (.cells #[.int .i64 p] 3)).cell? ⟨w.heap.size, 0, none⟩ = some (.int .i64 p) := (Boxed.new w 3 (.int .i64 p)).cell
  by_cases h1 : p < 1
  · have HE : Hid (0 = powerOf a k p) := hid (by rw [powerOf, if_pos (.inl h1)])
    go_enter Tryd.func41, Tryd.ntmps41
    go_wp2
    go_ret
    exact ⟨ret_i rfl HE.out, hB⟩
  by_cases h2 : 2147483648 < p
  · have HE : Hid (0 = powerOf a k p) := hid (by rw [powerOf, if_pos (.inr (.inl h2))])
    go_enter Tryd.func41, Tryd.ntmps41
    go_wp2
    go_ret
    exact ⟨ret_i rfl HE.out, hB⟩
  by_cases h3 : k < 0
  · have HE : Hid (0 = powerOf a k p) := hid (by rw [powerOf, if_pos (.inr (.inr h3))])
    go_enter Tryd.func41, Tryd.ntmps41
    go_wp2
    go_ret
    exact ⟨ret_i rfl HE.out, hB⟩
  obtain ⟨K, rfl⟩ : ∃ K : Nat, k = K := ⟨k.toNat, by omega⟩
  have HE : Hid (pwr a K p = powerOf a K p) := hid (by rw [powerOf, if_neg (by omega)]; rfl)
  have HS := hid (PwInv.start a K (p := p) (by omega))
  have hne : p ≠ 0 := by omega
  have HR := hid (fun w => rest_any a p (by omega) (by omega) w)
  have HT := hid (fun x y hx hy W hc => times_any x y p w.heap.size (by omega) (by omega) hx hy W hc)
  have r0 := Int.emod_nonneg a hne
  have r1 := Int.emod_lt_of_pos a (show 0 < p by omega)
  have o0 := Int.emod_nonneg 1 hne
  have o1 := Int.emod_lt_of_pos 1 (show 0 < p by omega)
  generalize powerOf a K p = z at *
  generalize a % p = r at *
  generalize ho : 1 % p = o at *
  have HH := hid hB
  go_enter Tryd.func41, Tryd.ntmps41
  go_wp2_with fail
  refine (HR.out _).mono ?_
  rintro e w1 ⟨rfl, rfl⟩
  go_wp2
  obtain ⟨W, hW⟩ : ∃ W, w.alloc (.cells #[.int .i64 p] 3) = W := ⟨_, rfl⟩
  rw [hW] at hc HH ⊢
  clear hW hB
  go_loop [1, 8, 9] (fun t x y => ∃ k : Nat, ∃ X Y : Int, Hid (PwInv a K p X Y k) ∧ (k : Int) ≤ 9223372036854775807 ∧ 0 ≤ X ∧ X < p ∧ 0 ≤ Y ∧ Y < p ∧ t = .int .i64 k ∧ x = .int .i64 X ∧ y = .int .i64 Y) (fun t _ _ => (intOf t).toNat)
  case atStart => exact ⟨K, _, _, HS, hk, by omega, by omega, by omega, by omega, rfl, rfl, rfl⟩
  case round =>
    obtain ⟨k, X, Y, HI, hk1, hx0, hx1, hy0, hy1, rfl, rfl, rfl⟩ := hrel
    by_cases h0 : k = 0
    · subst h0
      have HF : Hid (X = z) := hid ((PwInv.done (by omega) HI.out).trans HE.out)
      go_wp2
      go_ret
      exact ⟨ret_i rfl HF.out, HH.out⟩
    · have T1 := hid (HT.out X Y ⟨hx0, hx1⟩ ⟨hy0, hy1⟩ W hc)
      have T2 := hid (HT.out Y Y ⟨hy0, hy1⟩ ⟨hy0, hy1⟩ W hc)
      have a0 := Int.emod_nonneg (X * Y) hne
      have a1 := Int.emod_lt_of_pos (X * Y) (show 0 < p by omega)
      have b0 := Int.emod_nonneg (Y * Y) hne
      have b1 := Int.emod_lt_of_pos (Y * Y) (show 0 < p by omega)
      obtain ⟨q, hq⟩ : ∃ q : Nat, k / 2 = q := ⟨_, rfl⟩
      have HQ : Hid ((k % 2 = 0 → PwInv a K p X (Y * Y % p) q) ∧ (k % 2 = 1 → PwInv a K p (X * Y % p) (Y * Y % p) q)) := hid (by rw [← hq]; exact ⟨fun h => HI.out.even (by omega) h, fun h => HI.out.odd (by omega) h⟩)
      have hkq : (k : Int) / 2 = (q : Int) := by omega
      have hkt : (k : Int).tdiv 2 = (q : Int) := by rw [Int.tdiv_eq_ediv_of_nonneg (by omega)]; exact hkq
      generalize X * Y % p = xy at *
      generalize Y * Y % p = yy at *
      have hqk : q < k := by omega
      rcases Nat.mod_two_eq_zero_or_one k with he | he
      · have HQ2 := hid (HQ.out.1 he)
        have he2 : (k : Int) % 2 = 0 := by omega
        clear hq he HQ
        go_wp2_with fail
        refine T2.out.mono ?_
        rintro e w1 ⟨rfl, rfl⟩
        go_wp2
        go_round
        case rel => exact ⟨q, X, yy, HQ2, by omega, by omega, by omega, by omega, by omega, rfl, rfl, rfl⟩
        case measure => simp [intOf]; omega
      · have HQ2 := hid (HQ.out.2 he)
        have he2 : (k : Int) % 2 = 1 := by omega
        clear hq he HQ
        go_wp2_with fail
        refine T1.out.mono ?_
        rintro e w1 ⟨rfl, rfl⟩
        go_wp2_with fail
        refine T2.out.mono ?_
        rintro e w2 ⟨rfl, rfl⟩
        go_wp2
        go_round
        case rel => exact ⟨q, xy, yy, HQ2, by omega, by omega, by omega, by omega, by omega, rfl, rfl, rfl⟩
        case measure => simp [intOf]; omega

end Go.Proofs.YtpijdbajonddlaaDoor
