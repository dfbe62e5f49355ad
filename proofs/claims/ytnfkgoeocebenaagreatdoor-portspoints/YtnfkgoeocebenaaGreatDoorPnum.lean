/-
  The document's Numeral: a number's figures.
-/
import Derived.Test.YtnfkgoeocebenaaGreatDoorPback
namespace Go.Proofs.YtnfkgoeocebenaaGreatDoor
open Go.RowKit

def figsT : ByteArray := ⟨#[48, 49, 50, 51, 52, 53, 54, 55, 56, 57]⟩
theorem figsT_at : ∀ d : Fin 10, figsT.extract d.val (d.val + 1) = ⟨#[UInt8.ofNat (48 + d.val)]⟩ := by decide +kernel
theorem run_figT (d : Nat) (h : d < 10) (i j : Int) (hi : i = (d : Int)) (hj : j = (d : Int) + 1) (w : World) :
    (Instr.sliceAt 9 (.string ⟨#[48, 49, 50, 51, 52, 53, 54, 55, 56, 57]⟩) (some (.int .i64 i)) (some (.int .i64 j)) none).run Tryz.prog w = .ok (.string ⟨#[UInt8.ofNat (48 + d)]⟩) w := by
  subst hi hj
  have h0 : (0 : Int) ≤ (d : Int) := by omega
  have h2 : (d : Int) + 1 ≤ 10 := by omega
  have h3 : (d : Int) ≤ (d : Int) + 1 := by omega
  have := figsT_at ⟨d, h⟩
  unfold figsT at this
  simp only at this
  simp [Instr.sliceAt, run_underlying Tryz.underlying9, Instr.sliceBounds, go_sem, h0, h2, h3, this]

set_option maxRecDepth 100000 in
set_option maxHeartbeats 4000000 in
theorem pnumeral : ∀ (n : Nat), n ≤ 65535 → ∀ w, Calls Tryz.prog 83 #[.int .i64 (n : Int)] w (TextEnd (Lib.decDigits n) w)
  | n, hn, w => by
    by_cases h : n < 10
    · have q : decide ((n : Int) < 10) = true := by simp; omega
      have hd : Lib.decDigits n = [UInt8.ofNat (48 + n)] := dec_small n h
      have hs := run_figT n (by omega) (n : Int) ((n : Int) + 1) rfl rfl
      obtain ⟨T, hT⟩ : ∃ T : ByteArray, T = ⟨#[UInt8.ofNat (48 + n)]⟩ := ⟨_, rfl⟩
      rw [← hT] at hs
      have HD : Hid (T = ⟨(Lib.decDigits n).toArray⟩) := Lib.hid (by rw [hT, hd])
      clear hd hn hT
      go_enter Tryz.func83, Tryz.ntmps83
      go_wp2
      go_ret
      exact ⟨by rw [← HD.out]; rfl, Below.refl _ _⟩
    · have ih := pnumeral (n / 10) (by omega)
      have q : decide ((n : Int) < 10) = false := by simp; omega
      have e1 : IntKind.i64.wrap ((n : Int) / 10) = ((n / 10 : Nat) : Int) := by simp only [IntKind.wrap, IntKind.signed, IntKind.bits]; simp; omega
      have e2 : (n : Int).tmod 10 = ((n % 10 : Nat) : Int) := by rw [Int.tmod_eq_emod_of_nonneg (by omega)]; omega
      have e4 : (n : Int) % 10 = ((n % 10 : Nat) : Int) := by omega
      have e3 : IntKind.i64.wrap (((n % 10 : Nat) : Int) + 1) = ((n % 10 : Nat) : Int) + 1 := by simp only [IntKind.wrap, IntKind.signed, IntKind.bits]; simp; omega
      have hm : n % 10 < 10 := Nat.mod_lt _ (by omega)
      have hs := run_figT (n % 10) (by omega) ((n % 10 : Nat) : Int) (((n % 10 : Nat) : Int) + 1) rfl rfl
      have hd : Lib.decDigits n = Lib.decDigits (n / 10) ++ [UInt8.ofNat (48 + n % 10)] := dec_big n h
      have hl := dec_len (n / 10) (by omega) (by omega)
      have ha : ∀ w', (Op.stringOp .add ⟨(Lib.decDigits (n / 10)).toArray⟩ ⟨#[UInt8.ofNat (48 + n % 10)]⟩).run Tryz.prog w' = .ok (.string ⟨(Lib.decDigits (n / 10) ++ [UInt8.ofNat (48 + n % 10)]).toArray⟩) w' := fun w' => run_string_add_lists w' _ [UInt8.ofNat (48 + n % 10)] (by omega) (by simp)
      obtain ⟨sA, hsA⟩ : ∃ s : ByteArray, s = ⟨(Lib.decDigits (n / 10)).toArray⟩ := ⟨_, rfl⟩
      obtain ⟨sD, hsD⟩ : ∃ s : ByteArray, s = ⟨#[UInt8.ofNat (48 + n % 10)]⟩ := ⟨_, rfl⟩
      obtain ⟨sR, hsR⟩ : ∃ s : ByteArray, s = ⟨(Lib.decDigits (n / 10) ++ [UInt8.ofNat (48 + n % 10)]).toArray⟩ := ⟨_, rfl⟩
      rw [← hsA, ← hsD, ← hsR] at ha
      rw [← hsD] at hs
      have HI : Hid (∀ w', Calls Tryz.prog 83 #[.int .i64 ((n / 10 : Nat) : Int)] w' fun e w2 => e = .returned (.string sA) ∧ Below w'.heap.size w' w2) := Lib.hid fun w' => (ih w').mono fun e w2 hh => ⟨by rw [hsA]; exact hh.1, hh.2⟩
      have HR : Hid (sR = ⟨(Lib.decDigits n).toArray⟩) := Lib.hid (by rw [hsR, hd])
      obtain ⟨u, hu⟩ : ∃ u : Nat, u = n / 10 := ⟨_, rfl⟩
      obtain ⟨r, hr⟩ : ∃ r : Nat, r = n % 10 := ⟨_, rfl⟩
      rw [← hu] at e1 HI
      rw [← hr] at e2 e3 e4 hs
      have r0 : (0 : Int) ≤ (r : Int) := by omega
      have r1 : (r : Int) + 1 ≤ 10 := by omega
      clear hsA hsR hsD hd hl ih hn hm hu hr
      go_enter Tryz.func83, Tryz.ntmps83
      go_wp2_with fail
      go_region_held3 (fun _ => True) (exact trivial) (first | (go_at_call 83; (refine (HI.out _).mono ?_); rintro e wA ⟨rfl, hbA⟩))
      all_goals go_wp2
      all_goals go_ret
      all_goals exact ⟨by rw [← HR.out]; rfl, bel2 (below_drew w) hbA⟩
termination_by n => n
decreasing_by omega
end Go.Proofs.YtnfkgoeocebenaaGreatDoor
