/-
  The walk of the document's numeral: a number's figures.
-/
import Derived.Test.YtnfkgoeocebenaaGreatDoorFormat
import Derived.Test.YtnfkgoeocebenaaGreatDoorHeld
import Derived.Test.YtnfkgoeocebenaaGreatDoorFewb
namespace Go.Proofs.YtnfkgoeocebenaaGreatDoor
open Go.RowKit

def digs (b : Nat) : Nat → Nat → List UInt8
  | 0, n => [dg n]
  | k + 1, n => if n < b then [dg n] else digs b k (n / b) ++ [dg (n % b)]
theorem digs_le (b : Nat) : ∀ k n, (digs b k n).length ≤ k + 1
  | 0, _ => by simp [digs]
  | k + 1, n => by
    unfold digs
    split
    · simp
    · have := digs_le b k (n / b)
      simp
      omega

def figs16 : ByteArray := ⟨#[48, 49, 50, 51, 52, 53, 54, 55, 56, 57, 97, 98, 99, 100, 101, 102]⟩
theorem figs16_at : ∀ d : Fin 16, figs16.extract d.val (d.val + 1) = ⟨#[dg d.val]⟩ := by decide +kernel

theorem run_fig16 (d : Nat) (h : d < 16) (i j : Int) (hi : i = (d : Int)) (hj : j = (d : Int) + 1) (w : World) :
    (Instr.sliceAt 9 (.string ⟨#[48, 49, 50, 51, 52, 53, 54, 55, 56, 57, 97, 98, 99, 100, 101, 102]⟩) (some (.int .i64 i)) (some (.int .i64 j)) none).run Tryz.prog w = .ok (.string ⟨#[dg d]⟩) w := by
  subst hi hj
  have h0 : (0 : Int) ≤ (d : Int) := by omega
  have h2 : (d : Int) + 1 ≤ 16 := by omega
  have h3 : (d : Int) ≤ (d : Int) + 1 := by omega
  have := figs16_at ⟨d, h⟩
  unfold figs16 at this
  simp only at this
  simp [Instr.sliceAt, run_underlying Tryz.underlying9, Instr.sliceBounds, go_sem, h0, h2, h3, this]

/-- A sum of texts, at a step of a region that draws. -/
theorem exec_sadd {P : Program} {a : Act} {w : World} {o : Oper} (t t' : TypeId) (x y : Operand) (ho : o.op = .binOp .add t x y t') (s1 s2 s3 : ByteArray) (hx : a.eval x = .string s1) (hy : a.eval y = .string s2)
    (hr : (Op.stringOp .add s1 s2).run P w = .ok (.string s3) w) : (execOp a.eval o).run P w = .ok (.value (.string s3)) w := by
  unfold execOp
  simp only [ho, hx, hy, eqGuard, binOp, Sem.run_bind, Sem.run_pure, Result.andThen_ok, hr, Bool.not_false, if_true]

set_option maxRecDepth 100000 in
set_option maxHeartbeats 4000000 in
theorem numeral10 : ∀ (k n : Nat), k ≤ 3 → n < 10 ^ (k + 1) → ∀ w, Calls Tryz.prog 114 #[.int .i64 (n : Int), .int .i64 10] w (TextEnd (digs 10 k n) w)
  | k, n, hk, hn, w => by
    by_cases h : n < 10
    · have q : decide ((n : Int) < 10) = true := by simp; omega
      have hd : digs 10 k n = [dg n] := by cases k <;> simp [digs, h]
      have hs := run_fig16 n (by omega) (n : Int) ((n : Int) + 1) rfl rfl
      have HD := Lib.hid hd
      clear hd hn hk
      go_enter Tryz.func114, Tryz.ntmps114
      go_wp2
      go_ret
      exact ⟨by rw [HD.out]; rfl, Below.refl _ _⟩
    · cases k with
      | zero => exact absurd hn (by simpa using h)
      | succ k =>
        have hq : n / 10 < 10 ^ (k + 1) := by rw [Nat.pow_succ] at hn; exact Nat.div_lt_of_lt_mul (by rw [Nat.mul_comm]; exact hn)
        have ih := numeral10 k (n / 10) (by omega) hq
        have q : decide ((n : Int) < 10) = false := by simp; omega
        have hb : n < 10 ^ 4 := Nat.lt_of_lt_of_le hn (Nat.pow_le_pow_right (by omega) (by omega))
        have e1 : IntKind.i64.wrap ((n : Int) / 10) = ((n / 10 : Nat) : Int) := by simp only [IntKind.wrap, IntKind.signed, IntKind.bits]; simp; omega
        have e2 : (n : Int).tmod 10 = ((n % 10 : Nat) : Int) := by rw [Int.tmod_eq_emod_of_nonneg (by omega)]; omega
        have e4 : (n : Int) % 10 = ((n % 10 : Nat) : Int) := by omega
        have e3 : IntKind.i64.wrap (((n % 10 : Nat) : Int) + 1) = ((n % 10 : Nat) : Int) + 1 := by simp only [IntKind.wrap, IntKind.signed, IntKind.bits]; simp; omega
        have hm : n % 10 < 10 := Nat.mod_lt _ (by omega)
        have hs := run_fig16 (n % 10) (by omega) ((n % 10 : Nat) : Int) (((n % 10 : Nat) : Int) + 1) rfl rfl
        have hd : digs 10 (k + 1) n = digs 10 k (n / 10) ++ [dg (n % 10)] := by rw [digs, if_neg h]
        have hl := digs_le 10 k (n / 10)
        have ha : ∀ w', (Op.stringOp .add ⟨(digs 10 k (n / 10)).toArray⟩ ⟨#[dg (n % 10)]⟩).run Tryz.prog w' = .ok (.string ⟨(digs 10 k (n / 10) ++ [dg (n % 10)]).toArray⟩) w' := fun w' => run_string_add_lists w' _ [dg (n % 10)] (by omega) (by simp)
        obtain ⟨sA, hsA⟩ : ∃ s : ByteArray, s = ⟨(digs 10 k (n / 10)).toArray⟩ := ⟨_, rfl⟩
        obtain ⟨sR, hsR⟩ : ∃ s : ByteArray, s = ⟨(digs 10 k (n / 10) ++ [dg (n % 10)]).toArray⟩ := ⟨_, rfl⟩
        rw [← hsA, ← hsR] at ha
        have HI : Hid (∀ w', Calls Tryz.prog 114 #[.int .i64 ((n / 10 : Nat) : Int), .int .i64 10] w' fun e w2 => e = .returned (.string sA) ∧ Below w'.heap.size w' w2) := Lib.hid fun w' => (ih w').mono fun e w2 hh => ⟨by rw [hsA]; exact hh.1, hh.2⟩
        have HR : Hid (sR = ⟨(digs 10 (k + 1) n).toArray⟩) := Lib.hid (by rw [hsR, hd])
        obtain ⟨u, hu⟩ : ∃ u : Nat, u = n / 10 := ⟨_, rfl⟩
        obtain ⟨r, hr⟩ : ∃ r : Nat, r = n % 10 := ⟨_, rfl⟩
        rw [← hu] at e1 HI
        rw [← hr] at e2 e3 e4 hs ha
        have r0 : (0 : Int) ≤ (r : Int) := by omega
        have r1 : (r : Int) + 1 ≤ 16 := by omega
        clear hsA hsR hd hl ih hq hn hk hm hb hu hr
        go_enter Tryz.func114, Tryz.ntmps114
        go_wp2_with fail
        go_region_held3 (fun _ => True) (exact trivial) (first | (go_at_call 114; (refine (HI.out _).mono ?_); rintro e wA ⟨rfl, hbA⟩))
        all_goals go_wp2
        all_goals go_ret
        all_goals exact ⟨by rw [← HR.out]; rfl, bel2 (below_drew w) hbA⟩
termination_by k => k

set_option maxRecDepth 100000 in
set_option maxHeartbeats 4000000 in
theorem numeral16 : ∀ (k n : Nat), k ≤ 3 → n < 16 ^ (k + 1) → ∀ w, Calls Tryz.prog 114 #[.int .i64 (n : Int), .int .i64 16] w (TextEnd (digs 16 k n) w)
  | k, n, hk, hn, w => by
    by_cases h : n < 16
    · have q : decide ((n : Int) < 16) = true := by simp; omega
      have hd : digs 16 k n = [dg n] := by cases k <;> simp [digs, h]
      have hs := run_fig16 n (by omega) (n : Int) ((n : Int) + 1) rfl rfl
      have HD := Lib.hid hd
      clear hd hn hk
      go_enter Tryz.func114, Tryz.ntmps114
      go_wp2
      go_ret
      exact ⟨by rw [HD.out]; rfl, Below.refl _ _⟩
    · cases k with
      | zero => exact absurd hn (by simpa using h)
      | succ k =>
        have hq : n / 16 < 16 ^ (k + 1) := by rw [Nat.pow_succ] at hn; exact Nat.div_lt_of_lt_mul (by rw [Nat.mul_comm]; exact hn)
        have ih := numeral16 k (n / 16) (by omega) hq
        have q : decide ((n : Int) < 16) = false := by simp; omega
        have hb : n < 16 ^ 4 := Nat.lt_of_lt_of_le hn (Nat.pow_le_pow_right (by omega) (by omega))
        have e1 : IntKind.i64.wrap ((n : Int) / 16) = ((n / 16 : Nat) : Int) := by simp only [IntKind.wrap, IntKind.signed, IntKind.bits]; simp; omega
        have e2 : (n : Int).tmod 16 = ((n % 16 : Nat) : Int) := by rw [Int.tmod_eq_emod_of_nonneg (by omega)]; omega
        have e4 : (n : Int) % 16 = ((n % 16 : Nat) : Int) := by omega
        have e3 : IntKind.i64.wrap (((n % 16 : Nat) : Int) + 1) = ((n % 16 : Nat) : Int) + 1 := by simp only [IntKind.wrap, IntKind.signed, IntKind.bits]; simp; omega
        have hm : n % 16 < 16 := Nat.mod_lt _ (by omega)
        have hs := run_fig16 (n % 16) (by omega) ((n % 16 : Nat) : Int) (((n % 16 : Nat) : Int) + 1) rfl rfl
        have hd : digs 16 (k + 1) n = digs 16 k (n / 16) ++ [dg (n % 16)] := by rw [digs, if_neg h]
        have hl := digs_le 16 k (n / 16)
        have ha : ∀ w', (Op.stringOp .add ⟨(digs 16 k (n / 16)).toArray⟩ ⟨#[dg (n % 16)]⟩).run Tryz.prog w' = .ok (.string ⟨(digs 16 k (n / 16) ++ [dg (n % 16)]).toArray⟩) w' := fun w' => run_string_add_lists w' _ [dg (n % 16)] (by omega) (by simp)
        obtain ⟨sA, hsA⟩ : ∃ s : ByteArray, s = ⟨(digs 16 k (n / 16)).toArray⟩ := ⟨_, rfl⟩
        obtain ⟨sR, hsR⟩ : ∃ s : ByteArray, s = ⟨(digs 16 k (n / 16) ++ [dg (n % 16)]).toArray⟩ := ⟨_, rfl⟩
        rw [← hsA, ← hsR] at ha
        have HI : Hid (∀ w', Calls Tryz.prog 114 #[.int .i64 ((n / 16 : Nat) : Int), .int .i64 16] w' fun e w2 => e = .returned (.string sA) ∧ Below w'.heap.size w' w2) := Lib.hid fun w' => (ih w').mono fun e w2 hh => ⟨by rw [hsA]; exact hh.1, hh.2⟩
        have HR : Hid (sR = ⟨(digs 16 (k + 1) n).toArray⟩) := Lib.hid (by rw [hsR, hd])
        obtain ⟨u, hu⟩ : ∃ u : Nat, u = n / 16 := ⟨_, rfl⟩
        obtain ⟨r, hr⟩ : ∃ r : Nat, r = n % 16 := ⟨_, rfl⟩
        rw [← hu] at e1 HI
        rw [← hr] at e2 e3 e4 hs ha
        have r0 : (0 : Int) ≤ (r : Int) := by omega
        have r1 : (r : Int) + 1 ≤ 16 := by omega
        clear hsA hsR hd hl ih hq hn hk hm hb hu hr
        go_enter Tryz.func114, Tryz.ntmps114
        go_wp2_with fail
        go_region_held3 (fun _ => True) (exact trivial) (first | (go_at_call 114; (refine (HI.out _).mono ?_); rintro e wA ⟨rfl, hbA⟩))
        all_goals go_wp2
        all_goals go_ret
        all_goals exact ⟨by rw [← HR.out]; rfl, bel2 (below_drew w) hbA⟩
termination_by k => k
end Go.Proofs.YtnfkgoeocebenaaGreatDoor
