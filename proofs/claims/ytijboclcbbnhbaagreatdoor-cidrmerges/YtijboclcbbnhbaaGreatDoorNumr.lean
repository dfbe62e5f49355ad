/-
  The walk of the document's numeral: a number's figures.
-/
import Derived.Test.YtijboclcbbnhbaaGreatDoorFormat
import Derived.Test.YtijboclcbbnhbaaGreatDoorHeld
import Derived.Test.YtijboclcbbnhbaaGreatDoorFewb
namespace Go.Proofs.YtijboclcbbnhbaaGreatDoor
open Go.RowKit

def digs (b : Nat) : Nat → Nat → List UInt8
  | 0, n => [dg n]
  | k + 1, n => if n < b then [dg n] else digs b k (n / b) ++ [dg (n % b)]
theorem digs_le (b : Nat) : ∀ k n, (digs b k n).length ≤ k + 1
  | 0, _ => by simp [digs]
  | k + 1, n => by
    unfold digs
    split
    · simp
    · have := digs_le b k (n / b)
      simp
      omega

def figs16 : ByteArray := ⟨#[48, 49, 50, 51, 52, 53, 54, 55, 56, 57, 97, 98, 99, 100, 101, 102]⟩
theorem figs16_at : ∀ d : Fin 16, figs16.extract d.val (d.val + 1) = ⟨#[dg d.val]⟩ := by decide +kernel

theorem run_fig16 (d : Nat) (h : d < 16) (i j : Int) (hi : i = (d : Int)) (hj : j = (d : Int) + 1) (w : World) :
    (Instr.sliceAt 9 (.string ⟨#[48, 49, 50, 51, 52, 53, 54, 55, 56, 57, 97, 98, 99, 100, 101, 102]⟩) (some (.int .i64 i)) (some (.int .i64 j)) none).run Tryz.prog w = .ok (.string ⟨#[dg d]⟩) w := by
  subst hi hj
  have h0 : (0 : Int) ≤ (d : Int) := by omega
  have h2 : (d : Int) + 1 ≤ 16 := by omega
  have h3 : (d : Int) ≤ (d : Int) + 1 := by omega
  have := figs16_at ⟨d, h⟩
  unfold figs16 at this
  simp only at this
  simp [Instr.sliceAt, run_underlying Tryz.underlying9, Instr.sliceBounds, go_sem, h0, h2, h3, this]

/-- A sum of texts, at a step of a region that draws. -/
theorem exec_sadd {P : Program} {a : Act} {w : World} {o : Oper} (t t' : TypeId) (x y : Operand) (ho : o.op = .binOp .add t x y t') (s1 s2 s3 : ByteArray) (hx : a.eval x = .string s1) (hy : a.eval y = .string s2)
    (hr : (Op.stringOp .add s1 s2).run P w = .ok (.string s3) w) : (execOp a.eval o).run P w = .ok (.value (.string s3)) w := by
  unfold execOp
  simp only [ho, hx, hy, eqGuard, binOp, Sem.run_bind, Sem.run_pure, Result.andThen_ok, hr, Bool.not_false, if_true]

end Go.Proofs.YtijboclcbbnhbaaGreatDoor
