/-
  Steps of regions that draw: loads out of a cidr's block, comparisons of numbers, calls.
-/
import Derived.Test.YtambnnahgbegfaaGreatDoorCbase
import Derived.Test.YtambnnahgbegfaaGreatDoorHeld
namespace Go.Proofs.YtambnnahgbegfaaGreatDoor
open Go.RowKit

section
variable {P : Program} {ops : Array Oper} {a : Act} {w : World} {o : Oper}
/-- A call of a Go function by its contract, at the operation itself. -/
theorem op_call2 {K : Act → World → Prop} {Q : Exit → Act → World → Prop} (f : FuncId) (args : Array Value) (hrun : (execOp a.eval o).run P w = .ok (.enter f args) w) {R : World → Prop} (v : Value)
    (hc : Calls P f args w fun e w' => e = .returned v ∧ R w') (h : ∀ w', R w' → K (a.put o.dst v) w') : Oper.wp P o a w K Q := by
  unfold Oper.wp
  rw [hrun, Oper.upon_enter]
  refine hc.mono fun e w'' hh => ?_
  obtain ⟨rfl, hR⟩ := hh
  exact h _ hR

theorem yields_addr {S : World → Prop} {oi : Oper} (x : Operand) (ho : oi.op = .load 24 x) (g : Nat) (hx : a.eval x = .pointer (some ⟨g, 0, none⟩)) (s : Bool) (b : List Int) (n : Int)
    (hS : ∀ w, S w → Blk w g 48 (cid s b n)) (hl : b.length = 16) (hw : Region.wanted oi (yielded ops a.tmps) = true) : YieldsIf Tryz.prog ops S oi (.agg (adr s b)) a :=
  yieldsIf_load_mid hw 24 x ho g 0 hx (adr s b).toList _ (fun w h => cid_range (hS w h)) Tryz.underlying24 rfl (by rw [Array.length_toList, adr_size, hl]; exact Tryz.infoAddr)

theorem yields_cell {S : World → Prop} {oi : Oper} (x : Operand) (ho : oi.op = .load 3 x) (g off : Nat) (hx : a.eval x = .pointer (some ⟨g, off, none⟩)) (n : Int)
    (hS : ∀ w, S w → w.cell? ⟨g, off, none⟩ = some (.int .i64 n)) (hw : Region.wanted oi (yielded ops a.tmps) = true) : YieldsIf Tryz.prog ops S oi (.int .i64 n) a :=
  .inl ⟨hw, fun w hw' => by
    have h := hS w hw'
    unfold execOp
    simp only [ho, hx]
    simp [go_sem, h]⟩

theorem exec_geq (t t' : TypeId) (x y : Operand) (ho : o.op = .binOp .geq t x y t') (n m : Int) (hx : a.eval x = .int .i64 n) (hy : a.eval y = .int .i64 m) (b : Bool) (h : decide (n ≥ m) = b) :
    (execOp a.eval o).run P w = .ok (.value (.bool b)) w := by
  subst h
  unfold execOp
  simp only [ho, hx, hy, eqGuard, binOp]
  simp [go_sem]
theorem exec_leq (t t' : TypeId) (x y : Operand) (ho : o.op = .binOp .leq t x y t') (n m : Int) (hx : a.eval x = .int .i64 n) (hy : a.eval y = .int .i64 m) (b : Bool) (h : decide (n ≤ m) = b) :
    (execOp a.eval o).run P w = .ok (.value (.bool b)) w := by
  subst h
  unfold execOp
  simp only [ho, hx, hy, eqGuard, binOp]
  simp [go_sem]
end
end Go.Proofs.YtambnnahgbegfaaGreatDoor
