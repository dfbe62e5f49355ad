/-
  What the row of HashTuples asks: two points as an argument, taken apart.
-/
import Derived.Test.YtijboclcbbnhbaaRows
import Derived.Test.YtijboclcbbnhbaaTlaw
import Derived.ProofKit
import Derived.OpenShut
import Derived.HandedShaped
import Derived.LaidMore
import Derived.Lay
import Derived.Lib.LaidU8
import Derived.Shelf.Vars
import Derived.ChangeOld
import Derived.Stop.Joined
namespace Go.Proofs.Ytijboclcbbnhbaa
open Go.ChangeShapes Go.WideShapes Go.RowKit

theorem ownS : ownKnob Try.prog.godebug = none := by kernel_rfl
theorem laidOutS : laidOutB Try.prog = true := by kernel_rfl
def ints (l : List Nat) : List Int := l.map (fun k : Nat => (k : Int))
theorem ints_length (l : List Nat) : (ints l).length = l.length := by simp [ints]
theorem adr_list (s : Bool) (x : List Nat) : (adr s (ints x)).toList = .bool s :: x.map fun n : Nat => Value.int .u8 n := by
  simp [adr, ints]

section
variable {H : Type} {enc : TypeId × Value → H}
def natOf : Value → Nat
  | .int _ n => n.toNat
  | _ => 0

theorem open_bytes16 {W : World} {base : Nat} {sp : Nat → Bool} {held : Bool} {fuel : Nat} {cs : List Value} {x : DataW H × List MemPlace} (h : DataW.trod enc Try.prog W base sp held fuel 22 cs = some x) :
    ∃ l : List Nat, l.length = 16 ∧ (∀ n ∈ l, n < 256) ∧ cs = l.map (fun n : Nat => Value.int .u8 n) ∧ x = (.agg (l.map fun n : Nat => .lit (.int .u8 n)), []) := by
  obtain ⟨xs, m, rfl, rfl, hl, hn, hall⟩ := DataW.trod_array Try.underlying22 h
  have hc : Try.prog.cellsOf 5 = 1 := by kernel_rfl
  have hl : cs.length = 16 := hl.trans (by kernel_rfl)
  simp only [hc, Nat.mul_one] at hall
  have each : ∀ i, i < 16 → ∃ n : Nat, n < 256 ∧ cs[i]? = some (.int .u8 n) ∧ xs[i]? = some (.lit (.int .u8 n), []) := by
    intro i hi
    have hi' : i < xs.length := by omega
    have := hall i hi
    rw [List.getElem?_eq_getElem hi'] at this
    obtain ⟨n, h1, h2, h3⟩ := DataW.trod_int Try.underlying5 this
    have hb := bounds_u8 h3
    obtain ⟨m, rfl⟩ : ∃ m : Nat, n = m := ⟨n.toNat, by omega⟩
    refine ⟨m, by omega, ?_, by rw [List.getElem?_eq_getElem hi', h2]⟩
    have := congrArg (·[0]?) h1
    simpa [List.getElem?_take, List.getElem?_drop] using this
  refine ⟨(List.range 16).map fun i => natOf (cs[i]?.getD .nilIface), by simp, ?_, ?_, ?_⟩
  · intro n hn
    obtain ⟨i, hi, rfl⟩ := List.mem_map.1 hn
    obtain ⟨k, hk, h1, _⟩ := each i (List.mem_range.1 hi)
    simp [h1, natOf, hk]
  · apply List.ext_getElem?
    intro i
    by_cases hi : i < 16
    · obtain ⟨k, hk, h1, _⟩ := each i hi
      simp [h1, hi, natOf]
    · rw [List.getElem?_eq_none (by omega), List.getElem?_eq_none (by simp; omega)]
  · have e : xs = ((List.range 16).map fun i => natOf (cs[i]?.getD .nilIface)).map fun n : Nat => ((.lit (.int .u8 n), []) : DataW H × List MemPlace) := by
      apply List.ext_getElem?
      intro i
      by_cases hi : i < 16
      · obtain ⟨k, hk, h1, h2⟩ := each i hi
        simp [h1, h2, hi, natOf]
      · rw [List.getElem?_eq_none (by omega), List.getElem?_eq_none (by simp; omega)]
    rw [e]
    simp

theorem pnt_list (s : Bool) (x : List Nat) (n : Int) : (pnt s (ints x) n).toList = (.bool s :: x.map fun n : Nat => Value.int .u8 n) ++ [.int .i64 n] := by
  simp [pnt, ints]

set_option maxRecDepth 100000 in
theorem open_pntc {W : World} {base : Nat} {sp : Nat → Bool} {held : Bool} {fuel : Nat} {cs : List Value} {x : DataW H × List MemPlace} (hf : DataW.trod enc Try.prog W base sp held fuel 26 cs = some x) (hs : cs.length = 18) :
    ∃ s l n, cs = (pnt s (ints l) n).toList ∧ l.length = 16 := by
  obtain ⟨y0, y1, n, hx, hl, h0, h1⟩ := trod_struct2 Try.underlying26 hf
  have hca : Try.prog.cellsOf 24 = 17 := by kernel_rfl
  have hci : Try.prog.cellsOf 3 = 1 := by kernel_rfl
  have hc0 : Try.prog.cellsOf 4 = 1 := by kernel_rfl
  have hc1 : Try.prog.cellsOf 22 = 16 := by kernel_rfl
  simp only [hca, hci] at h0 h1
  obtain ⟨z0, z1, k, hz, hzl, k0, k1⟩ := trod_struct2 Try.underlying24 h0
  simp only [hc0, hc1] at k0 k1
  obtain ⟨s, e0, rfl⟩ := DataW.trod_bool Try.underlying4 k0
  obtain ⟨l, hxl, hxb, e1, rfl⟩ := open_bytes16 k1
  obtain ⟨m, e2, rfl, hwf⟩ := DataW.trod_int Try.underlying3 h1
  refine ⟨s, l, m, ?_, hxl⟩
  rw [pnt_list, ← List.take_append_drop 17 cs]
  simp only [List.drop_zero] at e0 e1
  have a1 : cs.take 17 = .bool s :: l.map fun n : Nat => Value.int .u8 n := by
    rw [← List.take_append_drop 1 (cs.take 17), e0]
    rw [List.take_of_length_le (by simp [hs])] at e1
    rw [e1]
    rfl
  have a2 : cs.drop 17 = [.int .i64 m] := by
    rw [List.take_of_length_le (by simp [hs])] at e2
    exact e2
  rw [a1, a2]
end

theorem okWide_arr2 {P : Program} {w : World} {r : Reach} {base n : Nat} {t e : TypeId} {v : Value} (ht : P.underlying t = some (.array n e)) (h : Value.okWide P w r base t v) : ∃ cs, v = .agg cs ∧ cs.size = P.cellsOf t := by
  simp only [Value.okWide, ht] at h
  obtain ⟨cs, h1, h2, _⟩ := h
  exact ⟨cs, h1, h2⟩

set_option maxRecDepth 100000 in
theorem open_twoP {H : Type} {enc : TypeId × Value → H} {W : World} {base : Nat} {v : Value} {d : DataW H} {p : List MemPlace} (hv : Value.okWide Try.prog W .any base 27 v) (h : DataW.Trod enc Try.prog W 0 (fun _ => true) true 27 v d p) :
    ∃ s1 x1 n1 s2 x2 n2, v = .agg (twoP s1 (ints x1) n1 s2 (ints x2) n2) ∧ x1.length = 16 ∧ x2.length = 16 := by
  obtain ⟨cs, rfl, hsz⟩ := okWide_arr2 Try.underlying27 hv
  obtain ⟨fuel, hf⟩ := h
  obtain ⟨xs, m, rfl, hx, hl, hn, hall⟩ := DataW.trod_array Try.underlying27 hf
  have hc : Try.prog.cellsOf 26 = 18 := by kernel_rfl
  have hs : cs.toList.length = 36 := by rw [Array.length_toList]; exact hsz.trans (by kernel_rfl)
  simp only [hc, Value.cells] at hall
  have h0 := hall 0 (by omega)
  have h1 := hall 1 (by omega)
  rw [List.getElem?_eq_getElem (by omega)] at h0 h1
  obtain ⟨s1, x1, n1, e1, l1⟩ := open_pntc h0 (by rw [List.length_take, List.length_drop]; omega)
  obtain ⟨s2, x2, n2, e2, l2⟩ := open_pntc h1 (by rw [List.length_take, List.length_drop]; omega)
  refine ⟨s1, x1, n1, s2, x2, n2, ?_, l1, l2⟩
  congr 1
  apply Array.toList_inj.1
  rw [twoP, Array.toList_append, ← e1, ← e2]
  simp only [Nat.zero_mul, List.drop_zero, Nat.one_mul]
  rw [List.take_of_length_le (l := cs.toList.drop 18) (by rw [List.length_drop]; omega), List.take_append_drop]
end Go.Proofs.Ytijboclcbbnhbaa
