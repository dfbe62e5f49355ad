/-
  What the row of SumsPseudo asks: two addresses as an argument, taken apart; the builder with both the listed variables and the world's shape.
-/
import Derived.Test.YtnlhdeffoalhiaaDoorRows
import Derived.Test.YtnlhdeffoalhiaaDoorSlps
import Derived.ProofKit
import Derived.OpenShut
import Derived.HandedShaped
import Derived.LaidMore
import Derived.Lay
import Derived.Lib.LaidU8
import Derived.Shelf.Vars
import Derived.ChangeOld
namespace Go.Proofs.YtnlhdeffoalhiaaDoor
open Go.ChangeShapes Go.WideShapes Go.RowKit

theorem own : ownKnob Tryd.prog.godebug = none := by kernel_rfl
theorem laidOut : laidOutB Tryd.prog = true := by kernel_rfl
def ints (l : List Nat) : List Int := l.map (fun k : Nat => (k : Int))
theorem ints_length (l : List Nat) : (ints l).length = l.length := by simp [ints]
theorem adr_list (s : Bool) (x : List Nat) : (adr s (ints x)).toList = .bool s :: x.map fun n : Nat => Value.int .u8 n := by
  simp [adr, ints]

section
variable {H : Type} {enc : TypeId × Value → H}
def natOf : Value → Nat
  | .int _ n => n.toNat
  | _ => 0

theorem open_bytes16 {W : World} {base : Nat} {sp : Nat → Bool} {held : Bool} {fuel : Nat} {cs : List Value} {x : DataW H × List MemPlace} (h : DataW.trod enc Tryd.prog W base sp held fuel 29 cs = some x) :
    ∃ l : List Nat, l.length = 16 ∧ (∀ n ∈ l, n < 256) ∧ cs = l.map (fun n : Nat => Value.int .u8 n) ∧ x = (.agg (l.map fun n : Nat => .lit (.int .u8 n)), []) := by
  obtain ⟨xs, m, rfl, rfl, hl, hn, hall⟩ := DataW.trod_array Tryd.underlying29 h
  have hc : Tryd.prog.cellsOf 5 = 1 := by kernel_rfl
  have hl : cs.length = 16 := hl.trans (by kernel_rfl)
  simp only [hc, Nat.mul_one] at hall
  have each : ∀ i, i < 16 → ∃ n : Nat, n < 256 ∧ cs[i]? = some (.int .u8 n) ∧ xs[i]? = some (.lit (.int .u8 n), []) := by
    intro i hi
    have hi' : i < xs.length := by omega
    have := hall i hi
    rw [List.getElem?_eq_getElem hi'] at this
    obtain ⟨n, h1, h2, h3⟩ := DataW.trod_int Tryd.underlying5 this
    have hb := bounds_u8 h3
    obtain ⟨m, rfl⟩ : ∃ m : Nat, n = m := ⟨n.toNat, by omega⟩
    refine ⟨m, by omega, ?_, by rw [List.getElem?_eq_getElem hi', h2]⟩
    have := congrArg (·[0]?) h1
    simpa [List.getElem?_take, List.getElem?_drop] using this
  refine ⟨(List.range 16).map fun i => natOf (cs[i]?.getD .nilIface), by simp, ?_, ?_, ?_⟩
  · intro n hn
    obtain ⟨i, hi, rfl⟩ := List.mem_map.1 hn
    obtain ⟨k, hk, h1, _⟩ := each i (List.mem_range.1 hi)
    simp [h1, natOf, hk]
  · apply List.ext_getElem?
    intro i
    by_cases hi : i < 16
    · obtain ⟨k, hk, h1, _⟩ := each i hi
      simp [h1, hi, natOf]
    · rw [List.getElem?_eq_none (by omega), List.getElem?_eq_none (by simp; omega)]
  · have e : xs = ((List.range 16).map fun i => natOf (cs[i]?.getD .nilIface)).map fun n : Nat => ((.lit (.int .u8 n), []) : DataW H × List MemPlace) := by
      apply List.ext_getElem?
      intro i
      by_cases hi : i < 16
      · obtain ⟨k, hk, h1, h2⟩ := each i hi
        simp [h1, h2, hi, natOf]
      · rw [List.getElem?_eq_none (by omega), List.getElem?_eq_none (by simp; omega)]
    rw [e]
    simp

set_option maxRecDepth 100000 in
theorem open_adrc {W : World} {base : Nat} {sp : Nat → Bool} {held : Bool} {fuel : Nat} {cs : List Value} {x : DataW H × List MemPlace} (hf : DataW.trod enc Tryd.prog W base sp held fuel 31 cs = some x) (hs : cs.length = 17) :
    ∃ s l, cs = (adr s (ints l)).toList ∧ l.length = 16 := by
  obtain ⟨y0, y1, n, hx, hl, h0, h1⟩ := trod_struct2 Tryd.underlying31 hf
  have hc0 : Tryd.prog.cellsOf 4 = 1 := by kernel_rfl
  have hc1 : Tryd.prog.cellsOf 29 = 16 := by kernel_rfl
  simp only [hc0, hc1] at h0 h1
  obtain ⟨s, e0, rfl⟩ := DataW.trod_bool Tryd.underlying4 h0
  obtain ⟨l, hxl, hxb, e1, rfl⟩ := open_bytes16 h1
  refine ⟨s, l, ?_, hxl⟩
  rw [adr_list, ← e1, ← List.take_append_drop 1 cs]
  simp only [List.drop_zero] at e0
  rw [e0]
  simp [List.take_of_length_le, hs]
end

theorem okWide_arr2 {P : Program} {w : World} {r : Reach} {base n : Nat} {t e : TypeId} {v : Value} (ht : P.underlying t = some (.array n e)) (h : Value.okWide P w r base t v) : ∃ cs, v = .agg cs ∧ cs.size = P.cellsOf t := by
  simp only [Value.okWide, ht] at h
  obtain ⟨cs, h1, h2, _⟩ := h
  exact ⟨cs, h1, h2⟩

set_option maxRecDepth 100000 in
theorem open_two {H : Type} {enc : TypeId × Value → H} {W : World} {base : Nat} {v : Value} {d : DataW H} {p : List MemPlace} (hv : Value.okWide Tryd.prog W .any base 32 v) (h : DataW.Trod enc Tryd.prog W 0 (fun _ => true) true 32 v d p) :
    ∃ s1 x1 s2 x2, v = .agg (two s1 (ints x1) s2 (ints x2)) ∧ x1.length = 16 ∧ x2.length = 16 := by
  obtain ⟨cs, rfl, hsz⟩ := okWide_arr2 Tryd.underlying32 hv
  obtain ⟨fuel, hf⟩ := h
  obtain ⟨xs, m, rfl, hx, hl, hn, hall⟩ := DataW.trod_array Tryd.underlying32 hf
  have hc : Tryd.prog.cellsOf 31 = 17 := by kernel_rfl
  have hs : cs.toList.length = 34 := by rw [Array.length_toList]; exact hsz.trans (by kernel_rfl)
  simp only [hc, Value.cells] at hall
  have h0 := hall 0 (by omega)
  have h1 := hall 1 (by omega)
  rw [List.getElem?_eq_getElem (by omega)] at h0 h1
  obtain ⟨s1, x1, e1, l1⟩ := open_adrc h0 (by rw [List.length_take, List.length_drop]; omega)
  obtain ⟨s2, x2, e2, l2⟩ := open_adrc h1 (by rw [List.length_take, List.length_drop]; omega)
  refine ⟨s1, x1, s2, x2, ?_, l1, l2⟩
  congr 1
  apply Array.toList_inj.1
  rw [two, Array.toList_append, ← e1, ← e2]
  simp only [Nat.zero_mul, List.drop_zero, Nat.one_mul]
  rw [List.take_of_length_le (l := cs.toList.drop 17) (by rw [List.length_drop]; omega), List.take_append_drop]

/-- The builder, with both: what is listed, and the world's shape. -/
theorem returnsInHanded_of_change_both {H : Type} {enc : TypeId × Value → H} {a : Assume} {C : Checked} {os : Os} {f : FuncId} {fn : Func} {s : ChangeSpec} {conds : List PathCond} {apart fresh handsOn again : Bool} {X : World → Array Value → Prop}
    (hX : ∀ (w w' : World) (args : Array Value), w.heap = w'.heap → X w args → X w' args)
    (own : ownKnob C.prog.godebug = none) (started : os.Started) (noInit : C.prog.inits.idxOf? f = none) (hfn : C.prog.funcs[f]? = some fn)
    (witness : ∃ (w : World) (tape : Tape) (i : Input), w.os = os ∧ (w.forCall tape i).Shaped C.prog ∧ i.vars = [] ∧ Input.okWide C.prog (w.forCall tape i) .any w.heap.size f i ∧
      ((s.pre enc C.prog fn conds apart (w.forCall tape i).memory i.args ∧ X (w.forCall tape i).memory i.args) ∧ sizedMet enc C.prog fn (OpenSpec.ofChange s) apart (w.forCall tape i).memory i.args) ∧ a.holds C.prog (lone (Frame.enter C.prog f i.args .normal) [] (w.forCall tape i)))
    (contract : ∀ (W : World) (base : Nat) (args : Array Value) (ds gs : List (DataW H)) (before : List MemPlace),
      (∀ (j : Nat) t v, fn.params[j]? = some t → args[j]? = some v → Value.okWide C.prog W .any base t v) →
      DataW.Whole enc C.prog fn.params.toList s.vars apart W args.toList ds gs before → X W args → W.ShapedOpen C.prog →
      Calls C.prog f args W fun e W' => ∃ v, e = .returned v ∧ s.post enc C.prog fn apart fresh handsOn again W args v W') :
    ReturnsInHanded a C os f .any (fun w args => (s.pre enc C.prog fn conds apart w args ∧ X w args) ∧ sizedMet enc C.prog fn (OpenSpec.ofChange s) apart w args) (s.post enc C.prog fn apart fresh handsOn again) := by
  refine returnsInHanded_of_calls own started noInit witness ?_
  intro w tape i _ hsh _ hok hpre _
  obtain ⟨_, _, _, fn', hfn', _, _, _, _, hval⟩ := hok
  have e : fn' = fn := Option.some.inj (hfn'.symm.trans hfn)
  subst e
  obtain ⟨⟨⟨ds, gs, before, hw, _⟩, hx⟩, _⟩ := hpre
  have hw' := DataW.Whole.of_heap (w' := w.forCall tape i) (by rfl) hw
  refine (contract (w.forCall tape i) w.heap.size i.args ds gs before hval hw' (hX _ _ _ (by rfl) hx) hsh).mono fun e W' ⟨v, he, hp⟩ => ?_
  subst he
  exact ChangeSpec.post_blind hp
end Go.Proofs.YtnlhdeffoalhiaaDoor
