/-
  The law AddrBytes, of every input; an array of four bytes opened and shut.
-/
import Derived.Test.YtnfkgoeocebenaaGreatDoorAwalk
import Derived.Test.YtnfkgoeocebenaaGreatDoorRow
namespace Go.Proofs.YtnfkgoeocebenaaGreatDoor
open Go.ChangeShapes Go.WideShapes Go.RowKit
section
variable {H : Type} {enc : TypeId × Value → H}
theorem open_bytes4 {W : World} {base : Nat} {sp : Nat → Bool} {held : Bool} {fuel : Nat} {cs : List Value} {x : DataW H × List MemPlace} (h : DataW.trod enc Tryz.prog W base sp held fuel 26 cs = some x) :
    ∃ l : List Nat, l.length = 4 ∧ (∀ n ∈ l, n < 256) ∧ cs = l.map (fun n : Nat => Value.int .u8 n) ∧ x = (.agg (l.map fun n : Nat => .lit (.int .u8 n)), []) := by
  obtain ⟨xs, m, rfl, rfl, hl, hn, hall⟩ := DataW.trod_array Tryz.underlying26 h
  have hc : Tryz.prog.cellsOf 5 = 1 := by kernel_rfl
  have hl : cs.length = 4 := hl.trans (by kernel_rfl)
  simp only [hc, Nat.mul_one] at hall
  have each : ∀ i, i < 4 → ∃ n : Nat, n < 256 ∧ cs[i]? = some (.int .u8 n) ∧ xs[i]? = some (.lit (.int .u8 n), []) := by
    intro i hi
    have hi' : i < xs.length := by omega
    have := hall i hi
    rw [List.getElem?_eq_getElem hi'] at this
    obtain ⟨n, h1, h2, h3⟩ := DataW.trod_int Tryz.underlying5 this
    have hb := bounds_u8 h3
    obtain ⟨m, rfl⟩ : ∃ m : Nat, n = m := ⟨n.toNat, by omega⟩
    refine ⟨m, by omega, ?_, by rw [List.getElem?_eq_getElem hi', h2]⟩
    have := congrArg (·[0]?) h1
    simpa [List.getElem?_take, List.getElem?_drop] using this
  refine ⟨(List.range 4).map fun i => natOf (cs[i]?.getD .nilIface), by simp, ?_, ?_, ?_⟩
  · intro n hn
    obtain ⟨i, hi, rfl⟩ := List.mem_map.1 hn
    obtain ⟨k, hk, h1, _⟩ := each i (List.mem_range.1 hi)
    simp [h1, natOf, hk]
  · apply List.ext_getElem?
    intro i
    by_cases hi : i < 4
    · obtain ⟨k, hk, h1, _⟩ := each i hi
      simp [h1, hi, natOf]
    · rw [List.getElem?_eq_none (by omega), List.getElem?_eq_none (by simp; omega)]
  · have e : xs = ((List.range 4).map fun i => natOf (cs[i]?.getD .nilIface)).map fun n : Nat => ((.lit (.int .u8 n), []) : DataW H × List MemPlace) := by
      apply List.ext_getElem?
      intro i
      by_cases hi : i < 4
      · obtain ⟨k, hk, h1, h2⟩ := each i hi
        simp [h1, h2, hi, natOf]
      · rw [List.getElem?_eq_none (by omega), List.getElem?_eq_none (by simp; omega)]
    rw [e]
    simp
theorem shut_bytes4 {W : World} {base : Nat} {sp : Nat → Bool} {held : Bool} (m : Nat) {l : List Nat} (hl : l.length = 4) (hb : ∀ n ∈ l, n < 256) :
    DataW.trod enc Tryz.prog W base sp held (m + 2) 26 (l.map fun n : Nat => Value.int .u8 n) = some (.agg (l.map fun n : Nat => .lit (.int .u8 n)), []) := by
  have hc : Tryz.prog.cellsOf 5 = 1 := by kernel_rfl
  have hc4 : Tryz.prog.cellsOf 26 = 4 := by kernel_rfl
  have one : ∀ i ∈ List.range 4, DataW.trod enc Tryz.prog W base sp held (m + 1) 5 (((l.map fun n : Nat => Value.int .u8 n).drop i).take 1) = some ((.lit (.int .u8 (l.getD i 0)), []) : DataW H × List MemPlace) := by
    intro i hi
    have hi' : i < l.length := by rw [hl]; exact List.mem_range.1 hi
    have e : ((l.map fun n : Nat => Value.int .u8 n).drop i).take 1 = [.int .u8 (l.getD i 0)] := by
      rw [List.drop_eq_getElem_cons (by simpa using hi')]
      simp [List.getD, hi']
    rw [e]
    refine trod_int_mk m Tryz.underlying5 ?_
    have := hb _ (List.getElem_mem hi')
    simp [Lit.wf, IntKind.min, IntKind.max, IntKind.signed, IntKind.bits, List.getD, hi']
    omega
  have all : (List.range 4).mapM (fun i => DataW.trod enc Tryz.prog W base sp held (m + 1) 5 (((l.map fun n : Nat => Value.int .u8 n).drop i).take 1)) = some ((List.range 4).map fun i => ((.lit (.int .u8 (l.getD i 0)), []) : DataW H × List MemPlace)) :=
    Lay.mapM_some' _ _ _ one
  unfold DataW.trod
  simp only [Tryz.underlying26, hc4, hc, Nat.mul_one, List.length_map, hl, if_true, all, Option.map_some, List.map_map, Option.some.injEq, Prod.mk.injEq, DataW.agg.injEq]
  refine ⟨?_, by simp⟩
  apply List.ext_getElem?
  intro i
  by_cases hi : i < 4
  · simp [hi, hl]
  · rw [List.getElem?_eq_none (by simp; omega), List.getElem?_eq_none (by simp; omega)]

end

theorem getD_all4 (l : List Int) (h : ∀ x ∈ l, 0 ≤ x ∧ x ≤ 255) (j : Nat) : 0 ≤ l.getD j 0 ∧ l.getD j 0 ≤ 255 := by
  by_cases hj : j < l.length
  · rw [List.getD, List.getElem?_eq_getElem hj]
    exact h _ (List.getElem_mem hj)
  · rw [List.getD, List.getElem?_eq_none (by omega)]
    simp

theorem addrBytes_any (s : Bool) (C : List Nat) (hlc : C.length = 16) (ad : Option Addr) (cap : Nat) (bs : List Int) (hcap : bs.length ≤ cap) (hn0 : ad = none → cap = 0) (hby : ∀ x ∈ bs, 0 ≤ x ∧ x ≤ 255) (F : List Nat) (hF : F.length = 4) (a : Nat → Addr) (w : World)
    (hE : Env (.iface 211 (.pointer (some (a 3)))) w) (hErr : Errs 18 a w) (hrow : ∀ j, j < bs.length → ∃ g o, ad = some ⟨g, o, none⟩ ∧ w.cell? ⟨g, o + j, none⟩ = some (.int .u8 (bs.getD j 0))) :
    Calls Tryz.prog 3 #[.agg (adr s (ints C)), .slice ad bs.length cap, .agg (arr .u8 (ints F))] w fun e w' => e = .returned (.bool true) ∧ Below w.heap.size w w' := by
  match F, hF with
  | [f0, f1, f2, f3], _ =>
    have lc : (ints C).length = 16 := by rw [ints_length, hlc]
    show Calls Tryz.prog 3 #[.agg (adr s (ints C)), .slice ad bs.length cap, .agg (arr .u8 [(f0 : Int), (f1 : Int), (f2 : Int), (f3 : Int)])] w _
    by_cases hm : 100 < bs.length
    · exact abw_long s (ints C) f0 f1 f2 f3 ad bs.length cap hm _ w hE
    · by_cases h4 : bs.length = 4
      · exact abw_four s (ints C) lc f0 f1 f2 f3 ad cap bs (by omega) h4 hcap hn0 (getD_all4 bs hby) a w hE hErr hrow
      · by_cases h16 : bs.length = 16
        · exact abw_six s (ints C) lc f0 f1 f2 f3 ad cap bs (by omega) h16 hcap hn0 (getD_all4 bs hby) a w hE hErr hrow
        · exact abw_other s (ints C) lc f0 f1 f2 f3 ad cap bs (by omega) h4 h16 hcap hn0 (getD_all4 bs hby) a w hE hErr hrow
end Go.Proofs.YtnfkgoeocebenaaGreatDoor
