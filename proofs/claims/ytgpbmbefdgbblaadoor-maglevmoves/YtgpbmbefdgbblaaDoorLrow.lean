/-
  What the rows of layer 10 ask: a list of points as an argument, taken apart; what is listed.
-/
import Derived.Test.YtgpbmbefdgbblaaDoorVrow
import Derived.Test.YtgpbmbefdgbblaaDoorLali
import Derived.ChangeOld
import Derived.LaidMore
import Derived.Stop.Joined
namespace Go.Proofs.YtgpbmbefdgbblaaDoor
open Go.ChangeShapes Go.WideShapes Go.RowKit

theorem add_add (a : Addr) (i j : Nat) : (a.add i).add j = a.add (i + j) := by
  rcases a with ⟨g, o, sp⟩
  unfold Addr.add
  by_cases hi : i = 0
  · subst hi
    by_cases hj : j = 0
    · subst hj; simp
    · simp [hj]
  · by_cases hj : j = 0
    · subst hj; simp [hi]
    · simp [hi, hj, Nat.add_assoc]
theorem list_of {α : Type} (P : Nat → α → Prop) : ∀ n, (∀ i, i < n → ∃ x, P i x) → ∃ xs : List α, xs.length = n ∧ ∀ i (h : i < xs.length), P i xs[i]
  | 0, _ => ⟨[], rfl, fun i h => absurd h (by simp)⟩
  | n + 1, h => by
    obtain ⟨xs, h1, h2⟩ := list_of P n (fun i hi => h i (by omega))
    obtain ⟨x, hx⟩ := h n (by omega)
    refine ⟨xs ++ [x], by simp [h1], fun i hi => ?_⟩
    by_cases hin : i < xs.length
    · rw [List.getElem_append_left hin]
      exact h2 i hin
    · have : i = n := by simp at hi; omega
      subst this
      rw [List.getElem_append_right (by omega)]
      simpa [h1] using hx

section
variable {H : Type} {enc : TypeId × Value → H}
def natOf : Value → Nat
  | .int _ n => n.toNat
  | _ => 0
theorem open_bytes16 {W : World} {base : Nat} {sp : Nat → Bool} {held : Bool} {fuel : Nat} {cs : List Value} {x : DataW H × List MemPlace} (h : DataW.trod enc Tryd.prog W base sp held fuel 32 cs = some x) :
    ∃ l : List Nat, l.length = 16 ∧ (∀ n ∈ l, n < 256) ∧ cs = l.map (fun n : Nat => Value.int .u8 n) ∧ x = (.agg (l.map fun n : Nat => .lit (.int .u8 n)), []) := by
  obtain ⟨xs, m, rfl, rfl, hl, hn, hall⟩ := DataW.trod_array Tryd.underlying32 h
  have hc : Tryd.prog.cellsOf 5 = 1 := by kernel_rfl
  have hl : cs.length = 16 := hl.trans (by kernel_rfl)
  simp only [hc, Nat.mul_one] at hall
  have each : ∀ i, i < 16 → ∃ n : Nat, n < 256 ∧ cs[i]? = some (.int .u8 n) ∧ xs[i]? = some (.lit (.int .u8 n), []) := by
    intro i hi
    have hi' : i < xs.length := by omega
    have := hall i hi
    rw [List.getElem?_eq_getElem hi'] at this
    obtain ⟨n, h1, h2, h3⟩ := DataW.trod_int Tryd.underlying5 this
    have hb := bounds_u8 h3
    obtain ⟨m, rfl⟩ : ∃ m : Nat, n = m := ⟨n.toNat, by omega⟩
    refine ⟨m, by omega, ?_, by rw [List.getElem?_eq_getElem hi', h2]⟩
    have := congrArg (·[0]?) h1
    simpa [List.getElem?_take, List.getElem?_drop] using this
  refine ⟨(List.range 16).map fun i => natOf (cs[i]?.getD .nilIface), by simp, ?_, ?_, ?_⟩
  · intro n hn
    obtain ⟨i, hi, rfl⟩ := List.mem_map.1 hn
    obtain ⟨k, hk, h1, _⟩ := each i (List.mem_range.1 hi)
    simp [h1, natOf, hk]
  · apply List.ext_getElem?
    intro i
    by_cases hi : i < 16
    · obtain ⟨k, hk, h1, _⟩ := each i hi
      simp [h1, hi, natOf]
    · rw [List.getElem?_eq_none (by omega), List.getElem?_eq_none (by simp; omega)]
  · have e : xs = ((List.range 16).map fun i => natOf (cs[i]?.getD .nilIface)).map fun n : Nat => ((.lit (.int .u8 n), []) : DataW H × List MemPlace) := by
      apply List.ext_getElem?
      intro i
      by_cases hi : i < 16
      · obtain ⟨k, hk, h1, h2⟩ := each i hi
        simp [h1, h2, hi, natOf]
      · rw [List.getElem?_eq_none (by omega), List.getElem?_eq_none (by simp; omega)]
    rw [e]
    simp
theorem pnt_listY (s : Bool) (x : List Nat) (n : Int) : (pnt s (ints x) n).toList = (.bool s :: x.map fun n : Nat => Value.int .u8 n) ++ [.int .i64 n] := by
  simp [pnt, ints]
set_option maxRecDepth 100000 in
theorem open_pntc {W : World} {base : Nat} {sp : Nat → Bool} {held : Bool} {fuel : Nat} {cs : List Value} {x : DataW H × List MemPlace} (hf : DataW.trod enc Tryd.prog W base sp held fuel 36 cs = some x) (hs : cs.length = 18) : ∃ c : PS, cs = encPL c := by
  obtain ⟨y0, y1, n, hx, hl, h0, h1⟩ := trod_struct2 Tryd.underlying36 hf
  have hca : Tryd.prog.cellsOf 34 = 17 := by kernel_rfl
  have hci : Tryd.prog.cellsOf 3 = 1 := by kernel_rfl
  have hc0 : Tryd.prog.cellsOf 4 = 1 := by kernel_rfl
  have hc1 : Tryd.prog.cellsOf 32 = 16 := by kernel_rfl
  simp only [hca, hci] at h0 h1
  obtain ⟨z0, z1, k, hz, hzl, k0, k1⟩ := trod_struct2 Tryd.underlying34 h0
  simp only [hc0, hc1] at k0 k1
  obtain ⟨s, e0, rfl⟩ := DataW.trod_bool Tryd.underlying4 k0
  obtain ⟨l, hxl, hxb, e1, rfl⟩ := open_bytes16 k1
  obtain ⟨m, e2, rfl, hwf⟩ := DataW.trod_int Tryd.underlying3 h1
  refine ⟨⟨(s, l, m), hxl, hxb⟩, ?_⟩
  show cs = (pnt s (ints l) m).toList
  rw [pnt_listY, ← List.take_append_drop 17 cs]
  simp only [List.drop_zero] at e0 e1
  have a1 : cs.take 17 = .bool s :: l.map fun n : Nat => Value.int .u8 n := by
    rw [← List.take_append_drop 1 (cs.take 17), e0]
    rw [List.take_of_length_le (by simp [hs])] at e1
    rw [e1]
    rfl
  have a2 : cs.drop 17 = [.int .i64 m] := by
    rw [List.take_of_length_le (by simp [hs])] at e2
    exact e2
  rw [a1, a2]
set_option maxRecDepth 100000 in
theorem open_points {W : World} {v : Value} {d : DataW H} {p : List MemPlace} (hsl : ∃ a len cap, v = .slice a len cap) (h : DataW.Trod enc Tryd.prog W 0 (fun _ => true) true 22 v d p) :
    ∃ (ad : Option Addr) (cap : Nat) (xs : List PS), v = .slice ad xs.length cap ∧ xs.length ≤ cap ∧ (ad = none → xs.length = 0 ∧ cap = 0) ∧ Elems encP 18 W.heap.size W ad xs := by
  obtain ⟨a0, len0, cap0, rfl⟩ := hsl
  obtain ⟨fuel, hf⟩ := h
  rcases DataW.trod_slice Tryd.underlying22 hf with ⟨h0, _⟩ | ⟨a, len, cap, elems, rest, n, _, h0, _, _, hl, hm, hlen, hel, _, _⟩
  · have h0' : Value.slice a0 len0 cap0 = .slice none 0 0 := by simpa [Value.cells] using h0
    rw [h0']
    exact ⟨none, 0, [], rfl, Nat.le_refl _, fun _ => ⟨rfl, rfl⟩, fun j hj => absurd hj (by simp)⟩
  · have h0' : Value.slice a0 len0 cap0 = .slice (some a) len cap := by simpa [Value.cells] using h0
    rw [h0']
    have hc : Tryd.prog.cellsOf 36 = 18 := by kernel_rfl
    have each : ∀ i, i < len → ∃ k : PS, ∀ j u, (encPL k)[j]? = some u → W.cell? (a.add (i * 18 + j)) = some u := by
      intro i hi
      have h1 := hel i hi
      rw [List.getElem?_eq_getElem (by omega), hc, Option.bind_eq_some_iff] at h1
      obtain ⟨cs, hcs, ht⟩ := h1
      obtain ⟨_, hcl, hcc⟩ := World.cells?_some hcs
      obtain ⟨k, rfl⟩ := open_pntc ht hcl
      refine ⟨k, fun j u hu => ?_⟩
      have hj : j < 18 := by have h9 := (List.getElem?_eq_some_iff.1 hu).1; rw [encPL_length] at h9; exact h9
      have := hcc j hj
      rw [hu, add_add] at this
      exact this
    obtain ⟨xs, hxl, hx⟩ := list_of _ len each
    refine ⟨some a, cap, xs, by rw [hxl], by omega, (fun e => by cases e), fun j hj => ?_⟩
    have hxj := hx j hj
    have c0 := hxj 0 (.bool xs[j].1.1) rfl
    have hsp : a.spot = none := by
      rcases a with ⟨g, o, sp⟩
      cases sp with
      | none => rfl
      | some s =>
        exfalso
        have c00 := hx 0 (by omega) 0 (.bool (xs[0]'(by omega)).1.1) rfl
        rw [show (⟨g, o, some s⟩ : Addr).add (0 * 18 + 0) = ⟨g, o, some s⟩ by simp [Addr.add]] at c00
        unfold World.cell? at c00
        simp at c00
        split at c00 <;> simp at c00
    rcases a with ⟨g, o, sp⟩
    obtain rfl : sp = none := hsp
    refine ⟨g, o, rfl, ?_, fun i u hu => ?_⟩
    · rw [show (⟨g, o, none⟩ : Addr).add (j * 18 + 0) = ⟨g, o + j * 18, none⟩ by unfold Addr.add; split <;> simp_all] at c0
      rcases Nat.lt_or_ge g W.heap.size with hlt | hge
      · exact hlt
      · have : W.heap[g]? = none := Array.getElem?_eq_none hge
        unfold World.cell? at c0
        rw [this] at c0
        cases c0
    · have := hxj i u hu
      rw [show (⟨g, o, none⟩ : Addr).add (j * 18 + i) = ⟨g, o + j * 18 + i, none⟩ by unfold Addr.add; split <;> simp_all [Nat.add_assoc]] at this
      exact this
end

theorem menv_of {W : World} (hf : FEnv W) (u1 u8 u11 u13 : TypeId) (p1 p8 p11 p13 : Value) (h1 : W.cell? ⟨0, 0, none⟩ = some (.iface u1 p1)) (h8 : W.cell? ⟨1, 0, none⟩ = some (.iface u8 p8)) (h11 : W.cell? ⟨2, 0, none⟩ = some (.iface u11 p11)) (h13 : W.cell? ⟨3, 0, none⟩ = some (.iface u13 p13)) : ∃ E, MEnv E W :=
  ⟨fun i => if i = 1 then (u1, p1) else if i = 8 then (u8, p8) else if i = 11 then (u11, p11) else (u13, p13), hf, h1, h8, h11, h13⟩
end Go.Proofs.YtgpbmbefdgbblaaDoor
