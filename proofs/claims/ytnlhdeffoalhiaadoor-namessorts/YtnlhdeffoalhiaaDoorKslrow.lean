/-
  What the row of NamesSorts asks: a list of keys as an argument, taken apart.
-/
import Derived.Test.YtnlhdeffoalhiaaDoorNrow
import Derived.Test.YtnlhdeffoalhiaaDoorKsl
import Derived.ChangeOld
namespace Go.Proofs.YtnlhdeffoalhiaaDoor
open Go.ChangeShapes Go.WideShapes Go.RowKit

theorem cell_of_shapedOpen_any {P : Program} {w : World} {g : Nat} {t : TypeId} {zero : Array Value}
    (h : w.ShapedOpen P) (hg : g < P.globals.size) (h0 : ((begin P (fun _ _ => 0) default).world.heap[g]?).bind Obj.row? = some (zero, t)) (hz : zero.size = 1) :
    ∃ v, w.cell? ⟨g, 0, none⟩ = some v := by
  obtain ⟨cs, hh, hs, _⟩ := h.1 g zero t hg h0
  have h1 : 0 < cs.size := by omega
  exact ⟨cs[0], by simp [World.cell?, hh, h1]⟩

theorem add_add (a : Addr) (i j : Nat) : (a.add i).add j = a.add (i + j) := by
  rcases a with ⟨g, o, sp⟩
  unfold Addr.add
  by_cases hi : i = 0
  · subst hi
    by_cases hj : j = 0
    · subst hj; simp
    · simp [hj]
  · by_cases hj : j = 0
    · subst hj; simp [hi]
    · simp [hi, hj, Nat.add_assoc]

theorem list_of {α : Type} (P : Nat → α → Prop) : ∀ n, (∀ i, i < n → ∃ x, P i x) → ∃ xs : List α, xs.length = n ∧ ∀ i (h : i < xs.length), P i xs[i]
  | 0, _ => ⟨[], rfl, fun i h => absurd h (by simp)⟩
  | n + 1, h => by
    obtain ⟨xs, h1, h2⟩ := list_of P n (fun i hi => h i (by omega))
    obtain ⟨x, hx⟩ := h n (by omega)
    refine ⟨xs ++ [x], by simp [h1], fun i hi => ?_⟩
    by_cases hin : i < xs.length
    · rw [List.getElem_append_left hin]
      exact h2 i hin
    · have : i = n := by simp at hi; omega
      subst this
      rw [List.getElem_append_right (by omega)]
      simpa [h1] using hx

section
variable {H : Type} {enc : TypeId × Value → H}
set_option maxRecDepth 100000 in
theorem open_keyc {W : World} {base : Nat} {sp : Nat → Bool} {held : Bool} {fuel : Nat} {cs : List Value} {x : DataW H × List MemPlace} (hf : DataW.trod enc Tryd.prog W base sp held fuel 25 cs = some x) (hs : cs.length = 2) : ∃ k : KT, cs = encKL k := by
  obtain ⟨y0, y1, n, hx, hl, h0, h1⟩ := trod_struct2 Tryd.underlying25 hf
  have hc0 : Tryd.prog.cellsOf 9 = 1 := by kernel_rfl
  simp only [hc0] at h0 h1
  obtain ⟨a, e0, rfl, ha⟩ := DataW.trod_string Tryd.underlying9 h0
  obtain ⟨b, e1, rfl, hb⟩ := DataW.trod_string Tryd.underlying9 h1
  refine ⟨(a, b), ?_⟩
  rw [← List.take_append_drop 1 cs]
  simp only [List.drop_zero] at e0
  rw [e0, ← List.take_of_length_le (l := cs.drop 1) (i := 1) (by simp; omega), e1]
  rfl

set_option maxRecDepth 100000 in
theorem open_keys {W : World} {v : Value} {d : DataW H} {p : List MemPlace} (hsl : ∃ a len cap, v = .slice a len cap) (h : DataW.Trod enc Tryd.prog W 0 (fun _ => true) true 22 v d p) :
    ∃ (ad : Option Addr) (cap : Nat) (xs : List KT), v = .slice ad xs.length cap ∧ xs.length ≤ cap ∧ (ad = none → xs.length = 0 ∧ cap = 0) ∧ Elems encK 2 W.heap.size W ad xs := by
  obtain ⟨a0, len0, cap0, rfl⟩ := hsl
  obtain ⟨fuel, hf⟩ := h
  rcases DataW.trod_slice Tryd.underlying22 hf with ⟨h0, _⟩ | ⟨a, len, cap, elems, rest, n, _, h0, _, _, hl, hm, hlen, hel, _, _⟩
  · have h0' : Value.slice a0 len0 cap0 = .slice none 0 0 := by simpa [Value.cells] using h0
    rw [h0']
    exact ⟨none, 0, [], rfl, Nat.le_refl _, fun _ => ⟨rfl, rfl⟩, fun j hj => absurd hj (by simp)⟩
  · have h0' : Value.slice a0 len0 cap0 = .slice (some a) len cap := by simpa [Value.cells] using h0
    rw [h0']
    have hc : Tryd.prog.cellsOf 25 = 2 := by kernel_rfl
    have each : ∀ i, i < len → ∃ k : KT, ∀ j u, (encKL k)[j]? = some u → W.cell? (a.add (i * 2 + j)) = some u := by
      intro i hi
      have h1 := hel i hi
      rw [List.getElem?_eq_getElem (by omega), hc, Option.bind_eq_some_iff] at h1
      obtain ⟨cs, hcs, ht⟩ := h1
      obtain ⟨_, hcl, hcc⟩ := World.cells?_some hcs
      obtain ⟨k, rfl⟩ := open_keyc ht hcl
      refine ⟨k, fun j u hu => ?_⟩
      have hj : j < 2 := (List.getElem?_eq_some_iff.1 hu).1
      have := hcc j hj
      rw [hu, add_add] at this
      exact this
    obtain ⟨xs, hxl, hx⟩ := list_of _ len each
    refine ⟨some a, cap, xs, by rw [hxl], by omega, (fun e => by cases e), fun j hj => ?_⟩
    have hxj := hx j hj
    have c0 := hxj 0 (.string xs[j].1) rfl
    have hsp : a.spot = none := by
      rcases a with ⟨g, o, sp⟩
      cases sp with
      | none => rfl
      | some s =>
        exfalso
        have c00 := hx 0 (by omega) 0 (.string (xs[0]'(by omega)).1) rfl
        rw [show (⟨g, o, some s⟩ : Addr).add (0 * 2 + 0) = ⟨g, o, some s⟩ by simp [Addr.add]] at c00
        unfold World.cell? at c00
        simp at c00
        split at c00 <;> simp at c00
    rcases a with ⟨g, o, sp⟩
    obtain rfl : sp = none := hsp
    refine ⟨g, o, rfl, ?_, fun i u hu => ?_⟩
    · rw [show (⟨g, o, none⟩ : Addr).add (j * 2 + 0) = ⟨g, o + j * 2, none⟩ by unfold Addr.add; split <;> simp_all] at c0
      rcases Nat.lt_or_ge g W.heap.size with hlt | hge
      · exact hlt
      · have : W.heap[g]? = none := Array.getElem?_eq_none hge
        unfold World.cell? at c0
        rw [this] at c0
        cases c0
    · have := hxj i u hu
      rw [show (⟨g, o, none⟩ : Addr).add (j * 2 + i) = ⟨g, o + j * 2 + i, none⟩ by unfold Addr.add; split <;> simp_all [Nat.add_assoc]] at this
      exact this
end
end Go.Proofs.YtnlhdeffoalhiaaDoor
