/-
  What the rows of layer 12 ask: parts of bytes as an argument, a frame as an argument, taken apart.
-/
import Derived.Test.YtkpjdjenlmodnaaDoorHrow
import Derived.Test.YtkpjdjenlmodnaaDoorFfa
import Derived.LaidMore
import Derived.Stop.Joined
import Derived.Lib.SmallJoins
namespace Go.Proofs.YtkpjdjenlmodnaaDoor
open Go.ChangeShapes Go.WideShapes Go.RowKit

section
variable {H : Type} {enc : TypeId × Value → H}
set_option maxRecDepth 100000 in
theorem open_bsc {W : World} {base : Nat} {sp : Nat → Bool} {held : Bool} {fuel : Nat} {cs : List Value} {x : DataW H × List MemPlace} (hf : DataW.trod enc Tryd.prog W base sp held fuel 22 cs = some x) :
    ∃ ad cap bs, cs = [.slice ad bs.length cap] ∧ bs.length ≤ cap ∧ (ad = none → bs.length = 0 ∧ cap = 0) ∧ Byt bs ∧ Bys W.heap.size W ad bs := by
  rcases open_ints Tryd.underlying22 Tryd.underlying5 (by kernel_rfl) hf with ⟨hcs, _⟩ | ⟨x, ln, c, zs, hcs, _, hl, hm, hz, _, hcell, hwz⟩
  · exact ⟨none, 0, [], hcs, Nat.le_refl _, fun _ => ⟨rfl, rfl⟩, Byt.of (fun x hx => absurd hx (by simp)), (fun j hj => absurd hj (by simp))⟩
  · have hzl : ln ≤ zs.length := by rw [hz]; split <;> omega
    have e : (zs.take ln).length = ln := by rw [List.length_take]; omega
    refine ⟨some x, c, zs.take ln, by rw [e]; exact hcs, by omega, (fun h => by cases h), Byt.of (fun z hz' => bounds_u8 (hwz z (List.mem_of_mem_take hz'))), fun j hj => ?_⟩
    rw [e] at hj
    obtain ⟨b, off, spot⟩ := x
    have hspot : spot = none := by simpa [Addr.add] using World.cell?_spot (hcell 0 (by omega))
    subst hspot
    have hc := hcell j (by omega)
    rw [show (⟨b, off, none⟩ : Addr).add j = ⟨b, off + j, none⟩ by unfold Addr.add; split <;> simp_all] at hc
    refine ⟨b, off, rfl, cell_lt hc, ?_⟩
    rw [hc]
    simp [List.getD, show j < ln by omega]
theorem list_ofF {α : Type} (P : Nat → α → Prop) : ∀ n, (∀ i, i < n → ∃ x, P i x) → ∃ xs : List α, xs.length = n ∧ ∀ i (h : i < xs.length), P i xs[i]
  | 0, _ => ⟨[], rfl, fun i h => absurd h (by simp)⟩
  | n + 1, h => by
    obtain ⟨xs, h1, h2⟩ := list_ofF P n (fun i hi => h i (by omega))
    obtain ⟨x, hx⟩ := h n (by omega)
    refine ⟨xs ++ [x], by simp [h1], fun i hi => ?_⟩
    by_cases hin : i < xs.length
    · rw [List.getElem_append_left hin]
      exact h2 i hin
    · have : i = n := by simp at hi; omega
      subst this
      rw [List.getElem_append_right (by omega)]
      simpa [h1] using hx
set_option maxRecDepth 100000 in
theorem open_parts {W : World} {v : Value} {d : DataW H} {p : List MemPlace} (hsl : ∃ a len cap, v = .slice a len cap) (h : DataW.Trod enc Tryd.prog W 0 (fun _ => true) true 38 v d p) :
    ∃ (ad : Option Addr) (cap : Nat) (bss : List (List Int)), v = .slice ad bss.length cap ∧ Parts W ad bss := by
  obtain ⟨a0, len0, cap0, rfl⟩ := hsl
  obtain ⟨fuel, hf⟩ := h
  rcases DataW.trod_slice Tryd.underlying38 hf with ⟨h0, _⟩ | ⟨a, len, cap, elems, rest, n, _, h0, _, _, hl, hm, hlen, hel, _, _⟩
  · have h0' : Value.slice a0 len0 cap0 = .slice none 0 0 := by simpa [Value.cells] using h0
    rw [h0']
    exact ⟨none, 0, [], rfl, fun j hj => absurd hj (by simp)⟩
  · have h0' : Value.slice a0 len0 cap0 = .slice (some a) len cap := by simpa [Value.cells] using h0
    rw [h0']
    have hc : Tryd.prog.cellsOf 22 = 1 := by kernel_rfl
    have each : ∀ i, i < len → ∃ bs : List Int, ∃ adj capj, W.cell? (a.add i) = some (.slice adj bs.length capj) ∧ bs.length ≤ capj ∧ (adj = none → capj = 0) ∧ RowA (fun _ => True) W adj bs ∧ Byt bs := by
      intro i hi
      have h1 := hel i hi
      rw [List.getElem?_eq_getElem (by omega), hc, Nat.mul_one, Option.bind_eq_some_iff] at h1
      obtain ⟨cs, hcs, ht⟩ := h1
      obtain ⟨ad, cp, bs, rfl, h2, h3, h4, h5⟩ := open_bsc ht
      exact ⟨bs, ad, cp, cell_of_cells?_one hcs, h2, fun e => (h3 e).2, h5.rowA fun _ _ => trivial, h4⟩
    obtain ⟨bss, hbl, hb⟩ := list_ofF _ len each
    refine ⟨some a, cap, bss, by rw [hbl], fun j hj => ?_⟩
    obtain ⟨adj, capj, c1, c2, c3, c4, c5⟩ := hb j hj
    have hg : bss.getD j [] = bss[j] := by simp [List.getD, List.getElem?_eq_getElem hj]
    have hsp : a.spot = none := by
      rcases a with ⟨g, o, sp⟩
      cases sp with
      | none => rfl
      | some s =>
        exfalso
        obtain ⟨adk, capk, d1, _⟩ := hb 0 (by omega)
        rw [show (⟨g, o, some s⟩ : Addr).add 0 = ⟨g, o, some s⟩ by simp [Addr.add]] at d1
        exact absurd (World.cell?_spot d1) (by simp)
    rcases a with ⟨g, o, sp⟩
    obtain rfl : sp = none := hsp
    rw [show (⟨g, o, none⟩ : Addr).add j = ⟨g, o + j, none⟩ by unfold Addr.add; split <;> simp_all] at c1
    rw [hg]
    exact ⟨g, o, adj, capj, rfl, c1, c2, c3, c4, c5⟩
theorem Tryd.cellsFrame : Tryd.prog.cellsOf 46 = 2 := by kernel_rfl
open Go.Joins in
theorem open_frame {W : World} {b0 : Nat} {r : Reach} {v : Value} {d : DataW H} {ps : List MemPlace} (hv : Value.okWide Tryd.prog W r b0 46 v) (h : DataW.Trod enc Tryd.prog W 0 (fun _ => true) true 46 v d ps) :
    ∃ (m : Int) (ad : Option Addr) (cap : Nat) (bs : List Int), v = .agg #[.int .i64 m, .slice ad bs.length cap] ∧ (-9223372036854775808 ≤ m ∧ m ≤ 9223372036854775807) ∧ bs.length ≤ cap ∧ (ad = none → bs.length = 0 ∧ cap = 0) ∧ Byt bs ∧ Bys W.heap.size W ad bs := by
  obtain ⟨c0, c1, y0, y1, m, rfl, rfl, rfl, hy0, hy1⟩ := open_agg2 Tryd.underlying46 (by kernel_rfl) Tryd.cellsFrame hv h
  obtain ⟨k, e0, rfl, wk⟩ := DataW.trod_int Tryd.underlying3 hy0
  obtain ⟨ad, cap, bs, e1, h1, h2, h3, h4⟩ := open_bsc hy1
  simp only [List.cons.injEq, and_true] at e0 e1
  subst e0
  subst e1
  exact ⟨k, ad, cap, bs, rfl, bounds_i64 wk, h1, h2, h3, h4⟩
end
end Go.Proofs.YtkpjdjenlmodnaaDoor
