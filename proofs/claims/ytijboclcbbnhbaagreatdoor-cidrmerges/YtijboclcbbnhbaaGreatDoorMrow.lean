/-
  What the row of CidrMerges asks: a list of cidrs as an argument, taken apart; what is listed.
-/
import Derived.Test.YtijboclcbbnhbaaGreatDoorRow
import Derived.Test.YtijboclcbbnhbaaGreatDoorMf
import Derived.ChangeOld
import Derived.LaidMore
import Derived.Stop.Joined
namespace Go.Proofs.YtijboclcbbnhbaaGreatDoor
open Go.ChangeShapes Go.WideShapes Go.RowKit

theorem add_add (a : Addr) (i j : Nat) : (a.add i).add j = a.add (i + j) := by
  rcases a with ⟨g, o, sp⟩
  unfold Addr.add
  by_cases hi : i = 0
  · subst hi
    by_cases hj : j = 0
    · subst hj; simp
    · simp [hj]
  · by_cases hj : j = 0
    · subst hj; simp [hi]
    · simp [hi, hj, Nat.add_assoc]

theorem list_of {α : Type} (P : Nat → α → Prop) : ∀ n, (∀ i, i < n → ∃ x, P i x) → ∃ xs : List α, xs.length = n ∧ ∀ i (h : i < xs.length), P i xs[i]
  | 0, _ => ⟨[], rfl, fun i h => absurd h (by simp)⟩
  | n + 1, h => by
    obtain ⟨xs, h1, h2⟩ := list_of P n (fun i hi => h i (by omega))
    obtain ⟨x, hx⟩ := h n (by omega)
    refine ⟨xs ++ [x], by simp [h1], fun i hi => ?_⟩
    by_cases hin : i < xs.length
    · rw [List.getElem_append_left hin]
      exact h2 i hin
    · have : i = n := by simp at hi; omega
      subst this
      rw [List.getElem_append_right (by omega)]
      simpa [h1] using hx

section
variable {H : Type} {enc : TypeId × Value → H}
theorem cid_listY (s : Bool) (x : List Nat) (n : Int) : (cid s (ints x) n).toList = (.bool s :: x.map fun n : Nat => Value.int .u8 n) ++ [.int .i64 n] := by
  simp [cid, ints]
set_option maxRecDepth 100000 in
theorem open_cidc {W : World} {base : Nat} {sp : Nat → Bool} {held : Bool} {fuel : Nat} {cs : List Value} {x : DataW H × List MemPlace} (hf : DataW.trod enc Tryz.prog W base sp held fuel 29 cs = some x) (hs : cs.length = 18) : ∃ c : CS, cs = encC c := by
  obtain ⟨y0, y1, n, hx, hl, h0, h1⟩ := trod_struct2 Tryz.underlying29 hf
  have hca : Tryz.prog.cellsOf 25 = 17 := by kernel_rfl
  have hci : Tryz.prog.cellsOf 3 = 1 := by kernel_rfl
  have hc0 : Tryz.prog.cellsOf 4 = 1 := by kernel_rfl
  have hc1 : Tryz.prog.cellsOf 23 = 16 := by kernel_rfl
  simp only [hca, hci] at h0 h1
  obtain ⟨z0, z1, k, hz, hzl, k0, k1⟩ := trod_struct2 Tryz.underlying25 h0
  simp only [hc0, hc1] at k0 k1
  obtain ⟨s, e0, rfl⟩ := DataW.trod_bool Tryz.underlying4 k0
  obtain ⟨l, hxl, hxb, e1, rfl⟩ := open_bytes16 k1
  obtain ⟨m, e2, rfl, hwf⟩ := DataW.trod_int Tryz.underlying3 h1
  refine ⟨⟨(s, l, m), hxl, hxb⟩, ?_⟩
  show cs = (cid s (ints l) m).toList
  rw [cid_listY, ← List.take_append_drop 17 cs]
  simp only [List.drop_zero] at e0 e1
  have a1 : cs.take 17 = .bool s :: l.map fun n : Nat => Value.int .u8 n := by
    rw [← List.take_append_drop 1 (cs.take 17), e0]
    rw [List.take_of_length_le (by simp [hs])] at e1
    rw [e1]
    rfl
  have a2 : cs.drop 17 = [.int .i64 m] := by
    rw [List.take_of_length_le (by simp [hs])] at e2
    exact e2
  rw [a1, a2]

set_option maxRecDepth 100000 in
theorem open_cidrs {W : World} {v : Value} {d : DataW H} {p : List MemPlace} (hsl : ∃ a len cap, v = .slice a len cap) (h : DataW.Trod enc Tryz.prog W 0 (fun _ => true) true 22 v d p) :
    ∃ (ad : Option Addr) (cap : Nat) (xs : List CS), v = .slice ad xs.length cap ∧ xs.length ≤ cap ∧ (ad = none → xs.length = 0 ∧ cap = 0) ∧ Elems encA 18 W.heap.size W ad xs := by
  obtain ⟨a0, len0, cap0, rfl⟩ := hsl
  obtain ⟨fuel, hf⟩ := h
  rcases DataW.trod_slice Tryz.underlying22 hf with ⟨h0, _⟩ | ⟨a, len, cap, elems, rest, n, _, h0, _, _, hl, hm, hlen, hel, _, _⟩
  · have h0' : Value.slice a0 len0 cap0 = .slice none 0 0 := by simpa [Value.cells] using h0
    rw [h0']
    exact ⟨none, 0, [], rfl, Nat.le_refl _, fun _ => ⟨rfl, rfl⟩, fun j hj => absurd hj (by simp)⟩
  · have h0' : Value.slice a0 len0 cap0 = .slice (some a) len cap := by simpa [Value.cells] using h0
    rw [h0']
    have hc : Tryz.prog.cellsOf 29 = 18 := by kernel_rfl
    have each : ∀ i, i < len → ∃ k : CS, ∀ j u, (encC k)[j]? = some u → W.cell? (a.add (i * 18 + j)) = some u := by
      intro i hi
      have h1 := hel i hi
      rw [List.getElem?_eq_getElem (by omega), hc, Option.bind_eq_some_iff] at h1
      obtain ⟨cs, hcs, ht⟩ := h1
      obtain ⟨_, hcl, hcc⟩ := World.cells?_some hcs
      obtain ⟨k, rfl⟩ := open_cidc ht hcl
      refine ⟨k, fun j u hu => ?_⟩
      have hj : j < 18 := by have h9 := (List.getElem?_eq_some_iff.1 hu).1; rw [encC_length] at h9; exact h9
      have := hcc j hj
      rw [hu, add_add] at this
      exact this
    obtain ⟨xs, hxl, hx⟩ := list_of _ len each
    refine ⟨some a, cap, xs, by rw [hxl], by omega, (fun e => by cases e), fun j hj => ?_⟩
    have hxj := hx j hj
    have c0 := hxj 0 (.bool xs[j].1.1) rfl
    have hsp : a.spot = none := by
      rcases a with ⟨g, o, sp⟩
      cases sp with
      | none => rfl
      | some s =>
        exfalso
        have c00 := hx 0 (by omega) 0 (.bool (xs[0]'(by omega)).1.1) rfl
        rw [show (⟨g, o, some s⟩ : Addr).add (0 * 18 + 0) = ⟨g, o, some s⟩ by simp [Addr.add]] at c00
        unfold World.cell? at c00
        simp at c00
        split at c00 <;> simp at c00
    rcases a with ⟨g, o, sp⟩
    obtain rfl : sp = none := hsp
    refine ⟨g, o, rfl, ?_, fun i u hu => ?_⟩
    · rw [show (⟨g, o, none⟩ : Addr).add (j * 18 + 0) = ⟨g, o + j * 18, none⟩ by unfold Addr.add; split <;> simp_all] at c0
      rcases Nat.lt_or_ge g W.heap.size with hlt | hge
      · exact hlt
      · have : W.heap[g]? = none := Array.getElem?_eq_none hge
        unfold World.cell? at c0
        rw [this] at c0
        cases c0
    · have := hxj i u hu
      rw [show (⟨g, o, none⟩ : Addr).add (j * 18 + i) = ⟨g, o + j * 18 + i, none⟩ by unfold Addr.add; split <;> simp_all [Nat.add_assoc]] at this
      exact this
end

theorem cenv_laid {W : World} (hs : W.ShapedOpen Tryz.prog) (h : laidMetH Tryz.prog Rows.cidrMergesRow.laid W) : CEnv W := by
  rw [MakeChecks.laidMetH_plain _ _ _ (by kernel_rfl)] at h
  obtain ⟨u, p, hE⟩ : ∃ u p, Env (.iface u p) W := by refine env_of_laid hs h ?_ ?_ ?_ ?_ ?_ <;> simp [Rows.cidrMergesRow]
  have m1 : ("linkboy/api.ErrAddress", Rows.laid_linkboy_api_ErrAddress) ∈ Rows.cidrMergesRow.laid := by simp [Rows.cidrMergesRow]
  have m2 : ("linkboy/api.ErrRange", Rows.laid_linkboy_api_ErrRange) ∈ Rows.cidrMergesRow.laid := by simp [Rows.cidrMergesRow]
  obtain ⟨u1, p1, h1⟩ := iface_of_reads (g := 1) (by kernel_rfl) (by kernel_rfl) Tryz.underlying34 (Lib.laidMet.reads h m1)
  obtain ⟨u2, p2, h2⟩ := iface_of_reads (g := 2) (by kernel_rfl) (by kernel_rfl) Tryz.underlying34 (Lib.laidMet.reads h m2)
  exact ⟨⟨_, hE⟩, u1, p1, u2, p2, ⟨h1, h2⟩⟩
end Go.Proofs.YtijboclcbbnhbaaGreatDoor
