/-
  Two rows of bytes in one memory, and what the document's Parse asks of a text (plain facts).
-/
import Derived.Test.YtnfkgoeocebenaaGreatDoorRqua
import Derived.Lib.IndexMore
import Derived.Lib.IndexLaws
namespace Go.Proofs.YtnfkgoeocebenaaGreatDoor
open Go.RowKit

theorem grp_of (l : List UInt8) (n : Nat) (h : numI 16 4 l = (n : Int)) : grp l = some n := by
  unfold numI at h
  split at h
  · rename_i hh
    unfold grp
    rw [if_pos hh]
    congr 1
    omega
  · omega
theorem grp_no (l : List UInt8) (h : numI 16 4 l < 0) : grp l = none := by
  unfold grp
  rw [if_neg]
  intro hh
  have : numI 16 4 l = (numb 16 0 l : Int) := by unfold numI; rw [if_pos hh]
  omega

/-- Two colons at a place. -/
def pairAt (l : List UInt8) (j : Nat) : Prop := l[j]? = some 58 ∧ l[j + 1]? = some 58

theorem occ2 (l : List UInt8) (j : Nat) : Lib.occAt l [58, 58] j = true ↔ pairAt l j := by
  unfold Lib.occAt pairAt
  have h0 : l[j]? = (l.drop j)[0]? := by simp
  have h1 : l[j + 1]? = (l.drop j)[1]? := by simp
  rw [h0, h1]
  match l.drop j with
  | [] => simp
  | [a] => simp
  | a :: b :: r =>
    simp [List.isPrefixOf]
    constructor
    · rintro ⟨h, h'⟩; exact ⟨h.symm, h'.symm⟩
    · rintro ⟨h, h'⟩; exact ⟨h.symm, h'.symm⟩

theorem cut_at (l : List UInt8) (c : Nat) (hc : pairAt l c) (hn : ∀ j, j < c → ¬ pairAt l j) : Lib.cut l [58, 58] = (l.take c, l.drop (c + 2), true) := by
  have hcl : c + 1 < l.length := (List.getElem?_eq_some_iff.1 hc.2).1
  have hi : Lib.index l [58, 58] = (c : Int) := by
    rcases Lib.index_spec l [58, 58] with ⟨_, h2⟩ | ⟨i, h1, h2, h3, h4⟩
    · have := h2 c (by omega)
      rw [(occ2 l c).2 hc] at this
      cases this
    · rw [h1]
      congr 1
      rcases Nat.lt_trichotomy i c with h | h | h
      · exact absurd ((occ2 l i).1 h3) (hn i h)
      · exact h
      · have := h4 c h
        rw [(occ2 l c).2 hc] at this
        cases this
  unfold Lib.cut
  rw [hi, if_pos (by omega)]
  rfl
theorem cut_none2 (l : List UInt8) (hn : ∀ j, ¬ pairAt l j) : Lib.cut l [58, 58] = (l, [], false) := by
  have hi : Lib.index l [58, 58] = -1 := by
    rcases Lib.index_spec l [58, 58] with ⟨h1, _⟩ | ⟨i, h1, h2, h3, h4⟩
    · exact h1
    · exact absurd ((occ2 l i).1 h3) (hn i)
  unfold Lib.cut
  rw [hi, if_neg (by omega)]

theorem has_iff (l : List UInt8) : 0 ≤ Lib.indexByte l 58 ↔ (58 : UInt8) ∈ l := by
  constructor
  · intro h
    obtain ⟨o, ho⟩ : ∃ o : Nat, Lib.indexByte l 58 = o := ⟨_, (Int.toNat_of_nonneg h).symm⟩
    exact List.mem_of_getElem? (Lib.indexByte_some ho).1
  · intro h
    rcases Int.lt_or_le (Lib.indexByte l 58) 0 with h' | h'
    · have := Lib.indexByte_ge l 58
      have e : Lib.indexByte l 58 = -1 := by omega
      obtain ⟨k, hk, hk2⟩ := List.getElem_of_mem h
      exact absurd (by rw [List.getElem?_eq_getElem hk, hk2]) (Lib.indexByte_none e k)
    · exact h'

/-- Bytes as cells. -/
def bcells (l : List Nat) : List Value := l.map fun n : Nat => Value.int .u8 n
theorem bcells_length (l : List Nat) : (bcells l).length = l.length := by simp [bcells]
theorem bcells_append (l m : List Nat) : bcells (l ++ m) = bcells l ++ bcells m := by simp [bcells]
theorem bcells_one (l : List Nat) : ∀ v ∈ bcells l, v.oneCell' = true := by
  intro v hv
  simp only [bcells, List.mem_map] at hv
  obtain ⟨x, _, rfl⟩ := hv
  rfl

theorem grown_of_below {w w' : World} (hb : Below w.heap.size w w') : w.grownBy w' none := ⟨hb.os, hb.tape, hb.output, hb.size, fun k hk _ => hb.block k hk⟩

/-- A row of bytes that the call owns. -/
def Own (B : Nat) (w : World) (g c : Nat) (l : List Nat) : Prop := w.ownsRow B 5 1 (.slice (some ⟨g, 0, none⟩) l.length c) l.length (bcells l)

theorem Own.kept {B : Nat} {w w' : World} {g c : Nat} {l : List Nat} (h : Own B w g c l) (hb : Below w.heap.size w w') : Own B w' g c l :=
  World.ownsRow.kept h (grown_of_below hb) (.inr (by show some g ≠ none; simp))
theorem Own.lt {B : Nat} {w : World} {g c : Nat} {l : List Nat} (h : Own B w g c l) : B ≤ g ∧ g < w.heap.size := World.ownsRow.lt h g rfl
theorem Own.grown {B : Nat} {w w' : World} {g c k : Nat} {l : List Nat} (h : Own B w g c l) (hg : w.grownBy w' (some k)) (hne : g ≠ k) : Own B w' g c l :=
  World.ownsRow.kept h hg (.inr (by show some g ≠ some k; simpa using hne))
theorem Own.cell {B : Nat} {w : World} {g c : Nat} {l : List Nat} (h : Own B w g c l) (j : Nat) (hj : j < l.length) : w.cell? ⟨g, j, none⟩ = some (.int .u8 ((l.getD j 0 : Nat) : Int)) := by
  rw [World.ownsRow.cellAt h j (by omega), bcells, List.getElem?_map, List.getElem?_eq_getElem hj]
  simp [List.getD, List.getElem?_eq_getElem hj]

/-- The two rows, the result's variable, and what lay there. -/
def AB (w wr : World) (ga ca : Nat) (la : List Nat) (gb cb : Nat) (lb : List Nat) : Prop :=
  Own (w.heap.size + 1) wr ga ca la ∧ Own (w.heap.size + 1) wr gb cb lb ∧ ga ≠ gb ∧ Blk wr w.heap.size 24 (adr false z16) ∧ Below w.heap.size w wr

theorem AB.kept {w wr w' : World} {ga ca gb cb : Nat} {la lb : List Nat} (h : AB w wr ga ca la gb cb lb) (hb : Below wr.heap.size wr w') : AB w w' ga ca la gb cb lb :=
  ⟨h.1.kept hb, h.2.1.kept hb, h.2.2.1, h.2.2.2.1.kept hb, bel2 h.2.2.2.2 hb⟩

theorem AB.flip {w wr : World} {ga ca gb cb : Nat} {la lb : List Nat} (h : AB w wr ga ca la gb cb lb) : AB w wr gb cb lb ga ca la := ⟨h.2.1, h.1, fun e => h.2.2.1 e.symm, h.2.2.2⟩

/-- Behind an append to the first row. -/
theorem AB.app {w wr w' : World} {ga ca gb cb g' c' : Nat} {la lb xs : List Nat} (h : AB w wr ga ca la gb cb lb) (m : Nat) (hm : xs.length = m)
    (hown : w'.ownsRow (w.heap.size + 1) 5 1 (.slice (some ⟨g', 0, none⟩) (la.length + m) c') (la.length + m) (bcells la ++ bcells xs))
    (hg : wr.grownBy w' (some ga)) (hat : some ga = some g' ∨ g' = wr.heap.size) : AB w w' g' c' (la ++ xs) gb cb lb := by
  obtain ⟨h1, h2, h3, h4, h5⟩ := h
  have hga := h1.lt
  have hgb := h2.lt
  refine ⟨?_, h2.grown hg (fun e => h3 e.symm), ?_, ?_, ?_⟩
  · unfold Own
    rw [List.length_append, bcells_append, hm]
    exact hown
  · rcases hat with e | e
    · cases e; exact h3
    · omega
  · unfold Blk
    rw [hg.block w.heap.size h4.lt (by intro e; cases e; omega)]
    exact h4
  · exact h5.grown hg h5.size (fun k hk => by cases hk; omega)

/-- Cells of a third block are as they were. -/
theorem Row.grown {w w' : World} {g k : Nat} {ps : List (List UInt8)} (h : Row w g ps) (hg : w.grownBy w' (some k)) (hne : g ≠ k) : Row w' g ps := fun j x hx => by
  have h1 := h j x hx
  have hlt := cell_lt h1
  unfold World.cell? at h1 ⊢
  rw [hg.block g hlt (by intro e; cases e; exact hne rfl)]
  exact h1
end Go.Proofs.YtnfkgoeocebenaaGreatDoor
