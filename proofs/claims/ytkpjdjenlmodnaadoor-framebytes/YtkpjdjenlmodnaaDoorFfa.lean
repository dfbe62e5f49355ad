/-
  FrameFeeds: what holds between the parts.
-/
import Derived.Test.YtkpjdjenlmodnaaDoorEsm
import Derived.Test.YtkpjdjenlmodnaaDoorNerr
namespace Go.Proofs.YtkpjdjenlmodnaaDoor
open Go.RowKit Go.Lib

/-- The parts lie at the address. -/
def Parts (w : World) (ad : Option Addr) (bss : List (List Int)) : Prop := ∀ j, j < bss.length → ∃ g o adj capj, ad = some ⟨g, o, none⟩ ∧ w.cell? ⟨g, o + j, none⟩ = some (.slice adj (bss.getD j []).length capj) ∧
  (bss.getD j []).length ≤ capj ∧ (adj = none → capj = 0) ∧ RowA (fun _ => True) w adj (bss.getD j []) ∧ Byt (bss.getD j [])

/-- The stream and what the law grew: where it may not lie. -/
def Ok (c : Nat) (va vg : Value) (g : Nat) : Prop := g ≠ c ∧ some g ≠ va.ownBlock ∧ some g ≠ vg.ownBlock
/-- All bytes, all frames as of the document, the frames just told. -/
structure FeedsM (w W : World) (c : Nat) (al : List Int) (va vg v : Value) (L F : List Fr) (xs ys : List Value) : Prop where
  le : w.heap.size ≤ c
  lt : c < W.heap.size
  ownA : W.ownsRow w.heap.size 5 1 va al.length (al.map (Value.int .u8))
  ownG : W.ownsRow w.heap.size 50 2 vg L.length xs
  ownV : W.ownsRow w.heap.size 46 2 v F.length ys
  ca : some c ≠ va.ownBlock
  cg : some c ≠ vg.ownBlock
  ag : ∀ k, va.ownBlock = some k → vg.ownBlock ≠ some k
  av : ∀ k, va.ownBlock = some k → v.ownBlock ≠ some k
  frsL : Frs (Ok c va vg) W xs L
  frsF : Frs (Ok c va vg) W ys F
  low : Below w.heap.size w W

section
variable {w W V : World} {c : Nat} {al : List Int} {va vg v : Value} {L F : List Fr} {xs ys : List Value}
theorem FeedsM.below (h : FeedsM w W c al va vg v L F xs ys) (hb : Below W.heap.size W V) : FeedsM w V c al va vg v L F xs ys where
  le := h.le
  lt := Nat.lt_of_lt_of_le h.lt hb.size
  ownA := own_same h.ownA fun g e => hb.block g (h.ownA.lt g e).2
  ownG := own_same h.ownG fun g e => hb.block g (h.ownG.lt g e).2
  ownV := own_same h.ownV fun g e => hb.block g (h.ownV.lt g e).2
  ca := h.ca
  cg := h.cg
  ag := h.ag
  av := h.av
  frsL := h.frsL.below hb
  frsF := h.frsF.below hb
  low := h.low.trans (hb.mono h.low.size)
/-- A part is fed. -/
theorem FeedsM.fed (h : FeedsM w W c al va vg (.slice none 0 0) L [] xs []) {v : Value} {F : List Fr} {ys : List Value} (hK : Keep c W V) (hl : W.heap.size ≤ V.heap.size) (ho : V.ownsRow W.heap.size 46 2 v F.length ys) (hf : Frs (fun g => W.heap.size ≤ g ∧ some g ≠ v.ownBlock) V ys F) :
    FeedsM w V c al va vg v L F xs ys where
  le := h.le
  lt := Nat.lt_of_lt_of_le h.lt hl
  ownA := own_same h.ownA fun g e => hK.rest g (h.ownA.lt g e).2 (fun e' => h.ca (by rw [e, e']))
  ownG := own_same h.ownG fun g e => hK.rest g (h.ownG.lt g e).2 (fun e' => h.cg (by rw [e, e']))
  ownV := own_monoE ho h.low.size
  ca := h.ca
  cg := h.cg
  ag := h.ag
  av := fun k e e' => by
    have h1 := (h.ownA.lt k e).2
    have h2 := (ho.lt k e').1
    omega
  frsL := h.frsL.kept fun g h1 h2 => hK.rest g h2 h1.1
  frsF := hf.mono fun g h1 _ => ⟨by have := h.lt; omega, fun e => by have := (h.ownA.lt g e.symm).2; omega, fun e => by have := (h.ownG.lt g e.symm).2; omega⟩
  low := h.low.trans (hK.low.mono h.le)
/-- All bytes go on. -/
theorem FeedsM.bytes (h : FeedsM w W c al va vg v L F xs ys) {va' : Value} {q : List Int} (ho : V.ownsRow w.heap.size 5 1 va' (al.length + q.length) (al.map (Value.int .u8) ++ q.map (Value.int .u8))) (hg : W.grownBy V va.ownBlock) (hf : Fresh W va va') :
    FeedsM w V c (al ++ q) va' vg v L F xs ys where
  le := h.le
  lt := Nat.lt_of_lt_of_le h.lt hg.size
  ownA := by
    rw [List.length_append, List.map_append]
    exact ho
  ownG := own_same h.ownG fun g e => hg.block g (h.ownG.lt g e).2 (fun e' => h.ag g e'.symm e)
  ownV := own_same h.ownV fun g e => hg.block g (h.ownV.lt g e).2 (fun e' => h.av g e'.symm e)
  ca := fun e => by
    rcases hf c e.symm with e' | e'
    · exact h.ca e'
    · have := h.lt
      omega
  cg := h.cg
  ag := fun k e e' => by
    rcases hf k e with e2 | e2
    · exact h.ag k e2.symm e'
    · have := (h.ownG.lt k e').2
      omega
  av := fun k e e' => by
    rcases hf k e with e2 | e2
    · exact h.av k e2.symm e'
    · have := (h.ownV.lt k e').2
      omega
  frsL := (h.frsL.grow (fun g h1 _ => h1.2.1) hg hf).mono fun g h1 _ => ⟨h1.1.1, h1.2, h1.1.2.2⟩
  frsF := (h.frsF.grow (fun g h1 _ => h1.2.1) hg hf).mono fun g h1 _ => ⟨h1.1.1, h1.2, h1.1.2.2⟩
  low := h.low.grown hg h.low.size (fun k e => (h.ownA.lt k e).1)
/-- All frames go on. -/
theorem FeedsM.frames (h : FeedsM w W c al va vg v L F xs ys) {vg' : Value} (ho : V.ownsRow w.heap.size 50 2 vg' (L.length + F.length) (xs ++ ys)) (hg : W.grownBy V vg.ownBlock) (hf : Fresh W vg vg') :
    FeedsM w V c al va vg' (.slice none 0 0) (L ++ F) [] (xs ++ ys) [] where
  le := h.le
  lt := Nat.lt_of_lt_of_le h.lt hg.size
  ownA := own_same h.ownA fun g e => hg.block g (h.ownA.lt g e).2 (fun e' => h.ag g e e'.symm)
  ownG := by
    rw [List.length_append]
    exact ho
  ownV := World.ownsRow_nil _ _ _ _
  ca := h.ca
  cg := fun e => by
    rcases hf c e.symm with e' | e'
    · exact h.cg e'
    · have := h.lt
      omega
  ag := fun k e e' => by
    rcases hf k e' with e2 | e2
    · exact h.ag k e e2.symm
    · have := (h.ownA.lt k e).2
      omega
  av := fun k e e' => by cases e'
  frsL := ((Frs.app h.frsL h.frsF).grow (fun g h1 _ => h1.2.2) hg hf).mono fun g h1 _ => ⟨h1.1.1, h1.1.2.1, h1.2⟩
  frsF := trivial
  low := h.low.grown hg h.low.size (fun k e => (h.ownG.lt k e).1)
theorem FeedsM.row (h : FeedsM w W c al va vg v L F xs ys) : ∃ ad cap, va = .slice ad al.length cap ∧ al.length ≤ cap ∧ RowA (fun _ => True) W ad al := by
  obtain ⟨_, ad, cap, h1, h2, h3⟩ := own_bys h.ownA
  exact ⟨ad, cap, h1, h2, Bys.rowA h3 fun _ _ => trivial⟩
theorem FeedsM.first (W : World) (hle : w.heap.size ≤ c) (hlt : c < W.heap.size) (hl : Below w.heap.size w W) : FeedsM w ((W.alloc (.cells #[] 5)).alloc (.cells #[] 50)) c [] (.slice (some ⟨W.heap.size, 0, none⟩) 0 0) (.slice (some ⟨W.heap.size + 1, 0, none⟩) 0 0) (.slice none 0 0) [] [] [] [] := by
  have s1 : (W.alloc (.cells #[] 5)).heap.size = W.heap.size + 1 := by simp
  have hls := hl.size
  have b2 : Below (W.heap.size + 1) (W.alloc (.cells #[] 5)) ((W.alloc (.cells #[] 5)).alloc (.cells #[] 50)) := (Below.refl _ _).alloc (by omega) _
  have o1 : (W.alloc (.cells #[] 5)).ownsRow w.heap.size 5 1 (.slice (some ⟨W.heap.size, 0, none⟩) 0 0) 0 [] := ⟨rfl, .inr ⟨W.heap.size, 0, #[], rfl, hls, heap_alloc_last W _, Nat.le_refl _, Nat.zero_le _, rfl, rfl⟩⟩
  have o2 : ((W.alloc (.cells #[] 5)).alloc (.cells #[] 50)).ownsRow w.heap.size 50 2 (.slice (some ⟨W.heap.size + 1, 0, none⟩) 0 0) 0 [] := by
    refine ⟨rfl, .inr ⟨W.heap.size + 1, 0, #[], rfl, by omega, ?_, Nat.le_refl _, Nat.zero_le _, rfl, rfl⟩⟩
    rw [← s1]
    exact heap_alloc_last _ _
  exact {
    le := hle
    lt := by simp; omega
    ownA := own_same o1 fun g e => b2.block g (by have := (o1.lt g e).2; omega)
    ownG := o2
    ownV := World.ownsRow_nil _ _ _ _
    ca := fun e => by
      have : c = W.heap.size := Option.some.inj e
      omega
    cg := fun e => by
      have : c = W.heap.size + 1 := Option.some.inj e
      omega
    ag := fun k e e' => by
      have h1 : W.heap.size = k := Option.some.inj e
      have h2 : W.heap.size + 1 = k := Option.some.inj e'
      omega
    av := fun k e e' => by cases e'
    frsL := trivial
    frsF := trivial
    low := (hl.alloc hls _).alloc (by simp; omega) _ }
end
end Go.Proofs.YtkpjdjenlmodnaaDoor
