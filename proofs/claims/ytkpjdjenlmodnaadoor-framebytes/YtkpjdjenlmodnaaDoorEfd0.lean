/-
  What holds at the labels of Feed.
-/
import Derived.Test.YtkpjdjenlmodnaaDoorEwh
import Derived.Test.YtkpjdjenlmodnaaDoorEscp
import Derived.Test.YtkpjdjenlmodnaaDoorNerr
namespace Go.Proofs.YtkpjdjenlmodnaaDoor
open Go.RowKit Go.Lib

section
variable {w w1 w2 : World} {c : Nat}
theorem own_same {base : Nat} {e : TypeId} {size : Nat} {v : Value} {n : Nat} {xs : List Value} (h : w1.ownsRow base e size v n xs) (hs : ∀ g, v.ownBlock = some g → w2.heap[g]? = w1.heap[g]?) : w2.ownsRow base e size v n xs := by
  refine ⟨h.1, ?_⟩
  rcases h.2 with h' | ⟨g, cap, cur, rfl, h2, h3, h4⟩
  · exact .inl h'
  · exact .inr ⟨g, cap, cur, rfl, h2, by rw [hs g rfl]; exact h3, h4⟩
theorem Str.grown {p : List Int} {n : Nat} {b : Bool} {row : Option Nat} (h : Str w1 c p n b) (hg : w1.grownBy w2 row) (hne : some c ≠ row) : Str w2 c p n b := h.same (hg.block c h.lt hne)
theorem Keep.grown {row : Option Nat} (h : Keep c w w1) (hg : w1.grownBy w2 row) (hrow : ∀ k, row = some k → w.heap.size ≤ k) (hc : c ≤ w.heap.size) : Keep c w w2 := by
  refine ⟨⟨hg.os.trans h.low.os, hg.tape.trans h.low.tape, hg.output.trans h.low.output, Nat.le_trans h.low.size hg.size, fun i hi => ?_⟩, fun g hgl hne => ?_⟩
  · have := h.low.size
    exact (hg.block i (by omega) (fun e => by have := hrow i e.symm; omega)).trans (h.low.block i hi)
  · have := h.rest g hgl hne
    have hl : g < w1.heap.size := by
      rcases Nat.lt_or_ge g w1.heap.size with h' | h'
      · exact h'
      · rw [Array.getElem?_eq_none h', Array.getElem?_eq_getElem hgl] at this
        cases this
    exact (hg.block g hl (fun e => by have := hrow g e.symm; omega)).trans this
end

/-- A head is there, and what it tells is not: a frame of p and some of r. -/
theorem wait_cuts {p r : List Int} (h : 2 ≤ p.length) (h1 : 1 ≤ hdN p) (h2 : hdN p ≤ 1200) (h3 : p.length + r.length < 2 + hdN p) : Cuts (p ++ r) [] (p ++ r).length false :=
  .wait (by rw [List.length_append]; omega) (by rw [hdN_app h]; exact h1) (by rw [hdN_app h]; exact h2) (by rw [List.length_append, hdN_app h]; omega)
theorem whole_cuts {p r : List Int} {k : Nat} {F : List Fr} {n : Nat} {b : Bool} (h : 2 ≤ p.length) (h1 : 1 ≤ hdN p) (h2 : hdN p ≤ 1200) (hk : p.length + k = 2 + hdN p) (hr : k ≤ r.length) (hc : Cuts (r.drop k) F n b) :
    Cuts (p ++ r) (frm (p ++ r.take k) :: F) n b := by
  have e1 : p ++ r = (p ++ r.take k) ++ r.drop k := by rw [List.append_assoc, List.take_append_drop]
  have hl : (p ++ r.take k).length = 2 + hdN p := by rw [List.length_append, List.length_take]; omega
  have hd : hdN (p ++ r.take k) = hdN p := hdN_app h
  have hf : frm (p ++ r) = frm (p ++ r.take k) := by rw [e1]; exact frm_app (by omega) (by omega) (by omega)
  have hd2 : hdN (p ++ r) = hdN p := hdN_app h
  have := Cuts.whole (bs := p ++ r) (F := F) (n := n) (b := b) (by rw [List.length_append]; omega) (by omega) (by omega) (by rw [List.length_append]; omega)
    (by rw [hd2, e1, ← hl, List.drop_left]; exact hc)
  rw [hf] at this
  exact this

/-- What holds of all that came: p waits, r is still to be taken, F are told. -/
structure FeedI (w : World) (c cnt : Nat) (tot : List Int) (w' : World) (p r : List Int) (ad : Option Addr) (cap : Nat) (v : Value) (F : List Fr) (xs : List Value) : Prop where
  lt : c < w.heap.size
  cfew : cnt ≤ 1000000
  str : Str w' c p cnt false
  row : RowA (fun g => g ≠ c ∧ g < w.heap.size) w' ad r
  room : r.length ≤ cap
  nil : ad = none → cap = 0
  byte : Byt r
  most : tot.length ≤ 1000000
  own : w'.ownsRow w.heap.size 46 2 v F.length xs
  frs : Frs (fun g => w.heap.size ≤ g ∧ some g ≠ v.ownBlock) w' xs F
  keep : Keep c w w'
  inv : ∀ F' n b, Cuts (p ++ r) F' n b → Cuts tot (F ++ F') n b
  suf : ∃ k, p ++ r = tot.drop k

section
variable {w W W' : World} {c cnt : Nat} {tot p r : List Int} {ad : Option Addr} {cap : Nat} {v : Value} {F : List Fr} {xs : List Value}
theorem FeedI.len (h : FeedI w c cnt tot W p r ad cap v F xs) : p.length + r.length ≤ tot.length := by
  obtain ⟨k, hk⟩ := h.suf
  rw [← List.length_append, hk, List.length_drop]
  omega
theorem FeedI.few (h : FeedI w c cnt tot W p r ad cap v F xs) : F.length * 3 ≤ tot.length := by
  obtain ⟨F', n, b, hc⟩ := Cuts.some (p ++ r)
  have := (h.inv _ _ _ hc).few
  rw [List.length_append] at this
  omega
theorem FeedI.below (h : FeedI w c cnt tot W p r ad cap v F xs) (hb : Below W.heap.size W W') : FeedI w c cnt tot W' p r ad cap v F xs where
  lt := h.lt
  cfew := h.cfew
  str := h.str.kept hb
  row := h.row.kept fun g _ hg => hb.block g hg
  room := h.room
  nil := h.nil
  byte := h.byte
  most := h.most
  own := own_same h.own fun g e => hb.block g (h.own.lt g e).2
  frs := h.frs.below hb
  keep := h.keep.trans (Keep.of hb (Nat.le_trans (Nat.le_of_lt h.lt) h.keep.low.size))
  inv := h.inv
  suf := h.suf
theorem FeedI.took (h : FeedI w c cnt tot W p r ad cap v F xs) {k : Nat} {ad' : Option Addr} (hk : k ≤ r.length) (hs : Str W' c (p ++ r.take k) cnt false) (hr : ∀ A, RowA A W' ad r → RowA A W' ad' (r.drop k)) (hn : ad' = none → ad = none) (hK : Keep c W W') :
    FeedI w c cnt tot W' (p ++ r.take k) (r.drop k) ad' (cap - k) v F xs where
  lt := h.lt
  cfew := h.cfew
  str := hs
  row := hr _ (h.row.kept fun g hg hl => hK.rest g hl hg.1)
  room := by have := h.room; rw [List.length_drop]; omega
  nil := fun e => by have := h.nil (hn e); omega
  byte := fun j => by have := h.byte (k + j); simpa [List.getD, List.getElem?_drop] using this
  most := h.most
  own := own_same h.own fun g e => hK.rest g (h.own.lt g e).2 (by have := (h.own.lt g e).1; have := h.lt; omega)
  frs := h.frs.kept fun g hg hl => hK.rest g hl (by have := hg.1; have := h.lt; omega)
  keep := h.keep.trans hK
  inv := fun F' n b hc => h.inv F' n b (by rw [List.append_assoc, List.take_append_drop] at hc; exact hc)
  suf := by rw [List.append_assoc, List.take_append_drop]; exact h.suf
/-- One frame more. -/
theorem FeedI.more (h : FeedI w c cnt tot W p r ad cap v F xs) {B : Nat} {f : Fr} {vf v' : Value} (hB : ∀ g, v.ownBlock = some g → g < B) (hw : w.heap.size ≤ B) (hv : BodyA (fun g => B ≤ g) W vf f.2)
    (ho : W'.ownsRow w.heap.size 46 2 v' (F.length + 1) (xs ++ [.int .i64 f.1, vf])) (hg : W.grownBy W' v.ownBlock) (hf : Fresh W v v') (hinv : ∀ F' n b, Cuts r F' n b → Cuts tot (F ++ f :: F') n b) (hsuf : ∃ k, r = tot.drop k) :
    FeedI w c cnt tot (W'.setCell ⟨c, 1202, none⟩ (.int .i64 0)) [] r ad cap v' (F ++ [f]) (xs ++ [.int .i64 f.1, vf]) := by
  have hlt := h.lt
  have hvb : ∀ k, v.ownBlock = some k → w.heap.size ≤ k := fun k e => (h.own.lt k e).1
  have hcv : some c ≠ v.ownBlock := fun e => by have := hvb c e.symm; omega
  have hS := (Keep.set W' c 1202 (.int .i64 0))
  have hfr : Frs (fun g => (w.heap.size ≤ g ∧ some g ≠ v.ownBlock) ∧ g < W.heap.size) W (xs ++ [.int .i64 f.1, vf]) (F ++ [f]) := by
    refine Frs.app (h.frs.mono fun g hg hl => ⟨hg, hl⟩) ⟨rfl, hv.mono fun g hg hl => ⟨⟨by omega, fun e => ?_⟩, hl⟩, trivial⟩
    have := hB g e.symm
    omega
  have hfr2 := (hfr.kept (w' := W') fun g hg' hl => hg.block g hl hg'.1.2).kept (w' := W'.setCell ⟨c, 1202, none⟩ (.int .i64 0)) fun g hg hl => hS.rest g hl (by have := hg.1.1; omega)
  have hstr : Str (W'.setCell ⟨c, 1202, none⟩ (.int .i64 0)) c [] cnt false := (h.str.grown hg hcv).waits [] (by simp) (fun j => by simp) (fun j hj => by simp at hj)
  exact {
    lt := h.lt
    cfew := h.cfew
    str := hstr
    row := (h.row.kept (w' := W') fun g hg' hl => hg.block g hl (fun e => by have := hvb g e.symm; omega)).kept fun g hg' hl => hS.rest g hl hg'.1
    room := h.room
    nil := h.nil
    byte := h.byte
    most := h.most
    own := by
      rw [List.length_append]
      exact own_same ho fun g e => hS.rest g (ho.lt g e).2 (by have := (ho.lt g e).1; omega)
    frs := hfr2.mono fun g hg' hl => ⟨hg'.1.1, fun e => by
      rcases hf g e.symm with e' | e'
      · exact hg'.1.2 e'
      · omega⟩
    keep := (h.keep.grown hg hvb (Nat.le_of_lt hlt)).trans hS
    inv := fun F' n b hc => by
      rw [List.append_assoc]
      exact hinv F' n b hc
    suf := hsuf }
end
end Go.Proofs.YtkpjdjenlmodnaaDoor
