/-
  Feed: what holds at each label; told and breaks.
-/
import Derived.Test.YtkpjdjenlmodnaaDoorEfd0
namespace Go.Proofs.YtkpjdjenlmodnaaDoor
open Go.RowKit Go.Lib

/-- The frame's slots: the stream, what is still to be taken, the frames, the error; whatever else. -/
def SlotsA (a : Act) (c : Nat) (s v e : Value) : Prop := a.defers = [] ∧ a.tmps.size = 74 ∧ a.tmps.getD 0 undef = .pointer (some ⟨c, 0, none⟩) ∧ a.tmps.getD 1 undef = s ∧ a.tmps.getD 6 undef = v ∧ a.tmps.getD 7 undef = e
theorem arr_range (t : Array Value) (n : Nat) (h : t.size = n) : t = ((List.range n).map (fun i => t.getD i undef)).toArray := by
  apply Array.ext
  · simp [h]
  · intro i h1 h2
    simp [Array.getD, h1]
theorem SlotsA.opens {a : Act} {c : Nat} {s v e : Value} (h : SlotsA a c s v e) : ∃ u : Nat → Value, a = { tmps := #[.pointer (some ⟨c, 0, none⟩), s, u 2, u 3, u 4, u 5, v, e, u 8, u 9, u 10, u 11, u 12, u 13, u 14, u 15, u 16, u 17, u 18, u 19, u 20, u 21, u 22, u 23, u 24, u 25, u 26, u 27, u 28, u 29, u 30, u 31, u 32, u 33, u 34, u 35, u 36, u 37, u 38, u 39, u 40, u 41, u 42, u 43, u 44, u 45, u 46, u 47, u 48, u 49, u 50, u 51, u 52, u 53, u 54, u 55, u 56, u 57, u 58, u 59, u 60, u 61, u 62, u 63, u 64, u 65, u 66, u 67, u 68, u 69, u 70, u 71, u 72, u 73], defers := [] } := by
  obtain ⟨h1, h2, h3, h4, h5, h6⟩ := h
  obtain ⟨t, d⟩ := a
  refine ⟨fun i => t.getD i undef, ?_⟩
  have h7 := arr_range t 74 h2
  simp only at h1 h2 h3 h4 h5 h6
  have h8 : ∀ u : Nat → Value, ((List.range 74).map u).toArray = #[u 0, u 1, u 2, u 3, u 4, u 5, u 6, u 7, u 8, u 9, u 10, u 11, u 12, u 13, u 14, u 15, u 16, u 17, u 18, u 19, u 20, u 21, u 22, u 23, u 24, u 25, u 26, u 27, u 28, u 29, u 30, u 31, u 32, u 33, u 34, u 35, u 36, u 37, u 38, u 39, u 40, u 41, u 42, u 43, u 44, u 45, u 46, u 47, u 48, u 49, u 50, u 51, u 52, u 53, u 54, u 55, u 56, u 57, u 58, u 59, u 60, u 61, u 62, u 63, u 64, u 65, u 66, u 67, u 68, u 69, u 70, u 71, u 72, u 73] := fun u => rfl
  rw [h8 (fun i => t.getD i undef)] at h7
  simp only [h3, h4, h5, h6] at h7
  exact congr (congrArg Act.mk h7) h1

def errV (eF : Addr) (b : Bool) : Value := if b then .iface 82 (.pointer (some eF)) else .nilIface
/-- All is taken. -/
structure FeedT (w : World) (c cnt : Nat) (tot : List Int) (w' : World) (p : List Int) (v : Value) (F : List Fr) (xs : List Value) (b : Bool) : Prop where
  lt : c < w.heap.size
  few : cnt ≤ 1000000
  most : tot.length ≤ 1000000
  cuts : Cuts tot F p.length b
  rest : p = tot.drop (tot.length - p.length)
  str : Str w' c p cnt b
  own : w'.ownsRow w.heap.size 46 2 v F.length xs
  frs : Frs (fun g => w.heap.size ≤ g ∧ some g ≠ v.ownBlock) w' xs F
  keep : Keep c w w'
/-- It breaks. -/
structure FeedX (w : World) (c cnt : Nat) (tot : List Int) (w' : World) (v : Value) (F : List Fr) (xs : List Value) : Prop where
  lt : c < w.heap.size
  few : cnt ≤ 1000000
  most : tot.length ≤ 1000000
  cuts : Cuts tot F 0 true
  str : ∃ p, Str w' c p cnt false
  own : w'.ownsRow w.heap.size 46 2 v F.length xs
  frs : Frs (fun g => w.heap.size ≤ g ∧ some g ≠ v.ownBlock) w' xs F
  keep : Keep c w w'
/-- What Feed ends in. -/
def FeedEnd (w : World) (c cnt : Nat) (tot : List Int) (eF : Addr) (e : Ending) (w' : World) : Prop :=
  ∃ v p F xs b, e = .returned (.tuple #[v, errV eF b]) ∧ Cuts tot F p.length b ∧ p = tot.drop (tot.length - p.length) ∧ Str w' c p (cnt + F.length) b ∧ w'.ownsRow w.heap.size 46 2 v F.length xs ∧
    Frs (fun g => w.heap.size ≤ g ∧ some g ≠ v.ownBlock) w' xs F ∧ Keep c w w'

/-- What holds at the labels: body, head, told, breaks; n falls. -/
def FeedJ (w : World) (c cnt : Nat) (tot : List Int) (eF : Addr) (n l : Nat) (a : Act) (w' : World) : Prop :=
  (l = 0 ∧ ∃ p r ad cap v F xs, SlotsA a c (.slice ad r.length cap) v .nilIface ∧ FeedI w c cnt tot w' p r ad cap v F xs ∧ 2 ≤ p.length ∧ 1 ≤ hdN p ∧ hdN p ≤ 1200 ∧ p.length < 2 + hdN p ∧ n = 2 * (p.length + r.length) + 2) ∨
  (l = 1 ∧ ∃ p r ad cap v F xs, SlotsA a c (.slice ad r.length cap) v .nilIface ∧ FeedI w c cnt tot w' p r ad cap v F xs ∧ p.length < 2 ∧ n = 2 * (p.length + r.length) + 3) ∨
  (l = 2 ∧ ∃ p v F xs b s, SlotsA a c s v (errV eF b) ∧ FeedT w c cnt tot w' p v F xs b ∧ n = 0) ∨
  (l = 3 ∧ ∃ v F xs s, SlotsA a c s v .nilIface ∧ FeedX w c cnt tot w' v F xs ∧ n = 1)

/-- The code of Feed that holds the labels. -/
noncomputable def feedC : Code := match Tryd.f15.body with
  | some (.seq _ (.scope c)) => c
  | _ => .skip

section
variable {w W W' : World} {c cnt : Nat} {tot p r : List Int} {ad : Option Addr} {cap : Nat} {v : Value} {F : List Fr} {xs : List Value} {b : Bool} {eF : Addr}
/-- The count goes on. -/
theorem FeedT.ends (h : FeedT w c cnt tot W p v F xs b) : FeedEnd w c cnt tot eF (.returned (.tuple #[v, errV eF b])) (W.setCell ⟨c, 1203, none⟩ (.int .i64 ((cnt : Int) + (F.length : Int)))) := by
  have hS := Keep.set W c 1203 (.int .i64 ((cnt : Int) + (F.length : Int)))
  have hlt := h.lt
  exact ⟨v, p, F, xs, b, rfl, h.cuts, h.rest, h.str.counts (cnt + F.length), own_same h.own fun g e => hS.rest g (h.own.lt g e).2 (by have := (h.own.lt g e).1; omega), h.frs.kept fun g hg hl => hS.rest g hl (by have := hg.1; omega), h.keep.trans hS⟩
theorem FeedX.ends (h : FeedX w c cnt tot W v F xs) : FeedT w c cnt tot ((W.setCell ⟨c, 1204, none⟩ (.bool true)).setCell ⟨c, 1202, none⟩ (.int .i64 0)) [] v F xs true := by
  have hS := (Keep.set W c 1204 (.bool true)).trans (Keep.set _ c 1202 (.int .i64 0))
  have hlt := h.lt
  obtain ⟨p, hp⟩ := h.str
  exact ⟨h.lt, h.few, h.most, h.cuts, by simp, (hp.breaks true).waits [] (by simp) (fun j => by simp) (fun j hj => by simp at hj), own_same h.own fun g e => hS.rest g (h.own.lt g e).2 (by have := (h.own.lt g e).1; omega), h.frs.kept fun g hg hl => hS.rest g hl (by have := hg.1; omega), h.keep.trans hS⟩
/-- Nothing is left to be taken, and no frame is whole. -/
theorem FeedI.told (h : FeedI w c cnt tot W p r ad cap v F xs) {k : Nat} (hc : Cuts (p ++ r) [] (p ++ r).length false) (hs : Str W' c (p ++ r.take k) cnt false) (hk : k = r.length) (hK : Keep c W W') : FeedT w c cnt tot W' (p ++ r) v F xs false := by
  have hlt := h.lt
  obtain ⟨m, hm⟩ := h.suf
  have hl : (p ++ r).length = tot.length - m := by rw [hm, List.length_drop]
  refine ⟨h.lt, h.cfew, h.most, by simpa using h.inv _ _ _ hc, ?_, by rw [hk, List.take_length] at hs; exact hs, own_same h.own fun g e => hK.rest g (h.own.lt g e).2 (by have := (h.own.lt g e).1; omega), h.frs.kept fun g hg hl => hK.rest g hl (by have := hg.1; omega), h.keep.trans hK⟩
  rw [hl, hm]
  rcases Nat.lt_or_ge tot.length m with h' | h'
  · rw [List.drop_eq_nil_of_le (by omega), List.drop_eq_nil_of_le (by omega)]
  · congr 1
    omega
theorem FeedI.broken (h : FeedI w c cnt tot W p r ad cap v F xs) (hc : Cuts (p ++ r) [] 0 true) : FeedX w c cnt tot W v F xs :=
  ⟨h.lt, h.cfew, h.most, by simpa using h.inv _ _ _ hc, ⟨p, h.str⟩, h.own, h.frs, h.keep⟩

set_option linter.unusedSimpArgs false in
set_option maxRecDepth 100000 in
set_option maxHeartbeats 4000000 in
theorem feed_told (n : Nat) (a : Act) (w' : World) (hJ : FeedJ w c cnt tot eF n 2 a w') : ∃ X, findLabel feedC 2 = some (.seq .skip X) ∧ X.wp Tryd.prog (jumps (Low (FeedJ w c cnt tot eF) n) (bodyPost Tryd.prog Tryd.f15 (FeedEnd w c cnt tot eF))) a w' := by
  rcases hJ with ⟨h, _⟩ | ⟨h, _⟩ | ⟨_, hJ⟩ | ⟨h, _⟩
  · cases h
  · cases h
  · obtain ⟨p, v, F, xs, b, s, hA, hT, _⟩ := hJ
    obtain ⟨u, rfl⟩ := hA.opens
    have h1 := hT.str.cellN
    have h2 := hT.str.free 1203
    have h3 := hT.few
    have h4 : F.length ≤ 1000000 := by have := hT.cuts.few; have := hT.most; omega
    have HE := hid (hT.ends (eF := eF))
    obtain ⟨adF, capF, rfl⟩ : ∃ ad cap, v = .slice ad F.length cap := by
      rcases hT.own.2 with ⟨h', h0⟩ | ⟨g, cap, cur, h', _⟩
      · exact ⟨none, 0, by rw [h0]; exact h'⟩
      · exact ⟨_, _, h'⟩
    clear hT
    refine ⟨_, rfl, ?_⟩
    go_wp2
    simp only [jumps]
    go_ret2
    exact HE.out
  · cases h

set_option linter.unusedSimpArgs false in
set_option maxRecDepth 100000 in
set_option maxHeartbeats 4000000 in
theorem feed_breaks (hce : c ≠ 3) (hE : w.cell? ⟨3, 0, none⟩ = some (.iface 82 (.pointer (some eF)))) (n : Nat) (a : Act) (w' : World) (hJ : FeedJ w c cnt tot eF n 3 a w') : ∃ X, findLabel feedC 3 = some (.seq .skip X) ∧ X.wp Tryd.prog (jumps (Low (FeedJ w c cnt tot eF) n) (bodyPost Tryd.prog Tryd.f15 (FeedEnd w c cnt tot eF))) a w' := by
  rcases hJ with ⟨h, _⟩ | ⟨h, _⟩ | ⟨h, _⟩ | ⟨_, hJ⟩
  · cases h
  · cases h
  · cases h
  · obtain ⟨v, F, xs, s, hA, hX, hn⟩ := hJ
    subst hn
    obtain ⟨u, rfl⟩ := hA.opens
    have hc := hX.keep.cell hE (Ne.symm hce)
    obtain ⟨p, hp⟩ := hX.str
    have h1 := hp.cellW
    have h2 := hp.cellB
    have h3 := hp.free 1202
    have h4 := hp.free 1204
    have HE := hid hX.ends
    clear hX hp hE
    refine ⟨_, rfl, ?_⟩
    go_wp2
    refine wp_fallK (by assumption) (c := feedC) (n := 0) rfl (feed_told 0 _ _ (.inr (.inr (.inl ⟨rfl, [], v, F, xs, true, s, ?_, HE.out, rfl⟩)))) ?_
    · exact ⟨rfl, rfl, rfl, rfl, rfl, rfl⟩
    · rintro l a w ⟨n', h, _⟩
      omega
end
end Go.Proofs.YtkpjdjenlmodnaaDoor
