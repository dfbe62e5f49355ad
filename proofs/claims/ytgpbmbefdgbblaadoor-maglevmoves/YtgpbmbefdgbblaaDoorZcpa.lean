/-
  A row of points of one's own, written in place: what slices.Compact leaves. No program.
-/
import Derived.Test.YtgpbmbefdgbblaaDoorZord
import Derived.Test.YtgpbmbefdgbblaaDoorZsw
import Derived.Lib.SlicesCompact
namespace Go.Proofs.YtgpbmbefdgbblaaDoor
open Go.RowKit Go.Shelf Go.Lib Go.Sort

structure RowAt (base blk cap : Nat) (w wr : World) (dk : Array PS) : Prop where
  shape : ∃ cur, wr.heap[blk]? = some (.cells cur 36 (0, 0)) ∧ cur.size = cap * 18
  elems : ∀ j, j < dk.size → wr.rangeAt blk (j * 18) (encPL dk[j]!)
  bel : Below base w wr

theorem setCells_shape (b : Nat) : ∀ (vs : List Value) (o : Nat) (w : World) (cur : Array Value) (e : TypeId) (f : Nat × Nat), w.heap[b]? = some (.cells cur e f) → ∃ cur', (w.setCells b o vs).heap[b]? = some (.cells cur' e f) ∧ cur'.size = cur.size
  | [], _, _, cur, _, _, h => ⟨cur, h, rfl⟩
  | v :: r, o, w, cur, e, f, h => by
    have h1 : (w.setCell ⟨b, o, none⟩ v).heap[b]? = some (.cells (cur.setIfInBounds o v) e f) := by
      unfold World.setCell
      show (w.heap.modify b _)[b]? = _
      rw [Array.getElem?_modify, if_pos rfl, h]
      rfl
    obtain ⟨cur', k1, k2⟩ := setCells_shape b r (o + 1) _ _ e f h1
    exact ⟨cur', k1, k2.trans (by simp)⟩
theorem setCells_below (base b : Nat) (hb : base ≤ b) : ∀ (vs : List Value) (o : Nat) (w : World), Below base w (w.setCells b o vs)
  | [], _, _ => Below.refl _ _
  | v :: r, o, w => ((Below.refl base w).setCell (p := ⟨b, o, none⟩) hb v).trans (setCells_below base b hb r (o + 1) _)

theorem RowAt.there {base blk cap : Nat} {w wr : World} {dk : Array PS} (h : RowAt base blk cap w wr dk) {o n : Nat} (ho : o + n ≤ cap * 18) : wr.there blk o n := fun j hj => by
  obtain ⟨cur, k1, k2⟩ := h.shape
  constructor
  · unfold World.cell?
    rw [k1]
    have : o + j < cur.size := by omega
    simp [this]
  · unfold World.frozen?
    rw [k1]
    simp
theorem RowAt.drew {base blk cap : Nat} {w wr : World} {dk : Array PS} (h : RowAt base blk cap w wr dk) : RowAt base blk cap w wr.drew dk := ⟨h.shape, h.elems, h.bel.drew⟩

theorem RowAt.set {base blk cap : Nat} {w wr : World} {dk : Array PS} (h : RowAt base blk cap w wr dk) (hb : base ≤ blk) {i : Nat} (hi : i < dk.size) (hc : dk.size ≤ cap) (u : PS) : RowAt base blk cap w (wr.setCells blk (i * 18) (encPL u)) (dk.setIfInBounds i u) where
  shape := by
    obtain ⟨cur, k1, k2⟩ := h.shape
    obtain ⟨cur', k3, k4⟩ := setCells_shape blk (encPL u) (i * 18) wr cur _ _ k1
    exact ⟨cur', k3, k4.trans k2⟩
  elems := fun j hj => by
    have hj' : j < dk.size := by simpa using hj
    by_cases e : j = i
    · subst e
      rw [getElem!_set_same dk j u hi]
      exact World.rangeAt_setCells_same wr blk (j * 18) (encPL u) (h.there (by rw [encPL_length]; omega))
    · rw [getElem!_set_other dk i j u e]
      exact World.rangeAt_setCells_apart (h.elems j hj') blk (i * 18) (encPL u) (by rw [encPL_length, encPL_length]; omega)
  bel := h.bel.trans (setCells_below base blk hb _ _ _)

/-- What lies behind place n is written: the first n stay. -/
theorem RowAt.cut {base blk cap : Nat} {w wr : World} {dk : Array PS} (h : RowAt base blk cap w wr dk) (hb : base ≤ blk) {n : Nat} (hn : n ≤ dk.size) (vs : List Value) : RowAt base blk cap w (wr.setCells blk (n * 18) vs) (dk.extract 0 n) where
  shape := by
    obtain ⟨cur, k1, k2⟩ := h.shape
    obtain ⟨cur', k3, k4⟩ := setCells_shape blk vs (n * 18) wr cur _ _ k1
    exact ⟨cur', k3, k4.trans k2⟩
  elems := fun j hj => by
    have hj' : j < n := by simp at hj; omega
    have e : (dk.extract 0 n)[j]! = dk[j]! := by
      rw [getElem!_pos _ j hj, getElem!_pos dk j (by omega)]
      simp
    rw [e]
    exact World.rangeAt_setCells_apart (h.elems j (by omega)) blk (n * 18) vs (by rw [encPL_length]; omega)
  bel := h.bel.trans (setCells_below base blk hb _ _ _)

/-- Out of a row of one's own. -/
theorem rowAt_of {base blk cap : Nat} {w : World} {cur : Array Value} {xs : List PS} (hblk : w.heap[blk]? = some (.cells cur 36 (0, 0))) (hcs : cur.size = cap * 18) (htk : cur.toList.take (xs.length * 18) = flatY encP xs) : RowAt base blk cap w w xs.toArray where
  shape := ⟨cur, hblk, hcs⟩
  elems := fun j hj i v hv => by
    have hi : i < 18 := by have h := (List.getElem?_eq_some_iff.1 hv).1; rwa [encPL_length] at h
    have := (holds_own 18 encPL_length encP_list w blk _ cur xs hblk htk).cell hj hi
    rw [Nat.zero_add] at this
    rw [this.1]
    congr 1
    obtain ⟨h1, h2⟩ := List.getElem?_eq_some_iff.1 hv
    rw [getElem!_pos _ i h1, h2]
  bel := Below.refl _ _

/-- .. and back. -/
theorem RowAt.own {base blk cap : Nat} {w wr : World} {dk : Array PS} (h : RowAt base blk cap w wr dk) (hb : base ≤ blk) (hc : dk.size ≤ cap) (hm : cap ≤ maxLen) : wr.ownsRow base 36 18 (.slice (some ⟨blk, 0, none⟩) dk.size cap) dk.toList.length (flatY encP dk.toList) := by
  have hl : (flatY encP dk.toList).length = dk.toList.length * 18 := flat_length 18 encP_size _
  refine ⟨hl, .inr ?_⟩
  obtain ⟨cur, k1, k2⟩ := h.shape
  refine ⟨blk, cap, cur, rfl, hb, k1, hc, hm, k2, ?_⟩
  apply List.ext_getElem?
  intro t
  have hl' : (flatY encP dk.toList).length = dk.size * 18 := hl
  by_cases ht : t < dk.size * 18
  · have h1 := flat_get 18 encPL_length encP_list dk.toList t ht
    have h2 : t < (flatY encP dk.toList).length := by omega
    rw [getElem!_pos _ t h2] at h1
    rw [List.getElem?_take_of_lt (show t < dk.toList.length * 18 from ht), List.getElem?_eq_getElem h2, h1]
    have h3 : t / 18 < dk.size := by omega
    have h4 := h.elems (t / 18) h3 (t % 18) ((encPL dk[t / 18]!)[t % 18]!) (by
      have : t % 18 < (encPL dk[t / 18]!).length := by rw [encPL_length]; omega
      rw [getElem!_pos (encPL dk[t / 18]!) (t % 18) this, List.getElem?_eq_getElem this])
    rw [show t / 18 * 18 + t % 18 = t by omega] at h4
    unfold World.cell? at h4
    rw [k1] at h4
    have e : dk.toList[t / 18]! = dk[t / 18]! := by rw [Array.getElem!_toList]
    rw [e, Array.getElem?_toList]
    simpa using h4
  · rw [List.getElem?_eq_none (by rw [List.length_take]; show _ ≤ t; have : dk.toList.length = dk.size := rfl; omega), List.getElem?_eq_none (by omega)]

/-- What Compact keeps, out of its second loop's end. -/
theorem comp_done {d dk : Array PS} {k : Nat} (h : CompInv d d.size k dk) : (dk.extract 0 k).toList = compactUpTo d d.size := by
  apply List.ext_getElem?
  intro j
  have hs := h.size
  have hk := h.lt
  by_cases hj : j < k
  · rw [h.low j hj, Array.getElem?_toList, Array.getElem?_extract, if_pos (by omega), Nat.zero_add, Array.getElem?_eq_getElem (by omega), getElem!_pos dk j (by omega)]
  · rw [List.getElem?_eq_none (by simp; omega), List.getElem?_eq_none (by rw [h.len]; omega)]
end Go.Proofs.YtgpbmbefdgbblaaDoor
