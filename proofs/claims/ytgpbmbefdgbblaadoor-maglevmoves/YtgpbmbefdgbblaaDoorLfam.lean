/-
  A family of takers in memory.
-/
import Derived.Test.YtgpbmbefdgbblaaDoorLrep
namespace Go.Proofs.YtgpbmbefdgbblaaDoor
open Go.RowKit Go.Lib

/-- Place number j of backend i. -/
def ordL (M : Nat) (bs : List PS) (i j : Nat) : Nat := ordP M bs[i]! j
theorem ordL_onto (M : Nat) (hM : sizedB (M : Int) = true) (bs : List PS) : Onto (ordL M bs) bs.length M := fun _ _ =>
  ⟨fun j => ordP_lt M hM _ j, fun p hp => ordP_onto M hM _ p hp⟩

structure Fam (W : World) (lo : Nat → Nat) (S T M : Nat) (bs : List PS) (fs : List Value) (ds : Nat → Nat) : Prop where
  mono : ∀ i j, i ≤ j → j ≤ fs.length → lo i ≤ lo j
  base : S < lo 0 ∧ T < lo 0
  top : lo fs.length ≤ W.heap.size
  each : ∀ i (h : i < fs.length), TakeAt W fs[i] (lo i) (lo (i + 1)) S M bs[i]! i (ds i)

theorem TakeAt.wider {W : World} {f : Value} {lo lo' hi S M : Nat} {x : PS} {who d : Nat} (h : TakeAt W f lo hi S M x who d) (hl : lo' ≤ lo) : TakeAt W f lo' hi S M x who d := by
  obtain ⟨p, q, r, c, b, e, ⟨l1, l2, l3, l4, l5⟩, h2, h3⟩ := h
  exact ⟨p, q, r, c, b, e, ⟨by omega, by omega, by omega, by omega, by omega⟩, h2, h3⟩

theorem Fam.start (W : World) (S T M : Nat) (bs : List PS) (hS : S < W.heap.size) (hT : T < W.heap.size) : Fam W (fun _ => W.heap.size) S T M bs [] (fun _ => 0) :=
  ⟨fun _ _ _ _ => Nat.le_refl _, ⟨hS, hT⟩, Nat.le_refl _, fun i h => by simp at h⟩

/-- What lies below the family's end stays. -/
theorem Fam.kept {W W' : World} {lo : Nat → Nat} {S T M : Nat} {bs : List PS} {fs : List Value} {ds : Nat → Nat} (h : Fam W lo S T M bs fs ds) (hb : Below W.heap.size W W') : Fam W' lo S T M bs fs ds :=
  ⟨h.mono, h.base, Nat.le_trans h.top hb.size, fun i hi => (h.each i hi).same fun g _ hg => hb.block g (Nat.lt_of_lt_of_le hg (Nat.le_trans (h.mono (i + 1) fs.length hi (Nat.le_refl _)) h.top))⟩
theorem Fam.setCell {W : World} {lo : Nat → Nat} {S T M : Nat} {bs : List PS} {fs : List Value} {ds : Nat → Nat} (h : Fam W lo S T M bs fs ds) (i : Nat) (v : Value) : Fam (W.setCell ⟨T, i, none⟩ v) lo S T M bs fs ds :=
  ⟨h.mono, h.base, by have := h.top; simpa [World.setCell] using this, fun j hj => (h.each j hj).same fun g hg _ => Below.heap_setCell W _ v g (by
    have := h.mono 0 j (Nat.zero_le _) (Nat.le_of_lt hj)
    have := h.base.2
    show g ≠ T
    omega)⟩

theorem Fam.add {W W' : World} {lo : Nat → Nat} {S T M : Nat} {bs : List PS} {fs : List Value} {f : Value} (h : Fam W lo S T M bs fs (fun _ => 0)) (hb : Below W.heap.size W W') (hf : TakeAt W' f W.heap.size W'.heap.size S M bs[fs.length]! fs.length 0) :
    Fam W' (fun j => if j ≤ fs.length then lo j else W'.heap.size) S T M bs (fs ++ [f]) (fun _ => 0) where
  mono := fun i j hij hj => by
    rw [List.length_append] at hj
    simp only [List.length_cons, List.length_nil] at hj
    by_cases h1 : j ≤ fs.length
    · rw [if_pos h1, if_pos (by omega)]
      exact h.mono i j hij h1
    · rw [if_neg h1]
      by_cases h2 : i ≤ fs.length
      · rw [if_pos h2]
        exact Nat.le_trans (h.mono i fs.length h2 (Nat.le_refl _)) (Nat.le_trans h.top hb.size)
      · rw [if_neg h2]
        exact Nat.le_refl _
  base := by rw [if_pos (Nat.zero_le _)]; exact h.base
  top := by
    rw [List.length_append, List.length_cons, List.length_nil, if_neg (by omega)]
    exact Nat.le_refl _
  each := fun i hi => by
    rw [List.length_append] at hi
    simp only [List.length_cons, List.length_nil] at hi
    by_cases h1 : i < fs.length
    · rw [List.getElem_append_left h1, if_pos (by omega), if_pos (by omega)]
      exact (h.kept hb).each i h1
    · obtain rfl : i = fs.length := by omega
      rw [List.getElem_append_right (Nat.le_refl _), if_pos (Nat.le_refl _), if_neg (by omega)]
      simp only [Nat.sub_self, List.getElem_cons_zero]
      exact hf.wider h.top

/-- One takes: the others stay. -/
theorem Fam.take {W W' : World} {lo : Nat → Nat} {S T M : Nat} {bs : List PS} {fs : List Value} {ds : Nat → Nat} (h : Fam W lo S T M bs fs ds) {who : Nat} (hw : who < fs.length) {p q r c b : Nat}
    (e : fs[who] = .func (.func 46) #[] #[.pointer (some ⟨p, 0, none⟩), .pointer (some ⟨q, 0, none⟩), .pointer (some ⟨r, 0, none⟩)])
    (hl : lo who ≤ p ∧ lo who ≤ q ∧ lo who ≤ r ∧ lo who ≤ c ∧ lo who ≤ b) (hh : p < lo (who + 1) ∧ q < lo (who + 1) ∧ r < lo (who + 1) ∧ c < lo (who + 1) ∧ b < lo (who + 1)) (hn : p ≠ c ∧ q ≠ c ∧ r ≠ c)
    (kp : Blk W p 79 #[.pointer (some ⟨c, 0, none⟩)]) (kq : Blk W q 24 #[.slice (some ⟨S, 0, none⟩) M M]) (kr : Blk W r 3 #[.int .i64 who])
    (J : Nat) (hC : CurYes W' c b M (oOf M bs[who]!) (kOf M bs[who]!) (J + 1 : Nat)) (hT : Two W W' c S) : Fam W' lo S T M bs fs (fun i => if i = who then J + 1 else ds i) where
  mono := h.mono
  base := h.base
  top := Nat.le_trans h.top hT.size
  each := fun i hi => by
    have hsz : ∀ g, g < lo (i + 1) → g < W.heap.size := fun g hg => Nat.lt_of_lt_of_le hg (Nat.le_trans (h.mono (i + 1) fs.length hi (Nat.le_refl _)) h.top)
    have h0 := h.mono 0 i (Nat.zero_le _) (Nat.le_of_lt hi)
    have hb := h.base
    by_cases hi2 : i = who
    · subst hi2
      rw [if_pos rfl]
      have s : ∀ g, lo i ≤ g → g < lo (i + 1) → g ≠ c → W'.heap[g]? = W.heap[g]? := fun g h1 h2 h3 => hT.block g (hsz g h2) h3 (by omega)
      exact ⟨p, q, r, c, b, e, hl, hh, hn, blk_same kp (s p hl.1 hh.1 hn.1), blk_same kq (s q hl.2.1 hh.2.1 hn.2.1), blk_same kr (s r hl.2.2.1 hh.2.2.1 hn.2.2), hC⟩
    · rw [if_neg hi2]
      refine (h.each i hi).same fun g h1 h2 => hT.block g (hsz g h2) ?_ (by omega)
      rcases Nat.lt_or_ge i who with h3 | h3
      · have := h.mono (i + 1) who h3 (Nat.le_of_lt hw)
        omega
      · have := h.mono (who + 1) i (by omega) (Nat.le_of_lt hi)
        omega

/-- The functions in their row. -/
def FunR (W : World) (T n : Nat) (fs : List Value) : Prop := W.rowIs T 1 n (fun j => fs.getD j .nilFunc)
theorem Tryd.infoFn : (Tryd.prog.info? 1).map (fun i => (i.zero, i.size, i.bytes)) = some (some .nilFunc, 1, 8) := by kernel_rfl
theorem FunR.push {W : World} {T n : Nat} {fs : List Value} (h : FunR W T n fs) (f : Value) : FunR (W.setCell ⟨T, fs.length, none⟩ f) T n (fs ++ [f]) :=
  (World.rowIs.set h fs.length f).congr fun j _ => by
    rw [List.getD_eq_getElem?_getD, List.getD_eq_getElem?_getD]
    by_cases h1 : j = fs.length
    · subst h1; simp
    · by_cases h2 : j < fs.length
      · simp [h1, List.getElem?_append_left h2]
      · rw [List.getElem?_eq_none (by omega), List.getElem?_eq_none (by simp; omega)]
        simp [h1]
theorem FunR.kept {W W' : World} {T n : Nat} {fs : List Value} (h : FunR W T n fs) (hs : W'.heap[T]? = W.heap[T]?) : FunR W' T n fs := World.rowIs.of_block h hs
end Go.Proofs.YtgpbmbefdgbblaaDoor
