/-
  slices.SortFunc and slices.SortedFunc of points with ports.Compare.
-/
import Derived.Test.YtgpbmbefdgbblaaDoorZord
import Derived.Test.YtgpbmbefdgbblaaDoorZgrw
import Derived.Shelf.Lay
import Derived.Ground.SlsfProg
namespace Go.Proofs
open Go.Shelf Go.RowKit Go.Lib Go.Sort
shelf_lay_g SlLaysF0.n6 Slsf 6 at Tryd 37 as Tryd.sortP
end Go.Proofs
namespace Go.Proofs.YtgpbmbefdgbblaaDoor
open Go.Shelf Go.RowKit Go.Lib Go.Sort

theorem cmp_lays (blk off size : Nat) (w : World) : CmpLays Tryd.prog 29 #[] encPL 18 cmpQ blk off size w := fun _ _ _ _ x y => by
  have h := fun W => pcmp_grw x.1.1 y.1.1 x.1.2.1 y.1.2.1 x.2.1 y.2.1 x.2.2 y.2.2 x.1.2.2 y.1.2.2 W
  simp only [encPL, encP, Array.toArray_toList]
  refine (h _).mono ?_
  rintro e w' ⟨he, hg⟩
  exact ⟨he, hg.grown⟩

theorem sort_own (base : Nat) (v : Value) (xs : List PS) (hm : xs.length ≤ 100000) (w : World) (ho : w.ownsRow base 36 18 v xs.length (flatY encP xs)) :
    Calls Tryd.prog 37 #[v, .func (.func 29) #[] #[]] w fun e w' =>
      e = .returned (.tuple #[]) ∧ w'.ownsRow base 36 18 v xs.length (flatY encP (psort xs)) ∧ Below base w w' := by
  have eg : ∀ args w, (callFunc 29 args).run Tryd.prog w = .ok (.enter 29 args) w := enters_of Tryd.func29 (by kernel_rfl) rfl
  obtain ⟨hl, h⟩ := ho
  have hl' : (flatY encP (psort xs)).length = xs.length * 18 := (flat_length 18 encP_size _).trans (by rw [psort_length])
  rcases h with ⟨rfl, h0⟩ | ⟨g, cap, cur, rfl, hg, hblk, hn, hcap, hcs, htk⟩
  · have hx : xs = [] := List.length_eq_zero_iff.1 h0
    subst hx
    refine (AnyF.slices_SortFunc_none Tryd.sortP none 0 _ w).mono ?_
    rintro e w' ⟨rfl, rfl⟩
    exact ⟨rfl, ⟨hl', .inl ⟨rfl, rfl⟩⟩, Below.refl _ _⟩
  · have hz : g < w.heap.size := by
      rcases Nat.lt_or_ge g w.heap.size with h | h
      · exact h
      · rw [Array.getElem?_eq_none h] at hblk; exact absurd hblk (by simp)
    have hH := holds_own 18 encPL_length encP_list w g _ cur xs hblk htk
    have hcon := AnyQ.slices_SortFunc Tryd.sortP 18 Tryd.isAgg36 Tryd.sizeOf36 encPL encPL_length encPL_one cmpQ cmpQ_swo 29 #[] g 0 cap xs.toArray w eg (cmp_lays g 0 _ w) hH hz (by simp only [List.size_toArray]; omega)
    rw [List.size_toArray] at hcon
    refine hcon.mono ?_
    rintro e w' ⟨rfl, d', n, os, hp, hs, rfl⟩
    have hd : d' = (psort xs).toArray := Array.toList_inj.1 (sorted_unique_holds cmpQ_swo cmpQ_total xs.toArray d' hp hs)
    subst hd
    obtain ⟨⟨cur', k1, k2, k3, _⟩, k4⟩ := own_sorted 18 encPL_length encP_list w g _ cur (psort xs) n os hblk (by rw [psort_length]; have := Nat.mul_le_mul_right 18 hn; omega)
    rw [psort_length] at k3
    exact ⟨rfl, ⟨hl', .inr ⟨g, cap, cur', rfl, hg, k1, hn, hcap, k2.trans hcs, k3⟩⟩, k4 base hg⟩

set_option maxRecDepth 100000 in
set_option maxHeartbeats 1000000 in
theorem sorted_any (Bs cap : Nat) (ad : Option Addr) (xs : List PS) (hcap : xs.length ≤ cap) (hm : xs.length ≤ 100000) (w : World) (hBs : Bs < w.heap.size)
    (hc : w.cell? ⟨Bs, 0, none⟩ = some (.slice ad xs.length cap)) (hI : Elems encP 18 w.heap.size w ad xs) :
    Calls Tryd.prog 27 #[.func (.func 38) #[] #[.pointer (some ⟨Bs, 0, none⟩)], .func (.func 29) #[] #[]] w (CollEnd (psort xs) encP w) := by
  have H := hid (collect_any encP_size encP_one Bs cap ad xs hcap hm w hBs hc hI)
  have HS := hid (sort_own w.heap.size)
  have HL := hid (psort_length xs)
  have Hm := hid hm
  clear hc hI hm
  go_enter Tryd.func27, Tryd.ntmps27
  go_wp2_with fail
  refine H.out.mono ?_
  rintro e w1 ⟨v, rfl, ho, hb⟩
  have Ho := hid ho
  have Hb := hid hb
  clear ho hb H
  go_wp2_with fail
  refine (HS.out v xs Hm.out w1 Ho.out).mono ?_
  rintro e w2 ⟨rfl, ho2, hb2⟩
  have F : Hid (CollEnd (psort xs) encP w (.returned v) w2) := hid ⟨v, rfl, by rw [HL.out]; exact ho2, Hb.out.trans hb2⟩
  clear ho2 hb2 HS Ho Hb
  go_wp2
  go_ret
  exact F.out
end Go.Proofs.YtgpbmbefdgbblaaDoor
