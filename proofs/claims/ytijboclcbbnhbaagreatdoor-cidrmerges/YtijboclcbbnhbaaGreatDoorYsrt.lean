/-
  slices.SortFunc and slices.SortedFunc of cidrs with cidr.Compare.
-/
import Derived.Test.YtijboclcbbnhbaaGreatDoorYord
import Derived.Test.YtijboclcbbnhbaaGreatDoorMgrow
import Derived.Shelf.Lay
import Derived.Ground.SlsfProg
namespace Go.Proofs
open Go.Shelf Go.RowKit Go.Lib Go.Sort
shelf_lay_g SlLaysF0.n6 Slsf 6 at Tryz 33 as Tryz.sortC
end Go.Proofs
namespace Go.Proofs.YtijboclcbbnhbaaGreatDoor
open Go.Shelf Go.RowKit Go.Lib Go.Sort

theorem cmp_lays (blk off size : Nat) (w : World) : CmpLays Tryz.prog 17 #[] encC 18 cmpS blk off size w := fun _ _ _ _ x y => by
  have h := fun W => ccmp_grw x.1.1 y.1.1 x.1.2.1 y.1.2.1 x.2.1 y.2.1 x.2.2 y.2.2 x.1.2.2 y.1.2.2 W
  simp only [encC, encA, Array.toArray_toList]
  refine (h _).mono ?_
  rintro e w' ⟨he, hg⟩
  exact ⟨he, hg.grown⟩

theorem sort_own (base : Nat) (v : Value) (xs : List CS) (hm : xs.length ≤ 100000) (w : World) (ho : w.ownsRow base 29 18 v xs.length (flatY encA xs)) :
    Calls Tryz.prog 33 #[v, .func (.func 17) #[] #[]] w fun e w' =>
      e = .returned (.tuple #[]) ∧ w'.ownsRow base 29 18 v xs.length (flatY encA (csort xs)) ∧ Below base w w' := by
  have eg : ∀ args w, (callFunc 17 args).run Tryz.prog w = .ok (.enter 17 args) w := enters_of Tryz.func17 (by kernel_rfl) rfl
  obtain ⟨hl, h⟩ := ho
  have hl' : (flatY encA (csort xs)).length = xs.length * 18 := (flat_length 18 encA_size _).trans (by rw [csort_length])
  rcases h with ⟨rfl, h0⟩ | ⟨g, cap, cur, rfl, hg, hblk, hn, hcap, hcs, htk⟩
  · have hx : xs = [] := List.length_eq_zero_iff.1 h0
    subst hx
    refine (AnyF.slices_SortFunc_none Tryz.sortC none 0 _ w).mono ?_
    rintro e w' ⟨rfl, rfl⟩
    exact ⟨rfl, ⟨hl', .inl ⟨rfl, rfl⟩⟩, Below.refl _ _⟩
  · have hz : g < w.heap.size := by
      rcases Nat.lt_or_ge g w.heap.size with h | h
      · exact h
      · rw [Array.getElem?_eq_none h] at hblk; exact absurd hblk (by simp)
    have hH := holds_own 18 encC_length encA_list w g _ cur xs hblk htk
    have hcon := AnyQ.slices_SortFunc Tryz.sortC 18 Tryz.isAgg29 Tryz.sizeOf29 encC encC_length encC_one cmpS cmpS_swo 17 #[] g 0 cap xs.toArray w eg (cmp_lays g 0 _ w) hH hz (by simp only [List.size_toArray]; omega)
    rw [List.size_toArray] at hcon
    refine hcon.mono ?_
    rintro e w' ⟨rfl, d', n, os, hp, hs, rfl⟩
    have hd : d' = (csort xs).toArray := Array.toList_inj.1 (sorted_unique_holds cmpS_swo cmpS_total xs.toArray d' hp hs)
    subst hd
    obtain ⟨⟨cur', k1, k2, k3, _⟩, k4⟩ := own_sorted 18 encC_length encA_list w g _ cur (csort xs) n os hblk (by rw [csort_length]; have := Nat.mul_le_mul_right 18 hn; omega)
    rw [csort_length] at k3
    exact ⟨rfl, ⟨hl', .inr ⟨g, cap, cur', rfl, hg, k1, hn, hcap, k2.trans hcs, k3⟩⟩, k4 base hg⟩

set_option maxRecDepth 100000 in
set_option maxHeartbeats 1000000 in
theorem sorted_any (Bs cap : Nat) (ad : Option Addr) (xs : List CS) (hcap : xs.length ≤ cap) (hm : xs.length ≤ 100000) (w : World) (hBs : Bs < w.heap.size)
    (hc : w.cell? ⟨Bs, 0, none⟩ = some (.slice ad xs.length cap)) (hI : Elems encA 18 w.heap.size w ad xs) :
    Calls Tryz.prog 15 #[.func (.func 34) #[] #[.pointer (some ⟨Bs, 0, none⟩)], .func (.func 17) #[] #[]] w (CollEnd (csort xs) encA w) := by
  have H := hid (collect_any encA_size encA_one Bs cap ad xs hcap hm w hBs hc hI)
  have HS := hid (sort_own w.heap.size)
  have HL := hid (csort_length xs)
  have Hm := hid hm
  clear hc hI hm
  go_enter Tryz.func15, Tryz.ntmps15
  go_wp2_with fail
  refine H.out.mono ?_
  rintro e w1 ⟨v, rfl, ho, hb⟩
  have Ho := hid ho
  have Hb := hid hb
  clear ho hb H
  go_wp2_with fail
  refine (HS.out v xs Hm.out w1 Ho.out).mono ?_
  rintro e w2 ⟨rfl, ho2, hb2⟩
  have F : Hid (CollEnd (csort xs) encA w (.returned v) w2) := hid ⟨v, rfl, by rw [HL.out]; exact ho2, Hb.out.trans hb2⟩
  clear ho2 hb2 HS Ho Hb
  go_wp2
  go_ret
  exact F.out
end Go.Proofs.YtijboclcbbnhbaaGreatDoor
