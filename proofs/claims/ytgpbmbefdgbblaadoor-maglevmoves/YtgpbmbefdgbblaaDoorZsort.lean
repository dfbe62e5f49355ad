/-
  ports.Sort.
-/
import Derived.Test.YtgpbmbefdgbblaaDoorZsrt
import Derived.Test.YtgpbmbefdgbblaaDoorZcpt
import Derived.Test.YtgpbmbefdgbblaaDoorZapp
namespace Go.Proofs.YtgpbmbefdgbblaaDoor
open Go.Shelf Go.RowKit Go.Lib Go.Sort

set_option maxHeartbeats 1000000 in
theorem compact_none (w : World) :
    Calls Tryd.prog 26 #[.slice none 0 0] w fun e w' => e = .returned (.slice none 0 0) ∧ w = w' := by
  go_enter Tryd.func26, Tryd.ntmps26
  go_wp2
  go_ret
  exact ⟨rfl, rfl⟩

theorem compact_le (xs : List PS) : (compact xs).length ≤ xs.length := by
  unfold compact compactUpTo
  rw [List.length_map]
  have := List.length_filter_le (keeps xs.toArray) (List.range xs.length)
  rwa [List.length_range] at this

theorem compact_own (base : Nat) (v : Value) (xs : List PS) (hm : xs.length ≤ 100000) (w : World) (ho : w.ownsRow base 36 18 v xs.length (flatY encP xs)) :
    Calls Tryd.prog 26 #[v] w fun e w' =>
      ∃ v', e = .returned v' ∧ w'.ownsRow base 36 18 v' (compact xs).length (flatY encP (compact xs)) ∧ Below base w w' := by
  obtain ⟨hl, ⟨rfl, h0⟩ | ⟨g, cap, cur, rfl, hg, hblk, hn, hcap, hcs, htk⟩⟩ := ho
  · have hx : xs = [] := List.length_eq_zero_iff.1 h0
    subst hx
    refine (compact_none w).mono ?_
    rintro e w' ⟨rfl, rfl⟩
    exact ⟨_, rfl, ⟨rfl, .inl ⟨rfl, rfl⟩⟩, Below.refl _ _⟩
  · have hR : RowAt base g cap w w xs.toArray := rowAt_of hblk hcs htk
    have h := compact_blk base g cap hg xs.toArray (by simpa using hm) (by simpa using hn) w hR
    rw [List.size_toArray] at h
    refine h.mono ?_
    rintro e w' ⟨dk, hdk, rfl, hR'⟩
    have hc : (compact xs).length ≤ xs.length := by
      unfold compact compactUpTo
      rw [List.length_map]
      have := List.length_filter_le (keeps xs.toArray) (List.range xs.length)
      rwa [List.length_range] at this
    have hdk' : dk.toList = compact xs := hdk
    have hz : dk.size = (compact xs).length := by rw [← hdk']; rfl
    have := hR'.own hg (by omega) hcap
    rw [hdk'] at this
    exact ⟨_, rfl, this, hR'.bel⟩

/-- The points, each once, in their order. -/
def psorted (xs : List PS) : List PS := compact (psort xs)

set_option maxRecDepth 100000 in
set_option maxHeartbeats 1000000 in
theorem psort_any (cap : Nat) (ad : Option Addr) (xs : List PS) (hcap : xs.length ≤ cap) (hm : xs.length ≤ 100000) (w : World) (hI : Elems encP 18 w.heap.size w ad xs) :
    Calls Tryd.prog 16 #[.slice ad xs.length cap] w (CollEnd (psorted xs) encP w) := by
  obtain ⟨w1, hw1⟩ : ∃ w1, w1 = w.alloc (.cells #[.slice ad xs.length cap] 22) := ⟨_, rfl⟩
  have hb1 : Below w.heap.size w w1 := hw1 ▸ (Below.refl _ _).alloc (Nat.le_refl _) _
  have hs1 : w1.heap.size = w.heap.size + 1 := by rw [hw1]; exact World.size_alloc _ _
  have hc1 : w1.cell? ⟨w.heap.size, 0, none⟩ = some (.slice ad xs.length cap) := hw1 ▸ (Blk.new w _ _).cell 0
  have HV := hid (values_any ad xs.length cap w)
  have HW := hid hw1.symm
  have HS := hid (sorted_any w.heap.size cap ad xs hcap hm w1 (by omega) hc1 ((hI.below hb1).mono (by omega)))
  have HC := hid (fun v W => compact_own w.heap.size v (psort xs) (by rw [psort_length]; exact hm) W)
  have Hs := hid hs1
  have HB := hid hb1
  clear hI hb1 hc1 hs1 hw1 hcap hm
  go_enter Tryd.func16, Tryd.ntmps16
  go_wp2_with fail
  refine HV.out.mono ?_
  rintro e w2 ⟨rfl, rfl⟩
  rw [HW.out]
  go_wp2_with fail
  refine HS.out.mono ?_
  rintro e w2 ⟨v, rfl, ho, hb⟩
  have Ho := hid (ownsRow_mono ho (by have := Hs.out; omega : w.heap.size ≤ w1.heap.size))
  have HB2 : Hid (Below w.heap.size w w2) := hid (HB.out.trans (hb.mono (by have := Hs.out; omega)))
  clear ho hb HS HB HV HW Hs
  go_wp2_with fail
  refine (HC.out v w2 Ho.out).mono ?_
  rintro e w3 ⟨v', rfl, ho3, hb3⟩
  have F : Hid (CollEnd (psorted xs) encP w (.returned v') w3) := hid ⟨v', rfl, ho3, HB2.out.trans hb3⟩
  clear ho3 hb3 HB2 HC Ho
  go_wp2
  go_ret
  exact F.out
end Go.Proofs.YtgpbmbefdgbblaaDoor
