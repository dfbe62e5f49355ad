/-
  The walk of the document's Contains.
-/
import Derived.Test.YtambnnahgbegfaaGreatDoorCzero
import Derived.Deep.Cut
namespace Go.Proofs.YtambnnahgbegfaaGreatDoor
open Go.RowKit

/-- Are the first bits the same? -/
def agreeB (b c : List Int) (n : Nat) : Bool := (List.range n).all fun i => bitN b i == bitN c i
theorem agreeB_of (b c : List Int) (n : Nat) (h : ∀ j, j < n → bitN b j = bitN c j) : agreeB b c n = true := by
  unfold agreeB
  rw [List.all_eq_true]
  intro i hi
  simp [h i (List.mem_range.1 hi)]
theorem agreeB_not (b c : List Int) (n j : Nat) (h2 : j < n) (h : bitN b j ≠ bitN c j) : agreeB b c n = false := by
  rw [← Bool.not_eq_true]
  intro hz
  have := List.all_eq_true.1 hz j (List.mem_range.2 h2)
  exact h (by simpa using this)

set_option linter.unusedSimpArgs false in
set_option maxRecDepth 100000 in
set_option maxHeartbeats 4000000 in
theorem rcont_yes (cs sa : Bool) (C A : List Nat) (hlc : C.length = 16) (hla : A.length = 16) (hC : ∀ x ∈ C, x < 256) (hA : ∀ x ∈ A, x < 256) (N : Nat) (hN : N ≤ 128) (heq : sa = cs) (w : World)
    (cR : ∀ w, Calls Tryz.prog 27 #[.agg (cid cs (ints C) (N : Int))] w fun e w' => e = .returned (.bool true) ∧ Below w.heap.size w w')
    (cQ : ∀ w, Calls Tryz.prog 16 #[.agg (adr sa (ints A))] w fun e w' => e = .returned (.bool true) ∧ Below w.heap.size w w') :
    Calls Tryz.prog 31 #[.agg (cid cs (ints C) (N : Int)), .agg (adr sa (ints A))] w fun e w' => e = .returned (.bool (agreeB (ints A) (ints C) N)) ∧ Below w.heap.size w w' := by
  obtain ⟨W0, hW0⟩ : ∃ W, W = w.alloc (.cells (cid cs (ints C) (N : Int)) 48) := ⟨_, rfl⟩
  obtain ⟨W1, hW1⟩ : ∃ W, W = W0.alloc (.cells (adr sa (ints A)) 24) := ⟨_, rfl⟩
  have hB0 : Blk W0 w.heap.size 48 (cid cs (ints C) (N : Int)) := hW0 ▸ Blk.new w _ _
  have hb0 : Below w.heap.size w W0 := hW0 ▸ (Below.refl _ _).alloc (Nat.le_refl _) _
  have hs0 : W0.heap.size = w.heap.size + 1 := by rw [hW0]; simp
  have hb1 : Below W0.heap.size W0 W1 := hW1 ▸ (Below.refl _ _).alloc (Nat.le_refl _) _
  have hB1 : Blk W1 (w.heap.size + 1) 24 (adr sa (ints A)) := by rw [← hs0]; exact hW1 ▸ Blk.new W0 _ _
  have HW0 := Lib.hid hW0.symm
  have HW1 := Lib.hid hW1.symm
  have H1 : Hid (Blk W1 (w.heap.size) 48 (cid cs (ints C) (N : Int)) ∧ Blk W1 (w.heap.size + 1) 24 (adr sa (ints A)) ∧ Below w.heap.size w W1) := Lib.hid ⟨hB0.kept hb1, hB1, bel2 hb0 hb1⟩
  have LC : Hid ((ints C).length = 16) := Lib.hid (by rw [ints_length, hlc])
  have LA : Hid (17 = (adr sa (ints A)).size) := Lib.hid (by rw [adr_size, ints_length, hla])
  have L18 : Hid (18 = (cid cs (ints C) (N : Int)).size) := Lib.hid (by rw [cid_size, ints_length, hlc])
  have CR := Lib.hid cR
  have CQ := Lib.hid cQ
  have CBa := Lib.hid (fun i hi w => bit_any sa A hla hA i hi w)
  have CBc := Lib.hid (fun i hi w => bit_any cs C hlc hC i hi w)
  have HBc : Hid (Blk W1 (w.heap.size) 48 (cid cs (ints C) (N : Int))) := Lib.hid H1.out.1
  have HSz := Lib.hid hs0
  have HEq := Lib.hid heq
  clear hW0 hW1 hB0 hb0 hb1 hB1 hlc hla hC hA cR cQ hs0 heq
  go_enter Tryz.func31, Tryz.ntmps31
  go_upto_region 1 with fail
  rw [HW0.out]
  rw [HW1.out]
  go_wp2_with (refine wpl_load 48 _ rfl w.heap.size rfl _ _ _ HBc.out Tryz.underlying48 rfl 18 Tryz.infoCidr L18.out rfl ?_)
  refine (CR.out W1).mono ?_
  rintro e w1 ⟨rfl, hb1⟩
  have H2 : Hid (Blk w1 (w.heap.size) 48 (cid cs (ints C) (N : Int)) ∧ Blk w1 (w.heap.size + 1) 24 (adr sa (ints A)) ∧ Below w.heap.size w w1) := Lib.hid ⟨H1.out.1.kept hb1, H1.out.2.1.kept hb1, bel2 H1.out.2.2 hb1⟩
  have HBa : Hid (Blk w1 (w.heap.size + 1) 24 (adr sa (ints A))) := Lib.hid H2.out.2.1
  clear hb1
  go_wp2_with (refine wpl_load 24 _ rfl (w.heap.size + 1) rfl _ _ _ HBa.out Tryz.underlying24 rfl 17 Tryz.infoAddr LA.out rfl ?_)
  refine (CQ.out w1).mono ?_
  rintro e w2 ⟨rfl, hb2⟩
  have H3 : Hid (Blk w2 (w.heap.size) 48 (cid cs (ints C) (N : Int)) ∧ Blk w2 (w.heap.size + 1) 24 (adr sa (ints A)) ∧ Below w.heap.size w w2) := Lib.hid ⟨H2.out.1.kept hb2, H2.out.2.1.kept hb2, bel2 H2.out.2.2 hb2⟩
  have c0 : w2.cell? ⟨w.heap.size, 0, none⟩ = some (.bool cs) := by rw [H3.out.1.cell]; rfl
  have c1 : w2.cell? ⟨w.heap.size + 1, 0, none⟩ = some (.bool sa) := by rw [H3.out.2.1.cell]; rfl
  obtain rfl := HEq.out
  have qs : (sa != sa) = false := by simp
  clear hb2 H2 HBa HBc H1 CR CQ
  go_wp2
  clear c0 c1
  go_loopw [5] (fun i wr => ∃ k : Nat, k ≤ N ∧ i = .int .i64 k ∧ Hid ((∀ j, j < k → bitN (ints A) j = bitN (ints C) j) ∧ Blk wr (w.heap.size) 48 (cid sa (ints C) (N : Int)) ∧ Blk wr (w.heap.size + 1) 24 (adr sa (ints A)) ∧ Below w.heap.size w wr)) (fun i _ => N - (intOf i).toNat)
  case atStart => exact ⟨0, Nat.zero_le _, rfl, (fun j h => by omega), H3.out⟩
  case round =>
    obtain ⟨k, hk, rfl, hh⟩ := hrel
    clear H3
    have cn := cid_bitsCell hh.out.2.1 LC.out
    by_cases hlt : k < N
    · obtain ⟨x, hx⟩ : ∃ x, x = bitN (ints A) k := ⟨_, rfl⟩
      obtain ⟨y, hy⟩ : ∃ y, y = bitN (ints C) k := ⟨_, rfl⟩
      have CBa := Lib.hid (CBa.out k (by omega))
      have CBc := Lib.hid (CBc.out k (by omega))
      rw [← hx] at CBa
      rw [← hy] at CBc
      have HXe := Lib.hid hx
      have HYe := Lib.hid hy
      clear hx hy
      go_wp2_with fail
      have hS0 : Blk wr.drew (w.heap.size) 48 (cid sa (ints C) (N : Int)) ∧ Blk wr.drew (w.heap.size + 1) 24 (adr sa (ints A)) ∧ Below w.heap.size w wr.drew := ⟨hh.out.2.1.kept (below_drewN wr 1), hh.out.2.2.1.kept (below_drewN wr 1), bel2 hh.out.2.2.2 (below_drewN wr 1)⟩
      clear cn
      refine wp_region_held_drew (S := fun w' => Blk w' (w.heap.size) 48 (cid sa (ints C) (N : Int)) ∧ Blk w' (w.heap.size + 1) 24 (adr sa (ints A)) ∧ Below w.heap.size w w') (by kernel_rfl) hS0 (fun hS => ?_)
      change wpAnyH _ _ _ _ _ 8 #[false, false, false, false, false, false, false, false] _ _
      refine wpAnyH_take (i := 0) (v := .agg (adr sa (ints A))) rfl (by kernel_rfl) (by kernel_rfl) (by kernel_rfl) (fun _ _ _ h => h) (yields_load 24 (.tmp 3) rfl (w.heap.size + 1) (by kernel_rfl) _ _ _ (fun w h => h.2.1) Tryz.underlying24 rfl 17 Tryz.infoAddr LA.out (by kernel_rfl)) hS ?_
      simp only [List.getElem_toArray, List.getElem_cons_zero, List.getElem_cons_succ, Act.put, List.setIfInBounds_toArray, List.set_cons_zero, List.set_cons_succ]
      refine wpAnyH_take (i := 1) (v := .int .i64 (k : Int)) rfl (by kernel_rfl) (by kernel_rfl) (by kernel_rfl) (fun _ _ _ h => h) (.inl ⟨by kernel_rfl, fun w _ => by kernel_rfl⟩) hS ?_
      simp only [List.getElem_toArray, List.getElem_cons_zero, List.getElem_cons_succ, Act.put, List.setIfInBounds_toArray, List.set_cons_zero, List.set_cons_succ]
      refine wpAnyH_take (i := 3) (v := .pointer (some ⟨w.heap.size, 0, none⟩)) rfl (by kernel_rfl) (by kernel_rfl) (by kernel_rfl) (fun _ _ _ h => h) (.inl ⟨by kernel_rfl, fun w _ => by kernel_rfl⟩) hS ?_
      simp only [List.getElem_toArray, List.getElem_cons_zero, List.getElem_cons_succ, Act.put, List.setIfInBounds_toArray, List.set_cons_zero, List.set_cons_succ]
      refine wpAnyH_take (i := 4) (v := .agg (adr sa (ints C))) rfl (by kernel_rfl) (by kernel_rfl) (by kernel_rfl) (fun _ _ _ h => h) (yields_addr (.tmp 31) rfl w.heap.size (by kernel_rfl) sa (ints C) (N : Int) (fun w h => h.1) LC.out (by kernel_rfl)) hS ?_
      simp only [List.getElem_toArray, List.getElem_cons_zero, List.getElem_cons_succ, Act.put, List.setIfInBounds_toArray, List.set_cons_zero, List.set_cons_succ]
      refine wpAnyH_take (i := 5) (v := .int .i64 (k : Int)) rfl (by kernel_rfl) (by kernel_rfl) (by kernel_rfl) (fun _ _ _ h => h) (.inl ⟨by kernel_rfl, fun w _ => by kernel_rfl⟩) hS ?_
      simp only [List.getElem_toArray, List.getElem_cons_zero, List.getElem_cons_succ, Act.put, List.setIfInBounds_toArray, List.set_cons_zero, List.set_cons_succ]
      refine wpAnyH_ready (rs := [2]) (by kernel_rfl) (by simp) ?_
      refine AllReadyH.cons rfl (fun K' hK => ?_) AllReadyH.nil
      refine step_call 65 #[.agg (adr sa (ints A)), .int .i64 (k : Int)] (by kernel_rfl) (by kernel_rfl) (.int .i64 x) (CBa.out _) (fun w1 hb1 => hK.out _ _ (⟨hS.1.kept hb1, hS.2.1.kept hb1, bel2 hS.2.2 hb1⟩) (fun hS => ?_))
      simp only [List.getElem_toArray, List.getElem_cons_zero, List.getElem_cons_succ, Act.put, List.setIfInBounds_toArray, List.set_cons_zero, List.set_cons_succ]
      refine wpAnyH_ready (rs := [6]) (by kernel_rfl) (by simp) ?_
      refine AllReadyH.cons rfl (fun K' hK => ?_) AllReadyH.nil
      refine step_call 65 #[.agg (adr sa (ints C)), .int .i64 (k : Int)] (by kernel_rfl) (by kernel_rfl) (.int .i64 y) (CBc.out _) (fun w2 hb2 => hK.out _ _ (⟨hS.1.kept hb2, hS.2.1.kept hb2, bel2 hS.2.2 hb2⟩) (fun hS => ?_))
      simp only [List.getElem_toArray, List.getElem_cons_zero, List.getElem_cons_succ, Act.put, List.setIfInBounds_toArray, List.set_cons_zero, List.set_cons_succ]
      refine wpAnyH_take (i := 7) (v := .bool (x != y)) rfl (by kernel_rfl) (by kernel_rfl) (by kernel_rfl) (fun _ _ _ h => h) (.inl ⟨by kernel_rfl, fun w _ => by kernel_rfl⟩) hS ?_
      simp only [List.getElem_toArray, List.getElem_cons_zero, List.getElem_cons_succ, Act.put, List.setIfInBounds_toArray, List.set_cons_zero, List.set_cons_succ]
      refine wpAnyH_done (by kernel_rfl) ?_ _
      obtain ⟨hBE, hAE, hbE⟩ := hS
      have HE := Lib.hid (⟨hBE, hAE, hbE⟩ : Blk w2 (w.heap.size) 48 (cid sa (ints C) (N : Int)) ∧ Blk w2 (w.heap.size + 1) 24 (adr sa (ints A)) ∧ Below w.heap.size w w2)
      clear hBE hAE hbE
      by_cases hxy : x = y
      · have q : (x != y) = false := by rw [hxy]; simp
        have HX : Hid (∀ j, j < k + 1 → bitN (ints A) j = bitN (ints C) j) := Lib.hid fun j hj => by
          by_cases e : j = k
          · rw [e, ← HXe.out, ← HYe.out, hxy]
          · exact hh.out.1 j (by omega)
        clear hxy hh
        go_wp2
        go_roundw
        case rel => exact ⟨k + 1, by omega, by go_num, HX.out, HE.out⟩
        case measure => simp [intOf]; omega
      · have q : (x != y) = true := by rw [bne_iff_ne]; exact hxy
        have HX : Hid (agreeB (ints A) (ints C) N = false) := Lib.hid (agreeB_not _ _ _ k hlt (by rw [← HXe.out, ← HYe.out]; exact hxy))
        clear hxy hh
        go_wp2
        go_ret
        exact ⟨by rw [HX.out]; rfl, HE.out.2.2⟩
    · obtain rfl : k = N := by omega
      have HX : Hid (agreeB (ints A) (ints C) k = true) := Lib.hid (agreeB_of _ _ _ hh.out.1)
      have HbX : Hid (Below w.heap.size w wr) := Lib.hid hh.out.2.2.2
      clear hh
      go_wp2
      go_ret
      exact ⟨by rw [HX.out]; rfl, HbX.out⟩
end Go.Proofs.YtambnnahgbegfaaGreatDoor
