/-
  cmp.Compare and cmp.Or of numbers, and cidr.Compare.
-/
import Derived.Test.YtambnnahgbegfaaGreatDoorCpure
namespace Go.Proofs.YtambnnahgbegfaaGreatDoor
open Go.RowKit

set_option maxHeartbeats 400000 in
theorem nan_any (n : Int) (w : World) : Calls Tryz.prog 97 #[.int .i64 n] w fun e w' => e = .returned (.bool false) ∧ w = w' := by
  have q : (n != n) = false := by simp
  go_enter Tryz.func97, Tryz.ntmps97
  go_wp2
  go_ret
  exact ⟨rfl, rfl⟩

/-- Which of two numbers comes first. -/
def cmpI (n m : Int) : Int := if n < m then -1 else if m < n then 1 else 0

set_option maxHeartbeats 1000000 in
theorem cmpInt_any (n m : Int) (w : World) : Calls Tryz.prog 68 #[.int .i64 n, .int .i64 m] w fun e w' => e = .returned (.int .i64 (cmpI n m)) ∧ Below w.heap.size w w' := by
  have HC : Hid (cmpI n m = if n < m then -1 else if m < n then 1 else 0) := Lib.hid rfl
  generalize cmpI n m = R at *
  by_cases h1 : n < m
  · go_enter Tryz.func68, Tryz.ntmps68
    go_wp2_with fail
    refine (nan_any n w).mono ?_
    rintro e w1 ⟨rfl, rfl⟩
    go_wp2_with fail
    refine (nan_any m w).mono ?_
    rintro e w1 ⟨rfl, rfl⟩
    go_wp2
    go_ret
    exact ⟨ret_int (by rw [HC.out, if_pos (by omega)]), Below.refl _ _⟩
  · by_cases h2 : m < n
    · go_enter Tryz.func68, Tryz.ntmps68
      go_wp2_with fail
      refine (nan_any n w).mono ?_
      rintro e w1 ⟨rfl, rfl⟩
      go_wp2_with fail
      refine (nan_any m w).mono ?_
      rintro e w1 ⟨rfl, rfl⟩
      go_wp2
      go_ret
      exact ⟨ret_int (by rw [HC.out, if_neg (by omega), if_pos (by omega)]), Below.refl _ _⟩
    · go_enter Tryz.func68, Tryz.ntmps68
      go_wp2_with fail
      refine (nan_any n w).mono ?_
      rintro e w1 ⟨rfl, rfl⟩
      go_wp2_with fail
      refine (nan_any m w).mono ?_
      rintro e w1 ⟨rfl, rfl⟩
      go_wp2
      go_ret
      exact ⟨ret_int (by rw [HC.out, if_neg (by omega), if_neg (by omega)]), Below.refl _ _⟩

set_option maxHeartbeats 1000000 in
theorem or_any (c d : Int) (w : World) (g : Nat) (hB : Blk w g 3 #[.int .i64 c, .int .i64 d]) :
    Calls Tryz.prog 66 #[.slice (some ⟨g, 0, none⟩) 2 2] w fun e w' => e = .returned (.int .i64 (if c ≠ 0 then c else d)) ∧ Below w.heap.size w w' := by
  have h0 : w.cell? ⟨g, 0, none⟩ = some (.int .i64 c) := by rw [hB.cell]; rfl
  have h1 : w.cell? ⟨g, 1, none⟩ = some (.int .i64 d) := by rw [hB.cell]; rfl
  have HC : Hid ((if c ≠ 0 then c else d) = if c = 0 then d else c) := Lib.hid (by by_cases h : c = 0 <;> simp [h])
  generalize (if c ≠ 0 then c else d) = R at *
  clear hB
  by_cases hc : c = 0
  · subst hc
    by_cases hd : d = 0
    · subst hd
      go_enter Tryz.func66, Tryz.ntmps66
      go_wp2
      refine wp_loop_rounds 3 ?_
      rw [rounds_succ]
      go_wp2
      rw [rounds_succ]
      go_wp2
      rw [rounds_succ]
      go_wp2
      go_ret
      exact ⟨ret_int (by rw [HC.out]; simp), Below.refl _ _⟩
    · have q : (d != 0) = true := by rw [bne_iff_ne]; exact hd
      go_enter Tryz.func66, Tryz.ntmps66
      go_wp2
      refine wp_loop_rounds 2 ?_
      rw [rounds_succ]
      go_wp2
      rw [rounds_succ]
      go_wp2
      go_ret
      exact ⟨ret_int (by rw [HC.out]; simp), Below.refl _ _⟩
  · have q : (c != 0) = true := by rw [bne_iff_ne]; exact hc
    go_enter Tryz.func66, Tryz.ntmps66
    go_wp2
    refine wp_loop_rounds 2 ?_
    rw [rounds_succ]
    go_wp2
    go_ret
    exact ⟨ret_int (by rw [HC.out, if_neg hc]), Below.refl _ _⟩

set_option linter.unusedSimpArgs false in
set_option maxRecDepth 100000 in
set_option maxHeartbeats 4000000 in
theorem ccmp_any (s t : Bool) (X Y : List Nat) (hx : X.length = 16) (hy : Y.length = 16) (lx : ∀ x ∈ X, x < 256) (ly : ∀ x ∈ Y, x < 256) (n m : Int) (w : World) :
    Calls Tryz.prog 34 #[.agg (cid s (ints X) n), .agg (cid t (ints Y) m)] w fun e w' => e = .returned (.int .i64 (cmpC s t X Y n m)) ∧ Below w.heap.size w w' := by
  obtain ⟨W0, hW0⟩ : ∃ W, W = w.alloc (.cells (cid s (ints X) n) 48) := ⟨_, rfl⟩
  obtain ⟨W1, hW1⟩ : ∃ W, W = W0.alloc (.cells (cid t (ints Y) m) 48) := ⟨_, rfl⟩
  have hlx : (ints X).length = 16 := by rw [ints_length, hx]
  have hly : (ints Y).length = 16 := by rw [ints_length, hy]
  have hB0 : Blk W0 w.heap.size 48 (cid s (ints X) n) := hW0 ▸ Blk.new w _ _
  have hb0 : Below w.heap.size w W0 := hW0 ▸ (Below.refl _ _).alloc (Nat.le_refl _) _
  have hs0 : W0.heap.size = w.heap.size + 1 := by rw [hW0]; simp
  have hb1 : Below W0.heap.size W0 W1 := hW1 ▸ (Below.refl _ _).alloc (Nat.le_refl _) _
  have hB1 : Blk W1 (w.heap.size + 1) 48 (cid t (ints Y) m) := by rw [← hs0]; exact hW1 ▸ Blk.new W0 _ _
  have HW0 := Lib.hid hW0.symm
  have HW1 := Lib.hid hW1.symm
  have LX := Lib.hid hlx
  have LY := Lib.hid hly
  have hS0 : Blk W1.drew (w.heap.size) 48 (cid s (ints X) n) ∧ Blk W1.drew (w.heap.size + 1) 48 (cid t (ints Y) m) ∧ Below w.heap.size w W1.drew := ⟨(hB0.kept hb1).kept (below_drewN W1 1), hB1.kept (below_drewN W1 1), bel2 (bel2 hb0 hb1) (below_drewN W1 1)⟩
  obtain ⟨c, hc⟩ : ∃ c, c = cmpA s t X Y := ⟨_, rfl⟩
  obtain ⟨d, hd⟩ : ∃ d, d = cmpI n m := ⟨_, rfl⟩
  obtain ⟨r, hr⟩ : ∃ r, r = if c ≠ 0 then c else d := ⟨_, rfl⟩
  have CA : Hid (∀ w, Calls Tryz.prog 67 #[.agg (adr s (ints X)), .agg (adr t (ints Y))] w fun e w' => e = .returned (.int .i64 c) ∧ Below w.heap.size w w') := Lib.hid (by rw [hc]; exact compare_any s t X Y hx hy lx ly)
  have CC : Hid (∀ w, Calls Tryz.prog 68 #[.int .i64 n, .int .i64 m] w fun e w' => e = .returned (.int .i64 d) ∧ Below w.heap.size w w') := Lib.hid (by rw [hd]; exact cmpInt_any n m)
  have CO : Hid (∀ w g, Blk w g 3 #[.int .i64 c, .int .i64 d] → Calls Tryz.prog 66 #[.slice (some ⟨g, 0, none⟩) 2 2] w fun e w' => e = .returned (.int .i64 r) ∧ Below w.heap.size w w') := Lib.hid (by rw [hr]; exact or_any c d)
  have HR : Hid (r = cmpC s t X Y n m) := Lib.hid (by rw [hr, hc, hd]; rfl)
  clear hW0 hW1 hB0 hb0 hb1 hB1 hs0 hlx hly hx hy lx ly hc hd hr
  go_enter Tryz.func34, Tryz.ntmps34
  go_upto_region 1 with fail
  rw [HW0.out]
  rw [HW1.out]
  refine wp_region_held_drew (S := fun w' => Blk w' (w.heap.size) 48 (cid s (ints X) n) ∧ Blk w' (w.heap.size + 1) 48 (cid t (ints Y) m) ∧ Below w.heap.size w w') (by kernel_rfl) hS0 (fun hS => ?_)
  change wpAnyH _ _ _ _ _ 13 #[false, false, false, false, false, false, false, false, false, false, false, false, false] _ _
  refine wpAnyH_take (i := 0) (v := .pointer (some ⟨w.heap.size, 0, none⟩)) rfl (by kernel_rfl) (by kernel_rfl) (by kernel_rfl) (fun _ _ _ h => h) (.inl ⟨by kernel_rfl, fun w _ => by kernel_rfl⟩) hS ?_
  simp only [List.getElem_toArray, List.getElem_cons_zero, List.getElem_cons_succ, Act.put, List.setIfInBounds_toArray, List.set_cons_zero, List.set_cons_succ]
  refine wpAnyH_take (i := 1) (v := .agg (adr s (ints X))) rfl (by kernel_rfl) (by kernel_rfl) (by kernel_rfl) (fun _ _ _ h => h) (yields_addr (.tmp 5) rfl (w.heap.size) (by kernel_rfl) s (ints X) n (fun w h => h.1) LX.out (by kernel_rfl)) hS ?_
  simp only [List.getElem_toArray, List.getElem_cons_zero, List.getElem_cons_succ, Act.put, List.setIfInBounds_toArray, List.set_cons_zero, List.set_cons_succ]
  refine wpAnyH_take (i := 2) (v := .pointer (some ⟨w.heap.size + 1, 0, none⟩)) rfl (by kernel_rfl) (by kernel_rfl) (by kernel_rfl) (fun _ _ _ h => h) (.inl ⟨by kernel_rfl, fun w _ => by kernel_rfl⟩) hS ?_
  simp only [List.getElem_toArray, List.getElem_cons_zero, List.getElem_cons_succ, Act.put, List.setIfInBounds_toArray, List.set_cons_zero, List.set_cons_succ]
  refine wpAnyH_take (i := 3) (v := .agg (adr t (ints Y))) rfl (by kernel_rfl) (by kernel_rfl) (by kernel_rfl) (fun _ _ _ h => h) (yields_addr (.tmp 7) rfl (w.heap.size + 1) (by kernel_rfl) t (ints Y) m (fun w h => h.2.1) LY.out (by kernel_rfl)) hS ?_
  simp only [List.getElem_toArray, List.getElem_cons_zero, List.getElem_cons_succ, Act.put, List.setIfInBounds_toArray, List.set_cons_zero, List.set_cons_succ]
  refine wpAnyH_take (i := 5) (v := .pointer (some ⟨w.heap.size, 17, none⟩)) rfl (by kernel_rfl) (by kernel_rfl) (by kernel_rfl) (fun _ _ _ h => h) (.inl ⟨by kernel_rfl, fun w _ => by kernel_rfl⟩) hS ?_
  simp only [List.getElem_toArray, List.getElem_cons_zero, List.getElem_cons_succ, Act.put, List.setIfInBounds_toArray, List.set_cons_zero, List.set_cons_succ]
  refine wpAnyH_take (i := 6) (v := .int .i64 n) rfl (by kernel_rfl) (by kernel_rfl) (by kernel_rfl) (fun _ _ _ h => h) (yields_cell (.tmp 10) rfl (w.heap.size) 17 (by kernel_rfl) n (fun w h => cid_bitsCell h.1 LX.out) (by kernel_rfl)) hS ?_
  simp only [List.getElem_toArray, List.getElem_cons_zero, List.getElem_cons_succ, Act.put, List.setIfInBounds_toArray, List.set_cons_zero, List.set_cons_succ]
  refine wpAnyH_take (i := 7) (v := .pointer (some ⟨w.heap.size + 1, 17, none⟩)) rfl (by kernel_rfl) (by kernel_rfl) (by kernel_rfl) (fun _ _ _ h => h) (.inl ⟨by kernel_rfl, fun w _ => by kernel_rfl⟩) hS ?_
  simp only [List.getElem_toArray, List.getElem_cons_zero, List.getElem_cons_succ, Act.put, List.setIfInBounds_toArray, List.set_cons_zero, List.set_cons_succ]
  refine wpAnyH_take (i := 8) (v := .int .i64 m) rfl (by kernel_rfl) (by kernel_rfl) (by kernel_rfl) (fun _ _ _ h => h) (yields_cell (.tmp 12) rfl (w.heap.size + 1) 17 (by kernel_rfl) m (fun w h => cid_bitsCell h.2.1 LY.out) (by kernel_rfl)) hS ?_
  simp only [List.getElem_toArray, List.getElem_cons_zero, List.getElem_cons_succ, Act.put, List.setIfInBounds_toArray, List.set_cons_zero, List.set_cons_succ]
  refine wpAnyH_ready (rs := [4]) (by kernel_rfl) (by simp) ?_
  refine AllReadyH.cons rfl (fun K' hK => ?_) AllReadyH.nil
  refine step_call 67 #[.agg (adr s (ints X)), .agg (adr t (ints Y))] (by kernel_rfl) (by kernel_rfl) (.int .i64 c) (CA.out _) (fun w1 hb1 => hK.out _ _ (⟨hS.1.kept hb1, hS.2.1.kept hb1, bel2 hS.2.2 hb1⟩) (fun hS => ?_))
  simp only [List.getElem_toArray, List.getElem_cons_zero, List.getElem_cons_succ, Act.put, List.setIfInBounds_toArray, List.set_cons_zero, List.set_cons_succ]
  refine wpAnyH_ready (rs := [9]) (by kernel_rfl) (by simp) ?_
  refine AllReadyH.cons rfl (fun K' hK => ?_) AllReadyH.nil
  refine step_call 68 #[.int .i64 n, .int .i64 m] (by kernel_rfl) (by kernel_rfl) (.int .i64 d) (CC.out _) (fun w2 hb2 => hK.out _ _ (⟨hS.1.kept hb2, hS.2.1.kept hb2, bel2 hS.2.2 hb2⟩) (fun hS => ?_))
  simp only [List.getElem_toArray, List.getElem_cons_zero, List.getElem_cons_succ, Act.put, List.setIfInBounds_toArray, List.set_cons_zero, List.set_cons_succ]
  refine wpAnyH_ready (rs := [10]) (by kernel_rfl) (by simp) ?_
  refine AllReadyH.cons rfl (fun K' hK => ?_) AllReadyH.nil
  obtain ⟨W3, hW3⟩ : ∃ W, W = w2.alloc (.cells #[.int .i64 c, .int .i64 d] 3) := ⟨_, rfl⟩
  have hb3 : Below w2.heap.size w2 W3 := hW3 ▸ (Below.refl _ _).alloc (Nat.le_refl _) _
  have hB3 : Blk W3 w2.heap.size 3 #[.int .i64 c, .int .i64 d] := hW3 ▸ Blk.new w2 _ _
  refine step_run (.slice (some ⟨w2.heap.size, 0, none⟩) 2 2) W3 (by rw [hW3]; kernel_rfl) (by kernel_rfl) (hK.out _ _ (⟨hS.1.kept hb3, hS.2.1.kept hb3, bel2 hS.2.2 hb3⟩) (fun hS => ?_))
  simp only [List.getElem_toArray, List.getElem_cons_zero, List.getElem_cons_succ, Act.put, List.setIfInBounds_toArray, List.set_cons_zero, List.set_cons_succ]
  refine wpAnyH_ready (rs := [11]) (by kernel_rfl) (by simp) ?_
  refine AllReadyH.cons rfl (fun K' hK => ?_) AllReadyH.nil
  refine step_call 66 #[.slice (some ⟨w2.heap.size, 0, none⟩) 2 2] (by kernel_rfl) (by kernel_rfl) (.int .i64 r) (CO.out _ _ hB3) (fun w4 hb4 => hK.out _ _ (⟨hS.1.kept hb4, hS.2.1.kept hb4, bel2 hS.2.2 hb4⟩) (fun hS => ?_))
  simp only [List.getElem_toArray, List.getElem_cons_zero, List.getElem_cons_succ, Act.put, List.setIfInBounds_toArray, List.set_cons_zero, List.set_cons_succ]
  refine wpAnyH_take (i := 12) (v := .int .i64 r) rfl (by kernel_rfl) (by kernel_rfl) (by kernel_rfl) (fun _ _ _ h => h) (.inl ⟨by kernel_rfl, fun w _ => by kernel_rfl⟩) hS ?_
  simp only [List.getElem_toArray, List.getElem_cons_zero, List.getElem_cons_succ, Act.put, List.setIfInBounds_toArray, List.set_cons_zero, List.set_cons_succ]
  refine wpAnyH_done (by kernel_rfl) ?_ _
  obtain ⟨_, _, hbE⟩ := hS
  go_wp2
  go_ret
  exact ⟨ret_int HR.out, hbE⟩
end Go.Proofs.YtambnnahgbegfaaGreatDoor
