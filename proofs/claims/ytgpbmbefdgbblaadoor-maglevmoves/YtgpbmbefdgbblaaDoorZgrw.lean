/-
  ports.Compare, as a sort takes it: the world behind it is the one before it, grown.
-/
import Derived.Test.YtgpbmbefdgbblaaDoorZcmp
import Derived.Sort.Grow
namespace Go.Proofs.YtgpbmbefdgbblaaDoor
open Go Go.Lib Go.RowKit

/-- What was stays; no draw is taken back. -/
def Grw (w w' : World) : Prop := Below w.heap.size w w' ∧ w.drawn ≤ w'.drawn
theorem Grw.refl (w : World) : Grw w w := ⟨Below.refl _ _, Nat.le_refl _⟩
theorem Grw.then {a b c : World} (h : Grw a b) (k : Grw b c) : Grw a c := ⟨bel2 h.1 k.1, Nat.le_trans h.2 k.2⟩
theorem Grw.alloc (w : World) (o : Obj) : Grw w (w.alloc o) := ⟨(Below.refl _ _).alloc (Nat.le_refl _) _, Nat.le_refl _⟩
theorem Grw.drewN (w : World) (n : Nat) : Grw w (w.drewN n) := ⟨below_drewN w n, Nat.le_add_right _ _⟩
theorem Grw.grown {w w' : World} (h : Grw w w') : ∃ q os, w' = Sort.grow (w.drewN q) os := by
  refine ⟨w'.drawn - w.drawn, w'.heap.extract w.heap.size w'.heap.size, ?_⟩
  have e1 : w.drawn + (w'.drawn - w.drawn) = w'.drawn := by have := h.2; omega
  have e2 : w.heap ++ w'.heap.extract w.heap.size w'.heap.size = w'.heap := by
    apply Array.ext_getElem?
    intro i
    have hz := h.1.size
    by_cases hi : i < w.heap.size
    · rw [Array.getElem?_append_left hi, h.1.block i hi]
    · rw [Array.getElem?_append_right (by omega)]
      by_cases hj : i < w'.heap.size
      · rw [Array.getElem?_eq_getElem (by simp; omega), Array.getElem?_eq_getElem hj, Array.getElem_extract]
        congr 2
        omega
      · rw [Array.getElem?_eq_none (by simp; omega), Array.getElem?_eq_none (by omega)]
  obtain ⟨b1, b2, b3, _, _⟩ := h.1
  show w' = { w with heap := w.heap ++ w'.heap.extract w.heap.size w'.heap.size, drawn := w.drawn + (w'.drawn - w.drawn) }
  rw [e1, e2, ← b1, ← b2, ← b3]
set_option maxRecDepth 100000 in
set_option maxHeartbeats 4000000 in
theorem compare_grw (s t : Bool) (x y : List Nat) (hx : x.length = 16) (hy : y.length = 16) (lx : ∀ n ∈ x, n < 256) (ly : ∀ n ∈ y, n < 256) (w : World) :
    Calls Tryd.prog 40 #[.agg (adr s (ints x)), .agg (adr t (ints y))] w fun e w' => e = .returned (.int .i64 (cmpA s t x y)) ∧ Grw w w' := by
  obtain ⟨W0, hW0⟩ : ∃ W, W = w.alloc (.cells (adr s (ints x)) 34) := ⟨_, rfl⟩
  have hB0 : Blk W0 w.heap.size 34 (adr s (ints x)) := hW0 ▸ Blk.new w _ _
  have hb0 : Grw w W0 := hW0 ▸ Grw.alloc _ _
  have hs0 : W0.heap.size = w.heap.size + 1 := by rw [hW0]; simp
  obtain ⟨W1, hW1⟩ : ∃ W, W = W0.alloc (.cells (adr t (ints y)) 34) := ⟨_, rfl⟩
  have hB1 : Blk W1 (w.heap.size + 1) 34 (adr t (ints y)) := hs0 ▸ hW1 ▸ Blk.new W0 _ _
  have hb1 : Grw W0 W1 := hW1 ▸ Grw.alloc _ _
  have hB0' : Blk W1 w.heap.size 34 (adr s (ints x)) := hB0.kept hb1.1
  have HW : Hid ((w.alloc (.cells (adr s (ints x)) 34)).alloc (.cells (adr t (ints y)) 34) = W1) := Lib.hid (by rw [hW1, hW0])
  have h0 := adr_zero s (ints x)
  have h1 := adr_zero t (ints y)
  have Hb : Hid (Grw w W1) := Lib.hid (hb0.then hb1)
  have HC : Hid (∀ n, Calls Tryd.prog 52 #[.slice (some ⟨w.heap.size, 1, none⟩) 16 16, .slice (some ⟨w.heap.size + 1, 1, none⟩) 16 16] (W1.drewN n) fun e w' => e = .returned (.int .i64 (cmpN x y)) ∧ w' = W1.drewN n) := Lib.hid fun n =>
    bcmp (W1.drewN n) w.heap.size (w.heap.size + 1) x y hx hy lx ly
      (fun j hj => by have := hB0'.cell (1 + j); rw [adr_at _ _ _ (by rw [ints_length, hx]; exact hj), nth_ints] at this; exact this)
      (fun j hj => by have := hB1.cell (1 + j); rw [adr_at _ _ _ (by rw [ints_length, hy]; exact hj), nth_ints] at this; exact this)
  clear hB0 hB0' hB1 hb0 hb1 hs0 hW0 hW1 hx hy lx ly
  cases s <;> cases t
  · go_enter Tryd.func40, Tryd.ntmps40
    go_wp2
    rw [HW.out]
    go_quiet ((go_at_call 52; exact Calls.quiet_of_same (HC.out _)))
    go_wp2
    go_ret
    exact ⟨rfl, Hb.out.then (Grw.drewN _ _)⟩
  · go_enter Tryd.func40, Tryd.ntmps40
    go_wp2
    go_ret
    rw [HW.out]
    exact ⟨rfl, Hb.out⟩
  · go_enter Tryd.func40, Tryd.ntmps40
    go_wp2
    go_ret
    rw [HW.out]
    exact ⟨rfl, Hb.out⟩
  · go_enter Tryd.func40, Tryd.ntmps40
    go_wp2
    rw [HW.out]
    go_quiet ((go_at_call 52; exact Calls.quiet_of_same (HC.out _)))
    go_wp2
    go_ret
    exact ⟨rfl, Hb.out.then (Grw.drewN _ _)⟩
set_option maxHeartbeats 1000000 in
theorem cmpInt_grw (n m : Int) (w : World) : Calls Tryd.prog 41 #[.int .i64 n, .int .i64 m] w fun e w' => e = .returned (.int .i64 (cmpI n m)) ∧ Grw w w' := by
  have HC : Hid (cmpI n m = if n < m then -1 else if m < n then 1 else 0) := Lib.hid rfl
  generalize cmpI n m = R at *
  by_cases h1 : n < m
  · go_enter Tryd.func41, Tryd.ntmps41
    go_wp2_with fail
    refine (nan_any n w).mono ?_
    rintro e w1 ⟨rfl, rfl⟩
    go_wp2_with fail
    refine (nan_any m w).mono ?_
    rintro e w1 ⟨rfl, rfl⟩
    go_wp2
    go_ret
    exact ⟨ret_int (by rw [HC.out, if_pos (by omega)]), Grw.refl _⟩
  · by_cases h2 : m < n
    · go_enter Tryd.func41, Tryd.ntmps41
      go_wp2_with fail
      refine (nan_any n w).mono ?_
      rintro e w1 ⟨rfl, rfl⟩
      go_wp2_with fail
      refine (nan_any m w).mono ?_
      rintro e w1 ⟨rfl, rfl⟩
      go_wp2
      go_ret
      exact ⟨ret_int (by rw [HC.out, if_neg (by omega), if_pos (by omega)]), Grw.refl _⟩
    · go_enter Tryd.func41, Tryd.ntmps41
      go_wp2_with fail
      refine (nan_any n w).mono ?_
      rintro e w1 ⟨rfl, rfl⟩
      go_wp2_with fail
      refine (nan_any m w).mono ?_
      rintro e w1 ⟨rfl, rfl⟩
      go_wp2
      go_ret
      exact ⟨ret_int (by rw [HC.out, if_neg (by omega), if_neg (by omega)]), Grw.refl _⟩
set_option maxHeartbeats 1000000 in
theorem or_grw (c d : Int) (w : World) (g : Nat) (hB : Blk w g 3 #[.int .i64 c, .int .i64 d]) :
    Calls Tryd.prog 39 #[.slice (some ⟨g, 0, none⟩) 2 2] w fun e w' => e = .returned (.int .i64 (if c ≠ 0 then c else d)) ∧ Grw w w' := by
  have h0 : w.cell? ⟨g, 0, none⟩ = some (.int .i64 c) := by rw [hB.cell]; rfl
  have h1 : w.cell? ⟨g, 1, none⟩ = some (.int .i64 d) := by rw [hB.cell]; rfl
  have HC : Hid ((if c ≠ 0 then c else d) = if c = 0 then d else c) := Lib.hid (by by_cases h : c = 0 <;> simp [h])
  generalize (if c ≠ 0 then c else d) = R at *
  clear hB
  by_cases hc : c = 0
  · subst hc
    by_cases hd : d = 0
    · subst hd
      go_enter Tryd.func39, Tryd.ntmps39
      go_wp2
      refine wp_loop_rounds 3 ?_
      rw [rounds_succ]
      go_wp2
      rw [rounds_succ]
      go_wp2
      rw [rounds_succ]
      go_wp2
      go_ret
      exact ⟨ret_int (by rw [HC.out]; simp), Grw.refl _⟩
    · have q : (d != 0) = true := by rw [bne_iff_ne]; exact hd
      go_enter Tryd.func39, Tryd.ntmps39
      go_wp2
      refine wp_loop_rounds 2 ?_
      rw [rounds_succ]
      go_wp2
      rw [rounds_succ]
      go_wp2
      go_ret
      exact ⟨ret_int (by rw [HC.out]; simp), Grw.refl _⟩
  · have q : (c != 0) = true := by rw [bne_iff_ne]; exact hc
    go_enter Tryd.func39, Tryd.ntmps39
    go_wp2
    refine wp_loop_rounds 2 ?_
    rw [rounds_succ]
    go_wp2
    go_ret
    exact ⟨ret_int (by rw [HC.out, if_neg hc]), Grw.refl _⟩
set_option linter.unusedSimpArgs false in
set_option maxRecDepth 100000 in
set_option maxHeartbeats 4000000 in
theorem pcmp_grw (s t : Bool) (X Y : List Nat) (hx : X.length = 16) (hy : Y.length = 16) (lx : ∀ x ∈ X, x < 256) (ly : ∀ x ∈ Y, x < 256) (n m : Int) (w : World) :
    Calls Tryd.prog 29 #[.agg (pnt s (ints X) n), .agg (pnt t (ints Y) m)] w fun e w' => e = .returned (.int .i64 (cmpP s t X Y n m)) ∧ Grw w w' := by
  obtain ⟨W0, hW0⟩ : ∃ W, W = w.alloc (.cells (pnt s (ints X) n) 36) := ⟨_, rfl⟩
  obtain ⟨W1, hW1⟩ : ∃ W, W = W0.alloc (.cells (pnt t (ints Y) m) 36) := ⟨_, rfl⟩
  have hlx : (ints X).length = 16 := by rw [ints_length, hx]
  have hly : (ints Y).length = 16 := by rw [ints_length, hy]
  have hB0 : Blk W0 w.heap.size 36 (pnt s (ints X) n) := hW0 ▸ Blk.new w _ _
  have hb0 : Grw w W0 := hW0 ▸ Grw.alloc _ _
  have hs0 : W0.heap.size = w.heap.size + 1 := by rw [hW0]; simp
  have hb1 : Grw W0 W1 := hW1 ▸ Grw.alloc _ _
  have hB1 : Blk W1 (w.heap.size + 1) 36 (pnt t (ints Y) m) := by rw [← hs0]; exact hW1 ▸ Blk.new W0 _ _
  have HW0 := Lib.hid hW0.symm
  have HW1 := Lib.hid hW1.symm
  have LX := Lib.hid hlx
  have LY := Lib.hid hly
  have hS0 : Blk W1.drew (w.heap.size) 36 (pnt s (ints X) n) ∧ Blk W1.drew (w.heap.size + 1) 36 (pnt t (ints Y) m) ∧ Grw w W1.drew := ⟨(hB0.kept hb1.1).kept (below_drewN W1 1), hB1.kept (below_drewN W1 1), (hb0.then hb1).then (Grw.drewN W1 1)⟩
  obtain ⟨c, hc⟩ : ∃ c, c = cmpA s t X Y := ⟨_, rfl⟩
  obtain ⟨d, hd⟩ : ∃ d, d = cmpI n m := ⟨_, rfl⟩
  obtain ⟨r, hr⟩ : ∃ r, r = if c ≠ 0 then c else d := ⟨_, rfl⟩
  have CA : Hid (∀ w, Calls Tryd.prog 40 #[.agg (adr s (ints X)), .agg (adr t (ints Y))] w fun e w' => e = .returned (.int .i64 c) ∧ Grw w w') := Lib.hid (by rw [hc]; exact compare_grw s t X Y hx hy lx ly)
  have CC : Hid (∀ w, Calls Tryd.prog 41 #[.int .i64 n, .int .i64 m] w fun e w' => e = .returned (.int .i64 d) ∧ Grw w w') := Lib.hid (by rw [hd]; exact cmpInt_grw n m)
  have CO : Hid (∀ w g, Blk w g 3 #[.int .i64 c, .int .i64 d] → Calls Tryd.prog 39 #[.slice (some ⟨g, 0, none⟩) 2 2] w fun e w' => e = .returned (.int .i64 r) ∧ Grw w w') := Lib.hid (by rw [hr]; exact or_grw c d)
  have HR : Hid (r = cmpP s t X Y n m) := Lib.hid (by rw [hr, hc, hd]; rfl)
  clear hW0 hW1 hB0 hb0 hb1 hB1 hs0 hlx hly hx hy lx ly hc hd hr
  go_enter Tryd.func29, Tryd.ntmps29
  go_upto_region 1 with fail
  rw [HW0.out]
  rw [HW1.out]
  refine wp_region_held_drew (S := fun w' => Blk w' (w.heap.size) 36 (pnt s (ints X) n) ∧ Blk w' (w.heap.size + 1) 36 (pnt t (ints Y) m) ∧ Grw w w') (by kernel_rfl) hS0 (fun hS => ?_)
  change wpAnyH _ _ _ _ _ 13 #[false, false, false, false, false, false, false, false, false, false, false, false, false] _ _
  refine wpAnyH_take (i := 0) (v := .pointer (some ⟨w.heap.size, 0, none⟩)) rfl (by kernel_rfl) (by kernel_rfl) (by kernel_rfl) (fun _ _ _ h => h) (.inl ⟨by kernel_rfl, fun w _ => by kernel_rfl⟩) hS ?_
  simp only [List.getElem_toArray, List.getElem_cons_zero, List.getElem_cons_succ, Act.put, List.setIfInBounds_toArray, List.set_cons_zero, List.set_cons_succ]
  refine wpAnyH_take (i := 1) (v := .agg (adr s (ints X))) rfl (by kernel_rfl) (by kernel_rfl) (by kernel_rfl) (fun _ _ _ h => h) (yields_padr (.tmp 5) rfl (w.heap.size) (by kernel_rfl) s (ints X) n (fun w h => h.1) LX.out (by kernel_rfl)) hS ?_
  simp only [List.getElem_toArray, List.getElem_cons_zero, List.getElem_cons_succ, Act.put, List.setIfInBounds_toArray, List.set_cons_zero, List.set_cons_succ]
  refine wpAnyH_take (i := 2) (v := .pointer (some ⟨w.heap.size + 1, 0, none⟩)) rfl (by kernel_rfl) (by kernel_rfl) (by kernel_rfl) (fun _ _ _ h => h) (.inl ⟨by kernel_rfl, fun w _ => by kernel_rfl⟩) hS ?_
  simp only [List.getElem_toArray, List.getElem_cons_zero, List.getElem_cons_succ, Act.put, List.setIfInBounds_toArray, List.set_cons_zero, List.set_cons_succ]
  refine wpAnyH_take (i := 3) (v := .agg (adr t (ints Y))) rfl (by kernel_rfl) (by kernel_rfl) (by kernel_rfl) (fun _ _ _ h => h) (yields_padr (.tmp 7) rfl (w.heap.size + 1) (by kernel_rfl) t (ints Y) m (fun w h => h.2.1) LY.out (by kernel_rfl)) hS ?_
  simp only [List.getElem_toArray, List.getElem_cons_zero, List.getElem_cons_succ, Act.put, List.setIfInBounds_toArray, List.set_cons_zero, List.set_cons_succ]
  refine wpAnyH_take (i := 5) (v := .pointer (some ⟨w.heap.size, 17, none⟩)) rfl (by kernel_rfl) (by kernel_rfl) (by kernel_rfl) (fun _ _ _ h => h) (.inl ⟨by kernel_rfl, fun w _ => by kernel_rfl⟩) hS ?_
  simp only [List.getElem_toArray, List.getElem_cons_zero, List.getElem_cons_succ, Act.put, List.setIfInBounds_toArray, List.set_cons_zero, List.set_cons_succ]
  refine wpAnyH_take (i := 6) (v := .int .i64 n) rfl (by kernel_rfl) (by kernel_rfl) (by kernel_rfl) (fun _ _ _ h => h) (yields_cell (.tmp 10) rfl (w.heap.size) 17 (by kernel_rfl) n (fun w h => pnt_portCell h.1 LX.out) (by kernel_rfl)) hS ?_
  simp only [List.getElem_toArray, List.getElem_cons_zero, List.getElem_cons_succ, Act.put, List.setIfInBounds_toArray, List.set_cons_zero, List.set_cons_succ]
  refine wpAnyH_take (i := 7) (v := .pointer (some ⟨w.heap.size + 1, 17, none⟩)) rfl (by kernel_rfl) (by kernel_rfl) (by kernel_rfl) (fun _ _ _ h => h) (.inl ⟨by kernel_rfl, fun w _ => by kernel_rfl⟩) hS ?_
  simp only [List.getElem_toArray, List.getElem_cons_zero, List.getElem_cons_succ, Act.put, List.setIfInBounds_toArray, List.set_cons_zero, List.set_cons_succ]
  refine wpAnyH_take (i := 8) (v := .int .i64 m) rfl (by kernel_rfl) (by kernel_rfl) (by kernel_rfl) (fun _ _ _ h => h) (yields_cell (.tmp 12) rfl (w.heap.size + 1) 17 (by kernel_rfl) m (fun w h => pnt_portCell h.2.1 LY.out) (by kernel_rfl)) hS ?_
  simp only [List.getElem_toArray, List.getElem_cons_zero, List.getElem_cons_succ, Act.put, List.setIfInBounds_toArray, List.set_cons_zero, List.set_cons_succ]
  refine wpAnyH_ready (rs := [4]) (by kernel_rfl) (by simp) ?_
  refine AllReadyH.cons rfl (fun K' hK => ?_) AllReadyH.nil
  refine step_call 40 #[.agg (adr s (ints X)), .agg (adr t (ints Y))] (by kernel_rfl) (by kernel_rfl) (.int .i64 c) (CA.out _) (fun w1 hb1 => hK.out _ _ (⟨hS.1.kept hb1.1, hS.2.1.kept hb1.1, hS.2.2.then hb1⟩) (fun hS => ?_))
  simp only [List.getElem_toArray, List.getElem_cons_zero, List.getElem_cons_succ, Act.put, List.setIfInBounds_toArray, List.set_cons_zero, List.set_cons_succ]
  refine wpAnyH_ready (rs := [9]) (by kernel_rfl) (by simp) ?_
  refine AllReadyH.cons rfl (fun K' hK => ?_) AllReadyH.nil
  refine step_call 41 #[.int .i64 n, .int .i64 m] (by kernel_rfl) (by kernel_rfl) (.int .i64 d) (CC.out _) (fun w2 hb2 => hK.out _ _ (⟨hS.1.kept hb2.1, hS.2.1.kept hb2.1, hS.2.2.then hb2⟩) (fun hS => ?_))
  simp only [List.getElem_toArray, List.getElem_cons_zero, List.getElem_cons_succ, Act.put, List.setIfInBounds_toArray, List.set_cons_zero, List.set_cons_succ]
  refine wpAnyH_ready (rs := [10]) (by kernel_rfl) (by simp) ?_
  refine AllReadyH.cons rfl (fun K' hK => ?_) AllReadyH.nil
  obtain ⟨W3, hW3⟩ : ∃ W, W = w2.alloc (.cells #[.int .i64 c, .int .i64 d] 3) := ⟨_, rfl⟩
  have hb3 : Grw w2 W3 := hW3 ▸ Grw.alloc _ _
  have hB3 : Blk W3 w2.heap.size 3 #[.int .i64 c, .int .i64 d] := hW3 ▸ Blk.new w2 _ _
  refine step_run (.slice (some ⟨w2.heap.size, 0, none⟩) 2 2) W3 (by rw [hW3]; kernel_rfl) (by kernel_rfl) (hK.out _ _ (⟨hS.1.kept hb3.1, hS.2.1.kept hb3.1, hS.2.2.then hb3⟩) (fun hS => ?_))
  simp only [List.getElem_toArray, List.getElem_cons_zero, List.getElem_cons_succ, Act.put, List.setIfInBounds_toArray, List.set_cons_zero, List.set_cons_succ]
  refine wpAnyH_ready (rs := [11]) (by kernel_rfl) (by simp) ?_
  refine AllReadyH.cons rfl (fun K' hK => ?_) AllReadyH.nil
  refine step_call 39 #[.slice (some ⟨w2.heap.size, 0, none⟩) 2 2] (by kernel_rfl) (by kernel_rfl) (.int .i64 r) (CO.out _ _ hB3) (fun w4 hb4 => hK.out _ _ (⟨hS.1.kept hb4.1, hS.2.1.kept hb4.1, hS.2.2.then hb4⟩) (fun hS => ?_))
  simp only [List.getElem_toArray, List.getElem_cons_zero, List.getElem_cons_succ, Act.put, List.setIfInBounds_toArray, List.set_cons_zero, List.set_cons_succ]
  refine wpAnyH_take (i := 12) (v := .int .i64 r) rfl (by kernel_rfl) (by kernel_rfl) (by kernel_rfl) (fun _ _ _ h => h) (.inl ⟨by kernel_rfl, fun w _ => by kernel_rfl⟩) hS ?_
  simp only [List.getElem_toArray, List.getElem_cons_zero, List.getElem_cons_succ, Act.put, List.setIfInBounds_toArray, List.set_cons_zero, List.set_cons_succ]
  refine wpAnyH_done (by kernel_rfl) ?_ _
  obtain ⟨_, _, hbE⟩ := hS
  go_wp2
  go_ret
  exact ⟨ret_int HR.out, hbE⟩
end Go.Proofs.YtgpbmbefdgbblaaDoor
