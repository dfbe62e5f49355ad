/-
  maglev: slices.Equal of points; Same; Counts.
-/
import Derived.Test.YtgpbmbefdgbblaaDoorLat
namespace Go.Proofs.YtgpbmbefdgbblaaDoor
open Go.RowKit Go.Lib

set_option linter.unusedSimpArgs false in
set_option maxRecDepth 100000 in
set_option maxHeartbeats 4000000 in
theorem eqP_any (xs ys : List PS) (ax ay : Option Addr) (cx cy : Nat) (hx : xs.length ≤ 100000) (w : World) (hX : Elems encP 18 w.heap.size w ax xs) (hY : Elems encP 18 w.heap.size w ay ys) :
    Calls Tryd.prog 18 #[.slice ax xs.length cx, .slice ay ys.length cy] w fun e w' => e = .returned (.bool (decide (xs = ys))) ∧ Below w.heap.size w w' := by
  have HX := hid hX
  have HY := hid hY
  obtain ⟨n, hn⟩ : ∃ n, n = xs.length := ⟨_, rfl⟩
  obtain ⟨k, hk⟩ : ∃ k, k = ys.length := ⟨_, rfl⟩
  rw [← hn] at hx
  rw [← hn, ← hk]
  have Hn := hid hn
  have Hk := hid hk
  by_cases hne : n = k
  · subst hne
    have HN : Hid (∀ j (h1 : j < xs.length) (h2 : j < ys.length), xs[j] ≠ ys[j] → false = decide (xs = ys)) := hid (fun j h1 h2 h => by
      symm
      rw [decide_eq_false_iff_not]
      rintro rfl
      exact h rfl)
    have HA : Hid ((∀ j (h1 : j < xs.length) (h2 : j < ys.length), xs[j] = ys[j]) → true = decide (xs = ys)) := hid (fun h => by
      symm
      rw [decide_eq_true_eq]
      exact List.ext_getElem (by omega) h)
    clear hn hk hX hY
    go_enter Tryd.func18, Tryd.ntmps18
    go_wp2
    go_loopg [13] n (fun g s13 wr => ∃ p : Nat, s13 = .int .i64 (p : Int) ∧ p ≤ n ∧ n - p ≤ g ∧ Hid (Below w.heap.size w wr) ∧ Hid (∀ j (h1 : j < xs.length) (h2 : j < ys.length), j < p → xs[j] = ys[j]))
    case atStart => exact ⟨0, rfl, by omega, by omega, hid (Below.refl _ _), hid (fun j _ _ h => by omega)⟩
    case round =>
      obtain ⟨p, rfl, hp, hgp, HB, HF⟩ := hrel
      by_cases hlt : p < n
      · have hpx : p < xs.length := by have := Hn.out; omega
        have hpy : p < ys.length := by have := Hk.out; omega
        obtain ⟨gx, ox, rfl, hgx, hcx⟩ := HX.out p hpx
        obtain ⟨gy, oy, rfl, hgy, hcy⟩ := HY.out p hpy
        obtain ⟨x, ex⟩ : ∃ x, x = xs[p] := ⟨_, rfl⟩
        obtain ⟨y, ey⟩ : ∃ y, y = ys[p] := ⟨_, rfl⟩
        have HXp : Hid (wr.drew.rangeAt gx (ox + p * 18) (encPL x)) := hid (ex ▸ rangeAt_below HB.out.drew hgx hcx)
        have HYp : Hid (wr.drew.rangeAt gy (oy + p * 18) (encPL y)) := hid (ey ▸ rangeAt_below HB.out.drew hgy hcy)
        have HNp : Hid (x ≠ y → false = decide (xs = ys)) := hid (fun h => HN.out p hpx hpy (by rw [← ex, ← ey]; exact h))
        have HFp : Hid (x = y → ∀ j (h1 : j < xs.length) (h2 : j < ys.length), j < p + 1 → xs[j] = ys[j]) := hid (fun h j h1 h2 hj => by
          by_cases e : j = p
          · subst e; rw [← ex, ← ey]; exact h
          · exact HF.out j h1 h2 (by omega))
        have HB2 := hid HB.out.drew
        clear hcx hcy ex ey hpx hpy
        by_cases hxy : x = y
        · have HF2 := hid (HFp.out hxy)
          have heq := neq_pt x y
          rw [decide_eq_true hxy] at heq
          clear hxy
          go_wp2_with fail
          refine wp_region_held_drew (S := fun V => V = wr.drew) (by kernel_rfl) rfl (fun hS => ?_)
          change wpAnyH _ _ _ _ _ 9 #[false, false, false, false, false, false, false, false, false] _ _
          refine wpAnyH_take (i := 0) (v := .slice (some ⟨gx, ox, none⟩) n cx) rfl (by kernel_rfl) (by kernel_rfl) (by kernel_rfl) (fun _ _ _ h => h) (.inl ⟨by kernel_rfl, fun V hV => by unfold execOp; go_simp; try (intro h; omega)⟩) hS ?_
          simp only [List.getElem_toArray, List.getElem_cons_zero, List.getElem_cons_succ, Act.put, List.setIfInBounds_toArray, List.set_cons_zero, List.set_cons_succ]
          refine wpAnyH_take (i := 1) (v := .int .i64 (p : Int)) rfl (by kernel_rfl) (by kernel_rfl) (by kernel_rfl) (fun _ _ _ h => h) (.inl ⟨by kernel_rfl, fun V hV => by unfold execOp; go_simp; try (intro h; omega)⟩) hS ?_
          simp only [List.getElem_toArray, List.getElem_cons_zero, List.getElem_cons_succ, Act.put, List.setIfInBounds_toArray, List.set_cons_zero, List.set_cons_succ]
          refine wpAnyH_take (i := 2) (v := .pointer (some ⟨gx, ox + p * 18, none⟩)) rfl (by kernel_rfl) (by kernel_rfl) (by kernel_rfl) (fun _ _ _ h => h) (.inl ⟨by kernel_rfl, fun V hV => by unfold execOp; go_simp; try (intro h; omega)⟩) hS ?_
          simp only [List.getElem_toArray, List.getElem_cons_zero, List.getElem_cons_succ, Act.put, List.setIfInBounds_toArray, List.set_cons_zero, List.set_cons_succ]
          refine wpAnyH_take (i := 3) (v := .agg (encP x)) rfl (by kernel_rfl) (by kernel_rfl) (by kernel_rfl) (fun _ _ _ h => h) (yieldsIf_load_mid (by kernel_rfl) 36 (.tmp 18) rfl gx (ox + p * 18) rfl (encPL x) _ (fun V hV => hV ▸ HXp.out) Tryd.underlying36 rfl (encPL_info0 x)) hS ?_
          simp only [List.getElem_toArray, List.getElem_cons_zero, List.getElem_cons_succ, Act.put, List.setIfInBounds_toArray, List.set_cons_zero, List.set_cons_succ]
          refine wpAnyH_take (i := 4) (v := .slice (some ⟨gy, oy, none⟩) n cy) rfl (by kernel_rfl) (by kernel_rfl) (by kernel_rfl) (fun _ _ _ h => h) (.inl ⟨by kernel_rfl, fun V hV => by unfold execOp; go_simp; try (intro h; omega)⟩) hS ?_
          simp only [List.getElem_toArray, List.getElem_cons_zero, List.getElem_cons_succ, Act.put, List.setIfInBounds_toArray, List.set_cons_zero, List.set_cons_succ]
          refine wpAnyH_take (i := 5) (v := .int .i64 (p : Int)) rfl (by kernel_rfl) (by kernel_rfl) (by kernel_rfl) (fun _ _ _ h => h) (.inl ⟨by kernel_rfl, fun V hV => by unfold execOp; go_simp; try (intro h; omega)⟩) hS ?_
          simp only [List.getElem_toArray, List.getElem_cons_zero, List.getElem_cons_succ, Act.put, List.setIfInBounds_toArray, List.set_cons_zero, List.set_cons_succ]
          refine wpAnyH_take (i := 6) (v := .pointer (some ⟨gy, oy + p * 18, none⟩)) rfl (by kernel_rfl) (by kernel_rfl) (by kernel_rfl) (fun _ _ _ h => h) (.inl ⟨by kernel_rfl, fun V hV => by unfold execOp; go_simp; try (intro h; omega)⟩) hS ?_
          simp only [List.getElem_toArray, List.getElem_cons_zero, List.getElem_cons_succ, Act.put, List.setIfInBounds_toArray, List.set_cons_zero, List.set_cons_succ]
          refine wpAnyH_take (i := 7) (v := .agg (encP y)) rfl (by kernel_rfl) (by kernel_rfl) (by kernel_rfl) (fun _ _ _ h => h) (yieldsIf_load_mid (by kernel_rfl) 36 (.tmp 22) rfl gy (oy + p * 18) rfl (encPL y) _ (fun V hV => hV ▸ HYp.out) Tryd.underlying36 rfl (encPL_info0 y)) hS ?_
          simp only [List.getElem_toArray, List.getElem_cons_zero, List.getElem_cons_succ, Act.put, List.setIfInBounds_toArray, List.set_cons_zero, List.set_cons_succ]
          refine wpAnyH_take (i := 8) (v := .bool false) rfl (by kernel_rfl) (by kernel_rfl) (by kernel_rfl) (fun _ _ _ h => h) (.inl ⟨by kernel_rfl, fun V hV => by unfold execOp; simp [go_sem, heq]⟩) hS ?_
          simp only [List.getElem_toArray, List.getElem_cons_zero, List.getElem_cons_succ, Act.put, List.setIfInBounds_toArray, List.set_cons_zero, List.set_cons_succ]
          refine wpAnyH_done (by kernel_rfl) ?_ _
          clear hS
          clear heq
          go_wp2
          go_roundg (n - (p + 1))
          case measure => omega
          case rel => exact ⟨p + 1, by go_num, by omega, Nat.le_refl _, HB2, HF2⟩
        · have HR := hid (HNp.out hxy)
          have heq := neq_pt x y
          rw [decide_eq_false hxy] at heq
          clear hxy
          go_wp2_with fail
          refine wp_region_held_drew (S := fun V => V = wr.drew) (by kernel_rfl) rfl (fun hS => ?_)
          change wpAnyH _ _ _ _ _ 9 #[false, false, false, false, false, false, false, false, false] _ _
          refine wpAnyH_take (i := 0) (v := .slice (some ⟨gx, ox, none⟩) n cx) rfl (by kernel_rfl) (by kernel_rfl) (by kernel_rfl) (fun _ _ _ h => h) (.inl ⟨by kernel_rfl, fun V hV => by unfold execOp; go_simp; try (intro h; omega)⟩) hS ?_
          simp only [List.getElem_toArray, List.getElem_cons_zero, List.getElem_cons_succ, Act.put, List.setIfInBounds_toArray, List.set_cons_zero, List.set_cons_succ]
          refine wpAnyH_take (i := 1) (v := .int .i64 (p : Int)) rfl (by kernel_rfl) (by kernel_rfl) (by kernel_rfl) (fun _ _ _ h => h) (.inl ⟨by kernel_rfl, fun V hV => by unfold execOp; go_simp; try (intro h; omega)⟩) hS ?_
          simp only [List.getElem_toArray, List.getElem_cons_zero, List.getElem_cons_succ, Act.put, List.setIfInBounds_toArray, List.set_cons_zero, List.set_cons_succ]
          refine wpAnyH_take (i := 2) (v := .pointer (some ⟨gx, ox + p * 18, none⟩)) rfl (by kernel_rfl) (by kernel_rfl) (by kernel_rfl) (fun _ _ _ h => h) (.inl ⟨by kernel_rfl, fun V hV => by unfold execOp; go_simp; try (intro h; omega)⟩) hS ?_
          simp only [List.getElem_toArray, List.getElem_cons_zero, List.getElem_cons_succ, Act.put, List.setIfInBounds_toArray, List.set_cons_zero, List.set_cons_succ]
          refine wpAnyH_take (i := 3) (v := .agg (encP x)) rfl (by kernel_rfl) (by kernel_rfl) (by kernel_rfl) (fun _ _ _ h => h) (yieldsIf_load_mid (by kernel_rfl) 36 (.tmp 18) rfl gx (ox + p * 18) rfl (encPL x) _ (fun V hV => hV ▸ HXp.out) Tryd.underlying36 rfl (encPL_info0 x)) hS ?_
          simp only [List.getElem_toArray, List.getElem_cons_zero, List.getElem_cons_succ, Act.put, List.setIfInBounds_toArray, List.set_cons_zero, List.set_cons_succ]
          refine wpAnyH_take (i := 4) (v := .slice (some ⟨gy, oy, none⟩) n cy) rfl (by kernel_rfl) (by kernel_rfl) (by kernel_rfl) (fun _ _ _ h => h) (.inl ⟨by kernel_rfl, fun V hV => by unfold execOp; go_simp; try (intro h; omega)⟩) hS ?_
          simp only [List.getElem_toArray, List.getElem_cons_zero, List.getElem_cons_succ, Act.put, List.setIfInBounds_toArray, List.set_cons_zero, List.set_cons_succ]
          refine wpAnyH_take (i := 5) (v := .int .i64 (p : Int)) rfl (by kernel_rfl) (by kernel_rfl) (by kernel_rfl) (fun _ _ _ h => h) (.inl ⟨by kernel_rfl, fun V hV => by unfold execOp; go_simp; try (intro h; omega)⟩) hS ?_
          simp only [List.getElem_toArray, List.getElem_cons_zero, List.getElem_cons_succ, Act.put, List.setIfInBounds_toArray, List.set_cons_zero, List.set_cons_succ]
          refine wpAnyH_take (i := 6) (v := .pointer (some ⟨gy, oy + p * 18, none⟩)) rfl (by kernel_rfl) (by kernel_rfl) (by kernel_rfl) (fun _ _ _ h => h) (.inl ⟨by kernel_rfl, fun V hV => by unfold execOp; go_simp; try (intro h; omega)⟩) hS ?_
          simp only [List.getElem_toArray, List.getElem_cons_zero, List.getElem_cons_succ, Act.put, List.setIfInBounds_toArray, List.set_cons_zero, List.set_cons_succ]
          refine wpAnyH_take (i := 7) (v := .agg (encP y)) rfl (by kernel_rfl) (by kernel_rfl) (by kernel_rfl) (fun _ _ _ h => h) (yieldsIf_load_mid (by kernel_rfl) 36 (.tmp 22) rfl gy (oy + p * 18) rfl (encPL y) _ (fun V hV => hV ▸ HYp.out) Tryd.underlying36 rfl (encPL_info0 y)) hS ?_
          simp only [List.getElem_toArray, List.getElem_cons_zero, List.getElem_cons_succ, Act.put, List.setIfInBounds_toArray, List.set_cons_zero, List.set_cons_succ]
          refine wpAnyH_take (i := 8) (v := .bool true) rfl (by kernel_rfl) (by kernel_rfl) (by kernel_rfl) (fun _ _ _ h => h) (.inl ⟨by kernel_rfl, fun V hV => by unfold execOp; simp [go_sem, heq]⟩) hS ?_
          simp only [List.getElem_toArray, List.getElem_cons_zero, List.getElem_cons_succ, Act.put, List.setIfInBounds_toArray, List.set_cons_zero, List.set_cons_succ]
          refine wpAnyH_done (by kernel_rfl) ?_ _
          clear hS
          clear heq
          go_wp2
          go_ret
          exact ⟨ret_b rfl HR.out, HB2.out⟩
      · obtain rfl : p = n := by omega
        have HR := hid (HA.out (fun j h1 h2 => HF.out j h1 h2 (by have := Hn.out; omega)))
        go_wp2
        go_ret
        exact ⟨ret_b rfl HR.out, HB.out⟩
  · have HR : Hid (false = decide (xs = ys)) := hid (by
      symm
      rw [decide_eq_false_iff_not]
      rintro rfl
      exact hne (hn.trans hk.symm))
    have q : ((n : Int) != (k : Int)) = true := by rw [bne_iff_ne]; omega
    clear hn hk hX hY
    go_enter Tryd.func18, Tryd.ntmps18
    go_wp2
    go_ret
    exact ⟨ret_b rfl HR.out, Below.refl _ _⟩

/-- Are two tables the same? -/
def sameT (m m' : Int) (bs bs' : List PS) (L L' : List Int) : Bool := decide (m = m') && decide (bs = bs') && decide (L = L')

set_option linter.unusedSimpArgs false in
set_option maxRecDepth 100000 in
set_option maxHeartbeats 4000000 in
theorem same_tabs (m m' : Int) (bs bs' : List PS) (L L' : List Int) (ab ab' as' as2 : Option Addr) (cb cb' cs cs' : Nat) (hL : L.length ≤ 100000) (hb : bs.length ≤ 100000) (w : World) (hT : TabIn w.heap.size w ab as' bs L) (hT' : TabIn w.heap.size w ab' as2 bs' L') :
    Calls Tryd.prog 7 #[.agg #[.int .i64 m, .slice ab bs.length cb, .slice as' L.length cs], .agg #[.int .i64 m', .slice ab' bs'.length cb', .slice as2 L'.length cs']] w fun e w' => e = .returned (.bool (sameT m m' bs bs' L L')) ∧ Below w.heap.size w w' := by
  obtain ⟨W0, hW0⟩ : ∃ W, W = w.alloc (.cells #[.int .i64 m, .slice ab bs.length cb, .slice as' L.length cs] 26) := ⟨_, rfl⟩
  obtain ⟨W1, hW1⟩ : ∃ W, W = W0.alloc (.cells #[.int .i64 m', .slice ab' bs'.length cb', .slice as2 L'.length cs'] 26) := ⟨_, rfl⟩
  have s0 : W0.heap.size = w.heap.size + 1 := by rw [hW0]; simp
  have b0 : Below w.heap.size w W0 := hW0 ▸ (Below.refl _ _).alloc (Nat.le_refl _) _
  have b1 : Below W0.heap.size W0 W1 := hW1 ▸ (Below.refl _ _).alloc (Nat.le_refl _) _
  have k0 : Blk W1 w.heap.size 26 #[.int .i64 m, .slice ab bs.length cb, .slice as' L.length cs] := (hW0 ▸ Blk.new w _ _ : Blk W0 w.heap.size 26 _).kept b1
  have k1 : Blk W1 (w.heap.size + 1) 26 #[.int .i64 m', .slice ab' bs'.length cb', .slice as2 L'.length cs'] := by rw [← s0]; exact (hW1 ▸ Blk.new W0 _ _ : Blk W1 W0.heap.size 26 _)
  have HW0 := hid hW0.symm
  have HW1 := hid hW1.symm
  have Hb1 := hid (bel2 b0 b1)
  have K0 := hid k0
  have K1 := hid k1
  have HT1 := hid (hT.kept (bel2 b0 b1))
  have HT2 := hid (hT'.kept (bel2 b0 b1))
  have HE := hid (fun W (h : Below W1.heap.size W1 W) => eqP_any bs bs' ab ab' cb cb' hb W (HT1.out.kept h).els (HT2.out.kept h).els)
  have HI := hid (fun W (h : Below W1.heap.size W1 W) => eqI_any L L' as' as2 cs cs' hL W (HT1.out.kept h).ints (HT2.out.kept h).ints)
  have HR : Hid (sameT m m' bs bs' L L' = (decide (m = m') && decide (bs = bs') && decide (L = L'))) := hid rfl
  generalize sameT m m' bs bs' L L' = R at *
  generalize decide (bs = bs') = q1 at *
  generalize decide (L = L') = q2 at *
  have c0 : W1.cell? ⟨w.heap.size, 0, none⟩ = some (.int .i64 m) := k0.cell 0
  have d0 : W1.cell? ⟨w.heap.size + 1, 0, none⟩ = some (.int .i64 m') := k1.cell 0
  have c1 : W1.cell? ⟨w.heap.size, 1, none⟩ = some (.slice ab bs.length cb) := k0.cell 1
  have d1 : W1.cell? ⟨w.heap.size + 1, 1, none⟩ = some (.slice ab' bs'.length cb') := k1.cell 1
  clear hW0 hW1 s0 b0 b1 k0 k1 hT hT' hL hb
  by_cases hm : m = m'
  · have em : (m == m') = true := by simp [hm]
    have HR1 : Hid (R = (q1 && q2)) := hid (by rw [HR.out, decide_eq_true hm, Bool.true_and])
    clear hm HR
    cases q1
    · go_enter Tryd.func7, Tryd.ntmps7
      go_upto_region 1 with fail
      rw [HW0.out]
      rw [HW1.out]
      go_wp2_with fail
      refine (HE.out _ (Below.refl _ _)).mono ?_
      rintro e w2 ⟨rfl, hb⟩
      have Hb2 := hid (bel2 Hb1.out hb)
      clear hb
      go_wp2
      go_ret
      exact ⟨ret_b rfl (by rw [HR1.out]; rfl), Hb2.out⟩
    · go_enter Tryd.func7, Tryd.ntmps7
      go_upto_region 1 with fail
      rw [HW0.out]
      rw [HW1.out]
      go_wp2_with fail
      refine (HE.out _ (Below.refl _ _)).mono ?_
      rintro e w2 ⟨rfl, hb⟩
      have Hb2 := hid (bel2 Hb1.out hb)
      have HBB := hid hb
      have c2 : w2.cell? ⟨w.heap.size, 2, none⟩ = some (.slice as' L.length cs) := (K0.out.kept hb).cell 2
      have d2 : w2.cell? ⟨w.heap.size + 1, 2, none⟩ = some (.slice as2 L'.length cs') := (K1.out.kept hb).cell 2
      clear hb
      go_wp2_with fail
      refine (HI.out _ HBB.out).mono ?_
      rintro e w3 ⟨rfl, hb⟩
      have Hb3 := hid (bel2 Hb2.out hb)
      clear hb
      go_wp2
      go_ret
      exact ⟨ret_b rfl (by rw [HR1.out, Bool.true_and]), Hb3.out⟩
  · have em : (m == m') = false := by simp [hm]
    have HR1 : Hid (R = false) := hid (by rw [HR.out, decide_eq_false hm, Bool.false_and, Bool.false_and])
    clear hm HR
    go_enter Tryd.func7, Tryd.ntmps7
    go_upto_region 1 with fail
    rw [HW0.out]
    rw [HW1.out]
    go_wp2
    go_ret
    exact ⟨ret_b rfl (by rw [HR1.out]), Hb1.out⟩
end Go.Proofs.YtgpbmbefdgbblaaDoor
