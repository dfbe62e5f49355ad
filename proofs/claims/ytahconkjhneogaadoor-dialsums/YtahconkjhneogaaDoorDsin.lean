/-
  The law DialSums.
-/
import Derived.Test.YtahconkjhneogaaDoorDrba
import Derived.Test.YtahconkjhneogaaDoorDtog
namespace Go.Proofs.YtahconkjhneogaaDoor
open Go.RowKit Go.Lib

theorem ev_fi (a b : Int) (h1 : a.natAbs ≤ 1000000) (h2 : b.natAbs ≤ 1000000) : (fe (fi a) (fi a) && fe (fi b) (fi b)) = true := by
  rw [show fe (fi a) (fi a) = true from fe_fi a h1, show fe (fi b) (fi b) = true from fe_fi b h2]; rfl

set_option linter.unusedSimpArgs false in
set_option maxRecDepth 100000 in
set_option maxHeartbeats 4000000 in
theorem sums_long (ad : Option Addr) (n cap : Nat) (who m : Int) (h : 300 < n) (w : World) :
    Calls Tryd.prog 3 #[.slice ad n cap, .int .i64 who, .int .i64 m] w fun e w' => e = .returned (.bool true) ∧ Below w.heap.size w w' := by
  have HA := hid (alive_any w)
  go_enter Tryd.func3, Tryd.ntmps3
  go_wp2_with fail
  refine HA.out.mono ?_
  rintro e w1 ⟨rfl, hb⟩
  have Hb := hid hb
  clear hb
  go_wp2
  go_ret
  exact ⟨rfl, Hb.out⟩

set_option linter.unusedSimpArgs false in
set_option maxRecDepth 100000 in
set_option maxHeartbeats 4000000 in
theorem sums_out (ad : Option Addr) (cap : Nat) (xs : List Int) (who m : Int) (hx : xs.length ≤ 300) (hm : m < 1 ∨ 24 < m) (w : World) (hX : IntsIn w.heap.size w ad xs) :
    Calls Tryd.prog 3 #[.slice ad xs.length cap, .int .i64 who, .int .i64 m] w fun e w' => e = .returned (.bool true) ∧ Below w.heap.size w w' := by
  have HA := hid (alive_any w)
  have HAll := hid (fun W => all_no ad xs.length cap m hm W)
  have HWo := hid (fun W => worst_no ad xs.length cap m hm W)
  have HBa := hid (fun W (hb : Below w.heap.size w W) => balance_any ad cap xs who (by omega) W ((hX.below hb).mono hb.size))
  have HRb := hid (fun W (hb : Below w.heap.size w W) => rbalance_any ad cap xs who (by omega) W ((hX.below hb).mono hb.size))
  have hs1 := balr_small xs who xs.length
  have hs2 := bali_small xs who xs.length
  have HF := hid (ev_fi (balr xs who xs.length) (bali xs who xs.length) (by omega) (by omega))
  have q0 : (FloatKind.f64.format.order 0 0 == some .eq) = true := by decide +kernel
  have hq : decide (m < 1) = true ∨ (decide (m < 1) = false ∧ decide (24 < m) = true) := by
    rw [decide_eq_true_eq, decide_eq_false_iff_not, decide_eq_true_eq]; omega
  generalize balr xs who xs.length = a at *
  generalize bali xs who xs.length = b at *
  generalize xs.length = n at *
  have q2 : decide ((300 : Int) < (n : Int)) = false := decide_eq_false (by omega)
  clear hX hm hs1 hs2
  unfold cx at *
  rcases hq with q1 | ⟨q1, q3⟩
  all_goals
    go_enter Tryd.func3, Tryd.ntmps3
    go_wp2_with fail
    refine HA.out.mono ?_
    rintro e w1 ⟨rfl, hb⟩
    have Hb1 := hid hb
    clear hb HA
    go_wp2_with fail
    refine (HAll.out _).mono ?_
    rintro e w2 ⟨rfl, rfl⟩
    go_wp2_with fail
    refine (HWo.out _).mono ?_
    rintro e w3 ⟨rfl, hb⟩
    have Hb3 := hid (bel2 Hb1.out hb)
    clear hb HAll HWo Hb1
    go_wp2_with fail
    refine (HBa.out _ Hb3.out).mono ?_
    rintro e w4 ⟨rfl, hb⟩
    have Hb4 := hid (bel2 Hb3.out hb)
    clear hb Hb3 HBa
    go_wp2_with fail
    refine (rof_any _ _ _).mono ?_
    rintro e w5 ⟨rfl, hb⟩
    have Hb5 := hid (bel2 Hb4.out hb)
    clear hb Hb4
    go_wp2_with fail
    refine (HRb.out _ Hb5.out).mono ?_
    rintro e w6 ⟨rfl, hb⟩
    have Hb6 := hid (bel2 Hb5.out hb)
    clear hb Hb5 HRb
    go_wp2_with fail
    refine (even_any _ _ _ _ _).mono ?_
    rintro e w7 ⟨rfl, hb⟩
    have Hb7 := hid (bel2 Hb6.out hb)
    clear hb Hb6
    rw [HF.out]
    go_wp2
    go_ret
    exact ⟨rfl, Hb7.out⟩

set_option linter.unusedSimpArgs false in
set_option maxRecDepth 100000 in
set_option maxHeartbeats 8000000 in
theorem sums_in (ad : Option Addr) (cap : Nat) (xs : List Int) (who : Int) (M : Nat) (hx : xs.length ≤ 300) (h1 : 1 ≤ M) (h2 : M ≤ 24) (w : World) (hX : IntsIn w.heap.size w ad xs) :
    Calls Tryd.prog 3 #[.slice ad xs.length cap, .int .i64 who, .int .i64 (M : Int)] w fun e w' => e = .returned (.bool true) ∧ Below w.heap.size w w' := by
  have HA := hid (alive_any w)
  have HAll := hid (fun W (hb : Below w.heap.size w W) => all_any ad cap xs (by omega) M h1 h2 W ((hX.below hb).mono hb.size))
  have HWo := hid (fun W (hb : Below w.heap.size w W) => worst_any ad cap xs hx M h1 h2 W ((hX.below hb).mono hb.size))
  have HBa := hid (fun W (hb : Below w.heap.size w W) => balance_any ad cap xs who (by omega) W ((hX.below hb).mono hb.size))
  have HRb := hid (fun (k : Int) W (hb : Below w.heap.size w W) => rbalance_any ad cap xs k (by omega) W ((hX.below hb).mono hb.size))
  have HR := hid (fun c => wst_range (nrm xs xs.length) 320000 (nrm_range xs xs.length hx) (by decide) c)
  have HNr := hid (nrm_range xs xs.length hx)
  have HNo := hid (fun (c : Nat) W => rnorm_any (balr xs (c : Nat) xs.length) (bali xs (c : Nat) xs.length) (by have := balr_small xs (c : Nat) xs.length; omega) (by have := bali_small xs (c : Nat) xs.length; omega) W)
  have HF := hid (fun (k : Int) => ev_fi (balr xs k xs.length) (bali xs k xs.length) (by have := balr_small xs k xs.length; omega) (by have := bali_small xs k xs.length; omega))
  obtain ⟨n, hn⟩ : ∃ n, n = xs.length := ⟨_, rfl⟩
  rw [← hn] at HAll HWo HBa HRb HR HNr HNo HF hx ⊢
  have q1 : decide ((M : Int) < 1) = false := decide_eq_false (by omega)
  have q3 : decide ((24 : Int) < (M : Int)) = false := decide_eq_false (by omega)
  have q2 : decide ((300 : Int) < (n : Int)) = false := decide_eq_false (by omega)
  have qM : ((M : Int) != (M : Int)) = false := by simp
  have H0 : Hid ((.float .f64 0 : Value) = .float .f64 (fi (wst (nrm xs n) 0).2)) := hid (by unfold wst; rw [fi_zero])
  clear hX hn
  go_enter Tryd.func3, Tryd.ntmps3
  go_wp2_with fail
  refine HA.out.mono ?_
  rintro e w1 ⟨rfl, hb⟩
  have Hb1 := hid hb
  clear hb HA
  go_wp2_with fail
  refine (HAll.out _ Hb1.out).mono ?_
  rintro e w2 ⟨G, rfl, hG, hrow, hb⟩
  have Hb2 := hid (bel2 Hb1.out hb)
  have HR2 := hid hrow
  clear hb HAll Hb1 hG hrow
  go_wp2_with fail
  refine (HWo.out _ Hb2.out).mono ?_
  rintro e w3 ⟨rfl, hb⟩
  have Hb3 := hid (bel2 Hb2.out hb)
  have HR3 := hid (HR2.out.of_block (hb.block _ HR2.out.lt))
  clear hb HWo Hb2 HR2
  go_wp2_with fail
  refine (HBa.out _ Hb3.out).mono ?_
  rintro e w4 ⟨rfl, hb⟩
  have Hb4 := hid (bel2 Hb3.out hb)
  have HR4 := hid (HR3.out.of_block (hb.block _ HR3.out.lt))
  clear hb Hb3 HBa HR3
  unfold cx
  go_wp2_with fail
  refine (rof_any _ _ _).mono ?_
  rintro e w5 ⟨rfl, hb⟩
  have Hb5 := hid (bel2 Hb4.out hb)
  have HR5 := hid (HR4.out.of_block (hb.block _ HR4.out.lt))
  clear hb Hb4 HR4
  go_wp2_with fail
  refine (HRb.out _ _ Hb5.out).mono ?_
  rintro e w6 ⟨rfl, hb⟩
  have Hb6 := hid (bel2 Hb5.out hb)
  have HR6 := hid (HR5.out.of_block (hb.block _ HR5.out.lt))
  clear hb Hb5 HR5
  go_wp2_with fail
  refine (even_any _ _ _ _ _).mono ?_
  rintro e w7 ⟨rfl, hb⟩
  have Hb7 := hid (bel2 Hb6.out hb)
  have HR7 := hid (HR6.out.of_block (hb.block _ HR6.out.lt))
  clear hb Hb6 HR6
  rw [HF.out]
  go_wp2
  go_loopg [10, 11, 62] M (fun g s u t wr => ∃ p : Nat, p ≤ M ∧ g = M - p ∧ t = .int .i64 (p : Int) ∧ s = .int .i64 (wst (nrm xs n) p).1 ∧ u = .float .f64 (fi (wst (nrm xs n) p).2) ∧ Hid (Below w7.heap.size w7 wr))
  case atStart => exact ⟨0, by omega, by omega, rfl, rfl, H0.out, hid (Below.refl _ _)⟩
  case round =>
    obtain ⟨p, hp, rfl, rfl, rfl, rfl, HB4⟩ := hrel
    by_cases hlt : p < M
    · have d0 : wr.cell? ⟨G, p, none⟩ = some (cx (balr xs (p : Nat) n) (bali xs (p : Nat) n)) := by
        rw [HB4.out.cell (p := ⟨G, p, none⟩) HR7.out.lt, HR7.out.cell hlt]
        simp [allV, hlt]
      have HRp := hid (HRb.out (p : Int) wr (bel2 Hb7.out HB4.out))
      have HNp : Hid (∀ W, Calls Tryd.prog 12 #[.agg #[.float .f64 (fi (balr xs (p : Nat) n)), .float .f64 (fi (bali xs (p : Nat) n))]] W fun e w' => e = .returned (.float .f64 (fi (nrm xs n p))) ∧ Below W.heap.size W w') := hid (fun W => HNo.out p W)
      have HFp := hid (HF.out (p : Int))
      have hr := HR.out p
      have hq := HNr.out p
      have hgt := gt_fi (nrm xs n p) (wst (nrm xs n) p).2 (by omega) (by omega)
      have HSu : Hid ((wst (nrm xs n) p).1 < 0 ∨ (wst (nrm xs n) p).2 < nrm xs n p → ((p : Int) = (wst (nrm xs n) (p + 1)).1 ∧ nrm xs n p = (wst (nrm xs n) (p + 1)).2)) := hid (fun h => by
        rw [show wst (nrm xs n) (p + 1) = ((p : Int), nrm xs n p) by rw [wst, if_pos h]]
        exact ⟨rfl, rfl⟩)
      have HSn : Hid (¬ ((wst (nrm xs n) p).1 < 0 ∨ (wst (nrm xs n) p).2 < nrm xs n p) → ((wst (nrm xs n) p).1 = (wst (nrm xs n) (p + 1)).1 ∧ (wst (nrm xs n) p).2 = (wst (nrm xs n) (p + 1)).2)) := hid (fun h => by
        rw [show wst (nrm xs n) (p + 1) = wst (nrm xs n) p by rw [wst, if_neg h]]
        exact ⟨rfl, rfl⟩)
      generalize (wst (nrm xs n) p).1 = k at *
      generalize (wst (nrm xs n) p).2 = b at *
      generalize nrm xs n p = q at *
      generalize balr xs (p : Nat) n = a1 at *
      generalize bali xs (p : Nat) n = a2 at *
      clear HRb HR HNr HNo HF H0
      have hcase : k < 0 ∨ (¬ k < 0 ∧ b < q) ∨ (¬ k < 0 ∧ ¬ b < q) := by omega
      rcases hcase with hk | ⟨hk, hb⟩ | ⟨hk, hb⟩
      · have HEE := hid (HSu.out (.inl hk))
        clear HSu HSn hgt
        go_wp2_with fail
        refine HRp.out.mono ?_
        rintro e w8 ⟨rfl, hb⟩
        have HB8 := hid (HB4.out.trans (hb.mono HB4.out.size))
        clear hb HRp HB4 d0
        obtain ⟨W9, hW9⟩ : ∃ W, W = w8.alloc (.cells #[.float .f64 0, .float .f64 0] 31) := ⟨_, rfl⟩
        have HW9 := hid hW9.symm
        have K9 := hid (hW9 ▸ Blk.new w8 _ _ : Blk W9 w8.heap.size 31 #[.float .f64 0, .float .f64 0])
        have HB9 : Hid (Below w7.heap.size w7 W9) := hid (HB8.out.trans ((hW9 ▸ (Below.refl _ _).alloc (Nat.le_refl _) _ : Below w8.heap.size w8 W9).mono HB8.out.size))
        clear hW9
        have KV := hid (K9.out.row #[.float .f64 (fi a1), .float .f64 (fi a2)])
        have HBV := hid (below_setRow HB9.out HB8.out.size #[.float .f64 (fi a1), .float .f64 (fi a2)])
        generalize hV : W9.setRow w8.heap.size _ = V at KV HBV
        have HV := hid hV
        clear hV
        go_wp2_with ((try rw [HW9.out]); refine wpl_store 31 _ _ rfl w8.heap.size #[.float .f64 (fi a1), .float .f64 (fi a2)] rfl rfl _ _ K9.out 2 Tryd.infoC rfl rfl (by simp [Value.oneCell']) rfl ?_; rw [HV.out])
        generalize w8.heap.size = B at *
        refine wp_region_held_drew (S := fun W => Blk W B 31 #[.float .f64 (fi a1), .float .f64 (fi a2)] ∧ Below w7.heap.size w7 W) (by kernel_rfl) ⟨KV.out, HBV.out.drew⟩ (fun hS => ?_)
        have hKeep : Hid (∀ (U U' : World), (Blk U B 31 #[.float .f64 (fi a1), .float .f64 (fi a2)] ∧ Below w7.heap.size w7 U) → Below U.heap.size U U' → (Blk U' B 31 #[.float .f64 (fi a1), .float .f64 (fi a2)] ∧ Below w7.heap.size w7 U')) := hid (fun U U' h hb => ⟨h.1.kept hb, h.2.trans (hb.mono h.2.size)⟩)
        change wpAnyH _ _ _ _ _ 5 #[false, false, false, false, false] _ _
        refine wpAnyH_take (i := 0) (v := cx a1 a2) rfl (by kernel_rfl) (by kernel_rfl) (by kernel_rfl) (fun _ _ _ h => h) (.inl ⟨by kernel_rfl, fun V hV => by unfold execOp; go_simp⟩) hS ?_
        simp only [List.getElem_toArray, List.getElem_cons_zero, List.getElem_cons_succ, Act.put, List.setIfInBounds_toArray, List.set_cons_zero, List.set_cons_succ]
        refine wpAnyH_take (i := 2) (v := .agg #[.float .f64 (fi a1), .float .f64 (fi a2)]) rfl (by kernel_rfl) (by kernel_rfl) (by kernel_rfl) (fun _ _ _ h => h) (yields_load 31 (.tmp 14) rfl B rfl 31 _ _ (fun V h => h.1) Tryd.underlying31 rfl 2 Tryd.infoC rfl (by kernel_rfl)) hS ?_
        simp only [List.getElem_toArray, List.getElem_cons_zero, List.getElem_cons_succ, Act.put, List.setIfInBounds_toArray, List.set_cons_zero, List.set_cons_succ]
        refine wpAnyH_ready (rs := [1]) (by kernel_rfl) (by simp) ?_
        refine AllReadyH.cons rfl (fun K' hK => ?_) AllReadyH.nil
        refine step_call 9 #[cx a1 a2] (by kernel_rfl) (by kernel_rfl) (.agg #[.float .f64 (fi a1), .float .f64 (fi a2)]) (rof_any _ _ _) (fun V3 h => hK.out _ _ (hKeep.out _ _ hS h) (fun hS => ?_))
        simp only [List.getElem_toArray, List.getElem_cons_zero, List.getElem_cons_succ, Act.put, List.setIfInBounds_toArray, List.set_cons_zero, List.set_cons_succ]
        refine wpAnyH_ready (rs := [3]) (by kernel_rfl) (by simp) ?_
        refine AllReadyH.cons rfl (fun K' hK => ?_) AllReadyH.nil
        refine step_call 8 #[.agg #[.float .f64 (fi a1), .float .f64 (fi a2)], .agg #[.float .f64 (fi a1), .float .f64 (fi a2)]] (by kernel_rfl) (by kernel_rfl) (.bool true) ((even_any _ _ _ _ _).mono fun e w' h => by rw [HFp.out] at h; exact h) (fun V4 h => hK.out _ _ (hKeep.out _ _ hS h) (fun hS => ?_))
        simp only [List.getElem_toArray, List.getElem_cons_zero, List.getElem_cons_succ, Act.put, List.setIfInBounds_toArray, List.set_cons_zero, List.set_cons_succ]
        refine wpAnyH_take (i := 4) (v := .bool false) rfl (by kernel_rfl) (by kernel_rfl) (by kernel_rfl) (fun _ _ _ h => h) (.inl ⟨by kernel_rfl, fun V hV => by unfold execOp; go_simp⟩) hS ?_
        simp only [List.getElem_toArray, List.getElem_cons_zero, List.getElem_cons_succ, Act.put, List.setIfInBounds_toArray, List.set_cons_zero, List.set_cons_succ]
        refine wpAnyH_done (by kernel_rfl) ?_ _
        have KB := hid hS.1
        have HB10 := hid hS.2
        clear hS hKeep HBV KV HV HB9 K9 HW9 HB8
        go_wp2_with (refine wpl_load 31 _ rfl B rfl _ _ _ KB.out Tryd.underlying31 rfl 2 Tryd.infoC rfl rfl ?_)
        refine (HNp.out _).mono ?_
        rintro e w11 ⟨rfl, hb⟩
        have HB11 := hid (HB10.out.trans (hb.mono HB10.out.size))
        clear hb HB10 KB HNp
        go_wp2
        go_roundg (M - (p + 1))
        case measure => omega
        case rel => exact ⟨p + 1, by omega, rfl, by go_num, by rw [HEE.out.1], by rw [HEE.out.2], HB11⟩
      · have HEE := hid (HSu.out (.inr hb))
        have q4 : decide (k < 0) = false := decide_eq_false hk
        have hz := decide_eq_true hb
        generalize decide (b < q) = z at hgt hz
        clear hb HSu HSn
        go_wp2_with fail
        refine HRp.out.mono ?_
        rintro e w8 ⟨rfl, hb⟩
        have HB8 := hid (HB4.out.trans (hb.mono HB4.out.size))
        clear hb HRp HB4 d0
        obtain ⟨W9, hW9⟩ : ∃ W, W = w8.alloc (.cells #[.float .f64 0, .float .f64 0] 31) := ⟨_, rfl⟩
        have HW9 := hid hW9.symm
        have K9 := hid (hW9 ▸ Blk.new w8 _ _ : Blk W9 w8.heap.size 31 #[.float .f64 0, .float .f64 0])
        have HB9 : Hid (Below w7.heap.size w7 W9) := hid (HB8.out.trans ((hW9 ▸ (Below.refl _ _).alloc (Nat.le_refl _) _ : Below w8.heap.size w8 W9).mono HB8.out.size))
        clear hW9
        have KV := hid (K9.out.row #[.float .f64 (fi a1), .float .f64 (fi a2)])
        have HBV := hid (below_setRow HB9.out HB8.out.size #[.float .f64 (fi a1), .float .f64 (fi a2)])
        generalize hV : W9.setRow w8.heap.size _ = V at KV HBV
        have HV := hid hV
        clear hV
        go_wp2_with ((try rw [HW9.out]); refine wpl_store 31 _ _ rfl w8.heap.size #[.float .f64 (fi a1), .float .f64 (fi a2)] rfl rfl _ _ K9.out 2 Tryd.infoC rfl rfl (by simp [Value.oneCell']) rfl ?_; rw [HV.out])
        generalize w8.heap.size = B at *
        refine wp_region_held_drew (S := fun W => Blk W B 31 #[.float .f64 (fi a1), .float .f64 (fi a2)] ∧ Below w7.heap.size w7 W) (by kernel_rfl) ⟨KV.out, HBV.out.drew⟩ (fun hS => ?_)
        have hKeep : Hid (∀ (U U' : World), (Blk U B 31 #[.float .f64 (fi a1), .float .f64 (fi a2)] ∧ Below w7.heap.size w7 U) → Below U.heap.size U U' → (Blk U' B 31 #[.float .f64 (fi a1), .float .f64 (fi a2)] ∧ Below w7.heap.size w7 U')) := hid (fun U U' h hb => ⟨h.1.kept hb, h.2.trans (hb.mono h.2.size)⟩)
        change wpAnyH _ _ _ _ _ 5 #[false, false, false, false, false] _ _
        refine wpAnyH_take (i := 0) (v := cx a1 a2) rfl (by kernel_rfl) (by kernel_rfl) (by kernel_rfl) (fun _ _ _ h => h) (.inl ⟨by kernel_rfl, fun V hV => by unfold execOp; go_simp⟩) hS ?_
        simp only [List.getElem_toArray, List.getElem_cons_zero, List.getElem_cons_succ, Act.put, List.setIfInBounds_toArray, List.set_cons_zero, List.set_cons_succ]
        refine wpAnyH_take (i := 2) (v := .agg #[.float .f64 (fi a1), .float .f64 (fi a2)]) rfl (by kernel_rfl) (by kernel_rfl) (by kernel_rfl) (fun _ _ _ h => h) (yields_load 31 (.tmp 14) rfl B rfl 31 _ _ (fun V h => h.1) Tryd.underlying31 rfl 2 Tryd.infoC rfl (by kernel_rfl)) hS ?_
        simp only [List.getElem_toArray, List.getElem_cons_zero, List.getElem_cons_succ, Act.put, List.setIfInBounds_toArray, List.set_cons_zero, List.set_cons_succ]
        refine wpAnyH_ready (rs := [1]) (by kernel_rfl) (by simp) ?_
        refine AllReadyH.cons rfl (fun K' hK => ?_) AllReadyH.nil
        refine step_call 9 #[cx a1 a2] (by kernel_rfl) (by kernel_rfl) (.agg #[.float .f64 (fi a1), .float .f64 (fi a2)]) (rof_any _ _ _) (fun V3 h => hK.out _ _ (hKeep.out _ _ hS h) (fun hS => ?_))
        simp only [List.getElem_toArray, List.getElem_cons_zero, List.getElem_cons_succ, Act.put, List.setIfInBounds_toArray, List.set_cons_zero, List.set_cons_succ]
        refine wpAnyH_ready (rs := [3]) (by kernel_rfl) (by simp) ?_
        refine AllReadyH.cons rfl (fun K' hK => ?_) AllReadyH.nil
        refine step_call 8 #[.agg #[.float .f64 (fi a1), .float .f64 (fi a2)], .agg #[.float .f64 (fi a1), .float .f64 (fi a2)]] (by kernel_rfl) (by kernel_rfl) (.bool true) ((even_any _ _ _ _ _).mono fun e w' h => by rw [HFp.out] at h; exact h) (fun V4 h => hK.out _ _ (hKeep.out _ _ hS h) (fun hS => ?_))
        simp only [List.getElem_toArray, List.getElem_cons_zero, List.getElem_cons_succ, Act.put, List.setIfInBounds_toArray, List.set_cons_zero, List.set_cons_succ]
        refine wpAnyH_take (i := 4) (v := .bool false) rfl (by kernel_rfl) (by kernel_rfl) (by kernel_rfl) (fun _ _ _ h => h) (.inl ⟨by kernel_rfl, fun V hV => by unfold execOp; go_simp⟩) hS ?_
        simp only [List.getElem_toArray, List.getElem_cons_zero, List.getElem_cons_succ, Act.put, List.setIfInBounds_toArray, List.set_cons_zero, List.set_cons_succ]
        refine wpAnyH_done (by kernel_rfl) ?_ _
        have KB := hid hS.1
        have HB10 := hid hS.2
        clear hS hKeep HBV KV HV HB9 K9 HW9 HB8
        go_wp2_with (refine wpl_load 31 _ rfl B rfl _ _ _ KB.out Tryd.underlying31 rfl 2 Tryd.infoC rfl rfl ?_)
        refine (HNp.out _).mono ?_
        rintro e w11 ⟨rfl, hb⟩
        have HB11 := hid (HB10.out.trans (hb.mono HB10.out.size))
        clear hb HB10 KB HNp
        go_wp2
        go_roundg (M - (p + 1))
        case measure => omega
        case rel => exact ⟨p + 1, by omega, rfl, by go_num, by rw [HEE.out.1], by rw [HEE.out.2], HB11⟩
      · have HEE := hid (HSn.out (by omega))
        have q4 : decide (k < 0) = false := decide_eq_false hk
        have hz := decide_eq_false hb
        generalize decide (b < q) = z at hgt hz
        clear hb HSu HSn
        go_wp2_with fail
        refine HRp.out.mono ?_
        rintro e w8 ⟨rfl, hb⟩
        have HB8 := hid (HB4.out.trans (hb.mono HB4.out.size))
        clear hb HRp HB4 d0
        obtain ⟨W9, hW9⟩ : ∃ W, W = w8.alloc (.cells #[.float .f64 0, .float .f64 0] 31) := ⟨_, rfl⟩
        have HW9 := hid hW9.symm
        have K9 := hid (hW9 ▸ Blk.new w8 _ _ : Blk W9 w8.heap.size 31 #[.float .f64 0, .float .f64 0])
        have HB9 : Hid (Below w7.heap.size w7 W9) := hid (HB8.out.trans ((hW9 ▸ (Below.refl _ _).alloc (Nat.le_refl _) _ : Below w8.heap.size w8 W9).mono HB8.out.size))
        clear hW9
        have KV := hid (K9.out.row #[.float .f64 (fi a1), .float .f64 (fi a2)])
        have HBV := hid (below_setRow HB9.out HB8.out.size #[.float .f64 (fi a1), .float .f64 (fi a2)])
        generalize hV : W9.setRow w8.heap.size _ = V at KV HBV
        have HV := hid hV
        clear hV
        go_wp2_with ((try rw [HW9.out]); refine wpl_store 31 _ _ rfl w8.heap.size #[.float .f64 (fi a1), .float .f64 (fi a2)] rfl rfl _ _ K9.out 2 Tryd.infoC rfl rfl (by simp [Value.oneCell']) rfl ?_; rw [HV.out])
        generalize w8.heap.size = B at *
        refine wp_region_held_drew (S := fun W => Blk W B 31 #[.float .f64 (fi a1), .float .f64 (fi a2)] ∧ Below w7.heap.size w7 W) (by kernel_rfl) ⟨KV.out, HBV.out.drew⟩ (fun hS => ?_)
        have hKeep : Hid (∀ (U U' : World), (Blk U B 31 #[.float .f64 (fi a1), .float .f64 (fi a2)] ∧ Below w7.heap.size w7 U) → Below U.heap.size U U' → (Blk U' B 31 #[.float .f64 (fi a1), .float .f64 (fi a2)] ∧ Below w7.heap.size w7 U')) := hid (fun U U' h hb => ⟨h.1.kept hb, h.2.trans (hb.mono h.2.size)⟩)
        change wpAnyH _ _ _ _ _ 5 #[false, false, false, false, false] _ _
        refine wpAnyH_take (i := 0) (v := cx a1 a2) rfl (by kernel_rfl) (by kernel_rfl) (by kernel_rfl) (fun _ _ _ h => h) (.inl ⟨by kernel_rfl, fun V hV => by unfold execOp; go_simp⟩) hS ?_
        simp only [List.getElem_toArray, List.getElem_cons_zero, List.getElem_cons_succ, Act.put, List.setIfInBounds_toArray, List.set_cons_zero, List.set_cons_succ]
        refine wpAnyH_take (i := 2) (v := .agg #[.float .f64 (fi a1), .float .f64 (fi a2)]) rfl (by kernel_rfl) (by kernel_rfl) (by kernel_rfl) (fun _ _ _ h => h) (yields_load 31 (.tmp 14) rfl B rfl 31 _ _ (fun V h => h.1) Tryd.underlying31 rfl 2 Tryd.infoC rfl (by kernel_rfl)) hS ?_
        simp only [List.getElem_toArray, List.getElem_cons_zero, List.getElem_cons_succ, Act.put, List.setIfInBounds_toArray, List.set_cons_zero, List.set_cons_succ]
        refine wpAnyH_ready (rs := [1]) (by kernel_rfl) (by simp) ?_
        refine AllReadyH.cons rfl (fun K' hK => ?_) AllReadyH.nil
        refine step_call 9 #[cx a1 a2] (by kernel_rfl) (by kernel_rfl) (.agg #[.float .f64 (fi a1), .float .f64 (fi a2)]) (rof_any _ _ _) (fun V3 h => hK.out _ _ (hKeep.out _ _ hS h) (fun hS => ?_))
        simp only [List.getElem_toArray, List.getElem_cons_zero, List.getElem_cons_succ, Act.put, List.setIfInBounds_toArray, List.set_cons_zero, List.set_cons_succ]
        refine wpAnyH_ready (rs := [3]) (by kernel_rfl) (by simp) ?_
        refine AllReadyH.cons rfl (fun K' hK => ?_) AllReadyH.nil
        refine step_call 8 #[.agg #[.float .f64 (fi a1), .float .f64 (fi a2)], .agg #[.float .f64 (fi a1), .float .f64 (fi a2)]] (by kernel_rfl) (by kernel_rfl) (.bool true) ((even_any _ _ _ _ _).mono fun e w' h => by rw [HFp.out] at h; exact h) (fun V4 h => hK.out _ _ (hKeep.out _ _ hS h) (fun hS => ?_))
        simp only [List.getElem_toArray, List.getElem_cons_zero, List.getElem_cons_succ, Act.put, List.setIfInBounds_toArray, List.set_cons_zero, List.set_cons_succ]
        refine wpAnyH_take (i := 4) (v := .bool false) rfl (by kernel_rfl) (by kernel_rfl) (by kernel_rfl) (fun _ _ _ h => h) (.inl ⟨by kernel_rfl, fun V hV => by unfold execOp; go_simp⟩) hS ?_
        simp only [List.getElem_toArray, List.getElem_cons_zero, List.getElem_cons_succ, Act.put, List.setIfInBounds_toArray, List.set_cons_zero, List.set_cons_succ]
        refine wpAnyH_done (by kernel_rfl) ?_ _
        have KB := hid hS.1
        have HB10 := hid hS.2
        clear hS hKeep HBV KV HV HB9 K9 HW9 HB8
        go_wp2_with (refine wpl_load 31 _ rfl B rfl _ _ _ KB.out Tryd.underlying31 rfl 2 Tryd.infoC rfl rfl ?_)
        refine (HNp.out _).mono ?_
        rintro e w11 ⟨rfl, hb⟩
        have HB11 := hid (HB10.out.trans (hb.mono HB10.out.size))
        clear hb HB10 KB HNp
        go_wp2
        go_roundg (M - (p + 1))
        case measure => omega
        case rel => exact ⟨p + 1, by omega, rfl, by go_num, by rw [HEE.out.1], by rw [HEE.out.2], HB11⟩
    · obtain rfl : p = M := by omega
      have hr := HR.out p
      have o1 := fe_fi (wst (nrm xs n) p).2 (by omega)
      go_wp2
      go_ret
      exact ⟨rfl, bel2 Hb7.out HB4.out⟩

theorem sums_any (ad : Option Addr) (cap : Nat) (xs : List Int) (who m : Int) (w : World) (hX : IntsIn w.heap.size w ad xs) :
    Calls Tryd.prog 3 #[.slice ad xs.length cap, .int .i64 who, .int .i64 m] w fun e w' => e = .returned (.bool true) ∧ Below w.heap.size w w' := by
  by_cases h : 300 < xs.length
  · exact sums_long ad xs.length cap who m h w
  · by_cases hm : m < 1 ∨ 24 < m
    · exact sums_out ad cap xs who m (by omega) hm w hX
    · obtain ⟨M, rfl⟩ : ∃ M : Nat, m = M := ⟨m.toNat, by omega⟩
      exact sums_in ad cap xs who M (by omega) (by omega) (by omega) w hX
end Go.Proofs.YtahconkjhneogaaDoor
