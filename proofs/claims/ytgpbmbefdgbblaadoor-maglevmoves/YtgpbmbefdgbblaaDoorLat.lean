/-
  maglev: At; slices.Equal of points and of numbers; Same.
-/
import Derived.Test.YtgpbmbefdgbblaaDoorLown
namespace Go.Proofs.YtgpbmbefdgbblaaDoor
open Go.RowKit Go.Lib

set_option linter.unusedSimpArgs false in
set_option maxRecDepth 100000 in
set_option maxHeartbeats 4000000 in
theorem at_any (m : Int) (bs : List PS) (L : List Int) (ab as' : Option Addr) (cb cs : Nat) (p : Int) (hLm : L.length ≤ 100000) (hbm : bs.length ≤ 100000) (w : World) (hT : TabIn w.heap.size w ab as' bs L) :
    Calls Tryd.prog 10 #[.agg #[.int .i64 m, .slice ab bs.length cb, .slice as' L.length cs], .int .i64 p] w fun e w' => e = .returned (ansO (ownW m bs L p)) ∧ Below w.heap.size w w' := by
  obtain ⟨W0, hW0⟩ : ∃ W, W = w.alloc (.cells #[.int .i64 m, .slice ab bs.length cb, .slice as' L.length cs] 26) := ⟨_, rfl⟩
  obtain ⟨W1, hW1⟩ : ∃ W, W = W0.alloc (.cells (encP pz) 36) := ⟨_, rfl⟩
  have s0 : W0.heap.size = w.heap.size + 1 := by rw [hW0]; simp
  have b0 : Below w.heap.size w W0 := hW0 ▸ (Below.refl _ _).alloc (Nat.le_refl _) _
  have b1 : Below W0.heap.size W0 W1 := hW1 ▸ (Below.refl _ _).alloc (Nat.le_refl _) _
  have k0 : Blk W1 w.heap.size 26 #[.int .i64 m, .slice ab bs.length cb, .slice as' L.length cs] := (hW0 ▸ Blk.new w _ _ : Blk W0 w.heap.size 26 _).kept b1
  have k1 : Blk W1 (w.heap.size + 1) 36 (encP pz) := by rw [← s0]; exact (hW1 ▸ Blk.new W0 _ _ : Blk W1 W0.heap.size 36 _)
  have HW0 := hid hW0.symm
  have HW1 : Hid (W0.alloc (.cells #[.bool false, .int .u8 0, .int .u8 0, .int .u8 0, .int .u8 0, .int .u8 0, .int .u8 0, .int .u8 0, .int .u8 0, .int .u8 0, .int .u8 0, .int .u8 0, .int .u8 0, .int .u8 0, .int .u8 0, .int .u8 0, .int .u8 0, .int .i64 0] 36) = W1) := hid (by rw [hW1, encP_pz])
  have Hb1 := hid (bel2 b0 b1)
  have K1 := hid k1
  have HT1 := hid (hT.kept (bel2 b0 b1))
  have HZ := hid (encP_size pz)
  have c0 : W1.cell? ⟨w.heap.size, 0, none⟩ = some (.int .i64 m) := k0.cell 0
  have c1 : W1.cell? ⟨w.heap.size, 1, none⟩ = some (.slice ab bs.length cb) := k0.cell 1
  have c2 : W1.cell? ⟨w.heap.size, 2, none⟩ = some (.slice as' L.length cs) := k0.cell 2
  by_cases hw : wholeT m L = true
  · have HO := hid (fun W => owners_yes m ab as' bs.length cb cs L hw W)
    have hL : (L.length : Int) = m := by
      unfold wholeT at hw
      rw [Bool.and_eq_true, decide_eq_true_eq] at hw
      exact hw.2
    obtain ⟨y, hy⟩ : ∃ y, y = ownT m bs L p := ⟨_, rfl⟩
    have HY : Hid (ownW m bs L p = y) := hid (by unfold ownW; rw [if_pos hw, hy])
    have HF : Hid (∀ b W, Blk W b 26 #[.int .i64 m, .slice ab bs.length cb, .slice as' L.length cs] → TabIn W.heap.size W ab as' bs L → Calls Tryd.prog 33 #[.int .i64 p, .pointer (some ⟨b, 0, none⟩)] W fun e w' => e = .returned (.tuple #[.agg (encP (y.getD pz)), .bool y.isSome]) ∧ Below W.heap.size W w') := hid (fun b W h1 h2 => by
      rw [hy]
      exact own2_any m bs L ab as' cb cs b p hL hLm hbm W h1 h2)
    have HR : Hid (ansO y = .tuple #[.agg (encP (y.getD pz)), .bool y.isSome]) := hid rfl
    have HX := hid (encP_size (y.getD pz))
    have HX1 := hid (encP_one (y.getD pz))
    generalize y.getD pz = x at *
    generalize y.isSome = q at *
    clear hW0 hW1 s0 b0 b1 k0 k1 hT hL hy hw
    go_enter Tryd.func10, Tryd.ntmps10
    go_upto_region 1 with fail
    rw [HW0.out]
    rw [HW1.out]
    go_wp2_with fail
    refine (HO.out _).mono ?_
    rintro e w2 ⟨rfl, hB, hb⟩
    have HB2 := hid hB
    have Hb2 := hid hb
    clear hB hb c0 c1 c2
    go_wp2_with fail
    refine (HF.out _ _ HB2.out (HT1.out.kept Hb2.out)).mono ?_
    rintro e w3 ⟨rfl, hb⟩
    have K3 := hid ((K1.out.kept Hb2.out).kept hb)
    have Hb3 := hid (bel2 (bel2 Hb1.out Hb2.out) hb)
    clear hb
    go_wp2_with ((show wpList _ _ _ (⟨none, _, _, _, _, _⟩ :: _) _ _); go_must (refine wpl_store 36 (.tmp 4) (.tmp 10) rfl (w.heap.size + 1) (encP x) rfl rfl 36 _ K3.out 18 Tryd.infoPoint HX.out.symm HZ.out HX1.out rfl ?_))
    rw [HY.out, HR.out]
    refine retA2 rfl (w.heap.size + 1) rfl 36 _ _ (Blk.row K3.out _) Tryd.underlying36 rfl 18 Tryd.infoPoint HX.out.symm rfl _ rfl ⟨rfl, below_setRow Hb3.out (Nat.le_succ _) _⟩
  · have hw : wholeT m L = false := by simpa using hw
    have HO := hid (fun W => owners_no m ab as' bs.length cb cs L hw W)
    have HY : Hid (ownW m bs L p = none) := hid (by unfold ownW; rw [if_neg (by rw [hw]; decide)])
    have HF : Hid (∀ W, Calls Tryd.prog 32 #[.int .i64 p] W fun e w' => e = .returned (.tuple #[.agg (encP pz), .bool false]) ∧ Below W.heap.size W w') := hid (fun W => own1_any p W)
    have HX1 := hid (encP_one pz)
    clear hW0 hW1 s0 b0 b1 k0 k1 hT hw
    go_enter Tryd.func10, Tryd.ntmps10
    go_upto_region 1 with fail
    rw [HW0.out]
    rw [HW1.out]
    go_wp2_with fail
    refine (HO.out _).mono ?_
    rintro e w2 ⟨rfl, hb⟩
    have Hb2 := hid hb
    clear hb c0 c1 c2
    go_wp2_with fail
    refine (HF.out _).mono ?_
    rintro e w3 ⟨rfl, hb⟩
    have K3 := hid ((K1.out.kept Hb2.out).kept hb)
    have Hb3 := hid (bel2 (bel2 Hb1.out Hb2.out) hb)
    clear hb
    go_wp2_with ((show wpList _ _ _ (⟨none, _, _, _, _, _⟩ :: _) _ _); go_must (refine wpl_store 36 (.tmp 4) (.tmp 10) rfl (w.heap.size + 1) (encP pz) rfl rfl 36 _ K3.out 18 Tryd.infoPoint HZ.out.symm HZ.out HX1.out rfl ?_))
    rw [HY.out]
    refine retA2 rfl (w.heap.size + 1) rfl 36 _ _ (Blk.row K3.out _) Tryd.underlying36 rfl 18 Tryd.infoPoint HZ.out.symm rfl _ rfl ⟨rfl, below_setRow Hb3.out (Nat.le_succ _) _⟩

set_option linter.unusedSimpArgs false in
set_option maxRecDepth 100000 in
set_option maxHeartbeats 4000000 in
theorem eqI_any (xs ys : List Int) (ax ay : Option Addr) (cx cy : Nat) (hx : xs.length ≤ 100000) (w : World) (hX : IntsIn w.heap.size w ax xs) (hY : IntsIn w.heap.size w ay ys) :
    Calls Tryd.prog 19 #[.slice ax xs.length cx, .slice ay ys.length cy] w fun e w' => e = .returned (.bool (decide (xs = ys))) ∧ Below w.heap.size w w' := by
  have HX := hid hX
  have HY := hid hY
  obtain ⟨n, hn⟩ : ∃ n, n = xs.length := ⟨_, rfl⟩
  obtain ⟨k, hk⟩ : ∃ k, k = ys.length := ⟨_, rfl⟩
  rw [← hn] at hx
  rw [← hn, ← hk]
  have Hn := hid hn
  have Hk := hid hk
  by_cases hne : n = k
  · subst hne
    have HN : Hid (∀ j, j < n → xs.getD j 0 ≠ ys.getD j 0 → false = decide (xs = ys)) := hid (fun j _ h => by
      symm
      rw [decide_eq_false_iff_not]
      rintro rfl
      exact h rfl)
    have HA : Hid ((∀ j, j < n → xs.getD j 0 = ys.getD j 0) → true = decide (xs = ys)) := hid (fun h => by
      symm
      rw [decide_eq_true_eq]
      apply List.ext_getElem (by omega)
      intro j h1 h2
      have := h j (by omega)
      simpa [List.getD, h1, h2] using this)
    clear hn hk hX hY
    go_enter Tryd.func19, Tryd.ntmps19
    go_wp2
    go_loopg [13] n (fun g s13 wr => ∃ p : Nat, s13 = .int .i64 (p : Int) ∧ p ≤ n ∧ n - p ≤ g ∧ Hid (Below w.heap.size w wr) ∧ Hid (∀ j, j < p → xs.getD j 0 = ys.getD j 0))
    case atStart => exact ⟨0, rfl, by omega, by omega, hid (Below.refl _ _), hid (fun j h => by omega)⟩
    case round =>
      obtain ⟨p, rfl, hp, hgp, HB, HF⟩ := hrel
      by_cases hlt : p < n
      · obtain ⟨gx, ox, rfl, hgx, hcx⟩ := HX.out p (by have := Hn.out; omega)
        obtain ⟨gy, oy, rfl, hgy, hcy⟩ := HY.out p (by have := Hk.out; omega)
        have d1 : wr.cell? ⟨gx, ox + p, none⟩ = some (.int .i64 (xs.getD p 0)) := (HB.out.cell (p := ⟨gx, ox + p, none⟩) hgx).trans hcx
        have d2 : wr.cell? ⟨gy, oy + p, none⟩ = some (.int .i64 (ys.getD p 0)) := (HB.out.cell (p := ⟨gy, oy + p, none⟩) hgy).trans hcy
        have HNp := hid (HN.out p hlt)
        have HFp : Hid (xs.getD p 0 = ys.getD p 0 → ∀ j, j < p + 1 → xs.getD j 0 = ys.getD j 0) := hid (fun h j hj => by
          by_cases e : j = p
          · rw [e]; exact h
          · exact HF.out j (by omega))
        clear hcx hcy
        generalize xs.getD p 0 = u at *
        generalize ys.getD p 0 = v at *
        have d1' : wr.drew.cell? ⟨gx, ox + p, none⟩ = some (.int .i64 u) := d1
        have d2' : wr.drew.cell? ⟨gy, oy + p, none⟩ = some (.int .i64 v) := d2
        have HB2 := hid HB.out.drew
        by_cases huv : u = v
        · have q : (u != v) = false := by rw [huv]; simp
          have HF2 := hid (HFp.out huv)
          clear huv
          go_wp2
          go_quiet (fail)
          go_wp2
          go_roundg (n - (p + 1))
          case measure => omega
          case rel => exact ⟨p + 1, by go_num, by omega, Nat.le_refl _, by first | exact HB | exact HB2 | exact hid (HB.out.trans ((below_drewN _ _).mono HB.out.size)), HF2⟩
        · have q : (u != v) = true := by rw [bne_iff_ne]; exact huv
          have HR := hid (HNp.out huv)
          clear huv
          go_wp2
          go_quiet (fail)
          go_wp2
          go_ret
          exact ⟨ret_b rfl HR.out, by first | exact HB.out | exact HB2.out | exact HB.out.trans ((below_drewN _ _).mono HB.out.size)⟩
      · obtain rfl : p = n := by omega
        have HR := hid (HA.out HF.out)
        go_wp2
        go_ret
        exact ⟨ret_b rfl HR.out, HB.out⟩
  · have HR : Hid (false = decide (xs = ys)) := hid (by
      symm
      rw [decide_eq_false_iff_not]
      rintro rfl
      exact hne (hn.trans hk.symm))
    have q : ((n : Int) != (k : Int)) = true := by rw [bne_iff_ne]; omega
    clear hn hk hX hY
    go_enter Tryd.func19, Tryd.ntmps19
    go_wp2
    go_ret
    exact ⟨ret_b rfl HR.out, Below.refl _ _⟩
end Go.Proofs.YtgpbmbefdgbblaaDoor
