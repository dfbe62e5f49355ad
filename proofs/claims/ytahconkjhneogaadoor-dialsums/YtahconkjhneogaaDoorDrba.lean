/-
  The document's balance: counts of places, by where they point to.
-/
import Derived.Test.YtahconkjhneogaaDoorDnrm
namespace Go.Proofs.YtahconkjhneogaaDoor
open Go.RowKit Go.Lib

/-- How many of the first k places are who's and point to r. -/
def cn (xs : List Int) (who : Int) (r : Nat) : Nat → Int
  | 0 => 0
  | k + 1 => cn xs who r k + (if xs.getD k 0 = who ∧ k % 4 = r then 1 else 0)
theorem cn_small (xs : List Int) (who : Int) (r : Nat) : ∀ k : Nat, 0 ≤ cn xs who r k ∧ cn xs who r k ≤ k
  | 0 => by simp [cn]
  | k + 1 => by
    have := cn_small xs who r k
    unfold cn
    split <;> omega
theorem cn_no (xs : List Int) (who : Int) (r k : Nat) (h : ¬ (xs.getD k 0 = who ∧ k % 4 = r)) : cn xs who r (k + 1) = cn xs who r k := by rw [cn, if_neg h, Int.add_zero]
theorem cn_yes (xs : List Int) (who : Int) (r k : Nat) (h : xs.getD k 0 = who ∧ k % 4 = r) : cn xs who r (k + 1) = cn xs who r k + 1 := by rw [cn, if_pos h]
theorem cn_bal (xs : List Int) (who : Int) : ∀ k, cn xs who 0 k - cn xs who 2 k = balr xs who k ∧ cn xs who 1 k - cn xs who 3 k = bali xs who k
  | 0 => ⟨rfl, rfl⟩
  | k + 1 => by
    obtain ⟨i1, i2⟩ := cn_bal xs who k
    have hc : k % 4 = 0 ∨ k % 4 = 1 ∨ k % 4 = 2 ∨ k % 4 = 3 := by omega
    rw [show balr xs who (k + 1) = balr xs who k + (if xs.getD k 0 = who then qr k else 0) from rfl, show bali xs who (k + 1) = bali xs who k + (if xs.getD k 0 = who then qi k else 0) from rfl]
    simp only [cn]
    by_cases e : xs.getD k 0 = who
    · simp only [e, true_and, if_true]
      rw [← i1, ← i2]
      unfold qr qi
      rcases hc with h | h | h | h <;> rw [h] <;> simp <;> omega
    · simp only [e, false_and, if_false, Int.add_zero]
      exact ⟨i1, i2⟩

theorem Tryd.infoI4 : (Tryd.prog.info? 45).map (·.size) = some 4 := by kernel_rfl

set_option linter.unusedSimpArgs false in
set_option maxRecDepth 100000 in
set_option maxHeartbeats 8000000 in
theorem rbalance_any (ad : Option Addr) (cap : Nat) (xs : List Int) (who : Int) (hx : xs.length ≤ 1000) (w : World) (hX : IntsIn w.heap.size w ad xs) :
    Calls Tryd.prog 11 #[.slice ad xs.length cap, .int .i64 who] w fun e w' => e = .returned (.agg #[.float .f64 (fi (balr xs who xs.length)), .float .f64 (fi (bali xs who xs.length))]) ∧ Below w.heap.size w w' := by
  have HX := hid hX
  have HCB := hid (cn_bal xs who xs.length)
  have HCS := hid (cn_small xs who)
  have HCY := hid (cn_yes xs who)
  have HCN := hid (cn_no xs who)
  obtain ⟨n, hn⟩ : ∃ n, n = xs.length := ⟨_, rfl⟩
  rw [← hn] at hx HCB ⊢
  have HN := hid hn.symm
  obtain ⟨W1, hW1⟩ : ∃ W, W = w.alloc (.cells #[.float .f64 0, .float .f64 0] 31) := ⟨_, rfl⟩
  obtain ⟨W2, hW2⟩ : ∃ W, W = W1.alloc (.cells #[.int .i64 0, .int .i64 0, .int .i64 0, .int .i64 0] 45) := ⟨_, rfl⟩
  have s1 : W1.heap.size = w.heap.size + 1 := by rw [hW1]; simp
  have b1 : Below w.heap.size w W1 := hW1 ▸ (Below.refl _ _).alloc (Nat.le_refl _) _
  have b2 : Below W1.heap.size W1 W2 := hW2 ▸ (Below.refl _ _).alloc (Nat.le_refl _) _
  have K1 := hid ((hW1 ▸ Blk.new w _ _ : Blk W1 w.heap.size 31 #[.float .f64 0, .float .f64 0]).kept b2)
  have K2 := hid (hW2 ▸ Blk.new W1 _ _ : Blk W2 W1.heap.size 45 #[.int .i64 0, .int .i64 0, .int .i64 0, .int .i64 0])
  have HW1 := hid hW1.symm
  have HW2 := hid hW2.symm
  have HS : Hid (W1.heap.size = w.heap.size + 1) := hid s1
  have HB2 := hid (bel2 b1 b2)
  clear hX hn hW1 hW2 s1 b1 b2
  have K3 : Hid (Blk (W2.setRow W1.heap.size #[.int .i64 0, .int .i64 0, .int .i64 0, .int .i64 0]) W1.heap.size 45 #[.int .i64 (cn xs who 0 0), .int .i64 (cn xs who 1 0), .int .i64 (cn xs who 2 0), .int .i64 (cn xs who 3 0)]) := hid (K2.out.row _)
  have K4 := hid (K1.out.rowOther (show w.heap.size ≠ W1.heap.size by rw [HS.out]; omega) #[.int .i64 0, .int .i64 0, .int .i64 0, .int .i64 0])
  have HB3 := hid (below_setRow HB2.out (show w.heap.size ≤ W1.heap.size by rw [HS.out]; omega) #[.int .i64 0, .int .i64 0, .int .i64 0, .int .i64 0])
  generalize hV : W2.setRow W1.heap.size _ = V at K3 K4 HB3
  have HV := hid hV
  clear hV
  go_enter Tryd.func11, Tryd.ntmps11
  go_upto_region 1 with fail
  rw [HW1.out]
  go_wp2_with ((try rw [HW2.out]); refine wpl_store 45 _ _ rfl W1.heap.size #[.int .i64 0, .int .i64 0, .int .i64 0, .int .i64 0] rfl rfl _ _ K2.out 4 Tryd.infoI4 rfl rfl (by simp [Value.oneCell']) rfl ?_; rw [HV.out])
  generalize W1.heap.size = B at *
  go_loopg [11] n (fun g t wr => ∃ p : Nat, p ≤ n ∧ g = n - p ∧ t = .int .i64 (p : Int) ∧ Hid (Blk wr B 45 #[.int .i64 (cn xs who 0 p), .int .i64 (cn xs who 1 p), .int .i64 (cn xs who 2 p), .int .i64 (cn xs who 3 p)]) ∧ Hid (Blk wr w.heap.size 31 #[.float .f64 0, .float .f64 0]) ∧ Hid (Below w.heap.size w wr))
  case atStart => exact ⟨0, by omega, by omega, rfl, K3, K4, HB3⟩
  case round =>
    obtain ⟨p, hp, rfl, rfl, HK, HP, HB4⟩ := hrel
    by_cases hlt : p < n
    · obtain ⟨g, o, rfl, hg, hc⟩ := HX.out p (by have := HN.out; omega)
      have d0 : wr.cell? ⟨g, o + p, none⟩ = some (.int .i64 (xs.getD p 0)) := by rw [← hc]; exact HB4.out.cell (p := ⟨g, o + p, none⟩) hg
      have HNo : Hid (xs.getD p 0 ≠ who → Blk wr B 45 #[.int .i64 (cn xs who 0 (p + 1)), .int .i64 (cn xs who 1 (p + 1)), .int .i64 (cn xs who 2 (p + 1)), .int .i64 (cn xs who 3 (p + 1))]) := hid (fun h => by
        rw [HCN.out 0 p (fun q => h q.1), HCN.out 1 p (fun q => h q.1), HCN.out 2 p (fun q => h q.1), HCN.out 3 p (fun q => h q.1)]
        exact HK.out)
      by_cases hxw : xs.getD p 0 = who
      · rw [hxw] at d0
        have hBw : w.heap.size ≠ B := by rw [HS.out]; omega
        have hcc : p % 4 = 0 ∨ p % 4 = 1 ∨ p % 4 = 2 ∨ p % 4 = 3 := by omega
        have k0 := HCS.out 0 p
        have k1 := HCS.out 1 p
        have k2 := HCS.out 2 p
        have k3 := HCS.out 3 p
        rcases hcc with hr | hr | hr | hr
        · have e1 : (p : Int).tmod 4 = 0 := by rw [Int.tmod_eq_emod_of_nonneg (by omega)]; omega
          have f1 : wr.cell? ⟨B, 0, none⟩ = some (.int .i64 (cn xs who 0 p)) := HK.out.cell 0
          have f2 : wr.frozen? ⟨B, 0, none⟩ = false := HK.out.frozen 0
          have HE : Hid (Blk (wr.setCell ⟨B, 0, none⟩ (.int .i64 (cn xs who 0 p + 1))) B 45 #[.int .i64 (cn xs who 0 (p + 1)), .int .i64 (cn xs who 1 (p + 1)), .int .i64 (cn xs who 2 (p + 1)), .int .i64 (cn xs who 3 (p + 1))]) := hid (by
            rw [HCY.out 0 p ⟨hxw, hr⟩, HCN.out 1 p (fun q => by omega), HCN.out 2 p (fun q => by omega), HCN.out 3 p (fun q => by omega)]
            exact HK.out.set 0 _)
          have HP2 : Hid (Blk (wr.setCell ⟨B, 0, none⟩ (.int .i64 (cn xs who 0 p + 1))) w.heap.size 31 #[.float .f64 0, .float .f64 0]) := hid (HP.out.setOther hBw 0 _)
          have HB5 := hid (HB4.out.setCell (p := ⟨B, 0, none⟩) (show w.heap.size ≤ B by rw [HS.out]; omega) (.int .i64 (cn xs who 0 p + 1)))
          clear hc hg HNo HK HP hr hxw hBw
          generalize cn xs who 0 p = v at *
          go_wp2
          go_roundg (n - (p + 1))
          case measure => omega
          case rel => exact ⟨p + 1, by omega, rfl, by go_num, HE, HP2, HB5⟩
        · have e1 : (p : Int).tmod 4 = 1 := by rw [Int.tmod_eq_emod_of_nonneg (by omega)]; omega
          have f1 : wr.cell? ⟨B, 1, none⟩ = some (.int .i64 (cn xs who 1 p)) := HK.out.cell 1
          have f2 : wr.frozen? ⟨B, 1, none⟩ = false := HK.out.frozen 1
          have HE : Hid (Blk (wr.setCell ⟨B, 1, none⟩ (.int .i64 (cn xs who 1 p + 1))) B 45 #[.int .i64 (cn xs who 0 (p + 1)), .int .i64 (cn xs who 1 (p + 1)), .int .i64 (cn xs who 2 (p + 1)), .int .i64 (cn xs who 3 (p + 1))]) := hid (by
            rw [HCN.out 0 p (fun q => by omega), HCY.out 1 p ⟨hxw, hr⟩, HCN.out 2 p (fun q => by omega), HCN.out 3 p (fun q => by omega)]
            exact HK.out.set 1 _)
          have HP2 : Hid (Blk (wr.setCell ⟨B, 1, none⟩ (.int .i64 (cn xs who 1 p + 1))) w.heap.size 31 #[.float .f64 0, .float .f64 0]) := hid (HP.out.setOther hBw 1 _)
          have HB5 := hid (HB4.out.setCell (p := ⟨B, 1, none⟩) (show w.heap.size ≤ B by rw [HS.out]; omega) (.int .i64 (cn xs who 1 p + 1)))
          clear hc hg HNo HK HP hr hxw hBw
          generalize cn xs who 1 p = v at *
          go_wp2
          go_roundg (n - (p + 1))
          case measure => omega
          case rel => exact ⟨p + 1, by omega, rfl, by go_num, HE, HP2, HB5⟩
        · have e1 : (p : Int).tmod 4 = 2 := by rw [Int.tmod_eq_emod_of_nonneg (by omega)]; omega
          have f1 : wr.cell? ⟨B, 2, none⟩ = some (.int .i64 (cn xs who 2 p)) := HK.out.cell 2
          have f2 : wr.frozen? ⟨B, 2, none⟩ = false := HK.out.frozen 2
          have HE : Hid (Blk (wr.setCell ⟨B, 2, none⟩ (.int .i64 (cn xs who 2 p + 1))) B 45 #[.int .i64 (cn xs who 0 (p + 1)), .int .i64 (cn xs who 1 (p + 1)), .int .i64 (cn xs who 2 (p + 1)), .int .i64 (cn xs who 3 (p + 1))]) := hid (by
            rw [HCN.out 0 p (fun q => by omega), HCN.out 1 p (fun q => by omega), HCY.out 2 p ⟨hxw, hr⟩, HCN.out 3 p (fun q => by omega)]
            exact HK.out.set 2 _)
          have HP2 : Hid (Blk (wr.setCell ⟨B, 2, none⟩ (.int .i64 (cn xs who 2 p + 1))) w.heap.size 31 #[.float .f64 0, .float .f64 0]) := hid (HP.out.setOther hBw 2 _)
          have HB5 := hid (HB4.out.setCell (p := ⟨B, 2, none⟩) (show w.heap.size ≤ B by rw [HS.out]; omega) (.int .i64 (cn xs who 2 p + 1)))
          clear hc hg HNo HK HP hr hxw hBw
          generalize cn xs who 2 p = v at *
          go_wp2
          go_roundg (n - (p + 1))
          case measure => omega
          case rel => exact ⟨p + 1, by omega, rfl, by go_num, HE, HP2, HB5⟩
        · have e1 : (p : Int).tmod 4 = 3 := by rw [Int.tmod_eq_emod_of_nonneg (by omega)]; omega
          have f1 : wr.cell? ⟨B, 3, none⟩ = some (.int .i64 (cn xs who 3 p)) := HK.out.cell 3
          have f2 : wr.frozen? ⟨B, 3, none⟩ = false := HK.out.frozen 3
          have HE : Hid (Blk (wr.setCell ⟨B, 3, none⟩ (.int .i64 (cn xs who 3 p + 1))) B 45 #[.int .i64 (cn xs who 0 (p + 1)), .int .i64 (cn xs who 1 (p + 1)), .int .i64 (cn xs who 2 (p + 1)), .int .i64 (cn xs who 3 (p + 1))]) := hid (by
            rw [HCN.out 0 p (fun q => by omega), HCN.out 1 p (fun q => by omega), HCN.out 2 p (fun q => by omega), HCY.out 3 p ⟨hxw, hr⟩]
            exact HK.out.set 3 _)
          have HP2 : Hid (Blk (wr.setCell ⟨B, 3, none⟩ (.int .i64 (cn xs who 3 p + 1))) w.heap.size 31 #[.float .f64 0, .float .f64 0]) := hid (HP.out.setOther hBw 3 _)
          have HB5 := hid (HB4.out.setCell (p := ⟨B, 3, none⟩) (show w.heap.size ≤ B by rw [HS.out]; omega) (.int .i64 (cn xs who 3 p + 1)))
          clear hc hg HNo HK HP hr hxw hBw
          generalize cn xs who 3 p = v at *
          go_wp2
          go_roundg (n - (p + 1))
          case measure => omega
          case rel => exact ⟨p + 1, by omega, rfl, by go_num, HE, HP2, HB5⟩
      · have HE := hid (HNo.out hxw)
        clear hc hg HNo HK
        generalize xs.getD p 0 = x at *
        go_wp2
        go_roundg (n - (p + 1))
        case measure => omega
        case rel => exact ⟨p + 1, by omega, rfl, by go_num, HE, HP, HB4⟩
    · obtain rfl : p = n := by omega
      have k0 := HCS.out 0 p
      have k1 := HCS.out 1 p
      have k2 := HCS.out 2 p
      have k3 := HCS.out 3 p
      have f0 : wr.cell? ⟨B, 0, none⟩ = some (.int .i64 (cn xs who 0 p)) := HK.out.cell 0
      have f1 : wr.cell? ⟨B, 1, none⟩ = some (.int .i64 (cn xs who 1 p)) := HK.out.cell 1
      have f2 : wr.cell? ⟨B, 2, none⟩ = some (.int .i64 (cn xs who 2 p)) := HK.out.cell 2
      have f3 : wr.cell? ⟨B, 3, none⟩ = some (.int .i64 (cn xs who 3 p)) := HK.out.cell 3
      have HCC := hid HCB.out
      generalize cn xs who 0 p = v0 at *
      generalize cn xs who 1 p = v1 at *
      generalize cn xs who 2 p = v2 at *
      generalize cn xs who 3 p = v3 at *
      have HF := hid (fun x : Int => (rfl : floatOfInt .f64 x = fi x))
      go_wp2_with (refine wpl_store 31 _ _ rfl w.heap.size #[.float .f64 (fi (v0 - v2)), .float .f64 (fi (v1 - v3))] rfl rfl _ _ HP.out 2 Tryd.infoC rfl rfl (by simp [Value.oneCell']) rfl ?_)
      exact retA rfl w.heap.size rfl 31 _ _ (HP.out.row #[.float .f64 (fi (v0 - v2)), .float .f64 (fi (v1 - v3))]) Tryd.underlying31 rfl 2 Tryd.infoC rfl rfl ⟨by rw [HCC.out.1, HCC.out.2], below_setRow HB4.out (Nat.le_refl _) _⟩
end Go.Proofs.YtahconkjhneogaaDoor
