/-
  dial: the total, a spin by one quarter, all balances; the document's total, points, how they are held against each other.
-/
import Derived.Test.YtahconkjhneogaaDoorDbal
import Derived.Deep.Cut
namespace Go.Proofs.YtahconkjhneogaaDoor
open Go.RowKit Go.Lib

/-- The sum over the first k places. -/
def totr : Nat → Int
  | 0 => 0
  | k + 1 => totr k + qr k
def toti : Nat → Int
  | 0 => 0
  | k + 1 => toti k + qi k
theorem tot_four (k : Nat) : totr (k + 4) = totr k ∧ toti (k + 4) = toti k := by
  have hc : k % 4 = 0 ∨ k % 4 = 1 ∨ k % 4 = 2 ∨ k % 4 = 3 := by omega
  have e1 : totr (k + 4) = totr k + qr k + qr (k + 1) + qr (k + 2) + qr (k + 3) := rfl
  have e2 : toti (k + 4) = toti k + qi k + qi (k + 1) + qi (k + 2) + qi (k + 3) := rfl
  rw [e1, e2]
  unfold qr qi
  rcases hc with h | h | h | h
  · rw [show (k + 1) % 4 = 1 by omega, show (k + 2) % 4 = 2 by omega, show (k + 3) % 4 = 3 by omega, h]; simp; omega
  · rw [show (k + 1) % 4 = 2 by omega, show (k + 2) % 4 = 3 by omega, show (k + 3) % 4 = 0 by omega, h]; simp; omega
  · rw [show (k + 1) % 4 = 3 by omega, show (k + 2) % 4 = 0 by omega, show (k + 3) % 4 = 1 by omega, h]; simp; omega
  · rw [show (k + 1) % 4 = 0 by omega, show (k + 2) % 4 = 1 by omega, show (k + 3) % 4 = 2 by omega, h]; simp; omega
theorem tot_mul (r : Nat) : ∀ q, totr (r + 4 * q) = totr r ∧ toti (r + 4 * q) = toti r
  | 0 => ⟨rfl, rfl⟩
  | q + 1 => by
    have h := tot_four (r + 4 * q)
    have i := tot_mul r q
    rw [show r + 4 * (q + 1) = r + 4 * q + 4 by omega, h.1, h.2]
    exact i
theorem tot_mod (n : Nat) : totr n = totr (n % 4) ∧ toti n = toti (n % 4) := by
  have h := tot_mul (n % 4) (n / 4)
  rw [show n % 4 + 4 * (n / 4) = n by omega] at h
  exact h
theorem tot_small (n : Nat) : (totr n).natAbs ≤ 1 ∧ (toti n).natAbs ≤ 1 := by
  rw [(tot_mod n).1, (tot_mod n).2]
  have hc : n % 4 = 0 ∨ n % 4 = 1 ∨ n % 4 = 2 ∨ n % 4 = 3 := by omega
  rcases hc with h | h | h | h <;> rw [h] <;> decide

set_option linter.unusedSimpArgs false in
set_option maxRecDepth 100000 in
set_option maxHeartbeats 4000000 in
theorem total_any (n : Nat) (hn : n ≤ 1000) (w : World) : Calls Tryd.prog 14 #[.int .i64 (n : Int)] w fun e w' => e = .returned (cx (totr n) (toti n)) ∧ Below w.heap.size w w' := by
  have HT := hid (tot_mod n)
  have HA := hid (fun W => around_any n (by omega) W)
  obtain ⟨r, hr⟩ : ∃ r, r = n % 4 := ⟨_, rfl⟩
  have hr4 : r < 4 := by omega
  have hn0 : n = 0 → r = 0 := by omega
  rw [← hr] at HT HA
  have HQ := hid (fun k (h : k ≤ 1000) W => quarter_any k (by omega) W)
  have HC := hid (fun k => cadd (totr k) (toti k) (qr k) (qi k) (by have := (tot_small k).1; omega) (by have := (tot_small k).2; omega) (by have := qr_small k; omega) (by have := qi_small k; omega))
  have H0 : Hid ((.complex .f64 0 0 : Value) = cx (totr 0) (toti 0)) := hid (by unfold cx totr toti; rw [fi_zero])
  rw [HT.out.1, HT.out.2]
  clear HT hr
  by_cases hz : n = 0
  · have h0 := hn0 hz
    subst h0
    have q1 : decide ((n : Int) < 1) = true := decide_eq_true (by omega)
    clear hz hn0 HA HC HQ
    go_enter Tryd.func14, Tryd.ntmps14
    go_wp2
    go_ret
    exact ⟨by rw [← H0.out]; rfl, Below.refl _ _⟩
  · go_enter Tryd.func14, Tryd.ntmps14
    go_wp2_with fail
    refine (HA.out _).mono ?_
    rintro e w1 ⟨rfl, rfl⟩
    clear HA hn0
    go_wp2
    go_loopg [3, 9] r (fun g s i wr => ∃ p : Nat, i = .int .i64 (p : Int) ∧ p ≤ r ∧ r - p ≤ g ∧ s = cx (totr p) (toti p) ∧ Hid (Below w.heap.size w wr))
    case atStart => exact ⟨0, rfl, by omega, by omega, H0.out, hid (Below.refl _ _)⟩
    case round =>
      obtain ⟨p, rfl, hp, hgp, rfl, HB⟩ := hrel
      by_cases hlt : p < r
      · have HCp := hid (HC.out p)
        have HQp := hid (HQ.out p (by omega) wr)
        have HE : Hid (cx (totr p + qr p) (toti p + qi p) = cx (totr (p + 1)) (toti (p + 1))) := hid rfl
        generalize totr p = a at *
        generalize toti p = b at *
        go_wp2_with fail
        refine HQp.out.mono ?_
        rintro e w2 ⟨rfl, hb⟩
        have HB2 := hid (bel2 HB.out hb)
        clear hb
        go_wp2_with (refine wpl_run (cx (a + qr p) (b + qi p)) _ (exec_cadd 33 33 (.tmp 12) (.tmp 14) rfl _ _ _ _ _ _ rfl rfl HCp.out) rfl ?_)
        go_roundg (r - (p + 1))
        case measure => omega
        case rel => exact ⟨p + 1, by go_num, by omega, Nat.le_refl _, HE.out, HB2⟩
      · obtain rfl : p = r := by omega
        go_wp2
        go_ret
        exact ⟨rfl, HB.out⟩

/-- The sign turned. -/
def ng (x : Nat) : Nat := Op.negFloat .f64 x

set_option linter.unusedSimpArgs false in
set_option maxRecDepth 100000 in
set_option maxHeartbeats 4000000 in
theorem spin_one (p q : Nat) (w : World) : Calls Tryd.prog 13 #[.complex .f64 p q, .int .i64 1] w fun e w' => e = .returned (.complex .f64 (ng q) p) ∧ Below w.heap.size w w' := by
  have HA := hid (fun W => around_any 1 (by decide) W)
  obtain ⟨W, hW⟩ : ∃ W, W = w.alloc (.cells #[.complex .f64 0 0, .complex .f64 0 0, .complex .f64 0 0, .complex .f64 0 0] 46) := ⟨_, rfl⟩
  have HW := hid hW.symm
  have HB := hid (hW ▸ Blk.new w _ _ : Blk W w.heap.size 46 #[.complex .f64 0 0, .complex .f64 0 0, .complex .f64 0 0, .complex .f64 0 0])
  have HL : Hid (Below w.heap.size w W) := hid (hW ▸ (Below.refl _ _).alloc (Nat.le_refl _) _)
  clear hW
  have HN := hid (fun x => (rfl : Op.negFloat .f64 x = ng x))
  have HB2 := hid (HB.out.row #[.complex .f64 p q, .complex .f64 (ng q) p, .complex .f64 (ng p) (ng q), .complex .f64 q (ng p)])
  have HL2 := hid (below_setRow HL.out (Nat.le_refl _) #[.complex .f64 p q, .complex .f64 (ng q) p, .complex .f64 (ng p) (ng q), .complex .f64 q (ng p)])
  generalize hV : W.setRow w.heap.size _ = V at HB2 HL2
  have HV := hid hV
  clear hV
  have c : V.cell? ⟨w.heap.size, 1, none⟩ = some (.complex .f64 (ng q) p) := HB2.out.cell 1
  have n1 : (Op.unary .neg (.float .f64 p)).run Tryd.prog w = .ok (.float .f64 (ng p)) w := rfl
  have n2 : (Op.unary .neg (.float .f64 q)).run Tryd.prog w = .ok (.float .f64 (ng q)) w := rfl
  go_enter Tryd.func13, Tryd.ntmps13
  go_wp2_with ((try rw [HW.out]); refine wpl_store 46 _ _ rfl w.heap.size #[.complex .f64 p q, .complex .f64 (ng q) p, .complex .f64 (ng p) (ng q), .complex .f64 q (ng p)] rfl rfl _ _ HB.out 4 Tryd.infoQ rfl rfl (by simp [Value.oneCell']) rfl ?_; rw [HV.out])
  refine (HA.out _).mono ?_
  rintro e w1 ⟨rfl, rfl⟩
  go_wp2
  go_ret
  exact ⟨rfl, HL2.out⟩

theorem Tryd.infoC : (Tryd.prog.info? 31).map (·.size) = some 2 := by kernel_rfl

set_option linter.unusedSimpArgs false in
set_option maxRecDepth 100000 in
set_option maxHeartbeats 4000000 in
theorem rof_any (p q : Nat) (w : World) : Calls Tryd.prog 9 #[.complex .f64 p q] w fun e w' => e = .returned (.agg #[.float .f64 p, .float .f64 q]) ∧ Below w.heap.size w w' := by
  obtain ⟨W, hW⟩ : ∃ W, W = w.alloc (.cells #[.float .f64 0, .float .f64 0] 31) := ⟨_, rfl⟩
  have HW := hid hW.symm
  have HB := hid (hW ▸ Blk.new w _ _ : Blk W w.heap.size 31 #[.float .f64 0, .float .f64 0])
  have HL : Hid (Below w.heap.size w W) := hid (hW ▸ (Below.refl _ _).alloc (Nat.le_refl _) _)
  clear hW
  have HB2 := hid (HB.out.row #[.float .f64 p, .float .f64 q])
  have HL2 := hid (below_setRow HL.out (Nat.le_refl _) #[.float .f64 p, .float .f64 q])
  go_enter Tryd.func9, Tryd.ntmps9
  go_wp2_with ((try rw [HW.out]); refine wpl_store 31 _ _ rfl w.heap.size #[.float .f64 p, .float .f64 q] rfl rfl _ _ HB.out 2 Tryd.infoC rfl rfl (by simp [Value.oneCell']) rfl ?_)
  exact retA rfl w.heap.size rfl 31 _ _ HB2.out Tryd.underlying31 rfl 2 Tryd.infoC rfl rfl ⟨rfl, HL2.out⟩

/-- Two floats, as numbers. -/
def fe (p r : Nat) : Bool := FloatKind.f64.format.order p r == some .eq

set_option linter.unusedSimpArgs false in
set_option maxRecDepth 100000 in
set_option maxHeartbeats 4000000 in
theorem even_any (p q r s : Nat) (w : World) : Calls Tryd.prog 8 #[.agg #[.float .f64 p, .float .f64 q], .agg #[.float .f64 r, .float .f64 s]] w fun e w' => e = .returned (.bool (fe p r && fe q s)) ∧ Below w.heap.size w w' := by
  obtain ⟨W1, hW1⟩ : ∃ W, W = w.alloc (.cells #[.float .f64 p, .float .f64 q] 31) := ⟨_, rfl⟩
  obtain ⟨W2, hW2⟩ : ∃ W, W = W1.alloc (.cells #[.float .f64 r, .float .f64 s] 31) := ⟨_, rfl⟩
  have s1 : W1.heap.size = w.heap.size + 1 := by rw [hW1]; simp
  have b1 : Below w.heap.size w W1 := hW1 ▸ (Below.refl _ _).alloc (Nat.le_refl _) _
  have b2 : Below W1.heap.size W1 W2 := hW2 ▸ (Below.refl _ _).alloc (Nat.le_refl _) _
  have k1 : Blk W2 w.heap.size 31 #[.float .f64 p, .float .f64 q] := (hW1 ▸ Blk.new w _ _ : Blk W1 w.heap.size 31 _).kept b2
  have k2 : Blk W2 (w.heap.size + 1) 31 #[.float .f64 r, .float .f64 s] := by rw [← s1]; exact (hW2 ▸ Blk.new W1 _ _ : Blk W2 W1.heap.size 31 _)
  have c0 : W2.cell? ⟨w.heap.size, 0, none⟩ = some (.float .f64 p) := k1.cell 0
  have c1 : W2.cell? ⟨w.heap.size, 1, none⟩ = some (.float .f64 q) := k1.cell 1
  have c2 : W2.cell? ⟨w.heap.size + 1, 0, none⟩ = some (.float .f64 r) := k2.cell 0
  have c3 : W2.cell? ⟨w.heap.size + 1, 1, none⟩ = some (.float .f64 s) := k2.cell 1
  have e1 : (FloatKind.f64.format.order p r == some .eq) = fe p r := rfl
  have e2 : (FloatKind.f64.format.order q s == some .eq) = fe q s := rfl
  have HW1 := hid hW1.symm
  have HW2 := hid hW2.symm
  have HB := hid (bel2 b1 b2)
  clear hW1 hW2 b1 b2 k1 k2
  cases hf : fe p r
  · go_enter Tryd.func8, Tryd.ntmps8
    go_upto_region 1 with fail
    rw [HW1.out, HW2.out]
    go_wp2
    go_ret
    exact ⟨rfl, HB.out⟩
  · go_enter Tryd.func8, Tryd.ntmps8
    go_upto_region 1 with fail
    rw [HW1.out, HW2.out]
    go_wp2
    go_ret
    exact ⟨rfl, HB.out⟩
end Go.Proofs.YtahconkjhneogaaDoor
