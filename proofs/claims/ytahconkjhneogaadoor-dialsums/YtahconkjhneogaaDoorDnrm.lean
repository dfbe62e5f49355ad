/-
  dial: norms; who has the greatest balance; the document's norm.
-/
import Derived.Test.YtahconkjhneogaaDoorDall
import Derived.Test.YtahconkjhneogaaDoorDapp
namespace Go.Proofs.YtahconkjhneogaaDoor
open Go.RowKit Go.Lib

theorem sq_all : (List.range 801).all (fun b => FloatKind.f64.format.mul (fi ((b : Int) - 400)) (fi ((b : Int) - 400)) == some (fi (((b : Int) - 400) * ((b : Int) - 400)))) = true := by decide +kernel
theorem sq_fi (a : Int) (h : a.natAbs ≤ 400) : floatBits .mul .f64 (fi a) (fi a) = some (fi (a * a)) := by
  have := (List.all_eq_true.1 sq_all) (a + 400).toNat (by rw [List.mem_range]; omega)
  rw [show ((a + 400).toNat : Int) - 400 = a by omega] at this
  exact beq_iff_eq.1 this
theorem sq_small (a : Int) (h : a.natAbs ≤ 400) : 0 ≤ a * a ∧ a * a ≤ 160000 := by
  have h1 : (a * a).natAbs = a.natAbs * a.natAbs := Int.natAbs_mul a a
  have h2 : a.natAbs * a.natAbs ≤ 400 * 400 := Nat.mul_le_mul h h
  have h3 : 0 ≤ a * a := by
    rcases Int.le_total 0 a with g | g
    · exact Int.mul_nonneg g g
    · have := Int.mul_nonneg (show 0 ≤ -a by omega) (show 0 ≤ -a by omega)
      rwa [Int.neg_mul_neg] at this
  omega
theorem add_fi (a b : Int) (h1 : a.natAbs ≤ 1000000) (h2 : b.natAbs ≤ 1000000) : floatBits .add .f64 (fi a) (fi b) = some (fi (a + b)) := by
  have p : (1000000 : Nat) + 1000000 < 2 ^ 53 := by decide
  exact fi_add a b (by omega) (by omega) (by omega)

set_option linter.unusedSimpArgs false in
set_option maxRecDepth 100000 in
set_option maxHeartbeats 4000000 in
theorem norm_any (a b : Int) (h1 : a.natAbs ≤ 400) (h2 : b.natAbs ≤ 400) (w : World) : Calls Tryd.prog 17 #[cx a b] w fun e w' => e = .returned (.float .f64 (fi (a * a + b * b))) ∧ w = w' := by
  have k1 := sq_small a h1
  have k2 := sq_small b h2
  have m1 : (binOp .mul 26 (.float .f64 (fi a)) (.float .f64 (fi a))).run Tryd.prog w = .ok (.float .f64 (fi (a * a))) w := run_float_arith w .mul _ _ _ _ _ (sq_fi a h1)
  have m2 : (binOp .mul 26 (.float .f64 (fi b)) (.float .f64 (fi b))).run Tryd.prog w = .ok (.float .f64 (fi (b * b))) w := run_float_arith w .mul _ _ _ _ _ (sq_fi b h2)
  have m3 : (binOp .add 26 (.float .f64 (fi (a * a))) (.float .f64 (fi (b * b)))).run Tryd.prog w = .ok (.float .f64 (fi (a * a + b * b))) w := run_float_arith w .add _ _ _ _ _ (add_fi _ _ (by omega) (by omega))
  unfold cx
  generalize a * a + b * b = s at *
  generalize a * a = aa at *
  generalize b * b = bb at *
  go_enter Tryd.func17, Tryd.ntmps17
  go_wp2
  go_ret
  exact ⟨rfl, rfl⟩

set_option linter.unusedSimpArgs false in
set_option maxRecDepth 100000 in
set_option maxHeartbeats 4000000 in
theorem rnorm_any (a b : Int) (h1 : a.natAbs ≤ 400) (h2 : b.natAbs ≤ 400) (w : World) : Calls Tryd.prog 12 #[.agg #[.float .f64 (fi a), .float .f64 (fi b)]] w fun e w' => e = .returned (.float .f64 (fi (a * a + b * b))) ∧ Below w.heap.size w w' := by
  have k1 := sq_small a h1
  have k2 := sq_small b h2
  obtain ⟨W, hW⟩ : ∃ W, W = w.alloc (.cells #[.float .f64 (fi a), .float .f64 (fi b)] 31) := ⟨_, rfl⟩
  have hB : Blk W w.heap.size 31 #[.float .f64 (fi a), .float .f64 (fi b)] := hW ▸ Blk.new w _ _
  have c0 : W.cell? ⟨w.heap.size, 0, none⟩ = some (.float .f64 (fi a)) := hB.cell 0
  have c1 : W.cell? ⟨w.heap.size, 1, none⟩ = some (.float .f64 (fi b)) := hB.cell 1
  have HL : Hid (Below w.heap.size w W) := hid (hW ▸ (Below.refl _ _).alloc (Nat.le_refl _) _)
  have m1 : (binOp .mul 26 (.float .f64 (fi a)) (.float .f64 (fi a))).run Tryd.prog W = .ok (.float .f64 (fi (a * a))) W := run_float_arith W .mul _ _ _ _ _ (sq_fi a h1)
  have m2 : (binOp .mul 26 (.float .f64 (fi b)) (.float .f64 (fi b))).run Tryd.prog W = .ok (.float .f64 (fi (b * b))) W := run_float_arith W .mul _ _ _ _ _ (sq_fi b h2)
  have m3 : (binOp .add 26 (.float .f64 (fi (a * a))) (.float .f64 (fi (b * b)))).run Tryd.prog W = .ok (.float .f64 (fi (a * a + b * b))) W := run_float_arith W .add _ _ _ _ _ (add_fi _ _ (by omega) (by omega))
  have HW := hid hW.symm
  clear hW hB
  generalize a * a + b * b = s at *
  generalize a * a = aa at *
  generalize b * b = bb at *
  go_enter Tryd.func12, Tryd.ntmps12
  go_upto_region 1 with fail
  rw [HW.out]
  go_wp2
  go_ret
  exact ⟨rfl, HL.out⟩

/-- Who has the greatest number, and that. -/
def wst (f : Nat → Int) : Nat → Int × Int
  | 0 => (-1, 0)
  | c + 1 => if (wst f c).1 < 0 ∨ (wst f c).2 < f c then ((c : Int), f c) else wst f c
theorem wst_range (f : Nat → Int) (B : Int) (h : ∀ c, 0 ≤ f c ∧ f c ≤ B) (hB : 0 ≤ B) : ∀ c, -1 ≤ (wst f c).1 ∧ (wst f c).1 ≤ c ∧ 0 ≤ (wst f c).2 ∧ (wst f c).2 ≤ B
  | 0 => by simp [wst]; omega
  | c + 1 => by
    have := wst_range f B h hB c
    have := h c
    unfold wst
    split
    · simp only; omega
    · omega
theorem gt_fi (a b : Int) (h1 : a.natAbs ≤ 1000000) (h2 : b.natAbs ≤ 1000000) : (FloatKind.f64.format.order (fi a) (fi b) == some .gt) = decide (b < a) := by
  have p : (1000000 : Nat) < 2 ^ 53 := by decide
  rw [show FloatKind.f64.format = Ieee.double from rfl, order_fi a b (by omega) (by omega)]
  by_cases h : b < a
  · rw [decide_eq_true h, Int.compare_eq_gt.2 h]; rfl
  · rw [decide_eq_false h]
    rcases Int.lt_trichotomy a b with g | g | g
    · rw [Int.compare_eq_lt.2 g]; rfl
    · rw [Int.compare_eq_eq.2 g]; rfl
    · omega

/-- A balance's norm. -/
def nrm (xs : List Int) (n : Nat) (c : Nat) : Int := balr xs (c : Nat) n * balr xs (c : Nat) n + bali xs (c : Nat) n * bali xs (c : Nat) n
theorem nrm_range (xs : List Int) (n : Nat) (h : n ≤ 300) (c : Nat) : 0 ≤ nrm xs n c ∧ nrm xs n c ≤ 320000 := by
  have h1 := sq_small (balr xs (c : Nat) n) (by have := balr_small xs (c : Nat) n; omega)
  have h2 := sq_small (bali xs (c : Nat) n) (by have := bali_small xs (c : Nat) n; omega)
  unfold nrm
  omega

set_option linter.unusedSimpArgs false in
set_option maxRecDepth 100000 in
set_option maxHeartbeats 4000000 in
theorem worst_any (ad : Option Addr) (cap : Nat) (xs : List Int) (hx : xs.length ≤ 300) (M : Nat) (h1 : 1 ≤ M) (h2 : M ≤ 24) (w : World) (hX : IntsIn w.heap.size w ad xs) :
    Calls Tryd.prog 7 #[.slice ad xs.length cap, .int .i64 (M : Int)] w fun e w' => e = .returned (.tuple #[.int .i64 (wst (nrm xs xs.length) M).1, .float .f64 (fi (wst (nrm xs xs.length) M).2)]) ∧ Below w.heap.size w w' := by
  have HA := hid (all_any ad cap xs (by omega) M h1 h2 w hX)
  have HR := hid (fun c => wst_range (nrm xs xs.length) 320000 (nrm_range xs xs.length hx) (by decide) c)
  have HNr := hid (nrm_range xs xs.length hx)
  have HNo := hid (fun (c : Nat) W => norm_any (balr xs (c : Nat) xs.length) (bali xs (c : Nat) xs.length) (by have := balr_small xs (c : Nat) xs.length; omega) (by have := bali_small xs (c : Nat) xs.length; omega) W)
  obtain ⟨n, hn⟩ : ∃ n, n = xs.length := ⟨_, rfl⟩
  rw [← hn] at HA HR HNr HNo ⊢
  clear hX hx hn
  have H0 : Hid ((.float .f64 0 : Value) = .float .f64 (fi (wst (nrm xs n) 0).2)) := hid (by unfold wst; rw [fi_zero])
  go_enter Tryd.func7, Tryd.ntmps7
  go_wp2_with fail
  refine HA.out.mono ?_
  rintro e w1 ⟨G, rfl, hG, hrow, hb1⟩
  have HB1 := hid hb1
  have HRow := hid hrow
  clear hrow hb1 HA hG
  go_wp2
  go_loopg [6, 7, 15] M (fun g s u t wr => ∃ p : Nat, p ≤ M ∧ g = M - p ∧ t = .int .i64 (p : Int) ∧ s = .int .i64 (wst (nrm xs n) p).1 ∧ u = .float .f64 (fi (wst (nrm xs n) p).2) ∧ Hid (Below w1.heap.size w1 wr))
  case atStart => exact ⟨0, by omega, by omega, rfl, rfl, H0.out, hid (Below.refl _ _)⟩
  case round =>
    obtain ⟨p, hp, rfl, rfl, rfl, rfl, HB4⟩ := hrel
    by_cases hlt : p < M
    · have d0 : wr.cell? ⟨G, p, none⟩ = some (cx (balr xs (p : Nat) n) (bali xs (p : Nat) n)) := by
        rw [HB4.out.cell (p := ⟨G, p, none⟩) HRow.out.lt, HRow.out.cell hlt]
        simp [allV, hlt]
      have HNp : Hid (Calls Tryd.prog 17 #[cx (balr xs (p : Nat) n) (bali xs (p : Nat) n)] wr fun e w' => e = .returned (.float .f64 (fi (nrm xs n p))) ∧ wr = w') := hid (HNo.out p wr)
      have hr := HR.out p
      have hq := HNr.out p
      have hgt := gt_fi (nrm xs n p) (wst (nrm xs n) p).2 (by omega) (by omega)
      have HSu : Hid ((wst (nrm xs n) p).1 < 0 ∨ (wst (nrm xs n) p).2 < nrm xs n p → ((p : Int) = (wst (nrm xs n) (p + 1)).1 ∧ nrm xs n p = (wst (nrm xs n) (p + 1)).2)) := hid (fun h => by
        rw [show wst (nrm xs n) (p + 1) = ((p : Int), nrm xs n p) by rw [wst, if_pos h]]
        exact ⟨rfl, rfl⟩)
      have HSn : Hid (¬ ((wst (nrm xs n) p).1 < 0 ∨ (wst (nrm xs n) p).2 < nrm xs n p) → ((wst (nrm xs n) p).1 = (wst (nrm xs n) (p + 1)).1 ∧ (wst (nrm xs n) p).2 = (wst (nrm xs n) (p + 1)).2)) := hid (fun h => by
        rw [show wst (nrm xs n) (p + 1) = wst (nrm xs n) p by rw [wst, if_neg h]]
        exact ⟨rfl, rfl⟩)
      generalize (wst (nrm xs n) p).1 = k at *
      generalize (wst (nrm xs n) p).2 = b at *
      generalize nrm xs n p = q at *
      generalize balr xs (p : Nat) n = a1 at *
      generalize bali xs (p : Nat) n = a2 at *
      by_cases hk : k < 0
      · have HEE := hid (HSu.out (.inl hk))
        clear HSu HSn HNo HR HNr hgt
        go_wp2_with fail
        refine HNp.out.mono ?_
        rintro e w5 ⟨rfl, rfl⟩
        clear HNp d0
        go_wp2
        go_roundg (M - (p + 1))
        case measure => omega
        case rel => exact ⟨p + 1, by omega, rfl, by go_num, by rw [HEE.out.1], by rw [HEE.out.2], HB4⟩
      · have q1 : decide (k < 0) = false := decide_eq_false hk
        by_cases hb : b < q
        · have HEE := hid (HSu.out (.inr hb))
          have hz := decide_eq_true hb
          generalize decide (b < q) = z at hgt hz
          clear hb
          clear HSu HSn HNo HR HNr
          go_wp2_with fail
          refine HNp.out.mono ?_
          rintro e w5 ⟨rfl, rfl⟩
          clear HNp d0
          go_wp2
          go_roundg (M - (p + 1))
          case measure => omega
          case rel => exact ⟨p + 1, by omega, rfl, by go_num, by rw [HEE.out.1], by rw [HEE.out.2], HB4⟩
        · have HEE := hid (HSn.out (by omega))
          have hz := decide_eq_false hb
          generalize decide (b < q) = z at hgt hz
          clear hb
          clear HSu HSn HNo HR HNr
          go_wp2_with fail
          refine HNp.out.mono ?_
          rintro e w5 ⟨rfl, rfl⟩
          clear HNp d0
          go_wp2
          go_roundg (M - (p + 1))
          case measure => omega
          case rel => exact ⟨p + 1, by omega, rfl, by go_num, by rw [HEE.out.1], by rw [HEE.out.2], HB4⟩
    · obtain rfl : p = M := by omega
      go_wp2
      go_ret2
      exact ⟨rfl, bel2 HB1.out HB4.out⟩

set_option linter.unusedSimpArgs false in
set_option maxHeartbeats 4000000 in
theorem worst_no (ad : Option Addr) (n cap : Nat) (m : Int) (h : m < 1 ∨ 24 < m) (w : World) :
    Calls Tryd.prog 7 #[.slice ad n cap, .int .i64 m] w fun e w' => e = .returned (.tuple #[.int .i64 (-1), .float .f64 0]) ∧ Below w.heap.size w w' := by
  have HA := hid (all_no ad n cap m h w)
  clear h
  go_enter Tryd.func7, Tryd.ntmps7
  go_wp2_with fail
  refine HA.out.mono ?_
  rintro e w1 ⟨rfl, rfl⟩
  go_wp2
  go_loopg [6, 7, 15] 0 (fun g s u t wr => g = 0 ∧ t = .int .i64 0 ∧ s = .int .i64 (-1) ∧ u = .float .f64 0 ∧ Hid (Below w.heap.size w wr))
  case atStart => exact ⟨rfl, rfl, rfl, rfl, hid (Below.refl _ _)⟩
  case round =>
    obtain ⟨rfl, rfl, rfl, rfl, HB4⟩ := hrel
    go_wp2
    go_ret2
    exact ⟨rfl, HB4.out⟩
end Go.Proofs.YtahconkjhneogaaDoor
