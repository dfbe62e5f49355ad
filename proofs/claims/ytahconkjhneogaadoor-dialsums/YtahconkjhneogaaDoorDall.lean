/-
  dial: the balances of all; the document's total.
-/
import Derived.Test.YtahconkjhneogaaDoorDtot
import Derived.Deep.OwnRows
import Derived.OwnWalk
import Derived.Laws.OwnMore
import Derived.Deep.DeepMust
namespace Go.Proofs.YtahconkjhneogaaDoor
open Go.RowKit Go.Lib

theorem Tryd.infoCV : (Tryd.prog.info? 33).map (fun i => (i.zero, i.size, i.bytes)) = some (some (.complex .f64 0 0), 1, 16) := by kernel_rfl

/-- What All holds as it goes. -/
def allV (xs : List Int) (n c : Nat) : Nat → Value := fun j => if j < c then cx (balr xs j n) (bali xs j n) else .complex .f64 0 0
theorem allV_set {w : World} {g M c n : Nat} {xs : List Int} {t : TypeId} (h : w.rowIs g t M (allV xs n c)) : (w.setCell ⟨g, c, none⟩ (cx (balr xs c n) (bali xs c n))).rowIs g t M (allV xs n (c + 1)) :=
  (h.set c _).congr fun j _ => by
    unfold allV
    by_cases h1 : j = c
    · subst h1; simp
    · by_cases h2 : j < c
      · simp [h1, h2, Nat.lt_succ_of_lt h2]
      · simp [h1, h2, show ¬ j < c + 1 by omega]

set_option linter.unusedSimpArgs false in
set_option maxRecDepth 100000 in
set_option maxHeartbeats 4000000 in
theorem all_any (ad : Option Addr) (cap : Nat) (xs : List Int) (hx : xs.length ≤ 1000) (M : Nat) (h1 : 1 ≤ M) (h2 : M ≤ 24) (w : World) (hX : IntsIn w.heap.size w ad xs) :
    Calls Tryd.prog 6 #[.slice ad xs.length cap, .int .i64 (M : Int)] w fun e w' => ∃ g, e = .returned (.slice (some ⟨g, 0, none⟩) M M) ∧ w.heap.size ≤ g ∧ w'.rowIs g 33 M (allV xs xs.length M) ∧ Below w.heap.size w w' := by
  have HBa := hid (fun (who : Nat) W (hb : Below w.heap.size w W) => balance_any ad cap xs who hx W ((hX.below hb).mono hb.size))
  have hmk := run_make_row' (P := Tryd.prog) 24 33 (.complex .f64 0 0) 16 Tryd.underlying24 Tryd.infoCV rfl .i64 .i64 M (by omega) (by omega)
  obtain ⟨n, hn⟩ : ∃ n, n = xs.length := ⟨_, rfl⟩
  rw [← hn] at hx HBa ⊢
  have HRow : Hid ((w.alloc (.cells (madeCells #[.complex .f64 0 0] M) 33)).rowIs w.heap.size 33 M (allV xs n 0)) := hid ((World.rowIs_made w (.complex .f64 0 0) M 33).congr fun j _ => by simp [allV])
  have HBel : Hid (Below w.heap.size w (w.alloc (.cells (madeCells #[.complex .f64 0 0] M) 33))) := hid ((Below.refl _ w).alloc (Nat.le_refl _) _)
  clear hX hn
  go_enter Tryd.func6, Tryd.ntmps6
  go_wp2
  clear hmk
  go_loopg [17] M (fun g i wr => ∃ c : Nat, c ≤ M ∧ g = M - c ∧ i = .int .i64 c ∧ Hid (wr.rowIs w.heap.size 33 M (allV xs n c)) ∧ Hid (Below w.heap.size w wr))
  case atStart => exact ⟨0, by omega, by omega, rfl, HRow, HBel⟩
  case round =>
    obtain ⟨c, hc, rfl, rfl, hrow, hnx⟩ := hrel
    by_cases hlt : c < M
    · have HBc := hid (HBa.out c wr hnx.out)
      go_wp2_with fail
      refine HBc.out.mono ?_
      rintro e w4 ⟨rfl, hb⟩
      have hr4 : w4.rowIs w.heap.size 33 M (allV xs n c) := hrow.out.of_block (hb.block _ hrow.out.lt)
      have f1 := hr4.cell hlt
      have f2 := hr4.frozen c
      have Hrow := hid (allV_set hr4)
      have Hnx := hid (((hnx.out.trans (hb.mono hnx.out.size))).setCell (p := ⟨w.heap.size, c, none⟩) (Nat.le_refl _) (cx (balr xs c n) (bali xs c n)))
      simp only [allV, Nat.lt_irrefl, if_false] at f1
      clear hr4 hb hrow hnx HBc
      unfold cx at *
      generalize fi (balr xs c n) = u at *
      generalize fi (bali xs c n) = v at *
      have hst : (store ⟨w.heap.size, c, none⟩ (.complex .f64 u v)).run Tryd.prog w4 = stored Tryd.prog w4 ⟨w.heap.size, c, none⟩ (.complex .f64 u v) _ := run_store _ _ _ _ _ rfl
      go_wp2
      go_roundg (M - (c + 1))
      case measure => omega
      case rel => exact ⟨c + 1, by omega, rfl, by go_num, Hrow, Hnx⟩
    · obtain rfl : c = M := by omega
      go_wp2
      go_ret
      exact ⟨w.heap.size, rfl, Nat.le_refl _, hrow.out, hnx.out⟩

set_option maxHeartbeats 4000000 in
theorem all_no (ad : Option Addr) (n cap : Nat) (m : Int) (h : m < 1 ∨ 24 < m) (w : World) :
    Calls Tryd.prog 6 #[.slice ad n cap, .int .i64 m] w fun e w' => e = .returned (.slice none 0 0) ∧ w = w' := by
  by_cases h1 : m < 1
  · go_enter Tryd.func6, Tryd.ntmps6
    go_wp2
    go_ret
    exact ⟨rfl, rfl⟩
  · have h2 : 24 < m := by omega
    go_enter Tryd.func6, Tryd.ntmps6
    go_wp2
    go_ret
    exact ⟨rfl, rfl⟩

set_option linter.unusedSimpArgs false in
set_option maxRecDepth 100000 in
set_option maxHeartbeats 4000000 in
theorem rtotal_any (n : Nat) (hn : n ≤ 1000) (w : World) : Calls Tryd.prog 15 #[.int .i64 (n : Int)] w fun e w' => e = .returned (.agg #[.float .f64 (fi (totr n)), .float .f64 (fi (toti n))]) ∧ Below w.heap.size w w' := by
  rw [(tot_mod n).1, (tot_mod n).2]
  obtain ⟨r, hr⟩ : ∃ r, r = n % 4 := ⟨_, rfl⟩
  have hc : r = 0 ∨ r = 1 ∨ r = 2 ∨ r = 3 := by omega
  have e1 : (n : Int).tmod 4 = (r : Int) := by rw [Int.tmod_eq_emod_of_nonneg (by omega)]; omega
  have hz : n = 0 → r = 0 := by omega
  rw [← hr]
  clear hr
  obtain ⟨W, hW⟩ : ∃ W, W = w.alloc (.cells #[.float .f64 0, .float .f64 0] 31) := ⟨_, rfl⟩
  have HW := hid hW.symm
  have HB := hid (hW ▸ Blk.new w _ _ : Blk W w.heap.size 31 #[.float .f64 0, .float .f64 0])
  have HL : Hid (Below w.heap.size w W) := hid (hW ▸ (Below.refl _ _).alloc (Nat.le_refl _) _)
  clear hW
  have H2 := hid (fun p q => HB.out.row #[.float .f64 p, .float .f64 q])
  have HL2 := hid (fun p q => below_setRow HL.out (Nat.le_refl _) #[.float .f64 p, .float .f64 q])
  by_cases h0 : n = 0
  · have hr0 := hz h0
    have q1 : decide ((n : Int) < 1) = true := decide_eq_true (by omega)
    clear hz h0 hc e1
    subst hr0
    rw [show fi (totr 0) = 0 from fi_zero, show fi (toti 0) = 0 from fi_zero]
    go_enter Tryd.func15, Tryd.ntmps15
    go_wp2_with ((try rw [HW.out]); refine wpl_store 31 _ _ rfl w.heap.size #[.float .f64 0, .float .f64 0] rfl rfl _ _ HB.out 2 Tryd.infoC rfl rfl (by simp [Value.oneCell']) rfl ?_)
    exact retA rfl w.heap.size rfl 31 _ _ (H2.out 0 0) Tryd.underlying31 rfl 2 Tryd.infoC rfl rfl ⟨rfl, HL2.out 0 0⟩
  · have q1 : decide ((n : Int) < 1) = false := decide_eq_false (by omega)
    clear hz h0
    rcases hc with rfl | rfl | rfl | rfl
    · rw [show fi (totr 0) = 0 from fi_zero, show fi (toti 0) = 0 from fi_zero]
      go_enter Tryd.func15, Tryd.ntmps15
      go_wp2_with ((try rw [HW.out]); refine wpl_store 31 _ _ rfl w.heap.size #[.float .f64 0, .float .f64 0] rfl rfl _ _ HB.out 2 Tryd.infoC rfl rfl (by simp [Value.oneCell']) rfl ?_)
      exact retA rfl w.heap.size rfl 31 _ _ (H2.out 0 0) Tryd.underlying31 rfl 2 Tryd.infoC rfl rfl ⟨rfl, HL2.out 0 0⟩
    · rw [show fi (totr 1) = 4607182418800017408 from fi_one, show fi (toti 1) = 0 from fi_zero]
      go_enter Tryd.func15, Tryd.ntmps15
      go_wp2_with ((try rw [HW.out]); refine wpl_store 31 _ _ rfl w.heap.size #[.float .f64 4607182418800017408, .float .f64 0] rfl rfl _ _ HB.out 2 Tryd.infoC rfl rfl (by simp [Value.oneCell']) rfl ?_)
      exact retA rfl w.heap.size rfl 31 _ _ (H2.out 4607182418800017408 0) Tryd.underlying31 rfl 2 Tryd.infoC rfl rfl ⟨rfl, HL2.out _ _⟩
    · rw [show fi (totr 2) = 4607182418800017408 from fi_one, show fi (toti 2) = 4607182418800017408 from fi_one]
      go_enter Tryd.func15, Tryd.ntmps15
      go_wp2_with ((try rw [HW.out]); refine wpl_store 31 _ _ rfl w.heap.size #[.float .f64 4607182418800017408, .float .f64 4607182418800017408] rfl rfl _ _ HB.out 2 Tryd.infoC rfl rfl (by simp [Value.oneCell']) rfl ?_)
      exact retA rfl w.heap.size rfl 31 _ _ (H2.out _ _) Tryd.underlying31 rfl 2 Tryd.infoC rfl rfl ⟨rfl, HL2.out _ _⟩
    · rw [show fi (totr 3) = 0 from fi_zero, show fi (toti 3) = 4607182418800017408 from fi_one]
      go_enter Tryd.func15, Tryd.ntmps15
      go_wp2_with ((try rw [HW.out]); refine wpl_store 31 _ _ rfl w.heap.size #[.float .f64 0, .float .f64 4607182418800017408] rfl rfl _ _ HB.out 2 Tryd.infoC rfl rfl (by simp [Value.oneCell']) rfl ?_)
      exact retA rfl w.heap.size rfl 31 _ _ (H2.out _ _) Tryd.underlying31 rfl 2 Tryd.infoC rfl rfl ⟨rfl, HL2.out _ _⟩
end Go.Proofs.YtahconkjhneogaaDoor
