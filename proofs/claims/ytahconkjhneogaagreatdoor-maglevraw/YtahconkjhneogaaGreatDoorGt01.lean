/-
  The law MaglevRaw: long tables, long tuples.
-/
import Derived.Test.YtahconkjhneogaaGreatDoorGr10
import Derived.Deep.DeepCutAuto
namespace Go.Proofs.YtahconkjhneogaaGreatDoor
open Go.RowKit Go.Lib

set_option linter.unusedSimpArgs false in
set_option maxRecDepth 100000 in
set_option maxHeartbeats 8000000 in
theorem raw_long (E : Nat → TypeId × Value) (m m2 : Int) (ab ab2 as1 as2 ay : Option Addr) (nb cb nb2 cb2 nl cl nl2 cl2 k cy : Nat) (h : 300 < nl ∨ 300 < nl2 ∨ 40 < nb ∨ 40 < nb2 ∨ 200 < k) (w : World) (hE : MEnv E w) :
    Calls Tryz.prog 4 #[.agg #[.int .i64 m, .slice ab nb cb, .slice as1 nl cl], .agg #[.int .i64 m2, .slice ab2 nb2 cb2, .slice as2 nl2 cl2], .slice ay k cy] w fun e w' => e = .returned (.bool true) ∧ Below w.heap.size w w' := by
  obtain ⟨W0, hW0⟩ : ∃ W, W = w.alloc (.cells #[.int .i64 m, .slice ab nb cb, .slice as1 nl cl] 27) := ⟨_, rfl⟩
  obtain ⟨W1, hW1⟩ : ∃ W, W = W0.alloc (.cells #[.int .i64 m2, .slice ab2 nb2 cb2, .slice as2 nl2 cl2] 27) := ⟨_, rfl⟩
  have s0 : W0.heap.size = w.heap.size + 1 := by rw [hW0]; simp
  have b0 : Below w.heap.size w W0 := hW0 ▸ (Below.refl _ _).alloc (Nat.le_refl _) _
  have b1 : Below W0.heap.size W0 W1 := hW1 ▸ (Below.refl _ _).alloc (Nat.le_refl _) _
  have K0 := hid ((hW0 ▸ Blk.new w _ _ : Blk W0 w.heap.size 27 #[.int .i64 m, .slice ab nb cb, .slice as1 nl cl]).kept b1)
  have K1 : Hid (Blk W1 (w.heap.size + 1) 27 #[.int .i64 m2, .slice ab2 nb2 cb2, .slice as2 nl2 cl2]) := hid (by rw [← s0]; exact (hW1 ▸ Blk.new W0 _ _ : Blk W1 W0.heap.size 27 _))
  have HW0 := hid hW0.symm
  have HW1 := hid hW1.symm
  have Hb1 := hid (bel2 b0 b1)
  have HA := hid (malive_any E W1 (hE.kept (bel2 b0 b1)))
  have hq : decide ((300 : Int) < (nl : Int)) = true ∨ (decide ((300 : Int) < (nl : Int)) = false ∧ decide ((300 : Int) < (nl2 : Int)) = true) ∨ (decide ((300 : Int) < (nl : Int)) = false ∧ decide ((300 : Int) < (nl2 : Int)) = false ∧ decide ((40 : Int) < (nb : Int)) = true) ∨ (decide ((300 : Int) < (nl : Int)) = false ∧ decide ((300 : Int) < (nl2 : Int)) = false ∧ decide ((40 : Int) < (nb : Int)) = false ∧ decide ((40 : Int) < (nb2 : Int)) = true) ∨ (decide ((300 : Int) < (nl : Int)) = false ∧ decide ((300 : Int) < (nl2 : Int)) = false ∧ decide ((40 : Int) < (nb : Int)) = false ∧ decide ((40 : Int) < (nb2 : Int)) = false ∧ decide ((200 : Int) < (k : Int)) = true) := by
    simp only [decide_eq_true_eq, decide_eq_false_iff_not]
    omega
  clear hW0 hW1 s0 b0 b1 hE h
  rcases hq with q1 | ⟨q1, q2⟩ | ⟨q1, q2, q3⟩ | ⟨q1, q2, q3, q4⟩ | ⟨q1, q2, q3, q4, q5⟩
  all_goals
    go_enter Tryz.func4, Tryz.ntmps4
    go_upto_region 1 with fail
    rw [HW0.out, HW1.out]
    go_wp2_with fail
    refine HA.out.mono ?_
    rintro e w2 ⟨rfl, hb⟩
    have Hb2 := hid (bel2 Hb1.out hb)
    have c2 : w2.cell? ⟨w.heap.size, 2, none⟩ = some (.slice as1 nl cl) := (K0.out.kept hb).cell 2
    have d2 : w2.cell? ⟨w.heap.size + 1, 2, none⟩ = some (.slice as2 nl2 cl2) := (K1.out.kept hb).cell 2
    have c1 : w2.cell? ⟨w.heap.size, 1, none⟩ = some (.slice ab nb cb) := (K0.out.kept hb).cell 1
    have d1 : w2.cell? ⟨w.heap.size + 1, 1, none⟩ = some (.slice ab2 nb2 cb2) := (K1.out.kept hb).cell 1
    clear hb HA
    go_wp2
    go_ret
    exact ⟨rfl, Hb2.out⟩
end Go.Proofs.YtahconkjhneogaaGreatDoor
