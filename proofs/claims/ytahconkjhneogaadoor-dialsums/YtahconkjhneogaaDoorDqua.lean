/-
  dial: quarter turns of 1: around, Quarter.
-/
import Derived.Test.YtahconkjhneogaaDoorNkit
import Derived.Test.YtahconkjhneogaaDoorDpure
namespace Go.Proofs.YtahconkjhneogaaDoor
open Go.RowKit Go.Lib

/-- The parts of a quarter turn of 1, by its number. -/
def qr (n : Nat) : Int := if n % 4 = 0 then 1 else if n % 4 = 2 then -1 else 0
def qi (n : Nat) : Int := if n % 4 = 1 then 1 else if n % 4 = 3 then -1 else 0
/-- A complex number with whole parts. -/
def cx (a b : Int) : Value := .complex .f64 (fi a) (fi b)

theorem fi_zero : fi 0 = 0 := by decide +kernel
theorem fi_one : fi 1 = 4607182418800017408 := by decide +kernel
theorem fi_neg : fi (-1) = 13830554455654793216 := by decide +kernel

set_option maxHeartbeats 1000000 in
theorem around_any (n : Nat) (hn : n ≤ 1000000) (w : World) : Calls Tryd.prog 19 #[.int .i64 (n : Int)] w fun e w' => e = .returned (.int .i64 ((n % 4 : Nat) : Int)) ∧ w = w' := by
  obtain ⟨r, hr⟩ : ∃ r, r = n % 4 := ⟨_, rfl⟩
  have hr4 : r < 4 := by omega
  have e1 : (n : Int).tmod 4 = (r : Int) := by rw [Int.tmod_eq_emod_of_nonneg (by omega)]; omega
  have e2 : ((r : Int) + 4).tmod 4 = (r : Int) := by rw [Int.tmod_eq_emod_of_nonneg (by omega)]; omega
  rw [← hr]
  clear hr
  go_enter Tryd.func19, Tryd.ntmps19
  go_wp2
  go_ret
  exact ⟨rfl, rfl⟩

theorem Tryd.infoQ : (Tryd.prog.info? 46).map (·.size) = some 4 := by kernel_rfl

set_option linter.unusedSimpArgs false in
set_option maxRecDepth 100000 in
set_option maxHeartbeats 4000000 in
theorem quarter_any (n : Nat) (hn : n ≤ 1000000) (w : World) : Calls Tryd.prog 18 #[.int .i64 (n : Int)] w fun e w' => e = .returned (cx (qr n) (qi n)) ∧ Below w.heap.size w w' := by
  have HA := hid (fun W => around_any n hn W)
  have hc : n % 4 = 0 ∨ n % 4 = 1 ∨ n % 4 = 2 ∨ n % 4 = 3 := by omega
  unfold cx
  obtain ⟨W, hW⟩ : ∃ W, W = w.alloc (.cells #[.complex .f64 0 0, .complex .f64 0 0, .complex .f64 0 0, .complex .f64 0 0] 46) := ⟨_, rfl⟩
  have HW := hid hW.symm
  have HB := hid (hW ▸ Blk.new w _ _ : Blk W w.heap.size 46 #[.complex .f64 0 0, .complex .f64 0 0, .complex .f64 0 0, .complex .f64 0 0])
  have HL : Hid (Below w.heap.size w W) := hid (hW ▸ (Below.refl _ _).alloc (Nat.le_refl _) _)
  clear hW
  have HB2 := hid (HB.out.row #[.complex .f64 4607182418800017408 0, .complex .f64 0 4607182418800017408, .complex .f64 13830554455654793216 0, .complex .f64 0 13830554455654793216])
  have HL2 := hid (below_setRow HL.out (Nat.le_refl _) #[.complex .f64 4607182418800017408 0, .complex .f64 0 4607182418800017408, .complex .f64 13830554455654793216 0, .complex .f64 0 13830554455654793216])
  generalize hV : W.setRow w.heap.size _ = V at HB2 HL2
  have HV := hid hV
  clear hV
  rcases hc with h | h | h | h
  · rw [show qr n = 1 by simp [qr, h], show qi n = 0 by simp [qi, h], fi_one, fi_zero]
    rw [h] at HA
    have c : V.cell? ⟨w.heap.size, 0, none⟩ = some (.complex .f64 4607182418800017408 0) := HB2.out.cell 0
    go_enter Tryd.func18, Tryd.ntmps18
    go_wp2_with ((try rw [HW.out]); refine wpl_store 46 _ _ rfl w.heap.size #[.complex .f64 4607182418800017408 0, .complex .f64 0 4607182418800017408, .complex .f64 13830554455654793216 0, .complex .f64 0 13830554455654793216] rfl rfl _ _ HB.out 4 Tryd.infoQ rfl rfl (by simp [Value.oneCell']) rfl ?_; rw [HV.out])
    refine (HA.out _).mono ?_
    rintro e w1 ⟨rfl, rfl⟩
    go_wp2
    go_ret
    exact ⟨rfl, HL2.out⟩
  · rw [show qr n = 0 by simp [qr, h], show qi n = 1 by simp [qi, h], fi_one, fi_zero]
    rw [h] at HA
    have c : V.cell? ⟨w.heap.size, 1, none⟩ = some (.complex .f64 0 4607182418800017408) := HB2.out.cell 1
    go_enter Tryd.func18, Tryd.ntmps18
    go_wp2_with ((try rw [HW.out]); refine wpl_store 46 _ _ rfl w.heap.size #[.complex .f64 4607182418800017408 0, .complex .f64 0 4607182418800017408, .complex .f64 13830554455654793216 0, .complex .f64 0 13830554455654793216] rfl rfl _ _ HB.out 4 Tryd.infoQ rfl rfl (by simp [Value.oneCell']) rfl ?_; rw [HV.out])
    refine (HA.out _).mono ?_
    rintro e w1 ⟨rfl, rfl⟩
    go_wp2
    go_ret
    exact ⟨rfl, HL2.out⟩
  · rw [show qr n = -1 by simp [qr, h], show qi n = 0 by simp [qi, h], fi_neg, fi_zero]
    rw [h] at HA
    have c : V.cell? ⟨w.heap.size, 2, none⟩ = some (.complex .f64 13830554455654793216 0) := HB2.out.cell 2
    go_enter Tryd.func18, Tryd.ntmps18
    go_wp2_with ((try rw [HW.out]); refine wpl_store 46 _ _ rfl w.heap.size #[.complex .f64 4607182418800017408 0, .complex .f64 0 4607182418800017408, .complex .f64 13830554455654793216 0, .complex .f64 0 13830554455654793216] rfl rfl _ _ HB.out 4 Tryd.infoQ rfl rfl (by simp [Value.oneCell']) rfl ?_; rw [HV.out])
    refine (HA.out _).mono ?_
    rintro e w1 ⟨rfl, rfl⟩
    go_wp2
    go_ret
    exact ⟨rfl, HL2.out⟩
  · rw [show qr n = 0 by simp [qr, h], show qi n = -1 by simp [qi, h], fi_neg, fi_zero]
    rw [h] at HA
    have c : V.cell? ⟨w.heap.size, 3, none⟩ = some (.complex .f64 0 13830554455654793216) := HB2.out.cell 3
    go_enter Tryd.func18, Tryd.ntmps18
    go_wp2_with ((try rw [HW.out]); refine wpl_store 46 _ _ rfl w.heap.size #[.complex .f64 4607182418800017408 0, .complex .f64 0 4607182418800017408, .complex .f64 13830554455654793216 0, .complex .f64 0 13830554455654793216] rfl rfl _ _ HB.out 4 Tryd.infoQ rfl rfl (by simp [Value.oneCell']) rfl ?_; rw [HV.out])
    refine (HA.out _).mono ?_
    rintro e w1 ⟨rfl, rfl⟩
    go_wp2
    go_ret
    exact ⟨rfl, HL2.out⟩
end Go.Proofs.YtahconkjhneogaaDoor
