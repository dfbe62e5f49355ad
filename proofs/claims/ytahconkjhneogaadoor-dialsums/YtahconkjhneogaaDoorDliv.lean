/-
  dial: the example of layer 11: Tell of i, the balance of three places.
-/
import Derived.Test.YtahconkjhneogaaDoorDtot
import Derived.Laws.Externs
namespace Go.Proofs.YtahconkjhneogaaDoor
open Go.RowKit Go.Lib

theorem x_trunc (x y : Nat) (h : ∀ W : World, (Extern.MathFloor.toIntegral "math.archTrunc" .zero #[.float .f64 x]).run Tryd.prog W = .ok (.float .f64 y) W) (W : World) : (callFunc 28 #[.float .f64 x]).run Tryd.prog W = .ok (.value (.float .f64 y)) W := by
  rw [run_callFunc_extern Tryd.func28 (by kernel_rfl) (by kernel_rfl) (by kernel_rfl) (e := Extern.MathFloor.toIntegral "math.archTrunc" .zero) (by kernel_rfl), h]
  rfl
theorem x_bits (x : Nat) (W : World) : (callFunc 27 #[.float .f64 x]).run Tryd.prog W = .ok (.value (.int .u64 x)) W := by
  rw [run_callFunc_extern Tryd.func27 (by kernel_rfl) (by kernel_rfl) (by kernel_rfl) (e := Extern.MathFloatBits.float64bits) (by kernel_rfl)]
  rfl
theorem x_from (x : Nat) (W : World) : (callFunc 26 #[.int .u64 x]).run Tryd.prog W = .ok (.value (.float .f64 x)) W := by
  rw [run_callFunc_extern Tryd.func26 (by kernel_rfl) (by kernel_rfl) (by kernel_rfl) (e := Extern.MathFloatBits.float64frombits) (by kernel_rfl)]
  rfl

theorem small_any (n : Nat) (h : n = 0 ∨ n = 1) (w : World) : Calls Tryd.prog 21 #[.int .i64 (n : Int)] w fun e w' => e = .returned (.string ⟨#[48 + n.toUInt8]⟩) ∧ w = w' := by
  have H1 : Hid (Calls Tryd.prog 32 #[.int .i64 (n : Int)] w fun e w' => e = .returned (.string ⟨#[48 + n.toUInt8]⟩) ∧ w = w') := hid (by
    rcases h with rfl | rfl
    · go_enter Tryd.func32, Tryd.ntmps32
      go_wp2
      go_ret
      exact ⟨by rfl, rfl⟩
    · go_enter Tryd.func32, Tryd.ntmps32
      go_wp2
      go_ret
      exact ⟨by rfl, rfl⟩)
  have H2 : Hid (Calls Tryd.prog 30 #[.int .i64 (n : Int), .int .i64 10] w fun e w' => e = .returned (.string ⟨#[48 + n.toUInt8]⟩) ∧ w = w') := hid (by
    go_enter Tryd.func30, Tryd.ntmps30
    go_wp2_with fail
    refine H1.out.mono ?_
    rintro e w1 ⟨rfl, rfl⟩
    go_wp2
    go_ret
    exact ⟨rfl, rfl⟩)
  have H3 : Hid (Calls Tryd.prog 25 #[.int .i64 (n : Int)] w fun e w' => e = .returned (.string ⟨#[48 + n.toUInt8]⟩) ∧ w = w') := hid (by
    go_enter Tryd.func25, Tryd.ntmps25
    go_wp2_with fail
    refine H2.out.mono ?_
    rintro e w1 ⟨rfl, rfl⟩
    go_wp2
    go_ret
    exact ⟨rfl, rfl⟩)
  go_enter Tryd.func21, Tryd.ntmps21
  go_wp2_with fail
  refine H3.out.mono ?_
  rintro e w1 ⟨rfl, rfl⟩
  go_wp2
  go_ret
  exact ⟨rfl, rfl⟩

theorem abs_any (x y : Nat) (h : bits .andNot .u64 (x : Int) 9223372036854775808 = (y : Int)) (w : World) : Calls Tryd.prog 23 #[.float .f64 x] w fun e w' => e = .returned (.float .f64 y) ∧ w = w' := by
  have h1 := x_bits x w
  have h3 := x_from y w
  go_enter Tryd.func23, Tryd.ntmps23
  go_wp2
  go_ret
  exact ⟨rfl, rfl⟩

theorem trunc_any (x y : Nat) (h : ∀ W : World, (Extern.MathFloor.toIntegral "math.archTrunc" .zero #[.float .f64 x]).run Tryd.prog W = .ok (.float .f64 y) W) (w : World) : Calls Tryd.prog 24 #[.float .f64 x] w fun e w' => e = .returned (.float .f64 y) ∧ w = w' := by
  have h1 := x_trunc x y h w
  clear h
  go_enter Tryd.func24, Tryd.ntmps24
  go_wp2
  go_ret
  exact ⟨rfl, rfl⟩

set_option linter.unusedSimpArgs false in
set_option maxRecDepth 100000 in
theorem told_any (x : Nat) (h1 : ∀ W : World, (Extern.MathFloor.toIntegral "math.archTrunc" .zero #[.float .f64 x]).run Tryd.prog W = .ok (.float .f64 x) W) (h2 : bits .andNot .u64 (x : Int) 9223372036854775808 = (x : Int))
    (h3 : (FloatKind.f64.format.order x x == some .eq) = true) (h4 : (FloatKind.f64.format.order x 4651998512748167168 == some .lt || FloatKind.f64.format.order x 4651998512748167168 == some .eq) = true) (w : World) :
    Calls Tryd.prog 20 #[.float .f64 x] w fun e w' => e = .returned (.bool true) ∧ w = w' := by
  have HT := hid (trunc_any x x h1)
  have HA := hid (abs_any x x h2)
  clear h1 h2
  go_enter Tryd.func20, Tryd.ntmps20
  go_wp2_with fail
  refine (HT.out _).mono ?_
  rintro e w1 ⟨rfl, rfl⟩
  go_wp2_with fail
  refine (HA.out _).mono ?_
  rintro e w1 ⟨rfl, rfl⟩
  go_wp2
  go_ret
  exact ⟨rfl, rfl⟩

theorem told_zero (w : World) : Calls Tryd.prog 20 #[.float .f64 0] w fun e w' => e = .returned (.bool true) ∧ w = w' :=
  told_any 0 (fun _ => by kernel_rfl) (by decide +kernel) (by decide +kernel) (by decide +kernel) w
theorem told_one (w : World) : Calls Tryd.prog 20 #[.float .f64 4607182418800017408] w fun e w' => e = .returned (.bool true) ∧ w = w' :=
  told_any 4607182418800017408 (fun _ => by kernel_rfl) (by decide +kernel) (by decide +kernel) (by decide +kernel) w
theorem sign_one (w : World) : Calls Tryd.prog 22 #[.int .i64 1] w fun e w' => e = .returned (.string ⟨#[43]⟩) ∧ w = w' := by
  go_enter Tryd.func22, Tryd.ntmps22
  go_wp2
  go_ret
  exact ⟨rfl, rfl⟩

set_option linter.unusedSimpArgs false in
set_option maxRecDepth 100000 in
set_option maxHeartbeats 4000000 in
theorem tell_i (w : World) : Calls Tryd.prog 16 #[.complex .f64 0 4607182418800017408] w fun e w' => e = .returned (.string ⟨#[48, 43, 49, 105]⟩) ∧ w = w' := by
  have H0 := hid (told_zero w)
  have H1 := hid (told_one w)
  have HS := hid (sign_one w)
  have I0 := hid (small_any 0 (.inl rfl) w)
  have I1 := hid (small_any 1 (.inr rfl) w)
  have HA := hid (abs_any 4607182418800017408 4607182418800017408 (by decide +kernel) w)
  have c0 : (convert 26 3 (.float .f64 0)).run Tryd.prog w = .ok (.int .i64 0) w := run_convert_float_int w _ _ .f64 .i64 0 0 (by kernel_rfl) Tryd.underlying3 (by decide +kernel)
  have c1 : (convert 26 3 (.float .f64 4607182418800017408)).run Tryd.prog w = .ok (.int .i64 1) w := run_convert_float_int w _ _ .f64 .i64 4607182418800017408 1 (by kernel_rfl) Tryd.underlying3 (by decide +kernel)
  go_enter Tryd.func16, Tryd.ntmps16
  go_wp2_with fail
  refine H0.out.mono ?_
  rintro e w1 ⟨rfl, rfl⟩
  go_wp2_with fail
  refine H1.out.mono ?_
  rintro e w1 ⟨rfl, rfl⟩
  go_wp2_with fail
  refine I0.out.mono ?_
  rintro e w1 ⟨rfl, rfl⟩
  go_wp2_with fail
  refine HS.out.mono ?_
  rintro e w1 ⟨rfl, rfl⟩
  go_wp2_with fail
  refine HA.out.mono ?_
  rintro e w1 ⟨rfl, rfl⟩
  go_wp2_with fail
  refine I1.out.mono ?_
  rintro e w1 ⟨rfl, rfl⟩
  go_wp2
  go_ret
  exact ⟨rfl, rfl⟩

set_option linter.unusedSimpArgs false in
set_option maxRecDepth 100000 in
set_option maxHeartbeats 4000000 in
theorem alive_any (w : World) : Calls Tryd.prog 5 #[] w fun e w' => e = .returned (.bool true) ∧ Below w.heap.size w w' := by
  have HT := hid (tell_i w)
  obtain ⟨W, hW⟩ : ∃ W, W = w.alloc (.cells #[.int .i64 0, .int .i64 0, .int .i64 0] 3) := ⟨_, rfl⟩
  have HW := hid hW.symm
  have HL : Hid (Below w.heap.size w W) := hid (hW ▸ (Below.refl _ _).alloc (Nat.le_refl _) _)
  have hB : Blk W w.heap.size 3 #[.int .i64 0, .int .i64 0, .int .i64 0] := hW ▸ Blk.new w _ _
  have HB := hid (balance_any (some ⟨w.heap.size, 0, none⟩) 3 [0, 0, 0] 0 (by decide) W (fun j hj => ⟨w.heap.size, 0, rfl, hB.lt, by
    rw [Nat.zero_add, hB.cell j]
    have : j = 0 ∨ j = 1 ∨ j = 2 := by simp at hj; omega
    rcases this with rfl | rfl | rfl <;> rfl⟩))
  rw [show cx (balr [0, 0, 0] 0 [(0 : Int), 0, 0].length) (bali [0, 0, 0] 0 [(0 : Int), 0, 0].length) = .complex .f64 0 4607182418800017408 by unfold cx; rw [show balr [0, 0, 0] 0 [(0 : Int), 0, 0].length = 0 by decide, show bali [0, 0, 0] 0 [(0 : Int), 0, 0].length = 1 by decide, fi_zero, fi_one], show [(0 : Int), 0, 0].length = 3 from rfl] at HB
  have q1 : (FloatKind.f64.format.order 0 0 == some .eq) = true := by decide +kernel
  have q2 : (FloatKind.f64.format.order 4607182418800017408 4607182418800017408 == some .eq) = true := by decide +kernel
  clear hW hB
  go_enter Tryd.func5, Tryd.ntmps5
  go_wp2_with fail
  refine HT.out.mono ?_
  rintro e w1 ⟨rfl, rfl⟩
  clear HT
  go_wp2_with fail
  rw [HW.out]
  refine HB.out.mono ?_
  rintro e w1 ⟨rfl, hb⟩
  have Hb := hid (bel2 HL.out hb)
  clear hb
  go_wp2
  go_ret
  exact ⟨rfl, Hb.out⟩
end Go.Proofs.YtahconkjhneogaaDoor
