/-
  hash.Unmix; the laws HashUnlike and HashMixes at every input.
-/
import Derived.Test.YtijboclcbbnhbaaDoorHmix
namespace Go.Proofs.YtijboclcbbnhbaaDoor
open Go.RowKit Go.Lib

/-- What hash.inverses holds. -/
structure IEnv (w : World) : Prop where
  i0 : w.cell? ⟨1, 0, none⟩ = some (.int .u64 5725274745694666757)
  i1 : w.cell? ⟨1, 1, none⟩ = some (.int .u64 11291846944257947611)
  lt : 1 < w.heap.size
theorem IEnv.kept {w w' : World} (h : IEnv w) (hb : Below w.heap.size w w') : IEnv w' := ⟨(hb.cell (p := ⟨1, 0, none⟩) h.lt).trans h.i0, (hb.cell (p := ⟨1, 1, none⟩) h.lt).trans h.i1, Nat.lt_of_lt_of_le h.lt hb.size⟩

theorem folded_q (X : BitVec 64) (w : World) (n : Nat) : Calls Tryd.prog 18 #[.int .u64 (uv X)] (w.drewN n) fun e w' => e = .returned (.int .u64 (uv (fdB X))) ∧ w' = w.drewN n := (folded_any X (w.drewN n)).mono fun _ _ h => ⟨h.1, h.2.symm⟩

set_option maxHeartbeats 2000000 in
theorem unmix_any (X : BitVec 64) (w : World) (hE : IEnv w) : Calls Tryd.prog 16 #[.int .u64 (uv X)] w fun e w' => e = .returned (.int .u64 (uv (unmixB X))) ∧ Below w.heap.size w w' := by
  have H1 := hid (fun W n => folded_q X W n)
  have H2 := hid (fun W n => folded_q (fdB X * Go.Proofs.YtijboclcbbnhbaaDoor.i1) W n)
  have H3 := hid (fun W => folded_any (fdB (fdB X * Go.Proofs.YtijboclcbbnhbaaDoor.i1) * Go.Proofs.YtijboclcbbnhbaaDoor.i0) W)
  have e1 := mulI1 (fdB X)
  have e2 := mulI0 (fdB (fdB X * Go.Proofs.YtijboclcbbnhbaaDoor.i1))
  rw [show fdB (fdB (fdB X * Go.Proofs.YtijboclcbbnhbaaDoor.i1) * Go.Proofs.YtijboclcbbnhbaaDoor.i0) = unmixB X from rfl] at H3
  have HE := hid hE
  clear hE
  generalize uv (unmixB X) = y at *
  generalize uv (fdB (fdB X * Go.Proofs.YtijboclcbbnhbaaDoor.i1) * Go.Proofs.YtijboclcbbnhbaaDoor.i0) = b2 at *
  generalize uv (fdB (fdB X * Go.Proofs.YtijboclcbbnhbaaDoor.i1)) = b1 at *
  generalize uv (fdB X * Go.Proofs.YtijboclcbbnhbaaDoor.i1) = a2 at *
  generalize uv (fdB X) = a1 at *
  generalize uv X = x at *
  go_enter Tryd.func16, Tryd.ntmps16
  go_wp2
  go_loopw [0, 4] (fun h t wr => Hid (Below w.heap.size w wr) ∧ ((t = .int .i64 0 ∧ h = .int .u64 x) ∨ (t = .int .i64 1 ∧ h = .int .u64 a2) ∨ (t = .int .i64 2 ∧ h = .int .u64 b2))) (fun _ t _ => 2 - (intOf t).toNat)
  case atStart => exact ⟨hid (Below.refl _ _), .inl ⟨rfl, rfl⟩⟩
  case round =>
    obtain ⟨HB, ⟨rfl, rfl⟩ | ⟨rfl, rfl⟩ | ⟨rfl, rfl⟩⟩ := hrel
    · have c1 : ∀ n, (wr.drewN n).cell? ⟨1, 1, none⟩ = some (.int .u64 11291846944257947611) := fun n => (HE.out.kept (HB.out.trans ((sbelow_drewN wr n).mono HB.out.size))).i1
      have HQ := hid (H1.out wr)
      go_wp2
      go_quiet ((go_at_call 18; exact Calls.quiet_of_same (HQ.out _)))
      have HB2 : Hid (Below w.heap.size w (wr.drewN nq)) := hid (HB.out.trans ((sbelow_drewN wr nq).mono HB.out.size))
      go_wp2
      go_roundw
      case rel => exact ⟨HB2, .inr (.inl ⟨rfl, rfl⟩)⟩
      case measure => simp [intOf]
    · have c1 : ∀ n, (wr.drewN n).cell? ⟨1, 0, none⟩ = some (.int .u64 5725274745694666757) := fun n => (HE.out.kept (HB.out.trans ((sbelow_drewN wr n).mono HB.out.size))).i0
      have HQ := hid (H2.out wr)
      go_wp2
      go_quiet ((go_at_call 18; exact Calls.quiet_of_same (HQ.out _)))
      have HB2 : Hid (Below w.heap.size w (wr.drewN nq)) := hid (HB.out.trans ((sbelow_drewN wr nq).mono HB.out.size))
      go_wp2
      go_roundw
      case rel => exact ⟨HB2, .inr (.inr ⟨rfl, rfl⟩)⟩
      case measure => simp [intOf]
    · go_wp2_with fail
      refine (H3.out _).mono ?_
      rintro e w1 ⟨rfl, rfl⟩
      go_wp2
      go_ret
      exact ⟨rfl, HB.out⟩

set_option maxHeartbeats 2000000 in
theorem lunlike_any (a b : Int) (ha : 0 ≤ a ∧ a ≤ 18446744073709551615) (hb : 0 ≤ b ∧ b ≤ 18446744073709551615) (w : World) (hE : FEnv w) : Calls Tryd.prog 5 #[.int .u64 a, .int .u64 b] w fun e w' => e = .returned (.bool true) ∧ w = w' := by
  obtain ⟨X, rfl⟩ : ∃ X, a = uv X := ⟨BitVec.ofInt 64 a, (uv_of ha.1 ha.2).symm⟩
  obtain ⟨Y, rfl⟩ : ∃ Y, b = uv Y := ⟨BitVec.ofInt 64 b, (uv_of hb.1 hb.2).symm⟩
  have HA := hid (halive_any w)
  have H1 := hid (mix_any X w hE)
  have H2 := hid (mix_any Y w hE)
  have hi : uv (mixB X) = uv (mixB Y) ↔ uv X = uv Y := ⟨fun h => by rw [(mix_inj X Y).1 (uv_inj h)], fun h => by rw [uv_inj h]⟩
  clear ha hb hE
  generalize uv (mixB X) = x1 at *
  generalize uv (mixB Y) = y1 at *
  generalize uv X = x at *
  generalize uv Y = y at *
  by_cases h : x = y
  · have h1 := hi.2 h
    subst h h1
    clear hi
    go_enter Tryd.func5, Tryd.ntmps5
    go_wp2_with fail
    refine HA.out.mono ?_
    rintro e w1 ⟨rfl, rfl⟩
    go_wp2_with fail
    refine H1.out.mono ?_
    rintro e w1 ⟨rfl, rfl⟩
    go_wp2_with fail
    refine H2.out.mono ?_
    rintro e w1 ⟨rfl, rfl⟩
    go_wp2
    go_ret
    exact ⟨rfl, rfl⟩
  · have h1 : ¬ x1 = y1 := fun h1 => h (hi.1 h1)
    clear hi
    go_enter Tryd.func5, Tryd.ntmps5
    go_wp2_with fail
    refine HA.out.mono ?_
    rintro e w1 ⟨rfl, rfl⟩
    go_wp2_with fail
    refine H1.out.mono ?_
    rintro e w1 ⟨rfl, rfl⟩
    go_wp2_with fail
    refine H2.out.mono ?_
    rintro e w1 ⟨rfl, rfl⟩
    go_wp2
    go_ret
    exact ⟨ret_b rfl (by simp [beq_eq_false_iff_ne.2 h, beq_eq_false_iff_ne.2 h1]), rfl⟩

set_option maxHeartbeats 2000000 in
theorem lmixes_any (a : Int) (ha : 0 ≤ a ∧ a ≤ 18446744073709551615) (w : World) (hE : FEnv w) (hI : IEnv w) : Calls Tryd.prog 4 #[.int .u64 a] w fun e w' => e = .returned (.bool true) ∧ Below w.heap.size w w' := by
  obtain ⟨X, rfl⟩ : ∃ X, a = uv X := ⟨BitVec.ofInt 64 a, (uv_of ha.1 ha.2).symm⟩
  have HA := hid (halive_any w)
  have H1 := hid (fun W h => mix_any X W h)
  have H2 := hid (rmix_any X w)
  have H3 := hid (fun W h => unmix_any (mixB X) W h)
  have H4 := hid (fun W h => unmix_any X W h)
  have H5 := hid (fun W h => mix_any (unmixB X) W h)
  rw [unmix_mix] at H3
  rw [mix_unmix] at H5
  have HE := hid hE
  have HI := hid hI
  clear ha hE hI
  generalize uv (mixB X) = x1 at *
  generalize uv (unmixB X) = x2 at *
  generalize uv X = x at *
  go_enter Tryd.func4, Tryd.ntmps4
  go_wp2_with fail
  refine HA.out.mono ?_
  rintro e w1 ⟨rfl, rfl⟩
  go_wp2_with fail
  refine (H1.out _ HE.out).mono ?_
  rintro e w1 ⟨rfl, rfl⟩
  go_wp2_with fail
  refine H2.out.mono ?_
  rintro e w1 ⟨rfl, rfl⟩
  go_wp2_with fail
  refine (H1.out _ HE.out).mono ?_
  rintro e w1 ⟨rfl, rfl⟩
  go_wp2_with fail
  refine (H3.out _ HI.out).mono ?_
  rintro e w1 ⟨rfl, hb1⟩
  have Hb1 := hid hb1
  clear hb1
  go_wp2_with fail
  refine (H4.out _ (HI.out.kept Hb1.out)).mono ?_
  rintro e w2 ⟨rfl, hb2⟩
  have Hb2 := hid (sbel2 Hb1.out hb2)
  clear hb2
  go_wp2_with fail
  refine (H5.out _ (HE.out.kept Hb2.out)).mono ?_
  rintro e w3 ⟨rfl, rfl⟩
  go_wp2
  go_ret
  exact ⟨rfl, Hb2.out⟩
end Go.Proofs.YtijboclcbbnhbaaDoor
