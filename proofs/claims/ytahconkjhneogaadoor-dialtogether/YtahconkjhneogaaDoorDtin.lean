/-
  The law DialTogether, within its bounds.
-/
import Derived.Test.YtahconkjhneogaaDoorDtog
namespace Go.Proofs.YtahconkjhneogaaDoor
open Go.RowKit Go.Lib

theorem lit_one (w : World) (x : Int) : (w.alloc (.cells #[.int .i64 x] 3)).ownsRow w.heap.size 3 1 (.slice (some ⟨w.heap.size, 0, none⟩) 1 1) 1 (ivs [x]) :=
  ⟨rfl, .inr ⟨w.heap.size, 1, #[.int .i64 x], rfl, Nat.le_refl _, heap_alloc_last w _, Nat.le_refl _, by decide, rfl, rfl⟩⟩
theorem u64_range (x : Int) : 0 ≤ IntKind.u64.wrap x ∧ IntKind.u64.wrap x ≤ 18446744073709551615 := by
  have : IntKind.u64.wrap x = x % 18446744073709551616 := rfl
  omega

set_option linter.unusedSimpArgs false in
set_option maxRecDepth 100000 in
set_option maxHeartbeats 8000000 in
theorem together_in (ad : Option Addr) (cap : Nat) (xs : List Int) (M : Nat) (hx : xs.length ≤ 300) (h1 : 1 ≤ M) (h2 : M ≤ 24) (w : World) (hX : IntsIn w.heap.size w ad xs) :
    Calls Tryd.prog 4 #[.slice ad xs.length cap, .int .i64 (M : Int)] w fun e w' => e = .returned (.bool true) ∧ Below w.heap.size w w' := by
  have HX := hid hX
  have HA := hid (alive_any w)
  obtain ⟨i0, hi, hz0, hz1, hz2⟩ := info_parts (P := Tryd.prog) (show (Tryd.prog.info? 3).map (fun i => (i.zero, i.size, i.bytes)) = some (some (.int .i64 0), 1, 8) by kernel_rfl)
  have HI := hid hi
  have HZ0 := hid hz0
  have HZ1 := hid hz1
  have HZ2 := hid hz2
  obtain ⟨n, hn⟩ : ∃ n, n = xs.length := ⟨_, rfl⟩
  rw [← hn] at hx ⊢
  have HN := hid hn.symm
  have q1 : decide ((300 : Int) < (n : Int)) = false := decide_eq_false (by omega)
  have q2 : decide ((M : Int) < 1) = false := decide_eq_false (by omega)
  have q3 : decide ((24 : Int) < (M : Int)) = false := decide_eq_false (by omega)
  have eM : IntKind.u64.wrap (M : Int) = (M : Int) := Go.IntWalk.u64_in _ (by omega)
  clear hX hn hi hz0 hz1 hz2
  go_enter Tryd.func4, Tryd.ntmps4
  go_wp2_with fail
  refine HA.out.mono ?_
  rintro e w1 ⟨rfl, hb1⟩
  have Hb1 := hid hb1
  clear hb1 HA
  have HO : Hid ((w1.alloc (.cells #[] 3)).ownsRow w1.heap.size 3 1 (.slice (some ⟨w1.heap.size, 0, none⟩) 0 0) 0 (ivs [])) := hid ⟨rfl, .inr ⟨w1.heap.size, 0, #[], rfl, Nat.le_refl _, heap_alloc_last w1 _, Nat.le_refl _, Nat.zero_le _, rfl, rfl⟩⟩
  have HB : Hid (Below w1.heap.size w1 (w1.alloc (.cells #[] 3))) := hid ((Below.refl _ w1).alloc (Nat.le_refl _) _)
  go_wp2
  go_loopg [6, 28] n (fun g v t wr => ∃ c : Nat, ∃ ad' cap', ∃ ys : List Int, c ≤ n ∧ g = n - c ∧ v = .slice ad' c cap' ∧ t = .int .i64 (c : Int) ∧ Hid (ys.length = c ∧ ∀ j, j < ys.length → 0 ≤ ys.getD j 0 ∧ ys.getD j 0 < M) ∧ Hid (wr.ownsRow w1.heap.size 3 1 (.slice ad' c cap') c (ivs ys)) ∧ Hid (Below w1.heap.size w1 wr))
  case atStart => exact ⟨0, _, _, [], by omega, by omega, rfl, rfl, hid ⟨rfl, fun j h => by simp at h⟩, HO, HB⟩
  case round =>
    obtain ⟨c, ad', cap', ys, hc, rfl, rfl, rfl, HY, hown, hnx⟩ := hrel
    by_cases hlt : c < n
    · obtain ⟨g, o, rfl, hg, hcx⟩ := HX.out c (by have := HN.out; omega)
      obtain ⟨x, ex⟩ : ∃ x, x = xs.getD c 0 := ⟨_, rfl⟩
      have d0 : wr.cell? ⟨g, o + c, none⟩ = some (.int .i64 x) := by
        rw [ex, ← hcx]
        exact (bel2 Hb1.out hnx.out).cell (p := ⟨g, o + c, none⟩) hg
      have hu := u64_range x
      obtain ⟨u, eu⟩ : ∃ u, IntKind.u64.wrap x = u := ⟨_, rfl⟩
      rw [eu] at hu
      have hy0 := Int.emod_nonneg u (show (M : Int) ≠ 0 by omega)
      have hy1 := Int.emod_lt_of_pos u (show (0 : Int) < M by omega)
      have ey : u.tmod (M : Int) = u % (M : Int) := Int.tmod_eq_emod_of_nonneg hu.1
      generalize u % (M : Int) = y at hy0 hy1 ey
      have HY2 : Hid ((ys ++ [y]).length = c + 1 ∧ ∀ j, j < (ys ++ [y]).length → 0 ≤ (ys ++ [y]).getD j 0 ∧ (ys ++ [y]).getD j 0 < M) := hid ⟨by rw [List.length_append, HY.out.1]; rfl, fun j hj => by
        rw [List.length_append, List.length_singleton] at hj
        have hl := HY.out.1
        by_cases e : j < ys.length
        · have := HY.out.2 j e
          simpa [List.getD, List.getElem?_append, e] using this
        · obtain rfl : j = ys.length := by omega
          simp [List.getD, hy0, hy1]⟩
      clear ex hcx hg
      go_wp2_with (at_builtin; refine wpList_append_own _ rfl (.tmp 32) (.tmp 39) 22 rfl w1.heap.size 3 i0 (.int .i64 0) 1 8 Tryd.underlying22 HI.out HZ0.out HZ1.out HZ2.out rfl (by decide) _ _ _ rfl (hown.out.alloc _) ⟨wr.heap.size, 0, none⟩ 1 1 [.int .i64 y] rfl rfl (by intro j u hj; match j, hj with | 0, hj => (simp at hj; subst hj; simp [Addr.add])) (by intro u hu; simp at hu; subst hu; rfl) (by unfold maxLen; omega) (by omega) (by have := hnx.out.size; simp; omega) ?_; intro v' w2 hown' hgrow _)
      obtain ⟨ad2, cap2, rfl⟩ := row_shape hown'
      have Hown : Hid (w2.ownsRow w1.heap.size 3 1 (.slice ad2 (c + 1) cap2) (c + 1) (ivs (ys ++ [y]))) := hid (by rw [← ivs_app]; exact hown')
      have Hnx := hid ((hnx.out.alloc hnx.out.size (.cells #[.int .i64 y] 3)).grown hgrow (by have := hnx.out.size; simp; omega) (fun j hj => (hown.out.lt j hj).1))
      go_roundg (n - (c + 1))
      case measure => omega
      case rel => exact ⟨c + 1, ad2, cap2, ys ++ [y], by omega, rfl, rfl, by go_num, HY2, Hown, Hnx⟩
    · obtain rfl : c = n := by omega
      have HL := hid HY.out.1
      have hyn : ys.length ≤ 1000 := by rw [HL.out]; omega
      have HIy := hid (own_ints hown.out)
      have HNo := hid (row_none hown.out)
      have HBw := hid (bel2 Hb1.out hnx.out)
      have HTot := hid (sum_total ys M HY.out.2 ys.length (Nat.le_refl _))
      rw [HL.out] at HTot
      have HLit := hid (lit_one wr (M : Int))
      have HBl : Hid (Below wr.heap.size wr (wr.alloc (.cells #[.int .i64 (M : Int)] 3))) := hid ((Below.refl _ _).alloc (Nat.le_refl _) _)
      have HIl := hid (HIy.out.below HBl.out)
      clear hown HY HX HN HI HZ0 HZ1 HZ2 HO HB hnx hlt hc Hb1
      go_wp2_with ((show wpList _ _ _ (⟨some 45, _, _, _, _, _⟩ :: _) _ _); go_must (refine wpl_appI (.tmp 43) (.tmp 44) rfl wr.heap.size _ 1 (ivs [(M : Int)]) rfl HLit.out ad' c cap' ys rfl HL.out wr.heap.size HIl.out HNo.out (by omega) HBl.out.size rfl ?_; intro v' w2 hown2 hgrow))
      obtain ⟨ad2, cap2, rfl⟩ := row_shape hown2
      have HI2 := hid (own_ints (L := (M : Int) :: ys) hown2)
      have hb2 := HBl.out.grown hgrow HBl.out.size (fun j hj => (HLit.out.lt j hj).1)
      have HB2 := hid (bel2 HBw.out hb2)
      have HIy2 := hid (HIy.out.kept hb2)
      have HAll := hid (all_any ad' cap' ys hyn M h1 h2 w2 HIy2.out)
      rw [HL.out] at HAll
      clear hown2 hgrow hb2 HIl HLit HBl HIy HNo
      refine HAll.out.mono ?_
      rintro e w3 ⟨G, rfl, hG, hrow, hb3⟩
      have HB3 := hid (bel2 HB2.out hb3)
      have HI3 := hid (HI2.out.kept hb3)
      have HRow := hid hrow
      clear hrow hb3 HAll HI2 HIy2 HB2 hG
      have HBa := hid (fun (who : Int) W (hb : Below w3.heap.size w3 W) => balance_any ad2 cap2 ((M : Int) :: ys) who (by rw [List.length_cons, HL.out]; omega) W (HI3.out.kept hb))
      rw [List.length_cons, HL.out] at HBa
      have HOn := hid (fun (who : Int) (h : (M : Int) ≠ who) => bal_on (M : Int) ys who h c)
      have HS0 : Hid ((.complex .f64 0 0 : Value) = cx (sumr ys c 0) (sumi ys c 0)) := hid (by unfold cx sumr sumi; rw [fi_zero])
      have HSb := hid (fun k (h : k ≤ 24) => (⟨by have := sumr_small ys c k; have : k * c ≤ 24 * 300 := Nat.mul_le_mul h hx; omega, by have := sumi_small ys c k; have : k * c ≤ 24 * 300 := Nat.mul_le_mul h hx; omega⟩ : (sumr ys c k).natAbs ≤ 10000 ∧ (sumi ys c k).natAbs ≤ 10000))
      have HBb := hid (fun (who : Int) => (⟨by have := balr_small ys who c; omega, by have := bali_small ys who c; omega⟩ : (balr ys who c).natAbs ≤ 400 ∧ (bali ys who c).natAbs ≤ 400))
      go_wp2
      go_loopg [5, 50] M (fun g s t wr => ∃ p : Nat, p ≤ M ∧ g = M - p ∧ t = .int .i64 (p : Int) ∧ s = cx (sumr ys c p) (sumi ys c p) ∧ Hid (Below w3.heap.size w3 wr))
      case atStart => exact ⟨0, by omega, by omega, rfl, HS0.out, hid (Below.refl _ _)⟩
      case round =>
        obtain ⟨p, hp, rfl, rfl, rfl, HB4⟩ := hrel
        by_cases hlt : p < M
        · have d0 : wr.cell? ⟨G, p, none⟩ = some (.complex .f64 (fi (balr ys p c)) (fi (bali ys p c))) := by
            rw [HB4.out.cell (p := ⟨G, p, none⟩) HRow.out.lt, HRow.out.cell hlt]
            simp [allV, hlt, cx]
          have HBp := hid (HBa.out p wr HB4.out)
          have hb1 := HBb.out p
          have hs1 := HSb.out p (by omega)
          rw [(HOn.out p (by omega)).1, (HOn.out p (by omega)).2, Nat.add_comm c 1] at HBp
          have HC := hid (cadd (sumr ys c p) (sumi ys c p) (balr ys p c) (bali ys p c) (by omega) (by omega) (by omega) (by omega))
          have HE : Hid (cx (sumr ys c p + balr ys p c) (sumi ys c p + bali ys p c) = cx (sumr ys c (p + 1)) (sumi ys c (p + 1))) := hid rfl
          have o1 := ng_fi (bali ys p c) (by omega)
          have o2 := fe_fi (balr ys p c) (by omega)
          generalize balr ys p c = a at *
          generalize bali ys p c = b at *
          generalize sumr ys c p = sa at *
          generalize sumi ys c p = sb at *
          unfold cx at HBp
          clear hb1 hs1
          go_wp2_with (refine wpl_run (cx (sa + a) (sb + b)) _ (exec_cadd 33 33 (.tmp 55) (.tmp 56) rfl _ _ _ _ _ _ rfl rfl HC.out) rfl ?_)
          refine HBp.out.mono ?_
          rintro e w5 ⟨rfl, hb5⟩
          have HB5 := hid (HB4.out.trans (hb5.mono HB4.out.size))
          clear hb5 HBp HC HB4 d0
          go_wp2_with fail
          refine (spin_one _ _ _).mono ?_
          rintro e w6 ⟨rfl, hb6⟩
          have HB6 := hid (HB5.out.trans (hb6.mono HB5.out.size))
          clear hb6 HB5
          go_wp2
          go_roundg (M - (p + 1))
          case measure => omega
          case rel => exact ⟨p + 1, by omega, rfl, by go_num, HE.out, HB6⟩
        · obtain rfl : p = M := by omega
          have HT1 := hid (fun W => total_any c (by omega) W)
          have HT2 := hid (fun W => rtotal_any c (by omega) W)
          rw [HTot.out.1, HTot.out.2]
          have ht := tot_small c
          have o1 := fe_fi (totr c) (by omega)
          have o2 := fe_fi (toti c) (by omega)
          have HF : Hid ((fe (fi (totr c)) (fi (totr c)) && fe (fi (toti c)) (fi (toti c))) = true) := hid (by rw [show fe (fi (totr c)) (fi (totr c)) = true from o1, show fe (fi (toti c)) (fi (toti c)) = true from o2]; rfl)
          clear HBa HOn HS0 HSb HBb HTot
          generalize totr c = a at *
          generalize toti c = b at *
          unfold cx at *
          go_wp2_with fail
          refine (HT1.out _).mono ?_
          rintro e w5 ⟨rfl, hb5⟩
          have HB5 := hid (HB4.out.trans (hb5.mono HB4.out.size))
          clear hb5 HB4
          go_wp2_with fail
          refine (rof_any _ _ _).mono ?_
          rintro e w6 ⟨rfl, hb6⟩
          have HB6 := hid (HB5.out.trans (hb6.mono HB5.out.size))
          clear hb6 HB5
          go_wp2_with fail
          refine (HT2.out _).mono ?_
          rintro e w7 ⟨rfl, hb7⟩
          have HB7 := hid (HB6.out.trans (hb7.mono HB6.out.size))
          clear hb7 HB6
          go_wp2_with fail
          refine (even_any _ _ _ _ _).mono ?_
          rintro e w8 ⟨rfl, hb8⟩
          have HB8 := hid (HB7.out.trans (hb8.mono HB7.out.size))
          clear hb8 HB7
          rw [HF.out]
          go_wp2
          go_ret
          exact ⟨rfl, bel2 HB3.out HB8.out⟩

theorem together_any (ad : Option Addr) (cap : Nat) (xs : List Int) (m : Int) (w : World) (hX : IntsIn w.heap.size w ad xs) :
    Calls Tryd.prog 4 #[.slice ad xs.length cap, .int .i64 m] w fun e w' => e = .returned (.bool true) ∧ Below w.heap.size w w' := by
  by_cases h : 300 < xs.length ∨ m < 1 ∨ 24 < m
  · exact together_out ad xs.length cap m h w
  · obtain ⟨M, rfl⟩ : ∃ M : Nat, m = M := ⟨m.toNat, by omega⟩
    exact together_in ad cap xs M (by omega) (by omega) (by omega) w hX
end Go.Proofs.YtahconkjhneogaaDoor
