/-
  prime.Inverse; the laws PrimeIs and PrimeInverses at every input.
-/
import Derived.Test.YteaebljfcidejaaDoorFpow
import Derived.Test.YteaebljfcidejaaDoorFnext
import Derived.Test.YteaebljfcidejaaDoorNerr
namespace Go.Proofs.YteaebljfcidejaaDoor
open Go.RowKit Go.Lib

/-- What prime.Inverse tells. -/
def inverseOf (a p : Int) (e1 e2 : Value) : Value := if isP p then (if a % p = 0 then .tuple #[.int .i64 0, e2] else .tuple #[.int .i64 (pwr a (p.toNat - 2) p), .nilIface]) else .tuple #[.int .i64 0, e1]

set_option maxHeartbeats 4000000 in
theorem inverse_any (a p : Int) (w : World) (u1 u2 : TypeId) (v1 v2 : Value) (h1 : w.cell? ⟨0, 0, none⟩ = some (.iface u1 v1)) (h2 : w.cell? ⟨10, 0, none⟩ = some (.iface u2 v2)) :
    Calls Tryd.prog 17 #[.int .i64 a, .int .i64 p] w fun e w' => e = .returned (inverseOf a p (.iface u1 v1) (.iface u2 v2)) ∧ Below w.heap.size w w' := by
  have HI := hid (is_any p w)
  have H1 := hid h1
  have H2 := hid h2
  clear h1 h2
  cases hp : isP p with
  | false =>
    rw [hp] at HI
    have HE : Hid (Value.tuple #[.int .i64 0, .iface u1 v1] = inverseOf a p (.iface u1 v1) (.iface u2 v2)) := hid (by unfold inverseOf; rw [hp]; rfl)
    go_enter Tryd.func17, Tryd.ntmps17
    go_wp2_with fail
    refine HI.out.mono ?_
    rintro e w1 ⟨rfl, hb1⟩
    have B1 := hid hb1
    have c1 := cell_stays H1.out hb1
    clear hb1
    go_wp2
    go_region
    all_goals
      go_wp2
      exact bodyPost_ret (by simp [results, Tryd.f17, go_sem]) rfl ⟨congrArg Ending.returned HE.out, B1.out.drew⟩
  | true =>
    rw [hp] at HI
    have hr := isP_range hp
    have HR := hid (fun w => rest_any a p (by omega) (by omega) w)
    by_cases h0 : a % p = 0
    · rw [h0] at HR
      have HE : Hid (Value.tuple #[.int .i64 0, .iface u2 v2] = inverseOf a p (.iface u1 v1) (.iface u2 v2)) := hid (by unfold inverseOf; rw [hp, if_pos rfl, if_pos h0])
      clear h0 hp
      go_enter Tryd.func17, Tryd.ntmps17
      go_wp2_with fail
      refine HI.out.mono ?_
      rintro e w1 ⟨rfl, hb1⟩
      have B1 := hid hb1
      have c2 := cell_stays H2.out hb1
      clear hb1
      go_wp2_with fail
      refine (HR.out _).mono ?_
      rintro e w2 ⟨rfl, rfl⟩
      go_wp2
      go_region
      all_goals
        go_wp2
        exact bodyPost_ret (by simp [results, Tryd.f17, go_sem]) rfl ⟨congrArg Ending.returned HE.out, B1.out.drew⟩
    · obtain ⟨K, hK⟩ : ∃ K : Nat, p.toNat - 2 = K := ⟨_, rfl⟩
      have hpK : p - 2 = (K : Int) := by omega
      have HE : Hid (Value.tuple #[.int .i64 (pwr a K p), .nilIface] = inverseOf a p (.iface u1 v1) (.iface u2 v2)) := hid (by unfold inverseOf; rw [hp, if_pos rfl, if_neg h0, hK])
      have HP := hid (fun w => power_any a K p (by omega) w)
      rw [show powerOf a K p = pwr a K p by rw [powerOf, if_neg (by omega)]; rfl] at HP
      generalize pwr a K p = z at *
      generalize a % p = r at *
      clear hK hp
      go_enter Tryd.func17, Tryd.ntmps17
      go_wp2_with fail
      refine HI.out.mono ?_
      rintro e w1 ⟨rfl, hb1⟩
      have B1 := hid hb1
      clear hb1
      go_wp2_with fail
      refine (HR.out _).mono ?_
      rintro e w2 ⟨rfl, rfl⟩
      go_wp2_with fail
      refine (HP.out _).mono ?_
      rintro e w3 ⟨rfl, hb3⟩
      have B3 := hid (bel2 B1.out hb3)
      clear hb3
      go_wp2
      exact bodyPost_ret (by simp [results, Tryd.f17, go_sem]) rfl ⟨congrArg Ending.returned HE.out, B3.out⟩

set_option maxHeartbeats 4000000 in
theorem linverses_any (a p : Int) (hp9 : p ≤ 9223372036854775807) (ae : Nat → Addr) (w : World) (hA : Errs 18 ae w) :
    Calls Tryd.prog 6 #[.int .i64 a, .int .i64 p] w fun e w' => e = .returned (.bool true) ∧ Below w.heap.size w w' := by
  have hE0 : w.cell? ⟨0, 0, none⟩ = some (.iface 57 (.pointer (some (ae 0)))) := hA.cell 0 (by omega)
  have hE1 : w.cell? ⟨10, 0, none⟩ = some (.iface 57 (.pointer (some (ae 10)))) := hA.cell 10 (by omega)
  have HL := hid (palive_any w _ _ hE0)
  have HN0 := hid (fun W h => num_err ae 0 (by omega) W h)
  have HN1 := hid (fun W h => num_err ae 10 (by omega) W h)
  have HV : Hid (∀ w1, Below w.heap.size w w1 → Calls Tryd.prog 17 #[.int .i64 a, .int .i64 p] w1 fun e w' => e = .returned (inverseOf a p (.iface 57 (.pointer (some (ae 0)))) (.iface 57 (.pointer (some (ae 10))))) ∧ Below w1.heap.size w1 w') :=
    hid fun w1 hb => inverse_any a p w1 _ _ _ _ (cell_stays hE0 hb) (cell_stays hE1 hb)
  have HI := hid (ris_any p)
  have HA := hid hA
  clear hA hE0 hE1
  cases hp : isP p with
  | false =>
    rw [hp] at HI
    rw [show inverseOf a p (.iface 57 (.pointer (some (ae 0)))) (.iface 57 (.pointer (some (ae 10)))) = .tuple #[.int .i64 0, .iface 57 (.pointer (some (ae 0)))] by unfold inverseOf; rw [hp]; rfl] at HV
    go_enter Tryd.func6, Tryd.ntmps6
    go_wp2_with fail
    refine HL.out.mono ?_
    rintro e w1 ⟨rfl, hb1⟩
    have B1 := hid hb1
    clear hb1
    go_wp2_with fail
    refine (HV.out _ B1.out).mono ?_
    rintro e w2 ⟨rfl, hb2⟩
    have B2 := hid (bel2 B1.out hb2)
    clear hb2
    go_wp2_with fail
    refine (HI.out _).mono ?_
    rintro e w3 ⟨rfl, rfl⟩
    go_wp2_with fail
    refine (HN0.out _ (HA.out.below B2.out)).mono ?_
    rintro e w4 ⟨rfl, hb4⟩
    have B4 := hid (bel2 B2.out hb4)
    clear hb4
    go_wp2
    go_ret
    exact ⟨rfl, B4.out⟩
  | true =>
    rw [hp] at HI
    have hr := isP_range hp
    have HR := hid (fun w => rrest_any a p (by omega) (by omega) w)
    obtain ⟨K, hK⟩ : ∃ K : Nat, p.toNat = K := ⟨_, rfl⟩
    have hpK : p = (K : Int) := by omega
    have HP := hid (fun w => power_any a p p (by omega) w)
    rw [show powerOf a p p = a % p by rw [powerOf, if_neg (by omega)]; exact pwr_fermat a hp] at HP
    by_cases h0 : a % p = 0
    · rw [show inverseOf a p (.iface 57 (.pointer (some (ae 0)))) (.iface 57 (.pointer (some (ae 10)))) = .tuple #[.int .i64 0, .iface 57 (.pointer (some (ae 10)))] by unfold inverseOf; rw [hp, if_pos rfl, if_pos h0]] at HV
      rw [h0] at HR HP
      clear h0 hp hK hpK
      go_enter Tryd.func6, Tryd.ntmps6
      go_wp2_with fail
      refine HL.out.mono ?_
      rintro e w1 ⟨rfl, hb1⟩
      have B1 := hid hb1
      clear hb1
      go_wp2_with fail
      refine (HV.out _ B1.out).mono ?_
      rintro e w2 ⟨rfl, hb2⟩
      have B2 := hid (bel2 B1.out hb2)
      clear hb2
      go_wp2_with fail
      refine (HI.out _).mono ?_
      rintro e w3 ⟨rfl, rfl⟩
      go_wp2_with fail
      refine (HR.out _).mono ?_
      rintro e w3 ⟨rfl, rfl⟩
      go_wp2_with fail
      refine (HP.out _).mono ?_
      rintro e w4 ⟨rfl, hb4⟩
      have B4 := hid (bel2 B2.out hb4)
      clear hb4
      go_wp2_with fail
      refine (HN1.out _ (HA.out.below B4.out)).mono ?_
      rintro e w5 ⟨rfl, hb5⟩
      have B5 := hid (bel2 B4.out hb5)
      clear hb5
      go_wp2
      go_ret
      exact ⟨rfl, B5.out⟩
    · obtain ⟨i1, i2, i3⟩ := pwr_inverse a hp h0
      rw [show inverseOf a p (.iface 57 (.pointer (some (ae 0)))) (.iface 57 (.pointer (some (ae 10)))) = .tuple #[.int .i64 (pwr a (p.toNat - 2) p), .nilIface] by unfold inverseOf; rw [hp, if_pos rfl, if_neg h0]] at HV
      have hr0 := Int.emod_nonneg a (show p ≠ 0 by omega)
      have hr1 := Int.emod_lt_of_pos a (show 0 < p by omega)
      have hb := mul_bound (x := pwr a (p.toNat - 2) p) (y := a % p) ⟨by omega, i3⟩ ⟨hr0, hr1⟩ hr.2
      generalize pwr a (p.toNat - 2) p = z at *
      generalize a % p = r at *
      have h0' : (r == 0) = false := beq_eq_false_iff_ne.2 h0
      have hne : p ≠ 0 := by omega
      clear hp hK hpK
      go_enter Tryd.func6, Tryd.ntmps6
      go_wp2_with fail
      refine HL.out.mono ?_
      rintro e w1 ⟨rfl, hb1⟩
      have B1 := hid hb1
      clear hb1
      go_wp2_with fail
      refine (HV.out _ B1.out).mono ?_
      rintro e w2 ⟨rfl, hb2⟩
      have B2 := hid (bel2 B1.out hb2)
      clear hb2
      go_wp2_with fail
      refine (HI.out _).mono ?_
      rintro e w3 ⟨rfl, rfl⟩
      go_wp2_with fail
      refine (HR.out _).mono ?_
      rintro e w3 ⟨rfl, rfl⟩
      go_wp2_with fail
      refine (HP.out _).mono ?_
      rintro e w4 ⟨rfl, hb4⟩
      have B4 := hid (bel2 B2.out hb4)
      clear hb4
      go_wp2
      go_ret
      exact ⟨ret_b rfl (by simp), B4.out⟩

set_option maxHeartbeats 4000000 in
theorem lis_mid (n : Int) (hn : 2 ≤ n ∧ n ≤ 2147483648) (hn9 : n ≤ 9223372036854775807) (ae : Nat → Addr) (w : World) (hA : Errs 18 ae w) :
    Calls Tryd.prog 3 #[.int .i64 n] w fun e w' => e = .returned (.bool true) ∧ Below w.heap.size w w' := by
    have hE0 : w.cell? ⟨0, 0, none⟩ = some (.iface 57 (.pointer (some (ae 0)))) := hA.cell 0 (by omega)
    have HL := hid (palive_any w _ _ hE0)
    have HN0 := hid (fun W h => num_err ae 0 (by omega) W h)
    have HI := hid (fun w => is_any n w)
    have HR := hid (fun w => ris_any n w)
    have HRI := hid ris_any
    have HM := hid (fun w => least_any n w)
    have HX : Hid (∀ w1, Below w.heap.size w w1 → Calls Tryd.prog 12 #[.int .i64 n] w1 fun e w' => NextEnd n (.iface 57 (.pointer (some (ae 0)))) e ∧ Below w1.heap.size w1 w') :=
      hid fun w1 hb => next_any n hn9 w1 _ _ (cell_stays hE0 hb)
    have HA := hid hA
    clear hA hE0
    have hbb : (isP n != isP n) = false := by simp
    have HLL := hid (fun w => rleast_any n hn.1 hn.2 w)
    have hll : (leastOf n != leastOf n) = false := by simp
    generalize leastOf n = m at *
    generalize isP n = b at *
    go_enter Tryd.func3, Tryd.ntmps3
    go_wp2_with fail
    refine (HL.out).mono ?_
    rintro e w1 ⟨rfl, hb1⟩
    have B1 := hid (hb1)
    clear hb1
    go_wp2_with fail
    refine (HI.out _).mono ?_
    rintro e w2 ⟨rfl, hb2⟩
    have B2 := hid (bel2 B1.out hb2)
    clear hb2
    go_wp2_with fail
    refine (HR.out _).mono ?_
    rintro e w3 ⟨rfl, rfl⟩
    go_wp2_with fail
    refine (HLL.out _).mono ?_
    rintro e w3 ⟨rfl, rfl⟩
    go_wp2_with fail
    refine (HM.out _).mono ?_
    rintro e w4 ⟨rfl, hb4⟩
    have B4 := hid (bel2 B2.out hb4)
    clear hb4
    go_wp2_with fail
    refine (HX.out _ B4.out).mono ?_
    rintro e w5 ⟨he, hb5⟩
    have B5 := hid (bel2 B4.out hb5)
    clear hb5
    obtain ⟨h, rfl⟩ | ⟨h, p, rfl, h1, h2, h3, h4, h5⟩ := he
    · go_wp2_with fail
      refine (HN0.out _ (HA.out.below B5.out)).mono ?_
      rintro e w6 ⟨rfl, hb6⟩
      have B6 := hid (bel2 B5.out hb6)
      clear hb6
      go_wp2
      go_ret
      exact ⟨rfl, B6.out⟩
    · have HP := hid (HRI.out p)
      rw [h4] at HP
      have H5 := hid h5
      clear h5
      go_wp2_with fail
      refine (HP.out _).mono ?_
      rintro e w6 ⟨rfl, rfl⟩
      go_wp2
      go_loop [7] (fun i => ∃ k : Int, 2 ≤ k ∧ n ≤ k ∧ k ≤ p ∧ i = .int .i64 k) (fun i => (p - intOf i).toNat)
      case atStart => exact ⟨n, by omega, by omega, by omega, rfl⟩
      case round =>
        obtain ⟨k, hk0, hk1, hk2, rfl⟩ := hrel
        by_cases hlt : k < p
        · have HQ := hid (HRI.out k)
          rw [H5.out k hk1 hlt] at HQ
          go_wp2_with fail
          refine (HQ.out _).mono ?_
          rintro e w7 ⟨rfl, rfl⟩
          go_wp2
          go_round
          case rel => exact ⟨k + 1, by omega, by omega, by omega, rfl⟩
          case measure => simp [intOf]; omega
        · go_wp2
          go_ret
          exact ⟨rfl, B5.out⟩

set_option maxHeartbeats 4000000 in
theorem lis_low (n : Int) (hn : n < 2) (hn9 : n ≤ 9223372036854775807) (ae : Nat → Addr) (w : World) (hA : Errs 18 ae w) :
    Calls Tryd.prog 3 #[.int .i64 n] w fun e w' => e = .returned (.bool true) ∧ Below w.heap.size w w' := by
    have hE0 : w.cell? ⟨0, 0, none⟩ = some (.iface 57 (.pointer (some (ae 0)))) := hA.cell 0 (by omega)
    have HL := hid (palive_any w _ _ hE0)
    have HN0 := hid (fun W h => num_err ae 0 (by omega) W h)
    have HI := hid (fun w => is_any n w)
    have HR := hid (fun w => ris_any n w)
    have HRI := hid ris_any
    have HM := hid (fun w => least_any n w)
    have HX : Hid (∀ w1, Below w.heap.size w w1 → Calls Tryd.prog 12 #[.int .i64 n] w1 fun e w' => NextEnd n (.iface 57 (.pointer (some (ae 0)))) e ∧ Below w1.heap.size w1 w') :=
      hid fun w1 hb => next_any n hn9 w1 _ _ (cell_stays hE0 hb)
    have HA := hid hA
    clear hA hE0
    have hbb : (isP n != isP n) = false := by simp
    rw [show leastOf n = 0 by unfold leastOf; rw [if_pos (.inl hn)]] at HM
    generalize isP n = b at *
    go_enter Tryd.func3, Tryd.ntmps3
    go_wp2_with fail
    refine (HL.out).mono ?_
    rintro e w1 ⟨rfl, hb1⟩
    have B1 := hid (hb1)
    clear hb1
    go_wp2_with fail
    refine (HI.out _).mono ?_
    rintro e w2 ⟨rfl, hb2⟩
    have B2 := hid (bel2 B1.out hb2)
    clear hb2
    go_wp2_with fail
    refine (HR.out _).mono ?_
    rintro e w3 ⟨rfl, rfl⟩
    go_wp2_with fail
    refine (HM.out _).mono ?_
    rintro e w4 ⟨rfl, hb4⟩
    have B4 := hid (bel2 B2.out hb4)
    clear hb4
    go_wp2_with fail
    refine (HX.out _ B4.out).mono ?_
    rintro e w5 ⟨he, hb5⟩
    have B5 := hid (bel2 B4.out hb5)
    clear hb5
    obtain ⟨h, rfl⟩ | ⟨h, p, rfl, h1, h2, h3, h4, h5⟩ := he
    · omega
    · have HP := hid (HRI.out p)
      rw [h4] at HP
      have H5 := hid h5
      clear h5
      go_wp2_with fail
      refine (HP.out _).mono ?_
      rintro e w6 ⟨rfl, rfl⟩
      go_wp2
      go_loop [7] (fun i => ∃ k : Int, 2 ≤ k ∧ n ≤ k ∧ k ≤ p ∧ i = .int .i64 k) (fun i => (p - intOf i).toNat)
      case atStart => exact ⟨2, by omega, by omega, by omega, rfl⟩
      case round =>
        obtain ⟨k, hk0, hk1, hk2, rfl⟩ := hrel
        by_cases hlt : k < p
        · have HQ := hid (HRI.out k)
          rw [H5.out k hk1 hlt] at HQ
          go_wp2_with fail
          refine (HQ.out _).mono ?_
          rintro e w7 ⟨rfl, rfl⟩
          go_wp2
          go_round
          case rel => exact ⟨k + 1, by omega, by omega, by omega, rfl⟩
          case measure => simp [intOf]; omega
        · go_wp2
          go_ret
          exact ⟨rfl, B5.out⟩

set_option maxHeartbeats 4000000 in
theorem lis_high (n : Int) (hn : 2147483648 < n) (hn9 : n ≤ 9223372036854775807) (ae : Nat → Addr) (w : World) (hA : Errs 18 ae w) :
    Calls Tryd.prog 3 #[.int .i64 n] w fun e w' => e = .returned (.bool true) ∧ Below w.heap.size w w' := by
    have hE0 : w.cell? ⟨0, 0, none⟩ = some (.iface 57 (.pointer (some (ae 0)))) := hA.cell 0 (by omega)
    have HL := hid (palive_any w _ _ hE0)
    have HN0 := hid (fun W h => num_err ae 0 (by omega) W h)
    have HI := hid (fun w => is_any n w)
    have HR := hid (fun w => ris_any n w)
    have HRI := hid ris_any
    have HM := hid (fun w => least_any n w)
    have HX : Hid (∀ w1, Below w.heap.size w w1 → Calls Tryd.prog 12 #[.int .i64 n] w1 fun e w' => NextEnd n (.iface 57 (.pointer (some (ae 0)))) e ∧ Below w1.heap.size w1 w') :=
      hid fun w1 hb => next_any n hn9 w1 _ _ (cell_stays hE0 hb)
    have HA := hid hA
    clear hA hE0
    have hbb : (isP n != isP n) = false := by simp
    rw [show leastOf n = 0 by unfold leastOf; rw [if_pos (.inr hn)]] at HM
    generalize isP n = b at *
    go_enter Tryd.func3, Tryd.ntmps3
    go_wp2_with fail
    refine (HL.out).mono ?_
    rintro e w1 ⟨rfl, hb1⟩
    have B1 := hid (hb1)
    clear hb1
    go_wp2_with fail
    refine (HI.out _).mono ?_
    rintro e w2 ⟨rfl, hb2⟩
    have B2 := hid (bel2 B1.out hb2)
    clear hb2
    go_wp2_with fail
    refine (HR.out _).mono ?_
    rintro e w3 ⟨rfl, rfl⟩
    go_wp2_with fail
    refine (HM.out _).mono ?_
    rintro e w4 ⟨rfl, hb4⟩
    have B4 := hid (bel2 B2.out hb4)
    clear hb4
    go_wp2_with fail
    refine (HX.out _ B4.out).mono ?_
    rintro e w5 ⟨he, hb5⟩
    have B5 := hid (bel2 B4.out hb5)
    clear hb5
    obtain ⟨h, rfl⟩ | ⟨h, p, rfl, h1, h2, h3, h4, h5⟩ := he
    · go_wp2_with fail
      refine (HN0.out _ (HA.out.below B5.out)).mono ?_
      rintro e w6 ⟨rfl, hb6⟩
      have B6 := hid (bel2 B5.out hb6)
      clear hb6
      go_wp2
      go_ret
      exact ⟨rfl, B6.out⟩
    · omega

theorem lis_any (n : Int) (hn9 : n ≤ 9223372036854775807) (ae : Nat → Addr) (w : World) (hA : Errs 18 ae w) :
    Calls Tryd.prog 3 #[.int .i64 n] w fun e w' => e = .returned (.bool true) ∧ Below w.heap.size w w' := by
  by_cases h1 : n < 2
  · exact lis_low n h1 hn9 ae w hA
  · by_cases h2 : 2147483648 < n
    · exact lis_high n h2 hn9 ae w hA
    · exact lis_mid n ⟨by omega, by omega⟩ hn9 ae w hA
end Go.Proofs.YteaebljfcidejaaDoor
