/-
  prime.Inverse.
-/
import Derived.Test.YtpijdbajonddlaaDoorFpow
namespace Go.Proofs.YtpijdbajonddlaaDoor
open Go.RowKit Go.Lib

/-- What prime.Inverse tells. -/
def inverseOf (a p : Int) (e1 e2 : Value) : Value := if isP p then (if a % p = 0 then .tuple #[.int .i64 0, e2] else .tuple #[.int .i64 (pwr a (p.toNat - 2) p), .nilIface]) else .tuple #[.int .i64 0, e1]

set_option maxHeartbeats 4000000 in
theorem inverse_any (a p : Int) (w : World) (u1 u2 : TypeId) (v1 v2 : Value) (h1 : w.cell? ⟨0, 0, none⟩ = some (.iface u1 v1)) (h2 : w.cell? ⟨10, 0, none⟩ = some (.iface u2 v2)) :
    Calls Tryd.prog 28 #[.int .i64 a, .int .i64 p] w fun e w' => e = .returned (inverseOf a p (.iface u1 v1) (.iface u2 v2)) ∧ Below w.heap.size w w' := by
  have HI := hid (is_any p w)
  have H1 := hid h1
  have H2 := hid h2
  clear h1 h2
  cases hp : isP p with
  | false =>
    rw [hp] at HI
    have HE : Hid (Value.tuple #[.int .i64 0, .iface u1 v1] = inverseOf a p (.iface u1 v1) (.iface u2 v2)) := hid (by unfold inverseOf; rw [hp]; rfl)
    go_enter Tryd.func28, Tryd.ntmps28
    go_wp2_with fail
    refine HI.out.mono ?_
    rintro e w1 ⟨rfl, hb1⟩
    have B1 := hid hb1
    have c1 := cell_stays H1.out hb1
    clear hb1
    go_wp2
    go_region
    all_goals
      go_wp2
      exact bodyPost_ret (by simp [results, Tryd.f28, go_sem]) rfl ⟨congrArg Ending.returned HE.out, B1.out.drew⟩
  | true =>
    rw [hp] at HI
    have hr := isP_range hp
    have HR := hid (fun w => rest_any a p (by omega) (by omega) w)
    by_cases h0 : a % p = 0
    · rw [h0] at HR
      have HE : Hid (Value.tuple #[.int .i64 0, .iface u2 v2] = inverseOf a p (.iface u1 v1) (.iface u2 v2)) := hid (by unfold inverseOf; rw [hp, if_pos rfl, if_pos h0])
      clear h0 hp
      go_enter Tryd.func28, Tryd.ntmps28
      go_wp2_with fail
      refine HI.out.mono ?_
      rintro e w1 ⟨rfl, hb1⟩
      have B1 := hid hb1
      have c2 := cell_stays H2.out hb1
      clear hb1
      go_wp2_with fail
      refine (HR.out _).mono ?_
      rintro e w2 ⟨rfl, rfl⟩
      go_wp2
      go_region
      all_goals
        go_wp2
        exact bodyPost_ret (by simp [results, Tryd.f28, go_sem]) rfl ⟨congrArg Ending.returned HE.out, B1.out.drew⟩
    · obtain ⟨K, hK⟩ : ∃ K : Nat, p.toNat - 2 = K := ⟨_, rfl⟩
      have hpK : p - 2 = (K : Int) := by omega
      have HE : Hid (Value.tuple #[.int .i64 (pwr a K p), .nilIface] = inverseOf a p (.iface u1 v1) (.iface u2 v2)) := hid (by unfold inverseOf; rw [hp, if_pos rfl, if_neg h0, hK])
      have HP := hid (fun w => power_any a K p (by omega) w)
      rw [show powerOf a K p = pwr a K p by rw [powerOf, if_neg (by omega)]; rfl] at HP
      generalize pwr a K p = z at *
      generalize a % p = r at *
      clear hK hp
      go_enter Tryd.func28, Tryd.ntmps28
      go_wp2_with fail
      refine HI.out.mono ?_
      rintro e w1 ⟨rfl, hb1⟩
      have B1 := hid hb1
      clear hb1
      go_wp2_with fail
      refine (HR.out _).mono ?_
      rintro e w2 ⟨rfl, rfl⟩
      go_wp2_with fail
      refine (HP.out _).mono ?_
      rintro e w3 ⟨rfl, hb3⟩
      have B3 := hid (bel2 B1.out hb3)
      clear hb3
      go_wp2
      exact bodyPost_ret (by simp [results, Tryd.f28, go_sem]) rfl ⟨congrArg Ending.returned HE.out, B3.out⟩
end Go.Proofs.YtpijdbajonddlaaDoor
