/-
  'linkboylaw04.PortsPoints' returns true for every input, and leaves its arguments as they were: the row, and its tied card.
  Conditions: the listed package-level variables read as the program's text lays them, which the card ties.
-/
import Derived.Test.YtnfkgoeocebenaaGreatDoorProw
import Derived.Test.YtnfkgoeocebenaaGreatDoorPany
import Derived.Test.YtnfkgoeocebenaaGreatDoorLaid
import Derived.Test.YtnfkgoeocebenaaGreatDoorTie
import Derived.Test.YtnfkgoeocebenaaGreatDoorCards
import Derived.ShutString
import Derived.Stop.Joined
import Derived.SevenTiedAt
namespace Go.Proofs.YtnfkgoeocebenaaGreatDoor
open Go.ChangeMaps (open_string shut_string)
open Go.ChangeShapes Go.WideShapes Go.ChangeAt Go.WideMaps Go.WideElems Go.RowKit

theorem laid18q : Rows.portsPointsRow.laid = Rows.portsPointsRow.laid.take 4 ++ (names18.map sentinel ++ Rows.portsPointsRow.laid.drop 22) := rfl

theorem env_points {W : World} (hs : W.ShapedOpen Tryz.prog) (h : laidMetH Tryz.prog Rows.portsPointsRow.laid W) : ∃ a, Env (.iface 211 (.pointer (some (a 3)))) W ∧ Errs 18 a W := by
  rw [MakeChecks.laidMetH_plain _ _ _ (by kernel_rfl)] at h
  have h2 := h
  rw [laid18q] at h2
  obtain ⟨a, ha⟩ := errs_of _ _ names18 h2 named18
  obtain ⟨u, p, hE⟩ : ∃ u p, Env (.iface u p) W := by refine env_of_laid hs h ?_ ?_ ?_ ?_ ?_ <;> simp [Rows.portsPointsRow]
  have h3 : W.cell? ⟨0, 0, none⟩ = some (.iface 211 (.pointer (some (a 3)))) := ha.cell 3 (by decide)
  have h4 := hE.form
  rw [h3] at h4
  cases h4
  exact ⟨a, hE, ha⟩

noncomputable def pntz : Value := .agg (pnt false (ints [0, 0, 0, 0, 0, 0, 0, 0, 0, 0, 0, 0, 0, 0, 0, 0]) 0)

set_option maxRecDepth 100000 in
theorem points_lifted (os : Os) (started : os.Started) (H : Type) (enc : TypeId × Value → H) :
    ReturnsInHanded {} Tryz.checked os 6 .any (fun w args => (Rows.portsPointsSpec.pre enc Tryz.prog Tryz.f6 [] false w args ∧ laidMetH Tryz.prog Rows.portsPointsRow.laid w) ∧ sizedMet enc Tryz.prog Tryz.f6 (OpenSpec.ofChange Rows.portsPointsSpec) false w args)
      (Rows.portsPointsSpec.post enc Tryz.prog Tryz.f6 false true false false) := by
  refine returnsInHanded_of_change_both (C := Tryz.checked) (X := fun w _ => laidMetH Tryz.prog Rows.portsPointsRow.laid w) (fun _ _ _ hh h => h.of_heap hh) own started (by kernel_rfl) Tryz.func6
    (ChangeSpec.witness_shaped (enc := enc) (C := Tryz.checked) (os := os) (X := fun w _ => laidMetH Tryz.prog Rows.portsPointsRow.laid w) false (World.laidAll Tryz.prog os Rows.portsPointsRow.laid) #[pntz, .string ByteArray.empty] 8 (World.laidAll_os _ _ _)
      (World.shaped_of_ZipB (by kernel_rfl) (by kernel_rfl)) (by kernel_rfl) (by kernel_rfl) (by kernel_rfl)
      (by rw [MakeChecks.laidMetH_plain _ _ _ (by kernel_rfl)]; exact laidMet_laidAll _ (by kernel_rfl) (by kernel_rfl))) ?_
  intro W base args ds gs before hval0 hW hL hS
  have hval : ∀ (j : Nat) t v, Tryz.f6.params[j]? = some t → args[j]? = some v → Value.okWide Tryz.prog W .any base t v := hval0
  have hW' := hW
  obtain ⟨p, q, hA0, hV, rfl, hfz, hnd⟩ := hW
  have hA : DataW.TrodAll enc Tryz.prog W 0 (fun _ => true) true Tryz.f6.params.toList args.toList ds p := hA0
  rw [Tryz.params6] at hA hval
  obtain ⟨v0, vs0, d0, ds0, p0, q0, hargs0, rfl, rfl, h0, r0⟩ := trodAll_cons hA
  obtain ⟨v1, vs1, d1, ds1, p1, q1, hargs1, rfl, rfl, h1, r1⟩ := trodAll_cons r0
  obtain ⟨rfl, rfl, rfl⟩ := trodAll_nil r1
  obtain rfl : args = #[v0, v1] := by cases args; simp_all
  obtain ⟨rfl, rfl⟩ := trodVars_none hV
  obtain ⟨s1, x1, n1, rfl, rfl, rfl, l1, b1, f1⟩ := open_pnt (hval 0 60 v0 rfl rfl) h0
  obtain ⟨t, rfl, rfl, rfl, htb⟩ := open_string Tryz.underlying9 (hval 1 9 v1 rfl rfl) h1
  clear hA0 hval0
  obtain ⟨a, hE, hA'⟩ := env_points hS hL
  refine (points_any s1 x1 l1 b1 n1 t a W hE hA').mono fun e W' ⟨he, bel⟩ => ?_
  subst he
  exact ⟨_, rfl, _, _, _, [], _, [], hW', trodAll_mk1 (shut_bool Tryz.underlying4 _), (trodAll_cons_mk (shut_pnt l1 b1 f1) (trodAll_cons_mk (shut_string Tryz.underlying9 htb) trodAll_mk0)), rfl, bel.frame _, fun h => by cases h⟩

theorem portsPoints_row : Rows.PortsPointsSaid :=
  OpenClaim.holds_of_wide 6 Tryz.f6 rfl rfl rfl rfl rfl rfl rfl ⟨rfl, rfl, rfl, rfl, rfl⟩ rfl rfl rfl rfl rfl (by kernel_rfl) Tryz.func6 (by kernel_rfl)
    (of_decide_eq_true (by kernel_rfl)) (by unfold Func.isWrapper; first | (rw [if_pos (by decide +kernel)]; kernel_rfl) | (rw [if_neg (by decide +kernel)]; exact ⟨rfl, rfl⟩))
    (fun os started H enc _ => points_lifted os started H enc)

theorem portsPoints_holds : Rows.PortsPointsCardSaid :=
  Claim7.holds_tied_plain_at .later [] Rows.portsPointsCard.laidKinds true Rows.portsPointsCard.stood.harness true
    portsPoints_row (fun _ h => by cases h) (by kernel_rfl) (fun _ h => by cases h) portsPoints_row_tie rfl ⟨rfl, rfl⟩ (by kernel_rfl) rfl
    (fun f fn hf hfn => by
      obtain rfl : f = 6 := Option.some.inj ((show Tryz.prog.funcNamed "linkboy/linkboylaw04.PortsPoints" = some 6 by kernel_rfl).symm.trans hf) |>.symm
      obtain rfl : fn = Tryz.f6 := (Option.some.inj (Tryz.func6.symm.trans hfn)).symm
      exact ⟨by kernel_rfl, fun j t ht => by
        rw [Tryz.params6] at ht
        have hm : t ∈ [60, 9] := by simpa using Array.mem_of_getElem? ht
        have hall : ([60, 9].all fun u => !Tryz.prog.wantsStandIn u) = true := by kernel_rfl
        exact (show Tryz.prog.wantsStandIn t = false by simpa using List.all_eq_true.1 hall t hm)⟩)
    (by kernel_rfl)
#print axioms portsPoints_holds
end Go.Proofs.YtnfkgoeocebenaaGreatDoor
