/-
  'linkboylaw03.CidrReads' returns true for every input, and leaves its arguments as they were: the row, and its tied card.
  Conditions: the listed package-level variables read as the program's text lays them, which the card ties.
-/
import Derived.Test.YtnfkgoeocebenaaGreatDoorQrow
import Derived.Test.YtnfkgoeocebenaaGreatDoorCreany
import Derived.Test.YtnfkgoeocebenaaGreatDoorLaid
import Derived.Test.YtnfkgoeocebenaaGreatDoorTie
import Derived.Test.YtnfkgoeocebenaaGreatDoorCards
import Derived.ChangeOld
import Derived.Stop.Joined
import Derived.SevenTiedAt
namespace Go.Proofs.YtnfkgoeocebenaaGreatDoor
open Go.ChangeShapes Go.WideShapes Go.ChangeAt Go.WideMaps Go.WideElems Go.RowKit

theorem laid18t : Rows.cidrReadsRow.laid = Rows.cidrReadsRow.laid.take 4 ++ (names18.map sentinel ++ Rows.cidrReadsRow.laid.drop 22) := rfl

theorem env_creads {W : World} (hs : W.ShapedOpen Tryz.prog) (h : laidMetH Tryz.prog Rows.cidrReadsRow.laid W) : ∃ a, Env (.iface 211 (.pointer (some (a 3)))) W ∧ Errs 18 a W := by
  rw [MakeChecks.laidMetH_plain _ _ _ (by kernel_rfl)] at h
  have h2 := h
  rw [laid18t] at h2
  obtain ⟨a, ha⟩ := errs_of _ _ names18 h2 named18
  obtain ⟨u, p, hE⟩ : ∃ u p, Env (.iface u p) W := by refine env_of_laid hs h ?_ ?_ ?_ ?_ ?_ <;> simp [Rows.cidrReadsRow]
  have h3 : W.cell? ⟨0, 0, none⟩ = some (.iface 211 (.pointer (some (a 3)))) := ha.cell 3 (by decide)
  have h4 := hE.form
  rw [h3] at h4
  cases h4
  exact ⟨a, hE, ha⟩

noncomputable def cidz : Value := .agg (cid false (ints [0, 0, 0, 0, 0, 0, 0, 0, 0, 0, 0, 0, 0, 0, 0, 0]) 0)

set_option maxRecDepth 100000 in
theorem creads_lifted (os : Os) (started : os.Started) (H : Type) (enc : TypeId × Value → H) :
    ReturnsInHanded {} Tryz.checked os 5 .any (fun w args => (Rows.cidrReadsSpec.pre enc Tryz.prog Tryz.f5 [] false w args ∧ laidMetH Tryz.prog Rows.cidrReadsRow.laid w) ∧ sizedMet enc Tryz.prog Tryz.f5 (OpenSpec.ofChange Rows.cidrReadsSpec) false w args)
      (Rows.cidrReadsSpec.post enc Tryz.prog Tryz.f5 false true false false) := by
  refine returnsInHanded_of_change_both (C := Tryz.checked) (X := fun w _ => laidMetH Tryz.prog Rows.cidrReadsRow.laid w) (fun _ _ _ hh h => h.of_heap hh) own started (by kernel_rfl) Tryz.func5
    (ChangeSpec.witness_shaped (enc := enc) (C := Tryz.checked) (os := os) (X := fun w _ => laidMetH Tryz.prog Rows.cidrReadsRow.laid w) false (World.laidAll Tryz.prog os Rows.cidrReadsRow.laid) #[cidz, .slice none 0 0] 8 (World.laidAll_os _ _ _)
      (World.shaped_of_ZipB (by kernel_rfl) (by kernel_rfl)) (by kernel_rfl) (by kernel_rfl) (by kernel_rfl)
      (by rw [MakeChecks.laidMetH_plain _ _ _ (by kernel_rfl)]; exact laidMet_laidAll _ (by kernel_rfl) (by kernel_rfl))) ?_
  intro W base args ds gs before hval0 hW hL hS
  have hval : ∀ (j : Nat) t v, Tryz.f5.params[j]? = some t → args[j]? = some v → Value.okWide Tryz.prog W .any base t v := hval0
  have hW' := hW
  obtain ⟨p, q, hA0, hV, rfl, hfz, hnd⟩ := hW
  have hA : DataW.TrodAll enc Tryz.prog W 0 (fun _ => true) true Tryz.f5.params.toList args.toList ds p := hA0
  rw [Tryz.params5] at hA hval
  obtain ⟨v0, vs0, d0, ds0, p0, q0, hargs0, rfl, rfl, h0, r0⟩ := trodAll_cons hA
  obtain ⟨v1, vs1, d1, ds1, p1, q1, hargs1, rfl, rfl, h1, r1⟩ := trodAll_cons r0
  obtain ⟨rfl, rfl, rfl⟩ := trodAll_nil r1
  obtain rfl : args = #[v0, v1] := by cases args; simp_all
  obtain ⟨rfl, rfl⟩ := trodVars_none hV
  obtain ⟨s1, x1, n1, rfl, rfl, rfl, l1, b1, f1⟩ := open_cid (hval 0 50 v0 rfl rfl) h0
  obtain ⟨a1, len1, cap1, rfl⟩ := okWide_slice Tryz.underlying25 (hval 1 25 v1 rfl rfl)
  have k1 := h1
  have lt1 : ∀ x ∈ p1, x.block < W.heap.size := by obtain ⟨m, hm⟩ := k1; exact DataW.trod_lt m _ _ _ hm
  obtain ⟨bs, rfl, hcap, hn0, hby, hrow⟩ : ∃ bs : List Int, len1 = bs.length ∧ bs.length ≤ cap1 ∧ (a1 = none → cap1 = 0) ∧ (∀ x ∈ bs, 0 ≤ x ∧ x ≤ 255) ∧ ∀ j, j < bs.length → ∃ g o, a1 = some ⟨g, o, none⟩ ∧ W.cell? ⟨g, o + j, none⟩ = some (.int .u8 (bs.getD j 0)) := by
    obtain ⟨fuel, hf⟩ := h1
    rcases open_ints Tryz.underlying25 Tryz.underlying5 (by kernel_rfl) hf with ⟨hcs, _⟩ | ⟨x, ln, c, zs, hcs, _, hl, hm, hz, _, hcell, hwz⟩
    · simp [Value.cells] at hcs
      obtain ⟨rfl, rfl, rfl⟩ := hcs
      exact ⟨[], rfl, Nat.le_refl _, fun _ => rfl, (fun x hx => absurd hx (by simp)), (fun j hj => absurd hj (by simp))⟩
    · simp [Value.cells] at hcs
      obtain ⟨rfl, rfl, rfl⟩ := hcs
      simp only [if_true] at hz
      refine ⟨zs.take len1, by rw [List.length_take]; omega, by rw [List.length_take]; omega, (fun h => by cases h), fun z hz' => bounds_u8 (hwz z (List.mem_of_mem_take hz')), fun j hj => ?_⟩
      rw [List.length_take] at hj
      obtain ⟨b, off, spot⟩ := x
      have hspot : spot = none := by simpa [Addr.add] using World.cell?_spot (hcell 0 (by omega))
      subst hspot
      have hc := hcell j (by omega)
      rw [add_plain] at hc
      refine ⟨b, off, rfl, ?_⟩
      rw [hc]
      simp [List.getD, show j < len1 by omega]
  clear hA0 hval0
  obtain ⟨a, hE, hA'⟩ := env_creads hS hL
  refine (creads_any s1 x1 l1 b1 n1 a1 cap1 bs hcap hn0 hby a W hE hA' hrow).mono fun e W' ⟨he, bel⟩ => ?_
  subst he
  exact ⟨_, rfl, _, _, _, [], _, [], hW', trodAll_mk1 (shut_bool Tryz.underlying4 _), (trodAll_cons_mk (shut_cid l1 b1 f1) (trodAll_cons_mk (Below.trod laidOut (by kernel_rfl) (of_decide_eq_true (by kernel_rfl)) k1 bel lt1) trodAll_mk0)), rfl, bel.frame _, fun h => by cases h⟩

theorem cidrReads_row : Rows.CidrReadsSaid :=
  OpenClaim.holds_of_wide 5 Tryz.f5 rfl rfl rfl rfl rfl rfl rfl ⟨rfl, rfl, rfl, rfl, rfl⟩ rfl rfl rfl rfl rfl (by kernel_rfl) Tryz.func5 (by kernel_rfl)
    (of_decide_eq_true (by kernel_rfl)) (by unfold Func.isWrapper; first | (rw [if_pos (by decide +kernel)]; kernel_rfl) | (rw [if_neg (by decide +kernel)]; exact ⟨rfl, rfl⟩))
    (fun os started H enc _ => creads_lifted os started H enc)

theorem cidrReads_holds : Rows.CidrReadsCardSaid :=
  Claim7.holds_tied_plain_at .later [] Rows.cidrReadsCard.laidKinds true Rows.cidrReadsCard.stood.harness true
    cidrReads_row (fun _ h => by cases h) (by kernel_rfl) (fun _ h => by cases h) cidrReads_row_tie rfl ⟨rfl, rfl⟩ (by kernel_rfl) rfl
    (fun f fn hf hfn => by
      obtain rfl : f = 5 := Option.some.inj ((show Tryz.prog.funcNamed "linkboy/linkboylaw03.CidrReads" = some 5 by kernel_rfl).symm.trans hf) |>.symm
      obtain rfl : fn = Tryz.f5 := (Option.some.inj (Tryz.func5.symm.trans hfn)).symm
      exact ⟨by kernel_rfl, fun j t ht => by
        rw [Tryz.params5] at ht
        have hm : t ∈ [50, 25] := by simpa using Array.mem_of_getElem? ht
        have hall : ([50, 25].all fun u => !Tryz.prog.wantsStandIn u) = true := by kernel_rfl
        exact (show Tryz.prog.wantsStandIn t = false by simpa using List.all_eq_true.1 hall t hm)⟩)
    (by kernel_rfl)
#print axioms cidrReads_holds
end Go.Proofs.YtnfkgoeocebenaaGreatDoor
