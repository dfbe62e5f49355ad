/-
  'linkboylaw09.StridePlaces' returns true for every input, and leaves its arguments as they were: the row, and its tied card.
  Conditions: the listed package-level variables read as the program's text lays them, which the card ties.
-/
import Derived.Test.YtpijdbajonddlaaDoorVrow
import Derived.Test.YtpijdbajonddlaaDoorVonc
import Derived.Test.YtpijdbajonddlaaDoorTie
import Derived.Test.YtpijdbajonddlaaDoorCards
import Derived.Stop.Joined
import Derived.SevenTiedAt
namespace Go.Proofs.YtpijdbajonddlaaDoor
open Go.ChangeShapes Go.WideShapes Go.ChangeAt Go.WideMaps Go.WideElems Go.RowKit

theorem ienv_stridePlaces {W : World} (h : laidMetH Tryd.prog Rows.stridePlacesRow.laid W) : (∃ u p, W.cell? ⟨0, 0, none⟩ = some (.iface u p)) ∧ ∃ u p, W.cell? ⟨10, 0, none⟩ = some (.iface u p) := by
  rw [MakeChecks.laidMetH_plain _ _ _ (by kernel_rfl)] at h
  have h1 : Lib.VarReads Tryd.prog W "linkboy/api.ErrRange" Rows.laid_linkboy_api_ErrRange := Lib.laidMet.reads h (List.mem_cons_self ..)
  have h2 : Lib.VarReads Tryd.prog W "linkboy/api.ErrNone" Rows.laid_linkboy_api_ErrNone := Lib.laidMet.reads h (List.mem_cons_of_mem _ (List.mem_cons_self ..))
  exact ⟨iface_of_reads (g := 0) (t := 27) (by kernel_rfl) (by kernel_rfl) Tryd.underlying27 h1, iface_of_reads (g := 10) (t := 27) (by kernel_rfl) (by kernel_rfl) Tryd.underlying27 h2⟩

set_option maxRecDepth 100000 in
theorem stridePlaces_lifted (os : Os) (started : os.Started) (H : Type) (enc : TypeId × Value → H) :
    ReturnsInHanded {} Tryd.checked os 4 .any (fun w args => (Rows.stridePlacesSpec.pre enc Tryd.prog Tryd.f4 [] false w args ∧ laidMetH Tryd.prog Rows.stridePlacesRow.laid w) ∧ sizedMet enc Tryd.prog Tryd.f4 (OpenSpec.ofChange Rows.stridePlacesSpec) false w args)
      (Rows.stridePlacesSpec.post enc Tryd.prog Tryd.f4 false true false false) := by
  refine returnsInHanded_of_change_both (C := Tryd.checked) (X := fun w _ => laidMetH Tryd.prog Rows.stridePlacesRow.laid w) (fun _ _ _ hh h => h.of_heap hh) own started (by kernel_rfl) Tryd.func4
    (ChangeSpec.witness_shaped (enc := enc) (C := Tryd.checked) (os := os) (X := fun w _ => laidMetH Tryd.prog Rows.stridePlacesRow.laid w) false (World.laidAll Tryd.prog os Rows.stridePlacesRow.laid) #[.agg #[.int .i64 0, .int .i64 0, .int .i64 0], .int .i64 0, .int .i64 0] 8 (World.laidAll_os _ _ _)
      (World.shaped_of_ZipB (by kernel_rfl) (by kernel_rfl)) (by kernel_rfl) (by kernel_rfl) (by kernel_rfl)
      (by rw [MakeChecks.laidMetH_plain _ _ _ (by kernel_rfl)]; exact laidMet_laidAll _ (by kernel_rfl) (by kernel_rfl))) ?_
  intro W base args ds gs before hval0 hW hL hS
  have hval : ∀ (j : Nat) t v, Tryd.f4.params[j]? = some t → args[j]? = some v → Value.okWide Tryd.prog W .any base t v := hval0
  have hW' := hW
  obtain ⟨p, q, hA0, hV, rfl, hfz, hnd⟩ := hW
  have hA : DataW.TrodAll enc Tryd.prog W 0 (fun _ => true) true Tryd.f4.params.toList args.toList ds p := hA0
  rw [Tryd.params4] at hA hval
  obtain ⟨v0, vs0, d0, ds0, p0, q0, hargs, rfl, rfl, h0, r0⟩ := trodAll_cons hA
  obtain ⟨v1, vs1, d1, ds1, p1, q1, rfl, rfl, rfl, h1, r1⟩ := trodAll_cons r0
  obtain ⟨v2, vs2, d2, ds2, p2, q2, rfl, rfl, rfl, h2, r2⟩ := trodAll_cons r1
  obtain ⟨rfl, rfl, rfl⟩ := trodAll_nil r2
  obtain rfl : args = #[v0, v1, v2] := by cases args; simp_all
  obtain ⟨rfl, rfl⟩ := trodVars_none hV
  obtain ⟨sa, sb, sc, rfl, rfl, rfl, wa, wb, wc⟩ := open_stride (hval 0 25 v0 rfl rfl) h0
  obtain ⟨j, rfl, rfl, rfl, wj⟩ := open_int Tryd.underlying3 (hval 1 3 v1 rfl rfl) h1
  obtain ⟨pl, rfl, rfl, rfl, wp⟩ := open_int Tryd.underlying3 (hval 2 3 v2 rfl rfl) h2
  clear hA0 hval0
  obtain ⟨⟨u1, w1, hE1⟩, u2, w2, hE2⟩ := ienv_stridePlaces hL
  refine (lplaces_any sa sb sc j pl W u1 u2 w1 w2 hE1 hE2).mono fun e W' ⟨he, bel⟩ => ?_
  subst he
  exact ⟨_, rfl, _, _, _, [], _, [], hW', trodAll_mk1 (shut_bool Tryd.underlying4 _), (trodAll_cons_mk (shut_stride wa wb wc) (trodAll_cons_mk (shut_int Tryd.underlying3 wj) (trodAll_cons_mk (shut_int Tryd.underlying3 wp) trodAll_mk0))), rfl, bel.frame _, fun h => by cases h⟩

theorem stridePlaces_row : Rows.StridePlacesSaid :=
  OpenClaim.holds_of_wide 4 Tryd.f4 rfl rfl rfl rfl rfl rfl rfl ⟨rfl, rfl, rfl, rfl, rfl⟩ rfl rfl rfl rfl rfl (by kernel_rfl) Tryd.func4 (by kernel_rfl)
    (of_decide_eq_true (by kernel_rfl)) (by unfold Func.isWrapper; first | (rw [if_pos (by decide +kernel)]; kernel_rfl) | (rw [if_neg (by decide +kernel)]; exact ⟨rfl, rfl⟩))
    (fun os started H enc _ => stridePlaces_lifted os started H enc)

theorem stridePlaces_holds : Rows.StridePlacesCardSaid :=
  Claim7.holds_tied_plain_at .later [] Rows.stridePlacesCard.laidKinds true Rows.stridePlacesCard.stood.harness true
    stridePlaces_row (fun _ h => by cases h) (by kernel_rfl) (fun _ h => by cases h) stridePlaces_row_tie rfl ⟨rfl, rfl⟩ (by kernel_rfl) rfl
    (fun f fn hf hfn => by
      obtain rfl : f = 4 := Option.some.inj ((show Tryd.prog.funcNamed "linkboy/linkboylaw09.StridePlaces" = some 4 by kernel_rfl).symm.trans hf) |>.symm
      obtain rfl : fn = Tryd.f4 := (Option.some.inj (Tryd.func4.symm.trans hfn)).symm
      exact ⟨by kernel_rfl, fun j t ht => by
        rw [Tryd.params4] at ht
        have hm : t ∈ [25, 3, 3] := by simpa using Array.mem_of_getElem? ht
        have hall : ([25, 3, 3].all fun u => !Tryd.prog.wantsStandIn u) = true := by kernel_rfl
        exact (show Tryd.prog.wantsStandIn t = false by simpa using List.all_eq_true.1 hall t hm)⟩)
    (by kernel_rfl)
#print axioms stridePlaces_holds
end Go.Proofs.YtpijdbajonddlaaDoor
