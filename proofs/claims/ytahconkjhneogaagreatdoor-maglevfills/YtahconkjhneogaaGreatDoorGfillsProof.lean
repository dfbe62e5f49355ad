/-
  'linkboylaw10.MaglevFills' returns true for every input, and leaves its arguments as they were: the row, and its tied card.   Conditions: the listed package-level variables read as the program's text lays them, which the card ties.
-/
import Derived.Test.YtahconkjhneogaaGreatDoorGs01
import Derived.Test.YtahconkjhneogaaGreatDoorTie
import Derived.Test.YtahconkjhneogaaGreatDoorCards
import Derived.Stop.Joined
import Derived.SevenTiedAt
namespace Go.Proofs.YtahconkjhneogaaGreatDoor
open Go.ChangeShapes Go.WideShapes Go.ChangeAt Go.WideMaps Go.WideElems Go.RowKit

theorem laid18F : Rows.maglevFillsRow.laid = [] ++ (names18.map sentinel ++ [("linkboy/hash.factors", Rows.laid_linkboy_hash_factors)]) := rfl

theorem env_fills {W : World} (h : laidMetH Tryz.prog Rows.maglevFillsRow.laid W) : FEnv W ∧ ∃ a, Errs 18 a W := by
  rw [MakeChecks.laidMetH_plain _ _ _ (by kernel_rfl)] at h
  have hr : Lib.VarReads Tryz.prog W "linkboy/hash.factors" (.agg ([18397679294719823053, 14181476777654086739].map fun z => .lit (.int .u64 z))) := Lib.laidMet.reads h (by first | exact List.mem_of_getLast? rfl | (simp only [Rows.maglevFillsRow, List.mem_cons]; simp [Rows.laid_linkboy_hash_factors]))
  have c := fun i hi z hz => tab_of_reads (g := 18) (t := 116) (e := 67) (n := 2) (by kernel_rfl) (by kernel_rfl) Tryz.underlying116 Tryz.underlying67 (by kernel_rfl) hr i hi z hz
  refine ⟨⟨c 0 (by decide) _ rfl, c 1 (by decide) _ rfl, cell_lt (c 0 (by decide) _ rfl)⟩, ?_⟩
  rw [laid18F] at h
  exact errs_of _ _ names18 h named18

set_option maxRecDepth 100000 in
theorem maglevFills_lifted (os : Os) (started : os.Started) (H : Type) (enc : TypeId × Value → H) :
    ReturnsInHanded {} Tryz.checked os 3 .any (fun w args => (Rows.maglevFillsSpec.pre enc Tryz.prog Tryz.f3 [] false w args ∧ laidMetH Tryz.prog Rows.maglevFillsRow.laid w) ∧ sizedMet enc Tryz.prog Tryz.f3 (OpenSpec.ofChange Rows.maglevFillsSpec) false w args)
      (Rows.maglevFillsSpec.post enc Tryz.prog Tryz.f3 false true false false) := by
  refine returnsInHanded_of_change_both (C := Tryz.checked) (X := fun w _ => laidMetH Tryz.prog Rows.maglevFillsRow.laid w) (fun _ _ _ hh h => h.of_heap hh) own started (by kernel_rfl) Tryz.func3
    (ChangeSpec.witness_shaped (enc := enc) (C := Tryz.checked) (os := os) (X := fun w _ => laidMetH Tryz.prog Rows.maglevFillsRow.laid w) false (World.laidAll Tryz.prog os Rows.maglevFillsRow.laid) #[.slice none 0 0, .int .i64 0, .slice none 0 0] 8 (World.laidAll_os _ _ _)
      (World.shaped_of_ZipB (by kernel_rfl) (by kernel_rfl)) (by kernel_rfl) (by kernel_rfl) (by kernel_rfl)
      (by rw [MakeChecks.laidMetH_plain _ _ _ (by kernel_rfl)]; exact laidMet_laidAll _ (by kernel_rfl) (by kernel_rfl))) ?_
  intro W base args ds gs before hval0 hW hL hS
  have hval : ∀ (j : Nat) t v, Tryz.f3.params[j]? = some t → args[j]? = some v → Value.okWide Tryz.prog W .any base t v := hval0
  have hW' := hW
  obtain ⟨p, q, hA0, hV, rfl, hfz, hnd⟩ := hW
  have hA : DataW.TrodAll enc Tryz.prog W 0 (fun _ => true) true Tryz.f3.params.toList args.toList ds p := hA0
  rw [Tryz.params3] at hA hval
  obtain ⟨v0, vs0, d0, ds0, p0, q0, hargs, rfl, rfl, h0, r0⟩ := trodAll_cons hA
  obtain ⟨v1, vs1, d1, ds1, p1, q1, rfl, rfl, rfl, h1, r1⟩ := trodAll_cons r0
  obtain ⟨v2, vs2, d2, ds2, p2, q2, rfl, rfl, rfl, h2, r2⟩ := trodAll_cons r1
  obtain ⟨rfl, rfl, rfl⟩ := trodAll_nil r2
  obtain rfl : args = #[v0, v1, v2] := by cases args; simp_all
  obtain ⟨rfl, rfl⟩ := trodVars_none hV
  have k0 := h0
  have lt0 : ∀ x ∈ p0, x.block < W.heap.size := by obtain ⟨m, hm⟩ := k0; exact DataW.trod_lt m _ _ _ hm
  have k2 := h2
  have lt2 : ∀ x ∈ p2, x.block < W.heap.size := by obtain ⟨m, hm⟩ := k2; exact DataW.trod_lt m _ _ _ hm
  obtain ⟨ad0, cap0, xs0, rfl, hcap0, hnil0, hI0⟩ := open_points (okWide_slice Tryz.underlying22 (hval 0 22 v0 rfl rfl)) h0
  obtain ⟨m, rfl, rfl, rfl, wm⟩ := open_int Tryz.underlying3 (hval 1 3 v1 rfl rfl) h1
  obtain ⟨ad2, cap2, bs, rfl, _, hnil2, hby, hI2, _⟩ := open_bs (hval 2 23 v2 rfl rfl) h2
  clear hA0 hval0
  obtain ⟨hF, a, hA'⟩ := env_fills hL
  refine (fills_any a ad0 cap0 xs0 bs ad2 cap2 m hcap0 hnil0 hnil2 W hF hA' hI0 hby hI2).mono fun e W' ⟨he, bel⟩ => ?_
  subst he
  exact ⟨_, rfl, _, _, _, [], _, [], hW', trodAll_mk1 (shut_bool Tryz.underlying4 _), (trodAll_cons_mk (Below.trod laidOutS (by kernel_rfl) (of_decide_eq_true (by kernel_rfl)) k0 bel lt0) (trodAll_cons_mk (shut_int Tryz.underlying3 wm) (trodAll_cons_mk (Below.trod laidOutS (by kernel_rfl) (of_decide_eq_true (by kernel_rfl)) k2 bel lt2) trodAll_mk0))), rfl, bel.frame _, fun h => by cases h⟩

theorem maglevFills_row : Rows.MaglevFillsSaid :=
  OpenClaim.holds_of_wide 3 Tryz.f3 rfl rfl rfl rfl rfl rfl rfl ⟨rfl, rfl, rfl, rfl, rfl⟩ rfl rfl rfl rfl rfl (by kernel_rfl) Tryz.func3 (by kernel_rfl)
    (of_decide_eq_true (by kernel_rfl)) (by unfold Func.isWrapper; first | (rw [if_pos (by decide +kernel)]; kernel_rfl) | (rw [if_neg (by decide +kernel)]; exact ⟨rfl, rfl⟩))
    (fun os started H enc _ => maglevFills_lifted os started H enc)

theorem maglevFills_holds : Rows.MaglevFillsCardSaid :=
  Claim7.holds_tied_plain_at .later [] Rows.maglevFillsCard.laidKinds true Rows.maglevFillsCard.stood.harness true
    maglevFills_row (fun _ h => by cases h) (by kernel_rfl) (fun _ h => by cases h) maglevFills_row_tie rfl ⟨rfl, rfl⟩ (by kernel_rfl) rfl
    (fun f fn hf hfn => by
      obtain rfl : f = 3 := Option.some.inj ((show Tryz.prog.funcNamed "linkboy/linkboylaw10.MaglevFills" = some 3 by kernel_rfl).symm.trans hf) |>.symm
      obtain rfl : fn = Tryz.f3 := (Option.some.inj (Tryz.func3.symm.trans hfn)).symm
      exact ⟨by kernel_rfl, fun j t ht => by
        rw [Tryz.params3] at ht
        have hm : t ∈ [22, 3, 23] := by simpa using Array.mem_of_getElem? ht
        have hall : ([22, 3, 23].all fun u => !Tryz.prog.wantsStandIn u) = true := by kernel_rfl
        exact (show Tryz.prog.wantsStandIn t = false by simpa using List.all_eq_true.1 hall t hm)⟩)
    (by kernel_rfl)
#print axioms maglevFills_holds
end Go.Proofs.YtahconkjhneogaaGreatDoor
