/-
  'linkboylaw09.StrideOnce' returns true for every input, and leaves its arguments as they were: the row, and its tied card.
  Conditions: the listed package-level variables read as the program's text lays them, which the card ties.
-/
import Derived.Test.YtpijdbajonddlaaDoorVrow
import Derived.Test.YtpijdbajonddlaaDoorVonc
import Derived.Test.YtpijdbajonddlaaDoorTie
import Derived.Test.YtpijdbajonddlaaDoorCards
import Derived.Stop.Joined
import Derived.SevenTiedAt
namespace Go.Proofs.YtpijdbajonddlaaDoor
open Go.ChangeShapes Go.WideShapes Go.ChangeAt Go.WideMaps Go.WideElems Go.RowKit

theorem fenv_strideOnce {W : World} (h : laidMetH Tryd.prog Rows.strideOnceRow.laid W) : FEnv W := by
  rw [MakeChecks.laidMetH_plain _ _ _ (by kernel_rfl)] at h
  have hr : Lib.VarReads Tryd.prog W "linkboy/hash.factors" (.agg ([18397679294719823053, 14181476777654086739].map fun z => .lit (.int .u64 z))) := Lib.laidMet.reads h (by first | exact List.mem_of_getLast? rfl | (simp only [Rows.strideOnceRow, List.mem_cons]; simp [Rows.laid_linkboy_hash_factors]))
  have c := fun i hi z hz => tab_of_reads (g := 18) (t := 67) (e := 48) (n := 2) (by kernel_rfl) (by kernel_rfl) Tryd.underlying67 Tryd.underlying48 (by kernel_rfl) hr i hi z hz
  exact ⟨c 0 (by decide) _ rfl, c 1 (by decide) _ rfl, cell_lt (c 0 (by decide) _ rfl)⟩

theorem ienv_strideOnce {W : World} (h : laidMetH Tryd.prog Rows.strideOnceRow.laid W) : (∃ u p, W.cell? ⟨0, 0, none⟩ = some (.iface u p)) ∧ ∃ u p, W.cell? ⟨10, 0, none⟩ = some (.iface u p) := by
  rw [MakeChecks.laidMetH_plain _ _ _ (by kernel_rfl)] at h
  have h1 : Lib.VarReads Tryd.prog W "linkboy/api.ErrRange" Rows.laid_linkboy_api_ErrRange := Lib.laidMet.reads h (List.mem_cons_self ..)
  have h2 : Lib.VarReads Tryd.prog W "linkboy/api.ErrNone" Rows.laid_linkboy_api_ErrNone := Lib.laidMet.reads h (List.mem_cons_of_mem _ (List.mem_cons_self ..))
  exact ⟨iface_of_reads (g := 0) (t := 27) (by kernel_rfl) (by kernel_rfl) Tryd.underlying27 h1, iface_of_reads (g := 10) (t := 27) (by kernel_rfl) (by kernel_rfl) Tryd.underlying27 h2⟩

set_option maxRecDepth 100000 in
theorem strideOnce_lifted (os : Os) (started : os.Started) (H : Type) (enc : TypeId × Value → H) :
    ReturnsInHanded {} Tryd.checked os 5 .any (fun w args => (Rows.strideOnceSpec.pre enc Tryd.prog Tryd.f5 [] false w args ∧ laidMetH Tryd.prog Rows.strideOnceRow.laid w) ∧ sizedMet enc Tryd.prog Tryd.f5 (OpenSpec.ofChange Rows.strideOnceSpec) false w args)
      (Rows.strideOnceSpec.post enc Tryd.prog Tryd.f5 false true false false) := by
  refine returnsInHanded_of_change_both (C := Tryd.checked) (X := fun w _ => laidMetH Tryd.prog Rows.strideOnceRow.laid w) (fun _ _ _ hh h => h.of_heap hh) own started (by kernel_rfl) Tryd.func5
    (ChangeSpec.witness_shaped (enc := enc) (C := Tryd.checked) (os := os) (X := fun w _ => laidMetH Tryd.prog Rows.strideOnceRow.laid w) false (World.laidAll Tryd.prog os Rows.strideOnceRow.laid) #[.slice none 0 0, .int .i64 0] 8 (World.laidAll_os _ _ _)
      (World.shaped_of_ZipB (by kernel_rfl) (by kernel_rfl)) (by kernel_rfl) (by kernel_rfl) (by kernel_rfl)
      (by rw [MakeChecks.laidMetH_plain _ _ _ (by kernel_rfl)]; exact laidMet_laidAll _ (by kernel_rfl) (by kernel_rfl))) ?_
  intro W base args ds gs before hval0 hW hL hS
  have hval : ∀ (j : Nat) t v, Tryd.f5.params[j]? = some t → args[j]? = some v → Value.okWide Tryd.prog W .any base t v := hval0
  have hW' := hW
  obtain ⟨p, q, hA0, hV, rfl, hfz, hnd⟩ := hW
  have hA : DataW.TrodAll enc Tryd.prog W 0 (fun _ => true) true Tryd.f5.params.toList args.toList ds p := hA0
  rw [Tryd.params5] at hA hval
  obtain ⟨v0, vs0, d0, ds0, p0, q0, hargs, rfl, rfl, h0, r0⟩ := trodAll_cons hA
  obtain ⟨v1, vs1, d1, ds1, p1, q1, rfl, rfl, rfl, h1, r1⟩ := trodAll_cons r0
  obtain ⟨rfl, rfl, rfl⟩ := trodAll_nil r1
  obtain rfl : args = #[v0, v1] := by cases args; simp_all
  obtain ⟨rfl, rfl⟩ := trodVars_none hV
  have k0 := h0
  obtain ⟨ad, cap, bs, rfl, hcap, hn, hby, hI, lt0⟩ := open_bs (hval 0 22 v0 rfl rfl) h0
  obtain ⟨m, rfl, rfl, rfl, wm⟩ := open_int Tryd.underlying3 (hval 1 3 v1 rfl rfl) h1
  clear hA0 hval0
  obtain ⟨⟨u1, w1, hE1⟩, u2, w2, hE2⟩ := ienv_strideOnce hL
  refine (lonce_any m ad cap bs hby W u1 u2 w1 w2 hE1 hE2 (fenv_strideOnce hL) hI).mono fun e W' ⟨he, bel⟩ => ?_
  subst he
  exact ⟨_, rfl, _, _, _, [], _, [], hW', trodAll_mk1 (shut_bool Tryd.underlying4 _), (trodAll_cons_mk (Below.trod laidOutS (by kernel_rfl) (of_decide_eq_true (by kernel_rfl)) k0 bel lt0) (trodAll_cons_mk (shut_int Tryd.underlying3 wm) trodAll_mk0)), rfl, bel.frame _, fun h => by cases h⟩

theorem strideOnce_row : Rows.StrideOnceSaid :=
  OpenClaim.holds_of_wide 5 Tryd.f5 rfl rfl rfl rfl rfl rfl rfl ⟨rfl, rfl, rfl, rfl, rfl⟩ rfl rfl rfl rfl rfl (by kernel_rfl) Tryd.func5 (by kernel_rfl)
    (of_decide_eq_true (by kernel_rfl)) (by unfold Func.isWrapper; first | (rw [if_pos (by decide +kernel)]; kernel_rfl) | (rw [if_neg (by decide +kernel)]; exact ⟨rfl, rfl⟩))
    (fun os started H enc _ => strideOnce_lifted os started H enc)

theorem strideOnce_holds : Rows.StrideOnceCardSaid :=
  Claim7.holds_tied_plain_at .later [] Rows.strideOnceCard.laidKinds true Rows.strideOnceCard.stood.harness true
    strideOnce_row (fun _ h => by cases h) (by kernel_rfl) (fun _ h => by cases h) strideOnce_row_tie rfl ⟨rfl, rfl⟩ (by kernel_rfl) rfl
    (fun f fn hf hfn => by
      obtain rfl : f = 5 := Option.some.inj ((show Tryd.prog.funcNamed "linkboy/linkboylaw09.StrideOnce" = some 5 by kernel_rfl).symm.trans hf) |>.symm
      obtain rfl : fn = Tryd.f5 := (Option.some.inj (Tryd.func5.symm.trans hfn)).symm
      exact ⟨by kernel_rfl, fun j t ht => by
        rw [Tryd.params5] at ht
        have hm : t ∈ [22, 3] := by simpa using Array.mem_of_getElem? ht
        have hall : ([22, 3].all fun u => !Tryd.prog.wantsStandIn u) = true := by kernel_rfl
        exact (show Tryd.prog.wantsStandIn t = false by simpa using List.all_eq_true.1 hall t hm)⟩)
    (by kernel_rfl)
#print axioms strideOnce_holds
end Go.Proofs.YtpijdbajonddlaaDoor
