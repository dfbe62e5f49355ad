/-
  'linkboylaw10.MaglevRaw' returns true for every input, and leaves its arguments as they were: the row, and its tied card.   Conditions: the listed package-level variables read as the program's text lays them, which the card ties.
-/
import Derived.Test.YtahconkjhneogaaGreatDoorGt03
import Derived.Test.YtahconkjhneogaaGreatDoorTie
import Derived.Test.YtahconkjhneogaaGreatDoorCards
import Derived.Stop.Joined
import Derived.SevenTiedAt
namespace Go.Proofs.YtahconkjhneogaaGreatDoor
open Go.ChangeShapes Go.WideShapes Go.ChangeAt Go.WideMaps Go.WideElems Go.RowKit

theorem menv_maglevRaw {W : World} (h : laidMetH Tryz.prog Rows.maglevRawRow.laid W) : ∃ E, MEnv E W := by
  rw [MakeChecks.laidMetH_plain _ _ _ (by kernel_rfl)] at h
  have hr : Lib.VarReads Tryz.prog W "linkboy/hash.factors" (.agg ([18397679294719823053, 14181476777654086739].map fun z => .lit (.int .u64 z))) := Lib.laidMet.reads h (by first | exact List.mem_of_getLast? rfl | (simp only [Rows.maglevRawRow, List.mem_cons]; simp [Rows.laid_linkboy_hash_factors]))
  have c := fun i hi z hz => tab_of_reads (g := 18) (t := 116) (e := 67) (n := 2) (by kernel_rfl) (by kernel_rfl) Tryz.underlying116 Tryz.underlying67 (by kernel_rfl) hr i hi z hz
  have hf : FEnv W := ⟨c 0 (by decide) _ rfl, c 1 (by decide) _ rfl, cell_lt (c 0 (by decide) _ rfl)⟩
  have h1 : Lib.VarReads Tryz.prog W "linkboy/api.ErrRange" Rows.laid_linkboy_api_ErrRange := Lib.laidMet.reads h (by simp [Rows.maglevRawRow])
  have h2 : Lib.VarReads Tryz.prog W "linkboy/api.ErrAddress" Rows.laid_linkboy_api_ErrAddress := Lib.laidMet.reads h (by simp [Rows.maglevRawRow])
  have h3 : Lib.VarReads Tryz.prog W "linkboy/api.ErrNone" Rows.laid_linkboy_api_ErrNone := Lib.laidMet.reads h (by simp [Rows.maglevRawRow])
  have h4 : Lib.VarReads Tryz.prog W "linkboy/api.ErrFull" Rows.laid_linkboy_api_ErrFull := Lib.laidMet.reads h (by simp [Rows.maglevRawRow])
  obtain ⟨u1, p1, k1⟩ := iface_of_reads (g := 0) (t := 29) (by kernel_rfl) (by kernel_rfl) Tryz.underlying29 h1
  obtain ⟨u2, p2, k2⟩ := iface_of_reads (g := 1) (t := 29) (by kernel_rfl) (by kernel_rfl) Tryz.underlying29 h2
  obtain ⟨u3, p3, k3⟩ := iface_of_reads (g := 2) (t := 29) (by kernel_rfl) (by kernel_rfl) Tryz.underlying29 h3
  obtain ⟨u4, p4, k4⟩ := iface_of_reads (g := 3) (t := 29) (by kernel_rfl) (by kernel_rfl) Tryz.underlying29 h4
  exact menv_of hf u1 u2 u3 u4 p1 p2 p3 p4 k1 k2 k3 k4

set_option maxRecDepth 100000 in
theorem maglevRaw_lifted (os : Os) (started : os.Started) (H : Type) (enc : TypeId × Value → H) :
    ReturnsInHanded {} Tryz.checked os 4 .any (fun w args => (Rows.maglevRawSpec.pre enc Tryz.prog Tryz.f4 [] false w args ∧ laidMetH Tryz.prog Rows.maglevRawRow.laid w) ∧ sizedMet enc Tryz.prog Tryz.f4 (OpenSpec.ofChange Rows.maglevRawSpec) false w args)
      (Rows.maglevRawSpec.post enc Tryz.prog Tryz.f4 false true false false) := by
  refine returnsInHanded_of_change_both (C := Tryz.checked) (X := fun w _ => laidMetH Tryz.prog Rows.maglevRawRow.laid w) (fun _ _ _ hh h => h.of_heap hh) own started (by kernel_rfl) Tryz.func4
    (ChangeSpec.witness_shaped (enc := enc) (C := Tryz.checked) (os := os) (X := fun w _ => laidMetH Tryz.prog Rows.maglevRawRow.laid w) false (World.laidAll Tryz.prog os Rows.maglevRawRow.laid) #[.agg #[.int .i64 0, .slice none 0 0, .slice none 0 0], .agg #[.int .i64 0, .slice none 0 0, .slice none 0 0], .slice none 0 0] 8 (World.laidAll_os _ _ _)
      (World.shaped_of_ZipB (by kernel_rfl) (by kernel_rfl)) (by kernel_rfl) (by kernel_rfl) (by kernel_rfl)
      (by rw [MakeChecks.laidMetH_plain _ _ _ (by kernel_rfl)]; exact laidMet_laidAll _ (by kernel_rfl) (by kernel_rfl))) ?_
  intro W base args ds gs before hval0 hW hL hS
  have hval : ∀ (j : Nat) t v, Tryz.f4.params[j]? = some t → args[j]? = some v → Value.okWide Tryz.prog W .any base t v := hval0
  have hW' := hW
  obtain ⟨p, q, hA0, hV, rfl, hfz, hnd⟩ := hW
  have hA : DataW.TrodAll enc Tryz.prog W 0 (fun _ => true) true Tryz.f4.params.toList args.toList ds p := hA0
  rw [Tryz.params4] at hA hval
  obtain ⟨v0, vs0, d0, ds0, p0, q0, hargs, rfl, rfl, h0, r0⟩ := trodAll_cons hA
  obtain ⟨v1, vs1, d1, ds1, p1, q1, rfl, rfl, rfl, h1, r1⟩ := trodAll_cons r0
  obtain ⟨v2, vs2, d2, ds2, p2, q2, rfl, rfl, rfl, h2, r2⟩ := trodAll_cons r1
  obtain ⟨rfl, rfl, rfl⟩ := trodAll_nil r2
  obtain rfl : args = #[v0, v1, v2] := by cases args; simp_all
  obtain ⟨rfl, rfl⟩ := trodVars_none hV
  have k0 := h0
  have lt0 : ∀ x ∈ p0, x.block < W.heap.size := by obtain ⟨m, hm⟩ := k0; exact DataW.trod_lt m _ _ _ hm
  have k1 := h1
  have lt1 : ∀ x ∈ p1, x.block < W.heap.size := by obtain ⟨m, hm⟩ := k1; exact DataW.trod_lt m _ _ _ hm
  have k2 := h2
  have lt2 : ∀ x ∈ p2, x.block < W.heap.size := by obtain ⟨m, hm⟩ := k2; exact DataW.trod_lt m _ _ _ hm
  obtain ⟨m, ab, as1, cb, cl, bs, L, rfl, hm, hcb, hT⟩ := open_table (hval 0 27 v0 rfl rfl) h0
  obtain ⟨m2, ab2, as2, cb2, cl2, bs2, L2, rfl, _, _, hT2⟩ := open_table (hval 1 27 v1 rfl rfl) h1
  obtain ⟨ad2, cap2, ys, rfl, _, hnil2, hby, hI2, _⟩ := open_bs (hval 2 23 v2 rfl rfl) h2
  clear hA0 hval0
  obtain ⟨E, hE⟩ := menv_maglevRaw hL
  refine (raw_any E m m2 hm.1 hm.2 bs bs2 L L2 ys ab ab2 as1 as2 ad2 cb cb2 cl cl2 cap2 hcb hnil2 W hE hT hT2 hby hI2).mono fun e W' ⟨he, bel⟩ => ?_
  subst he
  exact ⟨_, rfl, _, _, _, [], _, [], hW', trodAll_mk1 (shut_bool Tryz.underlying4 _), (trodAll_cons_mk (Below.trod laidOutS (by kernel_rfl) (of_decide_eq_true (by kernel_rfl)) k0 bel lt0) (trodAll_cons_mk (Below.trod laidOutS (by kernel_rfl) (of_decide_eq_true (by kernel_rfl)) k1 bel lt1) (trodAll_cons_mk (Below.trod laidOutS (by kernel_rfl) (of_decide_eq_true (by kernel_rfl)) k2 bel lt2) trodAll_mk0))), rfl, bel.frame _, fun h => by cases h⟩

theorem maglevRaw_row : Rows.MaglevRawSaid :=
  OpenClaim.holds_of_wide 4 Tryz.f4 rfl rfl rfl rfl rfl rfl rfl ⟨rfl, rfl, rfl, rfl, rfl⟩ rfl rfl rfl rfl rfl (by kernel_rfl) Tryz.func4 (by kernel_rfl)
    (of_decide_eq_true (by kernel_rfl)) (by unfold Func.isWrapper; first | (rw [if_pos (by decide +kernel)]; kernel_rfl) | (rw [if_neg (by decide +kernel)]; exact ⟨rfl, rfl⟩))
    (fun os started H enc _ => maglevRaw_lifted os started H enc)

theorem maglevRaw_holds : Rows.MaglevRawCardSaid :=
  Claim7.holds_tied_plain_at .later [] Rows.maglevRawCard.laidKinds true Rows.maglevRawCard.stood.harness true
    maglevRaw_row (fun _ h => by cases h) (by kernel_rfl) (fun _ h => by cases h) maglevRaw_row_tie rfl ⟨rfl, rfl⟩ (by kernel_rfl) rfl
    (fun f fn hf hfn => by
      obtain rfl : f = 4 := Option.some.inj ((show Tryz.prog.funcNamed "linkboy/linkboylaw10.MaglevRaw" = some 4 by kernel_rfl).symm.trans hf) |>.symm
      obtain rfl : fn = Tryz.f4 := (Option.some.inj (Tryz.func4.symm.trans hfn)).symm
      exact ⟨by kernel_rfl, fun j t ht => by
        rw [Tryz.params4] at ht
        have hm : t ∈ [27, 27, 23] := by simpa using Array.mem_of_getElem? ht
        have hall : ([27, 27, 23].all fun u => !Tryz.prog.wantsStandIn u) = true := by kernel_rfl
        exact (show Tryz.prog.wantsStandIn t = false by simpa using List.all_eq_true.1 hall t hm)⟩)
    (by kernel_rfl)
#print axioms maglevRaw_holds
end Go.Proofs.YtahconkjhneogaaGreatDoor
