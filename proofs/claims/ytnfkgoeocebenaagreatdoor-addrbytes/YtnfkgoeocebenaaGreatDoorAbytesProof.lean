/-
  'linkboylaw02.AddrBytes' returns true for every input, and leaves its arguments as they were: the row, and its tied card.
  Conditions: the listed package-level variables read as the program's text lays them, which the card ties.
-/
import Derived.Test.YtnfkgoeocebenaaGreatDoorAany
import Derived.Test.YtnfkgoeocebenaaGreatDoorLaid
import Derived.Test.YtnfkgoeocebenaaGreatDoorTie
import Derived.Test.YtnfkgoeocebenaaGreatDoorCards
import Derived.ChangeOld
import Derived.Stop.Joined
import Derived.SevenTiedAt
namespace Go.Proofs.YtnfkgoeocebenaaGreatDoor
open Go.ChangeShapes Go.WideShapes Go.ChangeAt Go.WideMaps Go.WideElems Go.RowKit

theorem laid18s : Rows.addrBytesRow.laid = Rows.addrBytesRow.laid.take 4 ++ (names18.map sentinel ++ Rows.addrBytesRow.laid.drop 22) := rfl

theorem env_abytes {W : World} (hs : W.ShapedOpen Tryz.prog) (h : laidMetH Tryz.prog Rows.addrBytesRow.laid W) : ∃ a, Env (.iface 211 (.pointer (some (a 3)))) W ∧ Errs 18 a W := by
  rw [MakeChecks.laidMetH_plain _ _ _ (by kernel_rfl)] at h
  have h2 := h
  rw [laid18s] at h2
  obtain ⟨a, ha⟩ := errs_of _ _ names18 h2 named18
  obtain ⟨u, p, hE⟩ : ∃ u p, Env (.iface u p) W := by refine env_of_laid hs h ?_ ?_ ?_ ?_ ?_ <;> simp [Rows.addrBytesRow]
  have h3 : W.cell? ⟨0, 0, none⟩ = some (.iface 211 (.pointer (some (a 3)))) := ha.cell 3 (by decide)
  have h4 := hE.form
  rw [h3] at h4
  cases h4
  exact ⟨a, hE, ha⟩

noncomputable def adrz : Value := .agg (adr false (ints [0, 0, 0, 0, 0, 0, 0, 0, 0, 0, 0, 0, 0, 0, 0, 0]))
noncomputable def fourz : Value := .agg (arr .u8 (ints [0, 0, 0, 0]))

theorem okWide_arr {P : Program} {w : World} {r : Reach} {base n : Nat} {t e : TypeId} {v : Value} (ht : P.underlying t = some (.array n e)) (h : Value.okWide P w r base t v) : ∃ cs, v = .agg cs ∧ cs.size = P.cellsOf t := by
  simp only [Value.okWide, ht] at h
  obtain ⟨cs, h1, h2, _⟩ := h
  exact ⟨cs, h1, h2⟩
theorem shut_four {H : Type} {enc : TypeId × Value → H} {W : World} {base : Nat} {sp : Nat → Bool} {held : Bool} {x : List Nat} (hl : x.length = 4) (hb : ∀ n ∈ x, n < 256) : DataW.Trod enc Tryz.prog W base sp held 26 (.agg (arr .u8 (ints x))) (.agg (x.map fun n : Nat => .lit (.int .u8 n))) [] := by
  refine ⟨2, ?_⟩
  have h := shut_bytes4 (enc := enc) (W := W) (base := base) (sp := sp) (held := held) 0 hl hb
  show DataW.trod enc Tryz.prog W base sp held 2 26 (arr .u8 (ints x)).toList = _
  rw [show (arr .u8 (ints x)).toList = x.map fun n : Nat => Value.int .u8 n by simp [arr, ints]]
  exact h

set_option maxRecDepth 100000 in
theorem abytes_lifted (os : Os) (started : os.Started) (H : Type) (enc : TypeId × Value → H) :
    ReturnsInHanded {} Tryz.checked os 3 .any (fun w args => (Rows.addrBytesSpec.pre enc Tryz.prog Tryz.f3 [] false w args ∧ laidMetH Tryz.prog Rows.addrBytesRow.laid w) ∧ sizedMet enc Tryz.prog Tryz.f3 (OpenSpec.ofChange Rows.addrBytesSpec) false w args)
      (Rows.addrBytesSpec.post enc Tryz.prog Tryz.f3 false true false false) := by
  refine returnsInHanded_of_change_both (C := Tryz.checked) (X := fun w _ => laidMetH Tryz.prog Rows.addrBytesRow.laid w) (fun _ _ _ hh h => h.of_heap hh) own started (by kernel_rfl) Tryz.func3
    (ChangeSpec.witness_shaped (enc := enc) (C := Tryz.checked) (os := os) (X := fun w _ => laidMetH Tryz.prog Rows.addrBytesRow.laid w) false (World.laidAll Tryz.prog os Rows.addrBytesRow.laid) #[adrz, .slice none 0 0, fourz] 8 (World.laidAll_os _ _ _)
      (World.shaped_of_ZipB (by kernel_rfl) (by kernel_rfl)) (by kernel_rfl) (by kernel_rfl) (by kernel_rfl)
      (by rw [MakeChecks.laidMetH_plain _ _ _ (by kernel_rfl)]; exact laidMet_laidAll _ (by kernel_rfl) (by kernel_rfl))) ?_
  intro W base args ds gs before hval0 hW hL hS
  have hval : ∀ (j : Nat) t v, Tryz.f3.params[j]? = some t → args[j]? = some v → Value.okWide Tryz.prog W .any base t v := hval0
  have hW' := hW
  obtain ⟨p, q, hA0, hV, rfl, hfz, hnd⟩ := hW
  have hA : DataW.TrodAll enc Tryz.prog W 0 (fun _ => true) true Tryz.f3.params.toList args.toList ds p := hA0
  rw [Tryz.params3] at hA hval
  obtain ⟨v0, vs0, d0, ds0, p0, q0, hargs0, rfl, rfl, h0, r0⟩ := trodAll_cons hA
  obtain ⟨v1, vs1, d1, ds1, p1, q1, hargs1, rfl, rfl, h1, r1⟩ := trodAll_cons r0
  obtain ⟨v2, vs2, d2, ds2, p2, q2, hargs2, rfl, rfl, h2, r2⟩ := trodAll_cons r1
  obtain ⟨rfl, rfl, rfl⟩ := trodAll_nil r2
  obtain rfl : args = #[v0, v1, v2] := by cases args; simp_all
  obtain ⟨rfl, rfl⟩ := trodVars_none hV
  obtain ⟨s1, x1, rfl, rfl, rfl, l1, b1⟩ := open_adr (hval 0 24 v0 rfl rfl) h0
  obtain ⟨F, rfl, rfl, rfl, hF, hFb⟩ : ∃ F : List Nat, v2 = .agg (arr .u8 (ints F)) ∧ d2 = .agg (F.map fun n : Nat => .lit (.int .u8 n)) ∧ p2 = [] ∧ F.length = 4 ∧ ∀ n ∈ F, n < 256 := by
    obtain ⟨cs, rfl, _⟩ := okWide_arr Tryz.underlying26 (hval 2 26 v2 rfl rfl)
    obtain ⟨fuel, hf⟩ := h2
    obtain ⟨l, hl, hb, e1, e2⟩ := open_bytes4 hf
    refine ⟨l, ?_, by simpa using congrArg Prod.fst e2, by simpa using congrArg Prod.snd e2, hl, hb⟩
    congr 1
    apply Array.toList_inj.1
    simp only [Value.cells] at e1
    rw [e1]
    simp [arr, ints]
  obtain ⟨a1, len1, cap1, rfl⟩ := okWide_slice Tryz.underlying25 (hval 1 25 v1 rfl rfl)
  have k1 := h1
  have lt1 : ∀ x ∈ p1, x.block < W.heap.size := by obtain ⟨m, hm⟩ := k1; exact DataW.trod_lt m _ _ _ hm
  obtain ⟨bs, rfl, hcap, hn0, hby, hrow⟩ : ∃ bs : List Int, len1 = bs.length ∧ bs.length ≤ cap1 ∧ (a1 = none → cap1 = 0) ∧ (∀ x ∈ bs, 0 ≤ x ∧ x ≤ 255) ∧ ∀ j, j < bs.length → ∃ g o, a1 = some ⟨g, o, none⟩ ∧ W.cell? ⟨g, o + j, none⟩ = some (.int .u8 (bs.getD j 0)) := by
    obtain ⟨fuel, hf⟩ := h1
    rcases open_ints Tryz.underlying25 Tryz.underlying5 (by kernel_rfl) hf with ⟨hcs, _⟩ | ⟨x, ln, c, zs, hcs, _, hl, hm, hz, _, hcell, hwz⟩
    · simp [Value.cells] at hcs
      obtain ⟨rfl, rfl, rfl⟩ := hcs
      exact ⟨[], rfl, Nat.le_refl _, fun _ => rfl, (fun x hx => absurd hx (by simp)), (fun j hj => absurd hj (by simp))⟩
    · simp [Value.cells] at hcs
      obtain ⟨rfl, rfl, rfl⟩ := hcs
      simp only [if_true] at hz
      refine ⟨zs.take len1, by rw [List.length_take]; omega, by rw [List.length_take]; omega, (fun h => by cases h), fun z hz' => bounds_u8 (hwz z (List.mem_of_mem_take hz')), fun j hj => ?_⟩
      rw [List.length_take] at hj
      obtain ⟨b, off, spot⟩ := x
      have hspot : spot = none := by simpa [Addr.add] using World.cell?_spot (hcell 0 (by omega))
      subst hspot
      have hc := hcell j (by omega)
      rw [add_plain] at hc
      refine ⟨b, off, rfl, ?_⟩
      rw [hc]
      simp [List.getD, show j < len1 by omega]
  clear hA0 hval0
  obtain ⟨a, hE, hA'⟩ := env_abytes hS hL
  refine (addrBytes_any s1 x1 l1 a1 cap1 bs hcap hn0 hby F hF a W hE hA' hrow).mono fun e W' ⟨he, bel⟩ => ?_
  subst he
  exact ⟨_, rfl, _, _, _, [], _, [], hW', trodAll_mk1 (shut_bool Tryz.underlying4 _), (trodAll_cons_mk (shut_adr l1 b1) (trodAll_cons_mk (Below.trod laidOut (by kernel_rfl) (of_decide_eq_true (by kernel_rfl)) k1 bel lt1) (trodAll_cons_mk (shut_four hF hFb) trodAll_mk0))), rfl, bel.frame _, fun h => by cases h⟩

theorem addrBytes_row : Rows.AddrBytesSaid :=
  OpenClaim.holds_of_wide 3 Tryz.f3 rfl rfl rfl rfl rfl rfl rfl ⟨rfl, rfl, rfl, rfl, rfl⟩ rfl rfl rfl rfl rfl (by kernel_rfl) Tryz.func3 (by kernel_rfl)
    (of_decide_eq_true (by kernel_rfl)) (by unfold Func.isWrapper; first | (rw [if_pos (by decide +kernel)]; kernel_rfl) | (rw [if_neg (by decide +kernel)]; exact ⟨rfl, rfl⟩))
    (fun os started H enc _ => abytes_lifted os started H enc)

theorem addrBytes_holds : Rows.AddrBytesCardSaid :=
  Claim7.holds_tied_plain_at .later [] Rows.addrBytesCard.laidKinds true Rows.addrBytesCard.stood.harness true
    addrBytes_row (fun _ h => by cases h) (by kernel_rfl) (fun _ h => by cases h) addrBytes_row_tie rfl ⟨rfl, rfl⟩ (by kernel_rfl) rfl
    (fun f fn hf hfn => by
      obtain rfl : f = 3 := Option.some.inj ((show Tryz.prog.funcNamed "linkboy/linkboylaw02.AddrBytes" = some 3 by kernel_rfl).symm.trans hf) |>.symm
      obtain rfl : fn = Tryz.f3 := (Option.some.inj (Tryz.func3.symm.trans hfn)).symm
      exact ⟨by kernel_rfl, fun j t ht => by
        rw [Tryz.params3] at ht
        have hm : t ∈ [24, 25, 26] := by simpa using Array.mem_of_getElem? ht
        have hall : ([24, 25, 26].all fun u => !Tryz.prog.wantsStandIn u) = true := by kernel_rfl
        exact (show Tryz.prog.wantsStandIn t = false by simpa using List.all_eq_true.1 hall t hm)⟩)
    (by kernel_rfl)
#print axioms addrBytes_holds
end Go.Proofs.YtnfkgoeocebenaaGreatDoor
