/-
  'linkboylaw01.OctetsWrites' returns true for every input, and leaves its arguments as they were: the row, and its tied card.
  Conditions: the listed package-level variables (package api's errors) read as the program's text lays them, which the card ties.
-/
import Derived.Test.YtapehpcipnbpgaaDoorLaid
import Derived.Test.YtapehpcipnbpgaaDoorWrites
import Derived.Test.YtapehpcipnbpgaaDoorTie
import Derived.Test.YtapehpcipnbpgaaDoorCards
import Derived.ProofKit
import Derived.LaidMore
import Derived.OpenShut
import Derived.ShutString
import Derived.Stop.Joined
import Derived.SevenTiedAt
namespace Go.Proofs.YtapehpcipnbpgaaDoor
open Go.ChangeShapes Go.WideShapes Go.ChangeAt Go.WideMaps Go.WideElems Go.RowKit
open Go.ChangeMaps (open_string shut_string)

def names18 : List (String × List UInt8) := [("linkboy/api.ErrRange", [97, 32, 110, 117, 109, 98, 101, 114, 32, 105, 115, 32, 111, 117, 116, 32, 111, 102, 32, 105, 116, 115, 32, 114, 97, 110, 103, 101]), ("linkboy/api.ErrShort", [115, 111, 109, 101, 116, 104, 105, 110, 103, 32, 105, 115, 32, 109, 105, 115, 115, 105, 110, 103, 32, 97, 116, 32, 116, 104, 101, 32, 101, 110, 100]), ("linkboy/api.ErrLong", [116, 104, 101, 114, 101, 32, 105, 115, 32, 109, 111, 114, 101, 32, 116, 104, 97, 110, 32, 109, 97, 121, 32, 98, 101]), ("linkboy/api.ErrForm", [105, 116, 32, 105, 115, 32, 110, 111, 116, 32, 111, 102, 32, 105, 116, 115, 32, 102, 111, 114, 109]), ("linkboy/api.ErrSum", [116, 104, 101, 32, 99, 104, 101, 99, 107, 115, 117, 109, 32, 105, 115, 32, 110, 111, 116, 32, 114, 105, 103, 104, 116]), ("linkboy/api.ErrName", [105, 116, 32, 105, 115, 32, 110, 111, 32, 114, 105, 103, 104, 116, 32, 110, 97, 109, 101]), ("linkboy/api.ErrKind", [105, 116, 32, 105, 115, 32, 111, 102, 32, 97, 110, 111, 116, 104, 101, 114, 32, 107, 105, 110, 100]), ("linkboy/api.ErrAddress", [105, 116, 32, 105, 115, 32, 110, 111, 32, 114, 105, 103, 104, 116, 32, 97, 100, 100, 114, 101, 115, 115]), ("linkboy/api.ErrVersion", [116, 104, 101, 32, 118, 101, 114, 115, 105, 111, 110, 32, 105, 115, 32, 110, 111, 116, 32, 111, 110, 101]), ("linkboy/api.ErrStale", [105, 116, 32, 105, 115, 32, 111, 108, 100, 101, 114, 32, 116, 104, 97, 110, 32, 119, 104, 97, 116, 32, 105, 115, 32, 107, 110, 111, 119, 110]), ("linkboy/api.ErrNone", [116, 104, 101, 114, 101, 32, 105, 115, 32, 110, 111, 110, 101]), ("linkboy/api.ErrDup", [105, 116, 32, 105, 115, 32, 116, 104, 101, 114, 101, 32, 97, 108, 114, 101, 97, 100, 121]), ("linkboy/api.ErrFull", [116, 104, 101, 114, 101, 32, 97, 114, 101, 32, 97, 115, 32, 109, 97, 110, 121, 32, 97, 115, 32, 109, 97, 121, 32, 98, 101]), ("linkboy/api.ErrFail", [105, 116, 32, 102, 97, 105, 108, 101, 100, 32, 111, 110, 32, 116, 104, 101, 32, 119, 97, 121]), ("linkboy/api.ErrState", [105, 116, 32, 99, 97, 110, 32, 110, 111, 116, 32, 98, 101, 32, 100, 111, 110, 101, 32, 105, 110, 32, 116, 104, 105, 115, 32, 115, 116, 97, 116, 101]), ("linkboy/api.ErrDown", [105, 116, 32, 105, 115, 32, 100, 111, 119, 110]), ("linkboy/api.ErrProto", [105, 116, 32, 105, 115, 32, 111, 102, 32, 97, 110, 111, 116, 104, 101, 114, 32, 112, 114, 111, 116, 111, 99, 111, 108]), ("linkboy/api.ErrIndex", [97, 32, 112, 108, 97, 99, 101, 32, 105, 115, 32, 110, 111, 116, 32, 105, 110, 32, 116, 104, 101, 32, 108, 105, 115, 116])]
theorem laid18 : Rows.octetsWritesRow.laid = names18.map sentinel := rfl
theorem globals18 : ((List.range 18).all fun i => (names18[i]?.map fun x => Tryd.prog.globalNamed x.1 == some i) == some true && ((Tryd.prog.globals[i]?).map (·.type) == some 25)) = true := by kernel_rfl
theorem named18 : ∀ i x, names18[i]? = some x → Tryd.prog.globalNamed x.1 = some i ∧ (Tryd.prog.globals[i]?).map (·.type) = some 25 := by
  intro i x hx
  have hi : i < 18 := (List.getElem?_eq_some_iff.1 hx).1
  have := List.all_eq_true.1 globals18 i (List.mem_range.2 hi)
  simpa [hx] using this

theorem own : ownKnob Tryd.prog.godebug = none := by kernel_rfl
theorem laidOut : laidOutB Tryd.prog = true := by kernel_rfl

theorem errs18 {W : World} (h : laidMetH Tryd.prog Rows.octetsWritesRow.laid W) : ∃ a, Errs 18 a W := by
  rw [MakeChecks.laidMetH_plain _ _ _ (by kernel_rfl), laid18] at h
  exact errs_of names18 h named18

/-- THE WALK, for every input. -/
theorem writes_any (n s : Int) (t : ByteArray) (a : Nat → Addr) (w : World) (hE : Errs 18 a w) (ht : t.size ≤ maxLen) :
    Calls Tryd.prog 3 #[.int .i64 n, .int .i64 s, .string t] w fun e w' => e = .returned (.bool true) ∧ Below w.heap.size w w' := by
  by_cases h4 : 400 < t.size
  · unfold maxLen at ht
    go_enter Tryd.func3, Tryd.ntmps3
    go_wp2_with fail
    refine (alive_any w).mono ?_
    rintro e w1 ⟨rfl, hb1⟩
    go_wp2
    go_ret
    exact ⟨rfl, hb1⟩
  · have all : ∀ er S c, (∀ w, Errs 18 a w → Calls Tryd.prog 6 #[.int .i64 n, .int .i64 s] w (NumEnd er S w)) → (∀ w, Calls Tryd.prog 7 #[.int .i64 n, .int .i64 s] w (NumEnd (.int .i64 c) S w)) →
        (∀ w, Errs 18 a w → Calls Tryd.prog 8 #[er] w (CodeEnd c w)) → Calls Tryd.prog 3 #[.int .i64 n, .int .i64 s, .string t] w fun e w' => e = .returned (.bool true) ∧ Below w.heap.size w w' := by
      intro er S c hN hR hC
      by_cases h2 : 255 < t.size
      · exact writes_long n s t a w hE (by omega) h2 er S c hN hR hC
      · exact writes_short n s t a w hE (by omega) er S c hN hR hC
    have c0 : ∀ w, Errs 18 a w → Calls Tryd.prog 8 #[.iface 65 (.pointer (some (a 0)))] w (CodeEnd 1 w) := fun w hE => num_err a 0 (by omega) w hE
    by_cases hbad : s < 1 ∨ 8 < s ∨ n < 0 ∨ 4611686018427387904 < n
    · refine all (.iface 65 (.pointer (some (a 0)))) ByteArray.empty 1 (fun w hE => ?_) (fun w => ?_) c0
      · refine (octNum_bad n s w _ (hE.cell 0 (by omega)) hbad).mono ?_
        rintro e w' ⟨rfl, hb⟩
        exact ⟨_, rfl, conv_nil _, hb⟩
      · refine (refNum_bad n s w hbad).mono ?_
        rintro e w' ⟨rfl, rfl⟩
        exact ⟨_, rfl, conv_nil _, Below.refl _ _⟩
    · obtain ⟨m, rfl⟩ : ∃ m : Nat, n = m := ⟨n.toNat, by omega⟩
      obtain ⟨k, rfl⟩ : ∃ k : Nat, s = k := ⟨s.toNat, by omega⟩
      by_cases hw : m / 256 ^ k = 0
      · refine all .nilIface (strOfNums (be m k)) 0 (fun w hE => ?_) (fun w => ?_) (fun w _ => ?_)
        · refine (octNum_good m k w (by omega) (by omega) (by omega) hw).mono ?_
          rintro e w' ⟨rfl, ho, hb⟩
          exact ⟨_, rfl, conv_of_own ho, hb⟩
        · refine (refNum_any m k w (by omega) (by omega) (by omega)).mono ?_
          rintro e w' ⟨_, h2, hb⟩
          obtain ⟨rfl, ho⟩ := h2 hw
          exact ⟨_, rfl, conv_of_own ho, hb⟩
        · refine (num_nil w).mono ?_
          rintro e w' ⟨rfl, rfl⟩
          exact ⟨rfl, Below.refl _ _⟩
      · refine all (.iface 65 (.pointer (some (a 0)))) ByteArray.empty 1 (fun w hE => ?_) (fun w => ?_) c0
        · refine (octNum_wide m k w _ (hE.cell 0 (by omega)) (by omega) (by omega) (by omega) hw).mono ?_
          rintro e w' ⟨rfl, hb⟩
          exact ⟨_, rfl, conv_nil _, hb⟩
        · refine (refNum_any m k w (by omega) (by omega) (by omega)).mono ?_
          rintro e w' ⟨h1, _, hb⟩
          obtain rfl := h1 hw
          exact ⟨_, rfl, conv_nil _, hb⟩

theorem door_met (os : Os) (args : Array Value) : laidMetH Tryd.prog Rows.octetsWritesRow.laid ((World.doorLaid Tryd.prog 400 os).forCall (fun _ _ => 0) ⟨#[], args, []⟩).memory :=
  laidMetH_of_parts3 (fuel := 8) (laidMet_of_run' 8 (by kernel_rfl) (by kernel_rfl)) (by kernel_rfl) (by kernel_rfl)

set_option maxRecDepth 100000 in
theorem lifted (os : Os) (started : os.Started) (H : Type) (enc : TypeId × Value → H) :
    ReturnsInHanded {} Tryd.checked os 3 .any (fun w args => (Rows.octetsWritesSpec.pre enc Tryd.prog Tryd.f3 [] false w args ∧ laidMetH Tryd.prog Rows.octetsWritesRow.laid w) ∧ sizedMet enc Tryd.prog Tryd.f3 (OpenSpec.ofChange Rows.octetsWritesSpec) false w args)
      (Rows.octetsWritesSpec.post enc Tryd.prog Tryd.f3 false true false false) := by
  refine returnsInHanded_of_change_and (C := Tryd.checked) (X := fun w _ => laidMetH Tryd.prog Rows.octetsWritesRow.laid w) (fun _ _ _ hh h => h.of_heap hh) own started (by kernel_rfl) Tryd.func3
    (ChangeSpec.witness_shaped (enc := enc) (C := Tryd.checked) (os := os) (X := fun w _ => laidMetH Tryd.prog Rows.octetsWritesRow.laid w) false (World.doorLaid Tryd.prog 400 os) #[.int .i64 0, .int .i64 0, .string ByteArray.empty] 8 rfl (World.shaped_of_RefB (by kernel_rfl) (by kernel_rfl)) (by kernel_rfl) (by kernel_rfl) (by kernel_rfl) (door_met os _)) ?_
  intro W base args ds gs before hval0 hW _ _ hL _
  have hval : ∀ (j : Nat) t v, Tryd.f3.params[j]? = some t → args[j]? = some v → Value.okWide Tryd.prog W .any base t v := hval0
  have hW' := hW
  obtain ⟨p, q, hA0, hV, rfl, hfz, hnd⟩ := hW
  have hA : DataW.TrodAll enc Tryd.prog W 0 (fun _ => true) true Tryd.f3.params.toList args.toList ds p := hA0
  rw [Tryd.params3] at hA hval
  obtain ⟨v0, vs0, d0, ds0, p0, q0, hargs, rfl, rfl, h0, r0⟩ := trodAll_cons hA
  obtain ⟨v1, vs1, d1, ds1, p1, q1, rfl, rfl, rfl, h1, r1⟩ := trodAll_cons r0
  obtain ⟨v2, vs2, d2, ds2, p2, q2, rfl, rfl, rfl, h2, r2⟩ := trodAll_cons r1
  obtain ⟨rfl, rfl, rfl⟩ := trodAll_nil r2
  obtain rfl : args = #[v0, v1, v2] := by cases args; simp_all
  obtain ⟨rfl, rfl⟩ := trodVars_none hV
  obtain ⟨n, rfl, rfl, rfl, w0⟩ := open_int Tryd.underlying3 (hval 0 3 v0 rfl rfl) h0
  obtain ⟨s, rfl, rfl, rfl, w1⟩ := open_int Tryd.underlying3 (hval 1 3 v1 rfl rfl) h1
  obtain ⟨t, rfl, rfl, rfl, w2⟩ := open_string Tryd.underlying9 (hval 2 9 v2 rfl rfl) h2
  clear hA0 hval0
  obtain ⟨a, hE⟩ := errs18 hL
  refine (writes_any n s t a W hE w2).mono fun e W' ⟨he, bel⟩ => ?_
  subst he
  exact ⟨_, rfl, _, _, _, [], _, [], hW', trodAll_mk1 (shut_bool Tryd.underlying4 _), (trodAll_cons_mk (shut_int Tryd.underlying3 w0) (trodAll_cons_mk (shut_int Tryd.underlying3 w1) (trodAll_cons_mk (shut_string Tryd.underlying9 w2) trodAll_mk0))), rfl, bel.frame _, fun h => by cases h⟩

theorem octetsWrites_row : Rows.OctetsWritesSaid :=
  OpenClaim.holds_of_wide 3 Tryd.f3 rfl rfl rfl rfl rfl rfl rfl ⟨rfl, rfl, rfl, rfl, rfl⟩ rfl rfl rfl rfl rfl (by kernel_rfl) Tryd.func3 (by kernel_rfl)
    (of_decide_eq_true (by kernel_rfl)) (by unfold Func.isWrapper; first | (rw [if_pos (by decide +kernel)]; kernel_rfl) | (rw [if_neg (by decide +kernel)]; exact ⟨rfl, rfl⟩))
    (fun os started H enc _ => lifted os started H enc)

theorem octetsWrites_holds : Rows.OctetsWritesCardSaid :=
  Claim7.holds_tied_plain_at .later [] Rows.octetsWritesCard.laidKinds true Rows.octetsWritesCard.stood.harness true
    octetsWrites_row (fun _ h => by cases h) (by kernel_rfl) (fun _ h => by cases h) octetsWrites_row_tie rfl ⟨rfl, rfl⟩ (by kernel_rfl) rfl
    (fun f fn hf hfn => by
      obtain rfl : f = 3 := Option.some.inj ((show Tryd.prog.funcNamed "linkboy/linkboylaw01.OctetsWrites" = some 3 by kernel_rfl).symm.trans hf) |>.symm
      obtain rfl : fn = Tryd.f3 := (Option.some.inj (Tryd.func3.symm.trans hfn)).symm
      exact ⟨by kernel_rfl, fun j t ht => by
        rw [Tryd.params3] at ht
        have hm : t ∈ [3, 3, 9] := by simpa using Array.mem_of_getElem? ht
        have hall : ([3, 3, 9].all fun u => !Tryd.prog.wantsStandIn u) = true := by kernel_rfl
        exact (show Tryd.prog.wantsStandIn t = false by simpa using List.all_eq_true.1 hall t hm)⟩)
    (by kernel_rfl)
#print axioms octetsWrites_holds
end Go.Proofs.YtapehpcipnbpgaaDoor
