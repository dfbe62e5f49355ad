/-
  'linkboylaw06.SumsChanged' returns true for every input, and leaves its arguments as they were.
  Conditions: none beyond the given row's own.
-/
import Derived.Test.YtnlhdeffoalhiaaSrow
import Derived.Test.YtnlhdeffoalhiaaSlchd
namespace Go.Proofs.Ytnlhdeffoalhiaa
open Go.ChangeShapes Go.WideShapes Go.ChangeAt Go.WideMaps Go.WideElems Go.RowKit

set_option maxHeartbeats 1000000 in
theorem lchanged_long (at' : Int) (adb adn : Option Addr) (capb capn len m : Nat) (hl : 500 < len ∨ len ≤ 500 ∧ 500 < m) (w : World) : Calls Try.prog 5 #[.slice adb len capb, .slice adn m capn, .int .i64 at'] w fun e w' => e = .returned (.bool true) ∧ Below w.heap.size w w' := by
  have HA := Lib.hid alive_any
  rcases hl with hl | ⟨hl, hl'⟩
  all_goals
    go_enter Try.func5, Try.ntmps5
    go_wp2_with fail
    refine (HA.out _).mono ?_
    rintro e w1 ⟨rfl, hb⟩
    have Hb := Lib.hid hb
    clear hb
    go_wp2
    go_ret
    exact ⟨rfl, Hb.out⟩

theorem lchanged_all (at' : Int) (adb adn : Option Addr) (capb capn : Nat) (bs ns : List Int) (hbs : Byt bs) (hns : Byt ns) (hcb : bs.length ≤ capb) (hcn : ns.length ≤ capn) (w : World) (hIb : Bys w.heap.size w adb bs) (hIn : Bys w.heap.size w adn ns) (hn1 : adb = none → bs.length = 0 ∧ capb = 0) (hn2 : adn = none → ns.length = 0 ∧ capn = 0) :
    Calls Try.prog 5 #[.slice adb bs.length capb, .slice adn ns.length capn, .int .i64 at'] w fun e w' => e = .returned (.bool true) ∧ Below w.heap.size w w' := by
  by_cases h : bs.length ≤ 500
  · by_cases h' : ns.length ≤ 500
    · exact lchanged_short at' adb adn capb capn bs ns hbs hns hcb hcn h h' w hIb hIn hn1 hn2
    · exact lchanged_long at' adb adn capb capn _ _ (.inr ⟨h, by omega⟩) w
  · exact lchanged_long at' adb adn capb capn _ _ (.inl (by omega)) w

set_option maxRecDepth 100000 in
theorem changed_lifted (os : Os) (started : os.Started) (H : Type) (enc : TypeId × Value → H) :
    ReturnsInHanded {} Try.checked os 5 .any (Rows.sumsChangedSpec.pre6 enc Try.prog Try.f5 Rows.sumsChangedRow.domain false) (Rows.sumsChangedSpec.post enc Try.prog Try.f5 false true false false) := by
  refine returnsInHanded_of_change (C := Try.checked) ownS started (by kernel_rfl) Try.func5
    (ChangeSpec.witness6 (enc := enc) (C := Try.checked) false ⟨#[], #[.slice none 0 0, .slice none 0 0, .int .i64 0], []⟩ 8 (by kernel_rfl) (by kernel_rfl) (by kernel_rfl) (by kernel_rfl)) ?_
  intro W base args ds gs before hval0 hW hcnd _
  have hval : ∀ (j : Nat) t v, Try.f5.params[j]? = some t → args[j]? = some v → Value.okWide Try.prog W .any base t v := hval0
  have hW' := hW
  obtain ⟨p, q, hA0, hV, rfl, hfz, hnd⟩ := hW
  have hA : DataW.TrodAll enc Try.prog W 0 (fun _ => true) true Try.f5.params.toList args.toList ds p := hA0
  rw [Try.params5] at hA hval
  obtain ⟨v0, vs0, d0, ds0, p0, q0, hargs, rfl, rfl, h0, r0⟩ := trodAll_cons hA
  obtain ⟨v1, vs1, d1, ds1, p1, q1, rfl, rfl, rfl, h1, r1⟩ := trodAll_cons r0
  obtain ⟨v2, vs2, d2, ds2, p2, q2, rfl, rfl, rfl, h2, r2⟩ := trodAll_cons r1
  obtain ⟨rfl, rfl, rfl⟩ := trodAll_nil r2
  obtain rfl : args = #[v0, v1, v2] := by cases args; simp_all
  obtain ⟨rfl, rfl⟩ := trodVars_none hV
  have k0 := h0
  have k1 := h1
  obtain ⟨ad, cap, bs, rfl, hcap, hn, hby, hI, lt0⟩ := open_bs (hval 0 22 v0 rfl rfl) h0
  obtain ⟨ad1, cap1, ns, rfl, hcap1, hn1, hby1, hI1, lt1⟩ := open_bs (hval 1 22 v1 rfl rfl) h1
  obtain ⟨n, rfl, rfl, rfl, wn⟩ := open_int Try.underlying3 (hval 2 3 v2 rfl rfl) h2
  clear hA0 hval0
  refine (lchanged_all n ad ad1 cap cap1 bs ns hby hby1 hcap hcap1 W hI hI1 hn hn1).mono fun e W' ⟨he, bel⟩ => ?_
  subst he
  exact ⟨_, rfl, _, _, _, [], _, [], hW', trodAll_mk1 (shut_bool Try.underlying4 _), (trodAll_cons_mk (Below.trod laidOutS (by kernel_rfl) (of_decide_eq_true (by kernel_rfl)) k0 bel lt0) (trodAll_cons_mk (Below.trod laidOutS (by kernel_rfl) (of_decide_eq_true (by kernel_rfl)) k1 bel lt1) (trodAll_cons_mk (shut_int Try.underlying3 wn) trodAll_mk0))), rfl, bel.frame _, fun h => by cases h⟩

theorem sumsChanged_holds : Rows.SumsChangedSaid :=
  OpenClaim.holds_of_wide 5 Try.f5 rfl rfl rfl rfl rfl rfl rfl ⟨rfl, rfl, rfl, rfl, rfl⟩ rfl rfl rfl rfl rfl (by kernel_rfl) Try.func5 (by kernel_rfl)
    (of_decide_eq_true (by kernel_rfl)) (by unfold Func.isWrapper; first | (rw [if_pos (by decide +kernel)]; kernel_rfl) | (rw [if_neg (by decide +kernel)]; exact ⟨rfl, rfl⟩))
    (fun os started H enc _ => changed_lifted os started H enc)
#print axioms sumsChanged_holds
end Go.Proofs.Ytnlhdeffoalhiaa
