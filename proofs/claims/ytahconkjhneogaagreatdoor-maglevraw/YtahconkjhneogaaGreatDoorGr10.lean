/-
  The document's Fill: its errors. · The document's Fill: the table. · The document's Fill, whatever it is given. · The document's place of a tuple. · The law MaglevMoves. · maglev.Right. · Table.Of: whose a tuple is. · What a filling that ends with a table tells of it: it is right; whose a tuple is. · The law's comparison of two rows of points. · append of points, in a region that doesn't draw. · What the rows of layer 7 share: a listed table of numbers; bytes as an argument; the builder with both the listed variables and the world's shape. · What the rows of layer 9 share: a stride as an argument, taken apart and put together; what a listed error's variable holds. · What the rows of layer 10 ask: a list of points as an argument, taken apart; what is listed.
-/
import Derived.Test.YtahconkjhneogaaGreatDoorGr09
import Derived.OwnWalk
import Derived.Test.YtahconkjhneogaaGreatDoorRows
import Derived.Test.YtahconkjhneogaaGreatDoorChecked
import Derived.ProofKit
import Derived.OpenShut
import Derived.HandedShaped
import Derived.LaidMore
import Derived.Lay
import Derived.Lib.LaidU8
import Derived.Shelf.Vars
import Derived.ChangeOld
import Derived.Lib.SmallJoins
import Derived.Stop.Joined
namespace Go.Proofs.YtahconkjhneogaaGreatDoor
open Go.RowKit Go.Shelf Go.Lib Go.Sort

set_option linter.unusedVariables false in
set_option linter.unusedSimpArgs false in
set_option maxRecDepth 100000 in
set_option maxHeartbeats 8000000 in
theorem rfill1 (ad : Option Addr) (cap : Nat) (xs : List PS) (hcap : xs.length ≤ cap) (hm : xs.length ≤ 1000) (m : Int) (hs : sizedB m = false) (w : World) (hI : Elems encP 18 w.heap.size w ad xs) :
    Calls Tryz.prog 7 #[.slice ad xs.length cap, .int .i64 m] w (RFillEnd xs m w) := by
  have hz : fillE xs m = 1 := by unfold fillE; rw [if_pos hs]
  have HF : Hid (RFillEnd xs m w (.returned (.tuple #[.slice none 0 0, .slice none 0 0, .int .i64 1])) w) := hid ⟨Below.refl _ _, .inl (by rw [hz]; exact ⟨by decide, rfl⟩)⟩
  have HSz := hid (fun W => hs ▸ rsized_any m W)
  clear hcap hm hs hI hz
  go_enter Tryz.func7, Tryz.ntmps7
  go_wp2_with fail
  refine (HSz.out _).mono ?_
  rintro e w1 ⟨rfl, hw⟩
  rw [← hw]
  clear hw HSz
  go_wp2
  go_ret3
  exact HF.out

set_option linter.unusedVariables false in
set_option linter.unusedSimpArgs false in
set_option maxRecDepth 100000 in
set_option maxHeartbeats 8000000 in
theorem rfill8 (ad : Option Addr) (cap : Nat) (xs : List PS) (hcap : xs.length ≤ cap) (hm : xs.length ≤ 1000) (m : Int) (hs : sizedB m = true) (hno : anyNo xs = true) (w : World) (hI : Elems encP 18 w.heap.size w ad xs) :
    Calls Tryz.prog 7 #[.slice ad xs.length cap, .int .i64 m] w (RFillEnd xs m w) := by
  have hz : fillE xs m = 8 := by unfold fillE; rw [if_neg (by rw [hs]; decide), if_pos hno]
  have HF : Hid (∀ W, Below w.heap.size w W → RFillEnd xs m w (.returned (.tuple #[.slice none 0 0, .slice none 0 0, .int .i64 8])) W) := hid fun W hb => ⟨hb, .inl (by rw [hz]; exact ⟨by decide, rfl⟩)⟩
  obtain ⟨n0, hn0⟩ : ∃ n0, n0 = xs.length := ⟨_, rfl⟩
  rw [← hn0] at hcap hm ⊢
  have Hn := hid hn0
  have HI := hid hI
  have HSz := hid (fun W => hs ▸ rsized_any m W)
  have HSo : Hid (∀ W, Below w.heap.size w W → Calls Tryz.prog 26 #[.slice ad n0 cap] W (CollEnd (psorted xs) encP W)) := hid (fun W hb => by
    have h := rsort_any ad cap xs (by omega) (by omega) W ((hI.below hb).mono hb.size)
    rwa [← hn0] at h)
  have HN : Hid (¬ ∀ j (hj : j < xs.length), isPt xs[j] = true) := hid (fun h => by
    unfold anyNo at hno
    rw [List.any_eq_true] at hno
    obtain ⟨c, hc, h2⟩ := hno
    obtain ⟨j, hj, rfl⟩ := List.getElem_of_mem hc
    rw [h j hj] at h2
    cases h2)
  clear hs hno hI hn0 hz HSo
  go_enter Tryz.func7, Tryz.ntmps7
  go_wp2_with fail
  refine (HSz.out _).mono ?_
  rintro e w1 ⟨rfl, hw⟩
  rw [← hw]
  clear hw HSz
  go_wp2
  go_loopg [27] n0 (fun g s27 wr => ∃ p : Nat, s27 = .int .i64 (p : Int) ∧ p ≤ n0 ∧ n0 - p ≤ g ∧ Hid (Below w.heap.size w wr) ∧ Hid (∀ j (hj : j < xs.length), j < p → isPt xs[j] = true))
  case atStart => exact ⟨0, rfl, by omega, by omega, hid (Below.refl _ _), hid (fun j _ h => by omega)⟩
  case round =>
    obtain ⟨p, rfl, hp, hgp, HB, HQ⟩ := hrel
    by_cases hlt : p < n0
    · have hpx : p < xs.length := by have := Hn.out; omega
      obtain ⟨g0, o0, rfl, hg0, hr0⟩ := HI.out p hpx
      obtain ⟨x, hx⟩ : ∃ x, x = xs[p] := ⟨_, rfl⟩
      have HX : Hid (wr.rangeAt g0 (o0 + p * 18) (encPL x)) := hid (hx ▸ rangeAt_below HB.out hg0 hr0)
      obtain ⟨V, hV⟩ : ∃ V, V = wr.alloc (.cells (encP x) 41) := ⟨_, rfl⟩
      have HV := hid hV.symm
      have HBV : Hid (Below w.heap.size w V) := hid (hV ▸ HB.out.alloc HB.out.size _)
      have HbV : Hid (Below wr.heap.size wr V) := hid (hV ▸ (Below.refl _ _).alloc (Nat.le_refl _) _)
      have HKV : Hid (Blk V wr.heap.size 41 (encP x)) := hid (hV ▸ Blk.new wr _ _)
      have HPt := hid (rppt_any x V)
      have HQ2 : Hid (isPt x = true → ∀ j (hj : j < xs.length), j < p + 1 → isPt xs[j] = true) := hid (fun h j hj h2 => by
        by_cases e : j = p
        · subst e; rw [← hx]; exact h
        · exact HQ.out j hj (by omega))
      clear hx hr0 hV HQ
      by_cases hP : isPt x = true
      · rw [hP] at HPt
        have HQ3 := hid (HQ2.out hP)
        clear hP HQ2
        go_wp2_with (first
          | ((show wpList _ _ _ (⟨some 30, _, _, _, _, _⟩ :: _) _ _); go_must (refine wpl_loadP (.tmp 29) rfl g0 (o0 + p * 18) rfl x HX.out rfl ?_))
          | ((show wpList _ _ _ (⟨none, _, _, _, _, _⟩ :: _) _ _); go_must (refine wpl_storeN (.tmp 8) (.tmp 30) rfl _ rfl rfl x rfl rfl ?_; rw [HV.out]))
          | ((show wpList _ _ _ (⟨some 31, _, _, _, _, _⟩ :: _) _ _); go_must (refine wpl_loadB (.tmp 8) rfl _ rfl x HKV.out rfl ?_)))
        refine HPt.out.mono ?_
        rintro e w2 ⟨rfl, hb⟩
        have HB2 : Hid (Below w.heap.size w w2) := hid (bel2 HBV.out hb)
        clear hb HPt HX HKV HBV HbV HB HV
        go_wp2
        go_roundg (n0 - (p + 1))
        case measure => omega
        case rel => exact ⟨p + 1, by go_num, by omega, Nat.le_refl _, HB2, HQ3⟩
      · have hP2 : isPt x = false := by simpa using hP
        rw [hP2] at HPt
        clear hP hP2 HQ2
        go_wp2_with (first
          | ((show wpList _ _ _ (⟨some 30, _, _, _, _, _⟩ :: _) _ _); go_must (refine wpl_loadP (.tmp 29) rfl g0 (o0 + p * 18) rfl x HX.out rfl ?_))
          | ((show wpList _ _ _ (⟨none, _, _, _, _, _⟩ :: _) _ _); go_must (refine wpl_storeN (.tmp 8) (.tmp 30) rfl _ rfl rfl x rfl rfl ?_; rw [HV.out]))
          | ((show wpList _ _ _ (⟨some 31, _, _, _, _, _⟩ :: _) _ _); go_must (refine wpl_loadB (.tmp 8) rfl _ rfl x HKV.out rfl ?_)))
        refine HPt.out.mono ?_
        rintro e w2 ⟨rfl, hb⟩
        have HB2 : Hid (Below w.heap.size w w2) := hid (bel2 HBV.out hb)
        clear hb HPt HX HKV HBV HbV HB HV
        go_wp2
        go_ret3
        exact HF.out _ HB2.out
    · exact absurd (fun j hj => HQ.out j hj (by have := Hn.out; omega)) HN.out

set_option linter.unusedVariables false in
set_option linter.unusedSimpArgs false in
set_option maxRecDepth 100000 in
set_option maxHeartbeats 8000000 in
theorem rfill11 (ad : Option Addr) (cap : Nat) (xs : List PS) (hcap : xs.length ≤ cap) (hm : xs.length ≤ 1000) (m : Int) (hs : sizedB m = true) (hno : anyNo xs = false) (h0 : (psorted xs).length = 0) (w : World) (hI : Elems encP 18 w.heap.size w ad xs) :
    Calls Tryz.prog 7 #[.slice ad xs.length cap, .int .i64 m] w (RFillEnd xs m w) := by
  have hz : fillE xs m = 11 := by unfold fillE; rw [if_neg (by rw [hs]; decide), if_neg (by rw [hno]; decide), if_pos h0]
  have HF : Hid (∀ W, Below w.heap.size w W → RFillEnd xs m w (.returned (.tuple #[.slice none 0 0, .slice none 0 0, .int .i64 11])) W) := hid fun W hb => ⟨hb, .inl (by rw [hz]; exact ⟨by decide, rfl⟩)⟩
  have HG : Hid (∀ j (hj : j < xs.length), isPt xs[j] = true) := hid (fun j hj => by
    have h := hno
    unfold anyNo at h
    rw [List.any_eq_false] at h
    simpa using h xs[j] (List.getElem_mem hj))
  obtain ⟨n0, hn0⟩ : ∃ n0, n0 = xs.length := ⟨_, rfl⟩
  rw [← hn0] at hcap hm ⊢
  have Hn := hid hn0
  have HI := hid hI
  have HSz := hid (fun W => hs ▸ rsized_any m W)
  have HSo : Hid (∀ W, Below w.heap.size w W → Calls Tryz.prog 26 #[.slice ad n0 cap] W (CollEnd (psorted xs) encP W)) := hid (fun W hb => by
    have h := rsort_any ad cap xs (by omega) (by omega) W ((hI.below hb).mono hb.size)
    rwa [← hn0] at h)
  clear hs hno hI hn0 hz
  go_enter Tryz.func7, Tryz.ntmps7
  go_wp2_with fail
  refine (HSz.out _).mono ?_
  rintro e w1 ⟨rfl, hw⟩
  rw [← hw]
  clear hw HSz
  go_wp2
  go_loopg [27] n0 (fun g s27 wr => ∃ p : Nat, s27 = .int .i64 (p : Int) ∧ p ≤ n0 ∧ n0 - p ≤ g ∧ Hid (Below w.heap.size w wr))
  case atStart => exact ⟨0, rfl, by omega, by omega, hid (Below.refl _ _)⟩
  case round =>
    obtain ⟨p, rfl, hp, hgp, HB⟩ := hrel
    by_cases hlt : p < n0
    · have hpx : p < xs.length := by have := Hn.out; omega
      obtain ⟨g0, o0, rfl, hg0, hr0⟩ := HI.out p hpx
      obtain ⟨x, hx⟩ : ∃ x, x = xs[p] := ⟨_, rfl⟩
      have HX : Hid (wr.rangeAt g0 (o0 + p * 18) (encPL x)) := hid (hx ▸ rangeAt_below HB.out hg0 hr0)
      obtain ⟨V, hV⟩ : ∃ V, V = wr.alloc (.cells (encP x) 41) := ⟨_, rfl⟩
      have HV := hid hV.symm
      have HBV : Hid (Below w.heap.size w V) := hid (hV ▸ HB.out.alloc HB.out.size _)
      have HbV : Hid (Below wr.heap.size wr V) := hid (hV ▸ (Below.refl _ _).alloc (Nat.le_refl _) _)
      have HKV : Hid (Blk V wr.heap.size 41 (encP x)) := hid (hV ▸ Blk.new wr _ _)
      have HPt := hid (rppt_any x V)
      have hP : isPt x = true := by rw [hx]; exact HG.out p hpx
      rw [hP] at HPt
      clear hx hr0 hV hP
      go_wp2_with (first
        | ((show wpList _ _ _ (⟨some 30, _, _, _, _, _⟩ :: _) _ _); go_must (refine wpl_loadP (.tmp 29) rfl g0 (o0 + p * 18) rfl x HX.out rfl ?_))
        | ((show wpList _ _ _ (⟨none, _, _, _, _, _⟩ :: _) _ _); go_must (refine wpl_storeN (.tmp 8) (.tmp 30) rfl _ rfl rfl x rfl rfl ?_; rw [HV.out]))
        | ((show wpList _ _ _ (⟨some 31, _, _, _, _, _⟩ :: _) _ _); go_must (refine wpl_loadB (.tmp 8) rfl _ rfl x HKV.out rfl ?_)))
      refine HPt.out.mono ?_
      rintro e w2 ⟨rfl, hb⟩
      have HB2 : Hid (Below w.heap.size w w2) := hid (bel2 HBV.out hb)
      clear hb HPt HX HKV HBV HbV HB HV
      go_wp2
      go_roundg (n0 - (p + 1))
      case measure => omega
      case rel => exact ⟨p + 1, by go_num, by omega, Nat.le_refl _, HB2⟩
    · obtain rfl : p = n0 := by omega
      go_wp2_with fail
      refine (HSo.out _ HB.out).mono ?_
      rintro e w2 ⟨v, rfl, hown, hb2⟩
      have HB2 := hid (bel2 HB.out hb2)
      clear hb2 HSo HG
      obtain ⟨_, ad2, cap2, rfl, _⟩ := own_elems hown
      rw [h0]
      clear hown
      go_wp2
      go_ret3
      exact HF.out _ HB2.out

set_option linter.unusedVariables false in
set_option linter.unusedSimpArgs false in
set_option maxRecDepth 100000 in
set_option maxHeartbeats 8000000 in
theorem rfill13 (ad : Option Addr) (cap : Nat) (xs : List PS) (hcap : xs.length ≤ cap) (hm : xs.length ≤ 1000) (m : Int) (hs : sizedB m = true) (hno : anyNo xs = false) (h0 : (psorted xs).length ≠ 0) (h1 : min 24 m < (psorted xs).length) (w : World) (hI : Elems encP 18 w.heap.size w ad xs) :
    Calls Tryz.prog 7 #[.slice ad xs.length cap, .int .i64 m] w (RFillEnd xs m w) := by
  have hz : fillE xs m = 13 := by unfold fillE; rw [if_neg (by rw [hs]; decide), if_neg (by rw [hno]; decide), if_neg h0, if_pos h1]
  have HF : Hid (∀ W, Below w.heap.size w W → RFillEnd xs m w (.returned (.tuple #[.slice none 0 0, .slice none 0 0, .int .i64 13])) W) := hid fun W hb => ⟨hb, .inl (by rw [hz]; exact ⟨by decide, rfl⟩)⟩

  have HG : Hid (∀ j (hj : j < xs.length), isPt xs[j] = true) := hid (fun j hj => by
    have h := hno
    unfold anyNo at h
    rw [List.any_eq_false] at h
    simpa using h xs[j] (List.getElem_mem hj))
  obtain ⟨n0, hn0⟩ : ∃ n0, n0 = xs.length := ⟨_, rfl⟩
  rw [← hn0] at hcap hm ⊢
  have Hn := hid hn0
  have HI := hid hI
  have HSz := hid (fun W => hs ▸ rsized_any m W)
  have HSo : Hid (∀ W, Below w.heap.size w W → Calls Tryz.prog 26 #[.slice ad n0 cap] W (CollEnd (psorted xs) encP W)) := hid (fun W hb => by
    have h := rsort_any ad cap xs (by omega) (by omega) W ((hI.below hb).mono hb.size)
    rwa [← hn0] at h)
  clear hs hno hI hn0 hz
  obtain ⟨n, hn⟩ : ∃ n, n = (psorted xs).length := ⟨_, rfl⟩
  rw [← hn] at h0 h1
  have HNn := hid hn
  clear hn
  go_enter Tryz.func7, Tryz.ntmps7
  go_wp2_with fail
  refine (HSz.out _).mono ?_
  rintro e w1 ⟨rfl, hw⟩
  rw [← hw]
  clear hw HSz
  go_wp2
  go_loopg [27] n0 (fun g s27 wr => ∃ p : Nat, s27 = .int .i64 (p : Int) ∧ p ≤ n0 ∧ n0 - p ≤ g ∧ Hid (Below w.heap.size w wr))
  case atStart => exact ⟨0, rfl, by omega, by omega, hid (Below.refl _ _)⟩
  case round =>
    obtain ⟨p, rfl, hp, hgp, HB⟩ := hrel
    by_cases hlt : p < n0
    · have hpx : p < xs.length := by have := Hn.out; omega
      obtain ⟨g0, o0, rfl, hg0, hr0⟩ := HI.out p hpx
      obtain ⟨x, hx⟩ : ∃ x, x = xs[p] := ⟨_, rfl⟩
      have HX : Hid (wr.rangeAt g0 (o0 + p * 18) (encPL x)) := hid (hx ▸ rangeAt_below HB.out hg0 hr0)
      obtain ⟨V, hV⟩ : ∃ V, V = wr.alloc (.cells (encP x) 41) := ⟨_, rfl⟩
      have HV := hid hV.symm
      have HBV : Hid (Below w.heap.size w V) := hid (hV ▸ HB.out.alloc HB.out.size _)
      have HbV : Hid (Below wr.heap.size wr V) := hid (hV ▸ (Below.refl _ _).alloc (Nat.le_refl _) _)
      have HKV : Hid (Blk V wr.heap.size 41 (encP x)) := hid (hV ▸ Blk.new wr _ _)
      have HPt := hid (rppt_any x V)
      have hP : isPt x = true := by rw [hx]; exact HG.out p hpx
      rw [hP] at HPt
      clear hx hr0 hV hP
      go_wp2_with (first
        | ((show wpList _ _ _ (⟨some 30, _, _, _, _, _⟩ :: _) _ _); go_must (refine wpl_loadP (.tmp 29) rfl g0 (o0 + p * 18) rfl x HX.out rfl ?_))
        | ((show wpList _ _ _ (⟨none, _, _, _, _, _⟩ :: _) _ _); go_must (refine wpl_storeN (.tmp 8) (.tmp 30) rfl _ rfl rfl x rfl rfl ?_; rw [HV.out]))
        | ((show wpList _ _ _ (⟨some 31, _, _, _, _, _⟩ :: _) _ _); go_must (refine wpl_loadB (.tmp 8) rfl _ rfl x HKV.out rfl ?_)))
      refine HPt.out.mono ?_
      rintro e w2 ⟨rfl, hb⟩
      have HB2 : Hid (Below w.heap.size w w2) := hid (bel2 HBV.out hb)
      clear hb HPt HX HKV HBV HbV HB HV
      go_wp2
      go_roundg (n0 - (p + 1))
      case measure => omega
      case rel => exact ⟨p + 1, by go_num, by omega, Nat.le_refl _, HB2⟩
    · obtain rfl : p = n0 := by omega
      go_wp2_with fail
      refine (HSo.out _ HB.out).mono ?_
      rintro e w2 ⟨v, rfl, hown, hb2⟩
      have HB2 := hid (bel2 HB.out hb2)
      clear hb2 HSo HG
      obtain ⟨_, ad2, cap2, rfl, _⟩ := own_elems hown
      rw [← HNn.out]
      clear hown
      have hz0 : ((n : Int) == 0) = false := by rw [beq_eq_false_iff_ne]; omega
      by_cases hb : 24 < n
      · go_wp2
        go_ret3
        exact HF.out _ HB2.out
      · have hb2 : m < (n : Int) := by omega
        go_wp2
        go_ret3
        exact HF.out _ HB2.out
end Go.Proofs.YtahconkjhneogaaGreatDoor

namespace Go.Proofs.YtahconkjhneogaaGreatDoor
open Go.RowKit Go.Shelf Go.Lib Go.Sort

section
variable {o : Oper} {a : Act} {w : World}
theorem exec_idxB (x i : Operand) (ho : o.op = .indexAddr 63 x i) (g M n : Nat) (hx : a.eval x = .slice (some ⟨g, 0, none⟩) M M) (hi : a.eval i = .int .i64 n) (h : n < M) :
    (execOp a.eval o).run Tryz.prog w = .ok (.value (.pointer (some ⟨g, n, none⟩))) w := by
  have h1 : (0 : Int) ≤ (n : Int) := by omega
  have h2 : (n : Int) < (M : Int) := by omega
  unfold execOp
  simp only [ho, hx, hi]
  clear hx hi ho
  go_simp
theorem exec_idxI (x i : Operand) (ho : o.op = .indexAddr 25 x i) (g M n : Nat) (hx : a.eval x = .slice (some ⟨g, 0, none⟩) M M) (hi : a.eval i = .int .i64 n) (h : n < M) :
    (execOp a.eval o).run Tryz.prog w = .ok (.value (.pointer (some ⟨g, n, none⟩))) w := by
  have h1 : (0 : Int) ≤ (n : Int) := by omega
  have h2 : (n : Int) < (M : Int) := by omega
  unfold execOp
  simp only [ho, hx, hi]
  clear hx hi ho
  go_simp
theorem exec_ldB (x : Operand) (ho : o.op = .load 4 x) (g n : Nat) (hx : a.eval x = .pointer (some ⟨g, n, none⟩)) (c : Bool) (hc : w.cell? ⟨g, n, none⟩ = some (.bool c)) :
    (execOp a.eval o).run Tryz.prog w = .ok (.value (.bool c)) w := by
  unfold execOp
  simp only [ho, hx]
  clear hx ho
  go_simp
theorem exec_notB (x : Operand) (ho : o.op = .unOp .not 4 x) (c : Bool) (hx : a.eval x = .bool c) :
    (execOp a.eval o).run Tryz.prog w = .ok (.value (.bool (!c))) w := by
  unfold execOp
  simp only [ho, hx]
  clear hx ho
  go_simp
end

set_option linter.unusedVariables false in
set_option linter.unusedSimpArgs false in
set_option maxRecDepth 100000 in
set_option maxHeartbeats 8000000 in
theorem rfill0 (ad : Option Addr) (cap : Nat) (xs : List PS) (hcap : xs.length ≤ cap) (hm : xs.length ≤ 1000) (m : Int) (hs : sizedB m = true) (hno : anyNo xs = false) (h0 : (psorted xs).length ≠ 0) (h1 : ¬ min 24 m < (psorted xs).length) (w : World) (hI : Elems encP 18 w.heap.size w ad xs) :
    Calls Tryz.prog 7 #[.slice ad xs.length cap, .int .i64 m] w (RFillEnd xs m w) := by
  obtain ⟨M, rfl⟩ : ∃ M : Nat, m = (M : Int) := ⟨m.toNat, by have := (sized_range hs).1; omega⟩
  obtain ⟨M1, M2, _⟩ := sized_range hs
  have hz : fillE xs (M : Int) = 0 := by unfold fillE; rw [if_neg (by rw [hs]; decide), if_neg (by rw [hno]; decide), if_neg h0, if_neg h1]
  have HF : Hid (∀ W ab cap S, Below w.heap.size w W → (psorted xs).length ≤ cap → Elems encP 18 W.heap.size W ab (psorted xs) → SlotB W S (fillT (ordL M (psorted xs)) (psorted xs).length M M) →
      RFillEnd xs M w (.returned (.tuple #[.slice ab (psorted xs).length cap, .slice (some ⟨S, 0, none⟩) M M, .int .i64 0])) W) := hid (fun W ab cap S a b c d => ⟨a, .inr ⟨hz, M, ab, cap, S, rfl, rfl, b, c, d⟩⟩)
  have HG : Hid (∀ j (hj : j < xs.length), isPt xs[j] = true) := hid (fun j hj => by
    have h := hno
    unfold anyNo at h
    rw [List.any_eq_false] at h
    simpa using h xs[j] (List.getElem_mem hj))
  obtain ⟨n0, hn0⟩ : ∃ n0, n0 = xs.length := ⟨_, rfl⟩
  rw [← hn0] at hcap hm ⊢
  have Hn := hid hn0
  have HI := hid hI
  have HSz := hid (fun W => hs ▸ rsized_any _ W)
  have HSo : Hid (∀ W, Below w.heap.size w W → Calls Tryz.prog 26 #[.slice ad n0 cap] W (CollEnd (psorted xs) encP W)) := hid (fun W hb => by
    have h := rsort_any ad cap xs (by omega) (by omega) W ((hI.below hb).mono hb.size)
    rwa [← hn0] at h)
  have HPut : Hid (∀ x W, Calls Tryz.prog 28 #[.agg (encP x)] W (OwnEnd (putQ x) W)) := hid (fun x W => rpput_any x.1.1 (ints x.1.2.1) (by rw [ints_length, x.2.1]) x.1.2.2 W)
  have HOf : Hid (∀ (x : PS) g cap W, Bys W.heap.size W (some ⟨g, 0, none⟩) (putQ x) → Calls Tryz.prog 27 #[.slice (some ⟨g, 0, none⟩) (putQ x).length cap, .int .i64 M] W fun e w' => e = .returned (.tuple #[.int .i64 (oOf M x), .int .i64 (kOf M x)]) ∧ Below W.heap.size W w') :=
    hid (fun x g cap W hb => srof_yes M hs _ cap (putQ x) (putQ_byt x) (by have := putQ_len x; omega) W hb (fun e => by cases e))
  have HAll : Hid (∀ (x : PS) W, Calls Tryz.prog 29 #[.int .i64 M, .int .i64 (oOf M x), .int .i64 (kOf M x)] W (RAllEnd M (oOf M x) (kOf M x) W)) := hid (fun x W => rall_yes M _ _ (right_of M hs x) W)
  have HM := hid hs
  obtain ⟨bs, hbs⟩ : ∃ bs, bs = psorted xs := ⟨_, rfl⟩
  rw [← hbs] at h0 h1 HF HSo
  obtain ⟨n, hn⟩ : ∃ n, n = bs.length := ⟨_, rfl⟩
  rw [← hn] at h0 h1 HF
  have HNn := hid hn
  clear hs hno hI hn0 hz hbs hn
  go_enter Tryz.func7, Tryz.ntmps7
  go_wp2_with fail
  refine (HSz.out _).mono ?_
  rintro e w1 ⟨rfl, hw⟩
  rw [← hw]
  clear hw HSz
  go_wp2
  go_loopg [27] n0 (fun g s27 wr => ∃ p : Nat, s27 = .int .i64 (p : Int) ∧ p ≤ n0 ∧ n0 - p ≤ g ∧ Hid (Below w.heap.size w wr))
  case atStart => exact ⟨0, rfl, by omega, by omega, hid (Below.refl _ _)⟩
  case round =>
    obtain ⟨p, rfl, hp, hgp, HB⟩ := hrel
    by_cases hlt : p < n0
    · have hpx : p < xs.length := by have := Hn.out; omega
      obtain ⟨g0, o0, rfl, hg0, hr0⟩ := HI.out p hpx
      obtain ⟨x, hx⟩ : ∃ x, x = xs[p] := ⟨_, rfl⟩
      have HX : Hid (wr.rangeAt g0 (o0 + p * 18) (encPL x)) := hid (hx ▸ rangeAt_below HB.out hg0 hr0)
      obtain ⟨V, hV⟩ : ∃ V, V = wr.alloc (.cells (encP x) 41) := ⟨_, rfl⟩
      have HV := hid hV.symm
      have HBV : Hid (Below w.heap.size w V) := hid (hV ▸ HB.out.alloc HB.out.size _)
      have HbV : Hid (Below wr.heap.size wr V) := hid (hV ▸ (Below.refl _ _).alloc (Nat.le_refl _) _)
      have HKV : Hid (Blk V wr.heap.size 41 (encP x)) := hid (hV ▸ Blk.new wr _ _)
      have HPt := hid (rppt_any x V)
      have hP : isPt x = true := by rw [hx]; exact HG.out p hpx
      rw [hP] at HPt
      clear hx hr0 hV hP
      go_wp2_with (first
        | ((show wpList _ _ _ (⟨some 30, _, _, _, _, _⟩ :: _) _ _); go_must (refine wpl_loadP (.tmp 29) rfl g0 (o0 + p * 18) rfl x HX.out rfl ?_))
        | ((show wpList _ _ _ (⟨none, _, _, _, _, _⟩ :: _) _ _); go_must (refine wpl_storeN (.tmp 8) (.tmp 30) rfl _ rfl rfl x rfl rfl ?_; rw [HV.out]))
        | ((show wpList _ _ _ (⟨some 31, _, _, _, _, _⟩ :: _) _ _); go_must (refine wpl_loadB (.tmp 8) rfl _ rfl x HKV.out rfl ?_)))
      refine HPt.out.mono ?_
      rintro e w2 ⟨rfl, hb⟩
      have HB2 : Hid (Below w.heap.size w w2) := hid (bel2 HBV.out hb)
      clear hb HPt HX HKV HBV HbV HB HV
      go_wp2
      go_roundg (n0 - (p + 1))
      case measure => omega
      case rel => exact ⟨p + 1, by go_num, by omega, Nat.le_refl _, HB2⟩
    · obtain rfl : p = n0 := by omega
      go_wp2_with fail
      refine (HSo.out _ HB.out).mono ?_
      rintro e w2 ⟨v, rfl, hown, hb2⟩
      have HB2 := hid (bel2 HB.out hb2)
      clear hb2 HSo HG
      obtain ⟨_, ad2, cap2, rfl, hc2, _, _, hel⟩ := own_elems hown
      rw [← HNn.out] at hc2 ⊢
      have HEl := hid hel
      clear hown hel HI
      have hz0 : ((n : Int) == 0) = false := by rw [beq_eq_false_iff_ne]; omega
      have hn24 : n ≤ 24 := by omega
      have hnM : n ≤ M := by omega
      have h0n : 0 < n := by omega
      clear h0 h1
      have hqM : decide (M < n) = false := decide_eq_false (by omega)
      have hqI : decide ((M : Int) < (n : Int)) = false := decide_eq_false (by omega)
      have hq24 : decide ((24 : Int) < (n : Int)) = false := decide_eq_false (by omega)
      obtain ⟨W3, hW3⟩ : ∃ W, W = w2.alloc (.cells #[] 25) := ⟨_, rfl⟩
      have HW3 := hid hW3.symm
      have HB3 : Hid (Below w2.heap.size w2 W3) := hid (hW3 ▸ (Below.refl _ _).alloc (Nat.le_refl _) _)
      have HO3 : Hid (0 = ([] : List Value).length ∧ W3.ownsRow w2.heap.size 25 1 (.slice (some ⟨w2.heap.size, 0, none⟩) 0 0) 0 []) := hid ⟨rfl, rfl, .inr ⟨w2.heap.size, 0, #[], rfl, Nat.le_refl _, by rw [hW3]; exact heap_alloc_last w2 _, Nat.le_refl _, Nat.zero_le _, rfl, rfl⟩⟩
      have HOr3 : Hid (Ords W3 w2.heap.size M bs []) := hid (fun i hi => by simp at hi)
      clear hW3
      obtain ⟨i0, hi, hy0, hy1, hy2⟩ := info_parts Tryz.infoRowV
      have HY2 := hid hy2
      clear hy2
      go_wp2
      rw [HW3.out]
      go_loopg [10, 52] n (fun g s10 s52 wr => ∃ (p go cap : Nat) (vs : List Value), s52 = .int .i64 (p : Int) ∧ p ≤ n ∧ n - p ≤ g ∧ s10 = .slice (some ⟨go, 0, none⟩) p cap ∧ Hid (p = vs.length ∧ wr.ownsRow w2.heap.size 25 1 (.slice (some ⟨go, 0, none⟩) p cap) p vs) ∧ Hid (Ords wr w2.heap.size M bs vs) ∧ Hid (Below w2.heap.size w2 wr))
      case atStart => exact ⟨0, w2.heap.size, 0, [], rfl, by omega, by omega, rfl, HO3, HOr3, HB3⟩
      case round =>
        obtain ⟨p, go, cap, vs, rfl, hp, hgp, rfl, HO, HOr, HBL⟩ := hrel
        by_cases hlt2 : p < n
        · have hpx : p < bs.length := by have := HNn.out; omega
          obtain ⟨g0, o0, rfl, hg0, hr0⟩ := HEl.out p hpx
          obtain ⟨x, hx⟩ : ∃ x, x = bs[p] := ⟨_, rfl⟩
          have HX : Hid (wr.rangeAt g0 (o0 + p * 18) (encPL x)) := hid (hx ▸ rangeAt_below HBL.out hg0 hr0)
          obtain ⟨V, hV⟩ : ∃ V, V = wr.alloc (.cells (encP x) 41) := ⟨_, rfl⟩
          have HV := hid hV.symm
          have HBV : Hid (Below w2.heap.size w2 V) := hid (hV ▸ HBL.out.alloc HBL.out.size _)
          have HbV : Hid (Below wr.heap.size wr V) := hid (hV ▸ (Below.refl _ _).alloc (Nat.le_refl _) _)
          have HKV : Hid (Blk V wr.heap.size 41 (encP x)) := hid (hV ▸ Blk.new wr _ _)
          have HXx : Hid (bs[p]! = x) := hid (by rw [getElem!_pos bs p hpx, hx])
          clear hx hr0 hV
          go_wp2_with (first
            | ((show wpList _ _ _ (⟨some 55, _, _, _, _, _⟩ :: _) _ _); go_must (refine wpl_loadP (.tmp 54) rfl g0 (o0 + p * 18) rfl x HX.out rfl ?_))
            | ((show wpList _ _ _ (⟨none, _, _, _, _, _⟩ :: _) _ _); go_must (refine wpl_storeN (.tmp 12) (.tmp 55) rfl _ rfl rfl x rfl rfl ?_; rw [HV.out]))
            | ((show wpList _ _ _ (⟨some 57, _, _, _, _, _⟩ :: _) _ _); go_must (refine wpl_loadB (.tmp 12) rfl _ rfl x HKV.out rfl ?_)))
          refine (HPut.out x V).mono ?_
          rintro e w3 ⟨v, rfl, hown3, hb3⟩
          obtain ⟨gp, cp, rfl, hbys⟩ := bys_own hown3 (putQ_pos x)
          have HOf1 := hid (HOf.out x gp cp w3 hbys)
          have Hb3 := hid (bel2 HbV.out hb3)
          clear hown3 hbys hb3
          go_wp2_with fail
          refine HOf1.out.mono ?_
          rintro e w4 ⟨rfl, hb4⟩
          have HAll1 := hid (HAll.out x w4)
          have Hb4 := hid (bel2 Hb3.out hb4)
          clear hb4 HOf1 Hb3
          go_wp2_with fail
          refine HAll1.out.mono ?_
          rintro e w5 ⟨ga, ca, rfl, hga, hna, hb5⟩
          have Hga : Hid (wr.heap.size ≤ ga) := hid (Nat.le_trans Hb4.out.size hga)
          have HB5 := hid (bel2 Hb4.out hb5)
          have HNA : Hid (NumAt w5 ga M (fun j => (ordL M bs p j : Int))) := hid (by
            have e : (fun j : Nat => (ordL M bs p j : Int)) = fun j : Nat => plc M (oOf M x) (kOf M x) j := by
              funext j
              unfold ordL
              rw [HXx.out, ordP_cast M HM.out x j]
            rw [e]
            exact hna)
          have HO5 : Hid (w5.ownsRow w2.heap.size 25 1 (.slice (some ⟨go, 0, none⟩) p cap) p vs) := hid (ownsRow_below HO.out.2 HB5.out)
          have HSZ : Hid (w2.heap.size ≤ w5.heap.size) := hid (Nat.le_trans HBL.out.size HB5.out.size)
          have HBW : Hid (Below w2.heap.size w2 w5) := hid (HBL.out.trans (HB5.out.mono HBL.out.size))
          clear hga hna hb5 Hb4 HAll1
          go_wp2_with (at_builtin; refine wpList_append_own _ rfl (.tmp 63) (.tmp 68) 58 rfl w2.heap.size 25 i0 (.slice none 0 0) 1 24 Tryz.underlying58 hi hy0 hy1 HY2.out rfl (by decide) _ _ _ rfl (HO5.out.alloc _) ⟨w5.heap.size, 0, none⟩ 1 1 [.slice (some ⟨ga, 0, none⟩) M ca] rfl rfl (by intro j u hj; match j, hj with | 0, hj => (simp at hj; subst hj; simp [Addr.add])) (by intro u hu; simp at hu; subst hu; rfl) (by unfold maxLen; omega) (by omega) (by have := HSZ.out; simp; omega) ?_; intro v' w6 hown' hgrow _)
          obtain ⟨g', cap', rfl⟩ := ownsRow_succ hown'
          have HOr2 := hid (Ords.push (cg := ca) (by omega) HOr.out HO.out.2 HO.out.1 HB5.out (Nat.le_trans HBL.out.size Hga.out) Hga.out HNA.out hgrow)
          have HO2 : Hid (p + 1 = (vs ++ [Value.slice (some ⟨ga, 0, none⟩) M ca]).length ∧ w6.ownsRow w2.heap.size 25 1 (.slice (some ⟨g', 0, none⟩) (p + 1) cap') (p + 1) (vs ++ [Value.slice (some ⟨ga, 0, none⟩) M ca])) := hid ⟨by rw [List.length_append, List.length_cons, List.length_nil, HO.out.1], hown'⟩
          have HB6 : Hid (Below w2.heap.size w2 w6) := hid ((HBW.out.alloc HSZ.out (.cells #[.slice (some ⟨ga, 0, none⟩) M ca] 25)).grown hgrow (by have := HSZ.out; simp; omega) (fun j hj => (HO5.out.lt j hj).1))
          clear hown' hgrow HO HOr HO5 HBW HNA HB5 HSZ
          go_wp2
          go_roundg (n - (p + 1))
          case measure => omega
          case rel => exact ⟨p + 1, g', cap', _, by go_num, by omega, Nat.le_refl _, rfl, HO2, HOr2, HB6⟩
        · obtain rfl : p = n := by omega
          rename World => wa
          have hmk := run_make_row' (P := Tryz.prog) 25 3 (.int .i64 0) 8 Tryz.underlying25 Tryz.infoIntV rfl .i64 .i64 M (by omega) (by omega)
          have hmk2 := run_make_row' (P := Tryz.prog) 63 4 (.bool false) 1 Tryz.underlying63 Tryz.infoBoolV rfl .i64 .i64 M (by omega) (by omega)
          obtain ⟨W4, hW4⟩ : ∃ W, W = wa.alloc (.cells (madeCells #[.int .i64 0] M) 3) := ⟨_, rfl⟩
          obtain ⟨W5, hW5⟩ : ∃ W, W = W4.alloc (.cells (madeCells #[.bool false] M) 4) := ⟨_, rfl⟩
          have s4 : W4.heap.size = wa.heap.size + 1 := by rw [hW4]; exact World.size_alloc _ _
          have b4 : Below wa.heap.size wa W4 := hW4 ▸ (Below.refl _ _).alloc (Nat.le_refl _) _
          have b5 : Below W4.heap.size W4 W5 := hW5 ▸ (Below.refl _ _).alloc (Nat.le_refl _) _
          have HW4 := hid hW4.symm
          have HW5 := hid hW5.symm
          obtain ⟨S, hS⟩ : ∃ S, S = wa.heap.size := ⟨_, rfl⟩
          obtain ⟨T, hT⟩ : ∃ T, T = W4.heap.size := ⟨_, rfl⟩
          have HSe := hid hS.symm
          have HTe := hid hT.symm
          have HST : Hid (wa.heap.size ≤ S ∧ wa.heap.size ≤ T ∧ S ≠ T) := hid (by omega)
          have HS5 : Hid (SlotB W5 S (slot0 (fillT (ordL M bs) p M 0))) := hid (by
            have h : SlotB W4 wa.heap.size (List.replicate M 0) := hW4 ▸ slot_made wa M
            rw [hS]
            have e : slot0 (fillT (ordL M bs) p M 0) = List.replicate M 0 := slot0_start M
            rw [e]
            exact Blk.kept h b5)
          have HT5 : Hid (TakB W5 T (fillT (ordL M bs) p M 0)) := hid (by
            rw [hT]
            exact hW5 ▸ tak_made W4 M)
          have HB5 : Hid (Below wa.heap.size wa W5) := hid (bel2 b4 b5)
          have HOn : Hid (Onto (ordL M bs) p M) := hid (by rw [HNn.out]; exact ordL_onto M HM.out bs)
          have HLen : Hid (∀ t, (fillT (ordL M bs) p M t).length = M) := hid (fillT_length (ordL M bs) p M)
          have HLt : Hid (∀ i j, ordL M bs i j < M) := hid (fun i j => ordP_lt M HM.out _ _)
          have HEnd : Hid (slot0 (fillT (ordL M bs) p M M) = fillT (ordL M bs) p M M) := hid (slot0_end fun x hx => by have := fillT_end h0n HOn.out x hx; omega)
          clear hW4 hW5 s4 b4 b5 hS hT
          go_upto_region 22 with fail
          rw [HW4.out, HSe.out]
          go_wp2
          rw [HW5.out, HTe.out]
          clear hmk hmk2
          go_loopg [17] M (fun g s17 wx => ∃ t : Nat, s17 = .int .i64 (t : Int) ∧ t ≤ M ∧ M - t ≤ g ∧ Hid (SlotB wx S (slot0 (fillT (ordL M bs) p M t))) ∧ Hid (TakB wx T (fillT (ordL M bs) p M t)) ∧ Hid (Below wa.heap.size wa wx))
          case atStart => exact ⟨0, rfl, by omega, by omega, HS5, HT5, HB5⟩
          case round =>
            rename World => wx
            obtain ⟨t, rfl, ht, hgt, HS, HT, HB⟩ := hrel
            by_cases hlt3 : t < M
            · obtain ⟨J, hJ, hfree, hbef, hset⟩ := fillT_step h0n HOn.out hlt3
              obtain ⟨k, hk⟩ : ∃ k, k = t % p := ⟨_, rfl⟩
              rw [← hk] at hfree hbef hset
              have hkp : k < p := by rw [hk]; exact Nat.mod_lt _ h0n
              have hkv : k < vs.length := by have := HO.out.1; omega
              obtain ⟨gOr, cOr, ek, _, hnk⟩ := HOr.out k hkv
              have HNk := hid hnk
              have cO : wx.cell? ⟨go, k, none⟩ = some (.slice (some ⟨gOr, 0, none⟩) M cOr) := by
                have h := (ownsRow_below HO.out.2 HB.out).cellAt k (by omega)
                rw [h, List.getElem?_eq_getElem hkv, ek]
              have m1 : (t : Int).tmod (p : Int) = (k : Int) := by rw [hk]; rfl
              have m2 : (t : Int) % (p : Int) = (k : Int) := by rw [hk]; rfl
              have m3 : ¬ (p : Int) = 0 := by omega
              have m4 : ¬ p = 0 := by omega
              have HFree := hid hfree
              have HBef := hid hbef
              have HSet := hid hset
              obtain ⟨L0, hL0⟩ : ∃ L0, L0 = fillT (ordL M bs) p M t := ⟨_, rfl⟩
              rw [← hL0] at HFree HBef HSet HS HT
              have HL0 : Hid (L0.length = M) := hid (by rw [hL0]; exact HLen.out t)
              clear hk ek hnk hfree hbef hset hL0 hkv
              go_wp2
              go_loopg [19, 89] M (fun g s19 s89 wy => ∃ (j : Nat) (b : Bool) (L : List Int), s89 = .int .i64 (j : Int) ∧ s19 = .bool b ∧ j ≤ M ∧ M - j ≤ g ∧ Hid ((j ≤ J ∧ b = false ∧ L = L0) ∨ (J < j ∧ b = true ∧ L = fillT (ordL M bs) p M (t + 1))) ∧ Hid (SlotB wy S (slot0 L)) ∧ Hid (TakB wy T L) ∧ Hid (Below wa.heap.size wa wy))
              case atStart => exact ⟨0, false, L0, rfl, rfl, by omega, by omega, hid (.inl ⟨Nat.zero_le _, rfl, rfl⟩), HS, HT, HB⟩
              case round =>
                rename World => wy
                obtain ⟨j, b, L, rfl, rfl, hj, hgj, HD, HSy, HTy, HBy⟩ := hrel
                by_cases hlt4 : j < M
                · have ha := HLt.out k j
                  have cA : wy.cell? ⟨gOr, j, none⟩ = some (.int .i64 (ordL M bs k j : Int)) := (HNk.out.kept HBy.out).2 j hlt4
                  rcases HD.out with ⟨d1, rfl, rfl⟩ | ⟨d1, rfl, rfl⟩
                  · have cT := HTy.out.cell (i := ordL M bs k j) (by rw [HL0.out]; exact ha)
                    by_cases hjJ : j = J
                    · subst hjJ
                      rw [decide_eq_false (by simpa using HFree.out)] at cT
                      have cS : wy.cell? ⟨S, ordL M bs k j, none⟩ = some (.int .i64 ((slot0 L).getD (ordL M bs k j) 0)) := HSy.out.cell (by unfold slot0; rw [List.length_map, HL0.out]; exact ha)
                      have fS : wy.frozen? ⟨S, ordL M bs k j, none⟩ = false := Blk.frozen HSy.out _
                      have kT : TakB (wy.setCell ⟨S, ordL M bs k j, none⟩ (.int .i64 (k : Int))) T L := Blk.setOther HTy.out (Ne.symm HST.out.2.2) _ _
                      have cT2 := kT.cell (i := ordL M bs k j) (by rw [HL0.out]; exact ha)
                      rw [decide_eq_false (by simpa using HFree.out)] at cT2
                      have fT2 : (wy.setCell ⟨S, ordL M bs k j, none⟩ (.int .i64 (k : Int))).frozen? ⟨T, ordL M bs k j, none⟩ = false := Blk.frozen kT _
                      have HS2 : Hid (SlotB ((wy.setCell ⟨S, ordL M bs k j, none⟩ (.int .i64 (k : Int))).setCell ⟨T, ordL M bs k j, none⟩ (.bool true)) S (slot0 (fillT (ordL M bs) p M (t + 1)))) := hid (by
                        rw [HSet.out, ← slot0_set]
                        exact Blk.setOther (SlotB.set HSy.out _ _) HST.out.2.2 _ _)
                      have HT2 : Hid (TakB ((wy.setCell ⟨S, ordL M bs k j, none⟩ (.int .i64 (k : Int))).setCell ⟨T, ordL M bs k j, none⟩ (.bool true)) T (fillT (ordL M bs) p M (t + 1))) := hid (by
                        rw [HSet.out]
                        exact TakB.set kT _ _)
                      have HB2 : Hid (Below wa.heap.size wa ((wy.setCell ⟨S, ordL M bs k j, none⟩ (.int .i64 (k : Int))).setCell ⟨T, ordL M bs k j, none⟩ (.bool true))) := hid ((HBy.out.setCell (p := ⟨S, ordL M bs k j, none⟩) HST.out.1 _).setCell (p := ⟨T, ordL M bs k j, none⟩) HST.out.2.1 _)
                      clear kT HSy HTy HBy HD
                      generalize ordL M bs k j = a at *
                      go_wp2_with (first
                        | ((show wpList _ _ _ (⟨some 98, _, _, _, _, _⟩ :: _) _ _); go_must (refine wpl_run (.pointer (some ⟨T, a, none⟩)) wy (exec_idxB _ _ rfl T M a rfl rfl ha) (by kernel_rfl) ?_))
                        | ((show wpList _ _ _ (⟨some 99, _, _, _, _, _⟩ :: _) _ _); go_must (refine wpl_run (.bool false) wy (exec_ldB _ rfl T a rfl false cT) (by kernel_rfl) ?_))
                        | ((show wpList _ _ _ (⟨some 100, _, _, _, _, _⟩ :: _) _ _); go_must (refine wpl_run (.bool (!false)) wy (exec_notB _ rfl false rfl) (by kernel_rfl) ?_))
                        | ((show wpList _ _ _ (⟨some 107, _, _, _, _, _⟩ :: _) _ _); go_must (refine wpl_run (.pointer (some ⟨S, a, none⟩)) wy (exec_idxI _ _ rfl S M a rfl rfl ha) (by kernel_rfl) ?_))
                        | ((show wpList _ _ _ (⟨some 108, _, _, _, _, _⟩ :: _) _ _); go_must (refine wpl_run (.pointer (some ⟨T, a, none⟩)) (wy.setCell ⟨S, a, none⟩ (.int .i64 (k : Int))) (exec_idxB _ _ rfl T M a rfl rfl ha) (by kernel_rfl) ?_)))
                      go_roundg (M - (j + 1))
                      case measure => omega
                      case rel => exact ⟨j + 1, true, _, by go_num, rfl, by omega, Nat.le_refl _, hid (.inr ⟨by omega, rfl, rfl⟩), HS2, HT2, HB2⟩
                    · rw [decide_eq_true (HBef.out j (by omega))] at cT
                      clear HD
                      generalize ordL M bs k j = a at *
                      go_wp2_with (first
                        | ((show wpList _ _ _ (⟨some 98, _, _, _, _, _⟩ :: _) _ _); go_must (refine wpl_run (.pointer (some ⟨T, a, none⟩)) wy (exec_idxB _ _ rfl T M a rfl rfl ha) (by kernel_rfl) ?_))
                        | ((show wpList _ _ _ (⟨some 99, _, _, _, _, _⟩ :: _) _ _); go_must (refine wpl_run (.bool true) wy (exec_ldB _ rfl T a rfl true cT) (by kernel_rfl) ?_))
                        | ((show wpList _ _ _ (⟨some 100, _, _, _, _, _⟩ :: _) _ _); go_must (refine wpl_run (.bool (!true)) wy (exec_notB _ rfl true rfl) (by kernel_rfl) ?_)))
                      go_roundg (M - (j + 1))
                      case measure => omega
                      case rel => exact ⟨j + 1, false, _, by go_num, rfl, by omega, Nat.le_refl _, hid (.inl ⟨by omega, rfl, rfl⟩), HSy, HTy, HBy⟩
                  · clear HD
                    generalize ordL M bs k j = a at *
                    go_wp2
                    go_roundg (M - (j + 1))
                    case measure => omega
                    case rel => exact ⟨j + 1, true, _, by go_num, rfl, by omega, Nat.le_refl _, hid (.inr ⟨by omega, rfl, rfl⟩), HSy, HTy, HBy⟩
                · obtain rfl : j = M := by omega
                  rcases HD.out with ⟨d1, _, _⟩ | ⟨d1, rfl, rfl⟩
                  · omega
                  · clear HD cO
                    go_wp2
                    go_roundg (j - (t + 1))
                    case measure => omega
                    case rel => exact ⟨t + 1, by go_num, by omega, Nat.le_refl _, HSy, HTy, HBy⟩
            · obtain rfl : t = M := by omega
              have HBx : Hid (Below w2.heap.size w2 wx) := hid (HBL.out.trans (HB.out.mono HBL.out.size))
              have HR := hid (HF.out wx ad2 cap2 S (bel2 HB2.out HBx.out) hc2 ((HEl.out.below HBx.out).mono HBx.out.size) (by rw [← HEnd.out]; exact HS.out))
              clear HEl HF
              go_wp2
              go_ret3
              exact HR.out
end Go.Proofs.YtahconkjhneogaaGreatDoor

namespace Go.Proofs.YtahconkjhneogaaGreatDoor
open Go.RowKit Go.Shelf Go.Lib Go.Sort

theorem rfill_any (ad : Option Addr) (cap : Nat) (xs : List PS) (hcap : xs.length ≤ cap) (hm : xs.length ≤ 1000) (m : Int) (w : World) (hI : Elems encP 18 w.heap.size w ad xs) :
    Calls Tryz.prog 7 #[.slice ad xs.length cap, .int .i64 m] w (RFillEnd xs m w) := by
  by_cases h1 : sizedB m = true
  · by_cases h2 : anyNo xs = true
    · exact rfill8 ad cap xs hcap hm m h1 h2 w hI
    · by_cases h3 : (psorted xs).length = 0
      · exact rfill11 ad cap xs hcap hm m h1 (by simpa using h2) h3 w hI
      · by_cases h4 : min 24 m < (psorted xs).length
        · exact rfill13 ad cap xs hcap hm m h1 (by simpa using h2) h3 h4 w hI
        · exact rfill0 ad cap xs hcap hm m h1 (by simpa using h2) h3 h4 w hI
  · exact rfill1 ad cap xs hcap hm m (by simpa using h1) w hI
end Go.Proofs.YtahconkjhneogaaGreatDoor

namespace Go.Proofs.YtahconkjhneogaaGreatDoor
open Go.RowKit Go.Lib

/-- The place of bytes. -/
def plcN (m : Int) (bs : List Int) : Int := hashN 3 bs % m
set_option maxRecDepth 100000 in
set_option maxHeartbeats 4000000 in
theorem rplace_any (m : Int) (h : sizedB m = true) (ad : Option Addr) (cap : Nat) (bs : List Int) (hby : Byt bs) (hm : bs.length ≤ 1000) (w : World) (hI : Bys w.heap.size w ad bs) (hn : ad = none → bs.length = 0 ∧ cap = 0) :
    Calls Tryz.prog 13 #[.slice ad bs.length cap, .int .i64 m] w fun e w' => e = .returned (.int .i64 (plcN m bs)) ∧ Below w.heap.size w w' := by
  obtain ⟨a1, a2, _⟩ := sized_range h
  have HO : Hid (Calls Tryz.prog 33 #[.int .u64 3, .slice ad bs.length cap] w fun e w' => e = .returned (.int .u64 (hashN 3 bs)) ∧ Below w.heap.size w w') := hid (rof_any 3 ad cap bs hby hm w hI hn)
  have hx1 := hashN_range 3 bs
  have t1 : (hashN 3 bs).tmod m = hashN 3 bs % m := Int.tmod_eq_emod_of_nonneg hx1.1
  have h1 := Int.emod_nonneg (hashN 3 bs) (show m ≠ 0 by omega)
  have h2 := Int.emod_lt_of_pos (hashN 3 bs) (show 0 < m by omega)
  have E1 : Hid (hashN 3 bs % m = plcN m bs) := hid rfl
  generalize plcN m bs = q1 at *
  generalize hashN 3 bs % m = y1 at *
  generalize hashN 3 bs = x1 at *
  clear h hby hm hI hn hx1
  generalize bs.length = len at *
  have e1 : IntKind.u64.wrap m = m := IntWalk.u64_in _ (by omega)
  have e3 : IntKind.i64.wrap y1 = y1 := IntWalk.i64_in _ (by omega)
  have z1 : m ≠ 0 := by omega
  go_enter Tryz.func13, Tryz.ntmps13
  go_wp2_with fail
  refine HO.out.mono ?_
  rintro e w1 ⟨rfl, hb⟩
  have Hb := hid hb
  clear hb HO
  go_wp2
  go_ret
  exact ⟨by rw [← E1.out] <;> rfl, Hb.out⟩
end Go.Proofs.YtahconkjhneogaaGreatDoor

namespace Go.Proofs.YtahconkjhneogaaGreatDoor
open Go.RowKit Go.Lib

/-- What a filling ends with, as a table in memory. -/
theorem FillEnd.tab {E : Nat → TypeId × Value} {xs : List PS} {m : Int} {w : World} {e : Ending} {w' : World} (h : FillEnd E xs m w e w') :
    Below w.heap.size w w' ∧ ((fillE xs m ≠ 0 ∧ e = .returned (.tuple #[.agg #[.int .i64 0, .slice none 0 0, .slice none 0 0], .iface (E (fillE xs m)).1 (E (fillE xs m)).2])) ∨
      (fillE xs m = 0 ∧ ∃ (M : Nat) (ab : Option Addr) (cap S : Nat), m = (M : Int) ∧ sizedB (M : Int) = true ∧ 0 < (psorted xs).length ∧ (psorted xs).length ≤ 24 ∧ (psorted xs).length ≤ M ∧ e = .returned (.tuple #[.agg #[.int .i64 (M : Int), .slice ab (psorted xs).length cap, .slice (some ⟨S, 0, none⟩) (fillT (ordL M (psorted xs)) (psorted xs).length M M).length M], .nilIface]) ∧
        TabIn w'.heap.size w' ab (some ⟨S, 0, none⟩) (psorted xs) (fillT (ordL M (psorted xs)) (psorted xs).length M M))) := by
  obtain ⟨hb, h | ⟨h0, M, ab, cap, S, hM, he, h1, h2, h3⟩⟩ := h
  · exact ⟨hb, .inl h⟩
  · refine ⟨hb, .inr ⟨h0, M, ab, cap, S, hM, ?_, ?_, ?_, ?_, by rw [fillT_length]; exact he, h2, h3.ints⟩⟩
    · unfold fillE at h0
      cases hs : sizedB m
      · rw [if_pos hs] at h0; cases h0
      · rw [← hM]; exact hs
    all_goals
      unfold fillE at h0
      cases hs : sizedB m
      · rw [if_pos hs] at h0; cases h0
      · rw [if_neg (by rw [hs]; decide)] at h0
        cases ha : anyNo xs
        · rw [if_neg (by rw [ha]; decide)] at h0
          by_cases h4 : (psorted xs).length = 0
          · rw [if_pos h4] at h0; cases h0
          · rw [if_neg h4] at h0
            by_cases h5 : min 24 m < (psorted xs).length
            · rw [if_pos h5] at h0; cases h0
            · omega
        · rw [if_pos ha] at h0; cases h0
theorem tab_zero (n₀ : Nat) (w : World) : TabIn n₀ w none none [] [] := ⟨fun j hj => by simp at hj, fun j hj => by simp at hj⟩
theorem whole_zero : wholeT 0 [] = false := by
  unfold wholeT
  cases hs : sizedB 0
  · rfl
  · have := (sized_range hs).1
    omega
theorem own_zero (p : Int) : ownW 0 [] [] p = none := by unfold ownW; rw [if_neg (by rw [whole_zero]; decide)]

end Go.Proofs.YtahconkjhneogaaGreatDoor

namespace Go.Proofs.YtahconkjhneogaaGreatDoor
open Go.RowKit Go.Lib

/-- The table of so many places of points. -/
def tabT (m : Int) (xs : List PS) : List Int := fillT (ordL m.toNat (psorted xs)) (psorted xs).length m.toNat m.toNat
/-- Is it the table that a filling makes? -/
def rightT (m : Int) (bs : List PS) (L : List Int) : Bool := decide (fillE bs m = 0) && sameT m m bs (psorted bs) L (tabT m bs)

set_option linter.unusedSimpArgs false in
set_option maxRecDepth 100000 in
set_option maxHeartbeats 8000000 in
theorem mright_any (E : Nat → TypeId × Value) (m : Int) (bs : List PS) (L : List Int) (ab as' : Option Addr) (cb cs : Nat) (hcb : bs.length ≤ cb) (hbm : bs.length ≤ 1000) (hLm : L.length ≤ 100000) (w : World) (hE : MEnv E w) (hT : TabIn w.heap.size w ab as' bs L) :
    Calls Tryz.prog 12 #[.agg #[.int .i64 m, .slice ab bs.length cb, .slice as' L.length cs]] w fun e w' => e = .returned (.bool (rightT m bs L)) ∧ Below w.heap.size w w' := by
  obtain ⟨W0, hW0⟩ : ∃ W, W = w.alloc (.cells #[.int .i64 m, .slice ab bs.length cb, .slice as' L.length cs] 27) := ⟨_, rfl⟩
  have b0 : Below w.heap.size w W0 := hW0 ▸ (Below.refl _ _).alloc (Nat.le_refl _) _
  have k0 : Blk W0 w.heap.size 27 #[.int .i64 m, .slice ab bs.length cb, .slice as' L.length cs] := hW0 ▸ Blk.new w _ _
  have HW0 := hid hW0.symm
  have HB0 := hid b0
  have HK0 := hid k0
  have HT0 := hid (hT.kept b0)
  have HFi : Hid (Calls Tryz.prog 6 #[.slice ab bs.length cb, .int .i64 m] W0 (FillEnd E bs m W0)) := hid (fill_any E ab cb bs hcb hbm m W0 (hE.kept b0) HT0.out.els)
  have c0 : W0.cell? ⟨w.heap.size, 0, none⟩ = some (.int .i64 m) := k0.cell 0
  have c1 : W0.cell? ⟨w.heap.size, 1, none⟩ = some (.slice ab bs.length cb) := k0.cell 1
  have Hbm := hid hbm
  have HLm := hid hLm
  clear hW0 b0 k0 hT hcb hbm hLm hE
  go_enter Tryz.func12, Tryz.ntmps12
  go_upto_region 1 with fail
  rw [HW0.out]
  go_wp2_with fail
  refine HFi.out.mono ?_
  intro e w2 hf
  obtain ⟨hb2, hf⟩ := hf.tab
  have HB2 := hid (bel2 HB0.out hb2)
  have HK2 := hid (HK0.out.kept hb2)
  have HT2 := hid (HT0.out.kept hb2)
  clear hb2 HFi HW0 HB0 HK0 HT0 c0 c1
  rcases hf with ⟨h0, rfl⟩ | ⟨h0, M, ab2, cap2, S, rfl, hs, hn0, hn24, hnM, rfl, hT3⟩
  · have HR : Hid (false = rightT m bs L) := hid (by unfold rightT; rw [decide_eq_false h0, Bool.false_and])
    clear h0
    generalize (E (fillE bs m)).1 = u at *
    generalize (E (fillE bs m)).2 = v at *
    go_wp2
    go_ret
    exact ⟨ret_b rfl HR.out, HB2.out.alloc HB2.out.size _⟩
  · have HR : Hid (sameT M M bs (psorted bs) L (fillT (ordL M (psorted bs)) (psorted bs).length M M) = rightT M bs L) := hid (by unfold rightT tabT; rw [decide_eq_true h0, Bool.true_and, Int.toNat_natCast])
    have HLM : Hid ((fillT (ordL M (psorted bs)) (psorted bs).length M M).length = M) := hid (fillT_length _ _ _ _)
    have hM := (sized_range hs).2.1
    generalize fillT (ordL M (psorted bs)) (psorted bs).length M M = L2 at *
    generalize psorted bs = bs2 at *
    obtain ⟨W3, hW3⟩ : ∃ W, W = w2.alloc (.cells #[.int .i64 (M : Int), .slice ab2 bs2.length cap2, .slice (some ⟨S, 0, none⟩) L2.length M] 27) := ⟨_, rfl⟩
    have HW3 := hid hW3.symm
    have b3 : Below w2.heap.size w2 W3 := hW3 ▸ (Below.refl _ _).alloc (Nat.le_refl _) _
    have K3 := HK2.out.kept b3
    have K4 : Blk W3 w2.heap.size 27 #[.int .i64 (M : Int), .slice ab2 bs2.length cap2, .slice (some ⟨S, 0, none⟩) L2.length M] := hW3 ▸ Blk.new w2 _ _
    have c0 : W3.cell? ⟨w.heap.size, 0, none⟩ = some (.int .i64 M) := K3.cell 0
    have c1 : W3.cell? ⟨w.heap.size, 1, none⟩ = some (.slice ab bs.length cb) := K3.cell 1
    have c2 : W3.cell? ⟨w.heap.size, 2, none⟩ = some (.slice as' L.length cs) := K3.cell 2
    have d0 : W3.cell? ⟨w2.heap.size, 0, none⟩ = some (.int .i64 M) := K4.cell 0
    have d1 : W3.cell? ⟨w2.heap.size, 1, none⟩ = some (.slice ab2 bs2.length cap2) := K4.cell 1
    have d2 : W3.cell? ⟨w2.heap.size, 2, none⟩ = some (.slice (some ⟨S, 0, none⟩) L2.length M) := K4.cell 2
    have HB3 := hid (bel2 HB2.out b3)
    have HSm := hid (same_tabs M M bs bs2 L L2 ab ab2 as' (some ⟨S, 0, none⟩) cb cap2 cs M HLm.out (by have := Hbm.out; omega) W3 (HT2.out.kept b3) (hT3.kept b3))
    clear hW3 b3 K3 K4 hT3 h0 hs hn0 hn24 hnM hM HK2 HT2
    go_upto_region 2 with fail
    rw [HW3.out]
    go_wp2_with fail
    refine HSm.out.mono ?_
    rintro e w4 ⟨rfl, hb4⟩
    have HB4 := hid (bel2 HB3.out hb4)
    clear hb4 HSm
    rw [HR.out]
    go_wp2
    go_ret
    exact ⟨rfl, HB4.out⟩
end Go.Proofs.YtahconkjhneogaaGreatDoor

namespace Go.Proofs.YtahconkjhneogaaGreatDoor
open Go.RowKit Go.Lib

/-- The place of a tuple, of whatever size. -/
def ofP (m : Int) (ys : List Int) : Int := if m < 1 then 0 else hashN 3 ys % m

set_option linter.unusedSimpArgs false in
set_option maxRecDepth 100000 in
set_option maxHeartbeats 8000000 in
theorem tof_any (m : Int) (hm1 : -9223372036854775808 ≤ m) (hm2 : m ≤ 9223372036854775807) (bs : List PS) (L : List Int) (ab as' : Option Addr) (cb cs : Nat) (hLm : L.length ≤ 100000) (hbm : bs.length ≤ 100000)
    (ad : Option Addr) (cap : Nat) (ys : List Int) (hby : Byt ys) (hy : ys.length ≤ 1000) (w : World) (hE : FEnv w) (hT : TabIn w.heap.size w ab as' bs L) (hI : Bys w.heap.size w ad ys) :
    Calls Tryz.prog 11 #[.agg #[.int .i64 m, .slice ab bs.length cb, .slice as' L.length cs], .slice ad ys.length cap] w fun e w' => e = .returned (ansO (ownW m bs L (ofP m ys))) ∧ Below w.heap.size w w' := by
  obtain ⟨W0, hW0⟩ : ∃ W, W = w.alloc (.cells #[.int .i64 m, .slice ab bs.length cb, .slice as' L.length cs] 27) := ⟨_, rfl⟩
  obtain ⟨W1, hW1⟩ : ∃ W, W = W0.alloc (.cells (encP pz) 41) := ⟨_, rfl⟩
  have s0 : W0.heap.size = w.heap.size + 1 := by rw [hW0]; simp
  have b0 : Below w.heap.size w W0 := hW0 ▸ (Below.refl _ _).alloc (Nat.le_refl _) _
  have b1 : Below W0.heap.size W0 W1 := hW1 ▸ (Below.refl _ _).alloc (Nat.le_refl _) _
  have k0 : Blk W1 w.heap.size 27 #[.int .i64 m, .slice ab bs.length cb, .slice as' L.length cs] := (hW0 ▸ Blk.new w _ _ : Blk W0 w.heap.size 27 _).kept b1
  have k1 : Blk W1 (w.heap.size + 1) 41 (encP pz) := by rw [← s0]; exact (hW1 ▸ Blk.new W0 _ _ : Blk W1 W0.heap.size 41 _)
  have HW0 := hid hW0.symm
  have HW1 : Hid (W0.alloc (.cells #[.bool false, .int .u8 0, .int .u8 0, .int .u8 0, .int .u8 0, .int .u8 0, .int .u8 0, .int .u8 0, .int .u8 0, .int .u8 0, .int .u8 0, .int .u8 0, .int .u8 0, .int .u8 0, .int .u8 0, .int .u8 0, .int .u8 0, .int .i64 0] 41) = W1) := hid (by rw [hW1, encP_pz])
  have Hb1 : Hid (Below w.heap.size w W1.drew) := hid (bel2 b0 b1).drew
  have KT : Hid (Blk W1.drew w.heap.size 27 #[.int .i64 m, .slice ab bs.length cb, .slice as' L.length cs]) := hid k0
  have KP : Hid (Blk W1.drew (w.heap.size + 1) 41 (encP pz)) := hid k1
  have HZ := hid (encP_size pz)
  obtain ⟨x3, hx3⟩ : ∃ x, x = hashN 3 ys := ⟨_, rfl⟩
  have hxr := hashN_range 3 ys
  obtain ⟨p, hp⟩ : ∃ p, p = ofP m ys := ⟨_, rfl⟩
  have HP : Hid (p = ofP m ys) := hid hp
  have HOf : Hid (∀ V, Below w.heap.size w V → Calls Tryz.prog 32 #[.int .u64 3, .slice ad ys.length cap] V fun e w' => e = .returned (.int .u64 x3) ∧ Below V.heap.size V w') := hid (fun V hb => by
    rw [hx3]
    exact of_any 3 ad cap ys hby (by omega) V (hE.kept hb) ((hI.below hb).mono hb.size))
  have HBl : Hid (∀ V, Calls Tryz.prog 31 #[.int .u64 x3, .int .i64 m] V fun e w' => e = .returned (.int .i64 p) ∧ Below V.heap.size V w') := hid (fun V => by
    have h := below_any x3 m (by rw [hx3]; exact hxr) hm1 hm2 V
    have e : (if m < 1 then 0 else x3 % m) = p := by rw [hp, hx3]; rfl
    rw [e] at h
    exact h.mono fun _ _ ⟨h1, h2⟩ => ⟨h1, h2 ▸ Below.refl _ _⟩)
  obtain ⟨y, hyy⟩ : ∃ y, y = ownW m bs L p := ⟨_, rfl⟩
  have HY : Hid (y = ownW m bs L p) := hid hyy
  have HAt : Hid (∀ V, Below w.heap.size w V → Calls Tryz.prog 16 #[.agg #[.int .i64 m, .slice ab bs.length cb, .slice as' L.length cs], .int .i64 p] V fun e w' => e = .returned (.tuple #[.agg (encP (y.getD pz)), .bool y.isSome]) ∧ Below V.heap.size V w') := hid (fun V hb => by
    rw [hyy]
    exact at_any m bs L ab as' cb cs p hLm hbm V (hT.kept hb))
  have HR : Hid (ansO y = .tuple #[.agg (encP (y.getD pz)), .bool y.isSome]) := hid rfl
  have HX := hid (encP_size (y.getD pz))
  have HX1 := hid (encP_one (y.getD pz))
  generalize y.getD pz = x at *
  generalize y.isSome = q at *
  generalize ys.length = yl at *
  generalize bs.length = bl at *
  generalize L.length = ll at *
  clear hW0 hW1 s0 b0 b1 k0 k1 hT hI hE hby hy hx3 hxr hp hyy hm1 hm2 hLm hbm
  have hKeep : Hid (∀ (V V' : World), (Below (w.heap.size + 1) W1.drew V ∧ (∃ cs : Array Value, Blk V (w.heap.size + 1) 41 cs ∧ cs.size = 18) ∧ Below w.heap.size w V) → Below V.heap.size V V' → (Below (w.heap.size + 1) W1.drew V' ∧ (∃ cs : Array Value, Blk V' (w.heap.size + 1) 41 cs ∧ cs.size = 18) ∧ Below w.heap.size w V')) := hid (fun V V' h hb => by
    obtain ⟨h1, ⟨cs, h2, h4⟩, h3⟩ := h
    have hlt := h2.lt
    exact ⟨h1.trans (hb.mono (by omega)), ⟨cs, h2.kept hb, h4⟩, h3.trans (hb.mono (by omega))⟩)
  go_enter Tryz.func11, Tryz.ntmps11
  go_upto_region 1 with fail
  rw [HW0.out]
  rw [HW1.out]
  refine wp_region_held_drew (S := fun V => Below (w.heap.size + 1) W1.drew V ∧ (∃ cs : Array Value, Blk V (w.heap.size + 1) 41 cs ∧ cs.size = 18) ∧ Below w.heap.size w V) (by kernel_rfl) ⟨Below.refl _ _, ⟨_, KP.out, HZ.out⟩, Hb1.out⟩ (fun hS => ?_)
  change wpAnyH _ _ _ _ _ 11 #[false, false, false, false, false, false, false, false, false, false, false] _ _
  refine wpAnyH_take (i := 0) (v := .agg #[.int .i64 m, .slice ab bl cb, .slice as' ll cs]) rfl (by kernel_rfl) (by kernel_rfl) (by kernel_rfl) (fun _ _ _ h => h) (yields_load 27 (.tmp 2) rfl w.heap.size rfl 27 _ _ (fun V h => blk_same KT.out (h.1.block _ (Nat.lt_succ_self _))) Tryz.underlying27 rfl 3 Tryz.infoTable rfl (by kernel_rfl)) hS ?_
  simp only [List.getElem_toArray, List.getElem_cons_zero, List.getElem_cons_succ, Act.put, List.setIfInBounds_toArray, List.set_cons_zero, List.set_cons_succ]
  refine wpAnyH_take (i := 1) (v := .slice ad yl cap) rfl (by kernel_rfl) (by kernel_rfl) (by kernel_rfl) (fun _ _ _ h => h) (.inl ⟨by kernel_rfl, fun V hV => by unfold execOp; go_simp⟩) hS ?_
  simp only [List.getElem_toArray, List.getElem_cons_zero, List.getElem_cons_succ, Act.put, List.setIfInBounds_toArray, List.set_cons_zero, List.set_cons_succ]
  refine wpAnyH_take (i := 3) (v := .pointer (some ⟨w.heap.size, 0, none⟩)) rfl (by kernel_rfl) (by kernel_rfl) (by kernel_rfl) (fun _ _ _ h => h) (.inl ⟨by kernel_rfl, fun V hV => by unfold execOp; go_simp⟩) hS ?_
  simp only [List.getElem_toArray, List.getElem_cons_zero, List.getElem_cons_succ, Act.put, List.setIfInBounds_toArray, List.set_cons_zero, List.set_cons_succ]
  refine wpAnyH_take (i := 4) (v := .int .i64 m) rfl (by kernel_rfl) (by kernel_rfl) (by kernel_rfl) (fun _ _ _ h => h) (.inl ⟨by kernel_rfl, fun V hV => by have c0 : V.cell? ⟨w.heap.size, 0, none⟩ = some (.int .i64 m) := (blk_same KT.out (hV.1.block _ (Nat.lt_succ_self _))).cell 0; unfold execOp; go_simp⟩) hS ?_
  simp only [List.getElem_toArray, List.getElem_cons_zero, List.getElem_cons_succ, Act.put, List.setIfInBounds_toArray, List.set_cons_zero, List.set_cons_succ]
  refine wpAnyH_ready (rs := [2]) (by kernel_rfl) (by simp) ?_
  refine AllReadyH.cons rfl (fun K' hK => ?_) AllReadyH.nil
  refine r_call 32 #[.int .u64 3, .slice ad yl cap] (by kernel_rfl) (by kernel_rfl) (.int .u64 x3) (HOf.out _ hS.2.2) (fun V3 h => hK.out _ _ (hKeep.out _ _ hS h) (fun hS => ?_))
  simp only [List.getElem_toArray, List.getElem_cons_zero, List.getElem_cons_succ, Act.put, List.setIfInBounds_toArray, List.set_cons_zero, List.set_cons_succ]
  refine wpAnyH_ready (rs := [5]) (by kernel_rfl) (by simp) ?_
  refine AllReadyH.cons rfl (fun K' hK => ?_) AllReadyH.nil
  refine r_call 31 #[.int .u64 x3, .int .i64 m] (by kernel_rfl) (by kernel_rfl) (.int .i64 p) (HBl.out _) (fun V3 h => hK.out _ _ (hKeep.out _ _ hS h) (fun hS => ?_))
  simp only [List.getElem_toArray, List.getElem_cons_zero, List.getElem_cons_succ, Act.put, List.setIfInBounds_toArray, List.set_cons_zero, List.set_cons_succ]
  refine wpAnyH_ready (rs := [6]) (by kernel_rfl) (by simp) ?_
  refine AllReadyH.cons rfl (fun K' hK => ?_) AllReadyH.nil
  refine r_call 16 #[.agg #[.int .i64 m, .slice ab bl cb, .slice as' ll cs], .int .i64 p] (by kernel_rfl) (by kernel_rfl) (.tuple #[.agg (encP x), .bool q]) (HAt.out _ hS.2.2) (fun V3 h => hK.out _ _ (hKeep.out _ _ hS h) (fun hS => ?_))
  simp only [List.getElem_toArray, List.getElem_cons_zero, List.getElem_cons_succ, Act.put, List.setIfInBounds_toArray, List.set_cons_zero, List.set_cons_succ]
  refine wpAnyH_take (i := 7) (v := .agg (encP x)) rfl (by kernel_rfl) (by kernel_rfl) (by kernel_rfl) (fun _ _ _ h => h) (.inl ⟨by kernel_rfl, fun V hV => by unfold execOp; go_simp⟩) hS ?_
  simp only [List.getElem_toArray, List.getElem_cons_zero, List.getElem_cons_succ, Act.put, List.setIfInBounds_toArray, List.set_cons_zero, List.set_cons_succ]
  refine wpAnyH_take (i := 8) (v := .bool q) rfl (by kernel_rfl) (by kernel_rfl) (by kernel_rfl) (fun _ _ _ h => h) (.inl ⟨by kernel_rfl, fun V hV => by unfold execOp; go_simp⟩) hS ?_
  simp only [List.getElem_toArray, List.getElem_cons_zero, List.getElem_cons_succ, Act.put, List.setIfInBounds_toArray, List.set_cons_zero, List.set_cons_succ]
  refine wpAnyH_ready (rs := [9]) (by kernel_rfl) (by simp) ?_
  refine AllReadyH.cons rfl (fun K' hK => ?_) AllReadyH.nil
  obtain ⟨z, hz1, hz2⟩ := hS.2.1
  rw [if_pos (by kernel_rfl)]
  refine wp_store_row 41 (.tmp 4) (.tmp 13) rfl (w.heap.size + 1) (encP x) rfl rfl 41 z hz1 (by rw [HX.out]; exact Tryz.infoPoint) (hz2.trans HX.out.symm) HX1.out (hK.out _ _ ⟨below_setRow hS.1 (Nat.le_refl _) _, ⟨_, Blk.row hz1 _, HX.out⟩, below_setRow hS.2.2 (Nat.le_succ _) _⟩ (fun hS2 => ?_))
  simp only [List.getElem_toArray, List.getElem_cons_zero, List.getElem_cons_succ, Act.put, List.setIfInBounds_toArray, List.set_cons_zero, List.set_cons_succ]
  refine wpAnyH_take (i := 10) (v := .bool q) rfl (by kernel_rfl) (by kernel_rfl) (by kernel_rfl) (fun _ _ _ h => h) (.inl ⟨by kernel_rfl, fun V hV => by unfold execOp; go_simp⟩) hS2 ?_
  simp only [List.getElem_toArray, List.getElem_cons_zero, List.getElem_cons_succ, Act.put, List.setIfInBounds_toArray, List.set_cons_zero, List.set_cons_succ]
  refine wpAnyH_done (by kernel_rfl) ?_ _
  go_wp2
  rw [← HP.out, ← HY.out, HR.out]
  refine retA2 rfl (w.heap.size + 1) rfl 41 _ _ (Blk.row hz1 _) Tryz.underlying41 rfl 18 Tryz.infoPoint HX.out.symm rfl _ rfl ⟨rfl, hS2.2.2⟩
end Go.Proofs.YtahconkjhneogaaGreatDoor

namespace Go.Proofs.YtahconkjhneogaaGreatDoor
open Go.RowKit Go.Lib Go.Sort

theorem psorted_idem (xs : List PS) : psorted (psorted xs) = psorted xs := by
  have h1 := sorted_facts xs
  have h2 := sorted_facts (psorted xs)
  exact rising_unique _ _ h2.1 h1.1 fun a => h2.2 a
theorem anyNo_psorted (xs : List PS) : anyNo (psorted xs) = anyNo xs := by
  have h1 := sorted_facts xs
  unfold anyNo
  rw [Bool.eq_iff_iff, List.any_eq_true, List.any_eq_true]
  exact ⟨fun ⟨x, hx, hp⟩ => ⟨x, (h1.2 x).1 hx, hp⟩, fun ⟨x, hx, hp⟩ => ⟨x, (h1.2 x).2 hx, hp⟩⟩
theorem fillE_psorted (xs : List PS) (m : Int) : fillE (psorted xs) m = fillE xs m := by
  unfold fillE
  rw [anyNo_psorted, psorted_idem]
theorem right_filled (xs : List PS) (M : Nat) (h : fillE xs M = 0) : rightT M (psorted xs) (fillT (ordL M (psorted xs)) (psorted xs).length M M) = true := by
  unfold rightT tabT sameT
  rw [fillE_psorted, psorted_idem, Int.toNat_natCast, decide_eq_true h, decide_eq_true rfl, decide_eq_true rfl, decide_eq_true rfl]
  rfl
theorem plcN_nat {M : Nat} (hM : sizedB (M : Int) = true) (ys : List Int) : ∃ p : Nat, p < M ∧ plcN M ys = (p : Int) ∧ ofP M ys = (p : Int) := by
  have := (sized_range hM).1
  have h1 := Int.emod_nonneg (hashN 3 ys) (show (M : Int) ≠ 0 by omega)
  have h2 := Int.emod_lt_of_pos (hashN 3 ys) (show (0 : Int) < M by omega)
  refine ⟨(hashN 3 ys % M).toNat, by omega, by unfold plcN; omega, by unfold ofP; rw [if_neg (by omega)]; omega⟩

/-- What a filling ends with, as a table in memory, with its room. -/
theorem FillEnd.tabC {E : Nat → TypeId × Value} {xs : List PS} {m : Int} {w : World} {e : Ending} {w' : World} (h : FillEnd E xs m w e w') :
    Below w.heap.size w w' ∧ ((fillE xs m ≠ 0 ∧ e = .returned (.tuple #[.agg #[.int .i64 0, .slice none 0 0, .slice none 0 0], .iface (E (fillE xs m)).1 (E (fillE xs m)).2])) ∨
      (fillE xs m = 0 ∧ ∃ (M : Nat) (ab : Option Addr) (cap S : Nat), m = (M : Int) ∧ sizedB (M : Int) = true ∧ 0 < (psorted xs).length ∧ (psorted xs).length ≤ 24 ∧ (psorted xs).length ≤ M ∧ e = .returned (.tuple #[.agg #[.int .i64 (M : Int), .slice ab (psorted xs).length cap, .slice (some ⟨S, 0, none⟩) (fillT (ordL M (psorted xs)) (psorted xs).length M M).length M], .nilIface]) ∧
        (psorted xs).length ≤ cap ∧ TabIn w'.heap.size w' ab (some ⟨S, 0, none⟩) (psorted xs) (fillT (ordL M (psorted xs)) (psorted xs).length M M))) := by
  have ht := h.tab
  obtain ⟨hb, h | ⟨h0, M, ab, cap, S, hM, he, h1, h2, h3⟩⟩ := h
  · exact ⟨hb, .inl h⟩
  · obtain ⟨_, ⟨hne, _⟩ | ⟨_, M', ab', cap', S', hM', g1, g2, g3, g4, _, _⟩⟩ := ht
    · exact absurd h0 hne
    · obtain rfl : M' = M := by omega
      exact ⟨hb, .inr ⟨h0, M', ab, cap, S, hM, g1, g2, g3, g4, by rw [fillT_length]; exact he, h1, h2, h3.ints⟩⟩
end Go.Proofs.YtahconkjhneogaaGreatDoor

namespace Go.Proofs.YtahconkjhneogaaGreatDoor
open Go.RowKit Go.Lib

set_option linter.unusedSimpArgs false in
set_option maxRecDepth 100000 in
set_option maxHeartbeats 4000000 in
theorem points_any (xs ys : List PS) (ax ay : Option Addr) (cx cy : Nat) (hx : xs.length ≤ 100000) (w : World) (hX : Elems encP 18 w.heap.size w ax xs) (hY : Elems encP 18 w.heap.size w ay ys) :
    Calls Tryz.prog 9 #[.slice ax xs.length cx, .slice ay ys.length cy] w fun e w' => e = .returned (.bool (decide (xs = ys))) ∧ Below w.heap.size w w' := by
  have HX := hid hX
  have HY := hid hY
  obtain ⟨n, hn⟩ : ∃ n, n = xs.length := ⟨_, rfl⟩
  obtain ⟨k, hk⟩ : ∃ k, k = ys.length := ⟨_, rfl⟩
  rw [← hn] at hx
  rw [← hn, ← hk]
  have Hn := hid hn
  have Hk := hid hk
  by_cases hne : n = k
  · subst hne
    have HN : Hid (∀ j (h1 : j < xs.length) (h2 : j < ys.length), xs[j] ≠ ys[j] → false = decide (xs = ys)) := hid (fun j h1 h2 h => by
      symm
      rw [decide_eq_false_iff_not]
      rintro rfl
      exact h rfl)
    have HA : Hid ((∀ j (h1 : j < xs.length) (h2 : j < ys.length), xs[j] = ys[j]) → true = decide (xs = ys)) := hid (fun h => by
      symm
      rw [decide_eq_true_eq]
      exact List.ext_getElem (by omega) h)
    clear hn hk hX hY
    go_enter Tryz.func9, Tryz.ntmps9
    go_wp2
    go_loopg [13] n (fun g s13 wr => ∃ p : Nat, s13 = .int .i64 (p : Int) ∧ p ≤ n ∧ n - p ≤ g ∧ Hid (Below w.heap.size w wr) ∧ Hid (∀ j (h1 : j < xs.length) (h2 : j < ys.length), j < p → xs[j] = ys[j]))
    case atStart => exact ⟨0, rfl, by omega, by omega, hid (Below.refl _ _), hid (fun j _ _ h => by omega)⟩
    case round =>
      obtain ⟨p, rfl, hp, hgp, HB, HF⟩ := hrel
      by_cases hlt : p < n
      · have hpx : p < xs.length := by have := Hn.out; omega
        have hpy : p < ys.length := by have := Hk.out; omega
        obtain ⟨gx, ox, rfl, hgx, hcx⟩ := HX.out p hpx
        obtain ⟨gy, oy, rfl, hgy, hcy⟩ := HY.out p hpy
        obtain ⟨x, ex⟩ : ∃ x, x = xs[p] := ⟨_, rfl⟩
        obtain ⟨y, ey⟩ : ∃ y, y = ys[p] := ⟨_, rfl⟩
        have HXp : Hid (wr.drew.rangeAt gx (ox + p * 18) (encPL x)) := hid (ex ▸ rangeAt_below HB.out.drew hgx hcx)
        have HYp : Hid (wr.drew.rangeAt gy (oy + p * 18) (encPL y)) := hid (ey ▸ rangeAt_below HB.out.drew hgy hcy)
        have HNp : Hid (x ≠ y → false = decide (xs = ys)) := hid (fun h => HN.out p hpx hpy (by rw [← ex, ← ey]; exact h))
        have HFp : Hid (x = y → ∀ j (h1 : j < xs.length) (h2 : j < ys.length), j < p + 1 → xs[j] = ys[j]) := hid (fun h j h1 h2 hj => by
          by_cases e : j = p
          · subst e; rw [← ex, ← ey]; exact h
          · exact HF.out j h1 h2 (by omega))
        have HB2 := hid HB.out.drew
        clear hcx hcy ex ey hpx hpy
        by_cases hxy : x = y
        · have HF2 := hid (HFp.out hxy)
          have heq := neq_pt x y
          rw [decide_eq_true hxy] at heq
          clear hxy
          go_wp2_with fail
          refine wp_region_held_drew (S := fun V => V = wr.drew) (by kernel_rfl) rfl (fun hS => ?_)
          change wpAnyH _ _ _ _ _ 9 #[false, false, false, false, false, false, false, false, false] _ _
          refine wpAnyH_take (i := 0) (v := .slice (some ⟨gx, ox, none⟩) n cx) rfl (by kernel_rfl) (by kernel_rfl) (by kernel_rfl) (fun _ _ _ h => h) (.inl ⟨by kernel_rfl, fun V hV => by unfold execOp; go_simp; try (intro h; omega)⟩) hS ?_
          simp only [List.getElem_toArray, List.getElem_cons_zero, List.getElem_cons_succ, Act.put, List.setIfInBounds_toArray, List.set_cons_zero, List.set_cons_succ]
          refine wpAnyH_take (i := 1) (v := .int .i64 (p : Int)) rfl (by kernel_rfl) (by kernel_rfl) (by kernel_rfl) (fun _ _ _ h => h) (.inl ⟨by kernel_rfl, fun V hV => by unfold execOp; go_simp; try (intro h; omega)⟩) hS ?_
          simp only [List.getElem_toArray, List.getElem_cons_zero, List.getElem_cons_succ, Act.put, List.setIfInBounds_toArray, List.set_cons_zero, List.set_cons_succ]
          refine wpAnyH_take (i := 2) (v := .pointer (some ⟨gx, ox + p * 18, none⟩)) rfl (by kernel_rfl) (by kernel_rfl) (by kernel_rfl) (fun _ _ _ h => h) (.inl ⟨by kernel_rfl, fun V hV => by unfold execOp; go_simp; try (intro h; omega)⟩) hS ?_
          simp only [List.getElem_toArray, List.getElem_cons_zero, List.getElem_cons_succ, Act.put, List.setIfInBounds_toArray, List.set_cons_zero, List.set_cons_succ]
          refine wpAnyH_take (i := 3) (v := .agg (encP x)) rfl (by kernel_rfl) (by kernel_rfl) (by kernel_rfl) (fun _ _ _ h => h) (yieldsIf_load_mid (by kernel_rfl) 41 (.tmp 18) rfl gx (ox + p * 18) rfl (encPL x) _ (fun V hV => hV ▸ HXp.out) Tryz.underlying41 rfl (encPL_info0 x)) hS ?_
          simp only [List.getElem_toArray, List.getElem_cons_zero, List.getElem_cons_succ, Act.put, List.setIfInBounds_toArray, List.set_cons_zero, List.set_cons_succ]
          refine wpAnyH_take (i := 4) (v := .slice (some ⟨gy, oy, none⟩) n cy) rfl (by kernel_rfl) (by kernel_rfl) (by kernel_rfl) (fun _ _ _ h => h) (.inl ⟨by kernel_rfl, fun V hV => by unfold execOp; go_simp; try (intro h; omega)⟩) hS ?_
          simp only [List.getElem_toArray, List.getElem_cons_zero, List.getElem_cons_succ, Act.put, List.setIfInBounds_toArray, List.set_cons_zero, List.set_cons_succ]
          refine wpAnyH_take (i := 5) (v := .int .i64 (p : Int)) rfl (by kernel_rfl) (by kernel_rfl) (by kernel_rfl) (fun _ _ _ h => h) (.inl ⟨by kernel_rfl, fun V hV => by unfold execOp; go_simp; try (intro h; omega)⟩) hS ?_
          simp only [List.getElem_toArray, List.getElem_cons_zero, List.getElem_cons_succ, Act.put, List.setIfInBounds_toArray, List.set_cons_zero, List.set_cons_succ]
          refine wpAnyH_take (i := 6) (v := .pointer (some ⟨gy, oy + p * 18, none⟩)) rfl (by kernel_rfl) (by kernel_rfl) (by kernel_rfl) (fun _ _ _ h => h) (.inl ⟨by kernel_rfl, fun V hV => by unfold execOp; go_simp; try (intro h; omega)⟩) hS ?_
          simp only [List.getElem_toArray, List.getElem_cons_zero, List.getElem_cons_succ, Act.put, List.setIfInBounds_toArray, List.set_cons_zero, List.set_cons_succ]
          refine wpAnyH_take (i := 7) (v := .agg (encP y)) rfl (by kernel_rfl) (by kernel_rfl) (by kernel_rfl) (fun _ _ _ h => h) (yieldsIf_load_mid (by kernel_rfl) 41 (.tmp 22) rfl gy (oy + p * 18) rfl (encPL y) _ (fun V hV => hV ▸ HYp.out) Tryz.underlying41 rfl (encPL_info0 y)) hS ?_
          simp only [List.getElem_toArray, List.getElem_cons_zero, List.getElem_cons_succ, Act.put, List.setIfInBounds_toArray, List.set_cons_zero, List.set_cons_succ]
          refine wpAnyH_take (i := 8) (v := .bool false) rfl (by kernel_rfl) (by kernel_rfl) (by kernel_rfl) (fun _ _ _ h => h) (.inl ⟨by kernel_rfl, fun V hV => by unfold execOp; simp [go_sem, heq]⟩) hS ?_
          simp only [List.getElem_toArray, List.getElem_cons_zero, List.getElem_cons_succ, Act.put, List.setIfInBounds_toArray, List.set_cons_zero, List.set_cons_succ]
          refine wpAnyH_done (by kernel_rfl) ?_ _
          clear hS
          clear heq
          go_wp2
          go_roundg (n - (p + 1))
          case measure => omega
          case rel => exact ⟨p + 1, by go_num, by omega, Nat.le_refl _, HB2, HF2⟩
        · have HR := hid (HNp.out hxy)
          have heq := neq_pt x y
          rw [decide_eq_false hxy] at heq
          clear hxy
          go_wp2_with fail
          refine wp_region_held_drew (S := fun V => V = wr.drew) (by kernel_rfl) rfl (fun hS => ?_)
          change wpAnyH _ _ _ _ _ 9 #[false, false, false, false, false, false, false, false, false] _ _
          refine wpAnyH_take (i := 0) (v := .slice (some ⟨gx, ox, none⟩) n cx) rfl (by kernel_rfl) (by kernel_rfl) (by kernel_rfl) (fun _ _ _ h => h) (.inl ⟨by kernel_rfl, fun V hV => by unfold execOp; go_simp; try (intro h; omega)⟩) hS ?_
          simp only [List.getElem_toArray, List.getElem_cons_zero, List.getElem_cons_succ, Act.put, List.setIfInBounds_toArray, List.set_cons_zero, List.set_cons_succ]
          refine wpAnyH_take (i := 1) (v := .int .i64 (p : Int)) rfl (by kernel_rfl) (by kernel_rfl) (by kernel_rfl) (fun _ _ _ h => h) (.inl ⟨by kernel_rfl, fun V hV => by unfold execOp; go_simp; try (intro h; omega)⟩) hS ?_
          simp only [List.getElem_toArray, List.getElem_cons_zero, List.getElem_cons_succ, Act.put, List.setIfInBounds_toArray, List.set_cons_zero, List.set_cons_succ]
          refine wpAnyH_take (i := 2) (v := .pointer (some ⟨gx, ox + p * 18, none⟩)) rfl (by kernel_rfl) (by kernel_rfl) (by kernel_rfl) (fun _ _ _ h => h) (.inl ⟨by kernel_rfl, fun V hV => by unfold execOp; go_simp; try (intro h; omega)⟩) hS ?_
          simp only [List.getElem_toArray, List.getElem_cons_zero, List.getElem_cons_succ, Act.put, List.setIfInBounds_toArray, List.set_cons_zero, List.set_cons_succ]
          refine wpAnyH_take (i := 3) (v := .agg (encP x)) rfl (by kernel_rfl) (by kernel_rfl) (by kernel_rfl) (fun _ _ _ h => h) (yieldsIf_load_mid (by kernel_rfl) 41 (.tmp 18) rfl gx (ox + p * 18) rfl (encPL x) _ (fun V hV => hV ▸ HXp.out) Tryz.underlying41 rfl (encPL_info0 x)) hS ?_
          simp only [List.getElem_toArray, List.getElem_cons_zero, List.getElem_cons_succ, Act.put, List.setIfInBounds_toArray, List.set_cons_zero, List.set_cons_succ]
          refine wpAnyH_take (i := 4) (v := .slice (some ⟨gy, oy, none⟩) n cy) rfl (by kernel_rfl) (by kernel_rfl) (by kernel_rfl) (fun _ _ _ h => h) (.inl ⟨by kernel_rfl, fun V hV => by unfold execOp; go_simp; try (intro h; omega)⟩) hS ?_
          simp only [List.getElem_toArray, List.getElem_cons_zero, List.getElem_cons_succ, Act.put, List.setIfInBounds_toArray, List.set_cons_zero, List.set_cons_succ]
          refine wpAnyH_take (i := 5) (v := .int .i64 (p : Int)) rfl (by kernel_rfl) (by kernel_rfl) (by kernel_rfl) (fun _ _ _ h => h) (.inl ⟨by kernel_rfl, fun V hV => by unfold execOp; go_simp; try (intro h; omega)⟩) hS ?_
          simp only [List.getElem_toArray, List.getElem_cons_zero, List.getElem_cons_succ, Act.put, List.setIfInBounds_toArray, List.set_cons_zero, List.set_cons_succ]
          refine wpAnyH_take (i := 6) (v := .pointer (some ⟨gy, oy + p * 18, none⟩)) rfl (by kernel_rfl) (by kernel_rfl) (by kernel_rfl) (fun _ _ _ h => h) (.inl ⟨by kernel_rfl, fun V hV => by unfold execOp; go_simp; try (intro h; omega)⟩) hS ?_
          simp only [List.getElem_toArray, List.getElem_cons_zero, List.getElem_cons_succ, Act.put, List.setIfInBounds_toArray, List.set_cons_zero, List.set_cons_succ]
          refine wpAnyH_take (i := 7) (v := .agg (encP y)) rfl (by kernel_rfl) (by kernel_rfl) (by kernel_rfl) (fun _ _ _ h => h) (yieldsIf_load_mid (by kernel_rfl) 41 (.tmp 22) rfl gy (oy + p * 18) rfl (encPL y) _ (fun V hV => hV ▸ HYp.out) Tryz.underlying41 rfl (encPL_info0 y)) hS ?_
          simp only [List.getElem_toArray, List.getElem_cons_zero, List.getElem_cons_succ, Act.put, List.setIfInBounds_toArray, List.set_cons_zero, List.set_cons_succ]
          refine wpAnyH_take (i := 8) (v := .bool true) rfl (by kernel_rfl) (by kernel_rfl) (by kernel_rfl) (fun _ _ _ h => h) (.inl ⟨by kernel_rfl, fun V hV => by unfold execOp; simp [go_sem, heq]⟩) hS ?_
          simp only [List.getElem_toArray, List.getElem_cons_zero, List.getElem_cons_succ, Act.put, List.setIfInBounds_toArray, List.set_cons_zero, List.set_cons_succ]
          refine wpAnyH_done (by kernel_rfl) ?_ _
          clear hS
          clear heq
          go_wp2
          go_ret
          exact ⟨ret_b rfl HR.out, HB2.out⟩
      · obtain rfl : p = n := by omega
        have HR := hid (HA.out (fun j h1 h2 => HF.out j h1 h2 (by have := Hn.out; omega)))
        go_wp2
        go_ret
        exact ⟨ret_b rfl HR.out, HB.out⟩
  · have HR : Hid (false = decide (xs = ys)) := hid (by
      symm
      rw [decide_eq_false_iff_not]
      rintro rfl
      exact hne (hn.trans hk.symm))
    have q : ((n : Int) != (k : Int)) = true := by rw [bne_iff_ne]; omega
    clear hn hk hX hY
    go_enter Tryz.func9, Tryz.ntmps9
    go_wp2
    go_ret
    exact ⟨ret_b rfl HR.out, Below.refl _ _⟩
end Go.Proofs.YtahconkjhneogaaGreatDoor

namespace Go.Proofs.YtahconkjhneogaaGreatDoor
open Go.RowKit Go.Shelf Go.Lib Go.Sort

theorem wpl_appP {ops : Array Oper} {rest : List Oper} {o : Oper} {a : Act} {w : World} {Q : Exit → Act → World → Prop} (s x : Operand) (ho : o.op = .call { callee := .builtin .append, args := #[s, x], argTypes := #[22, 22] }) (base : Nat) (v : Value) (n : Nat) (xs : List Value) (hs : a.eval s = v) (hown : w.ownsRow base 41 18 v n xs)
    (ao : Option Addr) (m c : Nat) (ks : List PS) (hx : a.eval x = .slice ao m c) (hl : ks.length = m) (n₀ : Nat) (hb : Elems encP 18 n₀ w ao ks) (hn : ao = none → m = 0 ∧ c = 0)
    (h63 : n + m ≤ 1000000) (hbase : base ≤ w.heap.size) (hw : Region.wanted o (yielded ops a.tmps) = true)
    (h : ∀ v' w', w'.ownsRow base 41 18 v' (n + m) (xs ++ flatY encP ks) → w.grownBy w' v.ownBlock → wpList Tryz.prog ops Q rest (a.put o.dst v') w') : wpList Tryz.prog ops Q (o :: rest) a w :=
  BigFrame.wpList_want hw fun K hK => by
    have := r_appK (ops := ops) (K := K) (Q := Q) (E := False) s x ho base v n xs hs hown ao m c ks hx hl n₀ hb hn h63 hbase hw (fun v' w' h1 h2 => hK _ _ (h v' w' h1 h2))
    rw [if_pos hw] at this
    exact this
end Go.Proofs.YtahconkjhneogaaGreatDoor

namespace Go.Proofs.YtahconkjhneogaaGreatDoor
open Go.ChangeShapes Go.WideShapes Go.ChangeAt Go.WideMaps Go.WideElems Go.RowKit

theorem own : ownKnob Tryz.prog.godebug = none := by kernel_rfl
theorem laidOutS : laidOutB Tryz.prog = true := by kernel_rfl

/-- A listed array of numbers. -/
theorem tab_of_reads {P : Program} {W : World} {name : String} {g n : Nat} {t e : TypeId} {k : IntKind} {zs : List Int} (hg : P.globalNamed name = some g) (hty : (P.globals[g]?).map (·.type) = some t) (ht : P.underlying t = some (.array n e)) (he : P.underlying e = some (.int k)) (hc : P.cellsOf e = 1)
    (h : Lib.VarReads P W name (.agg (zs.map fun z => .lit (.int k z)))) (i : Nat) (hi : i < n) (z : Int) (hz : zs[i]? = some z) : W.cell? ⟨g, i, none⟩ = some (.int k z) := by
  obtain ⟨g', t', cs, fuel, p, h1, h2, h3, h4⟩ := h
  obtain rfl := Option.some.inj (hg.symm.trans h1)
  obtain rfl := Option.some.inj (hty.symm.trans h2)
  obtain ⟨f', d, q, hd, htr⟩ := Lib.array_elem ht h4 i hi
  rw [hc] at htr
  obtain ⟨z', hcz, hd', _⟩ := DataW.trod_int he htr
  rw [List.getElem?_map, hz, Option.map_some, Option.some.injEq] at hd
  subst hd
  obtain rfl : z = z' := by simpa using congrArg Prod.fst hd'
  rw [World.var?_cell h1 h3 i, ← Array.getElem?_toList]
  have := congrArg (·[0]?) hcz
  simpa [List.getElem?_take, List.getElem?_drop] using this

theorem cell_lt {W : World} {g i : Nat} {v : Value} (h : W.cell? ⟨g, i, none⟩ = some v) : g < W.heap.size := by
  rcases Nat.lt_or_ge g W.heap.size with hl | hl
  · exact hl
  · unfold World.cell? at h
    rw [Array.getElem?_eq_none hl] at h
    cases h

set_option maxRecDepth 100000 in
theorem open_bs {H : Type} {enc : TypeId × Value → H} {W : World} {base : Nat} {v : Value} {d : DataW H} {p : List MemPlace} (hv : Value.okWide Tryz.prog W .any base 23 v) (h : DataW.Trod enc Tryz.prog W 0 (fun _ => true) true 23 v d p) :
    ∃ ad cap bs, v = .slice ad bs.length cap ∧ bs.length ≤ cap ∧ (ad = none → bs.length = 0 ∧ cap = 0) ∧ Byt bs ∧ Bys W.heap.size W ad bs ∧ (∀ x ∈ p, x.block < W.heap.size) := by
  obtain ⟨a1, len1, cap1, rfl⟩ := okWide_slice Tryz.underlying23 hv
  have lt1 : ∀ x ∈ p, x.block < W.heap.size := by obtain ⟨m, hm⟩ := h; exact DataW.trod_lt m _ _ _ hm
  obtain ⟨fuel, hf⟩ := h
  rcases open_ints Tryz.underlying23 Tryz.underlying5 (by kernel_rfl) hf with ⟨hcs, _⟩ | ⟨x, ln, c, zs, hcs, _, hl, hm, hz, _, hcell, hwz⟩
  · simp [Value.cells] at hcs
    obtain ⟨rfl, rfl, rfl⟩ := hcs
    exact ⟨none, 0, [], rfl, Nat.le_refl _, fun _ => ⟨rfl, rfl⟩, Byt.of (fun x hx => absurd hx (by simp)), (fun j hj => absurd hj (by simp)), lt1⟩
  · simp [Value.cells] at hcs
    obtain ⟨rfl, rfl, rfl⟩ := hcs
    simp only [if_true] at hz
    have e : (zs.take len1).length = len1 := by rw [List.length_take]; omega
    refine ⟨some x, cap1, zs.take len1, by rw [e], by omega, (fun h => by cases h), Byt.of (fun z hz' => bounds_u8 (hwz z (List.mem_of_mem_take hz'))), fun j hj => ?_, lt1⟩
    rw [e] at hj
    obtain ⟨b, off, spot⟩ := x
    have hspot : spot = none := by simpa [Addr.add] using World.cell?_spot (hcell 0 (by omega))
    subst hspot
    have hc := hcell j (by omega)
    rw [show (⟨b, off, none⟩ : Addr).add j = ⟨b, off + j, none⟩ by unfold Addr.add; split <;> simp_all] at hc
    refine ⟨b, off, rfl, cell_lt hc, ?_⟩
    rw [hc]
    simp [List.getD, show j < len1 by omega]

/-- The builder, with both: what is listed, and the world's shape. -/
theorem returnsInHanded_of_change_both {H : Type} {enc : TypeId × Value → H} {a : Assume} {C : Checked} {os : Os} {f : FuncId} {fn : Func} {s : ChangeSpec} {conds : List PathCond} {apart fresh handsOn again : Bool} {X : World → Array Value → Prop}
    (hX : ∀ (w w' : World) (args : Array Value), w.heap = w'.heap → X w args → X w' args)
    (own : ownKnob C.prog.godebug = none) (started : os.Started) (noInit : C.prog.inits.idxOf? f = none) (hfn : C.prog.funcs[f]? = some fn)
    (witness : ∃ (w : World) (tape : Tape) (i : Input), w.os = os ∧ (w.forCall tape i).Shaped C.prog ∧ i.vars = [] ∧ Input.okWide C.prog (w.forCall tape i) .any w.heap.size f i ∧
      ((s.pre enc C.prog fn conds apart (w.forCall tape i).memory i.args ∧ X (w.forCall tape i).memory i.args) ∧ sizedMet enc C.prog fn (OpenSpec.ofChange s) apart (w.forCall tape i).memory i.args) ∧ a.holds C.prog (lone (Frame.enter C.prog f i.args .normal) [] (w.forCall tape i)))
    (contract : ∀ (W : World) (base : Nat) (args : Array Value) (ds gs : List (DataW H)) (before : List MemPlace),
      (∀ (j : Nat) t v, fn.params[j]? = some t → args[j]? = some v → Value.okWide C.prog W .any base t v) →
      DataW.Whole enc C.prog fn.params.toList s.vars apart W args.toList ds gs before → X W args → W.ShapedOpen C.prog →
      Calls C.prog f args W fun e W' => ∃ v, e = .returned v ∧ s.post enc C.prog fn apart fresh handsOn again W args v W') :
    ReturnsInHanded a C os f .any (fun w args => (s.pre enc C.prog fn conds apart w args ∧ X w args) ∧ sizedMet enc C.prog fn (OpenSpec.ofChange s) apart w args) (s.post enc C.prog fn apart fresh handsOn again) := by
  refine returnsInHanded_of_calls own started noInit witness ?_
  intro w tape i _ hsh _ hok hpre _
  obtain ⟨_, _, _, fn', hfn', _, _, _, _, hval⟩ := hok
  have e : fn' = fn := Option.some.inj (hfn'.symm.trans hfn)
  subst e
  obtain ⟨⟨⟨ds, gs, before, hw, _⟩, hx⟩, _⟩ := hpre
  have hw' := DataW.Whole.of_heap (w' := w.forCall tape i) (by rfl) hw
  refine (contract (w.forCall tape i) w.heap.size i.args ds gs before hval hw' (hX _ _ _ (by rfl) hx) hsh).mono fun e W' ⟨v, he, hp⟩ => ?_
  subst he
  exact ChangeSpec.post_blind hp
end Go.Proofs.YtahconkjhneogaaGreatDoor

namespace Go.Proofs.YtahconkjhneogaaGreatDoor
open Go.ChangeShapes Go.WideShapes Go.ChangeAt Go.WideMaps Go.WideElems Go.RowKit Go.Joins

theorem iface_of_reads {P : Program} {W : World} {name nm : String} {d : DataW Unit} {g : Nat} {t : TypeId} {ms : Array (String × TypeId)}
    (hg : P.globalNamed name = some g) (hty : (P.globals[g]?).map (·.type) = some t) (ht : P.underlying t = some (.interface ms))
    (h : Lib.VarReads P W name (.iface nm d)) : ∃ u p, W.cell? ⟨g, 0, none⟩ = some (.iface u p) := by
  obtain ⟨g', t', cs, fuel, p, h1, h2, h3, h4⟩ := h
  obtain rfl := Option.some.inj (hg.symm.trans h1)
  obtain rfl := Option.some.inj (hty.symm.trans h2)
  obtain ⟨_, u, v, e, _, _⟩ := iface_of_trod ht h4
  refine ⟨u, v, ?_⟩
  rw [World.var?_cell h1 h3 0, ← Array.getElem?_toList, e]
  rfl

theorem Tryz.cellsStride : Tryz.prog.cellsOf 100 = 3 := by kernel_rfl

section
variable {H : Type} {enc : TypeId × Value → H}
def strideData (a b c : Int) : DataW H := .agg [.lit (.int .i64 a), .lit (.int .i64 b), .lit (.int .i64 c)]
set_option maxRecDepth 100000 in
theorem open_stride {W : World} {base b0 : Nat} {sp : Nat → Bool} {held : Bool} {r : Reach} {v : Value} {d : DataW H} {ps : List MemPlace} (hv : Value.okWide Tryz.prog W r b0 100 v) (h : DataW.Trod enc Tryz.prog W base sp held 100 v d ps) :
    ∃ a b c, v = .agg #[.int .i64 a, .int .i64 b, .int .i64 c] ∧ d = strideData a b c ∧ ps = [] ∧ (Lit.int .i64 a).wf = true ∧ (Lit.int .i64 b).wf = true ∧ (Lit.int .i64 c).wf = true := by
  obtain ⟨c0, c1, c2, y0, y1, y2, m, rfl, rfl, rfl, hy0, hy1, hy2⟩ := open_agg3 Tryz.underlying100 (by kernel_rfl) Tryz.cellsStride hv h
  obtain ⟨a, e0, rfl, wa⟩ := DataW.trod_int Tryz.underlying3 hy0
  obtain ⟨b, e1, rfl, wb⟩ := DataW.trod_int Tryz.underlying3 hy1
  obtain ⟨c, e2, rfl, wc⟩ := DataW.trod_int Tryz.underlying3 hy2
  simp at e0 e1 e2
  subst e0 e1 e2
  exact ⟨a, b, c, rfl, rfl, rfl, wa, wb, wc⟩
set_option maxRecDepth 100000 in
theorem shut_stride {W : World} {base : Nat} {sp : Nat → Bool} {held : Bool} {a b c : Int} (ha : (Lit.int .i64 a).wf = true) (hb : (Lit.int .i64 b).wf = true) (hc : (Lit.int .i64 c).wf = true) :
    DataW.Trod enc Tryz.prog W base sp held 100 (.agg #[.int .i64 a, .int .i64 b, .int .i64 c]) (strideData a b c) [] :=
  shut_agg3 (y0 := (.lit (.int .i64 a), [])) (y1 := (.lit (.int .i64 b), [])) (y2 := (.lit (.int .i64 c), [])) Tryz.underlying100 (by kernel_rfl) Tryz.cellsStride
    ⟨1, by simp [DataW.trod, Tryz.underlying3, ha]⟩ ⟨1, by simp [DataW.trod, Tryz.underlying3, hb]⟩ ⟨1, by simp [DataW.trod, Tryz.underlying3, hc]⟩
end
end Go.Proofs.YtahconkjhneogaaGreatDoor

namespace Go.Proofs.YtahconkjhneogaaGreatDoor
open Go.ChangeShapes Go.WideShapes Go.RowKit

theorem add_add (a : Addr) (i j : Nat) : (a.add i).add j = a.add (i + j) := by
  rcases a with ⟨g, o, sp⟩
  unfold Addr.add
  by_cases hi : i = 0
  · subst hi
    by_cases hj : j = 0
    · subst hj; simp
    · simp [hj]
  · by_cases hj : j = 0
    · subst hj; simp [hi]
    · simp [hi, hj, Nat.add_assoc]
theorem list_of {α : Type} (P : Nat → α → Prop) : ∀ n, (∀ i, i < n → ∃ x, P i x) → ∃ xs : List α, xs.length = n ∧ ∀ i (h : i < xs.length), P i xs[i]
  | 0, _ => ⟨[], rfl, fun i h => absurd h (by simp)⟩
  | n + 1, h => by
    obtain ⟨xs, h1, h2⟩ := list_of P n (fun i hi => h i (by omega))
    obtain ⟨x, hx⟩ := h n (by omega)
    refine ⟨xs ++ [x], by simp [h1], fun i hi => ?_⟩
    by_cases hin : i < xs.length
    · rw [List.getElem_append_left hin]
      exact h2 i hin
    · have : i = n := by simp at hi; omega
      subst this
      rw [List.getElem_append_right (by omega)]
      simpa [h1] using hx

section
variable {H : Type} {enc : TypeId × Value → H}
def natOf : Value → Nat
  | .int _ n => n.toNat
  | _ => 0
theorem open_bytes16 {W : World} {base : Nat} {sp : Nat → Bool} {held : Bool} {fuel : Nat} {cs : List Value} {x : DataW H × List MemPlace} (h : DataW.trod enc Tryz.prog W base sp held fuel 37 cs = some x) :
    ∃ l : List Nat, l.length = 16 ∧ (∀ n ∈ l, n < 256) ∧ cs = l.map (fun n : Nat => Value.int .u8 n) ∧ x = (.agg (l.map fun n : Nat => .lit (.int .u8 n)), []) := by
  obtain ⟨xs, m, rfl, rfl, hl, hn, hall⟩ := DataW.trod_array Tryz.underlying37 h
  have hc : Tryz.prog.cellsOf 5 = 1 := by kernel_rfl
  have hl : cs.length = 16 := hl.trans (by kernel_rfl)
  simp only [hc, Nat.mul_one] at hall
  have each : ∀ i, i < 16 → ∃ n : Nat, n < 256 ∧ cs[i]? = some (.int .u8 n) ∧ xs[i]? = some (.lit (.int .u8 n), []) := by
    intro i hi
    have hi' : i < xs.length := by omega
    have := hall i hi
    rw [List.getElem?_eq_getElem hi'] at this
    obtain ⟨n, h1, h2, h3⟩ := DataW.trod_int Tryz.underlying5 this
    have hb := bounds_u8 h3
    obtain ⟨m, rfl⟩ : ∃ m : Nat, n = m := ⟨n.toNat, by omega⟩
    refine ⟨m, by omega, ?_, by rw [List.getElem?_eq_getElem hi', h2]⟩
    have := congrArg (·[0]?) h1
    simpa [List.getElem?_take, List.getElem?_drop] using this
  refine ⟨(List.range 16).map fun i => natOf (cs[i]?.getD .nilIface), by simp, ?_, ?_, ?_⟩
  · intro n hn
    obtain ⟨i, hi, rfl⟩ := List.mem_map.1 hn
    obtain ⟨k, hk, h1, _⟩ := each i (List.mem_range.1 hi)
    simp [h1, natOf, hk]
  · apply List.ext_getElem?
    intro i
    by_cases hi : i < 16
    · obtain ⟨k, hk, h1, _⟩ := each i hi
      simp [h1, hi, natOf]
    · rw [List.getElem?_eq_none (by omega), List.getElem?_eq_none (by simp; omega)]
  · have e : xs = ((List.range 16).map fun i => natOf (cs[i]?.getD .nilIface)).map fun n : Nat => ((.lit (.int .u8 n), []) : DataW H × List MemPlace) := by
      apply List.ext_getElem?
      intro i
      by_cases hi : i < 16
      · obtain ⟨k, hk, h1, h2⟩ := each i hi
        simp [h1, h2, hi, natOf]
      · rw [List.getElem?_eq_none (by omega), List.getElem?_eq_none (by simp; omega)]
    rw [e]
    simp
theorem pnt_listY (s : Bool) (x : List Nat) (n : Int) : (pnt s (ints x) n).toList = (.bool s :: x.map fun n : Nat => Value.int .u8 n) ++ [.int .i64 n] := by
  simp [pnt, ints]
set_option maxRecDepth 100000 in
theorem open_pntc {W : World} {base : Nat} {sp : Nat → Bool} {held : Bool} {fuel : Nat} {cs : List Value} {x : DataW H × List MemPlace} (hf : DataW.trod enc Tryz.prog W base sp held fuel 41 cs = some x) (hs : cs.length = 18) : ∃ c : PS, cs = encPL c := by
  obtain ⟨y0, y1, n, hx, hl, h0, h1⟩ := trod_struct2 Tryz.underlying41 hf
  have hca : Tryz.prog.cellsOf 39 = 17 := by kernel_rfl
  have hci : Tryz.prog.cellsOf 3 = 1 := by kernel_rfl
  have hc0 : Tryz.prog.cellsOf 4 = 1 := by kernel_rfl
  have hc1 : Tryz.prog.cellsOf 37 = 16 := by kernel_rfl
  simp only [hca, hci] at h0 h1
  obtain ⟨z0, z1, k, hz, hzl, k0, k1⟩ := trod_struct2 Tryz.underlying39 h0
  simp only [hc0, hc1] at k0 k1
  obtain ⟨s, e0, rfl⟩ := DataW.trod_bool Tryz.underlying4 k0
  obtain ⟨l, hxl, hxb, e1, rfl⟩ := open_bytes16 k1
  obtain ⟨m, e2, rfl, hwf⟩ := DataW.trod_int Tryz.underlying3 h1
  refine ⟨⟨(s, l, m), hxl, hxb⟩, ?_⟩
  show cs = (pnt s (ints l) m).toList
  rw [pnt_listY, ← List.take_append_drop 17 cs]
  simp only [List.drop_zero] at e0 e1
  have a1 : cs.take 17 = .bool s :: l.map fun n : Nat => Value.int .u8 n := by
    rw [← List.take_append_drop 1 (cs.take 17), e0]
    rw [List.take_of_length_le (by simp [hs])] at e1
    rw [e1]
    rfl
  have a2 : cs.drop 17 = [.int .i64 m] := by
    rw [List.take_of_length_le (by simp [hs])] at e2
    exact e2
  rw [a1, a2]
set_option maxRecDepth 100000 in
theorem open_points {W : World} {v : Value} {d : DataW H} {p : List MemPlace} (hsl : ∃ a len cap, v = .slice a len cap) (h : DataW.Trod enc Tryz.prog W 0 (fun _ => true) true 22 v d p) :
    ∃ (ad : Option Addr) (cap : Nat) (xs : List PS), v = .slice ad xs.length cap ∧ xs.length ≤ cap ∧ (ad = none → xs.length = 0 ∧ cap = 0) ∧ Elems encP 18 W.heap.size W ad xs := by
  obtain ⟨a0, len0, cap0, rfl⟩ := hsl
  obtain ⟨fuel, hf⟩ := h
  rcases DataW.trod_slice Tryz.underlying22 hf with ⟨h0, _⟩ | ⟨a, len, cap, elems, rest, n, _, h0, _, _, hl, hm, hlen, hel, _, _⟩
  · have h0' : Value.slice a0 len0 cap0 = .slice none 0 0 := by simpa [Value.cells] using h0
    rw [h0']
    exact ⟨none, 0, [], rfl, Nat.le_refl _, fun _ => ⟨rfl, rfl⟩, fun j hj => absurd hj (by simp)⟩
  · have h0' : Value.slice a0 len0 cap0 = .slice (some a) len cap := by simpa [Value.cells] using h0
    rw [h0']
    have hc : Tryz.prog.cellsOf 41 = 18 := by kernel_rfl
    have each : ∀ i, i < len → ∃ k : PS, ∀ j u, (encPL k)[j]? = some u → W.cell? (a.add (i * 18 + j)) = some u := by
      intro i hi
      have h1 := hel i hi
      rw [List.getElem?_eq_getElem (by omega), hc, Option.bind_eq_some_iff] at h1
      obtain ⟨cs, hcs, ht⟩ := h1
      obtain ⟨_, hcl, hcc⟩ := World.cells?_some hcs
      obtain ⟨k, rfl⟩ := open_pntc ht hcl
      refine ⟨k, fun j u hu => ?_⟩
      have hj : j < 18 := by have h9 := (List.getElem?_eq_some_iff.1 hu).1; rw [encPL_length] at h9; exact h9
      have := hcc j hj
      rw [hu, add_add] at this
      exact this
    obtain ⟨xs, hxl, hx⟩ := list_of _ len each
    refine ⟨some a, cap, xs, by rw [hxl], by omega, (fun e => by cases e), fun j hj => ?_⟩
    have hxj := hx j hj
    have c0 := hxj 0 (.bool xs[j].1.1) rfl
    have hsp : a.spot = none := by
      rcases a with ⟨g, o, sp⟩
      cases sp with
      | none => rfl
      | some s =>
        exfalso
        have c00 := hx 0 (by omega) 0 (.bool (xs[0]'(by omega)).1.1) rfl
        rw [show (⟨g, o, some s⟩ : Addr).add (0 * 18 + 0) = ⟨g, o, some s⟩ by simp [Addr.add]] at c00
        unfold World.cell? at c00
        simp at c00
        split at c00 <;> simp at c00
    rcases a with ⟨g, o, sp⟩
    obtain rfl : sp = none := hsp
    refine ⟨g, o, rfl, ?_, fun i u hu => ?_⟩
    · rw [show (⟨g, o, none⟩ : Addr).add (j * 18 + 0) = ⟨g, o + j * 18, none⟩ by unfold Addr.add; split <;> simp_all] at c0
      rcases Nat.lt_or_ge g W.heap.size with hlt | hge
      · exact hlt
      · have : W.heap[g]? = none := Array.getElem?_eq_none hge
        unfold World.cell? at c0
        rw [this] at c0
        cases c0
    · have := hxj i u hu
      rw [show (⟨g, o, none⟩ : Addr).add (j * 18 + i) = ⟨g, o + j * 18 + i, none⟩ by unfold Addr.add; split <;> simp_all [Nat.add_assoc]] at this
      exact this
end

theorem menv_of {W : World} (hf : FEnv W) (u1 u8 u11 u13 : TypeId) (p1 p8 p11 p13 : Value) (h1 : W.cell? ⟨0, 0, none⟩ = some (.iface u1 p1)) (h8 : W.cell? ⟨1, 0, none⟩ = some (.iface u8 p8)) (h11 : W.cell? ⟨2, 0, none⟩ = some (.iface u11 p11)) (h13 : W.cell? ⟨3, 0, none⟩ = some (.iface u13 p13)) : ∃ E, MEnv E W :=
  ⟨fun i => if i = 1 then (u1, p1) else if i = 8 then (u8, p8) else if i = 11 then (u11, p11) else (u13, p13), hf, h1, h8, h11, h13⟩
end Go.Proofs.YtahconkjhneogaaGreatDoor
