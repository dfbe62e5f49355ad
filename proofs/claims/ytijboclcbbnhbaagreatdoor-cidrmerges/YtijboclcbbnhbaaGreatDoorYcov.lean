/-
  The closure of cidr.Merge: does the last one that was kept cover a cidr?
-/
import Derived.Test.YtijboclcbbnhbaaGreatDoorYany
namespace Go.Proofs.YtijboclcbbnhbaaGreatDoor
open Go.RowKit Go.Shelf Go.Lib Go.Sort

section
variable {ops : Array Oper} {S : World → Prop} {oi : Oper} {a : Act}
theorem yieldsC (hw : Region.wanted oi (yielded ops a.tmps) = true) (x : Operand) (ho : oi.op = .load 29 x) (b off : Nat) (hx : a.eval x = .pointer (some ⟨b, off, none⟩)) (c : CS)
    (hS : ∀ w, S w → w.rangeAt b off (encC c)) : YieldsIf Tryz.prog ops S oi (.agg (encA c)) a := by
  have h := yieldsIf_load_mid (S := S) hw 29 x ho b off hx (encC c) _ hS Tryz.underlying29 rfl (encC_info c)
  rw [encA_back] at h
  exact h
theorem yieldsS (hw : Region.wanted oi (yielded ops a.tmps) = true) (x : Operand) (ho : oi.op = .load 22 x) (b : Nat) (hx : a.eval x = .pointer (some ⟨b, 0, none⟩)) (ad : Option Addr) (n c : Nat)
    (hS : ∀ w, S w → w.cell? ⟨b, 0, none⟩ = some (.slice ad n c)) : YieldsIf Tryz.prog ops S oi (.slice ad n c) a :=
  .inl ⟨hw, fun w hw' => by
    have h := hS w hw'
    unfold execOp
    simp only [ho, hx]
    simp [go_sem, h]⟩
end

def lastCov (m : List CS) (x : CS) : Bool := match m.getLast? with | some d => covS d x | none => false

set_option maxRecDepth 100000 in
set_option maxHeartbeats 4000000 in
theorem covered_any (Bm : Nat) (adm : Option Addr) (capm : Nat) (m : List CS) (hcap : m.length ≤ capm) (hm : m.length ≤ 1000) (x : CS) (w : World) (hE : CEnv w) (hBm : w.cell? ⟨Bm, 0, none⟩ = some (.slice adm m.length capm)) (hlt : Bm < w.heap.size) (hI : Elems encA 18 w.heap.size w adm m) :
    Calls Tryz.prog 13 #[.agg (encA x), .pointer (some ⟨Bm, 0, none⟩)] w fun e w' => e = .returned (.bool (lastCov m x)) ∧ Below w.heap.size w w' := by
  obtain ⟨W0, hW0⟩ : ∃ W, W = w.alloc (.cells (encA x) 29) := ⟨_, rfl⟩
  have hb0 : Below w.heap.size w W0 := hW0 ▸ (Below.refl _ _).alloc (Nat.le_refl _) _
  have hB0 : Blk W0 w.heap.size 29 (encA x) := hW0 ▸ Blk.new w _ _
  have hc0 : W0.cell? ⟨Bm, 0, none⟩ = some (.slice adm m.length capm) := (hb0.cell (p := ⟨Bm, 0, none⟩) hlt).trans hBm
  have HW0 := hid hW0.symm
  have HB0 := hid hB0
  have Hb0 := hid hb0
  have HE := hid (hE.kept hb0)
  have HI := hid ((hI.below hb0).mono hb0.size)
  have HX : Hid (W0.rangeAt w.heap.size 0 (encC x) ∧ w.heap.size < W0.heap.size) := hid ⟨blk_range hB0, hB0.lt⟩
  have HltB : Hid (Bm < W0.heap.size) := hid (Nat.lt_of_lt_of_le hlt hb0.size)
  have Hc0 := hid hc0
  clear hW0 hB0 hb0 hE hI hBm hlt
  rcases List.eq_nil_or_concat m with rfl | ⟨ms, d, rfl⟩
  · go_enter Tryz.func13, Tryz.ntmps13
    go_upto_region 1 with fail
    rw [HW0.out]
    have hc : W0.cell? ⟨Bm, 0, none⟩ = some (.slice adm 0 capm) := Hc0.out
    clear hc0
    go_wp2_with fail
    refine wp_region_held_drew (S := fun V => Below W0.heap.size W0 V) (by kernel_rfl) (Below.refl _ _).drew (fun hS => ?_)
    change wpAnyH _ _ _ _ _ 11 #[false, false, false, false, false, false, false, false, false, false, false] _ _
    refine wpAnyH_take (i := 0) (v := .int .i64 (-1)) rfl (by kernel_rfl) (by kernel_rfl) (by kernel_rfl) (fun _ _ _ h => h) (.inl ⟨by kernel_rfl, fun w' _ => by unfold execOp; go_simp⟩) hS ?_
    simp only [List.getElem_toArray, List.getElem_cons_zero, Act.put, List.setIfInBounds_toArray, List.set_cons_zero, List.set_cons_succ]
    refine wpAnyH_take (i := 1) (v := .bool false) rfl (by kernel_rfl) (by kernel_rfl) (by kernel_rfl) (fun _ _ _ h => h) (.inl ⟨by kernel_rfl, fun w' _ => by unfold execOp; go_simp⟩) hS ?_
    simp only [List.getElem_toArray, List.getElem_cons_zero, List.getElem_cons_succ, Act.put, List.setIfInBounds_toArray, List.set_cons_zero, List.set_cons_succ]
    refine wpAnyH_take (i := 2) (v := .bool false) rfl (by kernel_rfl) (by kernel_rfl) (by kernel_rfl) (fun _ _ _ h => h) (.inl ⟨by kernel_rfl, fun w' _ => by unfold execOp; go_simp⟩) hS ?_
    simp only [List.getElem_toArray, List.getElem_cons_zero, List.getElem_cons_succ, Act.put, List.setIfInBounds_toArray, List.set_cons_zero, List.set_cons_succ]
    refine wpAnyH_take (i := 3) (v := undef) rfl (by kernel_rfl) (by kernel_rfl) (by kernel_rfl) (fun _ _ _ h => h) (.inr ⟨by kernel_rfl, rfl⟩) hS ?_
    simp only [List.getElem_toArray, List.getElem_cons_zero, List.getElem_cons_succ, Act.put, List.setIfInBounds_toArray, List.set_cons_zero, List.set_cons_succ]
    refine wpAnyH_take (i := 4) (v := undef) rfl (by kernel_rfl) (by kernel_rfl) (by kernel_rfl) (fun _ _ _ h => h) (.inr ⟨by kernel_rfl, rfl⟩) hS ?_
    simp only [List.getElem_toArray, List.getElem_cons_zero, List.getElem_cons_succ, Act.put, List.setIfInBounds_toArray, List.set_cons_zero, List.set_cons_succ]
    refine wpAnyH_take (i := 5) (v := undef) rfl (by kernel_rfl) (by kernel_rfl) (by kernel_rfl) (fun _ _ _ h => h) (.inr ⟨by kernel_rfl, rfl⟩) hS ?_
    simp only [List.getElem_toArray, List.getElem_cons_zero, List.getElem_cons_succ, Act.put, List.setIfInBounds_toArray, List.set_cons_zero, List.set_cons_succ]
    refine wpAnyH_take (i := 6) (v := undef) rfl (by kernel_rfl) (by kernel_rfl) (by kernel_rfl) (fun _ _ _ h => h) (.inr ⟨by kernel_rfl, rfl⟩) hS ?_
    simp only [List.getElem_toArray, List.getElem_cons_zero, List.getElem_cons_succ, Act.put, List.setIfInBounds_toArray, List.set_cons_zero, List.set_cons_succ]
    refine wpAnyH_take (i := 7) (v := undef) rfl (by kernel_rfl) (by kernel_rfl) (by kernel_rfl) (fun _ _ _ h => h) (.inr ⟨by kernel_rfl, rfl⟩) hS ?_
    simp only [List.getElem_toArray, List.getElem_cons_zero, List.getElem_cons_succ, Act.put, List.setIfInBounds_toArray, List.set_cons_zero, List.set_cons_succ]
    refine wpAnyH_take (i := 8) (v := undef) rfl (by kernel_rfl) (by kernel_rfl) (by kernel_rfl) (fun _ _ _ h => h) (.inr ⟨by kernel_rfl, rfl⟩) hS ?_
    simp only [List.getElem_toArray, List.getElem_cons_zero, List.getElem_cons_succ, Act.put, List.setIfInBounds_toArray, List.set_cons_zero, List.set_cons_succ]
    refine wpAnyH_take (i := 9) (v := .bool false) rfl (by kernel_rfl) (by kernel_rfl) (by kernel_rfl) (fun _ _ _ h => h) (.inl ⟨by kernel_rfl, fun w' _ => by unfold execOp; go_simp⟩) hS ?_
    simp only [List.getElem_toArray, List.getElem_cons_zero, List.getElem_cons_succ, Act.put, List.setIfInBounds_toArray, List.set_cons_zero, List.set_cons_succ]
    refine wpAnyH_take (i := 10) (v := .bool false) rfl (by kernel_rfl) (by kernel_rfl) (by kernel_rfl) (fun _ _ _ h => h) (.inl ⟨by kernel_rfl, fun w' _ => by unfold execOp; go_simp⟩) hS ?_
    simp only [List.getElem_toArray, List.getElem_cons_zero, List.getElem_cons_succ, Act.put, List.setIfInBounds_toArray, List.set_cons_zero, List.set_cons_succ]
    refine wpAnyH_done (by kernel_rfl) ?_ _
    clear hS
    go_wp2
    go_ret
    exact ⟨rfl, bel2 Hb0.out (Below.refl _ _).drew⟩
  · have hl : (ms.concat d).length = ms.length + 1 := by simp
    have hlc : lastCov (ms.concat d) x = covS d x := by simp [lastCov]
    rw [hl] at hcap hm hc0 Hc0
    rw [hlc]
    obtain ⟨g0, o0, rfl, hg0, hr0⟩ := HI.out ms.length (by rw [hl]; omega)
    have hd : (ms.concat d)[ms.length] = d := by simp
    have HD : Hid (W0.rangeAt g0 (o0 + ms.length * 18) (encC d) ∧ g0 < W0.heap.size) := hid ⟨by rw [← hd]; exact hr0, hg0⟩
    have HC : Hid (∀ W, Below W0.heap.size W0 W → Calls Tryz.prog 14 #[.agg (encA d), .agg (encA x)] W fun e w' => e = .returned (.bool (covS d x)) ∧ Below W.heap.size W w') := hid (fun W h => ccov_s d x W (HE.out.kept h))
    obtain ⟨L, hL⟩ : ∃ L, L = ms.length := ⟨_, rfl⟩
    rw [← hL] at hcap hm hc0 Hc0 HD
    generalize covS d x = c at *
    clear hr0 hg0 hl hlc hd hL HI
    go_enter Tryz.func13, Tryz.ntmps13
    go_upto_region 1 with fail
    rw [HW0.out]
    go_wp2_with fail
    refine wp_region_held_drew (S := fun V => Below W0.heap.size W0 V) (by kernel_rfl) (Below.refl _ _).drew (fun hS => ?_)
    change wpAnyH _ _ _ _ _ 11 #[false, false, false, false, false, false, false, false, false, false, false] _ _
    refine wpAnyH_take (i := 0) (v := .int .i64 (L : Int)) rfl (by kernel_rfl) (by kernel_rfl) (by kernel_rfl) (fun _ _ _ h => h) (.inl ⟨by kernel_rfl, fun w' _ => by unfold execOp; go_simp⟩) hS ?_
    simp only [List.getElem_toArray, List.getElem_cons_zero, Act.put, List.setIfInBounds_toArray, List.set_cons_zero, List.set_cons_succ]
    refine wpAnyH_take (i := 1) (v := .bool true) rfl (by kernel_rfl) (by kernel_rfl) (by kernel_rfl) (fun _ _ _ h => h) (.inl ⟨by kernel_rfl, fun w' _ => by unfold execOp; go_simp; try omega⟩) hS ?_
    simp only [List.getElem_toArray, List.getElem_cons_zero, List.getElem_cons_succ, Act.put, List.setIfInBounds_toArray, List.set_cons_zero, List.set_cons_succ]
    refine wpAnyH_take (i := 2) (v := .bool true) rfl (by kernel_rfl) (by kernel_rfl) (by kernel_rfl) (fun _ _ _ h => h) (.inl ⟨by kernel_rfl, fun w' _ => by unfold execOp; go_simp⟩) hS ?_
    simp only [List.getElem_toArray, List.getElem_cons_zero, List.getElem_cons_succ, Act.put, List.setIfInBounds_toArray, List.set_cons_zero, List.set_cons_succ]
    refine wpAnyH_take (i := 3) (v := .slice (some ⟨g0, o0, none⟩) (L + 1) capm) rfl (by kernel_rfl) (by kernel_rfl) (by kernel_rfl) (fun _ _ _ h => h) (yieldsS (by kernel_rfl) (.tmp 1) rfl Bm rfl (some ⟨g0, o0, none⟩) (L + 1) capm (fun w' hw' => (hw'.cell (p := ⟨Bm, 0, none⟩) HltB.out).trans Hc0.out)) hS ?_
    simp only [List.getElem_toArray, List.getElem_cons_zero, List.getElem_cons_succ, Act.put, List.setIfInBounds_toArray, List.set_cons_zero, List.set_cons_succ]
    refine wpAnyH_take (i := 4) (v := .int .i64 (L : Int)) rfl (by kernel_rfl) (by kernel_rfl) (by kernel_rfl) (fun _ _ _ h => h) (.inl ⟨by kernel_rfl, fun w' _ => by unfold execOp; go_simp⟩) hS ?_
    simp only [List.getElem_toArray, List.getElem_cons_zero, List.getElem_cons_succ, Act.put, List.setIfInBounds_toArray, List.set_cons_zero, List.set_cons_succ]
    refine wpAnyH_take (i := 5) (v := .pointer (some ⟨g0, o0 + L * 18, none⟩)) rfl (by kernel_rfl) (by kernel_rfl) (by kernel_rfl) (fun _ _ _ h => h) (.inl ⟨by kernel_rfl, fun w' _ => by unfold execOp; go_simp; try (intro h; omega)⟩) hS ?_
    simp only [List.getElem_toArray, List.getElem_cons_zero, List.getElem_cons_succ, Act.put, List.setIfInBounds_toArray, List.set_cons_zero, List.set_cons_succ]
    refine wpAnyH_take (i := 6) (v := .agg (encA d)) rfl (by kernel_rfl) (by kernel_rfl) (by kernel_rfl) (fun _ _ _ h => h) (yieldsC (by kernel_rfl) (.tmp 13) rfl (g0) (o0 + L * 18) rfl d (fun w' hw' => rangeAt_below hw' HD.out.2 HD.out.1)) hS ?_
    simp only [List.getElem_toArray, List.getElem_cons_zero, List.getElem_cons_succ, Act.put, List.setIfInBounds_toArray, List.set_cons_zero, List.set_cons_succ]
    refine wpAnyH_take (i := 7) (v := .agg (encA x)) rfl (by kernel_rfl) (by kernel_rfl) (by kernel_rfl) (fun _ _ _ h => h) (yieldsC (by kernel_rfl) (.tmp 2) rfl (w.heap.size) (0) rfl x (fun w' hw' => rangeAt_below hw' HX.out.2 HX.out.1)) hS ?_
    simp only [List.getElem_toArray, List.getElem_cons_zero, List.getElem_cons_succ, Act.put, List.setIfInBounds_toArray, List.set_cons_zero, List.set_cons_succ]
    refine wpAnyH_ready (rs := [8]) (by kernel_rfl) (by simp) ?_
    refine AllReadyH.cons rfl (fun K' hK => ?_) AllReadyH.nil
    refine r_call 14 #[.agg (encA d), .agg (encA x)] (by kernel_rfl) (by kernel_rfl) (.bool c) (HC.out _ hS) (fun V3 h => hK.out _ _ (hS.trans (h.mono hS.size)) (fun hS => ?_))
    simp only [List.getElem_toArray, List.getElem_cons_zero, List.getElem_cons_succ, Act.put, List.setIfInBounds_toArray, List.set_cons_zero, List.set_cons_succ]
    refine wpAnyH_take (i := 9) (v := .bool c) rfl (by kernel_rfl) (by kernel_rfl) (by kernel_rfl) (fun _ _ _ h => h) (.inl ⟨by kernel_rfl, fun w' _ => by unfold execOp; go_simp⟩) hS ?_
    simp only [List.getElem_toArray, List.getElem_cons_zero, List.getElem_cons_succ, Act.put, List.setIfInBounds_toArray, List.set_cons_zero, List.set_cons_succ]
    refine wpAnyH_take (i := 10) (v := .bool c) rfl (by kernel_rfl) (by kernel_rfl) (by kernel_rfl) (fun _ _ _ h => h) (.inl ⟨by kernel_rfl, fun w' _ => by unfold execOp; go_simp⟩) hS ?_
    simp only [List.getElem_toArray, List.getElem_cons_zero, List.getElem_cons_succ, Act.put, List.setIfInBounds_toArray, List.set_cons_zero, List.set_cons_succ]
    refine wpAnyH_done (by kernel_rfl) ?_ _
    have F : Hid (Below w.heap.size w V3) := hid (bel2 Hb0.out hS)
    clear hS hK
    go_wp2
    go_ret
    exact ⟨rfl, F.out⟩
end Go.Proofs.YtijboclcbbnhbaaGreatDoor
