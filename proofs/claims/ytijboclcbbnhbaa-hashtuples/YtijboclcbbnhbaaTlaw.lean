/-
  The law HashTuples at every input.
-/
import Derived.Test.YtijboclcbbnhbaaTtup
import Derived.Deep.MidRow
namespace Go.Proofs.Ytijboclcbbnhbaa
open Go.RowKit Go.Lib

def ReadsAs (w : World) (v : Value) (l : List Int) : Prop := ∃ ad cap, v = .slice ad l.length cap ∧ Bys w.heap.size w ad l
theorem exec_convB {o : Oper} {a : Act} {w : World} (x : Operand) (ho : o.op = .convert 29 9 x) {ad : Option Addr} {bs : List Int} {cap n₀ : Nat} (hx : a.eval x = .slice ad bs.length cap) (h : Bys n₀ w ad bs) :
    (execOp a.eval o).run Try.prog w = .ok (.value (.string (strOfNums bs))) w := by
  have h := conv_bys h cap
  unfold execOp
  simp only [ho, hx, Sem.run_bind, h, Result.andThen_ok, Sem.run_pure]
theorem exec_seqS {P : Program} {a : Act} {w : World} {o : Oper} (t t' : TypeId) (x y : Operand) (ho : o.op = .binOp .eql t x y t') (s : ByteArray) (hx : a.eval x = .string s) (hy : a.eval y = .string s) :
    (execOp a.eval o).run P w = .ok (.value (.bool true)) w := by
  unfold execOp
  simp only [ho, hx, hy, eqGuard, binOp]
  simp [Op.stringOp, go_sem]

theorem reads_own {l : List Int} {w : World} {e : Ending} {w' : World} (h : OwnEnd l w e w') : ∃ v, e = .returned v ∧ (ReadsAs w' v l ∧ Below w.heap.size w w') := by
  obtain ⟨v, he, ho, hb⟩ := h
  obtain ⟨_, ad, cap, e1, _, hI⟩ := own_bys ho
  exact ⟨v, he, ⟨ad, cap, e1, hI⟩, hb⟩

/-- Two points side by side. -/
def twoP (s1 : Bool) (b1 : List Int) (n1 : Int) (s2 : Bool) (b2 : List Int) (n2 : Int) : Array Value := pnt s1 b1 n1 ++ pnt s2 b2 n2
theorem two_range {w : World} {g : Nat} {s1 s2 : Bool} {b1 b2 : List Int} {n1 n2 : Int} (hl1 : b1.length = 16) (h : Blk w g 27 (twoP s1 b1 n1 s2 b2 n2)) : w.rangeAt g 0 (pnt s1 b1 n1).toList ∧ w.rangeAt g 18 (pnt s2 b2 n2).toList := by
  have hs : (pnt s1 b1 n1).size = 18 := by rw [pnt_size, hl1]
  refine ⟨fun j v hj => ?_, fun j v hj => ?_⟩
  · rw [h.cell, Nat.zero_add, twoP]
    rw [Array.getElem?_toList] at hj
    rw [Array.getElem?_append_left (Array.getElem?_eq_some_iff.1 hj).1]
    exact hj
  · rw [h.cell, twoP, Array.getElem?_append_right (by omega), hs, Nat.add_sub_cancel_left]
    rwa [Array.getElem?_toList] at hj

set_option maxRecDepth 100000 in
set_option maxHeartbeats 4000000 in
theorem ltuples_any (p : Int) (s1 : Bool) (b1 : List Int) (n1 : Int) (s2 : Bool) (b2 : List Int) (n2 : Int) (hl1 : b1.length = 16) (hl2 : b2.length = 16) (w : World) :
    Calls Try.prog 3 #[.int .i64 p, .agg (twoP s1 b1 n1 s2 b2 n2)] w fun e w' => e = .returned (.bool true) ∧ Below w.heap.size w w' := by
  obtain ⟨W0, hW0⟩ : ∃ W, W = w.alloc (.cells (twoP s1 b1 n1 s2 b2 n2) 27) := ⟨_, rfl⟩
  have hB0 : Blk W0 w.heap.size 27 (twoP s1 b1 n1 s2 b2 n2) := hW0 ▸ Blk.new w _ _
  have hb0 : Below w.heap.size w W0 := hW0 ▸ (Below.refl _ _).alloc (Nat.le_refl _) _
  have HW0 := hid hW0.symm
  have HB0 := hid hB0
  have Hb0 := hid hb0
  have HA := hid halive_any
  have HR : Hid (∀ W, Blk W w.heap.size 27 (twoP s1 b1 n1 s2 b2 n2) → W.rangeAt w.heap.size 0 (pnt s1 b1 n1).toList ∧ W.rangeAt w.heap.size 18 (pnt s2 b2 n2).toList) := hid (fun W h => two_range hl1 h)
  have L1 : Hid ((Try.prog.info? 26).map (·.size) = some (pnt s1 b1 n1).toList.length) := hid (by rw [Array.length_toList, pnt_size, hl1]; exact Try.infoPoint)
  have L2 : Hid ((Try.prog.info? 26).map (·.size) = some (pnt s2 b2 n2).toList.length) := hid (by rw [Array.length_toList, pnt_size, hl2]; exact Try.infoPoint)
  have HP := hid (fun W => (htuple_any p s1 b1 n1 s2 b2 n2 hl1 hl2 W).mono (fun _ _ h => reads_own h))
  have HQ := hid (fun W => (rtuple_any p s1 b1 n1 s2 b2 n2 hl1 hl2 W).mono (fun _ _ h => reads_own h))
  clear hW0 hB0 hb0 hl1 hl2
  generalize tupB p s1 b1 n1 s2 b2 n2 = R at HP HQ
  go_enter Try.func3, Try.ntmps3
  go_upto_region 1 with fail
  rw [HW0.out]
  go_wp2_with fail
  refine (HA.out _).mono ?_
  rintro e w1 ⟨rfl, rfl⟩
  go_upto_region 3 with fail
  have hS0 : Blk W0.drew w.heap.size 27 (twoP s1 b1 n1 s2 b2 n2) := HB0.out
  refine wp_region_held_drew (S := fun V => Blk V w.heap.size 27 (twoP s1 b1 n1 s2 b2 n2)) (by kernel_rfl) hS0 (fun hS => ?_)
  change wpAnyH _ _ _ _ _ 16 #[false, false, false, false, false, false, false, false, false, false, false, false, false, false, false, false] _ _
  refine wpAnyH_take (i := 0) (v := .int .i64 p) rfl (by kernel_rfl) (by kernel_rfl) (by kernel_rfl) (fun _ _ _ h => h) (.inl ⟨by kernel_rfl, fun _ _ => by kernel_rfl⟩) hS ?_
  simp only [List.getElem_toArray, List.getElem_cons_zero, Act.put, List.setIfInBounds_toArray, List.set_cons_zero, List.set_cons_succ]
  refine wpAnyH_take (i := 1) (v := .pointer (some ⟨w.heap.size, 0, none⟩)) rfl (by kernel_rfl) (by kernel_rfl) (by kernel_rfl) (fun _ _ _ h => h) (.inl ⟨by kernel_rfl, fun w' hw' => by unfold execOp; go_simp⟩) hS ?_
  simp only [List.getElem_toArray, List.getElem_cons_zero, List.getElem_cons_succ, Act.put, List.setIfInBounds_toArray, List.set_cons_zero, List.set_cons_succ]
  refine wpAnyH_take (i := 2) (v := .agg (pnt s1 b1 n1)) rfl (by kernel_rfl) (by kernel_rfl) (by kernel_rfl) (fun _ _ _ h => h) (yieldsIf_load_mid (by kernel_rfl) 26 (.tmp 8) rfl w.heap.size 0 (by kernel_rfl) (pnt s1 b1 n1).toList _ (fun _ h => (HR.out _ h).1) Try.underlying26 rfl L1.out) hS ?_
  simp only [List.getElem_toArray, List.getElem_cons_zero, List.getElem_cons_succ, Act.put, List.setIfInBounds_toArray, List.set_cons_zero, List.set_cons_succ]
  refine wpAnyH_take (i := 3) (v := .pointer (some ⟨w.heap.size, 18, none⟩)) rfl (by kernel_rfl) (by kernel_rfl) (by kernel_rfl) (fun _ _ _ h => h) (.inl ⟨by kernel_rfl, fun w' hw' => by unfold execOp; go_simp⟩) hS ?_
  simp only [List.getElem_toArray, List.getElem_cons_zero, List.getElem_cons_succ, Act.put, List.setIfInBounds_toArray, List.set_cons_zero, List.set_cons_succ]
  refine wpAnyH_take (i := 4) (v := .agg (pnt s2 b2 n2)) rfl (by kernel_rfl) (by kernel_rfl) (by kernel_rfl) (fun _ _ _ h => h) (yieldsIf_load_mid (by kernel_rfl) 26 (.tmp 10) rfl w.heap.size 18 (by kernel_rfl) (pnt s2 b2 n2).toList _ (fun _ h => (HR.out _ h).2) Try.underlying26 rfl L2.out) hS ?_
  simp only [List.getElem_toArray, List.getElem_cons_zero, List.getElem_cons_succ, Act.put, List.setIfInBounds_toArray, List.set_cons_zero, List.set_cons_succ]
  refine wpAnyH_take (i := 7) (v := .int .i64 p) rfl (by kernel_rfl) (by kernel_rfl) (by kernel_rfl) (fun _ _ _ h => h) (.inl ⟨by kernel_rfl, fun _ _ => by kernel_rfl⟩) hS ?_
  simp only [List.getElem_toArray, List.getElem_cons_zero, List.getElem_cons_succ, Act.put, List.setIfInBounds_toArray, List.set_cons_zero, List.set_cons_succ]
  refine wpAnyH_take (i := 8) (v := .pointer (some ⟨w.heap.size, 0, none⟩)) rfl (by kernel_rfl) (by kernel_rfl) (by kernel_rfl) (fun _ _ _ h => h) (.inl ⟨by kernel_rfl, fun w' hw' => by unfold execOp; go_simp⟩) hS ?_
  simp only [List.getElem_toArray, List.getElem_cons_zero, List.getElem_cons_succ, Act.put, List.setIfInBounds_toArray, List.set_cons_zero, List.set_cons_succ]
  refine wpAnyH_take (i := 9) (v := .agg (pnt s1 b1 n1)) rfl (by kernel_rfl) (by kernel_rfl) (by kernel_rfl) (fun _ _ _ h => h) (yieldsIf_load_mid (by kernel_rfl) 26 (.tmp 15) rfl w.heap.size 0 (by kernel_rfl) (pnt s1 b1 n1).toList _ (fun _ h => (HR.out _ h).1) Try.underlying26 rfl L1.out) hS ?_
  simp only [List.getElem_toArray, List.getElem_cons_zero, List.getElem_cons_succ, Act.put, List.setIfInBounds_toArray, List.set_cons_zero, List.set_cons_succ]
  refine wpAnyH_take (i := 10) (v := .pointer (some ⟨w.heap.size, 18, none⟩)) rfl (by kernel_rfl) (by kernel_rfl) (by kernel_rfl) (fun _ _ _ h => h) (.inl ⟨by kernel_rfl, fun w' hw' => by unfold execOp; go_simp⟩) hS ?_
  simp only [List.getElem_toArray, List.getElem_cons_zero, List.getElem_cons_succ, Act.put, List.setIfInBounds_toArray, List.set_cons_zero, List.set_cons_succ]
  refine wpAnyH_take (i := 11) (v := .agg (pnt s2 b2 n2)) rfl (by kernel_rfl) (by kernel_rfl) (by kernel_rfl) (fun _ _ _ h => h) (yieldsIf_load_mid (by kernel_rfl) 26 (.tmp 17) rfl w.heap.size 18 (by kernel_rfl) (pnt s2 b2 n2).toList _ (fun _ h => (HR.out _ h).2) Try.underlying26 rfl L2.out) hS ?_
  simp only [List.getElem_toArray, List.getElem_cons_zero, List.getElem_cons_succ, Act.put, List.setIfInBounds_toArray, List.set_cons_zero, List.set_cons_succ]
  refine wpAnyH_ready (rs := [5]) (by kernel_rfl) (by simp) ?_
  refine AllReadyH.cons rfl (fun K' hK => ?_) AllReadyH.nil
  refine step_callE 5 #[.int .i64 p, .agg (pnt s1 b1 n1), .agg (pnt s2 b2 n2)] (by kernel_rfl) (by kernel_rfl) (HP.out _) (fun v1 W1 h1 => hK.out _ _ (hS.kept h1.2) (fun hS => ?_))
  simp only [List.getElem_toArray, List.getElem_cons_zero, List.getElem_cons_succ, Act.put, List.setIfInBounds_toArray, List.set_cons_zero, List.set_cons_succ]
  obtain ⟨⟨ad1, cap1, e1, hI1⟩, hb2⟩ := h1
  subst e1
  refine wpAnyH_mono (S' := fun V => Blk V w.heap.size 27 (twoP s1 b1 n1 s2 b2 n2) ∧ Bys W1.heap.size V ad1 R) (fun _ h => h.1) _ _ _ _ ?_
  have hS : Blk W1 w.heap.size 27 (twoP s1 b1 n1 s2 b2 n2) ∧ Bys W1.heap.size W1 ad1 R := ⟨hS, hI1⟩
  refine wpAnyH_take (i := 6) (v := .string (strOfNums R)) rfl (by kernel_rfl) (by kernel_rfl) (by kernel_rfl) (fun _ _ _ h => h) (.inl ⟨by kernel_rfl, fun _ hw' => exec_convB (cap := cap1) (.tmp 12) rfl (by kernel_rfl) hw'.2⟩) hS ?_
  simp only [List.getElem_toArray, List.getElem_cons_zero, List.getElem_cons_succ, Act.put, List.setIfInBounds_toArray, List.set_cons_zero, List.set_cons_succ]
  refine wpAnyH_ready (rs := [12]) (by kernel_rfl) (by simp) ?_
  refine AllReadyH.cons rfl (fun K' hK => ?_) AllReadyH.nil
  refine step_callE 6 #[.int .i64 p, .agg (pnt s1 b1 n1), .agg (pnt s2 b2 n2)] (by kernel_rfl) (by kernel_rfl) (HQ.out _) (fun v2 W2 h2 => hK.out _ _ ⟨hS.1.kept h2.2, hS.2.below h2.2⟩ (fun hS => ?_))
  simp only [List.getElem_toArray, List.getElem_cons_zero, List.getElem_cons_succ, Act.put, List.setIfInBounds_toArray, List.set_cons_zero, List.set_cons_succ]
  obtain ⟨⟨ad2, cap2, e2, hI2⟩, hb3⟩ := h2
  subst e2
  refine wpAnyH_ready (rs := [13]) (by kernel_rfl) (by simp) ?_
  refine AllReadyH.cons rfl (fun K' hK => ?_) AllReadyH.nil
  refine r_run (.string (strOfNums R)) W2 (exec_convB (cap := cap2) (.tmp 19) rfl (by kernel_rfl) hI2) (by kernel_rfl) (hK.out _ _ hS (fun hS => ?_))
  simp only [List.getElem_toArray, List.getElem_cons_zero, List.getElem_cons_succ, Act.put, List.setIfInBounds_toArray, List.set_cons_zero, List.set_cons_succ]
  refine wpAnyH_take (i := 14) (v := .bool true) rfl (by kernel_rfl) (by kernel_rfl) (by kernel_rfl) (fun _ _ _ h => h) (.inl ⟨by kernel_rfl, fun _ _ => exec_seqS _ _ (.tmp 13) (.tmp 20) rfl (strOfNums R) (by kernel_rfl) (by kernel_rfl)⟩) hS ?_
  simp only [List.getElem_toArray, List.getElem_cons_zero, List.getElem_cons_succ, Act.put, List.setIfInBounds_toArray, List.set_cons_zero, List.set_cons_succ]
  refine wpAnyH_take (i := 15) (v := .bool true) rfl (by kernel_rfl) (by kernel_rfl) (by kernel_rfl) (fun _ _ _ h => h) (.inl ⟨by kernel_rfl, fun _ _ => by kernel_rfl⟩) hS ?_
  simp only [List.getElem_toArray, List.getElem_cons_zero, List.getElem_cons_succ, Act.put, List.setIfInBounds_toArray, List.set_cons_zero, List.set_cons_succ]
  refine wpAnyH_done (by kernel_rfl) ?_ _
  have F : Hid (Below w.heap.size w W2) := hid (sbel2 (sbel2 (Hb0.out.drew) hb2) hb3)
  clear hS hS0 hI1 hI2 hb2 hb3
  go_wp2
  go_ret
  exact ⟨rfl, F.out⟩
end Go.Proofs.Ytijboclcbbnhbaa
