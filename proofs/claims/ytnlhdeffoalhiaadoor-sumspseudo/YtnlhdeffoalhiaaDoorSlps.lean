/-
  The law SumsPseudo at every input.
-/
import Derived.Test.YtnlhdeffoalhiaaDoorSrps
import Derived.Deep.MidRow
namespace Go.Proofs.YtnlhdeffoalhiaaDoor
open Go.RowKit Go.Lib

theorem exec_convB {o : Oper} {a : Act} {w : World} (x : Operand) (ho : o.op = .convert 33 9 x) {ad : Option Addr} {bs : List Int} {cap n₀ : Nat} (hx : a.eval x = .slice ad bs.length cap) (h : Bys n₀ w ad bs) :
    (execOp a.eval o).run Tryd.prog w = .ok (.value (.string (strOfNums bs))) w := by
  have h := conv_bys h cap
  unfold execOp
  simp only [ho, hx, Sem.run_bind, h, Result.andThen_ok, Sem.run_pure]
theorem exec_seqS {P : Program} {a : Act} {w : World} {o : Oper} (t t' : TypeId) (x y : Operand) (ho : o.op = .binOp .eql t x y t') (s : ByteArray) (hx : a.eval x = .string s) (hy : a.eval y = .string s) :
    (execOp a.eval o).run P w = .ok (.value (.bool true)) w := by
  unfold execOp
  simp only [ho, hx, hy, eqGuard, binOp]
  simp [Op.stringOp, go_sem]

theorem reads_own {l : List Int} {w : World} {e : Ending} {w' : World} (h : OwnEnd l w e w') : ∃ v, e = .returned v ∧ (ReadsAs w' v l ∧ Below w.heap.size w w') := by
  obtain ⟨v, he, ho, hb⟩ := h
  obtain ⟨_, ad, cap, e1, _, hI⟩ := own_bys ho
  exact ⟨v, he, ⟨ad, cap, e1, hI⟩, hb⟩

/-- Two addresses side by side. -/
def two (s1 : Bool) (b1 : List Int) (s2 : Bool) (b2 : List Int) : Array Value := adr s1 b1 ++ adr s2 b2
theorem two_range {w : World} {g : Nat} {s1 s2 : Bool} {b1 b2 : List Int} (hl1 : b1.length = 16) (h : Blk w g 32 (two s1 b1 s2 b2)) : w.rangeAt g 0 (adr s1 b1).toList ∧ w.rangeAt g 17 (adr s2 b2).toList := by
  have hs : (adr s1 b1).size = 17 := by rw [adr_size, hl1]
  refine ⟨fun j v hj => ?_, fun j v hj => ?_⟩
  · rw [h.cell, Nat.zero_add, two]
    rw [Array.getElem?_toList] at hj
    rw [Array.getElem?_append_left (Array.getElem?_eq_some_iff.1 hj).1]
    exact hj
  · rw [h.cell, two, Array.getElem?_append_right (by omega), hs, Nat.add_sub_cancel_left]
    rwa [Array.getElem?_toList] at hj

set_option maxRecDepth 100000 in
set_option maxHeartbeats 4000000 in
theorem lpseudo_any (s1 s2 : Bool) (b1 b2 : List Int) (hl1 : b1.length = 16) (hl2 : b2.length = 16) (p n : Int) (w : World) :
    Calls Tryd.prog 4 #[.agg (two s1 b1 s2 b2), .int .i64 p, .int .i64 n] w fun e w' => e = .returned (.bool true) ∧ Below w.heap.size w w' := by
  obtain ⟨W0, hW0⟩ : ∃ W, W = w.alloc (.cells (two s1 b1 s2 b2) 32) := ⟨_, rfl⟩
  have hB0 : Blk W0 w.heap.size 32 (two s1 b1 s2 b2) := hW0 ▸ Blk.new w _ _
  have hb0 : Below w.heap.size w W0 := hW0 ▸ (Below.refl _ _).alloc (Nat.le_refl _) _
  have HW0 := hid hW0.symm
  have HB0 := hid hB0
  have Hb0 := hid hb0
  have HA := hid alive_any
  have HR : Hid (∀ W, Blk W w.heap.size 32 (two s1 b1 s2 b2) → W.rangeAt w.heap.size 0 (adr s1 b1).toList ∧ W.rangeAt w.heap.size 17 (adr s2 b2).toList) := hid (fun W h => two_range hl1 h)
  have L1 : Hid ((Tryd.prog.info? 31).map (·.size) = some (adr s1 b1).toList.length) := hid (by rw [Array.length_toList, adr_size, hl1]; exact Tryd.infoAddr)
  have L2 : Hid ((Tryd.prog.info? 31).map (·.size) = some (adr s2 b2).toList.length) := hid (by rw [Array.length_toList, adr_size, hl2]; exact Tryd.infoAddr)
  have HP := hid (fun W => (spseudo_any s1 s2 b1 b2 hl1 hl2 p n W).mono (fun _ _ h => reads_own h))
  have HQ := hid (fun W => (rpseudo_any s1 s2 b1 b2 hl1 hl2 p n W).mono (fun _ _ h => reads_own h))
  clear hW0 hB0 hb0 hl1 hl2
  generalize psd s1 b1 s2 b2 p n = R at HP HQ
  go_enter Tryd.func4, Tryd.ntmps4
  go_upto_region 1 with fail
  rw [HW0.out]
  go_wp2_with fail
  refine (HA.out _).mono ?_
  rintro e w1 ⟨rfl, hb⟩
  have HB1 := hid (HB0.out.kept hb)
  have Hb1 := hid (sbel2 Hb0.out hb)
  clear hb
  go_upto_region 3 with fail
  have hS0 : Blk w1.drew w.heap.size 32 (two s1 b1 s2 b2) := HB1.out
  refine wp_region_held_drew (S := fun V => Blk V w.heap.size 32 (two s1 b1 s2 b2)) (by kernel_rfl) hS0 (fun hS => ?_)
  change wpAnyH _ _ _ _ _ 18 #[false, false, false, false, false, false, false, false, false, false, false, false, false, false, false, false, false, false] _ _
  refine wpAnyH_take (i := 0) (v := .pointer (some ⟨w.heap.size, 0, none⟩)) rfl (by kernel_rfl) (by kernel_rfl) (by kernel_rfl) (fun _ _ _ h => h) (.inl ⟨by kernel_rfl, fun w' _ => by unfold execOp; go_simp⟩) hS ?_
  simp only [List.getElem_toArray, List.getElem_cons_zero, Act.put, List.setIfInBounds_toArray, List.set_cons_zero, List.set_cons_succ]
  refine wpAnyH_take (i := 1) (v := .agg (adr s1 b1)) rfl (by kernel_rfl) (by kernel_rfl) (by kernel_rfl) (fun _ _ _ h => h) (yieldsIf_load_mid (by kernel_rfl) 31 (.tmp 9) rfl w.heap.size 0 (by kernel_rfl) (adr s1 b1).toList _ (fun _ h => (HR.out _ h).1) Tryd.underlying31 rfl L1.out) hS ?_
  simp only [List.getElem_toArray, List.getElem_cons_zero, List.getElem_cons_succ, Act.put, List.setIfInBounds_toArray, List.set_cons_zero, List.set_cons_succ]
  refine wpAnyH_take (i := 2) (v := .pointer (some ⟨w.heap.size, 17, none⟩)) rfl (by kernel_rfl) (by kernel_rfl) (by kernel_rfl) (fun _ _ _ h => h) (.inl ⟨by kernel_rfl, fun w' _ => by unfold execOp; go_simp⟩) hS ?_
  simp only [List.getElem_toArray, List.getElem_cons_zero, List.getElem_cons_succ, Act.put, List.setIfInBounds_toArray, List.set_cons_zero, List.set_cons_succ]
  refine wpAnyH_take (i := 3) (v := .agg (adr s2 b2)) rfl (by kernel_rfl) (by kernel_rfl) (by kernel_rfl) (fun _ _ _ h => h) (yieldsIf_load_mid (by kernel_rfl) 31 (.tmp 11) rfl w.heap.size 17 (by kernel_rfl) (adr s2 b2).toList _ (fun _ h => (HR.out _ h).2) Tryd.underlying31 rfl L2.out) hS ?_
  simp only [List.getElem_toArray, List.getElem_cons_zero, List.getElem_cons_succ, Act.put, List.setIfInBounds_toArray, List.set_cons_zero, List.set_cons_succ]
  refine wpAnyH_take (i := 4) (v := .int .i64 p) rfl (by kernel_rfl) (by kernel_rfl) (by kernel_rfl) (fun _ _ _ h => h) (.inl ⟨by kernel_rfl, fun _ _ => by kernel_rfl⟩) hS ?_
  simp only [List.getElem_toArray, List.getElem_cons_zero, List.getElem_cons_succ, Act.put, List.setIfInBounds_toArray, List.set_cons_zero, List.set_cons_succ]
  refine wpAnyH_take (i := 5) (v := .int .i64 n) rfl (by kernel_rfl) (by kernel_rfl) (by kernel_rfl) (fun _ _ _ h => h) (.inl ⟨by kernel_rfl, fun _ _ => by kernel_rfl⟩) hS ?_
  simp only [List.getElem_toArray, List.getElem_cons_zero, List.getElem_cons_succ, Act.put, List.setIfInBounds_toArray, List.set_cons_zero, List.set_cons_succ]
  refine wpAnyH_take (i := 8) (v := .pointer (some ⟨w.heap.size, 0, none⟩)) rfl (by kernel_rfl) (by kernel_rfl) (by kernel_rfl) (fun _ _ _ h => h) (.inl ⟨by kernel_rfl, fun w' _ => by unfold execOp; go_simp⟩) hS ?_
  simp only [List.getElem_toArray, List.getElem_cons_zero, List.getElem_cons_succ, Act.put, List.setIfInBounds_toArray, List.set_cons_zero, List.set_cons_succ]
  refine wpAnyH_take (i := 9) (v := .agg (adr s1 b1)) rfl (by kernel_rfl) (by kernel_rfl) (by kernel_rfl) (fun _ _ _ h => h) (yieldsIf_load_mid (by kernel_rfl) 31 (.tmp 17) rfl w.heap.size 0 (by kernel_rfl) (adr s1 b1).toList _ (fun _ h => (HR.out _ h).1) Tryd.underlying31 rfl L1.out) hS ?_
  simp only [List.getElem_toArray, List.getElem_cons_zero, List.getElem_cons_succ, Act.put, List.setIfInBounds_toArray, List.set_cons_zero, List.set_cons_succ]
  refine wpAnyH_take (i := 10) (v := .pointer (some ⟨w.heap.size, 17, none⟩)) rfl (by kernel_rfl) (by kernel_rfl) (by kernel_rfl) (fun _ _ _ h => h) (.inl ⟨by kernel_rfl, fun w' _ => by unfold execOp; go_simp⟩) hS ?_
  simp only [List.getElem_toArray, List.getElem_cons_zero, List.getElem_cons_succ, Act.put, List.setIfInBounds_toArray, List.set_cons_zero, List.set_cons_succ]
  refine wpAnyH_take (i := 11) (v := .agg (adr s2 b2)) rfl (by kernel_rfl) (by kernel_rfl) (by kernel_rfl) (fun _ _ _ h => h) (yieldsIf_load_mid (by kernel_rfl) 31 (.tmp 19) rfl w.heap.size 17 (by kernel_rfl) (adr s2 b2).toList _ (fun _ h => (HR.out _ h).2) Tryd.underlying31 rfl L2.out) hS ?_
  simp only [List.getElem_toArray, List.getElem_cons_zero, List.getElem_cons_succ, Act.put, List.setIfInBounds_toArray, List.set_cons_zero, List.set_cons_succ]
  refine wpAnyH_take (i := 12) (v := .int .i64 p) rfl (by kernel_rfl) (by kernel_rfl) (by kernel_rfl) (fun _ _ _ h => h) (.inl ⟨by kernel_rfl, fun _ _ => by kernel_rfl⟩) hS ?_
  simp only [List.getElem_toArray, List.getElem_cons_zero, List.getElem_cons_succ, Act.put, List.setIfInBounds_toArray, List.set_cons_zero, List.set_cons_succ]
  refine wpAnyH_take (i := 13) (v := .int .i64 n) rfl (by kernel_rfl) (by kernel_rfl) (by kernel_rfl) (fun _ _ _ h => h) (.inl ⟨by kernel_rfl, fun _ _ => by kernel_rfl⟩) hS ?_
  simp only [List.getElem_toArray, List.getElem_cons_zero, List.getElem_cons_succ, Act.put, List.setIfInBounds_toArray, List.set_cons_zero, List.set_cons_succ]
  refine wpAnyH_ready (rs := [6]) (by kernel_rfl) (by simp) ?_
  refine AllReadyH.cons rfl (fun K' hK => ?_) AllReadyH.nil
  refine step_callE 11 #[.agg (adr s1 b1), .agg (adr s2 b2), .int .i64 p, .int .i64 n] (by kernel_rfl) (by kernel_rfl) (HP.out _) (fun v1 W1 h1 => hK.out _ _ (hS.kept h1.2) (fun hS => ?_))
  simp only [List.getElem_toArray, List.getElem_cons_zero, List.getElem_cons_succ, Act.put, List.setIfInBounds_toArray, List.set_cons_zero, List.set_cons_succ]
  obtain ⟨⟨ad1, cap1, e1, hI1⟩, hb2⟩ := h1
  subst e1
  refine wpAnyH_mono (S' := fun V => Blk V w.heap.size 32 (two s1 b1 s2 b2) ∧ Bys W1.heap.size V ad1 R) (fun _ h => h.1) _ _ _ _ ?_
  have hS : Blk W1 w.heap.size 32 (two s1 b1 s2 b2) ∧ Bys W1.heap.size W1 ad1 R := ⟨hS, hI1⟩
  refine wpAnyH_take (i := 7) (v := .string (strOfNums R)) rfl (by kernel_rfl) (by kernel_rfl) (by kernel_rfl) (fun _ _ _ h => h) (.inl ⟨by kernel_rfl, fun _ hw' => exec_convB (cap := cap1) (.tmp 15) rfl (by kernel_rfl) hw'.2⟩) hS ?_
  simp only [List.getElem_toArray, List.getElem_cons_zero, List.getElem_cons_succ, Act.put, List.setIfInBounds_toArray, List.set_cons_zero, List.set_cons_succ]
  refine wpAnyH_ready (rs := [14]) (by kernel_rfl) (by simp) ?_
  refine AllReadyH.cons rfl (fun K' hK => ?_) AllReadyH.nil
  refine step_callE 12 #[.agg (adr s1 b1), .agg (adr s2 b2), .int .i64 p, .int .i64 n] (by kernel_rfl) (by kernel_rfl) (HQ.out _) (fun v2 W2 h2 => hK.out _ _ ⟨hS.1.kept h2.2, hS.2.below h2.2⟩ (fun hS => ?_))
  simp only [List.getElem_toArray, List.getElem_cons_zero, List.getElem_cons_succ, Act.put, List.setIfInBounds_toArray, List.set_cons_zero, List.set_cons_succ]
  obtain ⟨⟨ad2, cap2, e2, hI2⟩, hb3⟩ := h2
  subst e2
  refine wpAnyH_ready (rs := [15]) (by kernel_rfl) (by simp) ?_
  refine AllReadyH.cons rfl (fun K' hK => ?_) AllReadyH.nil
  refine r_run (.string (strOfNums R)) W2 (exec_convB (cap := cap2) (.tmp 23) rfl (by kernel_rfl) hI2) (by kernel_rfl) (hK.out _ _ hS (fun hS => ?_))
  simp only [List.getElem_toArray, List.getElem_cons_zero, List.getElem_cons_succ, Act.put, List.setIfInBounds_toArray, List.set_cons_zero, List.set_cons_succ]
  refine wpAnyH_take (i := 16) (v := .bool true) rfl (by kernel_rfl) (by kernel_rfl) (by kernel_rfl) (fun _ _ _ h => h) (.inl ⟨by kernel_rfl, fun _ _ => exec_seqS _ _ (.tmp 16) (.tmp 24) rfl (strOfNums R) (by kernel_rfl) (by kernel_rfl)⟩) hS ?_
  simp only [List.getElem_toArray, List.getElem_cons_zero, List.getElem_cons_succ, Act.put, List.setIfInBounds_toArray, List.set_cons_zero, List.set_cons_succ]
  refine wpAnyH_take (i := 17) (v := .bool true) rfl (by kernel_rfl) (by kernel_rfl) (by kernel_rfl) (fun _ _ _ h => h) (.inl ⟨by kernel_rfl, fun _ _ => by kernel_rfl⟩) hS ?_
  simp only [List.getElem_toArray, List.getElem_cons_zero, List.getElem_cons_succ, Act.put, List.setIfInBounds_toArray, List.set_cons_zero, List.set_cons_succ]
  refine wpAnyH_done (by kernel_rfl) ?_ _
  have F : Hid (Below w.heap.size w W2) := hid (sbel2 (sbel2 (Hb1.out.drew) hb2) hb3)
  clear hS hS0 hI1 hI2 hb2 hb3
  go_wp2
  go_ret
  exact ⟨rfl, F.out⟩
end Go.Proofs.YtnlhdeffoalhiaaDoor
