/-
  The walk of the law AddrFormats.
-/
import Derived.Test.YtdkmckmfllfegaaDoorBack
import Derived.Test.YtdkmckmfllfegaaDoorAlive
namespace Go.Proofs.YtdkmckmfllfegaaDoor
open Go.RowKit

/-- Two texts held apart, at a step of a region that draws. -/
theorem exec_sneq {P : Program} {a : Act} {w : World} {o : Oper} (t t' : TypeId) (x y : Operand) (ho : o.op = .binOp .neq t x y t') (s : ByteArray) (hx : a.eval x = .string s) (hy : a.eval y = .string s) :
    (execOp a.eval o).run P w = .ok (.value (.bool false)) w := by
  unfold execOp
  simp only [ho, hx, hy, eqGuard, binOp]
  simp [Op.stringOp, go_sem]

/-- A call of a Go function by its contract, at the operation itself. -/
theorem op_call {P : Program} {o : Oper} {a : Act} {w : World} {K : Act → World → Prop} {Q : Exit → Act → World → Prop} (f : FuncId) (args : Array Value) (hrun : (execOp a.eval o).run P w = .ok (.enter f args) w) {R : World → Prop} (v : Value)
    (hc : Calls P f args w fun e w' => e = .returned v ∧ R w') (h : ∀ w', R w' → K (a.put o.dst v) w') : Oper.wp P o a w K Q := by
  unfold Oper.wp
  rw [hrun, Oper.upon_enter]
  refine hc.mono fun e w'' hh => ?_
  obtain ⟨rfl, hR⟩ := hh
  exact h _ hR

set_option linter.unusedSimpArgs false in
set_option maxRecDepth 100000 in
set_option maxHeartbeats 4000000 in
theorem formats_walk (s r : Bool) (b : List Int) (hl : b.length = 16) (T : ByteArray) (E : Value) (w : World) (hE : Env E w)
    (cR : ∀ w, Calls Tryd.prog 10 #[.agg (adr s b)] w fun e w' => e = .returned (.bool r) ∧ Below w.heap.size w w')
    (cQ : ∀ w, Calls Tryd.prog 12 #[.agg (adr s b)] w fun e w' => e = .returned (.bool r) ∧ Below w.heap.size w w')
    (cF : ∀ w, Env E w → Calls Tryd.prog 11 #[.agg (adr s b)] w fun e w' => e = .returned (.string T) ∧ Below w.heap.size w w')
    (cG : ∀ w, Calls Tryd.prog 13 #[.agg (adr s b)] w fun e w' => e = .returned (.string T) ∧ Below w.heap.size w w')
    (cP : r = true → ∀ w, Env E w → Calls Tryd.prog 7 #[.string T] w fun e w' => e = .returned (.tuple #[.agg (adr s b), .nilIface]) ∧ Below w.heap.size w w') :
    Calls Tryd.prog 4 #[.agg (adr s b)] w fun e w' => e = .returned (.bool true) ∧ Below w.heap.size w w' := by
  obtain ⟨W0, hW0⟩ : ∃ W, W = w.alloc (.cells (adr s b) 25) := ⟨_, rfl⟩
  have hB0 : Blk W0 w.heap.size 25 (adr s b) := hW0 ▸ Blk.new w _ _
  have hb0 : Below w.heap.size w W0 := hW0 ▸ (Below.refl _ _).alloc (Nat.le_refl _) _
  have HW0 := Lib.hid hW0.symm
  have HB0 := Lib.hid hB0
  have L17 : Hid (17 = (adr s b).size) := Lib.hid (by rw [adr_size, hl])
  have HE := Lib.hid (hE.kept hb0)
  have CR := Lib.hid cR
  have CQ := Lib.hid cQ
  have CF := Lib.hid cF
  have CG := Lib.hid cG
  have CP := Lib.hid cP
  have CB := Lib.hid (bits_any s b hl)
  have hq := eql_adr s s b b hl hl
  rw [show ((s == s) && (b == b)) = true by simp] at hq
  clear hW0 hB0 hE cR cQ cF cG cP hl
  go_enter Tryd.func4, Tryd.ntmps4
  go_wp2_with fail
  rw [HW0.out]
  refine (alive_any E W0 HE.out).mono ?_
  rintro e w1 ⟨rfl, hb1⟩
  have HB1 := Lib.hid (HB0.out.kept hb1)
  have HE1 := Lib.hid (HE.out.kept hb1)
  go_wp2_with (refine wpl_load 25 _ rfl _ rfl _ _ _ HB1.out Tryd.underlying25 rfl 17 Tryd.infoAddr L17.out rfl ?_)
  refine (CF.out w1 HE1.out).mono ?_
  rintro e w2 ⟨rfl, hb2⟩
  have HE2 := Lib.hid (HE1.out.kept hb2)
  go_wp2_with fail
  have hS : Blk w2.drew w.heap.size 25 (adr s b) ∧ Below w.heap.size w w2.drew ∧ Env E w2.drew := ⟨(HB1.out.kept hb2).kept (below_drew w2), bel2 (bel2 (bel2 hb0 hb1) hb2) (below_drew w2), HE2.out.kept (below_drew w2)⟩
  refine wp_region_held_drew (S := fun w' => Blk w' w.heap.size 25 (adr s b) ∧ Below w.heap.size w w' ∧ Env E w') (by kernel_rfl) hS (fun hS => ?_)
  change wpAnyH _ _ _ _ _ 11 #[false, false, false, false, false, false, false, false, false, false, false] _ _
  refine wpAnyH_take (i := 0) (v := .agg (adr s b)) rfl (by kernel_rfl) (by kernel_rfl) (by kernel_rfl) (fun _ _ _ h => h) (yields_load 25 (.tmp 1) rfl w.heap.size (by kernel_rfl) _ _ _ (fun w h => h.1) Tryd.underlying25 rfl 17 Tryd.infoAddr L17.out (by kernel_rfl)) hS ?_
  simp only [List.getElem_toArray, List.getElem_cons_zero, List.getElem_cons_succ, Act.put, List.setIfInBounds_toArray, List.set_cons_zero, List.set_cons_succ]
  refine wpAnyH_take (i := 2) (v := .agg (adr s b)) rfl (by kernel_rfl) (by kernel_rfl) (by kernel_rfl) (fun _ _ _ h => h) (yields_load 25 (.tmp 1) rfl w.heap.size (by kernel_rfl) _ _ _ (fun w h => h.1) Tryd.underlying25 rfl 17 Tryd.infoAddr L17.out (by kernel_rfl)) hS ?_
  simp only [List.getElem_toArray, List.getElem_cons_zero, List.getElem_cons_succ, Act.put, List.setIfInBounds_toArray, List.set_cons_zero, List.set_cons_succ]
  refine wpAnyH_ready (rs := [1]) (by kernel_rfl) (by simp) ?_
  refine AllReadyH.cons rfl (fun K' hK => ?_) AllReadyH.nil
  refine step_call 10 #[.agg (adr s b)] (by kernel_rfl) (by kernel_rfl) (.bool r) (CR.out _) (fun w3 hb3 => hK.out _ _ ⟨hS.1.kept hb3, bel2 hS.2.1 hb3, hS.2.2.kept hb3⟩ (fun hS => ?_))
  simp only [List.getElem_toArray, List.getElem_cons_zero, List.getElem_cons_succ, Act.put, List.setIfInBounds_toArray, List.set_cons_zero, List.set_cons_succ]
  refine wpAnyH_ready (rs := [3]) (by kernel_rfl) (by simp) ?_
  refine AllReadyH.cons rfl (fun K' hK => ?_) AllReadyH.nil
  refine step_call 12 #[.agg (adr s b)] (by kernel_rfl) (by kernel_rfl) (.bool r) (CQ.out _) (fun w4 hb4 => hK.out _ _ ⟨hS.1.kept hb4, bel2 hS.2.1 hb4, hS.2.2.kept hb4⟩ (fun hS => ?_))
  simp only [List.getElem_toArray, List.getElem_cons_zero, List.getElem_cons_succ, Act.put, List.setIfInBounds_toArray, List.set_cons_zero, List.set_cons_succ]
  refine wpAnyH_take (i := 4) (v := .bool false) rfl (by kernel_rfl) (by kernel_rfl) (by kernel_rfl) (fun _ _ _ h => h) (.inl ⟨by kernel_rfl, fun w _ => by cases r <;> kernel_rfl⟩) hS ?_
  simp only [List.getElem_toArray, List.getElem_cons_zero, List.getElem_cons_succ, Act.put, List.setIfInBounds_toArray, List.set_cons_zero, List.set_cons_succ]
  refine wpAnyH_take (i := 5) (v := .bool false) rfl (by kernel_rfl) (by kernel_rfl) (by kernel_rfl) (fun _ _ _ h => h) (.inl ⟨by kernel_rfl, fun w _ => by kernel_rfl⟩) hS ?_
  simp only [List.getElem_toArray, List.getElem_cons_zero, List.getElem_cons_succ, Act.put, List.setIfInBounds_toArray, List.set_cons_zero, List.set_cons_succ]
  refine wpAnyH_take (i := 6) (v := .string T) rfl (by kernel_rfl) (by kernel_rfl) (by kernel_rfl) (fun _ _ _ h => h) (.inl ⟨by kernel_rfl, fun w _ => by kernel_rfl⟩) hS ?_
  simp only [List.getElem_toArray, List.getElem_cons_zero, List.getElem_cons_succ, Act.put, List.setIfInBounds_toArray, List.set_cons_zero, List.set_cons_succ]
  refine wpAnyH_take (i := 7) (v := .agg (adr s b)) rfl (by kernel_rfl) (by kernel_rfl) (by kernel_rfl) (fun _ _ _ h => h) (yields_load 25 (.tmp 1) rfl w.heap.size (by kernel_rfl) _ _ _ (fun w h => h.1) Tryd.underlying25 rfl 17 Tryd.infoAddr L17.out (by kernel_rfl)) hS ?_
  simp only [List.getElem_toArray, List.getElem_cons_zero, List.getElem_cons_succ, Act.put, List.setIfInBounds_toArray, List.set_cons_zero, List.set_cons_succ]
  refine wpAnyH_ready (rs := [8]) (by kernel_rfl) (by simp) ?_
  refine AllReadyH.cons rfl (fun K' hK => ?_) AllReadyH.nil
  rw [if_pos (by kernel_rfl)]
  refine op_call 13 #[.agg (adr s b)] (by kernel_rfl) (.string T) (CG.out _) (fun w5 hb5 => hK.out _ _ ⟨hS.1.kept hb5, bel2 hS.2.1 hb5, hS.2.2.kept hb5⟩ (fun hS => ?_))
  simp only [List.getElem_toArray, List.getElem_cons_zero, List.getElem_cons_succ, Act.put, List.setIfInBounds_toArray, List.set_cons_zero, List.set_cons_succ]
  refine wpAnyH_take (i := 9) (v := .bool false) rfl (by kernel_rfl) (by kernel_rfl) (by kernel_rfl) (fun _ _ _ h => h) (.inl ⟨by kernel_rfl, fun w _ => exec_sneq 9 9 (.tmp 17) (.tmp 19) rfl T (by kernel_rfl) (by kernel_rfl)⟩) hS ?_
  simp only [List.getElem_toArray, List.getElem_cons_zero, List.getElem_cons_succ, Act.put, List.setIfInBounds_toArray, List.set_cons_zero, List.set_cons_succ]
  refine wpAnyH_take (i := 10) (v := .bool false) rfl (by kernel_rfl) (by kernel_rfl) (by kernel_rfl) (fun _ _ _ h => h) (.inl ⟨by kernel_rfl, fun w _ => by kernel_rfl⟩) hS ?_
  simp only [List.getElem_toArray, List.getElem_cons_zero, List.getElem_cons_succ, Act.put, List.setIfInBounds_toArray, List.set_cons_zero, List.set_cons_succ]
  refine wpAnyH_done (by kernel_rfl) ?_ _
  obtain ⟨hB5, hb5', hE5⟩ := hS
  have HB5 := Lib.hid hB5
  have Hb5 := Lib.hid hb5'
  have HE5 := Lib.hid hE5
  clear hB5 hb5' hE5
  go_wp2_with (refine wpl_load 25 _ rfl _ rfl _ _ _ HB5.out Tryd.underlying25 rfl 17 Tryd.infoAddr L17.out rfl ?_)
  refine (CQ.out w5).mono ?_
  rintro e w6 ⟨rfl, hb6⟩
  cases r with
  | false =>
    go_wp2
    go_ret
    exact ⟨rfl, bel2 Hb5.out hb6⟩
  | true =>
    have HB6 := Lib.hid (HB5.out.kept hb6)
    have HE6 := Lib.hid (HE5.out.kept hb6)
    have Hb6 := Lib.hid (bel2 Hb5.out hb6)
    clear hb6
    go_wp2_with fail
    refine (CP.out (by simp) w6 HE6.out).mono ?_
    rintro e w7 ⟨rfl, hb7⟩
    obtain ⟨W8, hW8⟩ : ∃ W, W = w7.alloc (.cells (adr false z16) 25) := ⟨_, rfl⟩
    have hB8 : Blk W8 w7.heap.size 25 (adr false z16) := hW8 ▸ Blk.new w7 _ _
    have hb8 : Below w7.heap.size w7 W8 := hW8 ▸ (Below.refl _ _).alloc (Nat.le_refl _) _
    have HW8 : Hid (w7.alloc (.cells #[.bool false, .int .u8 0, .int .u8 0, .int .u8 0, .int .u8 0, .int .u8 0, .int .u8 0, .int .u8 0, .int .u8 0, .int .u8 0, .int .u8 0, .int .u8 0, .int .u8 0, .int .u8 0, .int .u8 0, .int .u8 0, .int .u8 0] 25) = W8) := Lib.hid hW8.symm
    have HB8 := Lib.hid hB8
    have HB7 := Lib.hid (HB6.out.kept hb7)
    have hne : w.heap.size ≠ w7.heap.size := Nat.ne_of_lt HB7.out.lt
    obtain ⟨V, hV⟩ : ∃ V, V = W8.setRow w7.heap.size (adr s b) := ⟨_, rfl⟩
    have HV := Lib.hid hV.symm
    have HBV : Hid (Blk V w7.heap.size 25 (adr s b)) := Lib.hid (hV ▸ hB8.row _)
    have hBO : Blk V w.heap.size 25 (adr s b) := hV ▸ (HB7.out.kept hb8).rowOther hne _
    have HBO := Lib.hid hBO
    have HbV : Hid (Below w.heap.size w V) := Lib.hid (hV ▸ below_setRow (bel2 (bel2 Hb6.out hb7) hb8) (Nat.le_of_lt HB7.out.lt) _)
    have h0 : V.cell? ⟨w.heap.size, 0, none⟩ = some (.bool s) := by rw [hBO.cell]; rfl
    clear hW8 hB8 hb8 hV hBO hne hb7
    cases s
    all_goals
      go_wp2_with ((try rw [HW8.out]); first | (refine wpl_store 25 _ _ rfl _ (adr _ b) rfl rfl _ _ HB8.out 17 Tryd.infoAddr L17.out rfl (adr_one _ _) rfl ?_; rw [HV.out]) | (refine wpl_load 25 _ rfl w7.heap.size rfl _ _ _ HBV.out Tryd.underlying25 rfl 17 Tryd.infoAddr L17.out rfl ?_) | (refine wpl_load 25 _ rfl w.heap.size rfl _ _ _ HBO.out Tryd.underlying25 rfl 17 Tryd.infoAddr L17.out rfl ?_))
      refine (CB.out V).mono ?_
      rintro e w9 ⟨rfl, hb9⟩
      go_wp2
      go_ret
      exact ⟨rfl, bel2 HbV.out hb9⟩

theorem formats_any (s : Bool) (B : List Nat) (hl : B.length = 16) (hB : ∀ x ∈ B, x < 256) (E : Value) (w : World) (hE : Env E w) :
    Calls Tryd.prog 4 #[.agg (adr s (ints B))] w fun e w' => e = .returned (.bool true) ∧ Below w.heap.size w w' := by
  have hli : (ints B).length = 16 := by rw [ints_length, hl]
  have hgl : ∀ n ∈ gr B, n < 65536 := by
    intro n hn
    simp only [gr, List.mem_map, List.mem_range] at hn
    obtain ⟨i, hi, rfl⟩ := hn
    have h1 : B.getD (2 * i) 0 < 256 := by apply hB; simp [List.getD, List.getElem?_eq_getElem (show 2 * i < B.length by omega)]
    have h2 : B.getD (2 * i + 1) 0 < 256 := by apply hB; simp [List.getD, List.getElem?_eq_getElem (show 2 * i + 1 < B.length by omega)]
    omega
  have parse : ∀ (sx : Bool) (T : List UInt8), T.length ≤ 1000 → parsed T = some (sx, ints B) → ∀ w, Env E w → Calls Tryd.prog 7 #[.string ⟨T.toArray⟩] w fun e w' => e = .returned (.tuple #[.agg (adr sx (ints B)), .nilIface]) ∧ Below w.heap.size w w' := by
    intro sx T hT hp w hE
    have := parse_any ⟨T.toArray⟩ (by show T.toArray.size ≤ 1000; simpa using hT) E w hE
    rw [show (⟨T.toArray⟩ : ByteArray).data.toList = T by simp, hp] at this
    exact this
  cases s with
  | true =>
    refine formats_walk true true (ints B) hli ⟨(text6 (gr B)).toArray⟩ E w hE (right_six (ints B)) (fun w => (refRight_any true (ints B) hli w).mono fun e w' h => ⟨by rw [h.1]; rfl, h.2⟩) (fun w hE => format_six B hl hB E w hE) (rformat_six B hl hB) (fun _ => parse true _ ?_ (parsed_text6 B hl hB hgl))
    have := t6_le (gr B) (gr_length B) (if (nzB (zeros (gr B)) 8).2.1 = (nzB (zeros (gr B)) 8).2.2 then 8 else (nzB (zeros (gr B)) 8).2.1) (nzB (zeros (gr B)) 8).2.2 8
    rw [t6_end (gr B) (gr_length B)] at this
    omega
  | false =>
    cases hf : flat (ints B) with
    | true =>
      refine formats_walk false true (ints B) hli ⟨(text4 B).toArray⟩ E w hE (fun w => (right_four (ints B) hli w).mono fun e w' h => ⟨by rw [h.1, hf], h.2⟩) (fun w => (refRight_any false (ints B) hli w).mono fun e w' h => ⟨by rw [h.1, hf]; rfl, h.2⟩) (fun w hE => format_four B hl hB hf E w hE) (rformat_four B hl hB hf) (fun _ => parse false _ ?_ (parsed_text4 B hl hB hf))
      have := j4_le B hB 4 (by omega)
      show (j4 B 4).length ≤ 1000
      omega
    | false =>
      exact formats_walk false false (ints B) hli ⟨#[]⟩ E w hE (fun w => (right_four (ints B) hli w).mono fun e w' h => ⟨by rw [h.1, hf], h.2⟩) (fun w => (refRight_any false (ints B) hli w).mono fun e w' h => ⟨by rw [h.1, hf]; rfl, h.2⟩) (fun w _ => format_bad (ints B) hli hf w) (rformat_bad (ints B) hli hf) (fun h => by cases h)
end Go.Proofs.YtdkmckmfllfegaaDoor
