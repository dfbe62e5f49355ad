/-
  The walk of the law AddrBytes.
-/
import Derived.Test.YtnfkgoeocebenaaGreatDoorAkit
import Derived.Test.YtnfkgoeocebenaaGreatDoorAlive
namespace Go.Proofs.YtnfkgoeocebenaaGreatDoor
open Go.RowKit

theorem readA_most (bs : List Int) (p : Nat) : (readA bs p).2.2 ≤ 18 := by
  unfold readA
  split
  · split
    · split <;> simp
    · split
      · split <;> simp
      · simp
  · simp
theorem errV_some2 (a : Nat → Addr) (k : Nat) (h : k ≠ 0) : errV a k = .iface 211 (.pointer (some (a (k - 1)))) := by unfold errV; rw [if_neg h]
theorem four_in {w' : World} {g : Nat} {f0 f1 f2 f3 : Int} (h : Blk w' g 26 (arr .u8 [f0, f1, f2, f3])) : BytesIn w' g (.slice (some ⟨g, 0, none⟩) 4 4) [f0, f1, f2, f3] := by
  refine ⟨g, 0, 4, rfl, Nat.le_refl _, fun j hj => ?_⟩
  rw [Nat.zero_add, h.cell, arr_at .u8 [f0, f1, f2, f3] j hj]
  rfl

theorem pad_flat (bs : List Int) (h : bs.length = 4) : (false || flat (pad16 bs)) = true := by
  match bs, h with
  | [x0, x1, x2, x3], _ => simp [flat, pad16, nth, List.replicate]
theorem exec_ieql {P : Program} {a : Act} {w : World} {o : Oper} (t t' : TypeId) (x y : Operand) (ho : o.op = .binOp .eql t x y t') (n m : Int) (hx : a.eval x = .int .i64 n) (hy : a.eval y = .int .i64 m) (r : Bool) (h : (n == m) = r) :
    (execOp a.eval o).run P w = .ok (.value (.bool r)) w := by
  subst h
  unfold execOp
  simp only [ho, hx, hy, eqGuard, binOp]
  simp [go_sem]

set_option maxRecDepth 100000 in
set_option maxHeartbeats 1000000 in
theorem abw_long (s : Bool) (b : List Int) (f0 f1 f2 f3 : Int) (ad : Option Addr) (m cap : Nat) (hm : 100 < m) (E : Value) (w : World) (hE : Env E w) :
    Calls Tryz.prog 3 #[.agg (adr s b), .slice ad m cap, .agg (arr .u8 [f0, f1, f2, f3])] w fun e w' => e = .returned (.bool true) ∧ Below w.heap.size w w' := by
  obtain ⟨W0, hW0⟩ : ∃ W, W = (w.alloc (.cells (adr s b) 24)).alloc (.cells (arr .u8 [f0, f1, f2, f3]) 26) := ⟨_, rfl⟩
  have hb0 : Below w.heap.size w W0 := hW0 ▸ ((Below.refl _ _).alloc (Nat.le_refl _) _).alloc (by simp) _
  have HW0 := Lib.hid hW0.symm
  have C0 := Lib.hid (alive_any E W0 (hE.kept hb0))
  have q : decide ((m : Int) > 100) = true := decide_eq_true (by omega)
  have q' : decide ((100 : Int) < (m : Int)) = true := decide_eq_true (by omega)
  clear hW0 hE
  go_enter Tryz.func3, Tryz.ntmps3
  go_upto_region 1 with fail
  rw [HW0.out]
  go_wp2_with fail
  refine C0.out.mono ?_
  rintro e w1 ⟨rfl, hb1⟩
  go_wp2
  go_ret
  exact ⟨rfl, bel2 hb0 hb1⟩

set_option linter.unusedSimpArgs false in
set_option maxRecDepth 100000 in
set_option maxHeartbeats 16000000 in
theorem abw_other (s : Bool) (b : List Int) (hl : b.length = 16) (f0 f1 f2 f3 : Int) (ad : Option Addr) (cap : Nat) (bs : List Int) (hm : bs.length ≤ 100) (h4 : bs.length ≠ 4) (h16 : bs.length ≠ 16) (hcap : bs.length ≤ cap) (hn0 : ad = none → cap = 0) (hby : ∀ j, 0 ≤ bs.getD j 0 ∧ bs.getD j 0 ≤ 255) (a : Nat → Addr) (w : World)
    (hE : Env (.iface 211 (.pointer (some (a 3)))) w) (hErr : Errs 18 a w) (hrow : ∀ j, j < bs.length → ∃ g o, ad = some ⟨g, o, none⟩ ∧ w.cell? ⟨g, o + j, none⟩ = some (.int .u8 (bs.getD j 0))) :
    Calls Tryz.prog 3 #[.agg (adr s b), .slice ad bs.length cap, .agg (arr .u8 [f0, f1, f2, f3])] w fun e w' => e = .returned (.bool true) ∧ Below w.heap.size w w' := by
  obtain ⟨W0, hW0⟩ : ∃ W, W = (w.alloc (.cells (adr s b) 24)).alloc (.cells (arr .u8 [f0, f1, f2, f3]) 26) := ⟨_, rfl⟩
  have hz0 : (w.alloc (.cells (adr s b) 24)).heap.size = w.heap.size + 1 := by simp
  have hb0 : Below w.heap.size w W0 := hW0 ▸ ((Below.refl _ _).alloc (Nat.le_refl _) _).alloc (by simp) _
  have hB0 : Blk W0 w.heap.size 24 (adr s b) := hW0 ▸ (Blk.new w _ _).alloc _
  have hF0 : Blk W0 (w.heap.size + 1) 26 (arr .u8 [f0, f1, f2, f3]) := by
    have := Blk.new (w.alloc (.cells (adr s b) 24)) 26 (arr .u8 [f0, f1, f2, f3])
    rw [hz0, ← hW0] at this
    exact this
  have HW0 := Lib.hid hW0.symm
  have C0 := Lib.hid (alive_any _ W0 (hE.kept hb0))
  have HB0 := Lib.hid hB0
  have HF0 := Lib.hid hF0
  have Hb0 := Lib.hid hb0
  have HL := Lib.hid hl
  have L17 : Hid (17 = (adr s b).size) := Lib.hid (by rw [adr_size, hl])
  have L17y : Hid (17 = (adr false [f0, f1, f2, f3, 0, 0, 0, 0, 0, 0, 0, 0, 0, 0, 0, 0]).size) := Lib.hid rfl
  have CB := Lib.hid (abytesA s b hl)
  have CRB := Lib.hid (rbytesA s b hl)
  have CP := Lib.hid (aputA s b hl)
  have CRP := Lib.hid (rputA s b hl)
  have CS := Lib.hid (six_any b hl)
  have CRY : Hid (∀ w, Calls Tryz.prog 10 #[.agg (adr false [f0, f1, f2, f3, 0, 0, 0, 0, 0, 0, 0, 0, 0, 0, 0, 0])] w fun e w' => ∃ v, e = .returned v ∧ (BytesIn w' w.heap.size v [f0, f1, f2, f3] ∧ Below w.heap.size w w')) := Lib.hid (rbytesA false [f0, f1, f2, f3, 0, 0, 0, 0, 0, 0, 0, 0, 0, 0, 0, 0] rfl)
  have CRt : Hid (∀ w, Calls Tryz.prog 16 #[.agg (adr false [f0, f1, f2, f3, 0, 0, 0, 0, 0, 0, 0, 0, 0, 0, 0, 0])] w fun e w' => e = .returned (.bool true) ∧ Below w.heap.size w w') := Lib.hid fun w => by
    have := refRight_any false [f0, f1, f2, f3, 0, 0, 0, 0, 0, 0, 0, 0, 0, 0, 0, 0] rfl w
    rw [show (false || flat [f0, f1, f2, f3, 0, 0, 0, 0, 0, 0, 0, 0, 0, 0, 0, 0]) = true by simp [flat, nth]] at this
    exact this
  have HBy := Lib.hid hby
  have HEr := Lib.hid hErr
  have HRow := Lib.hid hrow
  obtain ⟨rs, rb, q, k, hrd⟩ : ∃ rs rb q k, readA bs 0 = ((rs, rb), q, k) := ⟨_, _, _, _, rfl⟩
  have HLr : Hid (rb.length = 16) := Lib.hid (by have := readA_len bs 0; rw [hrd] at this; exact this)
  have L17z : Hid (17 = (adr rs rb).size) := Lib.hid (by rw [adr_size, HLr.out])
  have Hk : Hid (k ≤ 18) := Lib.hid (by have := readA_most bs 0; rw [hrd] at this; exact this)
  have HRd := Lib.hid hrd
  have CN : Hid (∀ w', Below w.heap.size w w' → Calls Tryz.prog 15 #[errV a k] w' fun e w2 => e = .returned (.int .i64 (k : Int)) ∧ Below w'.heap.size w' w2) := Lib.hid fun w' hb => by
    have hk := Hk.out
    cases k with
    | zero => exact (num_nil w').mono fun e w2 hh => ⟨hh.1, by rw [← hh.2]; exact Below.refl _ _⟩
    | succ m =>
      rw [errV_some2 a (m + 1) (by omega), Nat.add_sub_cancel]
      refine (num_err a m (by omega) w' (hErr.below hb)).mono fun e w2 hh => ⟨?_, hh.2⟩
      rw [hh.1]
      simp
  have d1 : decide ((bs.length : Int) > 100) = false := decide_eq_false (by omega)
  have d1' : decide ((100 : Int) < (bs.length : Int)) = false := decide_eq_false (by omega)
  have d4 : ((bs.length : Int) != 4) = true := by rw [bne_iff_ne]; omega
  have d16 : ((bs.length : Int) != 16) = true := by rw [bne_iff_ne]; omega
  have CF : Hid (∀ w', Below w.heap.size w w' → Calls Tryz.prog 14 #[.slice ad bs.length cap] w' fun e w2 => e = .returned (.tuple #[.agg (adr false z16), (.iface 211 (.pointer (some (a 3))))]) ∧ Below w'.heap.size w' w2) := Lib.hid fun w' hb => from_bad ad bs.length cap h4 h16 _ w' (hErr.below hb).c.form
  have CNE : Hid (∀ w', Below w.heap.size w w' → Calls Tryz.prog 15 #[(.iface 211 (.pointer (some (a 3))))] w' fun e w2 => e = .returned (.int .i64 4) ∧ Below w'.heap.size w' w2) := Lib.hid fun w' hb => num_err a 3 (by decide) w' (hErr.below hb)
  have hq : ∀ w, (binOp .neq 24 (.agg (adr false z16)) (.agg #[.bool false, .int .u8 0, .int .u8 0, .int .u8 0, .int .u8 0, .int .u8 0, .int .u8 0, .int .u8 0, .int .u8 0, .int .u8 0, .int .u8 0, .int .u8 0, .int .u8 0, .int .u8 0, .int .u8 0, .int .u8 0, .int .u8 0])).run Tryz.prog w = .ok (.bool false) w := fun w => run_neq_adr false z16 rfl w
  clear h4 h16
  clear hW0 hz0 hB0 hF0 hb0 hl hE hby hErr hrow hrd
  go_enter Tryz.func3, Tryz.ntmps3
  go_upto_region 1 with fail
  rw [HW0.out]
  go_wp2_with fail
  refine C0.out.mono ?_
  rintro e w1 ⟨rfl, hb1⟩
  have hS0 : Blk w1.drew (w.heap.size) 24 (adr s b) ∧ Blk w1.drew (w.heap.size + 1) 26 (arr .u8 [f0, f1, f2, f3]) ∧ Below w.heap.size w w1.drew := by
    have hbd := bel2 hb1 (below_drewN w1 1)
    exact ⟨HB0.out.kept hbd, HF0.out.kept hbd, bel2 Hb0.out hbd⟩
  clear hb1
  go_wp2_with fail
  refine wp_region_held_drew (S := fun w' => Blk w' (w.heap.size) 24 (adr s b) ∧ Blk w' (w.heap.size + 1) 26 (arr .u8 [f0, f1, f2, f3]) ∧ Below w.heap.size w w') (by kernel_rfl) hS0 (fun hS => ?_)
  change wpAnyH _ _ _ _ _ 25 #[false, false, false, false, false, false, false, false, false, false, false, false, false, false, false, false, false, false, false, false, false, false, false, false, false] _ _
  refine wpAnyH_take (i := 0) (v := .agg (adr s b)) rfl (by kernel_rfl) (by kernel_rfl) (by kernel_rfl) (fun _ _ _ h => h) (yields_load 24 (.tmp 3) rfl (w.heap.size) (by kernel_rfl) _ _ _ (fun w h => h.1) Tryz.underlying24 rfl 17 Tryz.infoAddr L17.out (by kernel_rfl)) hS ?_
  simp only [List.getElem_toArray, List.getElem_cons_zero, List.getElem_cons_succ, Act.put, List.setIfInBounds_toArray, List.set_cons_zero, List.set_cons_succ]
  refine wpAnyH_take (i := 3) (v := .agg (adr s b)) rfl (by kernel_rfl) (by kernel_rfl) (by kernel_rfl) (fun _ _ _ h => h) (yields_load 24 (.tmp 3) rfl (w.heap.size) (by kernel_rfl) _ _ _ (fun w h => h.1) Tryz.underlying24 rfl 17 Tryz.infoAddr L17.out (by kernel_rfl)) hS ?_
  simp only [List.getElem_toArray, List.getElem_cons_zero, List.getElem_cons_succ, Act.put, List.setIfInBounds_toArray, List.set_cons_zero, List.set_cons_succ]
  refine wpAnyH_ready (rs := [1]) (by kernel_rfl) (by simp) ?_
  refine AllReadyH.cons rfl (fun K' hK => ?_) AllReadyH.nil
  refine step_callE 9 #[.agg (adr s b)] (by kernel_rfl) (by kernel_rfl) (CB.out _) (fun v1 u1 hR1 => hK.out _ _ (⟨hS.1.kept hR1.2, hS.2.1.kept hR1.2, bel2 hS.2.2 hR1.2⟩) (fun hS => ?_))
  simp only [List.getElem_toArray, List.getElem_cons_zero, List.getElem_cons_succ, Act.put, List.setIfInBounds_toArray, List.set_cons_zero, List.set_cons_succ]
  have hz1 := hS0.2.2.size
  have hSn : (fun w' => (Blk w' (w.heap.size) 24 (adr s b) ∧ Blk w' (w.heap.size + 1) 26 (arr .u8 [f0, f1, f2, f3]) ∧ Below w.heap.size w w') ∧ BytesIn w' w.heap.size v1 (bytesA s b)) u1 := ⟨hS, hR1.1.mono hz1⟩
  refine wpAnyH_mono (S' := fun w' => (Blk w' (w.heap.size) 24 (adr s b) ∧ Blk w' (w.heap.size + 1) 26 (arr .u8 [f0, f1, f2, f3]) ∧ Below w.heap.size w w') ∧ BytesIn w' w.heap.size v1 (bytesA s b)) (fun _ h => h.1) _ _ _ _ ?_
  clear hS
  have hS := hSn
  clear hSn
  refine wpAnyH_take (i := 2) (v := .string (strOfNums (bytesA s b))) rfl (by kernel_rfl) (by kernel_rfl) (by kernel_rfl) (fun _ _ _ h => h) (.inl ⟨by kernel_rfl, fun w h => exec_conv2 (.tmp 19) rfl v1 (by kernel_rfl) (bytesA s b) h.2⟩) hS ?_
  simp only [List.getElem_toArray, List.getElem_cons_zero, List.getElem_cons_succ, Act.put, List.setIfInBounds_toArray, List.set_cons_zero, List.set_cons_succ]
  refine wpAnyH_ready (rs := [4]) (by kernel_rfl) (by simp) ?_
  refine AllReadyH.cons rfl (fun K' hK => ?_) AllReadyH.nil
  refine step_callE 10 #[.agg (adr s b)] (by kernel_rfl) (by kernel_rfl) (CRB.out _) (fun v2 u2 hR2 => hK.out _ _ (⟨⟨hS.1.1.kept hR2.2, hS.1.2.1.kept hR2.2, bel2 hS.1.2.2 hR2.2⟩, hS.2.kept hR2.2⟩) (fun hS => ?_))
  simp only [List.getElem_toArray, List.getElem_cons_zero, List.getElem_cons_succ, Act.put, List.setIfInBounds_toArray, List.set_cons_zero, List.set_cons_succ]
  have hz2 := Nat.le_trans hz1 hR1.2.size
  have hSn : (fun w' => ((Blk w' (w.heap.size) 24 (adr s b) ∧ Blk w' (w.heap.size + 1) 26 (arr .u8 [f0, f1, f2, f3]) ∧ Below w.heap.size w w') ∧ BytesIn w' w.heap.size v1 (bytesA s b)) ∧ BytesIn w' w.heap.size v2 (bytesA s b)) u2 := ⟨hS, hR2.1.mono hz2⟩
  refine wpAnyH_mono (S' := fun w' => ((Blk w' (w.heap.size) 24 (adr s b) ∧ Blk w' (w.heap.size + 1) 26 (arr .u8 [f0, f1, f2, f3]) ∧ Below w.heap.size w w') ∧ BytesIn w' w.heap.size v1 (bytesA s b)) ∧ BytesIn w' w.heap.size v2 (bytesA s b)) (fun _ h => h.1) _ _ _ _ ?_
  clear hS
  have hS := hSn
  clear hSn
  refine wpAnyH_take (i := 5) (v := .string (strOfNums (bytesA s b))) rfl (by kernel_rfl) (by kernel_rfl) (by kernel_rfl) (fun _ _ _ h => h) (.inl ⟨by kernel_rfl, fun w h => exec_conv2 (.tmp 22) rfl v2 (by kernel_rfl) (bytesA s b) h.2⟩) hS ?_
  simp only [List.getElem_toArray, List.getElem_cons_zero, List.getElem_cons_succ, Act.put, List.setIfInBounds_toArray, List.set_cons_zero, List.set_cons_succ]
  refine wpAnyH_take (i := 6) (v := .bool false) rfl (by kernel_rfl) (by kernel_rfl) (by kernel_rfl) (fun _ _ _ h => h) (.inl ⟨by kernel_rfl, fun w _ => exec_sneq4 9 9 (.tmp 20) (.tmp 23) rfl (strOfNums (bytesA s b)) (by kernel_rfl) (by kernel_rfl)⟩) hS ?_
  simp only [List.getElem_toArray, List.getElem_cons_zero, List.getElem_cons_succ, Act.put, List.setIfInBounds_toArray, List.set_cons_zero, List.set_cons_succ]
  refine wpAnyH_take (i := 7) (v := .bool false) rfl (by kernel_rfl) (by kernel_rfl) (by kernel_rfl) (fun _ _ _ h => h) (.inl ⟨by kernel_rfl, fun w _ => by kernel_rfl⟩) hS ?_
  simp only [List.getElem_toArray, List.getElem_cons_zero, List.getElem_cons_succ, Act.put, List.setIfInBounds_toArray, List.set_cons_zero, List.set_cons_succ]
  refine wpAnyH_take (i := 8) (v := .agg (adr s b)) rfl (by kernel_rfl) (by kernel_rfl) (by kernel_rfl) (fun _ _ _ h => h) (yields_load 24 (.tmp 3) rfl (w.heap.size) (by kernel_rfl) _ _ _ (fun w h => h.1.1.1) Tryz.underlying24 rfl 17 Tryz.infoAddr L17.out (by kernel_rfl)) hS ?_
  simp only [List.getElem_toArray, List.getElem_cons_zero, List.getElem_cons_succ, Act.put, List.setIfInBounds_toArray, List.set_cons_zero, List.set_cons_succ]
  refine wpAnyH_take (i := 11) (v := .agg (adr s b)) rfl (by kernel_rfl) (by kernel_rfl) (by kernel_rfl) (fun _ _ _ h => h) (yields_load 24 (.tmp 3) rfl (w.heap.size) (by kernel_rfl) _ _ _ (fun w h => h.1.1.1) Tryz.underlying24 rfl 17 Tryz.infoAddr L17.out (by kernel_rfl)) hS ?_
  simp only [List.getElem_toArray, List.getElem_cons_zero, List.getElem_cons_succ, Act.put, List.setIfInBounds_toArray, List.set_cons_zero, List.set_cons_succ]
  refine wpAnyH_ready (rs := [9]) (by kernel_rfl) (by simp) ?_
  refine AllReadyH.cons rfl (fun K' hK => ?_) AllReadyH.nil
  rw [if_pos (by kernel_rfl)]
  refine op_callE 11 #[.agg (adr s b)] (by kernel_rfl) (CP.out _) (fun v3 u3 hR3 => hK.out _ _ (⟨⟨⟨hS.1.1.1.kept hR3.2, hS.1.1.2.1.kept hR3.2, bel2 hS.1.1.2.2 hR3.2⟩, hS.1.2.kept hR3.2⟩, hS.2.kept hR3.2⟩) (fun hS => ?_))
  simp only [List.getElem_toArray, List.getElem_cons_zero, List.getElem_cons_succ, Act.put, List.setIfInBounds_toArray, List.set_cons_zero, List.set_cons_succ]
  have hz3 := Nat.le_trans hz2 hR2.2.size
  have hSn : (fun w' => (((Blk w' (w.heap.size) 24 (adr s b) ∧ Blk w' (w.heap.size + 1) 26 (arr .u8 [f0, f1, f2, f3]) ∧ Below w.heap.size w w') ∧ BytesIn w' w.heap.size v1 (bytesA s b)) ∧ BytesIn w' w.heap.size v2 (bytesA s b)) ∧ BytesIn w' w.heap.size v3 (putA s b)) u3 := ⟨hS, hR3.1.mono hz3⟩
  refine wpAnyH_mono (S' := fun w' => (((Blk w' (w.heap.size) 24 (adr s b) ∧ Blk w' (w.heap.size + 1) 26 (arr .u8 [f0, f1, f2, f3]) ∧ Below w.heap.size w w') ∧ BytesIn w' w.heap.size v1 (bytesA s b)) ∧ BytesIn w' w.heap.size v2 (bytesA s b)) ∧ BytesIn w' w.heap.size v3 (putA s b)) (fun _ h => h.1) _ _ _ _ ?_
  clear hS
  have hS := hSn
  clear hSn
  refine wpAnyH_take (i := 10) (v := .string (strOfNums (putA s b))) rfl (by kernel_rfl) (by kernel_rfl) (by kernel_rfl) (fun _ _ _ h => h) (.inl ⟨by kernel_rfl, fun w h => exec_conv2 (.tmp 27) rfl v3 (by kernel_rfl) (putA s b) h.2⟩) hS ?_
  simp only [List.getElem_toArray, List.getElem_cons_zero, List.getElem_cons_succ, Act.put, List.setIfInBounds_toArray, List.set_cons_zero, List.set_cons_succ]
  refine wpAnyH_ready (rs := [12]) (by kernel_rfl) (by simp) ?_
  refine AllReadyH.cons rfl (fun K' hK => ?_) AllReadyH.nil
  rw [if_pos (by kernel_rfl)]
  refine op_callE 12 #[.agg (adr s b)] (by kernel_rfl) (CRP.out _) (fun v4 u4 hR4 => hK.out _ _ (⟨⟨⟨⟨hS.1.1.1.1.kept hR4.2, hS.1.1.1.2.1.kept hR4.2, bel2 hS.1.1.1.2.2 hR4.2⟩, hS.1.1.2.kept hR4.2⟩, hS.1.2.kept hR4.2⟩, hS.2.kept hR4.2⟩) (fun hS => ?_))
  simp only [List.getElem_toArray, List.getElem_cons_zero, List.getElem_cons_succ, Act.put, List.setIfInBounds_toArray, List.set_cons_zero, List.set_cons_succ]
  have hz4 := Nat.le_trans hz3 hR3.2.size
  have hSn : (fun w' => ((((Blk w' (w.heap.size) 24 (adr s b) ∧ Blk w' (w.heap.size + 1) 26 (arr .u8 [f0, f1, f2, f3]) ∧ Below w.heap.size w w') ∧ BytesIn w' w.heap.size v1 (bytesA s b)) ∧ BytesIn w' w.heap.size v2 (bytesA s b)) ∧ BytesIn w' w.heap.size v3 (putA s b)) ∧ BytesIn w' w.heap.size v4 (putA s b)) u4 := ⟨hS, hR4.1.mono hz4⟩
  refine wpAnyH_mono (S' := fun w' => ((((Blk w' (w.heap.size) 24 (adr s b) ∧ Blk w' (w.heap.size + 1) 26 (arr .u8 [f0, f1, f2, f3]) ∧ Below w.heap.size w w') ∧ BytesIn w' w.heap.size v1 (bytesA s b)) ∧ BytesIn w' w.heap.size v2 (bytesA s b)) ∧ BytesIn w' w.heap.size v3 (putA s b)) ∧ BytesIn w' w.heap.size v4 (putA s b)) (fun _ h => h.1) _ _ _ _ ?_
  clear hS
  have hS := hSn
  clear hSn
  refine wpAnyH_take (i := 13) (v := .string (strOfNums (putA s b))) rfl (by kernel_rfl) (by kernel_rfl) (by kernel_rfl) (fun _ _ _ h => h) (.inl ⟨by kernel_rfl, fun w h => exec_conv2 (.tmp 30) rfl v4 (by kernel_rfl) (putA s b) h.2⟩) hS ?_
  simp only [List.getElem_toArray, List.getElem_cons_zero, List.getElem_cons_succ, Act.put, List.setIfInBounds_toArray, List.set_cons_zero, List.set_cons_succ]
  refine wpAnyH_take (i := 14) (v := .bool false) rfl (by kernel_rfl) (by kernel_rfl) (by kernel_rfl) (fun _ _ _ h => h) (.inl ⟨by kernel_rfl, fun w _ => exec_sneq4 9 9 (.tmp 28) (.tmp 31) rfl (strOfNums (putA s b)) (by kernel_rfl) (by kernel_rfl)⟩) hS ?_
  simp only [List.getElem_toArray, List.getElem_cons_zero, List.getElem_cons_succ, Act.put, List.setIfInBounds_toArray, List.set_cons_zero, List.set_cons_succ]
  refine wpAnyH_take (i := 15) (v := .bool false) rfl (by kernel_rfl) (by kernel_rfl) (by kernel_rfl) (fun _ _ _ h => h) (.inl ⟨by kernel_rfl, fun w _ => by kernel_rfl⟩) hS ?_
  simp only [List.getElem_toArray, List.getElem_cons_zero, List.getElem_cons_succ, Act.put, List.setIfInBounds_toArray, List.set_cons_zero, List.set_cons_succ]
  refine wpAnyH_take (i := 16) (v := .bool false) rfl (by kernel_rfl) (by kernel_rfl) (by kernel_rfl) (fun _ _ _ h => h) (.inl ⟨by kernel_rfl, fun w _ => by kernel_rfl⟩) hS ?_
  simp only [List.getElem_toArray, List.getElem_cons_zero, List.getElem_cons_succ, Act.put, List.setIfInBounds_toArray, List.set_cons_zero, List.set_cons_succ]
  refine wpAnyH_take (i := 17) (v := .pointer (some ⟨w.heap.size, 1, none⟩)) rfl (by kernel_rfl) (by kernel_rfl) (by kernel_rfl) (fun _ _ _ h => h) (.inl ⟨by kernel_rfl, fun w _ => by kernel_rfl⟩) hS ?_
  simp only [List.getElem_toArray, List.getElem_cons_zero, List.getElem_cons_succ, Act.put, List.setIfInBounds_toArray, List.set_cons_zero, List.set_cons_succ]
  refine wpAnyH_take (i := 18) (v := .agg (arr .u8 b)) rfl (by kernel_rfl) (by kernel_rfl) (by kernel_rfl) (fun _ _ _ h => h) (yields_arr (.tmp 35) rfl (w.heap.size) (by kernel_rfl) s b (fun w h => h.1.1.1.1.1) HL.out (by kernel_rfl)) hS ?_
  simp only [List.getElem_toArray, List.getElem_cons_zero, List.getElem_cons_succ, Act.put, List.setIfInBounds_toArray, List.set_cons_zero, List.set_cons_succ]
  refine wpAnyH_take (i := 20) (v := .pointer (some ⟨w.heap.size, 1, none⟩)) rfl (by kernel_rfl) (by kernel_rfl) (by kernel_rfl) (fun _ _ _ h => h) (.inl ⟨by kernel_rfl, fun w _ => by kernel_rfl⟩) hS ?_
  simp only [List.getElem_toArray, List.getElem_cons_zero, List.getElem_cons_succ, Act.put, List.setIfInBounds_toArray, List.set_cons_zero, List.set_cons_succ]
  refine wpAnyH_take (i := 21) (v := .agg (arr .u8 b)) rfl (by kernel_rfl) (by kernel_rfl) (by kernel_rfl) (fun _ _ _ h => h) (yields_arr (.tmp 38) rfl (w.heap.size) (by kernel_rfl) s b (fun w h => h.1.1.1.1.1) HL.out (by kernel_rfl)) hS ?_
  simp only [List.getElem_toArray, List.getElem_cons_zero, List.getElem_cons_succ, Act.put, List.setIfInBounds_toArray, List.set_cons_zero, List.set_cons_succ]
  refine wpAnyH_take (i := 22) (v := .agg (adr true b)) rfl (by kernel_rfl) (by kernel_rfl) (by kernel_rfl) (fun _ _ _ h => h) (.inl ⟨by kernel_rfl, fun w _ => exec_build_six (.const (.bool true)) (.tmp 39) rfl b HL.out (by kernel_rfl) (by kernel_rfl) w⟩) hS ?_
  simp only [List.getElem_toArray, List.getElem_cons_zero, List.getElem_cons_succ, Act.put, List.setIfInBounds_toArray, List.set_cons_zero, List.set_cons_succ]
  refine wpAnyH_ready (rs := [19]) (by kernel_rfl) (by simp) ?_
  refine AllReadyH.cons rfl (fun K' hK => ?_) AllReadyH.nil
  rw [if_pos (by kernel_rfl)]
  refine op_callV 13 #[.agg (arr .u8 b)] (by kernel_rfl) (.agg (adr true b)) (CS.out _) (fun u5 hR5 => hK.out _ _ (⟨⟨⟨⟨⟨hS.1.1.1.1.1.kept hR5, hS.1.1.1.1.2.1.kept hR5, bel2 hS.1.1.1.1.2.2 hR5⟩, hS.1.1.1.2.kept hR5⟩, hS.1.1.2.kept hR5⟩, hS.1.2.kept hR5⟩, hS.2.kept hR5⟩) (fun hS => ?_))
  simp only [List.getElem_toArray, List.getElem_cons_zero, List.getElem_cons_succ, Act.put, List.setIfInBounds_toArray, List.set_cons_zero, List.set_cons_succ]
  refine wpAnyH_take (i := 23) (v := .bool false) rfl (by kernel_rfl) (by kernel_rfl) (by kernel_rfl) (fun _ _ _ h => h) (.inl ⟨by kernel_rfl, fun w _ => exec_neq_adr (.tmp 37) (.tmp 40) rfl true b HL.out (by kernel_rfl) (by kernel_rfl) w⟩) hS ?_
  simp only [List.getElem_toArray, List.getElem_cons_zero, List.getElem_cons_succ, Act.put, List.setIfInBounds_toArray, List.set_cons_zero, List.set_cons_succ]
  refine wpAnyH_take (i := 24) (v := .bool false) rfl (by kernel_rfl) (by kernel_rfl) (by kernel_rfl) (fun _ _ _ h => h) (.inl ⟨by kernel_rfl, fun w _ => by kernel_rfl⟩) hS ?_
  simp only [List.getElem_toArray, List.getElem_cons_zero, List.getElem_cons_succ, Act.put, List.setIfInBounds_toArray, List.set_cons_zero, List.set_cons_succ]
  refine wpAnyH_done (by kernel_rfl) ?_ _
  have HS := Lib.hid hS.1.1.1.1
  clear hS hR1 hR2 hR3 hR4 hR5 hz1 hz2 hz3 hz4
  go_wp2_with fail
  refine (CF.out u5 HS.out.2.2).mono ?_
  rintro e w5 ⟨rfl, hb5⟩
  have HS5 : Hid (Blk w5 (w.heap.size + 1) 26 (arr .u8 [f0, f1, f2, f3]) ∧ Below w.heap.size w w5) := Lib.hid ⟨HS.out.2.1.kept hb5, bel2 HS.out.2.2 hb5⟩
  clear hb5
  obtain ⟨W6, hW6⟩ : ∃ W, W = w5.alloc (.cells (adr false z16) 24) := ⟨_, rfl⟩
  have hBW6 : Blk W6 w5.heap.size 24 (adr false z16) := hW6 ▸ Blk.new w5 _ _
  have hbW6 : Below w5.heap.size w5 W6 := hW6 ▸ (Below.refl _ _).alloc (Nat.le_refl _) _
  have HW6 : Hid (w5.alloc (.cells #[.bool false, .int .u8 0, .int .u8 0, .int .u8 0, .int .u8 0, .int .u8 0, .int .u8 0, .int .u8 0, .int .u8 0, .int .u8 0, .int .u8 0, .int .u8 0, .int .u8 0, .int .u8 0, .int .u8 0, .int .u8 0, .int .u8 0] 24) = W6) := Lib.hid hW6.symm
  have HBW6 := Lib.hid hBW6
  obtain ⟨V6, hV6⟩ : ∃ V, V = W6.setRow w5.heap.size (adr false z16) := ⟨_, rfl⟩
  have HV6 := Lib.hid hV6.symm
  have hblV6 : Below w5.heap.size w5 V6 := hV6 ▸ below_setRow hbW6 (Nat.le_refl _) _
  have HNV6 : Hid (Blk V6 w5.heap.size 24 (adr false z16)) := Lib.hid (hV6 ▸ hBW6.row _)
  clear hW6 hBW6 hbW6 hV6
  have HS6 : Hid (Blk V6 (w.heap.size + 1) 26 (arr .u8 [f0, f1, f2, f3]) ∧ Below w.heap.size w V6) := Lib.hid ⟨HS5.out.1.kept hblV6, bel2 HS5.out.2 hblV6⟩
  clear hblV6
  go_wp2_with (first | (refine wpl_load 24 _ rfl w5.heap.size rfl _ _ _ HNV6.out Tryz.underlying24 rfl 17 Tryz.infoAddr rfl rfl ?_) | ((try rw [HW6.out]); refine wpl_store 24 _ _ rfl w5.heap.size (adr false z16) rfl rfl _ _ HBW6.out 17 Tryz.infoAddr rfl rfl (adr_one _ _) rfl ?_; rw [HV6.out]))
  refine (CNE.out V6 HS6.out.2).mono ?_
  rintro e w7 ⟨rfl, hb7⟩
  have HS7 : Hid (Blk w7 (w.heap.size + 1) 26 (arr .u8 [f0, f1, f2, f3]) ∧ Below w.heap.size w w7) := Lib.hid ⟨HS6.out.1.kept hb7, bel2 HS6.out.2 hb7⟩
  clear hb7
  have g0 : w7.cell? ⟨w.heap.size + 1, 0, none⟩ = some (.int .u8 f0) := by rw [HS7.out.1.cell]; rfl
  have g1 : w7.cell? ⟨w.heap.size + 1, 1, none⟩ = some (.int .u8 f1) := by rw [HS7.out.1.cell]; rfl
  have g2 : w7.cell? ⟨w.heap.size + 1, 2, none⟩ = some (.int .u8 f2) := by rw [HS7.out.1.cell]; rfl
  have g3 : w7.cell? ⟨w.heap.size + 1, 3, none⟩ = some (.int .u8 f3) := by rw [HS7.out.1.cell]; rfl
  go_wp2_with fail
  refine (four_any f0 f1 f2 f3 w7).mono ?_
  rintro e w8 ⟨rfl, hb8⟩
  have HS8 : Hid (Blk w8 (w.heap.size + 1) 26 (arr .u8 [f0, f1, f2, f3]) ∧ Below w.heap.size w w8) := Lib.hid ⟨HS7.out.1.kept hb8, bel2 HS7.out.2 hb8⟩
  clear hb8 g0 g1 g2 g3
  obtain ⟨y, hy⟩ : ∃ y, y = w8.heap.size := ⟨_, rfl⟩
  obtain ⟨W9, hW9⟩ : ∃ W, W = w8.alloc (.cells (adr false z16) 24) := ⟨_, rfl⟩
  have hBW9 : Blk W9 w8.heap.size 24 (adr false z16) := hW9 ▸ Blk.new w8 _ _
  have hbW9 : Below w8.heap.size w8 W9 := hW9 ▸ (Below.refl _ _).alloc (Nat.le_refl _) _
  have HW9 : Hid (w8.alloc (.cells #[.bool false, .int .u8 0, .int .u8 0, .int .u8 0, .int .u8 0, .int .u8 0, .int .u8 0, .int .u8 0, .int .u8 0, .int .u8 0, .int .u8 0, .int .u8 0, .int .u8 0, .int .u8 0, .int .u8 0, .int .u8 0, .int .u8 0] 24) = W9) := Lib.hid hW9.symm
  have HBW9 := Lib.hid hBW9
  obtain ⟨V9, hV9⟩ : ∃ V, V = W9.setRow w8.heap.size (adr false [f0, f1, f2, f3, 0, 0, 0, 0, 0, 0, 0, 0, 0, 0, 0, 0]) := ⟨_, rfl⟩
  have HV9 := Lib.hid hV9.symm
  have hblV9 : Below w8.heap.size w8 V9 := hV9 ▸ below_setRow hbW9 (Nat.le_refl _) _
  have HNV9 : Hid (Blk V9 w8.heap.size 24 (adr false [f0, f1, f2, f3, 0, 0, 0, 0, 0, 0, 0, 0, 0, 0, 0, 0])) := Lib.hid (hV9 ▸ hBW9.row _)
  clear hW9 hBW9 hbW9 hV9
  rw [← hy] at HNV9
  have hbV9 := bel2 HS8.out.2 hblV9
  have HS9 : Hid (Blk V9 (w.heap.size + 1) 26 (arr .u8 [f0, f1, f2, f3]) ∧ Below w.heap.size w V9) := Lib.hid ⟨HS8.out.1.kept hblV9, hbV9⟩
  have HyL : Hid (y < V9.heap.size) := Lib.hid HNV9.out.lt
  clear hblV9
  have hgl : ∀ j, j < bs.length → ∃ g o, ad = some ⟨g, o, none⟩ ∧ g < w.heap.size ∧ V9.cell? ⟨g, o + j, none⟩ = some (.int .u8 (bs.getD j 0)) := fun j hj => by
    obtain ⟨g, o, e, hx⟩ := HRow.out j hj
    exact ⟨g, o, e, World.block_lt_of_cell? w _ hx, cell_kept hx HS9.out.2⟩
  have hszV := HS9.out.2.size
  have CAt := Lib.hid (at_any V9 V9.heap.size ad cap bs (fun j hj => by
    obtain ⟨g, o, e, hg, hx⟩ := hgl j hj
    exact ⟨g, o, e, by omega, hx⟩) hn0 (by omega) HBy.out)
  have HGl := Lib.hid hgl
  have HY := Lib.hid hy
  clear hgl hbV9 hy
  go_wp2_with ((try rw [HW9.out]); refine wpl_store 24 _ _ rfl w8.heap.size (adr false [f0, f1, f2, f3, 0, 0, 0, 0, 0, 0, 0, 0, 0, 0, 0, 0]) rfl rfl _ _ HBW9.out 17 Tryz.infoAddr rfl rfl (adr_one _ _) rfl ?_; rw [HV9.out])
  refine CAt.out.mono ?_
  rintro e w10 ⟨c1, ad1, cap1, rfl, hC1, hc1, hg1, hb10⟩
  have hsz10 := hb10.size
  obtain ⟨c2, hc2⟩ : ∃ c2, c2 = w10.heap.size := ⟨_, rfl⟩
  obtain ⟨W11, hW11⟩ : ∃ W, W = w10.alloc (.cells #[.slice ad bs.length cap, .int .i64 0, .int .i64 0] 41) := ⟨_, rfl⟩
  have hB11 : Blk W11 c2 41 #[.slice ad bs.length cap, .int .i64 0, .int .i64 0] := hc2 ▸ hW11 ▸ Blk.new w10 _ _
  have hb11 : Below w10.heap.size w10 W11 := hW11 ▸ (Below.refl _ _).alloc (Nat.le_refl _) _
  have hbu : Below V9.heap.size V9 W11 := bel2 hb10 hb11
  have hlt1 := hC1.obj.lt
  have hltG := HS9.out.1.lt
  have hyl := HyL.out
  have HC11 : Hid (Cur W11 79 c1 ad1 cap1 bs 0 .nilIface) := Lib.hid (hC1.kept hb11)
  have HC12 : Hid (Cur W11 41 c2 ad cap bs 0 (.int .i64 0)) := Lib.hid ⟨hB11, fun j hj => by
    obtain ⟨g, o, e, hg, hx⟩ := HGl.out j hj
    exact ⟨g, o, e, by omega, cell_kept (cell_kept hx hb10) hb11⟩, Nat.zero_le _, hcap, by omega, HBy.out⟩
  have HS11 : Hid (Blk W11 y 24 (adr false [f0, f1, f2, f3, 0, 0, 0, 0, 0, 0, 0, 0, 0, 0, 0, 0]) ∧ Blk W11 (w.heap.size + 1) 26 (arr .u8 [f0, f1, f2, f3]) ∧ Below w.heap.size w W11) := Lib.hid ⟨HNV9.out.kept hbu, HS9.out.1.kept hbu, bel2 HS9.out.2 hbu⟩
  have Hy1 : Hid (y ≠ c1) := Lib.hid (by omega)
  have Hy2 : Hid (y ≠ c2) := Lib.hid (by omega)
  have HF1 : Hid (w.heap.size + 1 ≠ c1) := Lib.hid (by omega)
  have HF2 : Hid (w.heap.size + 1 ≠ c2) := Lib.hid (by omega)
  have HGc1 : Hid (w.heap.size ≤ c1) := Lib.hid (by omega)
  have HGc2 : Hid (w.heap.size ≤ c2) := Lib.hid (by omega)
  have Hcc : Hid (c2 ≠ c1) := Lib.hid (by omega)
  have Hcc' : Hid (c1 ≠ c2) := Lib.hid (by omega)
  have Hc2l : Hid (c2 < W11.heap.size) := Lib.hid hB11.lt
  have Hgc1 : Hid (∀ g o, ad = some ⟨g, o, none⟩ → 0 < bs.length → g ≠ c1) := Lib.hid fun g o e h0 => by
    obtain ⟨g', o', e', hg, _⟩ := HGl.out 0 h0
    rw [e] at e'
    cases e'
    omega
  have Hgc2 : Hid (∀ g o, ad1 = some ⟨g, o, none⟩ → 0 < bs.length → g ≠ c2) := Lib.hid fun g o e h0 => by
    obtain ⟨g', o', e', _, hx⟩ := hC1.row 0 h0
    rw [e] at e'
    cases e'
    have := World.block_lt_of_cell? w10 _ hx
    rw [hc2]
    exact Nat.ne_of_lt this
  have CR1 : Hid (Calls Tryz.prog 19 #[.pointer (some ⟨c1, 0, none⟩)] W11 fun e w' => e = .returned (.agg (adr rs rb)) ∧ (Cur w' 79 c1 ad1 cap1 bs q (errV a k) ∧ Keep c1 W11 w')) := Lib.hid (by
    have := aread_any a HC11.out ((HEr.out.below HS11.out.2.2).c)
    rw [HRd.out] at this
    exact this)
  have CR2 : Hid (∀ w', Cur w' 41 c2 ad cap bs 0 (.int .i64 0) → Calls Tryz.prog 20 #[.pointer (some ⟨c2, 0, none⟩)] w' fun e w2 => e = .returned (.agg (adr rs rb)) ∧ (Cur w2 41 c2 ad cap bs q (.int .i64 (k : Int)) ∧ Keep c2 w' w2)) := Lib.hid fun w' hC => by
    have := rread_any hC
    rw [HRd.out] at this
    exact this
  have HW11 : Hid (w10.alloc (.cells #[.slice ad bs.length cap, .int .i64 0, .int .i64 0] 41) = W11) := Lib.hid hW11.symm
  have HC22 := Lib.hid hc2
  clear hC1 hb10 hW11 hB11 hb11 hbu hc1 hg1
  go_upto_region 15 with fail
  rw [HW11.out]
  rw [← HC22.out]
  clear hsz10 hlt1 hszV hltG hc2 hyl
  go_wp2_with fail
  refine CR1.out.mono ?_
  rintro e w12 ⟨rfl, hC1, hK1⟩
  have hC2 := HC12.out.otherA hK1 Hcc.out Hgc1.out
  have hsz12 := hK1.low.size
  obtain ⟨z, hz⟩ : ∃ z, z = w12.heap.size := ⟨_, rfl⟩
  obtain ⟨W13, hW13⟩ : ∃ W, W = w12.alloc (.cells (adr false z16) 24) := ⟨_, rfl⟩
  have hBW13 : Blk W13 w12.heap.size 24 (adr false z16) := hW13 ▸ Blk.new w12 _ _
  have hbW13 : Below w12.heap.size w12 W13 := hW13 ▸ (Below.refl _ _).alloc (Nat.le_refl _) _
  have HW13 : Hid (w12.alloc (.cells #[.bool false, .int .u8 0, .int .u8 0, .int .u8 0, .int .u8 0, .int .u8 0, .int .u8 0, .int .u8 0, .int .u8 0, .int .u8 0, .int .u8 0, .int .u8 0, .int .u8 0, .int .u8 0, .int .u8 0, .int .u8 0, .int .u8 0] 24) = W13) := Lib.hid hW13.symm
  have HBW13 := Lib.hid hBW13
  obtain ⟨V13, hV13⟩ : ∃ V, V = W13.setRow w12.heap.size (adr rs rb) := ⟨_, rfl⟩
  have HV13 := Lib.hid hV13.symm
  have hblV13 : Below w12.heap.size w12 V13 := hV13 ▸ below_setRow hbW13 (Nat.le_refl _) _
  have HNV13 : Hid (Blk V13 w12.heap.size 24 (adr rs rb)) := Lib.hid (hV13 ▸ hBW13.row _)
  clear hW13 hBW13 hbW13 hV13
  rw [← hz] at HNV13
  have hbd : Below w12.heap.size w12 V13.drew := bel2 hblV13 (below_drewN V13 1)
  have HC1 : Hid (Cur V13.drew 79 c1 ad1 cap1 bs q (errV a k)) := Lib.hid (hC1.kept hbd)
  have HC2 : Hid (Cur V13.drew 41 c2 ad cap bs 0 (.int .i64 0)) := Lib.hid (hC2.kept hbd)
  have hS0 : Blk V13.drew y 24 (adr false [f0, f1, f2, f3, 0, 0, 0, 0, 0, 0, 0, 0, 0, 0, 0, 0]) ∧ Blk V13.drew (w.heap.size + 1) 26 (arr .u8 [f0, f1, f2, f3]) ∧ Blk V13.drew z 24 (adr rs rb) ∧ Below w.heap.size w V13.drew := ⟨(hK1.blk HS11.out.1 Hy1.out).kept hbd, (hK1.blk HS11.out.2.1 HF1.out).kept hbd, HNV13.out.kept (below_drewN V13 1), (HS11.out.2.2.trans (hK1.low.mono HGc1.out)).trans (hbd.mono (by have := HS11.out.2.2.size; omega))⟩
  have Hz2 : Hid (z ≠ c2) := Lib.hid (by have := Hc2l.out; omega)
  obtain ⟨B16, hB16⟩ : ∃ B, B = V13.drew.heap.size := ⟨_, rfl⟩
  have HB16 : Hid (c2 < B16) := Lib.hid (by have := Hc2l.out; have := hbd.size; omega)
  have HZ := Lib.hid hz
  clear hC1 hK1 hC2 hbd hblV13 hsz12 hz
  go_wp2_with ((try rw [HW13.out]); refine wpl_store 24 _ _ rfl w12.heap.size (adr rs rb) rfl rfl _ _ HBW13.out 17 Tryz.infoAddr L17z.out rfl (adr_one _ _) rfl ?_; rw [HV13.out])
  rw [← HZ.out, ← HY.out]
  refine wp_region_held_drew (S := fun w' => Blk w' y 24 (adr false [f0, f1, f2, f3, 0, 0, 0, 0, 0, 0, 0, 0, 0, 0, 0, 0]) ∧ Blk w' (w.heap.size + 1) 26 (arr .u8 [f0, f1, f2, f3]) ∧ Blk w' z 24 (adr rs rb) ∧ Below w.heap.size w w') (by kernel_rfl) hS0 (fun hS => ?_)
  change wpAnyH _ _ _ _ _ 41 #[false, false, false, false, false, false, false, false, false, false, false, false, false, false, false, false, false, false, false, false, false, false, false, false, false, false, false, false, false, false, false, false, false, false, false, false, false, false, false, false, false] _ _
  refine wpAnyH_take (i := 0) (v := .pointer (some ⟨y, 0, none⟩)) rfl (by kernel_rfl) (by kernel_rfl) (by kernel_rfl) (fun _ _ _ h => h) (.inl ⟨by kernel_rfl, fun w _ => by kernel_rfl⟩) hS ?_
  simp only [List.getElem_toArray, List.getElem_cons_zero, List.getElem_cons_succ, Act.put, List.setIfInBounds_toArray, List.set_cons_zero, List.set_cons_succ]
  refine wpAnyH_take (i := 1) (v := .bool false) rfl (by kernel_rfl) (by kernel_rfl) (by kernel_rfl) (fun _ _ _ h => h) (yields_bool (.tmp 103) rfl y (by kernel_rfl) false (fun w h => by rw [h.1.cell]; rfl) (by kernel_rfl)) hS ?_
  simp only [List.getElem_toArray, List.getElem_cons_zero, List.getElem_cons_succ, Act.put, List.setIfInBounds_toArray, List.set_cons_zero, List.set_cons_succ]
  refine wpAnyH_take (i := 2) (v := .bool true) rfl (by kernel_rfl) (by kernel_rfl) (by kernel_rfl) (fun _ _ _ h => h) (.inl ⟨by kernel_rfl, fun w _ => by kernel_rfl⟩) hS ?_
  simp only [List.getElem_toArray, List.getElem_cons_zero, List.getElem_cons_succ, Act.put, List.setIfInBounds_toArray, List.set_cons_zero, List.set_cons_succ]
  refine wpAnyH_take (i := 3) (v := .bool true) rfl (by kernel_rfl) (by kernel_rfl) (by kernel_rfl) (fun _ _ _ h => h) (.inl ⟨by kernel_rfl, fun w _ => by kernel_rfl⟩) hS ?_
  simp only [List.getElem_toArray, List.getElem_cons_zero, List.getElem_cons_succ, Act.put, List.setIfInBounds_toArray, List.set_cons_zero, List.set_cons_succ]
  refine wpAnyH_take (i := 4) (v := .agg (adr false [f0, f1, f2, f3, 0, 0, 0, 0, 0, 0, 0, 0, 0, 0, 0, 0])) rfl (by kernel_rfl) (by kernel_rfl) (by kernel_rfl) (fun _ _ _ h => h) (yields_load 24 (.tmp 9) rfl (y) (by kernel_rfl) _ _ _ (fun w h => h.1) Tryz.underlying24 rfl 17 Tryz.infoAddr L17y.out (by kernel_rfl)) hS ?_
  simp only [List.getElem_toArray, List.getElem_cons_zero, List.getElem_cons_succ, Act.put, List.setIfInBounds_toArray, List.set_cons_zero, List.set_cons_succ]
  refine wpAnyH_take (i := 7) (v := .slice (some ⟨w.heap.size + 1, 0, none⟩) 4 4) rfl (by kernel_rfl) (by kernel_rfl) (by kernel_rfl) (fun _ _ _ h => h) (.inl ⟨by kernel_rfl, fun w _ => by kernel_rfl⟩) hS ?_
  simp only [List.getElem_toArray, List.getElem_cons_zero, List.getElem_cons_succ, Act.put, List.setIfInBounds_toArray, List.set_cons_zero, List.set_cons_succ]
  refine wpAnyH_take (i := 8) (v := .string (strOfNums [f0, f1, f2, f3])) rfl (by kernel_rfl) (by kernel_rfl) (by kernel_rfl) (fun _ _ _ h => h) (.inl ⟨by kernel_rfl, fun w' h => exec_conv2 (.tmp 110) rfl _ (by kernel_rfl) [f0, f1, f2, f3] (four_in h.2.1)⟩) hS ?_
  simp only [List.getElem_toArray, List.getElem_cons_zero, List.getElem_cons_succ, Act.put, List.setIfInBounds_toArray, List.set_cons_zero, List.set_cons_succ]
  refine wpAnyH_ready (rs := [5]) (by kernel_rfl) (by simp) ?_
  refine AllReadyH.cons rfl (fun K' hK => ?_) AllReadyH.nil
  rw [if_pos (by kernel_rfl)]
  refine op_callE 10 #[.agg (adr false [f0, f1, f2, f3, 0, 0, 0, 0, 0, 0, 0, 0, 0, 0, 0, 0])] (by kernel_rfl) (CRY.out _) (fun v5 t1 hR5 => hK.out _ _ (⟨hS.1.kept hR5.2, hS.2.1.kept hR5.2, hS.2.2.1.kept hR5.2, bel2 hS.2.2.2 hR5.2⟩) (fun hS => ?_))
  simp only [List.getElem_toArray, List.getElem_cons_zero, List.getElem_cons_succ, Act.put, List.setIfInBounds_toArray, List.set_cons_zero, List.set_cons_succ]
  have hSn : (fun w' => (Blk w' y 24 (adr false [f0, f1, f2, f3, 0, 0, 0, 0, 0, 0, 0, 0, 0, 0, 0, 0]) ∧ Blk w' (w.heap.size + 1) 26 (arr .u8 [f0, f1, f2, f3]) ∧ Blk w' z 24 (adr rs rb) ∧ Below w.heap.size w w') ∧ BytesIn w' B16 v5 [f0, f1, f2, f3]) t1 := ⟨hS, hB16 ▸ hR5.1⟩
  refine wpAnyH_mono (S' := fun w' => (Blk w' y 24 (adr false [f0, f1, f2, f3, 0, 0, 0, 0, 0, 0, 0, 0, 0, 0, 0, 0]) ∧ Blk w' (w.heap.size + 1) 26 (arr .u8 [f0, f1, f2, f3]) ∧ Blk w' z 24 (adr rs rb) ∧ Below w.heap.size w w') ∧ BytesIn w' B16 v5 [f0, f1, f2, f3]) (fun _ h => h.1) _ _ _ _ ?_
  clear hS
  have hS := hSn
  clear hSn
  refine wpAnyH_take (i := 6) (v := .string (strOfNums [f0, f1, f2, f3])) rfl (by kernel_rfl) (by kernel_rfl) (by kernel_rfl) (fun _ _ _ h => h) (.inl ⟨by kernel_rfl, fun w h => exec_conv2 (.tmp 108) rfl v5 (by kernel_rfl) [f0, f1, f2, f3] h.2⟩) hS ?_
  simp only [List.getElem_toArray, List.getElem_cons_zero, List.getElem_cons_succ, Act.put, List.setIfInBounds_toArray, List.set_cons_zero, List.set_cons_succ]
  refine wpAnyH_take (i := 9) (v := .bool true) rfl (by kernel_rfl) (by kernel_rfl) (by kernel_rfl) (fun _ _ _ h => h) (.inl ⟨by kernel_rfl, fun w _ => exec_seql4 9 9 (.tmp 109) (.tmp 111) rfl (strOfNums [f0, f1, f2, f3]) (by kernel_rfl) (by kernel_rfl)⟩) hS ?_
  simp only [List.getElem_toArray, List.getElem_cons_zero, List.getElem_cons_succ, Act.put, List.setIfInBounds_toArray, List.set_cons_zero, List.set_cons_succ]
  refine wpAnyH_take (i := 10) (v := .bool true) rfl (by kernel_rfl) (by kernel_rfl) (by kernel_rfl) (fun _ _ _ h => h) (.inl ⟨by kernel_rfl, fun w _ => by kernel_rfl⟩) hS ?_
  simp only [List.getElem_toArray, List.getElem_cons_zero, List.getElem_cons_succ, Act.put, List.setIfInBounds_toArray, List.set_cons_zero, List.set_cons_succ]
  refine wpAnyH_take (i := 11) (v := .bool true) rfl (by kernel_rfl) (by kernel_rfl) (by kernel_rfl) (fun _ _ _ h => h) (.inl ⟨by kernel_rfl, fun w _ => by kernel_rfl⟩) hS ?_
  simp only [List.getElem_toArray, List.getElem_cons_zero, List.getElem_cons_succ, Act.put, List.setIfInBounds_toArray, List.set_cons_zero, List.set_cons_succ]
  refine wpAnyH_take (i := 12) (v := .agg (adr false [f0, f1, f2, f3, 0, 0, 0, 0, 0, 0, 0, 0, 0, 0, 0, 0])) rfl (by kernel_rfl) (by kernel_rfl) (by kernel_rfl) (fun _ _ _ h => h) (yields_load 24 (.tmp 9) rfl (y) (by kernel_rfl) _ _ _ (fun w h => h.1.1) Tryz.underlying24 rfl 17 Tryz.infoAddr L17y.out (by kernel_rfl)) hS ?_
  simp only [List.getElem_toArray, List.getElem_cons_zero, List.getElem_cons_succ, Act.put, List.setIfInBounds_toArray, List.set_cons_zero, List.set_cons_succ]
  refine wpAnyH_ready (rs := [13]) (by kernel_rfl) (by simp) ?_
  refine AllReadyH.cons rfl (fun K' hK => ?_) AllReadyH.nil
  rw [if_pos (by kernel_rfl)]
  refine op_callV 16 #[.agg (adr false [f0, f1, f2, f3, 0, 0, 0, 0, 0, 0, 0, 0, 0, 0, 0, 0])] (by kernel_rfl) (.bool true) (CRt.out _) (fun t2 hR13 => hK.out _ _ (⟨⟨hS.1.1.kept hR13, hS.1.2.1.kept hR13, hS.1.2.2.1.kept hR13, bel2 hS.1.2.2.2 hR13⟩, hS.2.kept hR13⟩) (fun hS => ?_))
  simp only [List.getElem_toArray, List.getElem_cons_zero, List.getElem_cons_succ, Act.put, List.setIfInBounds_toArray, List.set_cons_zero, List.set_cons_succ]
  refine wpAnyH_take (i := 14) (v := .bool true) rfl (by kernel_rfl) (by kernel_rfl) (by kernel_rfl) (fun _ _ _ h => h) (.inl ⟨by kernel_rfl, fun w _ => by kernel_rfl⟩) hS ?_
  simp only [List.getElem_toArray, List.getElem_cons_zero, List.getElem_cons_succ, Act.put, List.setIfInBounds_toArray, List.set_cons_zero, List.set_cons_succ]
  refine wpAnyH_take (i := 15) (v := .bool true) rfl (by kernel_rfl) (by kernel_rfl) (by kernel_rfl) (fun _ _ _ h => h) (.inl ⟨by kernel_rfl, fun w _ => by kernel_rfl⟩) hS ?_
  simp only [List.getElem_toArray, List.getElem_cons_zero, List.getElem_cons_succ, Act.put, List.setIfInBounds_toArray, List.set_cons_zero, List.set_cons_succ]
  refine wpAnyH_take (i := 16) (v := .agg (adr rs rb)) rfl (by kernel_rfl) (by kernel_rfl) (by kernel_rfl) (fun _ _ _ h => h) (yields_load 24 (.tmp 12) rfl (z) (by kernel_rfl) _ _ _ (fun w h => h.1.2.2.1) Tryz.underlying24 rfl 17 Tryz.infoAddr L17z.out (by kernel_rfl)) hS ?_
  simp only [List.getElem_toArray, List.getElem_cons_zero, List.getElem_cons_succ, Act.put, List.setIfInBounds_toArray, List.set_cons_zero, List.set_cons_succ]
  refine wpAnyH_take (i := 17) (v := .pointer (some ⟨c2, 0, none⟩)) rfl (by kernel_rfl) (by kernel_rfl) (by kernel_rfl) (fun _ _ _ h => h) (.inl ⟨by kernel_rfl, fun w _ => by kernel_rfl⟩) hS ?_
  simp only [List.getElem_toArray, List.getElem_cons_zero, List.getElem_cons_succ, Act.put, List.setIfInBounds_toArray, List.set_cons_zero, List.set_cons_succ]
  have hC2t := (HC2.out.kept hR5.2).kept hR13
  have hC1t := (HC1.out.kept hR5.2).kept hR13
  refine wpAnyH_ready (rs := [18]) (by kernel_rfl) (by simp) ?_
  refine AllReadyH.cons rfl (fun K' hK => ?_) AllReadyH.nil
  rw [if_pos (by kernel_rfl)]
  refine op_callV 20 #[.pointer (some ⟨c2, 0, none⟩)] (by kernel_rfl) (.agg (adr rs rb)) (CR2.out _ hC2t) (fun t3 hR18 => hK.out _ _ (⟨⟨hR18.2.blk hS.1.1 Hy2.out, hR18.2.blk hS.1.2.1 HF2.out, hR18.2.blk hS.1.2.2.1 Hz2.out, hS.1.2.2.2.trans (hR18.2.low.mono HGc2.out)⟩, hS.2.keep hR18.2 HB16.out⟩) (fun hS => ?_))
  simp only [List.getElem_toArray, List.getElem_cons_zero, List.getElem_cons_succ, Act.put, List.setIfInBounds_toArray, List.set_cons_zero, List.set_cons_succ]
  have hSn : (fun w' => ((Blk w' y 24 (adr false [f0, f1, f2, f3, 0, 0, 0, 0, 0, 0, 0, 0, 0, 0, 0, 0]) ∧ Blk w' (w.heap.size + 1) 26 (arr .u8 [f0, f1, f2, f3]) ∧ Blk w' z 24 (adr rs rb) ∧ Below w.heap.size w w') ∧ BytesIn w' B16 v5 [f0, f1, f2, f3]) ∧ Cur w' 79 c1 ad1 cap1 bs q (errV a k) ∧ Cur w' 41 c2 ad cap bs q (.int .i64 (k : Int))) t3 := ⟨hS, hC1t.otherA hR18.2 Hcc'.out Hgc2.out, hR18.1⟩
  refine wpAnyH_mono (S' := fun w' => ((Blk w' y 24 (adr false [f0, f1, f2, f3, 0, 0, 0, 0, 0, 0, 0, 0, 0, 0, 0, 0]) ∧ Blk w' (w.heap.size + 1) 26 (arr .u8 [f0, f1, f2, f3]) ∧ Blk w' z 24 (adr rs rb) ∧ Below w.heap.size w w') ∧ BytesIn w' B16 v5 [f0, f1, f2, f3]) ∧ Cur w' 79 c1 ad1 cap1 bs q (errV a k) ∧ Cur w' 41 c2 ad cap bs q (.int .i64 (k : Int))) (fun _ h => h.1) _ _ _ _ ?_
  clear hS
  have hS := hSn
  clear hSn
  refine wpAnyH_take (i := 19) (v := .bool true) rfl (by kernel_rfl) (by kernel_rfl) (by kernel_rfl) (fun _ _ _ h => h) (.inl ⟨by kernel_rfl, fun w _ => exec_eql_adr (.tmp 119) (.tmp 121) rfl rs rb HLr.out (by kernel_rfl) (by kernel_rfl) w⟩) hS ?_
  simp only [List.getElem_toArray, List.getElem_cons_zero, List.getElem_cons_succ, Act.put, List.setIfInBounds_toArray, List.set_cons_zero, List.set_cons_succ]
  refine wpAnyH_take (i := 20) (v := .bool true) rfl (by kernel_rfl) (by kernel_rfl) (by kernel_rfl) (fun _ _ _ h => h) (.inl ⟨by kernel_rfl, fun w _ => by kernel_rfl⟩) hS ?_
  simp only [List.getElem_toArray, List.getElem_cons_zero, List.getElem_cons_succ, Act.put, List.setIfInBounds_toArray, List.set_cons_zero, List.set_cons_succ]
  refine wpAnyH_take (i := 21) (v := .bool true) rfl (by kernel_rfl) (by kernel_rfl) (by kernel_rfl) (fun _ _ _ h => h) (.inl ⟨by kernel_rfl, fun w _ => by kernel_rfl⟩) hS ?_
  simp only [List.getElem_toArray, List.getElem_cons_zero, List.getElem_cons_succ, Act.put, List.setIfInBounds_toArray, List.set_cons_zero, List.set_cons_succ]
  refine wpAnyH_take (i := 22) (v := .pointer (some ⟨c1, 0, none⟩)) rfl (by kernel_rfl) (by kernel_rfl) (by kernel_rfl) (fun _ _ _ h => h) (.inl ⟨by kernel_rfl, fun w _ => by kernel_rfl⟩) hS ?_
  simp only [List.getElem_toArray, List.getElem_cons_zero, List.getElem_cons_succ, Act.put, List.setIfInBounds_toArray, List.set_cons_zero, List.set_cons_succ]
  refine wpAnyH_take (i := 24) (v := .pointer (some ⟨c2, 0, none⟩)) rfl (by kernel_rfl) (by kernel_rfl) (by kernel_rfl) (fun _ _ _ h => h) (.inl ⟨by kernel_rfl, fun w _ => by kernel_rfl⟩) hS ?_
  simp only [List.getElem_toArray, List.getElem_cons_zero, List.getElem_cons_succ, Act.put, List.setIfInBounds_toArray, List.set_cons_zero, List.set_cons_succ]
  refine wpAnyH_take (i := 25) (v := .pointer (some ⟨c2, 0, none⟩)) rfl (by kernel_rfl) (by kernel_rfl) (by kernel_rfl) (fun _ _ _ h => h) (.inl ⟨by kernel_rfl, fun w _ => by kernel_rfl⟩) hS ?_
  simp only [List.getElem_toArray, List.getElem_cons_zero, List.getElem_cons_succ, Act.put, List.setIfInBounds_toArray, List.set_cons_zero, List.set_cons_succ]
  refine wpAnyH_take (i := 26) (v := .pointer (some ⟨c2, 1, none⟩)) rfl (by kernel_rfl) (by kernel_rfl) (by kernel_rfl) (fun _ _ _ h => h) (.inl ⟨by kernel_rfl, fun w _ => by kernel_rfl⟩) hS ?_
  simp only [List.getElem_toArray, List.getElem_cons_zero, List.getElem_cons_succ, Act.put, List.setIfInBounds_toArray, List.set_cons_zero, List.set_cons_succ]
  refine wpAnyH_take (i := 27) (v := .int .i64 (q : Int)) rfl (by kernel_rfl) (by kernel_rfl) (by kernel_rfl) (fun _ _ _ h => h) (yields_num (.tmp 129) rfl c2 1 (by kernel_rfl) (q : Int) (fun w h => h.2.2.cell1) (by kernel_rfl)) hS ?_
  simp only [List.getElem_toArray, List.getElem_cons_zero, List.getElem_cons_succ, Act.put, List.setIfInBounds_toArray, List.set_cons_zero, List.set_cons_succ]
  refine wpAnyH_ready (rs := [23]) (by kernel_rfl) (by simp) ?_
  refine AllReadyH.cons rfl (fun K' hK => ?_) AllReadyH.nil
  rw [if_pos (by kernel_rfl)]
  refine op_callV 21 #[.pointer (some ⟨c1, 0, none⟩)] (by kernel_rfl) (.int .i64 (q : Int)) (place_any hS.2.1) (fun t4 hR23 => hK.out _ _ (hR23 ▸ hS) (fun hS => ?_))
  simp only [List.getElem_toArray, List.getElem_cons_zero, List.getElem_cons_succ, Act.put, List.setIfInBounds_toArray, List.set_cons_zero, List.set_cons_succ]
  refine wpAnyH_take (i := 28) (v := .bool true) rfl (by kernel_rfl) (by kernel_rfl) (by kernel_rfl) (fun _ _ _ h => h) (.inl ⟨by kernel_rfl, fun w _ => exec_neql4 3 3 (.tmp 126) (.tmp 130) rfl (q : Int) (by kernel_rfl) (by kernel_rfl)⟩) hS ?_
  simp only [List.getElem_toArray, List.getElem_cons_zero, List.getElem_cons_succ, Act.put, List.setIfInBounds_toArray, List.set_cons_zero, List.set_cons_succ]
  refine wpAnyH_take (i := 29) (v := .bool true) rfl (by kernel_rfl) (by kernel_rfl) (by kernel_rfl) (fun _ _ _ h => h) (.inl ⟨by kernel_rfl, fun w _ => by kernel_rfl⟩) hS ?_
  simp only [List.getElem_toArray, List.getElem_cons_zero, List.getElem_cons_succ, Act.put, List.setIfInBounds_toArray, List.set_cons_zero, List.set_cons_succ]
  refine wpAnyH_take (i := 30) (v := .bool true) rfl (by kernel_rfl) (by kernel_rfl) (by kernel_rfl) (fun _ _ _ h => h) (.inl ⟨by kernel_rfl, fun w _ => by kernel_rfl⟩) hS ?_
  simp only [List.getElem_toArray, List.getElem_cons_zero, List.getElem_cons_succ, Act.put, List.setIfInBounds_toArray, List.set_cons_zero, List.set_cons_succ]
  refine wpAnyH_take (i := 31) (v := .pointer (some ⟨c1, 0, none⟩)) rfl (by kernel_rfl) (by kernel_rfl) (by kernel_rfl) (fun _ _ _ h => h) (.inl ⟨by kernel_rfl, fun w _ => by kernel_rfl⟩) hS ?_
  simp only [List.getElem_toArray, List.getElem_cons_zero, List.getElem_cons_succ, Act.put, List.setIfInBounds_toArray, List.set_cons_zero, List.set_cons_succ]
  refine wpAnyH_take (i := 34) (v := .pointer (some ⟨c2, 0, none⟩)) rfl (by kernel_rfl) (by kernel_rfl) (by kernel_rfl) (fun _ _ _ h => h) (.inl ⟨by kernel_rfl, fun w _ => by kernel_rfl⟩) hS ?_
  simp only [List.getElem_toArray, List.getElem_cons_zero, List.getElem_cons_succ, Act.put, List.setIfInBounds_toArray, List.set_cons_zero, List.set_cons_succ]
  refine wpAnyH_take (i := 35) (v := .pointer (some ⟨c2, 0, none⟩)) rfl (by kernel_rfl) (by kernel_rfl) (by kernel_rfl) (fun _ _ _ h => h) (.inl ⟨by kernel_rfl, fun w _ => by kernel_rfl⟩) hS ?_
  simp only [List.getElem_toArray, List.getElem_cons_zero, List.getElem_cons_succ, Act.put, List.setIfInBounds_toArray, List.set_cons_zero, List.set_cons_succ]
  refine wpAnyH_take (i := 36) (v := .pointer (some ⟨c2, 2, none⟩)) rfl (by kernel_rfl) (by kernel_rfl) (by kernel_rfl) (fun _ _ _ h => h) (.inl ⟨by kernel_rfl, fun w _ => by kernel_rfl⟩) hS ?_
  simp only [List.getElem_toArray, List.getElem_cons_zero, List.getElem_cons_succ, Act.put, List.setIfInBounds_toArray, List.set_cons_zero, List.set_cons_succ]
  refine wpAnyH_take (i := 37) (v := .int .i64 (k : Int)) rfl (by kernel_rfl) (by kernel_rfl) (by kernel_rfl) (fun _ _ _ h => h) (yields_num (.tmp 139) rfl c2 2 (by kernel_rfl) (k : Int) (fun w h => h.2.2.cell2) (by kernel_rfl)) hS ?_
  simp only [List.getElem_toArray, List.getElem_cons_zero, List.getElem_cons_succ, Act.put, List.setIfInBounds_toArray, List.set_cons_zero, List.set_cons_succ]
  refine wpAnyH_ready (rs := [32]) (by kernel_rfl) (by simp) ?_
  refine AllReadyH.cons rfl (fun K' hK => ?_) AllReadyH.nil
  rw [if_pos (by kernel_rfl)]
  refine op_callV 22 #[.pointer (some ⟨c1, 0, none⟩)] (by kernel_rfl) (errV a k) (err_any hS.2.1) (fun t5 hR32 => hK.out _ _ (hR32 ▸ hS) (fun hS => ?_))
  simp only [List.getElem_toArray, List.getElem_cons_zero, List.getElem_cons_succ, Act.put, List.setIfInBounds_toArray, List.set_cons_zero, List.set_cons_succ]
  refine wpAnyH_ready (rs := [33]) (by kernel_rfl) (by simp) ?_
  refine AllReadyH.cons rfl (fun K' hK => ?_) AllReadyH.nil
  rw [if_pos (by kernel_rfl)]
  refine op_callV 15 #[errV a k] (by kernel_rfl) (.int .i64 (k : Int)) (CN.out _ hS.1.1.2.2.2) (fun t6 hR33 => hK.out _ _ (⟨⟨⟨hS.1.1.1.kept hR33, hS.1.1.2.1.kept hR33, hS.1.1.2.2.1.kept hR33, bel2 hS.1.1.2.2.2 hR33⟩, hS.1.2.kept hR33⟩, hS.2.1.kept hR33, hS.2.2.kept hR33⟩) (fun hS => ?_))
  simp only [List.getElem_toArray, List.getElem_cons_zero, List.getElem_cons_succ, Act.put, List.setIfInBounds_toArray, List.set_cons_zero, List.set_cons_succ]
  refine wpAnyH_take (i := 38) (v := .bool true) rfl (by kernel_rfl) (by kernel_rfl) (by kernel_rfl) (fun _ _ _ h => h) (.inl ⟨by kernel_rfl, fun w _ => exec_neql4 3 3 (.tmp 136) (.tmp 140) rfl (k : Int) (by kernel_rfl) (by kernel_rfl)⟩) hS ?_
  simp only [List.getElem_toArray, List.getElem_cons_zero, List.getElem_cons_succ, Act.put, List.setIfInBounds_toArray, List.set_cons_zero, List.set_cons_succ]
  refine wpAnyH_take (i := 39) (v := .bool true) rfl (by kernel_rfl) (by kernel_rfl) (by kernel_rfl) (fun _ _ _ h => h) (.inl ⟨by kernel_rfl, fun w _ => by kernel_rfl⟩) hS ?_
  simp only [List.getElem_toArray, List.getElem_cons_zero, List.getElem_cons_succ, Act.put, List.setIfInBounds_toArray, List.set_cons_zero, List.set_cons_succ]
  refine wpAnyH_take (i := 40) (v := .bool true) rfl (by kernel_rfl) (by kernel_rfl) (by kernel_rfl) (fun _ _ _ h => h) (.inl ⟨by kernel_rfl, fun w _ => by kernel_rfl⟩) hS ?_
  simp only [List.getElem_toArray, List.getElem_cons_zero, List.getElem_cons_succ, Act.put, List.setIfInBounds_toArray, List.set_cons_zero, List.set_cons_succ]
  refine wpAnyH_done (by kernel_rfl) ?_ _
  have hbE := hS.1.1.2.2.2
  clear hS
  go_wp2
  go_ret
  exact ⟨rfl, hbE⟩

set_option linter.unusedSimpArgs false in
set_option maxRecDepth 100000 in
set_option maxHeartbeats 16000000 in
theorem abw_four (s : Bool) (b : List Int) (hl : b.length = 16) (f0 f1 f2 f3 : Int) (ad : Option Addr) (cap : Nat) (bs : List Int) (hm : bs.length ≤ 100) (h4 : bs.length = 4) (hcap : bs.length ≤ cap) (hn0 : ad = none → cap = 0) (hby : ∀ j, 0 ≤ bs.getD j 0 ∧ bs.getD j 0 ≤ 255) (a : Nat → Addr) (w : World)
    (hE : Env (.iface 211 (.pointer (some (a 3)))) w) (hErr : Errs 18 a w) (hrow : ∀ j, j < bs.length → ∃ g o, ad = some ⟨g, o, none⟩ ∧ w.cell? ⟨g, o + j, none⟩ = some (.int .u8 (bs.getD j 0))) :
    Calls Tryz.prog 3 #[.agg (adr s b), .slice ad bs.length cap, .agg (arr .u8 [f0, f1, f2, f3])] w fun e w' => e = .returned (.bool true) ∧ Below w.heap.size w w' := by
  obtain ⟨W0, hW0⟩ : ∃ W, W = (w.alloc (.cells (adr s b) 24)).alloc (.cells (arr .u8 [f0, f1, f2, f3]) 26) := ⟨_, rfl⟩
  have hz0 : (w.alloc (.cells (adr s b) 24)).heap.size = w.heap.size + 1 := by simp
  have hb0 : Below w.heap.size w W0 := hW0 ▸ ((Below.refl _ _).alloc (Nat.le_refl _) _).alloc (by simp) _
  have hB0 : Blk W0 w.heap.size 24 (adr s b) := hW0 ▸ (Blk.new w _ _).alloc _
  have hF0 : Blk W0 (w.heap.size + 1) 26 (arr .u8 [f0, f1, f2, f3]) := by
    have := Blk.new (w.alloc (.cells (adr s b) 24)) 26 (arr .u8 [f0, f1, f2, f3])
    rw [hz0, ← hW0] at this
    exact this
  have HW0 := Lib.hid hW0.symm
  have C0 := Lib.hid (alive_any _ W0 (hE.kept hb0))
  have HB0 := Lib.hid hB0
  have HF0 := Lib.hid hF0
  have Hb0 := Lib.hid hb0
  have HL := Lib.hid hl
  have L17 : Hid (17 = (adr s b).size) := Lib.hid (by rw [adr_size, hl])
  have L17y : Hid (17 = (adr false [f0, f1, f2, f3, 0, 0, 0, 0, 0, 0, 0, 0, 0, 0, 0, 0]).size) := Lib.hid rfl
  have CB := Lib.hid (abytesA s b hl)
  have CRB := Lib.hid (rbytesA s b hl)
  have CP := Lib.hid (aputA s b hl)
  have CRP := Lib.hid (rputA s b hl)
  have CS := Lib.hid (six_any b hl)
  have CRY : Hid (∀ w, Calls Tryz.prog 10 #[.agg (adr false [f0, f1, f2, f3, 0, 0, 0, 0, 0, 0, 0, 0, 0, 0, 0, 0])] w fun e w' => ∃ v, e = .returned v ∧ (BytesIn w' w.heap.size v [f0, f1, f2, f3] ∧ Below w.heap.size w w')) := Lib.hid (rbytesA false [f0, f1, f2, f3, 0, 0, 0, 0, 0, 0, 0, 0, 0, 0, 0, 0] rfl)
  have CRt : Hid (∀ w, Calls Tryz.prog 16 #[.agg (adr false [f0, f1, f2, f3, 0, 0, 0, 0, 0, 0, 0, 0, 0, 0, 0, 0])] w fun e w' => e = .returned (.bool true) ∧ Below w.heap.size w w') := Lib.hid fun w => by
    have := refRight_any false [f0, f1, f2, f3, 0, 0, 0, 0, 0, 0, 0, 0, 0, 0, 0, 0] rfl w
    rw [show (false || flat [f0, f1, f2, f3, 0, 0, 0, 0, 0, 0, 0, 0, 0, 0, 0, 0]) = true by simp [flat, nth]] at this
    exact this
  have HBy := Lib.hid hby
  have HEr := Lib.hid hErr
  have HRow := Lib.hid hrow
  obtain ⟨rs, rb, q, k, hrd⟩ : ∃ rs rb q k, readA bs 0 = ((rs, rb), q, k) := ⟨_, _, _, _, rfl⟩
  have HLr : Hid (rb.length = 16) := Lib.hid (by have := readA_len bs 0; rw [hrd] at this; exact this)
  have L17z : Hid (17 = (adr rs rb).size) := Lib.hid (by rw [adr_size, HLr.out])
  have Hk : Hid (k ≤ 18) := Lib.hid (by have := readA_most bs 0; rw [hrd] at this; exact this)
  have HRd := Lib.hid hrd
  have CN : Hid (∀ w', Below w.heap.size w w' → Calls Tryz.prog 15 #[errV a k] w' fun e w2 => e = .returned (.int .i64 (k : Int)) ∧ Below w'.heap.size w' w2) := Lib.hid fun w' hb => by
    have hk := Hk.out
    cases k with
    | zero => exact (num_nil w').mono fun e w2 hh => ⟨hh.1, by rw [← hh.2]; exact Below.refl _ _⟩
    | succ m =>
      rw [errV_some2 a (m + 1) (by omega), Nat.add_sub_cancel]
      refine (num_err a m (by omega) w' (hErr.below hb)).mono fun e w2 hh => ⟨?_, hh.2⟩
      rw [hh.1]
      simp
  have d1 : decide ((bs.length : Int) > 100) = false := decide_eq_false (by omega)
  have d1' : decide ((100 : Int) < (bs.length : Int)) = false := decide_eq_false (by omega)
  have d4 : ((bs.length : Int) != 4) = false := by rw [h4]; rfl
  have d16 : ((bs.length : Int) != 16) = true := by rw [h4]; rfl
  have e16 : ((bs.length : Int) == 16) = false := by rw [h4]; rfl
  have CF : Hid (∀ w', Below w.heap.size w w' → Calls Tryz.prog 14 #[.slice ad bs.length cap] w' fun e w2 => e = .returned (.tuple #[.agg (adr false (pad16 bs)), .nilIface]) ∧ Below w'.heap.size w' w2) := Lib.hid fun w' hb => by
    have := from_4 ad cap bs h4 w' (fun j hj => by
      obtain ⟨g, o, e, hx⟩ := hrow j hj
      exact ⟨g, o, e, cell_kept hx hb⟩)
    rw [h4]
    exact this
  have hpl : (pad16 bs).length = 16 := pad16_length bs (by omega)
  have hbx : bytesA false (pad16 bs) = bs := by
    show (bs ++ List.replicate (16 - bs.length) 0).take 4 = bs
    exact List.take_left' h4
  have CRX : Hid (∀ w, Calls Tryz.prog 10 #[.agg (adr false (pad16 bs))] w fun e w' => ∃ v, e = .returned v ∧ (BytesIn w' w.heap.size v bs ∧ Below w.heap.size w w')) := Lib.hid fun w => by
    have := rbytesA false (pad16 bs) hpl w
    rw [hbx] at this
    exact this
  have CRR : Hid (∀ w, Calls Tryz.prog 16 #[.agg (adr false (pad16 bs))] w fun e w' => e = .returned (.bool true) ∧ Below w.heap.size w w') := Lib.hid fun w => by
    have := refRight_any false (pad16 bs) hpl w
    rw [show (false || flat (pad16 bs)) = true from pad_flat bs h4] at this
    exact this
  have L17x : Hid (17 = (adr false (pad16 bs)).size) := Lib.hid (by rw [adr_size, hpl])
  have H4 := Lib.hid h4
  have hbs0 : 0 < bs.length := by omega
  have HBs : Hid (∀ w', Below w.heap.size w w' → BytesIn w' 0 (.slice ad bs.length cap) bs) := Lib.hid fun w' hb => by
    obtain ⟨g, o, e, _⟩ := hrow 0 hbs0
    refine ⟨g, o, cap, by rw [e], Nat.zero_le _, fun j hj => ?_⟩
    obtain ⟨g', o', e', hx⟩ := hrow j hj
    rw [e] at e'
    cases e'
    exact cell_kept hx hb
  clear h4 hpl hbx hbs0
  clear hW0 hz0 hB0 hF0 hb0 hl hE hby hErr hrow hrd
  go_enter Tryz.func3, Tryz.ntmps3
  go_upto_region 1 with fail
  rw [HW0.out]
  go_wp2_with fail
  refine C0.out.mono ?_
  rintro e w1 ⟨rfl, hb1⟩
  have hS0 : Blk w1.drew (w.heap.size) 24 (adr s b) ∧ Blk w1.drew (w.heap.size + 1) 26 (arr .u8 [f0, f1, f2, f3]) ∧ Below w.heap.size w w1.drew := by
    have hbd := bel2 hb1 (below_drewN w1 1)
    exact ⟨HB0.out.kept hbd, HF0.out.kept hbd, bel2 Hb0.out hbd⟩
  clear hb1
  go_wp2_with fail
  refine wp_region_held_drew (S := fun w' => Blk w' (w.heap.size) 24 (adr s b) ∧ Blk w' (w.heap.size + 1) 26 (arr .u8 [f0, f1, f2, f3]) ∧ Below w.heap.size w w') (by kernel_rfl) hS0 (fun hS => ?_)
  change wpAnyH _ _ _ _ _ 25 #[false, false, false, false, false, false, false, false, false, false, false, false, false, false, false, false, false, false, false, false, false, false, false, false, false] _ _
  refine wpAnyH_take (i := 0) (v := .agg (adr s b)) rfl (by kernel_rfl) (by kernel_rfl) (by kernel_rfl) (fun _ _ _ h => h) (yields_load 24 (.tmp 3) rfl (w.heap.size) (by kernel_rfl) _ _ _ (fun w h => h.1) Tryz.underlying24 rfl 17 Tryz.infoAddr L17.out (by kernel_rfl)) hS ?_
  simp only [List.getElem_toArray, List.getElem_cons_zero, List.getElem_cons_succ, Act.put, List.setIfInBounds_toArray, List.set_cons_zero, List.set_cons_succ]
  refine wpAnyH_take (i := 3) (v := .agg (adr s b)) rfl (by kernel_rfl) (by kernel_rfl) (by kernel_rfl) (fun _ _ _ h => h) (yields_load 24 (.tmp 3) rfl (w.heap.size) (by kernel_rfl) _ _ _ (fun w h => h.1) Tryz.underlying24 rfl 17 Tryz.infoAddr L17.out (by kernel_rfl)) hS ?_
  simp only [List.getElem_toArray, List.getElem_cons_zero, List.getElem_cons_succ, Act.put, List.setIfInBounds_toArray, List.set_cons_zero, List.set_cons_succ]
  refine wpAnyH_ready (rs := [1]) (by kernel_rfl) (by simp) ?_
  refine AllReadyH.cons rfl (fun K' hK => ?_) AllReadyH.nil
  refine step_callE 9 #[.agg (adr s b)] (by kernel_rfl) (by kernel_rfl) (CB.out _) (fun v1 u1 hR1 => hK.out _ _ (⟨hS.1.kept hR1.2, hS.2.1.kept hR1.2, bel2 hS.2.2 hR1.2⟩) (fun hS => ?_))
  simp only [List.getElem_toArray, List.getElem_cons_zero, List.getElem_cons_succ, Act.put, List.setIfInBounds_toArray, List.set_cons_zero, List.set_cons_succ]
  have hz1 := hS0.2.2.size
  have hSn : (fun w' => (Blk w' (w.heap.size) 24 (adr s b) ∧ Blk w' (w.heap.size + 1) 26 (arr .u8 [f0, f1, f2, f3]) ∧ Below w.heap.size w w') ∧ BytesIn w' w.heap.size v1 (bytesA s b)) u1 := ⟨hS, hR1.1.mono hz1⟩
  refine wpAnyH_mono (S' := fun w' => (Blk w' (w.heap.size) 24 (adr s b) ∧ Blk w' (w.heap.size + 1) 26 (arr .u8 [f0, f1, f2, f3]) ∧ Below w.heap.size w w') ∧ BytesIn w' w.heap.size v1 (bytesA s b)) (fun _ h => h.1) _ _ _ _ ?_
  clear hS
  have hS := hSn
  clear hSn
  refine wpAnyH_take (i := 2) (v := .string (strOfNums (bytesA s b))) rfl (by kernel_rfl) (by kernel_rfl) (by kernel_rfl) (fun _ _ _ h => h) (.inl ⟨by kernel_rfl, fun w h => exec_conv2 (.tmp 19) rfl v1 (by kernel_rfl) (bytesA s b) h.2⟩) hS ?_
  simp only [List.getElem_toArray, List.getElem_cons_zero, List.getElem_cons_succ, Act.put, List.setIfInBounds_toArray, List.set_cons_zero, List.set_cons_succ]
  refine wpAnyH_ready (rs := [4]) (by kernel_rfl) (by simp) ?_
  refine AllReadyH.cons rfl (fun K' hK => ?_) AllReadyH.nil
  refine step_callE 10 #[.agg (adr s b)] (by kernel_rfl) (by kernel_rfl) (CRB.out _) (fun v2 u2 hR2 => hK.out _ _ (⟨⟨hS.1.1.kept hR2.2, hS.1.2.1.kept hR2.2, bel2 hS.1.2.2 hR2.2⟩, hS.2.kept hR2.2⟩) (fun hS => ?_))
  simp only [List.getElem_toArray, List.getElem_cons_zero, List.getElem_cons_succ, Act.put, List.setIfInBounds_toArray, List.set_cons_zero, List.set_cons_succ]
  have hz2 := Nat.le_trans hz1 hR1.2.size
  have hSn : (fun w' => ((Blk w' (w.heap.size) 24 (adr s b) ∧ Blk w' (w.heap.size + 1) 26 (arr .u8 [f0, f1, f2, f3]) ∧ Below w.heap.size w w') ∧ BytesIn w' w.heap.size v1 (bytesA s b)) ∧ BytesIn w' w.heap.size v2 (bytesA s b)) u2 := ⟨hS, hR2.1.mono hz2⟩
  refine wpAnyH_mono (S' := fun w' => ((Blk w' (w.heap.size) 24 (adr s b) ∧ Blk w' (w.heap.size + 1) 26 (arr .u8 [f0, f1, f2, f3]) ∧ Below w.heap.size w w') ∧ BytesIn w' w.heap.size v1 (bytesA s b)) ∧ BytesIn w' w.heap.size v2 (bytesA s b)) (fun _ h => h.1) _ _ _ _ ?_
  clear hS
  have hS := hSn
  clear hSn
  refine wpAnyH_take (i := 5) (v := .string (strOfNums (bytesA s b))) rfl (by kernel_rfl) (by kernel_rfl) (by kernel_rfl) (fun _ _ _ h => h) (.inl ⟨by kernel_rfl, fun w h => exec_conv2 (.tmp 22) rfl v2 (by kernel_rfl) (bytesA s b) h.2⟩) hS ?_
  simp only [List.getElem_toArray, List.getElem_cons_zero, List.getElem_cons_succ, Act.put, List.setIfInBounds_toArray, List.set_cons_zero, List.set_cons_succ]
  refine wpAnyH_take (i := 6) (v := .bool false) rfl (by kernel_rfl) (by kernel_rfl) (by kernel_rfl) (fun _ _ _ h => h) (.inl ⟨by kernel_rfl, fun w _ => exec_sneq4 9 9 (.tmp 20) (.tmp 23) rfl (strOfNums (bytesA s b)) (by kernel_rfl) (by kernel_rfl)⟩) hS ?_
  simp only [List.getElem_toArray, List.getElem_cons_zero, List.getElem_cons_succ, Act.put, List.setIfInBounds_toArray, List.set_cons_zero, List.set_cons_succ]
  refine wpAnyH_take (i := 7) (v := .bool false) rfl (by kernel_rfl) (by kernel_rfl) (by kernel_rfl) (fun _ _ _ h => h) (.inl ⟨by kernel_rfl, fun w _ => by kernel_rfl⟩) hS ?_
  simp only [List.getElem_toArray, List.getElem_cons_zero, List.getElem_cons_succ, Act.put, List.setIfInBounds_toArray, List.set_cons_zero, List.set_cons_succ]
  refine wpAnyH_take (i := 8) (v := .agg (adr s b)) rfl (by kernel_rfl) (by kernel_rfl) (by kernel_rfl) (fun _ _ _ h => h) (yields_load 24 (.tmp 3) rfl (w.heap.size) (by kernel_rfl) _ _ _ (fun w h => h.1.1.1) Tryz.underlying24 rfl 17 Tryz.infoAddr L17.out (by kernel_rfl)) hS ?_
  simp only [List.getElem_toArray, List.getElem_cons_zero, List.getElem_cons_succ, Act.put, List.setIfInBounds_toArray, List.set_cons_zero, List.set_cons_succ]
  refine wpAnyH_take (i := 11) (v := .agg (adr s b)) rfl (by kernel_rfl) (by kernel_rfl) (by kernel_rfl) (fun _ _ _ h => h) (yields_load 24 (.tmp 3) rfl (w.heap.size) (by kernel_rfl) _ _ _ (fun w h => h.1.1.1) Tryz.underlying24 rfl 17 Tryz.infoAddr L17.out (by kernel_rfl)) hS ?_
  simp only [List.getElem_toArray, List.getElem_cons_zero, List.getElem_cons_succ, Act.put, List.setIfInBounds_toArray, List.set_cons_zero, List.set_cons_succ]
  refine wpAnyH_ready (rs := [9]) (by kernel_rfl) (by simp) ?_
  refine AllReadyH.cons rfl (fun K' hK => ?_) AllReadyH.nil
  rw [if_pos (by kernel_rfl)]
  refine op_callE 11 #[.agg (adr s b)] (by kernel_rfl) (CP.out _) (fun v3 u3 hR3 => hK.out _ _ (⟨⟨⟨hS.1.1.1.kept hR3.2, hS.1.1.2.1.kept hR3.2, bel2 hS.1.1.2.2 hR3.2⟩, hS.1.2.kept hR3.2⟩, hS.2.kept hR3.2⟩) (fun hS => ?_))
  simp only [List.getElem_toArray, List.getElem_cons_zero, List.getElem_cons_succ, Act.put, List.setIfInBounds_toArray, List.set_cons_zero, List.set_cons_succ]
  have hz3 := Nat.le_trans hz2 hR2.2.size
  have hSn : (fun w' => (((Blk w' (w.heap.size) 24 (adr s b) ∧ Blk w' (w.heap.size + 1) 26 (arr .u8 [f0, f1, f2, f3]) ∧ Below w.heap.size w w') ∧ BytesIn w' w.heap.size v1 (bytesA s b)) ∧ BytesIn w' w.heap.size v2 (bytesA s b)) ∧ BytesIn w' w.heap.size v3 (putA s b)) u3 := ⟨hS, hR3.1.mono hz3⟩
  refine wpAnyH_mono (S' := fun w' => (((Blk w' (w.heap.size) 24 (adr s b) ∧ Blk w' (w.heap.size + 1) 26 (arr .u8 [f0, f1, f2, f3]) ∧ Below w.heap.size w w') ∧ BytesIn w' w.heap.size v1 (bytesA s b)) ∧ BytesIn w' w.heap.size v2 (bytesA s b)) ∧ BytesIn w' w.heap.size v3 (putA s b)) (fun _ h => h.1) _ _ _ _ ?_
  clear hS
  have hS := hSn
  clear hSn
  refine wpAnyH_take (i := 10) (v := .string (strOfNums (putA s b))) rfl (by kernel_rfl) (by kernel_rfl) (by kernel_rfl) (fun _ _ _ h => h) (.inl ⟨by kernel_rfl, fun w h => exec_conv2 (.tmp 27) rfl v3 (by kernel_rfl) (putA s b) h.2⟩) hS ?_
  simp only [List.getElem_toArray, List.getElem_cons_zero, List.getElem_cons_succ, Act.put, List.setIfInBounds_toArray, List.set_cons_zero, List.set_cons_succ]
  refine wpAnyH_ready (rs := [12]) (by kernel_rfl) (by simp) ?_
  refine AllReadyH.cons rfl (fun K' hK => ?_) AllReadyH.nil
  rw [if_pos (by kernel_rfl)]
  refine op_callE 12 #[.agg (adr s b)] (by kernel_rfl) (CRP.out _) (fun v4 u4 hR4 => hK.out _ _ (⟨⟨⟨⟨hS.1.1.1.1.kept hR4.2, hS.1.1.1.2.1.kept hR4.2, bel2 hS.1.1.1.2.2 hR4.2⟩, hS.1.1.2.kept hR4.2⟩, hS.1.2.kept hR4.2⟩, hS.2.kept hR4.2⟩) (fun hS => ?_))
  simp only [List.getElem_toArray, List.getElem_cons_zero, List.getElem_cons_succ, Act.put, List.setIfInBounds_toArray, List.set_cons_zero, List.set_cons_succ]
  have hz4 := Nat.le_trans hz3 hR3.2.size
  have hSn : (fun w' => ((((Blk w' (w.heap.size) 24 (adr s b) ∧ Blk w' (w.heap.size + 1) 26 (arr .u8 [f0, f1, f2, f3]) ∧ Below w.heap.size w w') ∧ BytesIn w' w.heap.size v1 (bytesA s b)) ∧ BytesIn w' w.heap.size v2 (bytesA s b)) ∧ BytesIn w' w.heap.size v3 (putA s b)) ∧ BytesIn w' w.heap.size v4 (putA s b)) u4 := ⟨hS, hR4.1.mono hz4⟩
  refine wpAnyH_mono (S' := fun w' => ((((Blk w' (w.heap.size) 24 (adr s b) ∧ Blk w' (w.heap.size + 1) 26 (arr .u8 [f0, f1, f2, f3]) ∧ Below w.heap.size w w') ∧ BytesIn w' w.heap.size v1 (bytesA s b)) ∧ BytesIn w' w.heap.size v2 (bytesA s b)) ∧ BytesIn w' w.heap.size v3 (putA s b)) ∧ BytesIn w' w.heap.size v4 (putA s b)) (fun _ h => h.1) _ _ _ _ ?_
  clear hS
  have hS := hSn
  clear hSn
  refine wpAnyH_take (i := 13) (v := .string (strOfNums (putA s b))) rfl (by kernel_rfl) (by kernel_rfl) (by kernel_rfl) (fun _ _ _ h => h) (.inl ⟨by kernel_rfl, fun w h => exec_conv2 (.tmp 30) rfl v4 (by kernel_rfl) (putA s b) h.2⟩) hS ?_
  simp only [List.getElem_toArray, List.getElem_cons_zero, List.getElem_cons_succ, Act.put, List.setIfInBounds_toArray, List.set_cons_zero, List.set_cons_succ]
  refine wpAnyH_take (i := 14) (v := .bool false) rfl (by kernel_rfl) (by kernel_rfl) (by kernel_rfl) (fun _ _ _ h => h) (.inl ⟨by kernel_rfl, fun w _ => exec_sneq4 9 9 (.tmp 28) (.tmp 31) rfl (strOfNums (putA s b)) (by kernel_rfl) (by kernel_rfl)⟩) hS ?_
  simp only [List.getElem_toArray, List.getElem_cons_zero, List.getElem_cons_succ, Act.put, List.setIfInBounds_toArray, List.set_cons_zero, List.set_cons_succ]
  refine wpAnyH_take (i := 15) (v := .bool false) rfl (by kernel_rfl) (by kernel_rfl) (by kernel_rfl) (fun _ _ _ h => h) (.inl ⟨by kernel_rfl, fun w _ => by kernel_rfl⟩) hS ?_
  simp only [List.getElem_toArray, List.getElem_cons_zero, List.getElem_cons_succ, Act.put, List.setIfInBounds_toArray, List.set_cons_zero, List.set_cons_succ]
  refine wpAnyH_take (i := 16) (v := .bool false) rfl (by kernel_rfl) (by kernel_rfl) (by kernel_rfl) (fun _ _ _ h => h) (.inl ⟨by kernel_rfl, fun w _ => by kernel_rfl⟩) hS ?_
  simp only [List.getElem_toArray, List.getElem_cons_zero, List.getElem_cons_succ, Act.put, List.setIfInBounds_toArray, List.set_cons_zero, List.set_cons_succ]
  refine wpAnyH_take (i := 17) (v := .pointer (some ⟨w.heap.size, 1, none⟩)) rfl (by kernel_rfl) (by kernel_rfl) (by kernel_rfl) (fun _ _ _ h => h) (.inl ⟨by kernel_rfl, fun w _ => by kernel_rfl⟩) hS ?_
  simp only [List.getElem_toArray, List.getElem_cons_zero, List.getElem_cons_succ, Act.put, List.setIfInBounds_toArray, List.set_cons_zero, List.set_cons_succ]
  refine wpAnyH_take (i := 18) (v := .agg (arr .u8 b)) rfl (by kernel_rfl) (by kernel_rfl) (by kernel_rfl) (fun _ _ _ h => h) (yields_arr (.tmp 35) rfl (w.heap.size) (by kernel_rfl) s b (fun w h => h.1.1.1.1.1) HL.out (by kernel_rfl)) hS ?_
  simp only [List.getElem_toArray, List.getElem_cons_zero, List.getElem_cons_succ, Act.put, List.setIfInBounds_toArray, List.set_cons_zero, List.set_cons_succ]
  refine wpAnyH_take (i := 20) (v := .pointer (some ⟨w.heap.size, 1, none⟩)) rfl (by kernel_rfl) (by kernel_rfl) (by kernel_rfl) (fun _ _ _ h => h) (.inl ⟨by kernel_rfl, fun w _ => by kernel_rfl⟩) hS ?_
  simp only [List.getElem_toArray, List.getElem_cons_zero, List.getElem_cons_succ, Act.put, List.setIfInBounds_toArray, List.set_cons_zero, List.set_cons_succ]
  refine wpAnyH_take (i := 21) (v := .agg (arr .u8 b)) rfl (by kernel_rfl) (by kernel_rfl) (by kernel_rfl) (fun _ _ _ h => h) (yields_arr (.tmp 38) rfl (w.heap.size) (by kernel_rfl) s b (fun w h => h.1.1.1.1.1) HL.out (by kernel_rfl)) hS ?_
  simp only [List.getElem_toArray, List.getElem_cons_zero, List.getElem_cons_succ, Act.put, List.setIfInBounds_toArray, List.set_cons_zero, List.set_cons_succ]
  refine wpAnyH_take (i := 22) (v := .agg (adr true b)) rfl (by kernel_rfl) (by kernel_rfl) (by kernel_rfl) (fun _ _ _ h => h) (.inl ⟨by kernel_rfl, fun w _ => exec_build_six (.const (.bool true)) (.tmp 39) rfl b HL.out (by kernel_rfl) (by kernel_rfl) w⟩) hS ?_
  simp only [List.getElem_toArray, List.getElem_cons_zero, List.getElem_cons_succ, Act.put, List.setIfInBounds_toArray, List.set_cons_zero, List.set_cons_succ]
  refine wpAnyH_ready (rs := [19]) (by kernel_rfl) (by simp) ?_
  refine AllReadyH.cons rfl (fun K' hK => ?_) AllReadyH.nil
  rw [if_pos (by kernel_rfl)]
  refine op_callV 13 #[.agg (arr .u8 b)] (by kernel_rfl) (.agg (adr true b)) (CS.out _) (fun u5 hR5 => hK.out _ _ (⟨⟨⟨⟨⟨hS.1.1.1.1.1.kept hR5, hS.1.1.1.1.2.1.kept hR5, bel2 hS.1.1.1.1.2.2 hR5⟩, hS.1.1.1.2.kept hR5⟩, hS.1.1.2.kept hR5⟩, hS.1.2.kept hR5⟩, hS.2.kept hR5⟩) (fun hS => ?_))
  simp only [List.getElem_toArray, List.getElem_cons_zero, List.getElem_cons_succ, Act.put, List.setIfInBounds_toArray, List.set_cons_zero, List.set_cons_succ]
  refine wpAnyH_take (i := 23) (v := .bool false) rfl (by kernel_rfl) (by kernel_rfl) (by kernel_rfl) (fun _ _ _ h => h) (.inl ⟨by kernel_rfl, fun w _ => exec_neq_adr (.tmp 37) (.tmp 40) rfl true b HL.out (by kernel_rfl) (by kernel_rfl) w⟩) hS ?_
  simp only [List.getElem_toArray, List.getElem_cons_zero, List.getElem_cons_succ, Act.put, List.setIfInBounds_toArray, List.set_cons_zero, List.set_cons_succ]
  refine wpAnyH_take (i := 24) (v := .bool false) rfl (by kernel_rfl) (by kernel_rfl) (by kernel_rfl) (fun _ _ _ h => h) (.inl ⟨by kernel_rfl, fun w _ => by kernel_rfl⟩) hS ?_
  simp only [List.getElem_toArray, List.getElem_cons_zero, List.getElem_cons_succ, Act.put, List.setIfInBounds_toArray, List.set_cons_zero, List.set_cons_succ]
  refine wpAnyH_done (by kernel_rfl) ?_ _
  have HS := Lib.hid hS.1.1.1.1
  clear hS hR1 hR2 hR3 hR4 hR5 hz1 hz2 hz3 hz4
  go_wp2_with fail
  refine (CF.out u5 HS.out.2.2).mono ?_
  rintro e w5 ⟨rfl, hb5⟩
  have HS5 : Hid (Blk w5 (w.heap.size + 1) 26 (arr .u8 [f0, f1, f2, f3]) ∧ Below w.heap.size w w5) := Lib.hid ⟨HS.out.2.1.kept hb5, bel2 HS.out.2.2 hb5⟩
  clear hb5
  obtain ⟨W6, hW6⟩ : ∃ W, W = w5.alloc (.cells (adr false z16) 24) := ⟨_, rfl⟩
  have hBW6 : Blk W6 w5.heap.size 24 (adr false z16) := hW6 ▸ Blk.new w5 _ _
  have hbW6 : Below w5.heap.size w5 W6 := hW6 ▸ (Below.refl _ _).alloc (Nat.le_refl _) _
  have HW6 : Hid (w5.alloc (.cells #[.bool false, .int .u8 0, .int .u8 0, .int .u8 0, .int .u8 0, .int .u8 0, .int .u8 0, .int .u8 0, .int .u8 0, .int .u8 0, .int .u8 0, .int .u8 0, .int .u8 0, .int .u8 0, .int .u8 0, .int .u8 0, .int .u8 0] 24) = W6) := Lib.hid hW6.symm
  have HBW6 := Lib.hid hBW6
  obtain ⟨V6, hV6⟩ : ∃ V, V = W6.setRow w5.heap.size (adr false (pad16 bs)) := ⟨_, rfl⟩
  have HV6 := Lib.hid hV6.symm
  have hblV6 : Below w5.heap.size w5 V6 := hV6 ▸ below_setRow hbW6 (Nat.le_refl _) _
  have HNV6 : Hid (Blk V6 w5.heap.size 24 (adr false (pad16 bs))) := Lib.hid (hV6 ▸ hBW6.row _)
  clear hW6 hBW6 hbW6 hV6
  have HS6 : Hid (Blk V6 (w.heap.size + 1) 26 (arr .u8 [f0, f1, f2, f3]) ∧ Below w.heap.size w V6) := Lib.hid ⟨HS5.out.1.kept hblV6, bel2 HS5.out.2 hblV6⟩
  clear hblV6
  have hS0 : Blk V6.drew w5.heap.size 24 (adr false (pad16 bs)) ∧ Blk V6.drew (w.heap.size + 1) 26 (arr .u8 [f0, f1, f2, f3]) ∧ Below w.heap.size w V6.drew := ⟨HNV6.out.kept (below_drewN V6 1), HS6.out.1.kept (below_drewN V6 1), bel2 HS6.out.2 (below_drewN V6 1)⟩
  go_wp2_with ((try rw [HW6.out]); refine wpl_store 24 _ _ rfl w5.heap.size (adr false (pad16 bs)) rfl rfl _ _ HBW6.out 17 Tryz.infoAddr L17x.out rfl (adr_one _ _) rfl ?_; rw [HV6.out])
  refine wp_region_held_drew (S := fun w' => Blk w' w5.heap.size 24 (adr false (pad16 bs)) ∧ Blk w' (w.heap.size + 1) 26 (arr .u8 [f0, f1, f2, f3]) ∧ Below w.heap.size w w') (by kernel_rfl) hS0 (fun hS => ?_)
  change wpAnyH _ _ _ _ _ 23 #[false, false, false, false, false, false, false, false, false, false, false, false, false, false, false, false, false, false, false, false, false, false, false] _ _
  refine wpAnyH_take (i := 0) (v := .nilIface) rfl (by kernel_rfl) (by kernel_rfl) (by kernel_rfl) (fun _ _ _ h => h) (.inl ⟨by kernel_rfl, fun w _ => by kernel_rfl⟩) hS ?_
  simp only [List.getElem_toArray, List.getElem_cons_zero, List.getElem_cons_succ, Act.put, List.setIfInBounds_toArray, List.set_cons_zero, List.set_cons_succ]
  refine wpAnyH_take (i := 1) (v := .bool false) rfl (by kernel_rfl) (by kernel_rfl) (by kernel_rfl) (fun _ _ _ h => h) (.inl ⟨by kernel_rfl, fun w _ => by kernel_rfl⟩) hS ?_
  simp only [List.getElem_toArray, List.getElem_cons_zero, List.getElem_cons_succ, Act.put, List.setIfInBounds_toArray, List.set_cons_zero, List.set_cons_succ]
  refine wpAnyH_take (i := 2) (v := .bool false) rfl (by kernel_rfl) (by kernel_rfl) (by kernel_rfl) (fun _ _ _ h => h) (.inl ⟨by kernel_rfl, fun w _ => by kernel_rfl⟩) hS ?_
  simp only [List.getElem_toArray, List.getElem_cons_zero, List.getElem_cons_succ, Act.put, List.setIfInBounds_toArray, List.set_cons_zero, List.set_cons_succ]
  refine wpAnyH_take (i := 3) (v := .pointer (some ⟨w5.heap.size, 0, none⟩)) rfl (by kernel_rfl) (by kernel_rfl) (by kernel_rfl) (fun _ _ _ h => h) (.inl ⟨by kernel_rfl, fun w _ => by kernel_rfl⟩) hS ?_
  simp only [List.getElem_toArray, List.getElem_cons_zero, List.getElem_cons_succ, Act.put, List.setIfInBounds_toArray, List.set_cons_zero, List.set_cons_succ]
  refine wpAnyH_take (i := 4) (v := .bool false) rfl (by kernel_rfl) (by kernel_rfl) (by kernel_rfl) (fun _ _ _ h => h) (yields_bool (.tmp 67) rfl w5.heap.size (by kernel_rfl) false (fun w h => by rw [h.1.cell]; rfl) (by kernel_rfl)) hS ?_
  simp only [List.getElem_toArray, List.getElem_cons_zero, List.getElem_cons_succ, Act.put, List.setIfInBounds_toArray, List.set_cons_zero, List.set_cons_succ]
  refine wpAnyH_take (i := 5) (v := .slice ad bs.length cap) rfl (by kernel_rfl) (by kernel_rfl) (by kernel_rfl) (fun _ _ _ h => h) (.inl ⟨by kernel_rfl, fun w _ => by kernel_rfl⟩) hS ?_
  simp only [List.getElem_toArray, List.getElem_cons_zero, List.getElem_cons_succ, Act.put, List.setIfInBounds_toArray, List.set_cons_zero, List.set_cons_succ]
  refine wpAnyH_take (i := 6) (v := .int .i64 (bs.length : Int)) rfl (by kernel_rfl) (by kernel_rfl) (by kernel_rfl) (fun _ _ _ h => h) (.inl ⟨by kernel_rfl, fun w _ => by kernel_rfl⟩) hS ?_
  simp only [List.getElem_toArray, List.getElem_cons_zero, List.getElem_cons_succ, Act.put, List.setIfInBounds_toArray, List.set_cons_zero, List.set_cons_succ]
  refine wpAnyH_take (i := 7) (v := .bool false) rfl (by kernel_rfl) (by kernel_rfl) (by kernel_rfl) (fun _ _ _ h => h) (.inl ⟨by kernel_rfl, fun w _ => exec_ieql 3 3 (.tmp 70) (.const (.int .i64 16)) rfl _ _ (by kernel_rfl) (by kernel_rfl) _ e16⟩) hS ?_
  simp only [List.getElem_toArray, List.getElem_cons_zero, List.getElem_cons_succ, Act.put, List.setIfInBounds_toArray, List.set_cons_zero, List.set_cons_succ]
  refine wpAnyH_take (i := 8) (v := .bool false) rfl (by kernel_rfl) (by kernel_rfl) (by kernel_rfl) (fun _ _ _ h => h) (.inl ⟨by kernel_rfl, fun w _ => by kernel_rfl⟩) hS ?_
  simp only [List.getElem_toArray, List.getElem_cons_zero, List.getElem_cons_succ, Act.put, List.setIfInBounds_toArray, List.set_cons_zero, List.set_cons_succ]
  refine wpAnyH_take (i := 9) (v := .bool false) rfl (by kernel_rfl) (by kernel_rfl) (by kernel_rfl) (fun _ _ _ h => h) (.inl ⟨by kernel_rfl, fun w _ => by kernel_rfl⟩) hS ?_
  simp only [List.getElem_toArray, List.getElem_cons_zero, List.getElem_cons_succ, Act.put, List.setIfInBounds_toArray, List.set_cons_zero, List.set_cons_succ]
  refine wpAnyH_take (i := 10) (v := .bool false) rfl (by kernel_rfl) (by kernel_rfl) (by kernel_rfl) (fun _ _ _ h => h) (.inl ⟨by kernel_rfl, fun w _ => by kernel_rfl⟩) hS ?_
  simp only [List.getElem_toArray, List.getElem_cons_zero, List.getElem_cons_succ, Act.put, List.setIfInBounds_toArray, List.set_cons_zero, List.set_cons_succ]
  refine wpAnyH_take (i := 11) (v := .agg (adr false (pad16 bs))) rfl (by kernel_rfl) (by kernel_rfl) (by kernel_rfl) (fun _ _ _ h => h) (yields_load 24 (.tmp 7) rfl (w5.heap.size) (by kernel_rfl) _ _ _ (fun w h => h.1) Tryz.underlying24 rfl 17 Tryz.infoAddr L17x.out (by kernel_rfl)) hS ?_
  simp only [List.getElem_toArray, List.getElem_cons_zero, List.getElem_cons_succ, Act.put, List.setIfInBounds_toArray, List.set_cons_zero, List.set_cons_succ]
  refine wpAnyH_take (i := 14) (v := .slice ad bs.length cap) rfl (by kernel_rfl) (by kernel_rfl) (by kernel_rfl) (fun _ _ _ h => h) (.inl ⟨by kernel_rfl, fun w _ => by kernel_rfl⟩) hS ?_
  simp only [List.getElem_toArray, List.getElem_cons_zero, List.getElem_cons_succ, Act.put, List.setIfInBounds_toArray, List.set_cons_zero, List.set_cons_succ]
  refine wpAnyH_take (i := 15) (v := .string (strOfNums bs)) rfl (by kernel_rfl) (by kernel_rfl) (by kernel_rfl) (fun _ _ _ h => h) (.inl ⟨by kernel_rfl, fun w h => exec_conv2 (.tmp 78) rfl _ (by kernel_rfl) bs (HBs.out _ h.2.2)⟩) hS ?_
  simp only [List.getElem_toArray, List.getElem_cons_zero, List.getElem_cons_succ, Act.put, List.setIfInBounds_toArray, List.set_cons_zero, List.set_cons_succ]
  refine wpAnyH_ready (rs := [12]) (by kernel_rfl) (by simp) ?_
  refine AllReadyH.cons rfl (fun K' hK => ?_) AllReadyH.nil
  rw [if_pos (by kernel_rfl)]
  refine op_callE 10 #[.agg (adr false (pad16 bs))] (by kernel_rfl) (CRX.out _) (fun v7 u7 hR7 => hK.out _ _ (⟨hS.1.kept hR7.2, hS.2.1.kept hR7.2, bel2 hS.2.2 hR7.2⟩) (fun hS => ?_))
  simp only [List.getElem_toArray, List.getElem_cons_zero, List.getElem_cons_succ, Act.put, List.setIfInBounds_toArray, List.set_cons_zero, List.set_cons_succ]
  have hSn : (fun w' => (Blk w' w5.heap.size 24 (adr false (pad16 bs)) ∧ Blk w' (w.heap.size + 1) 26 (arr .u8 [f0, f1, f2, f3]) ∧ Below w.heap.size w w') ∧ BytesIn w' V6.drew.heap.size v7 bs) u7 := ⟨hS, hR7.1⟩
  refine wpAnyH_mono (S' := fun w' => (Blk w' w5.heap.size 24 (adr false (pad16 bs)) ∧ Blk w' (w.heap.size + 1) 26 (arr .u8 [f0, f1, f2, f3]) ∧ Below w.heap.size w w') ∧ BytesIn w' V6.drew.heap.size v7 bs) (fun _ h => h.1) _ _ _ _ ?_
  clear hS
  have hS := hSn
  clear hSn
  refine wpAnyH_take (i := 13) (v := .string (strOfNums bs)) rfl (by kernel_rfl) (by kernel_rfl) (by kernel_rfl) (fun _ _ _ h => h) (.inl ⟨by kernel_rfl, fun w h => exec_conv2 (.tmp 76) rfl v7 (by kernel_rfl) bs h.2⟩) hS ?_
  simp only [List.getElem_toArray, List.getElem_cons_zero, List.getElem_cons_succ, Act.put, List.setIfInBounds_toArray, List.set_cons_zero, List.set_cons_succ]
  refine wpAnyH_take (i := 16) (v := .bool false) rfl (by kernel_rfl) (by kernel_rfl) (by kernel_rfl) (fun _ _ _ h => h) (.inl ⟨by kernel_rfl, fun w _ => exec_sneq4 9 9 (.tmp 77) (.tmp 79) rfl (strOfNums bs) (by kernel_rfl) (by kernel_rfl)⟩) hS ?_
  simp only [List.getElem_toArray, List.getElem_cons_zero, List.getElem_cons_succ, Act.put, List.setIfInBounds_toArray, List.set_cons_zero, List.set_cons_succ]
  refine wpAnyH_take (i := 17) (v := .bool false) rfl (by kernel_rfl) (by kernel_rfl) (by kernel_rfl) (fun _ _ _ h => h) (.inl ⟨by kernel_rfl, fun w _ => by kernel_rfl⟩) hS ?_
  simp only [List.getElem_toArray, List.getElem_cons_zero, List.getElem_cons_succ, Act.put, List.setIfInBounds_toArray, List.set_cons_zero, List.set_cons_succ]
  refine wpAnyH_take (i := 18) (v := .bool false) rfl (by kernel_rfl) (by kernel_rfl) (by kernel_rfl) (fun _ _ _ h => h) (.inl ⟨by kernel_rfl, fun w _ => by kernel_rfl⟩) hS ?_
  simp only [List.getElem_toArray, List.getElem_cons_zero, List.getElem_cons_succ, Act.put, List.setIfInBounds_toArray, List.set_cons_zero, List.set_cons_succ]
  refine wpAnyH_take (i := 19) (v := .agg (adr false (pad16 bs))) rfl (by kernel_rfl) (by kernel_rfl) (by kernel_rfl) (fun _ _ _ h => h) (yields_load 24 (.tmp 7) rfl (w5.heap.size) (by kernel_rfl) _ _ _ (fun w h => h.1.1) Tryz.underlying24 rfl 17 Tryz.infoAddr L17x.out (by kernel_rfl)) hS ?_
  simp only [List.getElem_toArray, List.getElem_cons_zero, List.getElem_cons_succ, Act.put, List.setIfInBounds_toArray, List.set_cons_zero, List.set_cons_succ]
  refine wpAnyH_ready (rs := [20]) (by kernel_rfl) (by simp) ?_
  refine AllReadyH.cons rfl (fun K' hK => ?_) AllReadyH.nil
  rw [if_pos (by kernel_rfl)]
  refine op_callV 16 #[.agg (adr false (pad16 bs))] (by kernel_rfl) (.bool true) (CRR.out _) (fun u8 hR8 => hK.out _ _ (⟨⟨hS.1.1.kept hR8, hS.1.2.1.kept hR8, bel2 hS.1.2.2 hR8⟩, hS.2.kept hR8⟩) (fun hS => ?_))
  simp only [List.getElem_toArray, List.getElem_cons_zero, List.getElem_cons_succ, Act.put, List.setIfInBounds_toArray, List.set_cons_zero, List.set_cons_succ]
  refine wpAnyH_take (i := 21) (v := .bool false) rfl (by kernel_rfl) (by kernel_rfl) (by kernel_rfl) (fun _ _ _ h => h) (.inl ⟨by kernel_rfl, fun w _ => by kernel_rfl⟩) hS ?_
  simp only [List.getElem_toArray, List.getElem_cons_zero, List.getElem_cons_succ, Act.put, List.setIfInBounds_toArray, List.set_cons_zero, List.set_cons_succ]
  refine wpAnyH_take (i := 22) (v := .bool false) rfl (by kernel_rfl) (by kernel_rfl) (by kernel_rfl) (fun _ _ _ h => h) (.inl ⟨by kernel_rfl, fun w _ => by kernel_rfl⟩) hS ?_
  simp only [List.getElem_toArray, List.getElem_cons_zero, List.getElem_cons_succ, Act.put, List.setIfInBounds_toArray, List.set_cons_zero, List.set_cons_succ]
  refine wpAnyH_done (by kernel_rfl) ?_ _
  obtain ⟨w7, hw7⟩ : ∃ w7, w7 = u8 := ⟨_, rfl⟩
  have HS7 : Hid (Blk w7 (w.heap.size + 1) 26 (arr .u8 [f0, f1, f2, f3]) ∧ Below w.heap.size w w7) := Lib.hid (hw7 ▸ ⟨hS.1.2.1, hS.1.2.2⟩)
  subst hw7
  clear hS hR7 hR8 hS0
  have g0 : w7.cell? ⟨w.heap.size + 1, 0, none⟩ = some (.int .u8 f0) := by rw [HS7.out.1.cell]; rfl
  have g1 : w7.cell? ⟨w.heap.size + 1, 1, none⟩ = some (.int .u8 f1) := by rw [HS7.out.1.cell]; rfl
  have g2 : w7.cell? ⟨w.heap.size + 1, 2, none⟩ = some (.int .u8 f2) := by rw [HS7.out.1.cell]; rfl
  have g3 : w7.cell? ⟨w.heap.size + 1, 3, none⟩ = some (.int .u8 f3) := by rw [HS7.out.1.cell]; rfl
  go_wp2_with fail
  refine (four_any f0 f1 f2 f3 w7).mono ?_
  rintro e w8 ⟨rfl, hb8⟩
  have HS8 : Hid (Blk w8 (w.heap.size + 1) 26 (arr .u8 [f0, f1, f2, f3]) ∧ Below w.heap.size w w8) := Lib.hid ⟨HS7.out.1.kept hb8, bel2 HS7.out.2 hb8⟩
  clear hb8 g0 g1 g2 g3
  obtain ⟨y, hy⟩ : ∃ y, y = w8.heap.size := ⟨_, rfl⟩
  obtain ⟨W9, hW9⟩ : ∃ W, W = w8.alloc (.cells (adr false z16) 24) := ⟨_, rfl⟩
  have hBW9 : Blk W9 w8.heap.size 24 (adr false z16) := hW9 ▸ Blk.new w8 _ _
  have hbW9 : Below w8.heap.size w8 W9 := hW9 ▸ (Below.refl _ _).alloc (Nat.le_refl _) _
  have HW9 : Hid (w8.alloc (.cells #[.bool false, .int .u8 0, .int .u8 0, .int .u8 0, .int .u8 0, .int .u8 0, .int .u8 0, .int .u8 0, .int .u8 0, .int .u8 0, .int .u8 0, .int .u8 0, .int .u8 0, .int .u8 0, .int .u8 0, .int .u8 0, .int .u8 0] 24) = W9) := Lib.hid hW9.symm
  have HBW9 := Lib.hid hBW9
  obtain ⟨V9, hV9⟩ : ∃ V, V = W9.setRow w8.heap.size (adr false [f0, f1, f2, f3, 0, 0, 0, 0, 0, 0, 0, 0, 0, 0, 0, 0]) := ⟨_, rfl⟩
  have HV9 := Lib.hid hV9.symm
  have hblV9 : Below w8.heap.size w8 V9 := hV9 ▸ below_setRow hbW9 (Nat.le_refl _) _
  have HNV9 : Hid (Blk V9 w8.heap.size 24 (adr false [f0, f1, f2, f3, 0, 0, 0, 0, 0, 0, 0, 0, 0, 0, 0, 0])) := Lib.hid (hV9 ▸ hBW9.row _)
  clear hW9 hBW9 hbW9 hV9
  rw [← hy] at HNV9
  have hbV9 := bel2 HS8.out.2 hblV9
  have HS9 : Hid (Blk V9 (w.heap.size + 1) 26 (arr .u8 [f0, f1, f2, f3]) ∧ Below w.heap.size w V9) := Lib.hid ⟨HS8.out.1.kept hblV9, hbV9⟩
  have HyL : Hid (y < V9.heap.size) := Lib.hid HNV9.out.lt
  clear hblV9
  have hgl : ∀ j, j < bs.length → ∃ g o, ad = some ⟨g, o, none⟩ ∧ g < w.heap.size ∧ V9.cell? ⟨g, o + j, none⟩ = some (.int .u8 (bs.getD j 0)) := fun j hj => by
    obtain ⟨g, o, e, hx⟩ := HRow.out j hj
    exact ⟨g, o, e, World.block_lt_of_cell? w _ hx, cell_kept hx HS9.out.2⟩
  have hszV := HS9.out.2.size
  have CAt := Lib.hid (at_any V9 V9.heap.size ad cap bs (fun j hj => by
    obtain ⟨g, o, e, hg, hx⟩ := hgl j hj
    exact ⟨g, o, e, by omega, hx⟩) hn0 (by omega) HBy.out)
  have HGl := Lib.hid hgl
  have HY := Lib.hid hy
  clear hgl hbV9 hy
  go_wp2_with ((try rw [HW9.out]); refine wpl_store 24 _ _ rfl w8.heap.size (adr false [f0, f1, f2, f3, 0, 0, 0, 0, 0, 0, 0, 0, 0, 0, 0, 0]) rfl rfl _ _ HBW9.out 17 Tryz.infoAddr rfl rfl (adr_one _ _) rfl ?_; rw [HV9.out])
  refine CAt.out.mono ?_
  rintro e w10 ⟨c1, ad1, cap1, rfl, hC1, hc1, hg1, hb10⟩
  have hsz10 := hb10.size
  obtain ⟨c2, hc2⟩ : ∃ c2, c2 = w10.heap.size := ⟨_, rfl⟩
  obtain ⟨W11, hW11⟩ : ∃ W, W = w10.alloc (.cells #[.slice ad bs.length cap, .int .i64 0, .int .i64 0] 41) := ⟨_, rfl⟩
  have hB11 : Blk W11 c2 41 #[.slice ad bs.length cap, .int .i64 0, .int .i64 0] := hc2 ▸ hW11 ▸ Blk.new w10 _ _
  have hb11 : Below w10.heap.size w10 W11 := hW11 ▸ (Below.refl _ _).alloc (Nat.le_refl _) _
  have hbu : Below V9.heap.size V9 W11 := bel2 hb10 hb11
  have hlt1 := hC1.obj.lt
  have hltG := HS9.out.1.lt
  have hyl := HyL.out
  have HC11 : Hid (Cur W11 79 c1 ad1 cap1 bs 0 .nilIface) := Lib.hid (hC1.kept hb11)
  have HC12 : Hid (Cur W11 41 c2 ad cap bs 0 (.int .i64 0)) := Lib.hid ⟨hB11, fun j hj => by
    obtain ⟨g, o, e, hg, hx⟩ := HGl.out j hj
    exact ⟨g, o, e, by omega, cell_kept (cell_kept hx hb10) hb11⟩, Nat.zero_le _, hcap, by omega, HBy.out⟩
  have HS11 : Hid (Blk W11 y 24 (adr false [f0, f1, f2, f3, 0, 0, 0, 0, 0, 0, 0, 0, 0, 0, 0, 0]) ∧ Blk W11 (w.heap.size + 1) 26 (arr .u8 [f0, f1, f2, f3]) ∧ Below w.heap.size w W11) := Lib.hid ⟨HNV9.out.kept hbu, HS9.out.1.kept hbu, bel2 HS9.out.2 hbu⟩
  have Hy1 : Hid (y ≠ c1) := Lib.hid (by omega)
  have Hy2 : Hid (y ≠ c2) := Lib.hid (by omega)
  have HF1 : Hid (w.heap.size + 1 ≠ c1) := Lib.hid (by omega)
  have HF2 : Hid (w.heap.size + 1 ≠ c2) := Lib.hid (by omega)
  have HGc1 : Hid (w.heap.size ≤ c1) := Lib.hid (by omega)
  have HGc2 : Hid (w.heap.size ≤ c2) := Lib.hid (by omega)
  have Hcc : Hid (c2 ≠ c1) := Lib.hid (by omega)
  have Hcc' : Hid (c1 ≠ c2) := Lib.hid (by omega)
  have Hc2l : Hid (c2 < W11.heap.size) := Lib.hid hB11.lt
  have Hgc1 : Hid (∀ g o, ad = some ⟨g, o, none⟩ → 0 < bs.length → g ≠ c1) := Lib.hid fun g o e h0 => by
    obtain ⟨g', o', e', hg, _⟩ := HGl.out 0 h0
    rw [e] at e'
    cases e'
    omega
  have Hgc2 : Hid (∀ g o, ad1 = some ⟨g, o, none⟩ → 0 < bs.length → g ≠ c2) := Lib.hid fun g o e h0 => by
    obtain ⟨g', o', e', _, hx⟩ := hC1.row 0 h0
    rw [e] at e'
    cases e'
    have := World.block_lt_of_cell? w10 _ hx
    rw [hc2]
    exact Nat.ne_of_lt this
  have CR1 : Hid (Calls Tryz.prog 19 #[.pointer (some ⟨c1, 0, none⟩)] W11 fun e w' => e = .returned (.agg (adr rs rb)) ∧ (Cur w' 79 c1 ad1 cap1 bs q (errV a k) ∧ Keep c1 W11 w')) := Lib.hid (by
    have := aread_any a HC11.out ((HEr.out.below HS11.out.2.2).c)
    rw [HRd.out] at this
    exact this)
  have CR2 : Hid (∀ w', Cur w' 41 c2 ad cap bs 0 (.int .i64 0) → Calls Tryz.prog 20 #[.pointer (some ⟨c2, 0, none⟩)] w' fun e w2 => e = .returned (.agg (adr rs rb)) ∧ (Cur w2 41 c2 ad cap bs q (.int .i64 (k : Int)) ∧ Keep c2 w' w2)) := Lib.hid fun w' hC => by
    have := rread_any hC
    rw [HRd.out] at this
    exact this
  have HW11 : Hid (w10.alloc (.cells #[.slice ad bs.length cap, .int .i64 0, .int .i64 0] 41) = W11) := Lib.hid hW11.symm
  have HC22 := Lib.hid hc2
  clear hC1 hb10 hW11 hB11 hb11 hbu hc1 hg1
  go_upto_region 15 with fail
  rw [HW11.out]
  rw [← HC22.out]
  clear hsz10 hlt1 hszV hltG hc2 hyl
  go_wp2_with fail
  refine CR1.out.mono ?_
  rintro e w12 ⟨rfl, hC1, hK1⟩
  have hC2 := HC12.out.otherA hK1 Hcc.out Hgc1.out
  have hsz12 := hK1.low.size
  obtain ⟨z, hz⟩ : ∃ z, z = w12.heap.size := ⟨_, rfl⟩
  obtain ⟨W13, hW13⟩ : ∃ W, W = w12.alloc (.cells (adr false z16) 24) := ⟨_, rfl⟩
  have hBW13 : Blk W13 w12.heap.size 24 (adr false z16) := hW13 ▸ Blk.new w12 _ _
  have hbW13 : Below w12.heap.size w12 W13 := hW13 ▸ (Below.refl _ _).alloc (Nat.le_refl _) _
  have HW13 : Hid (w12.alloc (.cells #[.bool false, .int .u8 0, .int .u8 0, .int .u8 0, .int .u8 0, .int .u8 0, .int .u8 0, .int .u8 0, .int .u8 0, .int .u8 0, .int .u8 0, .int .u8 0, .int .u8 0, .int .u8 0, .int .u8 0, .int .u8 0, .int .u8 0] 24) = W13) := Lib.hid hW13.symm
  have HBW13 := Lib.hid hBW13
  obtain ⟨V13, hV13⟩ : ∃ V, V = W13.setRow w12.heap.size (adr rs rb) := ⟨_, rfl⟩
  have HV13 := Lib.hid hV13.symm
  have hblV13 : Below w12.heap.size w12 V13 := hV13 ▸ below_setRow hbW13 (Nat.le_refl _) _
  have HNV13 : Hid (Blk V13 w12.heap.size 24 (adr rs rb)) := Lib.hid (hV13 ▸ hBW13.row _)
  clear hW13 hBW13 hbW13 hV13
  rw [← hz] at HNV13
  have hbd : Below w12.heap.size w12 V13.drew := bel2 hblV13 (below_drewN V13 1)
  have HC1 : Hid (Cur V13.drew 79 c1 ad1 cap1 bs q (errV a k)) := Lib.hid (hC1.kept hbd)
  have HC2 : Hid (Cur V13.drew 41 c2 ad cap bs 0 (.int .i64 0)) := Lib.hid (hC2.kept hbd)
  have hS0 : Blk V13.drew y 24 (adr false [f0, f1, f2, f3, 0, 0, 0, 0, 0, 0, 0, 0, 0, 0, 0, 0]) ∧ Blk V13.drew (w.heap.size + 1) 26 (arr .u8 [f0, f1, f2, f3]) ∧ Blk V13.drew z 24 (adr rs rb) ∧ Below w.heap.size w V13.drew := ⟨(hK1.blk HS11.out.1 Hy1.out).kept hbd, (hK1.blk HS11.out.2.1 HF1.out).kept hbd, HNV13.out.kept (below_drewN V13 1), (HS11.out.2.2.trans (hK1.low.mono HGc1.out)).trans (hbd.mono (by have := HS11.out.2.2.size; omega))⟩
  have Hz2 : Hid (z ≠ c2) := Lib.hid (by have := Hc2l.out; omega)
  obtain ⟨B16, hB16⟩ : ∃ B, B = V13.drew.heap.size := ⟨_, rfl⟩
  have HB16 : Hid (c2 < B16) := Lib.hid (by have := Hc2l.out; have := hbd.size; omega)
  have HZ := Lib.hid hz
  clear hC1 hK1 hC2 hbd hblV13 hsz12 hz
  go_wp2_with ((try rw [HW13.out]); refine wpl_store 24 _ _ rfl w12.heap.size (adr rs rb) rfl rfl _ _ HBW13.out 17 Tryz.infoAddr L17z.out rfl (adr_one _ _) rfl ?_; rw [HV13.out])
  rw [← HZ.out, ← HY.out]
  refine wp_region_held_drew (S := fun w' => Blk w' y 24 (adr false [f0, f1, f2, f3, 0, 0, 0, 0, 0, 0, 0, 0, 0, 0, 0, 0]) ∧ Blk w' (w.heap.size + 1) 26 (arr .u8 [f0, f1, f2, f3]) ∧ Blk w' z 24 (adr rs rb) ∧ Below w.heap.size w w') (by kernel_rfl) hS0 (fun hS => ?_)
  change wpAnyH _ _ _ _ _ 41 #[false, false, false, false, false, false, false, false, false, false, false, false, false, false, false, false, false, false, false, false, false, false, false, false, false, false, false, false, false, false, false, false, false, false, false, false, false, false, false, false, false] _ _
  refine wpAnyH_take (i := 0) (v := .pointer (some ⟨y, 0, none⟩)) rfl (by kernel_rfl) (by kernel_rfl) (by kernel_rfl) (fun _ _ _ h => h) (.inl ⟨by kernel_rfl, fun w _ => by kernel_rfl⟩) hS ?_
  simp only [List.getElem_toArray, List.getElem_cons_zero, List.getElem_cons_succ, Act.put, List.setIfInBounds_toArray, List.set_cons_zero, List.set_cons_succ]
  refine wpAnyH_take (i := 1) (v := .bool false) rfl (by kernel_rfl) (by kernel_rfl) (by kernel_rfl) (fun _ _ _ h => h) (yields_bool (.tmp 103) rfl y (by kernel_rfl) false (fun w h => by rw [h.1.cell]; rfl) (by kernel_rfl)) hS ?_
  simp only [List.getElem_toArray, List.getElem_cons_zero, List.getElem_cons_succ, Act.put, List.setIfInBounds_toArray, List.set_cons_zero, List.set_cons_succ]
  refine wpAnyH_take (i := 2) (v := .bool true) rfl (by kernel_rfl) (by kernel_rfl) (by kernel_rfl) (fun _ _ _ h => h) (.inl ⟨by kernel_rfl, fun w _ => by kernel_rfl⟩) hS ?_
  simp only [List.getElem_toArray, List.getElem_cons_zero, List.getElem_cons_succ, Act.put, List.setIfInBounds_toArray, List.set_cons_zero, List.set_cons_succ]
  refine wpAnyH_take (i := 3) (v := .bool true) rfl (by kernel_rfl) (by kernel_rfl) (by kernel_rfl) (fun _ _ _ h => h) (.inl ⟨by kernel_rfl, fun w _ => by kernel_rfl⟩) hS ?_
  simp only [List.getElem_toArray, List.getElem_cons_zero, List.getElem_cons_succ, Act.put, List.setIfInBounds_toArray, List.set_cons_zero, List.set_cons_succ]
  refine wpAnyH_take (i := 4) (v := .agg (adr false [f0, f1, f2, f3, 0, 0, 0, 0, 0, 0, 0, 0, 0, 0, 0, 0])) rfl (by kernel_rfl) (by kernel_rfl) (by kernel_rfl) (fun _ _ _ h => h) (yields_load 24 (.tmp 9) rfl (y) (by kernel_rfl) _ _ _ (fun w h => h.1) Tryz.underlying24 rfl 17 Tryz.infoAddr L17y.out (by kernel_rfl)) hS ?_
  simp only [List.getElem_toArray, List.getElem_cons_zero, List.getElem_cons_succ, Act.put, List.setIfInBounds_toArray, List.set_cons_zero, List.set_cons_succ]
  refine wpAnyH_take (i := 7) (v := .slice (some ⟨w.heap.size + 1, 0, none⟩) 4 4) rfl (by kernel_rfl) (by kernel_rfl) (by kernel_rfl) (fun _ _ _ h => h) (.inl ⟨by kernel_rfl, fun w _ => by kernel_rfl⟩) hS ?_
  simp only [List.getElem_toArray, List.getElem_cons_zero, List.getElem_cons_succ, Act.put, List.setIfInBounds_toArray, List.set_cons_zero, List.set_cons_succ]
  refine wpAnyH_take (i := 8) (v := .string (strOfNums [f0, f1, f2, f3])) rfl (by kernel_rfl) (by kernel_rfl) (by kernel_rfl) (fun _ _ _ h => h) (.inl ⟨by kernel_rfl, fun w' h => exec_conv2 (.tmp 110) rfl _ (by kernel_rfl) [f0, f1, f2, f3] (four_in h.2.1)⟩) hS ?_
  simp only [List.getElem_toArray, List.getElem_cons_zero, List.getElem_cons_succ, Act.put, List.setIfInBounds_toArray, List.set_cons_zero, List.set_cons_succ]
  refine wpAnyH_ready (rs := [5]) (by kernel_rfl) (by simp) ?_
  refine AllReadyH.cons rfl (fun K' hK => ?_) AllReadyH.nil
  rw [if_pos (by kernel_rfl)]
  refine op_callE 10 #[.agg (adr false [f0, f1, f2, f3, 0, 0, 0, 0, 0, 0, 0, 0, 0, 0, 0, 0])] (by kernel_rfl) (CRY.out _) (fun v5 t1 hR5 => hK.out _ _ (⟨hS.1.kept hR5.2, hS.2.1.kept hR5.2, hS.2.2.1.kept hR5.2, bel2 hS.2.2.2 hR5.2⟩) (fun hS => ?_))
  simp only [List.getElem_toArray, List.getElem_cons_zero, List.getElem_cons_succ, Act.put, List.setIfInBounds_toArray, List.set_cons_zero, List.set_cons_succ]
  have hSn : (fun w' => (Blk w' y 24 (adr false [f0, f1, f2, f3, 0, 0, 0, 0, 0, 0, 0, 0, 0, 0, 0, 0]) ∧ Blk w' (w.heap.size + 1) 26 (arr .u8 [f0, f1, f2, f3]) ∧ Blk w' z 24 (adr rs rb) ∧ Below w.heap.size w w') ∧ BytesIn w' B16 v5 [f0, f1, f2, f3]) t1 := ⟨hS, hB16 ▸ hR5.1⟩
  refine wpAnyH_mono (S' := fun w' => (Blk w' y 24 (adr false [f0, f1, f2, f3, 0, 0, 0, 0, 0, 0, 0, 0, 0, 0, 0, 0]) ∧ Blk w' (w.heap.size + 1) 26 (arr .u8 [f0, f1, f2, f3]) ∧ Blk w' z 24 (adr rs rb) ∧ Below w.heap.size w w') ∧ BytesIn w' B16 v5 [f0, f1, f2, f3]) (fun _ h => h.1) _ _ _ _ ?_
  clear hS
  have hS := hSn
  clear hSn
  refine wpAnyH_take (i := 6) (v := .string (strOfNums [f0, f1, f2, f3])) rfl (by kernel_rfl) (by kernel_rfl) (by kernel_rfl) (fun _ _ _ h => h) (.inl ⟨by kernel_rfl, fun w h => exec_conv2 (.tmp 108) rfl v5 (by kernel_rfl) [f0, f1, f2, f3] h.2⟩) hS ?_
  simp only [List.getElem_toArray, List.getElem_cons_zero, List.getElem_cons_succ, Act.put, List.setIfInBounds_toArray, List.set_cons_zero, List.set_cons_succ]
  refine wpAnyH_take (i := 9) (v := .bool true) rfl (by kernel_rfl) (by kernel_rfl) (by kernel_rfl) (fun _ _ _ h => h) (.inl ⟨by kernel_rfl, fun w _ => exec_seql4 9 9 (.tmp 109) (.tmp 111) rfl (strOfNums [f0, f1, f2, f3]) (by kernel_rfl) (by kernel_rfl)⟩) hS ?_
  simp only [List.getElem_toArray, List.getElem_cons_zero, List.getElem_cons_succ, Act.put, List.setIfInBounds_toArray, List.set_cons_zero, List.set_cons_succ]
  refine wpAnyH_take (i := 10) (v := .bool true) rfl (by kernel_rfl) (by kernel_rfl) (by kernel_rfl) (fun _ _ _ h => h) (.inl ⟨by kernel_rfl, fun w _ => by kernel_rfl⟩) hS ?_
  simp only [List.getElem_toArray, List.getElem_cons_zero, List.getElem_cons_succ, Act.put, List.setIfInBounds_toArray, List.set_cons_zero, List.set_cons_succ]
  refine wpAnyH_take (i := 11) (v := .bool true) rfl (by kernel_rfl) (by kernel_rfl) (by kernel_rfl) (fun _ _ _ h => h) (.inl ⟨by kernel_rfl, fun w _ => by kernel_rfl⟩) hS ?_
  simp only [List.getElem_toArray, List.getElem_cons_zero, List.getElem_cons_succ, Act.put, List.setIfInBounds_toArray, List.set_cons_zero, List.set_cons_succ]
  refine wpAnyH_take (i := 12) (v := .agg (adr false [f0, f1, f2, f3, 0, 0, 0, 0, 0, 0, 0, 0, 0, 0, 0, 0])) rfl (by kernel_rfl) (by kernel_rfl) (by kernel_rfl) (fun _ _ _ h => h) (yields_load 24 (.tmp 9) rfl (y) (by kernel_rfl) _ _ _ (fun w h => h.1.1) Tryz.underlying24 rfl 17 Tryz.infoAddr L17y.out (by kernel_rfl)) hS ?_
  simp only [List.getElem_toArray, List.getElem_cons_zero, List.getElem_cons_succ, Act.put, List.setIfInBounds_toArray, List.set_cons_zero, List.set_cons_succ]
  refine wpAnyH_ready (rs := [13]) (by kernel_rfl) (by simp) ?_
  refine AllReadyH.cons rfl (fun K' hK => ?_) AllReadyH.nil
  rw [if_pos (by kernel_rfl)]
  refine op_callV 16 #[.agg (adr false [f0, f1, f2, f3, 0, 0, 0, 0, 0, 0, 0, 0, 0, 0, 0, 0])] (by kernel_rfl) (.bool true) (CRt.out _) (fun t2 hR13 => hK.out _ _ (⟨⟨hS.1.1.kept hR13, hS.1.2.1.kept hR13, hS.1.2.2.1.kept hR13, bel2 hS.1.2.2.2 hR13⟩, hS.2.kept hR13⟩) (fun hS => ?_))
  simp only [List.getElem_toArray, List.getElem_cons_zero, List.getElem_cons_succ, Act.put, List.setIfInBounds_toArray, List.set_cons_zero, List.set_cons_succ]
  refine wpAnyH_take (i := 14) (v := .bool true) rfl (by kernel_rfl) (by kernel_rfl) (by kernel_rfl) (fun _ _ _ h => h) (.inl ⟨by kernel_rfl, fun w _ => by kernel_rfl⟩) hS ?_
  simp only [List.getElem_toArray, List.getElem_cons_zero, List.getElem_cons_succ, Act.put, List.setIfInBounds_toArray, List.set_cons_zero, List.set_cons_succ]
  refine wpAnyH_take (i := 15) (v := .bool true) rfl (by kernel_rfl) (by kernel_rfl) (by kernel_rfl) (fun _ _ _ h => h) (.inl ⟨by kernel_rfl, fun w _ => by kernel_rfl⟩) hS ?_
  simp only [List.getElem_toArray, List.getElem_cons_zero, List.getElem_cons_succ, Act.put, List.setIfInBounds_toArray, List.set_cons_zero, List.set_cons_succ]
  refine wpAnyH_take (i := 16) (v := .agg (adr rs rb)) rfl (by kernel_rfl) (by kernel_rfl) (by kernel_rfl) (fun _ _ _ h => h) (yields_load 24 (.tmp 12) rfl (z) (by kernel_rfl) _ _ _ (fun w h => h.1.2.2.1) Tryz.underlying24 rfl 17 Tryz.infoAddr L17z.out (by kernel_rfl)) hS ?_
  simp only [List.getElem_toArray, List.getElem_cons_zero, List.getElem_cons_succ, Act.put, List.setIfInBounds_toArray, List.set_cons_zero, List.set_cons_succ]
  refine wpAnyH_take (i := 17) (v := .pointer (some ⟨c2, 0, none⟩)) rfl (by kernel_rfl) (by kernel_rfl) (by kernel_rfl) (fun _ _ _ h => h) (.inl ⟨by kernel_rfl, fun w _ => by kernel_rfl⟩) hS ?_
  simp only [List.getElem_toArray, List.getElem_cons_zero, List.getElem_cons_succ, Act.put, List.setIfInBounds_toArray, List.set_cons_zero, List.set_cons_succ]
  have hC2t := (HC2.out.kept hR5.2).kept hR13
  have hC1t := (HC1.out.kept hR5.2).kept hR13
  refine wpAnyH_ready (rs := [18]) (by kernel_rfl) (by simp) ?_
  refine AllReadyH.cons rfl (fun K' hK => ?_) AllReadyH.nil
  rw [if_pos (by kernel_rfl)]
  refine op_callV 20 #[.pointer (some ⟨c2, 0, none⟩)] (by kernel_rfl) (.agg (adr rs rb)) (CR2.out _ hC2t) (fun t3 hR18 => hK.out _ _ (⟨⟨hR18.2.blk hS.1.1 Hy2.out, hR18.2.blk hS.1.2.1 HF2.out, hR18.2.blk hS.1.2.2.1 Hz2.out, hS.1.2.2.2.trans (hR18.2.low.mono HGc2.out)⟩, hS.2.keep hR18.2 HB16.out⟩) (fun hS => ?_))
  simp only [List.getElem_toArray, List.getElem_cons_zero, List.getElem_cons_succ, Act.put, List.setIfInBounds_toArray, List.set_cons_zero, List.set_cons_succ]
  have hSn : (fun w' => ((Blk w' y 24 (adr false [f0, f1, f2, f3, 0, 0, 0, 0, 0, 0, 0, 0, 0, 0, 0, 0]) ∧ Blk w' (w.heap.size + 1) 26 (arr .u8 [f0, f1, f2, f3]) ∧ Blk w' z 24 (adr rs rb) ∧ Below w.heap.size w w') ∧ BytesIn w' B16 v5 [f0, f1, f2, f3]) ∧ Cur w' 79 c1 ad1 cap1 bs q (errV a k) ∧ Cur w' 41 c2 ad cap bs q (.int .i64 (k : Int))) t3 := ⟨hS, hC1t.otherA hR18.2 Hcc'.out Hgc2.out, hR18.1⟩
  refine wpAnyH_mono (S' := fun w' => ((Blk w' y 24 (adr false [f0, f1, f2, f3, 0, 0, 0, 0, 0, 0, 0, 0, 0, 0, 0, 0]) ∧ Blk w' (w.heap.size + 1) 26 (arr .u8 [f0, f1, f2, f3]) ∧ Blk w' z 24 (adr rs rb) ∧ Below w.heap.size w w') ∧ BytesIn w' B16 v5 [f0, f1, f2, f3]) ∧ Cur w' 79 c1 ad1 cap1 bs q (errV a k) ∧ Cur w' 41 c2 ad cap bs q (.int .i64 (k : Int))) (fun _ h => h.1) _ _ _ _ ?_
  clear hS
  have hS := hSn
  clear hSn
  refine wpAnyH_take (i := 19) (v := .bool true) rfl (by kernel_rfl) (by kernel_rfl) (by kernel_rfl) (fun _ _ _ h => h) (.inl ⟨by kernel_rfl, fun w _ => exec_eql_adr (.tmp 119) (.tmp 121) rfl rs rb HLr.out (by kernel_rfl) (by kernel_rfl) w⟩) hS ?_
  simp only [List.getElem_toArray, List.getElem_cons_zero, List.getElem_cons_succ, Act.put, List.setIfInBounds_toArray, List.set_cons_zero, List.set_cons_succ]
  refine wpAnyH_take (i := 20) (v := .bool true) rfl (by kernel_rfl) (by kernel_rfl) (by kernel_rfl) (fun _ _ _ h => h) (.inl ⟨by kernel_rfl, fun w _ => by kernel_rfl⟩) hS ?_
  simp only [List.getElem_toArray, List.getElem_cons_zero, List.getElem_cons_succ, Act.put, List.setIfInBounds_toArray, List.set_cons_zero, List.set_cons_succ]
  refine wpAnyH_take (i := 21) (v := .bool true) rfl (by kernel_rfl) (by kernel_rfl) (by kernel_rfl) (fun _ _ _ h => h) (.inl ⟨by kernel_rfl, fun w _ => by kernel_rfl⟩) hS ?_
  simp only [List.getElem_toArray, List.getElem_cons_zero, List.getElem_cons_succ, Act.put, List.setIfInBounds_toArray, List.set_cons_zero, List.set_cons_succ]
  refine wpAnyH_take (i := 22) (v := .pointer (some ⟨c1, 0, none⟩)) rfl (by kernel_rfl) (by kernel_rfl) (by kernel_rfl) (fun _ _ _ h => h) (.inl ⟨by kernel_rfl, fun w _ => by kernel_rfl⟩) hS ?_
  simp only [List.getElem_toArray, List.getElem_cons_zero, List.getElem_cons_succ, Act.put, List.setIfInBounds_toArray, List.set_cons_zero, List.set_cons_succ]
  refine wpAnyH_take (i := 24) (v := .pointer (some ⟨c2, 0, none⟩)) rfl (by kernel_rfl) (by kernel_rfl) (by kernel_rfl) (fun _ _ _ h => h) (.inl ⟨by kernel_rfl, fun w _ => by kernel_rfl⟩) hS ?_
  simp only [List.getElem_toArray, List.getElem_cons_zero, List.getElem_cons_succ, Act.put, List.setIfInBounds_toArray, List.set_cons_zero, List.set_cons_succ]
  refine wpAnyH_take (i := 25) (v := .pointer (some ⟨c2, 0, none⟩)) rfl (by kernel_rfl) (by kernel_rfl) (by kernel_rfl) (fun _ _ _ h => h) (.inl ⟨by kernel_rfl, fun w _ => by kernel_rfl⟩) hS ?_
  simp only [List.getElem_toArray, List.getElem_cons_zero, List.getElem_cons_succ, Act.put, List.setIfInBounds_toArray, List.set_cons_zero, List.set_cons_succ]
  refine wpAnyH_take (i := 26) (v := .pointer (some ⟨c2, 1, none⟩)) rfl (by kernel_rfl) (by kernel_rfl) (by kernel_rfl) (fun _ _ _ h => h) (.inl ⟨by kernel_rfl, fun w _ => by kernel_rfl⟩) hS ?_
  simp only [List.getElem_toArray, List.getElem_cons_zero, List.getElem_cons_succ, Act.put, List.setIfInBounds_toArray, List.set_cons_zero, List.set_cons_succ]
  refine wpAnyH_take (i := 27) (v := .int .i64 (q : Int)) rfl (by kernel_rfl) (by kernel_rfl) (by kernel_rfl) (fun _ _ _ h => h) (yields_num (.tmp 129) rfl c2 1 (by kernel_rfl) (q : Int) (fun w h => h.2.2.cell1) (by kernel_rfl)) hS ?_
  simp only [List.getElem_toArray, List.getElem_cons_zero, List.getElem_cons_succ, Act.put, List.setIfInBounds_toArray, List.set_cons_zero, List.set_cons_succ]
  refine wpAnyH_ready (rs := [23]) (by kernel_rfl) (by simp) ?_
  refine AllReadyH.cons rfl (fun K' hK => ?_) AllReadyH.nil
  rw [if_pos (by kernel_rfl)]
  refine op_callV 21 #[.pointer (some ⟨c1, 0, none⟩)] (by kernel_rfl) (.int .i64 (q : Int)) (place_any hS.2.1) (fun t4 hR23 => hK.out _ _ (hR23 ▸ hS) (fun hS => ?_))
  simp only [List.getElem_toArray, List.getElem_cons_zero, List.getElem_cons_succ, Act.put, List.setIfInBounds_toArray, List.set_cons_zero, List.set_cons_succ]
  refine wpAnyH_take (i := 28) (v := .bool true) rfl (by kernel_rfl) (by kernel_rfl) (by kernel_rfl) (fun _ _ _ h => h) (.inl ⟨by kernel_rfl, fun w _ => exec_neql4 3 3 (.tmp 126) (.tmp 130) rfl (q : Int) (by kernel_rfl) (by kernel_rfl)⟩) hS ?_
  simp only [List.getElem_toArray, List.getElem_cons_zero, List.getElem_cons_succ, Act.put, List.setIfInBounds_toArray, List.set_cons_zero, List.set_cons_succ]
  refine wpAnyH_take (i := 29) (v := .bool true) rfl (by kernel_rfl) (by kernel_rfl) (by kernel_rfl) (fun _ _ _ h => h) (.inl ⟨by kernel_rfl, fun w _ => by kernel_rfl⟩) hS ?_
  simp only [List.getElem_toArray, List.getElem_cons_zero, List.getElem_cons_succ, Act.put, List.setIfInBounds_toArray, List.set_cons_zero, List.set_cons_succ]
  refine wpAnyH_take (i := 30) (v := .bool true) rfl (by kernel_rfl) (by kernel_rfl) (by kernel_rfl) (fun _ _ _ h => h) (.inl ⟨by kernel_rfl, fun w _ => by kernel_rfl⟩) hS ?_
  simp only [List.getElem_toArray, List.getElem_cons_zero, List.getElem_cons_succ, Act.put, List.setIfInBounds_toArray, List.set_cons_zero, List.set_cons_succ]
  refine wpAnyH_take (i := 31) (v := .pointer (some ⟨c1, 0, none⟩)) rfl (by kernel_rfl) (by kernel_rfl) (by kernel_rfl) (fun _ _ _ h => h) (.inl ⟨by kernel_rfl, fun w _ => by kernel_rfl⟩) hS ?_
  simp only [List.getElem_toArray, List.getElem_cons_zero, List.getElem_cons_succ, Act.put, List.setIfInBounds_toArray, List.set_cons_zero, List.set_cons_succ]
  refine wpAnyH_take (i := 34) (v := .pointer (some ⟨c2, 0, none⟩)) rfl (by kernel_rfl) (by kernel_rfl) (by kernel_rfl) (fun _ _ _ h => h) (.inl ⟨by kernel_rfl, fun w _ => by kernel_rfl⟩) hS ?_
  simp only [List.getElem_toArray, List.getElem_cons_zero, List.getElem_cons_succ, Act.put, List.setIfInBounds_toArray, List.set_cons_zero, List.set_cons_succ]
  refine wpAnyH_take (i := 35) (v := .pointer (some ⟨c2, 0, none⟩)) rfl (by kernel_rfl) (by kernel_rfl) (by kernel_rfl) (fun _ _ _ h => h) (.inl ⟨by kernel_rfl, fun w _ => by kernel_rfl⟩) hS ?_
  simp only [List.getElem_toArray, List.getElem_cons_zero, List.getElem_cons_succ, Act.put, List.setIfInBounds_toArray, List.set_cons_zero, List.set_cons_succ]
  refine wpAnyH_take (i := 36) (v := .pointer (some ⟨c2, 2, none⟩)) rfl (by kernel_rfl) (by kernel_rfl) (by kernel_rfl) (fun _ _ _ h => h) (.inl ⟨by kernel_rfl, fun w _ => by kernel_rfl⟩) hS ?_
  simp only [List.getElem_toArray, List.getElem_cons_zero, List.getElem_cons_succ, Act.put, List.setIfInBounds_toArray, List.set_cons_zero, List.set_cons_succ]
  refine wpAnyH_take (i := 37) (v := .int .i64 (k : Int)) rfl (by kernel_rfl) (by kernel_rfl) (by kernel_rfl) (fun _ _ _ h => h) (yields_num (.tmp 139) rfl c2 2 (by kernel_rfl) (k : Int) (fun w h => h.2.2.cell2) (by kernel_rfl)) hS ?_
  simp only [List.getElem_toArray, List.getElem_cons_zero, List.getElem_cons_succ, Act.put, List.setIfInBounds_toArray, List.set_cons_zero, List.set_cons_succ]
  refine wpAnyH_ready (rs := [32]) (by kernel_rfl) (by simp) ?_
  refine AllReadyH.cons rfl (fun K' hK => ?_) AllReadyH.nil
  rw [if_pos (by kernel_rfl)]
  refine op_callV 22 #[.pointer (some ⟨c1, 0, none⟩)] (by kernel_rfl) (errV a k) (err_any hS.2.1) (fun t5 hR32 => hK.out _ _ (hR32 ▸ hS) (fun hS => ?_))
  simp only [List.getElem_toArray, List.getElem_cons_zero, List.getElem_cons_succ, Act.put, List.setIfInBounds_toArray, List.set_cons_zero, List.set_cons_succ]
  refine wpAnyH_ready (rs := [33]) (by kernel_rfl) (by simp) ?_
  refine AllReadyH.cons rfl (fun K' hK => ?_) AllReadyH.nil
  rw [if_pos (by kernel_rfl)]
  refine op_callV 15 #[errV a k] (by kernel_rfl) (.int .i64 (k : Int)) (CN.out _ hS.1.1.2.2.2) (fun t6 hR33 => hK.out _ _ (⟨⟨⟨hS.1.1.1.kept hR33, hS.1.1.2.1.kept hR33, hS.1.1.2.2.1.kept hR33, bel2 hS.1.1.2.2.2 hR33⟩, hS.1.2.kept hR33⟩, hS.2.1.kept hR33, hS.2.2.kept hR33⟩) (fun hS => ?_))
  simp only [List.getElem_toArray, List.getElem_cons_zero, List.getElem_cons_succ, Act.put, List.setIfInBounds_toArray, List.set_cons_zero, List.set_cons_succ]
  refine wpAnyH_take (i := 38) (v := .bool true) rfl (by kernel_rfl) (by kernel_rfl) (by kernel_rfl) (fun _ _ _ h => h) (.inl ⟨by kernel_rfl, fun w _ => exec_neql4 3 3 (.tmp 136) (.tmp 140) rfl (k : Int) (by kernel_rfl) (by kernel_rfl)⟩) hS ?_
  simp only [List.getElem_toArray, List.getElem_cons_zero, List.getElem_cons_succ, Act.put, List.setIfInBounds_toArray, List.set_cons_zero, List.set_cons_succ]
  refine wpAnyH_take (i := 39) (v := .bool true) rfl (by kernel_rfl) (by kernel_rfl) (by kernel_rfl) (fun _ _ _ h => h) (.inl ⟨by kernel_rfl, fun w _ => by kernel_rfl⟩) hS ?_
  simp only [List.getElem_toArray, List.getElem_cons_zero, List.getElem_cons_succ, Act.put, List.setIfInBounds_toArray, List.set_cons_zero, List.set_cons_succ]
  refine wpAnyH_take (i := 40) (v := .bool true) rfl (by kernel_rfl) (by kernel_rfl) (by kernel_rfl) (fun _ _ _ h => h) (.inl ⟨by kernel_rfl, fun w _ => by kernel_rfl⟩) hS ?_
  simp only [List.getElem_toArray, List.getElem_cons_zero, List.getElem_cons_succ, Act.put, List.setIfInBounds_toArray, List.set_cons_zero, List.set_cons_succ]
  refine wpAnyH_done (by kernel_rfl) ?_ _
  have hbE := hS.1.1.2.2.2
  clear hS
  go_wp2
  go_ret
  exact ⟨rfl, hbE⟩

set_option linter.unusedSimpArgs false in
set_option maxRecDepth 100000 in
set_option maxHeartbeats 16000000 in
theorem abw_six (s : Bool) (b : List Int) (hl : b.length = 16) (f0 f1 f2 f3 : Int) (ad : Option Addr) (cap : Nat) (bs : List Int) (hm : bs.length ≤ 100) (h4 : bs.length = 16) (hcap : bs.length ≤ cap) (hn0 : ad = none → cap = 0) (hby : ∀ j, 0 ≤ bs.getD j 0 ∧ bs.getD j 0 ≤ 255) (a : Nat → Addr) (w : World)
    (hE : Env (.iface 211 (.pointer (some (a 3)))) w) (hErr : Errs 18 a w) (hrow : ∀ j, j < bs.length → ∃ g o, ad = some ⟨g, o, none⟩ ∧ w.cell? ⟨g, o + j, none⟩ = some (.int .u8 (bs.getD j 0))) :
    Calls Tryz.prog 3 #[.agg (adr s b), .slice ad bs.length cap, .agg (arr .u8 [f0, f1, f2, f3])] w fun e w' => e = .returned (.bool true) ∧ Below w.heap.size w w' := by
  obtain ⟨W0, hW0⟩ : ∃ W, W = (w.alloc (.cells (adr s b) 24)).alloc (.cells (arr .u8 [f0, f1, f2, f3]) 26) := ⟨_, rfl⟩
  have hz0 : (w.alloc (.cells (adr s b) 24)).heap.size = w.heap.size + 1 := by simp
  have hb0 : Below w.heap.size w W0 := hW0 ▸ ((Below.refl _ _).alloc (Nat.le_refl _) _).alloc (by simp) _
  have hB0 : Blk W0 w.heap.size 24 (adr s b) := hW0 ▸ (Blk.new w _ _).alloc _
  have hF0 : Blk W0 (w.heap.size + 1) 26 (arr .u8 [f0, f1, f2, f3]) := by
    have := Blk.new (w.alloc (.cells (adr s b) 24)) 26 (arr .u8 [f0, f1, f2, f3])
    rw [hz0, ← hW0] at this
    exact this
  have HW0 := Lib.hid hW0.symm
  have C0 := Lib.hid (alive_any _ W0 (hE.kept hb0))
  have HB0 := Lib.hid hB0
  have HF0 := Lib.hid hF0
  have Hb0 := Lib.hid hb0
  have HL := Lib.hid hl
  have L17 : Hid (17 = (adr s b).size) := Lib.hid (by rw [adr_size, hl])
  have L17y : Hid (17 = (adr false [f0, f1, f2, f3, 0, 0, 0, 0, 0, 0, 0, 0, 0, 0, 0, 0]).size) := Lib.hid rfl
  have CB := Lib.hid (abytesA s b hl)
  have CRB := Lib.hid (rbytesA s b hl)
  have CP := Lib.hid (aputA s b hl)
  have CRP := Lib.hid (rputA s b hl)
  have CS := Lib.hid (six_any b hl)
  have CRY : Hid (∀ w, Calls Tryz.prog 10 #[.agg (adr false [f0, f1, f2, f3, 0, 0, 0, 0, 0, 0, 0, 0, 0, 0, 0, 0])] w fun e w' => ∃ v, e = .returned v ∧ (BytesIn w' w.heap.size v [f0, f1, f2, f3] ∧ Below w.heap.size w w')) := Lib.hid (rbytesA false [f0, f1, f2, f3, 0, 0, 0, 0, 0, 0, 0, 0, 0, 0, 0, 0] rfl)
  have CRt : Hid (∀ w, Calls Tryz.prog 16 #[.agg (adr false [f0, f1, f2, f3, 0, 0, 0, 0, 0, 0, 0, 0, 0, 0, 0, 0])] w fun e w' => e = .returned (.bool true) ∧ Below w.heap.size w w') := Lib.hid fun w => by
    have := refRight_any false [f0, f1, f2, f3, 0, 0, 0, 0, 0, 0, 0, 0, 0, 0, 0, 0] rfl w
    rw [show (false || flat [f0, f1, f2, f3, 0, 0, 0, 0, 0, 0, 0, 0, 0, 0, 0, 0]) = true by simp [flat, nth]] at this
    exact this
  have HBy := Lib.hid hby
  have HEr := Lib.hid hErr
  have HRow := Lib.hid hrow
  obtain ⟨rs, rb, q, k, hrd⟩ : ∃ rs rb q k, readA bs 0 = ((rs, rb), q, k) := ⟨_, _, _, _, rfl⟩
  have HLr : Hid (rb.length = 16) := Lib.hid (by have := readA_len bs 0; rw [hrd] at this; exact this)
  have L17z : Hid (17 = (adr rs rb).size) := Lib.hid (by rw [adr_size, HLr.out])
  have Hk : Hid (k ≤ 18) := Lib.hid (by have := readA_most bs 0; rw [hrd] at this; exact this)
  have HRd := Lib.hid hrd
  have CN : Hid (∀ w', Below w.heap.size w w' → Calls Tryz.prog 15 #[errV a k] w' fun e w2 => e = .returned (.int .i64 (k : Int)) ∧ Below w'.heap.size w' w2) := Lib.hid fun w' hb => by
    have hk := Hk.out
    cases k with
    | zero => exact (num_nil w').mono fun e w2 hh => ⟨hh.1, by rw [← hh.2]; exact Below.refl _ _⟩
    | succ m =>
      rw [errV_some2 a (m + 1) (by omega), Nat.add_sub_cancel]
      refine (num_err a m (by omega) w' (hErr.below hb)).mono fun e w2 hh => ⟨?_, hh.2⟩
      rw [hh.1]
      simp
  have d1 : decide ((bs.length : Int) > 100) = false := decide_eq_false (by omega)
  have d1' : decide ((100 : Int) < (bs.length : Int)) = false := decide_eq_false (by omega)
  have d4 : ((bs.length : Int) != 4) = true := by rw [h4]; rfl
  have d16 : ((bs.length : Int) != 16) = false := by rw [h4]; rfl
  have e16 : ((bs.length : Int) == 16) = true := by rw [h4]; rfl
  have CF : Hid (∀ w', Below w.heap.size w w' → Calls Tryz.prog 14 #[.slice ad bs.length cap] w' fun e w2 => e = .returned (.tuple #[.agg (adr true (pad16 bs)), .nilIface]) ∧ Below w'.heap.size w' w2) := Lib.hid fun w' hb => by
    have := from_16 ad cap bs h4 w' (fun j hj => by
      obtain ⟨g, o, e, hx⟩ := hrow j hj
      exact ⟨g, o, e, cell_kept hx hb⟩)
    rw [h4]
    exact this
  have hpl : (pad16 bs).length = 16 := pad16_length bs (by omega)
  have hbx : bytesA true (pad16 bs) = bs := by
    show (bs ++ List.replicate (16 - bs.length) 0).take 16 = bs
    exact List.take_left' h4
  have CRX : Hid (∀ w, Calls Tryz.prog 10 #[.agg (adr true (pad16 bs))] w fun e w' => ∃ v, e = .returned v ∧ (BytesIn w' w.heap.size v bs ∧ Below w.heap.size w w')) := Lib.hid fun w => by
    have := rbytesA true (pad16 bs) hpl w
    rw [hbx] at this
    exact this
  have CRR : Hid (∀ w, Calls Tryz.prog 16 #[.agg (adr true (pad16 bs))] w fun e w' => e = .returned (.bool true) ∧ Below w.heap.size w w') := Lib.hid fun w => by
    have := refRight_any true (pad16 bs) hpl w
    rw [show (true || flat (pad16 bs)) = true from rfl] at this
    exact this
  have L17x : Hid (17 = (adr true (pad16 bs)).size) := Lib.hid (by rw [adr_size, hpl])
  have H4 := Lib.hid h4
  have hbs0 : 0 < bs.length := by omega
  have HBs : Hid (∀ w', Below w.heap.size w w' → BytesIn w' 0 (.slice ad bs.length cap) bs) := Lib.hid fun w' hb => by
    obtain ⟨g, o, e, _⟩ := hrow 0 hbs0
    refine ⟨g, o, cap, by rw [e], Nat.zero_le _, fun j hj => ?_⟩
    obtain ⟨g', o', e', hx⟩ := hrow j hj
    rw [e] at e'
    cases e'
    exact cell_kept hx hb
  clear h4 hpl hbx hbs0
  clear hW0 hz0 hB0 hF0 hb0 hl hE hby hErr hrow hrd
  go_enter Tryz.func3, Tryz.ntmps3
  go_upto_region 1 with fail
  rw [HW0.out]
  go_wp2_with fail
  refine C0.out.mono ?_
  rintro e w1 ⟨rfl, hb1⟩
  have hS0 : Blk w1.drew (w.heap.size) 24 (adr s b) ∧ Blk w1.drew (w.heap.size + 1) 26 (arr .u8 [f0, f1, f2, f3]) ∧ Below w.heap.size w w1.drew := by
    have hbd := bel2 hb1 (below_drewN w1 1)
    exact ⟨HB0.out.kept hbd, HF0.out.kept hbd, bel2 Hb0.out hbd⟩
  clear hb1
  go_wp2_with fail
  refine wp_region_held_drew (S := fun w' => Blk w' (w.heap.size) 24 (adr s b) ∧ Blk w' (w.heap.size + 1) 26 (arr .u8 [f0, f1, f2, f3]) ∧ Below w.heap.size w w') (by kernel_rfl) hS0 (fun hS => ?_)
  change wpAnyH _ _ _ _ _ 25 #[false, false, false, false, false, false, false, false, false, false, false, false, false, false, false, false, false, false, false, false, false, false, false, false, false] _ _
  refine wpAnyH_take (i := 0) (v := .agg (adr s b)) rfl (by kernel_rfl) (by kernel_rfl) (by kernel_rfl) (fun _ _ _ h => h) (yields_load 24 (.tmp 3) rfl (w.heap.size) (by kernel_rfl) _ _ _ (fun w h => h.1) Tryz.underlying24 rfl 17 Tryz.infoAddr L17.out (by kernel_rfl)) hS ?_
  simp only [List.getElem_toArray, List.getElem_cons_zero, List.getElem_cons_succ, Act.put, List.setIfInBounds_toArray, List.set_cons_zero, List.set_cons_succ]
  refine wpAnyH_take (i := 3) (v := .agg (adr s b)) rfl (by kernel_rfl) (by kernel_rfl) (by kernel_rfl) (fun _ _ _ h => h) (yields_load 24 (.tmp 3) rfl (w.heap.size) (by kernel_rfl) _ _ _ (fun w h => h.1) Tryz.underlying24 rfl 17 Tryz.infoAddr L17.out (by kernel_rfl)) hS ?_
  simp only [List.getElem_toArray, List.getElem_cons_zero, List.getElem_cons_succ, Act.put, List.setIfInBounds_toArray, List.set_cons_zero, List.set_cons_succ]
  refine wpAnyH_ready (rs := [1]) (by kernel_rfl) (by simp) ?_
  refine AllReadyH.cons rfl (fun K' hK => ?_) AllReadyH.nil
  refine step_callE 9 #[.agg (adr s b)] (by kernel_rfl) (by kernel_rfl) (CB.out _) (fun v1 u1 hR1 => hK.out _ _ (⟨hS.1.kept hR1.2, hS.2.1.kept hR1.2, bel2 hS.2.2 hR1.2⟩) (fun hS => ?_))
  simp only [List.getElem_toArray, List.getElem_cons_zero, List.getElem_cons_succ, Act.put, List.setIfInBounds_toArray, List.set_cons_zero, List.set_cons_succ]
  have hz1 := hS0.2.2.size
  have hSn : (fun w' => (Blk w' (w.heap.size) 24 (adr s b) ∧ Blk w' (w.heap.size + 1) 26 (arr .u8 [f0, f1, f2, f3]) ∧ Below w.heap.size w w') ∧ BytesIn w' w.heap.size v1 (bytesA s b)) u1 := ⟨hS, hR1.1.mono hz1⟩
  refine wpAnyH_mono (S' := fun w' => (Blk w' (w.heap.size) 24 (adr s b) ∧ Blk w' (w.heap.size + 1) 26 (arr .u8 [f0, f1, f2, f3]) ∧ Below w.heap.size w w') ∧ BytesIn w' w.heap.size v1 (bytesA s b)) (fun _ h => h.1) _ _ _ _ ?_
  clear hS
  have hS := hSn
  clear hSn
  refine wpAnyH_take (i := 2) (v := .string (strOfNums (bytesA s b))) rfl (by kernel_rfl) (by kernel_rfl) (by kernel_rfl) (fun _ _ _ h => h) (.inl ⟨by kernel_rfl, fun w h => exec_conv2 (.tmp 19) rfl v1 (by kernel_rfl) (bytesA s b) h.2⟩) hS ?_
  simp only [List.getElem_toArray, List.getElem_cons_zero, List.getElem_cons_succ, Act.put, List.setIfInBounds_toArray, List.set_cons_zero, List.set_cons_succ]
  refine wpAnyH_ready (rs := [4]) (by kernel_rfl) (by simp) ?_
  refine AllReadyH.cons rfl (fun K' hK => ?_) AllReadyH.nil
  refine step_callE 10 #[.agg (adr s b)] (by kernel_rfl) (by kernel_rfl) (CRB.out _) (fun v2 u2 hR2 => hK.out _ _ (⟨⟨hS.1.1.kept hR2.2, hS.1.2.1.kept hR2.2, bel2 hS.1.2.2 hR2.2⟩, hS.2.kept hR2.2⟩) (fun hS => ?_))
  simp only [List.getElem_toArray, List.getElem_cons_zero, List.getElem_cons_succ, Act.put, List.setIfInBounds_toArray, List.set_cons_zero, List.set_cons_succ]
  have hz2 := Nat.le_trans hz1 hR1.2.size
  have hSn : (fun w' => ((Blk w' (w.heap.size) 24 (adr s b) ∧ Blk w' (w.heap.size + 1) 26 (arr .u8 [f0, f1, f2, f3]) ∧ Below w.heap.size w w') ∧ BytesIn w' w.heap.size v1 (bytesA s b)) ∧ BytesIn w' w.heap.size v2 (bytesA s b)) u2 := ⟨hS, hR2.1.mono hz2⟩
  refine wpAnyH_mono (S' := fun w' => ((Blk w' (w.heap.size) 24 (adr s b) ∧ Blk w' (w.heap.size + 1) 26 (arr .u8 [f0, f1, f2, f3]) ∧ Below w.heap.size w w') ∧ BytesIn w' w.heap.size v1 (bytesA s b)) ∧ BytesIn w' w.heap.size v2 (bytesA s b)) (fun _ h => h.1) _ _ _ _ ?_
  clear hS
  have hS := hSn
  clear hSn
  refine wpAnyH_take (i := 5) (v := .string (strOfNums (bytesA s b))) rfl (by kernel_rfl) (by kernel_rfl) (by kernel_rfl) (fun _ _ _ h => h) (.inl ⟨by kernel_rfl, fun w h => exec_conv2 (.tmp 22) rfl v2 (by kernel_rfl) (bytesA s b) h.2⟩) hS ?_
  simp only [List.getElem_toArray, List.getElem_cons_zero, List.getElem_cons_succ, Act.put, List.setIfInBounds_toArray, List.set_cons_zero, List.set_cons_succ]
  refine wpAnyH_take (i := 6) (v := .bool false) rfl (by kernel_rfl) (by kernel_rfl) (by kernel_rfl) (fun _ _ _ h => h) (.inl ⟨by kernel_rfl, fun w _ => exec_sneq4 9 9 (.tmp 20) (.tmp 23) rfl (strOfNums (bytesA s b)) (by kernel_rfl) (by kernel_rfl)⟩) hS ?_
  simp only [List.getElem_toArray, List.getElem_cons_zero, List.getElem_cons_succ, Act.put, List.setIfInBounds_toArray, List.set_cons_zero, List.set_cons_succ]
  refine wpAnyH_take (i := 7) (v := .bool false) rfl (by kernel_rfl) (by kernel_rfl) (by kernel_rfl) (fun _ _ _ h => h) (.inl ⟨by kernel_rfl, fun w _ => by kernel_rfl⟩) hS ?_
  simp only [List.getElem_toArray, List.getElem_cons_zero, List.getElem_cons_succ, Act.put, List.setIfInBounds_toArray, List.set_cons_zero, List.set_cons_succ]
  refine wpAnyH_take (i := 8) (v := .agg (adr s b)) rfl (by kernel_rfl) (by kernel_rfl) (by kernel_rfl) (fun _ _ _ h => h) (yields_load 24 (.tmp 3) rfl (w.heap.size) (by kernel_rfl) _ _ _ (fun w h => h.1.1.1) Tryz.underlying24 rfl 17 Tryz.infoAddr L17.out (by kernel_rfl)) hS ?_
  simp only [List.getElem_toArray, List.getElem_cons_zero, List.getElem_cons_succ, Act.put, List.setIfInBounds_toArray, List.set_cons_zero, List.set_cons_succ]
  refine wpAnyH_take (i := 11) (v := .agg (adr s b)) rfl (by kernel_rfl) (by kernel_rfl) (by kernel_rfl) (fun _ _ _ h => h) (yields_load 24 (.tmp 3) rfl (w.heap.size) (by kernel_rfl) _ _ _ (fun w h => h.1.1.1) Tryz.underlying24 rfl 17 Tryz.infoAddr L17.out (by kernel_rfl)) hS ?_
  simp only [List.getElem_toArray, List.getElem_cons_zero, List.getElem_cons_succ, Act.put, List.setIfInBounds_toArray, List.set_cons_zero, List.set_cons_succ]
  refine wpAnyH_ready (rs := [9]) (by kernel_rfl) (by simp) ?_
  refine AllReadyH.cons rfl (fun K' hK => ?_) AllReadyH.nil
  rw [if_pos (by kernel_rfl)]
  refine op_callE 11 #[.agg (adr s b)] (by kernel_rfl) (CP.out _) (fun v3 u3 hR3 => hK.out _ _ (⟨⟨⟨hS.1.1.1.kept hR3.2, hS.1.1.2.1.kept hR3.2, bel2 hS.1.1.2.2 hR3.2⟩, hS.1.2.kept hR3.2⟩, hS.2.kept hR3.2⟩) (fun hS => ?_))
  simp only [List.getElem_toArray, List.getElem_cons_zero, List.getElem_cons_succ, Act.put, List.setIfInBounds_toArray, List.set_cons_zero, List.set_cons_succ]
  have hz3 := Nat.le_trans hz2 hR2.2.size
  have hSn : (fun w' => (((Blk w' (w.heap.size) 24 (adr s b) ∧ Blk w' (w.heap.size + 1) 26 (arr .u8 [f0, f1, f2, f3]) ∧ Below w.heap.size w w') ∧ BytesIn w' w.heap.size v1 (bytesA s b)) ∧ BytesIn w' w.heap.size v2 (bytesA s b)) ∧ BytesIn w' w.heap.size v3 (putA s b)) u3 := ⟨hS, hR3.1.mono hz3⟩
  refine wpAnyH_mono (S' := fun w' => (((Blk w' (w.heap.size) 24 (adr s b) ∧ Blk w' (w.heap.size + 1) 26 (arr .u8 [f0, f1, f2, f3]) ∧ Below w.heap.size w w') ∧ BytesIn w' w.heap.size v1 (bytesA s b)) ∧ BytesIn w' w.heap.size v2 (bytesA s b)) ∧ BytesIn w' w.heap.size v3 (putA s b)) (fun _ h => h.1) _ _ _ _ ?_
  clear hS
  have hS := hSn
  clear hSn
  refine wpAnyH_take (i := 10) (v := .string (strOfNums (putA s b))) rfl (by kernel_rfl) (by kernel_rfl) (by kernel_rfl) (fun _ _ _ h => h) (.inl ⟨by kernel_rfl, fun w h => exec_conv2 (.tmp 27) rfl v3 (by kernel_rfl) (putA s b) h.2⟩) hS ?_
  simp only [List.getElem_toArray, List.getElem_cons_zero, List.getElem_cons_succ, Act.put, List.setIfInBounds_toArray, List.set_cons_zero, List.set_cons_succ]
  refine wpAnyH_ready (rs := [12]) (by kernel_rfl) (by simp) ?_
  refine AllReadyH.cons rfl (fun K' hK => ?_) AllReadyH.nil
  rw [if_pos (by kernel_rfl)]
  refine op_callE 12 #[.agg (adr s b)] (by kernel_rfl) (CRP.out _) (fun v4 u4 hR4 => hK.out _ _ (⟨⟨⟨⟨hS.1.1.1.1.kept hR4.2, hS.1.1.1.2.1.kept hR4.2, bel2 hS.1.1.1.2.2 hR4.2⟩, hS.1.1.2.kept hR4.2⟩, hS.1.2.kept hR4.2⟩, hS.2.kept hR4.2⟩) (fun hS => ?_))
  simp only [List.getElem_toArray, List.getElem_cons_zero, List.getElem_cons_succ, Act.put, List.setIfInBounds_toArray, List.set_cons_zero, List.set_cons_succ]
  have hz4 := Nat.le_trans hz3 hR3.2.size
  have hSn : (fun w' => ((((Blk w' (w.heap.size) 24 (adr s b) ∧ Blk w' (w.heap.size + 1) 26 (arr .u8 [f0, f1, f2, f3]) ∧ Below w.heap.size w w') ∧ BytesIn w' w.heap.size v1 (bytesA s b)) ∧ BytesIn w' w.heap.size v2 (bytesA s b)) ∧ BytesIn w' w.heap.size v3 (putA s b)) ∧ BytesIn w' w.heap.size v4 (putA s b)) u4 := ⟨hS, hR4.1.mono hz4⟩
  refine wpAnyH_mono (S' := fun w' => ((((Blk w' (w.heap.size) 24 (adr s b) ∧ Blk w' (w.heap.size + 1) 26 (arr .u8 [f0, f1, f2, f3]) ∧ Below w.heap.size w w') ∧ BytesIn w' w.heap.size v1 (bytesA s b)) ∧ BytesIn w' w.heap.size v2 (bytesA s b)) ∧ BytesIn w' w.heap.size v3 (putA s b)) ∧ BytesIn w' w.heap.size v4 (putA s b)) (fun _ h => h.1) _ _ _ _ ?_
  clear hS
  have hS := hSn
  clear hSn
  refine wpAnyH_take (i := 13) (v := .string (strOfNums (putA s b))) rfl (by kernel_rfl) (by kernel_rfl) (by kernel_rfl) (fun _ _ _ h => h) (.inl ⟨by kernel_rfl, fun w h => exec_conv2 (.tmp 30) rfl v4 (by kernel_rfl) (putA s b) h.2⟩) hS ?_
  simp only [List.getElem_toArray, List.getElem_cons_zero, List.getElem_cons_succ, Act.put, List.setIfInBounds_toArray, List.set_cons_zero, List.set_cons_succ]
  refine wpAnyH_take (i := 14) (v := .bool false) rfl (by kernel_rfl) (by kernel_rfl) (by kernel_rfl) (fun _ _ _ h => h) (.inl ⟨by kernel_rfl, fun w _ => exec_sneq4 9 9 (.tmp 28) (.tmp 31) rfl (strOfNums (putA s b)) (by kernel_rfl) (by kernel_rfl)⟩) hS ?_
  simp only [List.getElem_toArray, List.getElem_cons_zero, List.getElem_cons_succ, Act.put, List.setIfInBounds_toArray, List.set_cons_zero, List.set_cons_succ]
  refine wpAnyH_take (i := 15) (v := .bool false) rfl (by kernel_rfl) (by kernel_rfl) (by kernel_rfl) (fun _ _ _ h => h) (.inl ⟨by kernel_rfl, fun w _ => by kernel_rfl⟩) hS ?_
  simp only [List.getElem_toArray, List.getElem_cons_zero, List.getElem_cons_succ, Act.put, List.setIfInBounds_toArray, List.set_cons_zero, List.set_cons_succ]
  refine wpAnyH_take (i := 16) (v := .bool false) rfl (by kernel_rfl) (by kernel_rfl) (by kernel_rfl) (fun _ _ _ h => h) (.inl ⟨by kernel_rfl, fun w _ => by kernel_rfl⟩) hS ?_
  simp only [List.getElem_toArray, List.getElem_cons_zero, List.getElem_cons_succ, Act.put, List.setIfInBounds_toArray, List.set_cons_zero, List.set_cons_succ]
  refine wpAnyH_take (i := 17) (v := .pointer (some ⟨w.heap.size, 1, none⟩)) rfl (by kernel_rfl) (by kernel_rfl) (by kernel_rfl) (fun _ _ _ h => h) (.inl ⟨by kernel_rfl, fun w _ => by kernel_rfl⟩) hS ?_
  simp only [List.getElem_toArray, List.getElem_cons_zero, List.getElem_cons_succ, Act.put, List.setIfInBounds_toArray, List.set_cons_zero, List.set_cons_succ]
  refine wpAnyH_take (i := 18) (v := .agg (arr .u8 b)) rfl (by kernel_rfl) (by kernel_rfl) (by kernel_rfl) (fun _ _ _ h => h) (yields_arr (.tmp 35) rfl (w.heap.size) (by kernel_rfl) s b (fun w h => h.1.1.1.1.1) HL.out (by kernel_rfl)) hS ?_
  simp only [List.getElem_toArray, List.getElem_cons_zero, List.getElem_cons_succ, Act.put, List.setIfInBounds_toArray, List.set_cons_zero, List.set_cons_succ]
  refine wpAnyH_take (i := 20) (v := .pointer (some ⟨w.heap.size, 1, none⟩)) rfl (by kernel_rfl) (by kernel_rfl) (by kernel_rfl) (fun _ _ _ h => h) (.inl ⟨by kernel_rfl, fun w _ => by kernel_rfl⟩) hS ?_
  simp only [List.getElem_toArray, List.getElem_cons_zero, List.getElem_cons_succ, Act.put, List.setIfInBounds_toArray, List.set_cons_zero, List.set_cons_succ]
  refine wpAnyH_take (i := 21) (v := .agg (arr .u8 b)) rfl (by kernel_rfl) (by kernel_rfl) (by kernel_rfl) (fun _ _ _ h => h) (yields_arr (.tmp 38) rfl (w.heap.size) (by kernel_rfl) s b (fun w h => h.1.1.1.1.1) HL.out (by kernel_rfl)) hS ?_
  simp only [List.getElem_toArray, List.getElem_cons_zero, List.getElem_cons_succ, Act.put, List.setIfInBounds_toArray, List.set_cons_zero, List.set_cons_succ]
  refine wpAnyH_take (i := 22) (v := .agg (adr true b)) rfl (by kernel_rfl) (by kernel_rfl) (by kernel_rfl) (fun _ _ _ h => h) (.inl ⟨by kernel_rfl, fun w _ => exec_build_six (.const (.bool true)) (.tmp 39) rfl b HL.out (by kernel_rfl) (by kernel_rfl) w⟩) hS ?_
  simp only [List.getElem_toArray, List.getElem_cons_zero, List.getElem_cons_succ, Act.put, List.setIfInBounds_toArray, List.set_cons_zero, List.set_cons_succ]
  refine wpAnyH_ready (rs := [19]) (by kernel_rfl) (by simp) ?_
  refine AllReadyH.cons rfl (fun K' hK => ?_) AllReadyH.nil
  rw [if_pos (by kernel_rfl)]
  refine op_callV 13 #[.agg (arr .u8 b)] (by kernel_rfl) (.agg (adr true b)) (CS.out _) (fun u5 hR5 => hK.out _ _ (⟨⟨⟨⟨⟨hS.1.1.1.1.1.kept hR5, hS.1.1.1.1.2.1.kept hR5, bel2 hS.1.1.1.1.2.2 hR5⟩, hS.1.1.1.2.kept hR5⟩, hS.1.1.2.kept hR5⟩, hS.1.2.kept hR5⟩, hS.2.kept hR5⟩) (fun hS => ?_))
  simp only [List.getElem_toArray, List.getElem_cons_zero, List.getElem_cons_succ, Act.put, List.setIfInBounds_toArray, List.set_cons_zero, List.set_cons_succ]
  refine wpAnyH_take (i := 23) (v := .bool false) rfl (by kernel_rfl) (by kernel_rfl) (by kernel_rfl) (fun _ _ _ h => h) (.inl ⟨by kernel_rfl, fun w _ => exec_neq_adr (.tmp 37) (.tmp 40) rfl true b HL.out (by kernel_rfl) (by kernel_rfl) w⟩) hS ?_
  simp only [List.getElem_toArray, List.getElem_cons_zero, List.getElem_cons_succ, Act.put, List.setIfInBounds_toArray, List.set_cons_zero, List.set_cons_succ]
  refine wpAnyH_take (i := 24) (v := .bool false) rfl (by kernel_rfl) (by kernel_rfl) (by kernel_rfl) (fun _ _ _ h => h) (.inl ⟨by kernel_rfl, fun w _ => by kernel_rfl⟩) hS ?_
  simp only [List.getElem_toArray, List.getElem_cons_zero, List.getElem_cons_succ, Act.put, List.setIfInBounds_toArray, List.set_cons_zero, List.set_cons_succ]
  refine wpAnyH_done (by kernel_rfl) ?_ _
  have HS := Lib.hid hS.1.1.1.1
  clear hS hR1 hR2 hR3 hR4 hR5 hz1 hz2 hz3 hz4
  go_wp2_with fail
  refine (CF.out u5 HS.out.2.2).mono ?_
  rintro e w5 ⟨rfl, hb5⟩
  have HS5 : Hid (Blk w5 (w.heap.size + 1) 26 (arr .u8 [f0, f1, f2, f3]) ∧ Below w.heap.size w w5) := Lib.hid ⟨HS.out.2.1.kept hb5, bel2 HS.out.2.2 hb5⟩
  clear hb5
  obtain ⟨W6, hW6⟩ : ∃ W, W = w5.alloc (.cells (adr false z16) 24) := ⟨_, rfl⟩
  have hBW6 : Blk W6 w5.heap.size 24 (adr false z16) := hW6 ▸ Blk.new w5 _ _
  have hbW6 : Below w5.heap.size w5 W6 := hW6 ▸ (Below.refl _ _).alloc (Nat.le_refl _) _
  have HW6 : Hid (w5.alloc (.cells #[.bool false, .int .u8 0, .int .u8 0, .int .u8 0, .int .u8 0, .int .u8 0, .int .u8 0, .int .u8 0, .int .u8 0, .int .u8 0, .int .u8 0, .int .u8 0, .int .u8 0, .int .u8 0, .int .u8 0, .int .u8 0, .int .u8 0] 24) = W6) := Lib.hid hW6.symm
  have HBW6 := Lib.hid hBW6
  obtain ⟨V6, hV6⟩ : ∃ V, V = W6.setRow w5.heap.size (adr true (pad16 bs)) := ⟨_, rfl⟩
  have HV6 := Lib.hid hV6.symm
  have hblV6 : Below w5.heap.size w5 V6 := hV6 ▸ below_setRow hbW6 (Nat.le_refl _) _
  have HNV6 : Hid (Blk V6 w5.heap.size 24 (adr true (pad16 bs))) := Lib.hid (hV6 ▸ hBW6.row _)
  clear hW6 hBW6 hbW6 hV6
  have HS6 : Hid (Blk V6 (w.heap.size + 1) 26 (arr .u8 [f0, f1, f2, f3]) ∧ Below w.heap.size w V6) := Lib.hid ⟨HS5.out.1.kept hblV6, bel2 HS5.out.2 hblV6⟩
  clear hblV6
  have hS0 : Blk V6.drew w5.heap.size 24 (adr true (pad16 bs)) ∧ Blk V6.drew (w.heap.size + 1) 26 (arr .u8 [f0, f1, f2, f3]) ∧ Below w.heap.size w V6.drew := ⟨HNV6.out.kept (below_drewN V6 1), HS6.out.1.kept (below_drewN V6 1), bel2 HS6.out.2 (below_drewN V6 1)⟩
  go_wp2_with ((try rw [HW6.out]); refine wpl_store 24 _ _ rfl w5.heap.size (adr true (pad16 bs)) rfl rfl _ _ HBW6.out 17 Tryz.infoAddr L17x.out rfl (adr_one _ _) rfl ?_; rw [HV6.out])
  refine wp_region_held_drew (S := fun w' => Blk w' w5.heap.size 24 (adr true (pad16 bs)) ∧ Blk w' (w.heap.size + 1) 26 (arr .u8 [f0, f1, f2, f3]) ∧ Below w.heap.size w w') (by kernel_rfl) hS0 (fun hS => ?_)
  change wpAnyH _ _ _ _ _ 23 #[false, false, false, false, false, false, false, false, false, false, false, false, false, false, false, false, false, false, false, false, false, false, false] _ _
  refine wpAnyH_take (i := 0) (v := .nilIface) rfl (by kernel_rfl) (by kernel_rfl) (by kernel_rfl) (fun _ _ _ h => h) (.inl ⟨by kernel_rfl, fun w _ => by kernel_rfl⟩) hS ?_
  simp only [List.getElem_toArray, List.getElem_cons_zero, List.getElem_cons_succ, Act.put, List.setIfInBounds_toArray, List.set_cons_zero, List.set_cons_succ]
  refine wpAnyH_take (i := 1) (v := .bool false) rfl (by kernel_rfl) (by kernel_rfl) (by kernel_rfl) (fun _ _ _ h => h) (.inl ⟨by kernel_rfl, fun w _ => by kernel_rfl⟩) hS ?_
  simp only [List.getElem_toArray, List.getElem_cons_zero, List.getElem_cons_succ, Act.put, List.setIfInBounds_toArray, List.set_cons_zero, List.set_cons_succ]
  refine wpAnyH_take (i := 2) (v := .bool false) rfl (by kernel_rfl) (by kernel_rfl) (by kernel_rfl) (fun _ _ _ h => h) (.inl ⟨by kernel_rfl, fun w _ => by kernel_rfl⟩) hS ?_
  simp only [List.getElem_toArray, List.getElem_cons_zero, List.getElem_cons_succ, Act.put, List.setIfInBounds_toArray, List.set_cons_zero, List.set_cons_succ]
  refine wpAnyH_take (i := 3) (v := .pointer (some ⟨w5.heap.size, 0, none⟩)) rfl (by kernel_rfl) (by kernel_rfl) (by kernel_rfl) (fun _ _ _ h => h) (.inl ⟨by kernel_rfl, fun w _ => by kernel_rfl⟩) hS ?_
  simp only [List.getElem_toArray, List.getElem_cons_zero, List.getElem_cons_succ, Act.put, List.setIfInBounds_toArray, List.set_cons_zero, List.set_cons_succ]
  refine wpAnyH_take (i := 4) (v := .bool true) rfl (by kernel_rfl) (by kernel_rfl) (by kernel_rfl) (fun _ _ _ h => h) (yields_bool (.tmp 67) rfl w5.heap.size (by kernel_rfl) true (fun w h => by rw [h.1.cell]; rfl) (by kernel_rfl)) hS ?_
  simp only [List.getElem_toArray, List.getElem_cons_zero, List.getElem_cons_succ, Act.put, List.setIfInBounds_toArray, List.set_cons_zero, List.set_cons_succ]
  refine wpAnyH_take (i := 5) (v := .slice ad bs.length cap) rfl (by kernel_rfl) (by kernel_rfl) (by kernel_rfl) (fun _ _ _ h => h) (.inl ⟨by kernel_rfl, fun w _ => by kernel_rfl⟩) hS ?_
  simp only [List.getElem_toArray, List.getElem_cons_zero, List.getElem_cons_succ, Act.put, List.setIfInBounds_toArray, List.set_cons_zero, List.set_cons_succ]
  refine wpAnyH_take (i := 6) (v := .int .i64 (bs.length : Int)) rfl (by kernel_rfl) (by kernel_rfl) (by kernel_rfl) (fun _ _ _ h => h) (.inl ⟨by kernel_rfl, fun w _ => by kernel_rfl⟩) hS ?_
  simp only [List.getElem_toArray, List.getElem_cons_zero, List.getElem_cons_succ, Act.put, List.setIfInBounds_toArray, List.set_cons_zero, List.set_cons_succ]
  refine wpAnyH_take (i := 7) (v := .bool true) rfl (by kernel_rfl) (by kernel_rfl) (by kernel_rfl) (fun _ _ _ h => h) (.inl ⟨by kernel_rfl, fun w _ => exec_ieql 3 3 (.tmp 70) (.const (.int .i64 16)) rfl _ _ (by kernel_rfl) (by kernel_rfl) _ e16⟩) hS ?_
  simp only [List.getElem_toArray, List.getElem_cons_zero, List.getElem_cons_succ, Act.put, List.setIfInBounds_toArray, List.set_cons_zero, List.set_cons_succ]
  refine wpAnyH_take (i := 8) (v := .bool false) rfl (by kernel_rfl) (by kernel_rfl) (by kernel_rfl) (fun _ _ _ h => h) (.inl ⟨by kernel_rfl, fun w _ => by kernel_rfl⟩) hS ?_
  simp only [List.getElem_toArray, List.getElem_cons_zero, List.getElem_cons_succ, Act.put, List.setIfInBounds_toArray, List.set_cons_zero, List.set_cons_succ]
  refine wpAnyH_take (i := 9) (v := .bool false) rfl (by kernel_rfl) (by kernel_rfl) (by kernel_rfl) (fun _ _ _ h => h) (.inl ⟨by kernel_rfl, fun w _ => by kernel_rfl⟩) hS ?_
  simp only [List.getElem_toArray, List.getElem_cons_zero, List.getElem_cons_succ, Act.put, List.setIfInBounds_toArray, List.set_cons_zero, List.set_cons_succ]
  refine wpAnyH_take (i := 10) (v := .bool false) rfl (by kernel_rfl) (by kernel_rfl) (by kernel_rfl) (fun _ _ _ h => h) (.inl ⟨by kernel_rfl, fun w _ => by kernel_rfl⟩) hS ?_
  simp only [List.getElem_toArray, List.getElem_cons_zero, List.getElem_cons_succ, Act.put, List.setIfInBounds_toArray, List.set_cons_zero, List.set_cons_succ]
  refine wpAnyH_take (i := 11) (v := .agg (adr true (pad16 bs))) rfl (by kernel_rfl) (by kernel_rfl) (by kernel_rfl) (fun _ _ _ h => h) (yields_load 24 (.tmp 7) rfl (w5.heap.size) (by kernel_rfl) _ _ _ (fun w h => h.1) Tryz.underlying24 rfl 17 Tryz.infoAddr L17x.out (by kernel_rfl)) hS ?_
  simp only [List.getElem_toArray, List.getElem_cons_zero, List.getElem_cons_succ, Act.put, List.setIfInBounds_toArray, List.set_cons_zero, List.set_cons_succ]
  refine wpAnyH_take (i := 14) (v := .slice ad bs.length cap) rfl (by kernel_rfl) (by kernel_rfl) (by kernel_rfl) (fun _ _ _ h => h) (.inl ⟨by kernel_rfl, fun w _ => by kernel_rfl⟩) hS ?_
  simp only [List.getElem_toArray, List.getElem_cons_zero, List.getElem_cons_succ, Act.put, List.setIfInBounds_toArray, List.set_cons_zero, List.set_cons_succ]
  refine wpAnyH_take (i := 15) (v := .string (strOfNums bs)) rfl (by kernel_rfl) (by kernel_rfl) (by kernel_rfl) (fun _ _ _ h => h) (.inl ⟨by kernel_rfl, fun w h => exec_conv2 (.tmp 78) rfl _ (by kernel_rfl) bs (HBs.out _ h.2.2)⟩) hS ?_
  simp only [List.getElem_toArray, List.getElem_cons_zero, List.getElem_cons_succ, Act.put, List.setIfInBounds_toArray, List.set_cons_zero, List.set_cons_succ]
  refine wpAnyH_ready (rs := [12]) (by kernel_rfl) (by simp) ?_
  refine AllReadyH.cons rfl (fun K' hK => ?_) AllReadyH.nil
  rw [if_pos (by kernel_rfl)]
  refine op_callE 10 #[.agg (adr true (pad16 bs))] (by kernel_rfl) (CRX.out _) (fun v7 u7 hR7 => hK.out _ _ (⟨hS.1.kept hR7.2, hS.2.1.kept hR7.2, bel2 hS.2.2 hR7.2⟩) (fun hS => ?_))
  simp only [List.getElem_toArray, List.getElem_cons_zero, List.getElem_cons_succ, Act.put, List.setIfInBounds_toArray, List.set_cons_zero, List.set_cons_succ]
  have hSn : (fun w' => (Blk w' w5.heap.size 24 (adr true (pad16 bs)) ∧ Blk w' (w.heap.size + 1) 26 (arr .u8 [f0, f1, f2, f3]) ∧ Below w.heap.size w w') ∧ BytesIn w' V6.drew.heap.size v7 bs) u7 := ⟨hS, hR7.1⟩
  refine wpAnyH_mono (S' := fun w' => (Blk w' w5.heap.size 24 (adr true (pad16 bs)) ∧ Blk w' (w.heap.size + 1) 26 (arr .u8 [f0, f1, f2, f3]) ∧ Below w.heap.size w w') ∧ BytesIn w' V6.drew.heap.size v7 bs) (fun _ h => h.1) _ _ _ _ ?_
  clear hS
  have hS := hSn
  clear hSn
  refine wpAnyH_take (i := 13) (v := .string (strOfNums bs)) rfl (by kernel_rfl) (by kernel_rfl) (by kernel_rfl) (fun _ _ _ h => h) (.inl ⟨by kernel_rfl, fun w h => exec_conv2 (.tmp 76) rfl v7 (by kernel_rfl) bs h.2⟩) hS ?_
  simp only [List.getElem_toArray, List.getElem_cons_zero, List.getElem_cons_succ, Act.put, List.setIfInBounds_toArray, List.set_cons_zero, List.set_cons_succ]
  refine wpAnyH_take (i := 16) (v := .bool false) rfl (by kernel_rfl) (by kernel_rfl) (by kernel_rfl) (fun _ _ _ h => h) (.inl ⟨by kernel_rfl, fun w _ => exec_sneq4 9 9 (.tmp 77) (.tmp 79) rfl (strOfNums bs) (by kernel_rfl) (by kernel_rfl)⟩) hS ?_
  simp only [List.getElem_toArray, List.getElem_cons_zero, List.getElem_cons_succ, Act.put, List.setIfInBounds_toArray, List.set_cons_zero, List.set_cons_succ]
  refine wpAnyH_take (i := 17) (v := .bool false) rfl (by kernel_rfl) (by kernel_rfl) (by kernel_rfl) (fun _ _ _ h => h) (.inl ⟨by kernel_rfl, fun w _ => by kernel_rfl⟩) hS ?_
  simp only [List.getElem_toArray, List.getElem_cons_zero, List.getElem_cons_succ, Act.put, List.setIfInBounds_toArray, List.set_cons_zero, List.set_cons_succ]
  refine wpAnyH_take (i := 18) (v := .bool false) rfl (by kernel_rfl) (by kernel_rfl) (by kernel_rfl) (fun _ _ _ h => h) (.inl ⟨by kernel_rfl, fun w _ => by kernel_rfl⟩) hS ?_
  simp only [List.getElem_toArray, List.getElem_cons_zero, List.getElem_cons_succ, Act.put, List.setIfInBounds_toArray, List.set_cons_zero, List.set_cons_succ]
  refine wpAnyH_take (i := 19) (v := .agg (adr true (pad16 bs))) rfl (by kernel_rfl) (by kernel_rfl) (by kernel_rfl) (fun _ _ _ h => h) (yields_load 24 (.tmp 7) rfl (w5.heap.size) (by kernel_rfl) _ _ _ (fun w h => h.1.1) Tryz.underlying24 rfl 17 Tryz.infoAddr L17x.out (by kernel_rfl)) hS ?_
  simp only [List.getElem_toArray, List.getElem_cons_zero, List.getElem_cons_succ, Act.put, List.setIfInBounds_toArray, List.set_cons_zero, List.set_cons_succ]
  refine wpAnyH_ready (rs := [20]) (by kernel_rfl) (by simp) ?_
  refine AllReadyH.cons rfl (fun K' hK => ?_) AllReadyH.nil
  rw [if_pos (by kernel_rfl)]
  refine op_callV 16 #[.agg (adr true (pad16 bs))] (by kernel_rfl) (.bool true) (CRR.out _) (fun u8 hR8 => hK.out _ _ (⟨⟨hS.1.1.kept hR8, hS.1.2.1.kept hR8, bel2 hS.1.2.2 hR8⟩, hS.2.kept hR8⟩) (fun hS => ?_))
  simp only [List.getElem_toArray, List.getElem_cons_zero, List.getElem_cons_succ, Act.put, List.setIfInBounds_toArray, List.set_cons_zero, List.set_cons_succ]
  refine wpAnyH_take (i := 21) (v := .bool false) rfl (by kernel_rfl) (by kernel_rfl) (by kernel_rfl) (fun _ _ _ h => h) (.inl ⟨by kernel_rfl, fun w _ => by kernel_rfl⟩) hS ?_
  simp only [List.getElem_toArray, List.getElem_cons_zero, List.getElem_cons_succ, Act.put, List.setIfInBounds_toArray, List.set_cons_zero, List.set_cons_succ]
  refine wpAnyH_take (i := 22) (v := .bool false) rfl (by kernel_rfl) (by kernel_rfl) (by kernel_rfl) (fun _ _ _ h => h) (.inl ⟨by kernel_rfl, fun w _ => by kernel_rfl⟩) hS ?_
  simp only [List.getElem_toArray, List.getElem_cons_zero, List.getElem_cons_succ, Act.put, List.setIfInBounds_toArray, List.set_cons_zero, List.set_cons_succ]
  refine wpAnyH_done (by kernel_rfl) ?_ _
  obtain ⟨w7, hw7⟩ : ∃ w7, w7 = u8 := ⟨_, rfl⟩
  have HS7 : Hid (Blk w7 (w.heap.size + 1) 26 (arr .u8 [f0, f1, f2, f3]) ∧ Below w.heap.size w w7) := Lib.hid (hw7 ▸ ⟨hS.1.2.1, hS.1.2.2⟩)
  subst hw7
  clear hS hR7 hR8 hS0
  have g0 : w7.cell? ⟨w.heap.size + 1, 0, none⟩ = some (.int .u8 f0) := by rw [HS7.out.1.cell]; rfl
  have g1 : w7.cell? ⟨w.heap.size + 1, 1, none⟩ = some (.int .u8 f1) := by rw [HS7.out.1.cell]; rfl
  have g2 : w7.cell? ⟨w.heap.size + 1, 2, none⟩ = some (.int .u8 f2) := by rw [HS7.out.1.cell]; rfl
  have g3 : w7.cell? ⟨w.heap.size + 1, 3, none⟩ = some (.int .u8 f3) := by rw [HS7.out.1.cell]; rfl
  go_wp2_with fail
  refine (four_any f0 f1 f2 f3 w7).mono ?_
  rintro e w8 ⟨rfl, hb8⟩
  have HS8 : Hid (Blk w8 (w.heap.size + 1) 26 (arr .u8 [f0, f1, f2, f3]) ∧ Below w.heap.size w w8) := Lib.hid ⟨HS7.out.1.kept hb8, bel2 HS7.out.2 hb8⟩
  clear hb8 g0 g1 g2 g3
  obtain ⟨y, hy⟩ : ∃ y, y = w8.heap.size := ⟨_, rfl⟩
  obtain ⟨W9, hW9⟩ : ∃ W, W = w8.alloc (.cells (adr false z16) 24) := ⟨_, rfl⟩
  have hBW9 : Blk W9 w8.heap.size 24 (adr false z16) := hW9 ▸ Blk.new w8 _ _
  have hbW9 : Below w8.heap.size w8 W9 := hW9 ▸ (Below.refl _ _).alloc (Nat.le_refl _) _
  have HW9 : Hid (w8.alloc (.cells #[.bool false, .int .u8 0, .int .u8 0, .int .u8 0, .int .u8 0, .int .u8 0, .int .u8 0, .int .u8 0, .int .u8 0, .int .u8 0, .int .u8 0, .int .u8 0, .int .u8 0, .int .u8 0, .int .u8 0, .int .u8 0, .int .u8 0] 24) = W9) := Lib.hid hW9.symm
  have HBW9 := Lib.hid hBW9
  obtain ⟨V9, hV9⟩ : ∃ V, V = W9.setRow w8.heap.size (adr false [f0, f1, f2, f3, 0, 0, 0, 0, 0, 0, 0, 0, 0, 0, 0, 0]) := ⟨_, rfl⟩
  have HV9 := Lib.hid hV9.symm
  have hblV9 : Below w8.heap.size w8 V9 := hV9 ▸ below_setRow hbW9 (Nat.le_refl _) _
  have HNV9 : Hid (Blk V9 w8.heap.size 24 (adr false [f0, f1, f2, f3, 0, 0, 0, 0, 0, 0, 0, 0, 0, 0, 0, 0])) := Lib.hid (hV9 ▸ hBW9.row _)
  clear hW9 hBW9 hbW9 hV9
  rw [← hy] at HNV9
  have hbV9 := bel2 HS8.out.2 hblV9
  have HS9 : Hid (Blk V9 (w.heap.size + 1) 26 (arr .u8 [f0, f1, f2, f3]) ∧ Below w.heap.size w V9) := Lib.hid ⟨HS8.out.1.kept hblV9, hbV9⟩
  have HyL : Hid (y < V9.heap.size) := Lib.hid HNV9.out.lt
  clear hblV9
  have hgl : ∀ j, j < bs.length → ∃ g o, ad = some ⟨g, o, none⟩ ∧ g < w.heap.size ∧ V9.cell? ⟨g, o + j, none⟩ = some (.int .u8 (bs.getD j 0)) := fun j hj => by
    obtain ⟨g, o, e, hx⟩ := HRow.out j hj
    exact ⟨g, o, e, World.block_lt_of_cell? w _ hx, cell_kept hx HS9.out.2⟩
  have hszV := HS9.out.2.size
  have CAt := Lib.hid (at_any V9 V9.heap.size ad cap bs (fun j hj => by
    obtain ⟨g, o, e, hg, hx⟩ := hgl j hj
    exact ⟨g, o, e, by omega, hx⟩) hn0 (by omega) HBy.out)
  have HGl := Lib.hid hgl
  have HY := Lib.hid hy
  clear hgl hbV9 hy
  go_wp2_with ((try rw [HW9.out]); refine wpl_store 24 _ _ rfl w8.heap.size (adr false [f0, f1, f2, f3, 0, 0, 0, 0, 0, 0, 0, 0, 0, 0, 0, 0]) rfl rfl _ _ HBW9.out 17 Tryz.infoAddr rfl rfl (adr_one _ _) rfl ?_; rw [HV9.out])
  refine CAt.out.mono ?_
  rintro e w10 ⟨c1, ad1, cap1, rfl, hC1, hc1, hg1, hb10⟩
  have hsz10 := hb10.size
  obtain ⟨c2, hc2⟩ : ∃ c2, c2 = w10.heap.size := ⟨_, rfl⟩
  obtain ⟨W11, hW11⟩ : ∃ W, W = w10.alloc (.cells #[.slice ad bs.length cap, .int .i64 0, .int .i64 0] 41) := ⟨_, rfl⟩
  have hB11 : Blk W11 c2 41 #[.slice ad bs.length cap, .int .i64 0, .int .i64 0] := hc2 ▸ hW11 ▸ Blk.new w10 _ _
  have hb11 : Below w10.heap.size w10 W11 := hW11 ▸ (Below.refl _ _).alloc (Nat.le_refl _) _
  have hbu : Below V9.heap.size V9 W11 := bel2 hb10 hb11
  have hlt1 := hC1.obj.lt
  have hltG := HS9.out.1.lt
  have hyl := HyL.out
  have HC11 : Hid (Cur W11 79 c1 ad1 cap1 bs 0 .nilIface) := Lib.hid (hC1.kept hb11)
  have HC12 : Hid (Cur W11 41 c2 ad cap bs 0 (.int .i64 0)) := Lib.hid ⟨hB11, fun j hj => by
    obtain ⟨g, o, e, hg, hx⟩ := HGl.out j hj
    exact ⟨g, o, e, by omega, cell_kept (cell_kept hx hb10) hb11⟩, Nat.zero_le _, hcap, by omega, HBy.out⟩
  have HS11 : Hid (Blk W11 y 24 (adr false [f0, f1, f2, f3, 0, 0, 0, 0, 0, 0, 0, 0, 0, 0, 0, 0]) ∧ Blk W11 (w.heap.size + 1) 26 (arr .u8 [f0, f1, f2, f3]) ∧ Below w.heap.size w W11) := Lib.hid ⟨HNV9.out.kept hbu, HS9.out.1.kept hbu, bel2 HS9.out.2 hbu⟩
  have Hy1 : Hid (y ≠ c1) := Lib.hid (by omega)
  have Hy2 : Hid (y ≠ c2) := Lib.hid (by omega)
  have HF1 : Hid (w.heap.size + 1 ≠ c1) := Lib.hid (by omega)
  have HF2 : Hid (w.heap.size + 1 ≠ c2) := Lib.hid (by omega)
  have HGc1 : Hid (w.heap.size ≤ c1) := Lib.hid (by omega)
  have HGc2 : Hid (w.heap.size ≤ c2) := Lib.hid (by omega)
  have Hcc : Hid (c2 ≠ c1) := Lib.hid (by omega)
  have Hcc' : Hid (c1 ≠ c2) := Lib.hid (by omega)
  have Hc2l : Hid (c2 < W11.heap.size) := Lib.hid hB11.lt
  have Hgc1 : Hid (∀ g o, ad = some ⟨g, o, none⟩ → 0 < bs.length → g ≠ c1) := Lib.hid fun g o e h0 => by
    obtain ⟨g', o', e', hg, _⟩ := HGl.out 0 h0
    rw [e] at e'
    cases e'
    omega
  have Hgc2 : Hid (∀ g o, ad1 = some ⟨g, o, none⟩ → 0 < bs.length → g ≠ c2) := Lib.hid fun g o e h0 => by
    obtain ⟨g', o', e', _, hx⟩ := hC1.row 0 h0
    rw [e] at e'
    cases e'
    have := World.block_lt_of_cell? w10 _ hx
    rw [hc2]
    exact Nat.ne_of_lt this
  have CR1 : Hid (Calls Tryz.prog 19 #[.pointer (some ⟨c1, 0, none⟩)] W11 fun e w' => e = .returned (.agg (adr rs rb)) ∧ (Cur w' 79 c1 ad1 cap1 bs q (errV a k) ∧ Keep c1 W11 w')) := Lib.hid (by
    have := aread_any a HC11.out ((HEr.out.below HS11.out.2.2).c)
    rw [HRd.out] at this
    exact this)
  have CR2 : Hid (∀ w', Cur w' 41 c2 ad cap bs 0 (.int .i64 0) → Calls Tryz.prog 20 #[.pointer (some ⟨c2, 0, none⟩)] w' fun e w2 => e = .returned (.agg (adr rs rb)) ∧ (Cur w2 41 c2 ad cap bs q (.int .i64 (k : Int)) ∧ Keep c2 w' w2)) := Lib.hid fun w' hC => by
    have := rread_any hC
    rw [HRd.out] at this
    exact this
  have HW11 : Hid (w10.alloc (.cells #[.slice ad bs.length cap, .int .i64 0, .int .i64 0] 41) = W11) := Lib.hid hW11.symm
  have HC22 := Lib.hid hc2
  clear hC1 hb10 hW11 hB11 hb11 hbu hc1 hg1
  go_upto_region 15 with fail
  rw [HW11.out]
  rw [← HC22.out]
  clear hsz10 hlt1 hszV hltG hc2 hyl
  go_wp2_with fail
  refine CR1.out.mono ?_
  rintro e w12 ⟨rfl, hC1, hK1⟩
  have hC2 := HC12.out.otherA hK1 Hcc.out Hgc1.out
  have hsz12 := hK1.low.size
  obtain ⟨z, hz⟩ : ∃ z, z = w12.heap.size := ⟨_, rfl⟩
  obtain ⟨W13, hW13⟩ : ∃ W, W = w12.alloc (.cells (adr false z16) 24) := ⟨_, rfl⟩
  have hBW13 : Blk W13 w12.heap.size 24 (adr false z16) := hW13 ▸ Blk.new w12 _ _
  have hbW13 : Below w12.heap.size w12 W13 := hW13 ▸ (Below.refl _ _).alloc (Nat.le_refl _) _
  have HW13 : Hid (w12.alloc (.cells #[.bool false, .int .u8 0, .int .u8 0, .int .u8 0, .int .u8 0, .int .u8 0, .int .u8 0, .int .u8 0, .int .u8 0, .int .u8 0, .int .u8 0, .int .u8 0, .int .u8 0, .int .u8 0, .int .u8 0, .int .u8 0, .int .u8 0] 24) = W13) := Lib.hid hW13.symm
  have HBW13 := Lib.hid hBW13
  obtain ⟨V13, hV13⟩ : ∃ V, V = W13.setRow w12.heap.size (adr rs rb) := ⟨_, rfl⟩
  have HV13 := Lib.hid hV13.symm
  have hblV13 : Below w12.heap.size w12 V13 := hV13 ▸ below_setRow hbW13 (Nat.le_refl _) _
  have HNV13 : Hid (Blk V13 w12.heap.size 24 (adr rs rb)) := Lib.hid (hV13 ▸ hBW13.row _)
  clear hW13 hBW13 hbW13 hV13
  rw [← hz] at HNV13
  have hbd : Below w12.heap.size w12 V13.drew := bel2 hblV13 (below_drewN V13 1)
  have HC1 : Hid (Cur V13.drew 79 c1 ad1 cap1 bs q (errV a k)) := Lib.hid (hC1.kept hbd)
  have HC2 : Hid (Cur V13.drew 41 c2 ad cap bs 0 (.int .i64 0)) := Lib.hid (hC2.kept hbd)
  have hS0 : Blk V13.drew y 24 (adr false [f0, f1, f2, f3, 0, 0, 0, 0, 0, 0, 0, 0, 0, 0, 0, 0]) ∧ Blk V13.drew (w.heap.size + 1) 26 (arr .u8 [f0, f1, f2, f3]) ∧ Blk V13.drew z 24 (adr rs rb) ∧ Below w.heap.size w V13.drew := ⟨(hK1.blk HS11.out.1 Hy1.out).kept hbd, (hK1.blk HS11.out.2.1 HF1.out).kept hbd, HNV13.out.kept (below_drewN V13 1), (HS11.out.2.2.trans (hK1.low.mono HGc1.out)).trans (hbd.mono (by have := HS11.out.2.2.size; omega))⟩
  have Hz2 : Hid (z ≠ c2) := Lib.hid (by have := Hc2l.out; omega)
  obtain ⟨B16, hB16⟩ : ∃ B, B = V13.drew.heap.size := ⟨_, rfl⟩
  have HB16 : Hid (c2 < B16) := Lib.hid (by have := Hc2l.out; have := hbd.size; omega)
  have HZ := Lib.hid hz
  clear hC1 hK1 hC2 hbd hblV13 hsz12 hz
  go_wp2_with ((try rw [HW13.out]); refine wpl_store 24 _ _ rfl w12.heap.size (adr rs rb) rfl rfl _ _ HBW13.out 17 Tryz.infoAddr L17z.out rfl (adr_one _ _) rfl ?_; rw [HV13.out])
  rw [← HZ.out, ← HY.out]
  refine wp_region_held_drew (S := fun w' => Blk w' y 24 (adr false [f0, f1, f2, f3, 0, 0, 0, 0, 0, 0, 0, 0, 0, 0, 0, 0]) ∧ Blk w' (w.heap.size + 1) 26 (arr .u8 [f0, f1, f2, f3]) ∧ Blk w' z 24 (adr rs rb) ∧ Below w.heap.size w w') (by kernel_rfl) hS0 (fun hS => ?_)
  change wpAnyH _ _ _ _ _ 41 #[false, false, false, false, false, false, false, false, false, false, false, false, false, false, false, false, false, false, false, false, false, false, false, false, false, false, false, false, false, false, false, false, false, false, false, false, false, false, false, false, false] _ _
  refine wpAnyH_take (i := 0) (v := .pointer (some ⟨y, 0, none⟩)) rfl (by kernel_rfl) (by kernel_rfl) (by kernel_rfl) (fun _ _ _ h => h) (.inl ⟨by kernel_rfl, fun w _ => by kernel_rfl⟩) hS ?_
  simp only [List.getElem_toArray, List.getElem_cons_zero, List.getElem_cons_succ, Act.put, List.setIfInBounds_toArray, List.set_cons_zero, List.set_cons_succ]
  refine wpAnyH_take (i := 1) (v := .bool false) rfl (by kernel_rfl) (by kernel_rfl) (by kernel_rfl) (fun _ _ _ h => h) (yields_bool (.tmp 103) rfl y (by kernel_rfl) false (fun w h => by rw [h.1.cell]; rfl) (by kernel_rfl)) hS ?_
  simp only [List.getElem_toArray, List.getElem_cons_zero, List.getElem_cons_succ, Act.put, List.setIfInBounds_toArray, List.set_cons_zero, List.set_cons_succ]
  refine wpAnyH_take (i := 2) (v := .bool true) rfl (by kernel_rfl) (by kernel_rfl) (by kernel_rfl) (fun _ _ _ h => h) (.inl ⟨by kernel_rfl, fun w _ => by kernel_rfl⟩) hS ?_
  simp only [List.getElem_toArray, List.getElem_cons_zero, List.getElem_cons_succ, Act.put, List.setIfInBounds_toArray, List.set_cons_zero, List.set_cons_succ]
  refine wpAnyH_take (i := 3) (v := .bool true) rfl (by kernel_rfl) (by kernel_rfl) (by kernel_rfl) (fun _ _ _ h => h) (.inl ⟨by kernel_rfl, fun w _ => by kernel_rfl⟩) hS ?_
  simp only [List.getElem_toArray, List.getElem_cons_zero, List.getElem_cons_succ, Act.put, List.setIfInBounds_toArray, List.set_cons_zero, List.set_cons_succ]
  refine wpAnyH_take (i := 4) (v := .agg (adr false [f0, f1, f2, f3, 0, 0, 0, 0, 0, 0, 0, 0, 0, 0, 0, 0])) rfl (by kernel_rfl) (by kernel_rfl) (by kernel_rfl) (fun _ _ _ h => h) (yields_load 24 (.tmp 9) rfl (y) (by kernel_rfl) _ _ _ (fun w h => h.1) Tryz.underlying24 rfl 17 Tryz.infoAddr L17y.out (by kernel_rfl)) hS ?_
  simp only [List.getElem_toArray, List.getElem_cons_zero, List.getElem_cons_succ, Act.put, List.setIfInBounds_toArray, List.set_cons_zero, List.set_cons_succ]
  refine wpAnyH_take (i := 7) (v := .slice (some ⟨w.heap.size + 1, 0, none⟩) 4 4) rfl (by kernel_rfl) (by kernel_rfl) (by kernel_rfl) (fun _ _ _ h => h) (.inl ⟨by kernel_rfl, fun w _ => by kernel_rfl⟩) hS ?_
  simp only [List.getElem_toArray, List.getElem_cons_zero, List.getElem_cons_succ, Act.put, List.setIfInBounds_toArray, List.set_cons_zero, List.set_cons_succ]
  refine wpAnyH_take (i := 8) (v := .string (strOfNums [f0, f1, f2, f3])) rfl (by kernel_rfl) (by kernel_rfl) (by kernel_rfl) (fun _ _ _ h => h) (.inl ⟨by kernel_rfl, fun w' h => exec_conv2 (.tmp 110) rfl _ (by kernel_rfl) [f0, f1, f2, f3] (four_in h.2.1)⟩) hS ?_
  simp only [List.getElem_toArray, List.getElem_cons_zero, List.getElem_cons_succ, Act.put, List.setIfInBounds_toArray, List.set_cons_zero, List.set_cons_succ]
  refine wpAnyH_ready (rs := [5]) (by kernel_rfl) (by simp) ?_
  refine AllReadyH.cons rfl (fun K' hK => ?_) AllReadyH.nil
  rw [if_pos (by kernel_rfl)]
  refine op_callE 10 #[.agg (adr false [f0, f1, f2, f3, 0, 0, 0, 0, 0, 0, 0, 0, 0, 0, 0, 0])] (by kernel_rfl) (CRY.out _) (fun v5 t1 hR5 => hK.out _ _ (⟨hS.1.kept hR5.2, hS.2.1.kept hR5.2, hS.2.2.1.kept hR5.2, bel2 hS.2.2.2 hR5.2⟩) (fun hS => ?_))
  simp only [List.getElem_toArray, List.getElem_cons_zero, List.getElem_cons_succ, Act.put, List.setIfInBounds_toArray, List.set_cons_zero, List.set_cons_succ]
  have hSn : (fun w' => (Blk w' y 24 (adr false [f0, f1, f2, f3, 0, 0, 0, 0, 0, 0, 0, 0, 0, 0, 0, 0]) ∧ Blk w' (w.heap.size + 1) 26 (arr .u8 [f0, f1, f2, f3]) ∧ Blk w' z 24 (adr rs rb) ∧ Below w.heap.size w w') ∧ BytesIn w' B16 v5 [f0, f1, f2, f3]) t1 := ⟨hS, hB16 ▸ hR5.1⟩
  refine wpAnyH_mono (S' := fun w' => (Blk w' y 24 (adr false [f0, f1, f2, f3, 0, 0, 0, 0, 0, 0, 0, 0, 0, 0, 0, 0]) ∧ Blk w' (w.heap.size + 1) 26 (arr .u8 [f0, f1, f2, f3]) ∧ Blk w' z 24 (adr rs rb) ∧ Below w.heap.size w w') ∧ BytesIn w' B16 v5 [f0, f1, f2, f3]) (fun _ h => h.1) _ _ _ _ ?_
  clear hS
  have hS := hSn
  clear hSn
  refine wpAnyH_take (i := 6) (v := .string (strOfNums [f0, f1, f2, f3])) rfl (by kernel_rfl) (by kernel_rfl) (by kernel_rfl) (fun _ _ _ h => h) (.inl ⟨by kernel_rfl, fun w h => exec_conv2 (.tmp 108) rfl v5 (by kernel_rfl) [f0, f1, f2, f3] h.2⟩) hS ?_
  simp only [List.getElem_toArray, List.getElem_cons_zero, List.getElem_cons_succ, Act.put, List.setIfInBounds_toArray, List.set_cons_zero, List.set_cons_succ]
  refine wpAnyH_take (i := 9) (v := .bool true) rfl (by kernel_rfl) (by kernel_rfl) (by kernel_rfl) (fun _ _ _ h => h) (.inl ⟨by kernel_rfl, fun w _ => exec_seql4 9 9 (.tmp 109) (.tmp 111) rfl (strOfNums [f0, f1, f2, f3]) (by kernel_rfl) (by kernel_rfl)⟩) hS ?_
  simp only [List.getElem_toArray, List.getElem_cons_zero, List.getElem_cons_succ, Act.put, List.setIfInBounds_toArray, List.set_cons_zero, List.set_cons_succ]
  refine wpAnyH_take (i := 10) (v := .bool true) rfl (by kernel_rfl) (by kernel_rfl) (by kernel_rfl) (fun _ _ _ h => h) (.inl ⟨by kernel_rfl, fun w _ => by kernel_rfl⟩) hS ?_
  simp only [List.getElem_toArray, List.getElem_cons_zero, List.getElem_cons_succ, Act.put, List.setIfInBounds_toArray, List.set_cons_zero, List.set_cons_succ]
  refine wpAnyH_take (i := 11) (v := .bool true) rfl (by kernel_rfl) (by kernel_rfl) (by kernel_rfl) (fun _ _ _ h => h) (.inl ⟨by kernel_rfl, fun w _ => by kernel_rfl⟩) hS ?_
  simp only [List.getElem_toArray, List.getElem_cons_zero, List.getElem_cons_succ, Act.put, List.setIfInBounds_toArray, List.set_cons_zero, List.set_cons_succ]
  refine wpAnyH_take (i := 12) (v := .agg (adr false [f0, f1, f2, f3, 0, 0, 0, 0, 0, 0, 0, 0, 0, 0, 0, 0])) rfl (by kernel_rfl) (by kernel_rfl) (by kernel_rfl) (fun _ _ _ h => h) (yields_load 24 (.tmp 9) rfl (y) (by kernel_rfl) _ _ _ (fun w h => h.1.1) Tryz.underlying24 rfl 17 Tryz.infoAddr L17y.out (by kernel_rfl)) hS ?_
  simp only [List.getElem_toArray, List.getElem_cons_zero, List.getElem_cons_succ, Act.put, List.setIfInBounds_toArray, List.set_cons_zero, List.set_cons_succ]
  refine wpAnyH_ready (rs := [13]) (by kernel_rfl) (by simp) ?_
  refine AllReadyH.cons rfl (fun K' hK => ?_) AllReadyH.nil
  rw [if_pos (by kernel_rfl)]
  refine op_callV 16 #[.agg (adr false [f0, f1, f2, f3, 0, 0, 0, 0, 0, 0, 0, 0, 0, 0, 0, 0])] (by kernel_rfl) (.bool true) (CRt.out _) (fun t2 hR13 => hK.out _ _ (⟨⟨hS.1.1.kept hR13, hS.1.2.1.kept hR13, hS.1.2.2.1.kept hR13, bel2 hS.1.2.2.2 hR13⟩, hS.2.kept hR13⟩) (fun hS => ?_))
  simp only [List.getElem_toArray, List.getElem_cons_zero, List.getElem_cons_succ, Act.put, List.setIfInBounds_toArray, List.set_cons_zero, List.set_cons_succ]
  refine wpAnyH_take (i := 14) (v := .bool true) rfl (by kernel_rfl) (by kernel_rfl) (by kernel_rfl) (fun _ _ _ h => h) (.inl ⟨by kernel_rfl, fun w _ => by kernel_rfl⟩) hS ?_
  simp only [List.getElem_toArray, List.getElem_cons_zero, List.getElem_cons_succ, Act.put, List.setIfInBounds_toArray, List.set_cons_zero, List.set_cons_succ]
  refine wpAnyH_take (i := 15) (v := .bool true) rfl (by kernel_rfl) (by kernel_rfl) (by kernel_rfl) (fun _ _ _ h => h) (.inl ⟨by kernel_rfl, fun w _ => by kernel_rfl⟩) hS ?_
  simp only [List.getElem_toArray, List.getElem_cons_zero, List.getElem_cons_succ, Act.put, List.setIfInBounds_toArray, List.set_cons_zero, List.set_cons_succ]
  refine wpAnyH_take (i := 16) (v := .agg (adr rs rb)) rfl (by kernel_rfl) (by kernel_rfl) (by kernel_rfl) (fun _ _ _ h => h) (yields_load 24 (.tmp 12) rfl (z) (by kernel_rfl) _ _ _ (fun w h => h.1.2.2.1) Tryz.underlying24 rfl 17 Tryz.infoAddr L17z.out (by kernel_rfl)) hS ?_
  simp only [List.getElem_toArray, List.getElem_cons_zero, List.getElem_cons_succ, Act.put, List.setIfInBounds_toArray, List.set_cons_zero, List.set_cons_succ]
  refine wpAnyH_take (i := 17) (v := .pointer (some ⟨c2, 0, none⟩)) rfl (by kernel_rfl) (by kernel_rfl) (by kernel_rfl) (fun _ _ _ h => h) (.inl ⟨by kernel_rfl, fun w _ => by kernel_rfl⟩) hS ?_
  simp only [List.getElem_toArray, List.getElem_cons_zero, List.getElem_cons_succ, Act.put, List.setIfInBounds_toArray, List.set_cons_zero, List.set_cons_succ]
  have hC2t := (HC2.out.kept hR5.2).kept hR13
  have hC1t := (HC1.out.kept hR5.2).kept hR13
  refine wpAnyH_ready (rs := [18]) (by kernel_rfl) (by simp) ?_
  refine AllReadyH.cons rfl (fun K' hK => ?_) AllReadyH.nil
  rw [if_pos (by kernel_rfl)]
  refine op_callV 20 #[.pointer (some ⟨c2, 0, none⟩)] (by kernel_rfl) (.agg (adr rs rb)) (CR2.out _ hC2t) (fun t3 hR18 => hK.out _ _ (⟨⟨hR18.2.blk hS.1.1 Hy2.out, hR18.2.blk hS.1.2.1 HF2.out, hR18.2.blk hS.1.2.2.1 Hz2.out, hS.1.2.2.2.trans (hR18.2.low.mono HGc2.out)⟩, hS.2.keep hR18.2 HB16.out⟩) (fun hS => ?_))
  simp only [List.getElem_toArray, List.getElem_cons_zero, List.getElem_cons_succ, Act.put, List.setIfInBounds_toArray, List.set_cons_zero, List.set_cons_succ]
  have hSn : (fun w' => ((Blk w' y 24 (adr false [f0, f1, f2, f3, 0, 0, 0, 0, 0, 0, 0, 0, 0, 0, 0, 0]) ∧ Blk w' (w.heap.size + 1) 26 (arr .u8 [f0, f1, f2, f3]) ∧ Blk w' z 24 (adr rs rb) ∧ Below w.heap.size w w') ∧ BytesIn w' B16 v5 [f0, f1, f2, f3]) ∧ Cur w' 79 c1 ad1 cap1 bs q (errV a k) ∧ Cur w' 41 c2 ad cap bs q (.int .i64 (k : Int))) t3 := ⟨hS, hC1t.otherA hR18.2 Hcc'.out Hgc2.out, hR18.1⟩
  refine wpAnyH_mono (S' := fun w' => ((Blk w' y 24 (adr false [f0, f1, f2, f3, 0, 0, 0, 0, 0, 0, 0, 0, 0, 0, 0, 0]) ∧ Blk w' (w.heap.size + 1) 26 (arr .u8 [f0, f1, f2, f3]) ∧ Blk w' z 24 (adr rs rb) ∧ Below w.heap.size w w') ∧ BytesIn w' B16 v5 [f0, f1, f2, f3]) ∧ Cur w' 79 c1 ad1 cap1 bs q (errV a k) ∧ Cur w' 41 c2 ad cap bs q (.int .i64 (k : Int))) (fun _ h => h.1) _ _ _ _ ?_
  clear hS
  have hS := hSn
  clear hSn
  refine wpAnyH_take (i := 19) (v := .bool true) rfl (by kernel_rfl) (by kernel_rfl) (by kernel_rfl) (fun _ _ _ h => h) (.inl ⟨by kernel_rfl, fun w _ => exec_eql_adr (.tmp 119) (.tmp 121) rfl rs rb HLr.out (by kernel_rfl) (by kernel_rfl) w⟩) hS ?_
  simp only [List.getElem_toArray, List.getElem_cons_zero, List.getElem_cons_succ, Act.put, List.setIfInBounds_toArray, List.set_cons_zero, List.set_cons_succ]
  refine wpAnyH_take (i := 20) (v := .bool true) rfl (by kernel_rfl) (by kernel_rfl) (by kernel_rfl) (fun _ _ _ h => h) (.inl ⟨by kernel_rfl, fun w _ => by kernel_rfl⟩) hS ?_
  simp only [List.getElem_toArray, List.getElem_cons_zero, List.getElem_cons_succ, Act.put, List.setIfInBounds_toArray, List.set_cons_zero, List.set_cons_succ]
  refine wpAnyH_take (i := 21) (v := .bool true) rfl (by kernel_rfl) (by kernel_rfl) (by kernel_rfl) (fun _ _ _ h => h) (.inl ⟨by kernel_rfl, fun w _ => by kernel_rfl⟩) hS ?_
  simp only [List.getElem_toArray, List.getElem_cons_zero, List.getElem_cons_succ, Act.put, List.setIfInBounds_toArray, List.set_cons_zero, List.set_cons_succ]
  refine wpAnyH_take (i := 22) (v := .pointer (some ⟨c1, 0, none⟩)) rfl (by kernel_rfl) (by kernel_rfl) (by kernel_rfl) (fun _ _ _ h => h) (.inl ⟨by kernel_rfl, fun w _ => by kernel_rfl⟩) hS ?_
  simp only [List.getElem_toArray, List.getElem_cons_zero, List.getElem_cons_succ, Act.put, List.setIfInBounds_toArray, List.set_cons_zero, List.set_cons_succ]
  refine wpAnyH_take (i := 24) (v := .pointer (some ⟨c2, 0, none⟩)) rfl (by kernel_rfl) (by kernel_rfl) (by kernel_rfl) (fun _ _ _ h => h) (.inl ⟨by kernel_rfl, fun w _ => by kernel_rfl⟩) hS ?_
  simp only [List.getElem_toArray, List.getElem_cons_zero, List.getElem_cons_succ, Act.put, List.setIfInBounds_toArray, List.set_cons_zero, List.set_cons_succ]
  refine wpAnyH_take (i := 25) (v := .pointer (some ⟨c2, 0, none⟩)) rfl (by kernel_rfl) (by kernel_rfl) (by kernel_rfl) (fun _ _ _ h => h) (.inl ⟨by kernel_rfl, fun w _ => by kernel_rfl⟩) hS ?_
  simp only [List.getElem_toArray, List.getElem_cons_zero, List.getElem_cons_succ, Act.put, List.setIfInBounds_toArray, List.set_cons_zero, List.set_cons_succ]
  refine wpAnyH_take (i := 26) (v := .pointer (some ⟨c2, 1, none⟩)) rfl (by kernel_rfl) (by kernel_rfl) (by kernel_rfl) (fun _ _ _ h => h) (.inl ⟨by kernel_rfl, fun w _ => by kernel_rfl⟩) hS ?_
  simp only [List.getElem_toArray, List.getElem_cons_zero, List.getElem_cons_succ, Act.put, List.setIfInBounds_toArray, List.set_cons_zero, List.set_cons_succ]
  refine wpAnyH_take (i := 27) (v := .int .i64 (q : Int)) rfl (by kernel_rfl) (by kernel_rfl) (by kernel_rfl) (fun _ _ _ h => h) (yields_num (.tmp 129) rfl c2 1 (by kernel_rfl) (q : Int) (fun w h => h.2.2.cell1) (by kernel_rfl)) hS ?_
  simp only [List.getElem_toArray, List.getElem_cons_zero, List.getElem_cons_succ, Act.put, List.setIfInBounds_toArray, List.set_cons_zero, List.set_cons_succ]
  refine wpAnyH_ready (rs := [23]) (by kernel_rfl) (by simp) ?_
  refine AllReadyH.cons rfl (fun K' hK => ?_) AllReadyH.nil
  rw [if_pos (by kernel_rfl)]
  refine op_callV 21 #[.pointer (some ⟨c1, 0, none⟩)] (by kernel_rfl) (.int .i64 (q : Int)) (place_any hS.2.1) (fun t4 hR23 => hK.out _ _ (hR23 ▸ hS) (fun hS => ?_))
  simp only [List.getElem_toArray, List.getElem_cons_zero, List.getElem_cons_succ, Act.put, List.setIfInBounds_toArray, List.set_cons_zero, List.set_cons_succ]
  refine wpAnyH_take (i := 28) (v := .bool true) rfl (by kernel_rfl) (by kernel_rfl) (by kernel_rfl) (fun _ _ _ h => h) (.inl ⟨by kernel_rfl, fun w _ => exec_neql4 3 3 (.tmp 126) (.tmp 130) rfl (q : Int) (by kernel_rfl) (by kernel_rfl)⟩) hS ?_
  simp only [List.getElem_toArray, List.getElem_cons_zero, List.getElem_cons_succ, Act.put, List.setIfInBounds_toArray, List.set_cons_zero, List.set_cons_succ]
  refine wpAnyH_take (i := 29) (v := .bool true) rfl (by kernel_rfl) (by kernel_rfl) (by kernel_rfl) (fun _ _ _ h => h) (.inl ⟨by kernel_rfl, fun w _ => by kernel_rfl⟩) hS ?_
  simp only [List.getElem_toArray, List.getElem_cons_zero, List.getElem_cons_succ, Act.put, List.setIfInBounds_toArray, List.set_cons_zero, List.set_cons_succ]
  refine wpAnyH_take (i := 30) (v := .bool true) rfl (by kernel_rfl) (by kernel_rfl) (by kernel_rfl) (fun _ _ _ h => h) (.inl ⟨by kernel_rfl, fun w _ => by kernel_rfl⟩) hS ?_
  simp only [List.getElem_toArray, List.getElem_cons_zero, List.getElem_cons_succ, Act.put, List.setIfInBounds_toArray, List.set_cons_zero, List.set_cons_succ]
  refine wpAnyH_take (i := 31) (v := .pointer (some ⟨c1, 0, none⟩)) rfl (by kernel_rfl) (by kernel_rfl) (by kernel_rfl) (fun _ _ _ h => h) (.inl ⟨by kernel_rfl, fun w _ => by kernel_rfl⟩) hS ?_
  simp only [List.getElem_toArray, List.getElem_cons_zero, List.getElem_cons_succ, Act.put, List.setIfInBounds_toArray, List.set_cons_zero, List.set_cons_succ]
  refine wpAnyH_take (i := 34) (v := .pointer (some ⟨c2, 0, none⟩)) rfl (by kernel_rfl) (by kernel_rfl) (by kernel_rfl) (fun _ _ _ h => h) (.inl ⟨by kernel_rfl, fun w _ => by kernel_rfl⟩) hS ?_
  simp only [List.getElem_toArray, List.getElem_cons_zero, List.getElem_cons_succ, Act.put, List.setIfInBounds_toArray, List.set_cons_zero, List.set_cons_succ]
  refine wpAnyH_take (i := 35) (v := .pointer (some ⟨c2, 0, none⟩)) rfl (by kernel_rfl) (by kernel_rfl) (by kernel_rfl) (fun _ _ _ h => h) (.inl ⟨by kernel_rfl, fun w _ => by kernel_rfl⟩) hS ?_
  simp only [List.getElem_toArray, List.getElem_cons_zero, List.getElem_cons_succ, Act.put, List.setIfInBounds_toArray, List.set_cons_zero, List.set_cons_succ]
  refine wpAnyH_take (i := 36) (v := .pointer (some ⟨c2, 2, none⟩)) rfl (by kernel_rfl) (by kernel_rfl) (by kernel_rfl) (fun _ _ _ h => h) (.inl ⟨by kernel_rfl, fun w _ => by kernel_rfl⟩) hS ?_
  simp only [List.getElem_toArray, List.getElem_cons_zero, List.getElem_cons_succ, Act.put, List.setIfInBounds_toArray, List.set_cons_zero, List.set_cons_succ]
  refine wpAnyH_take (i := 37) (v := .int .i64 (k : Int)) rfl (by kernel_rfl) (by kernel_rfl) (by kernel_rfl) (fun _ _ _ h => h) (yields_num (.tmp 139) rfl c2 2 (by kernel_rfl) (k : Int) (fun w h => h.2.2.cell2) (by kernel_rfl)) hS ?_
  simp only [List.getElem_toArray, List.getElem_cons_zero, List.getElem_cons_succ, Act.put, List.setIfInBounds_toArray, List.set_cons_zero, List.set_cons_succ]
  refine wpAnyH_ready (rs := [32]) (by kernel_rfl) (by simp) ?_
  refine AllReadyH.cons rfl (fun K' hK => ?_) AllReadyH.nil
  rw [if_pos (by kernel_rfl)]
  refine op_callV 22 #[.pointer (some ⟨c1, 0, none⟩)] (by kernel_rfl) (errV a k) (err_any hS.2.1) (fun t5 hR32 => hK.out _ _ (hR32 ▸ hS) (fun hS => ?_))
  simp only [List.getElem_toArray, List.getElem_cons_zero, List.getElem_cons_succ, Act.put, List.setIfInBounds_toArray, List.set_cons_zero, List.set_cons_succ]
  refine wpAnyH_ready (rs := [33]) (by kernel_rfl) (by simp) ?_
  refine AllReadyH.cons rfl (fun K' hK => ?_) AllReadyH.nil
  rw [if_pos (by kernel_rfl)]
  refine op_callV 15 #[errV a k] (by kernel_rfl) (.int .i64 (k : Int)) (CN.out _ hS.1.1.2.2.2) (fun t6 hR33 => hK.out _ _ (⟨⟨⟨hS.1.1.1.kept hR33, hS.1.1.2.1.kept hR33, hS.1.1.2.2.1.kept hR33, bel2 hS.1.1.2.2.2 hR33⟩, hS.1.2.kept hR33⟩, hS.2.1.kept hR33, hS.2.2.kept hR33⟩) (fun hS => ?_))
  simp only [List.getElem_toArray, List.getElem_cons_zero, List.getElem_cons_succ, Act.put, List.setIfInBounds_toArray, List.set_cons_zero, List.set_cons_succ]
  refine wpAnyH_take (i := 38) (v := .bool true) rfl (by kernel_rfl) (by kernel_rfl) (by kernel_rfl) (fun _ _ _ h => h) (.inl ⟨by kernel_rfl, fun w _ => exec_neql4 3 3 (.tmp 136) (.tmp 140) rfl (k : Int) (by kernel_rfl) (by kernel_rfl)⟩) hS ?_
  simp only [List.getElem_toArray, List.getElem_cons_zero, List.getElem_cons_succ, Act.put, List.setIfInBounds_toArray, List.set_cons_zero, List.set_cons_succ]
  refine wpAnyH_take (i := 39) (v := .bool true) rfl (by kernel_rfl) (by kernel_rfl) (by kernel_rfl) (fun _ _ _ h => h) (.inl ⟨by kernel_rfl, fun w _ => by kernel_rfl⟩) hS ?_
  simp only [List.getElem_toArray, List.getElem_cons_zero, List.getElem_cons_succ, Act.put, List.setIfInBounds_toArray, List.set_cons_zero, List.set_cons_succ]
  refine wpAnyH_take (i := 40) (v := .bool true) rfl (by kernel_rfl) (by kernel_rfl) (by kernel_rfl) (fun _ _ _ h => h) (.inl ⟨by kernel_rfl, fun w _ => by kernel_rfl⟩) hS ?_
  simp only [List.getElem_toArray, List.getElem_cons_zero, List.getElem_cons_succ, Act.put, List.setIfInBounds_toArray, List.set_cons_zero, List.set_cons_succ]
  refine wpAnyH_done (by kernel_rfl) ?_ _
  have hbE := hS.1.1.2.2.2
  clear hS
  go_wp2
  go_ret
  exact ⟨rfl, hbE⟩

end Go.Proofs.YtnfkgoeocebenaaGreatDoor
