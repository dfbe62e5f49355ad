/-
  The walk of the law CidrReads.
-/
import Derived.Test.YtnfkgoeocebenaaGreatDoorCrread
import Derived.Test.YtnfkgoeocebenaaGreatDoorCput
import Derived.Test.YtnfkgoeocebenaaGreatDoorRow
namespace Go.Proofs.YtnfkgoeocebenaaGreatDoor
open Go.RowKit

theorem exec_sneq3 {P : Program} {a : Act} {w : World} {o : Oper} (t t' : TypeId) (x y : Operand) (ho : o.op = .binOp .neq t x y t') (s : ByteArray) (hx : a.eval x = .string s) (hy : a.eval y = .string s) :
    (execOp a.eval o).run P w = .ok (.value (.bool false)) w := by
  unfold execOp
  simp only [ho, hx, hy, eqGuard, binOp]
  simp [Op.stringOp, go_sem]
theorem exec_nneq {P : Program} {a : Act} {w : World} {o : Oper} (t t' : TypeId) (x y : Operand) (ho : o.op = .binOp .neq t x y t') (n : Int) (hx : a.eval x = .int .i64 n) (hy : a.eval y = .int .i64 n) :
    (execOp a.eval o).run P w = .ok (.value (.bool false)) w := by
  unfold execOp
  simp only [ho, hx, hy, eqGuard, binOp]
  simp [go_sem]
theorem run_neq_cid3 (s : Bool) (b : List Int) (hl : b.length = 16) (n : Int) (w : World) : (binOp .neq 50 (.agg (cid s b n)) (.agg (cid s b n))).run Tryz.prog w = .ok (.bool false) w := by
  rw [run_neq_struct, equalIn_cid 9996 s s b b n n hl hl, show ((s == s && b == b) && n == n) = true by simp]
  rfl
theorem exec_neq_cid3 {a : Act} {o : Oper} (x y : Operand) (ho : o.op = .binOp .neq 50 x y 50) (s : Bool) (b : List Int) (hl : b.length = 16) (n : Int) (hx : a.eval x = .agg (cid s b n)) (hy : a.eval y = .agg (cid s b n)) (w : World) :
    (execOp a.eval o).run Tryz.prog w = .ok (.value (.bool false)) w := by
  have h := run_neq_cid3 s b hl n w
  unfold execOp
  simp only [ho, hx, hy]
  simp [go_sem] at h ⊢
  first | exact h | simp [h]
theorem exec_eql_cid3 {a : Act} {o : Oper} (x y : Operand) (ho : o.op = .binOp .eql 50 x y 50) (s : Bool) (b : List Int) (hl : b.length = 16) (n : Int) (hx : a.eval x = .agg (cid s b n)) (hy : a.eval y = .agg (cid s b n)) (w : World) :
    (execOp a.eval o).run Tryz.prog w = .ok (.value (.bool true)) w := by
  have h := eql_cid s s b b n n hl hl w
  rw [show ((s == s && b == b) && n == n) = true by simp] at h
  unfold execOp
  simp only [ho, hx, hy]
  simp [go_sem] at h ⊢
  first | exact h | simp [h]
theorem exec_conv {o : Oper} {a : Act} {w : World} (x : Operand) (ho : o.op = .convert 25 9 x) (v : Value) (hx : a.eval x = v) (l : List Int) (h0 : 0 < l.length) {base : Nat} (hown : w.ownsRow base 5 1 v l.length (l.map (Value.int .u8))) :
    (execOp a.eval o).run Tryz.prog w = .ok (.value (.string (strOfNums l))) w := by
  obtain ⟨g, cap, rfl, _, _, _⟩ := own_shape hown h0
  have h := run_convert_bytes_arg (P := Tryz.prog) w 25 5 Tryz.underlying25 Tryz.underlying5 g 0 l.length cap l rfl (fun i hi => by
    rw [Nat.zero_add, hown.cellAt i (by omega)]
    simp [List.getD, List.getElem?_map, List.getElem?_eq_getElem hi]) 9 Tryz.underlying9
  unfold execOp
  simp only [ho, hx, Sem.run_bind, h, Result.andThen_ok, Sem.run_pure]
theorem Cur.other {w w' : World} {t : TypeId} {c d : Nat} {ad : Option Addr} {cap : Nat} {bs : List Int} {p : Nat} {x : Value} (h : Cur w t c ad cap bs p x) (hk : Keep d w w') (hd : c ≠ d) (hg : ∀ g o, ad = some ⟨g, o, none⟩ → 0 < bs.length → g ≠ d) : Cur w' t c ad cap bs p x :=
  ⟨hk.blk h.obj hd, h.row.keep hk (fun j hj g o e => hg g o e (by omega)), h.le, h.room, h.most, h.byte⟩

theorem readA_code (bs : List Int) (p : Nat) : (readA bs p).2.2 ≤ 18 := by
  unfold readA
  split
  · split
    · split <;> simp
    · split
      · split <;> simp
      · simp
  · simp
theorem readC_len (bs : List Int) (p : Nat) : (readC bs p).1.1.2.length = 16 := by
  unfold readC
  split
  · split
    · split
      · exact readA_len bs p
      · rfl
    · rfl
  · rfl
theorem readC_code (bs : List Int) (p : Nat) : (readC bs p).2.2 ≤ 18 := by
  unfold readC
  split
  · split
    · split <;> simp
    · simp
  · exact readA_code bs p

set_option maxRecDepth 100000 in
set_option maxHeartbeats 1000000 in
theorem creads_long (s : Bool) (b : List Int) (n : Int) (ad : Option Addr) (m cap : Nat) (hm : 100 < m) (a : Nat → Addr) (w : World) (hE : Env (.iface 211 (.pointer (some (a 3)))) w) (hErr : Errs 18 a w) :
    Calls Tryz.prog 5 #[.agg (cid s b n), .slice ad m cap] w fun e w' => e = .returned (.bool true) ∧ Below w.heap.size w w' := by
  obtain ⟨W0, hW0⟩ : ∃ W, W = w.alloc (.cells (cid s b n) 50) := ⟨_, rfl⟩
  have hb0 : Below w.heap.size w W0 := hW0 ▸ (Below.refl _ _).alloc (Nat.le_refl _) _
  have HW0 := Lib.hid hW0.symm
  have C0 := Lib.hid (alive3_any (.iface 211 (.pointer (some (a 3)))) 211 211 (.pointer (some (a 7))) (.pointer (some (a 0))) W0 (hE.kept hb0) ((hErr.below hb0).c.env3))
  have q : decide ((m : Int) > 100) = true := decide_eq_true (by omega)
  have q' : decide ((100 : Int) < (m : Int)) = true := decide_eq_true (by omega)
  clear hW0 hE hErr
  go_enter Tryz.func5, Tryz.ntmps5
  go_upto_region 1 with fail
  rw [HW0.out]
  go_wp2_with fail
  refine C0.out.mono ?_
  rintro e w1 ⟨rfl, hb1⟩
  go_wp2
  go_ret
  exact ⟨rfl, bel2 hb0 hb1⟩

set_option linter.unusedSimpArgs false in
set_option maxRecDepth 100000 in
set_option maxHeartbeats 8000000 in
theorem creads_walk (s : Bool) (b : List Int) (hl : b.length = 16) (n : Int) (R : Bool) (ad : Option Addr) (cap : Nat) (bs : List Int) (hm : bs.length ≤ 100) (hcap : bs.length ≤ cap) (hn0 : ad = none → cap = 0) (hby : ∀ j, 0 ≤ bs.getD j 0 ∧ bs.getD j 0 ≤ 255) (hbp : ∀ j, 0 ≤ (putC s b n).getD j 0 ∧ (putC s b n).getD j 0 ≤ 255) (a : Nat → Addr) (w : World)
    (hE : Env (.iface 211 (.pointer (some (a 3)))) w) (hErr : Errs 18 a w) (hrow : ∀ j, j < bs.length → ∃ g o, ad = some ⟨g, o, none⟩ ∧ w.cell? ⟨g, o + j, none⟩ = some (.int .u8 (bs.getD j 0)))
    (cPt : ∀ w, Calls Tryz.prog 33 #[.agg (cid s b n)] w fun e w' => e = .returned (.bool R) ∧ Below w.heap.size w w')
    (hRt : R = true → readC (putC s b n) 0 = (((s, b), n.toNat), (putC s b n).length, 0) ∧ ((n.toNat : Nat) : Int) = n) :
    Calls Tryz.prog 5 #[.agg (cid s b n), .slice ad bs.length cap] w fun e w' => e = .returned (.bool true) ∧ Below w.heap.size w w' := by
  obtain ⟨W0, hW0⟩ : ∃ W, W = w.alloc (.cells (cid s b n) 50) := ⟨_, rfl⟩
  have hB0 : Blk W0 w.heap.size 50 (cid s b n) := hW0 ▸ Blk.new w _ _
  have hb0 : Below w.heap.size w W0 := hW0 ▸ (Below.refl _ _).alloc (Nat.le_refl _) _
  have HW0 := Lib.hid hW0.symm
  have HB0 := Lib.hid hB0
  have Hb0 := Lib.hid hb0
  have HLb := Lib.hid hl
  have L18 : Hid (18 = (cid s b n).size) := Lib.hid (by rw [cid_size, hl])
  have C0 := Lib.hid (alive3_any (.iface 211 (.pointer (some (a 3)))) 211 211 (.pointer (some (a 7))) (.pointer (some (a 0))) W0 (hE.kept hb0) ((hErr.below hb0).c.env3))
  have CP : Hid (∀ w, Calls Tryz.prog 29 #[.agg (cid s b n)] w fun e w' => ∃ v, e = .returned v ∧ (w'.ownsRow w.heap.size 5 1 v (putC s b n).length ((putC s b n).map (Value.int .u8)) ∧ Below w.heap.size w w')) := Lib.hid (cput_any s b hl n)
  have CQ : Hid (∀ w, Calls Tryz.prog 30 #[.agg (cid s b n)] w fun e w' => ∃ v, e = .returned v ∧ (w'.ownsRow w.heap.size 5 1 v (putC s b n).length ((putC s b n).map (Value.int .u8)) ∧ Below w.heap.size w w')) := Lib.hid (crput_any s b hl n)
  have hLl : 0 < (putC s b n).length ∧ (putC s b n).length ≤ 19 := by
    unfold putC
    rw [List.length_append, putA_len s b hl]
    cases s <;> simp
  have HL0 := Lib.hid hLl.1
  have HL9 := Lib.hid hLl.2
  have HBy := Lib.hid hby
  have HBp := Lib.hid hbp
  have HEr := Lib.hid hErr
  have HRow := Lib.hid hrow
  have CPt := Lib.hid cPt
  have HRt := Lib.hid hRt
  obtain ⟨rs, rb, rn, q, k, hrd⟩ : ∃ rs rb rn q k, readC bs 0 = (((rs, rb), rn), q, k) := ⟨_, _, _, _, _, rfl⟩
  have HLr : Hid (rb.length = 16) := Lib.hid (by have := readC_len bs 0; rw [hrd] at this; exact this)
  have Hk : Hid (k ≤ 18) := Lib.hid (by have := readC_code bs 0; rw [hrd] at this; exact this)
  have HRd := Lib.hid hrd
  have CN : Hid (∀ w', Below w.heap.size w w' → Calls Tryz.prog 15 #[errV a k] w' fun e w2 => e = .returned (.int .i64 (k : Int)) ∧ Below w'.heap.size w' w2) := Lib.hid fun w' hb => by
    have hk := Hk.out
    cases k with
    | zero => exact (num_nil w').mono fun e w2 hh => ⟨hh.1, by rw [← hh.2]; exact Below.refl _ _⟩
    | succ m =>
      rw [errV_some3 a (m + 1) (by omega), Nat.add_sub_cancel]
      refine (num_err a m (by omega) w' (hErr.below hb)).mono fun e w2 hh => ⟨?_, hh.2⟩
      rw [hh.1]
      simp
  have d1 : decide ((bs.length : Int) > 100) = false := decide_eq_false (by omega)
  have d1' : decide ((100 : Int) < (bs.length : Int)) = false := decide_eq_false (by omega)
  clear hW0 hB0 hb0 hl hLl hE hby hbp hErr hrow cPt hRt hrd
  go_enter Tryz.func5, Tryz.ntmps5
  go_upto_region 1 with fail
  rw [HW0.out]
  go_wp2_with fail
  refine C0.out.mono ?_
  rintro e w1 ⟨rfl, hb1⟩
  have hS0 : Blk w1.drew (w.heap.size) 50 (cid s b n) ∧ Below w.heap.size w w1.drew := ⟨(HB0.out.kept hb1).kept (below_drewN w1 1), bel2 (bel2 Hb0.out hb1) (below_drewN w1 1)⟩
  have Hsz : Hid (w.heap.size ≤ w1.drew.heap.size) := Lib.hid hS0.2.size
  clear hb1
  go_wp2_with fail
  refine wp_region_held_drew (S := fun w' => Blk w' (w.heap.size) 50 (cid s b n) ∧ Below w.heap.size w w') (by kernel_rfl) hS0 (fun hS => ?_)
  change wpAnyH _ _ _ _ _ 7 #[false, false, false, false, false, false, false] _ _
  refine wpAnyH_take (i := 0) (v := .agg (cid s b n)) rfl (by kernel_rfl) (by kernel_rfl) (by kernel_rfl) (fun _ _ _ h => h) (yields_load 50 (.tmp 2) rfl (w.heap.size) (by kernel_rfl) _ _ _ (fun w h => h.1) Tryz.underlying50 rfl 18 Tryz.infoCidr L18.out (by kernel_rfl)) hS ?_
  simp only [List.getElem_toArray, List.getElem_cons_zero, List.getElem_cons_succ, Act.put, List.setIfInBounds_toArray, List.set_cons_zero, List.set_cons_succ]
  refine wpAnyH_take (i := 3) (v := .agg (cid s b n)) rfl (by kernel_rfl) (by kernel_rfl) (by kernel_rfl) (fun _ _ _ h => h) (yields_load 50 (.tmp 2) rfl (w.heap.size) (by kernel_rfl) _ _ _ (fun w h => h.1) Tryz.underlying50 rfl 18 Tryz.infoCidr L18.out (by kernel_rfl)) hS ?_
  simp only [List.getElem_toArray, List.getElem_cons_zero, List.getElem_cons_succ, Act.put, List.setIfInBounds_toArray, List.set_cons_zero, List.set_cons_succ]
  refine wpAnyH_ready (rs := [1]) (by kernel_rfl) (by simp) ?_
  refine AllReadyH.cons rfl (fun K' hK => ?_) AllReadyH.nil
  refine step_callE 29 #[.agg (cid s b n)] (by kernel_rfl) (by kernel_rfl) (CP.out _) (fun v1 u1 hR1 => hK.out _ _ (⟨hS.1.kept hR1.2, bel2 hS.2 hR1.2⟩) (fun hS => ?_))
  simp only [List.getElem_toArray, List.getElem_cons_zero, List.getElem_cons_succ, Act.put, List.setIfInBounds_toArray, List.set_cons_zero, List.set_cons_succ]
  have Hsz1 : Hid (w.heap.size ≤ u1.heap.size) := Lib.hid hS.2.size
  have hS1 : (fun w' => (Blk w' (w.heap.size) 50 (cid s b n) ∧ Below w.heap.size w w') ∧ w'.ownsRow w.heap.size 5 1 v1 (putC s b n).length ((putC s b n).map (Value.int .u8))) u1 := ⟨hS, own_mono hR1.1 Hsz.out⟩
  refine wpAnyH_mono (S' := fun w' => (Blk w' (w.heap.size) 50 (cid s b n) ∧ Below w.heap.size w w') ∧ w'.ownsRow w.heap.size 5 1 v1 (putC s b n).length ((putC s b n).map (Value.int .u8))) (fun _ h => h.1) _ _ _ _ ?_
  clear hS
  have hS := hS1
  refine wpAnyH_take (i := 2) (v := .string (strOfNums (putC s b n))) rfl (by kernel_rfl) (by kernel_rfl) (by kernel_rfl) (fun _ _ _ h => h) (.inl ⟨by kernel_rfl, fun w h => exec_conv (.tmp 14) rfl v1 (by kernel_rfl) (putC s b n) HL0.out h.2⟩) hS ?_
  simp only [List.getElem_toArray, List.getElem_cons_zero, List.getElem_cons_succ, Act.put, List.setIfInBounds_toArray, List.set_cons_zero, List.set_cons_succ]
  refine wpAnyH_ready (rs := [4]) (by kernel_rfl) (by simp) ?_
  refine AllReadyH.cons rfl (fun K' hK => ?_) AllReadyH.nil
  refine step_callE 30 #[.agg (cid s b n)] (by kernel_rfl) (by kernel_rfl) (CQ.out _) (fun v2 u2 hR2 => hK.out _ _ (⟨⟨hS.1.1.kept hR2.2, bel2 hS.1.2 hR2.2⟩, own_below hS.2 hR2.2⟩) (fun hS => ?_))
  simp only [List.getElem_toArray, List.getElem_cons_zero, List.getElem_cons_succ, Act.put, List.setIfInBounds_toArray, List.set_cons_zero, List.set_cons_succ]
  have hS2 : (fun w' => ((Blk w' (w.heap.size) 50 (cid s b n) ∧ Below w.heap.size w w') ∧ w'.ownsRow w.heap.size 5 1 v1 (putC s b n).length ((putC s b n).map (Value.int .u8))) ∧ w'.ownsRow w.heap.size 5 1 v2 (putC s b n).length ((putC s b n).map (Value.int .u8))) u2 := ⟨hS, own_mono hR2.1 Hsz1.out⟩
  refine wpAnyH_mono (S' := fun w' => ((Blk w' (w.heap.size) 50 (cid s b n) ∧ Below w.heap.size w w') ∧ w'.ownsRow w.heap.size 5 1 v1 (putC s b n).length ((putC s b n).map (Value.int .u8))) ∧ w'.ownsRow w.heap.size 5 1 v2 (putC s b n).length ((putC s b n).map (Value.int .u8))) (fun _ h => h.1) _ _ _ _ ?_
  clear hS
  have hS := hS2
  refine wpAnyH_take (i := 5) (v := .string (strOfNums (putC s b n))) rfl (by kernel_rfl) (by kernel_rfl) (by kernel_rfl) (fun _ _ _ h => h) (.inl ⟨by kernel_rfl, fun w h => exec_conv (.tmp 17) rfl v2 (by kernel_rfl) (putC s b n) HL0.out h.2⟩) hS ?_
  simp only [List.getElem_toArray, List.getElem_cons_zero, List.getElem_cons_succ, Act.put, List.setIfInBounds_toArray, List.set_cons_zero, List.set_cons_succ]
  refine wpAnyH_take (i := 6) (v := .bool false) rfl (by kernel_rfl) (by kernel_rfl) (by kernel_rfl) (fun _ _ _ h => h) (.inl ⟨by kernel_rfl, fun w _ => exec_sneq3 9 9 (.tmp 15) (.tmp 18) rfl (strOfNums (putC s b n)) (by kernel_rfl) (by kernel_rfl)⟩) hS ?_
  simp only [List.getElem_toArray, List.getElem_cons_zero, List.getElem_cons_succ, Act.put, List.setIfInBounds_toArray, List.set_cons_zero, List.set_cons_succ]
  refine wpAnyH_done (by kernel_rfl) ?_ _
  have HS := Lib.hid hS.1.1
  clear hS hS2 hS1 hR1 hR2
  have hgl : ∀ j, j < bs.length → ∃ g o, ad = some ⟨g, o, none⟩ ∧ g < w.heap.size ∧ u2.cell? ⟨g, o + j, none⟩ = some (.int .u8 (bs.getD j 0)) := fun j hj => by
    obtain ⟨g, o, e, hx⟩ := HRow.out j hj
    exact ⟨g, o, e, World.block_lt_of_cell? w _ hx, cell_kept hx HS.out.2⟩
  have hszu := HS.out.2.size
  have CAt := Lib.hid (at_any u2 u2.heap.size ad cap bs (fun j hj => by
    obtain ⟨g, o, e, hg, hx⟩ := hgl j hj
    exact ⟨g, o, e, by omega, hx⟩) hn0 (by omega) HBy.out)
  have HGl := Lib.hid hgl
  clear hgl
  go_wp2_with fail
  refine CAt.out.mono ?_
  rintro e w3 ⟨c1, ad1, cap1, rfl, hC1, hc1, hg1, hb3⟩
  have hsz3 := hb3.size
  obtain ⟨c2, hc2⟩ : ∃ c2, c2 = w3.heap.size := ⟨_, rfl⟩
  obtain ⟨W4, hW4⟩ : ∃ W, W = w3.alloc (.cells #[.slice ad bs.length cap, .int .i64 0, .int .i64 0] 41) := ⟨_, rfl⟩
  have hB4 : Blk W4 c2 41 #[.slice ad bs.length cap, .int .i64 0, .int .i64 0] := hc2 ▸ hW4 ▸ Blk.new w3 _ _
  have hb4 : Below w3.heap.size w3 W4 := hW4 ▸ (Below.refl _ _).alloc (Nat.le_refl _) _
  have hb4d : Below w3.heap.size w3 W4.drew := bel2 hb4 (below_drewN W4 1)
  have hlt1 := hC1.obj.lt
  have HC1 : Hid (Cur W4.drew 79 c1 ad1 cap1 bs 0 .nilIface) := Lib.hid (hC1.kept hb4d)
  have HC2 : Hid (Cur W4.drew 41 c2 ad cap bs 0 (.int .i64 0)) := Lib.hid ⟨hB4.kept (below_drewN W4 1), fun j hj => by
    obtain ⟨g, o, e, hg, hx⟩ := HGl.out j hj
    exact ⟨g, o, e, by omega, cell_kept (cell_kept hx hb3) hb4d⟩, Nat.zero_le _, hcap, by omega, HBy.out⟩
  have hbu : Below u2.heap.size u2 W4.drew := bel2 hb3 hb4d
  have hS0 : Blk W4.drew (w.heap.size) 50 (cid s b n) ∧ Below w.heap.size w W4.drew := ⟨HS.out.1.kept hbu, bel2 HS.out.2 hbu⟩
  have hltG := HS.out.1.lt
  have HG1 : Hid (w.heap.size ≠ c1) := Lib.hid (by omega)
  have HG2 : Hid (w.heap.size ≠ c2) := Lib.hid (by omega)
  have HGc1 : Hid (w.heap.size ≤ c1) := Lib.hid (by omega)
  have HGc2 : Hid (w.heap.size ≤ c2) := Lib.hid (by omega)
  have Hcc : Hid (c2 ≠ c1) := Lib.hid (by omega)
  have Hcc' : Hid (c1 ≠ c2) := Lib.hid (by omega)
  have Hgc1 : Hid (∀ g o, ad = some ⟨g, o, none⟩ → 0 < bs.length → g ≠ c1) := Lib.hid fun g o e h0 => by
    obtain ⟨g', o', e', hg, _⟩ := HGl.out 0 h0
    rw [e] at e'
    cases e'
    omega
  have Hgc2 : Hid (∀ g o, ad1 = some ⟨g, o, none⟩ → 0 < bs.length → g ≠ c2) := Lib.hid fun g o e h0 => by
    obtain ⟨g', o', e', _, hx⟩ := hC1.row 0 h0
    rw [e] at e'
    cases e'
    have := World.block_lt_of_cell? w3 _ hx
    rw [hc2]
    exact Nat.ne_of_lt this
  have CR1 : Hid (Calls Tryz.prog 31 #[.pointer (some ⟨c1, 0, none⟩)] W4.drew fun e w' => e = .returned (.agg (cid rs rb (rn : Int))) ∧ (Cur w' 79 c1 ad1 cap1 bs q (errV a k) ∧ Keep c1 W4.drew w')) := Lib.hid (by
    have := cread_any a HC1.out ((HEr.out.below hS0.2).c)
    rw [HRd.out] at this
    exact this)
  have CR2 : Hid (∀ w', Cur w' 41 c2 ad cap bs 0 (.int .i64 0) → Calls Tryz.prog 32 #[.pointer (some ⟨c2, 0, none⟩)] w' fun e w2 => e = .returned (.agg (cid rs rb (rn : Int))) ∧ (Cur w2 41 c2 ad cap bs q (.int .i64 (k : Int)) ∧ Keep c2 w' w2)) := Lib.hid fun w' hC => by
    have := crread_any hC
    rw [HRd.out] at this
    exact this
  have HW4 : Hid (w3.alloc (.cells #[.slice ad bs.length cap, .int .i64 0, .int .i64 0] 41) = W4) := Lib.hid hW4.symm
  have HC22 := Lib.hid hc2
  clear hC1 hb3 hW4 hB4 hb4 hb4d hbu hc1 hg1
  go_upto_region 8 with fail
  rw [HW4.out]
  rw [← HC22.out]
  clear hsz3 hlt1 hszu hltG hc2
  refine wp_region_held_drew (S := fun w' => Blk w' (w.heap.size) 50 (cid s b n) ∧ Below w.heap.size w w') (by kernel_rfl) hS0 (fun hS => ?_)
  change wpAnyH _ _ _ _ _ 24 #[false, false, false, false, false, false, false, false, false, false, false, false, false, false, false, false, false, false, false, false, false, false, false, false] _ _
  refine wpAnyH_take (i := 0) (v := .pointer (some ⟨c1, 0, none⟩)) rfl (by kernel_rfl) (by kernel_rfl) (by kernel_rfl) (fun _ _ _ h => h) (.inl ⟨by kernel_rfl, fun w _ => by kernel_rfl⟩) hS ?_
  simp only [List.getElem_toArray, List.getElem_cons_zero, List.getElem_cons_succ, Act.put, List.setIfInBounds_toArray, List.set_cons_zero, List.set_cons_succ]
  refine wpAnyH_take (i := 2) (v := .pointer (some ⟨c2, 0, none⟩)) rfl (by kernel_rfl) (by kernel_rfl) (by kernel_rfl) (fun _ _ _ h => h) (.inl ⟨by kernel_rfl, fun w _ => by kernel_rfl⟩) hS ?_
  simp only [List.getElem_toArray, List.getElem_cons_zero, List.getElem_cons_succ, Act.put, List.setIfInBounds_toArray, List.set_cons_zero, List.set_cons_succ]
  refine wpAnyH_ready (rs := [1]) (by kernel_rfl) (by simp) ?_
  refine AllReadyH.cons rfl (fun K' hK => ?_) AllReadyH.nil
  refine step_call 31 #[.pointer (some ⟨c1, 0, none⟩)] (by kernel_rfl) (by kernel_rfl) (.agg (cid rs rb (rn : Int))) (CR1.out) (fun u8 hR8 => hK.out _ _ (⟨hR8.2.blk hS.1 HG1.out, hS.2.trans (hR8.2.low.mono HGc1.out)⟩) (fun hS => ?_))
  simp only [List.getElem_toArray, List.getElem_cons_zero, List.getElem_cons_succ, Act.put, List.setIfInBounds_toArray, List.set_cons_zero, List.set_cons_succ]
  have hC28 := HC2.out.other hR8.2 Hcc.out Hgc1.out
  refine wpAnyH_ready (rs := [3]) (by kernel_rfl) (by simp) ?_
  refine AllReadyH.cons rfl (fun K' hK => ?_) AllReadyH.nil
  refine step_call 32 #[.pointer (some ⟨c2, 0, none⟩)] (by kernel_rfl) (by kernel_rfl) (.agg (cid rs rb (rn : Int))) (CR2.out _ hC28) (fun u9 hR9 => hK.out _ _ (⟨hR9.2.blk hS.1 HG2.out, hS.2.trans (hR9.2.low.mono HGc2.out)⟩) (fun hS => ?_))
  simp only [List.getElem_toArray, List.getElem_cons_zero, List.getElem_cons_succ, Act.put, List.setIfInBounds_toArray, List.set_cons_zero, List.set_cons_succ]
  have hS9 : (fun w' => (Blk w' (w.heap.size) 50 (cid s b n) ∧ Below w.heap.size w w') ∧ Cur w' 79 c1 ad1 cap1 bs q (errV a k) ∧ Cur w' 41 c2 ad cap bs q (.int .i64 (k : Int))) u9 := ⟨hS, hR8.1.other hR9.2 Hcc'.out Hgc2.out, hR9.1⟩
  refine wpAnyH_mono (S' := fun w' => (Blk w' (w.heap.size) 50 (cid s b n) ∧ Below w.heap.size w w') ∧ Cur w' 79 c1 ad1 cap1 bs q (errV a k) ∧ Cur w' 41 c2 ad cap bs q (.int .i64 (k : Int))) (fun _ h => h.1) _ _ _ _ ?_
  clear hS
  have hS := hS9
  clear hS9 hC28
  refine wpAnyH_take (i := 4) (v := .bool false) rfl (by kernel_rfl) (by kernel_rfl) (by kernel_rfl) (fun _ _ _ h => h) (.inl ⟨by kernel_rfl, fun w _ => exec_neq_cid3 (.tmp 26) (.tmp 28) rfl rs rb HLr.out (rn : Int) (by kernel_rfl) (by kernel_rfl) w⟩) hS ?_
  simp only [List.getElem_toArray, List.getElem_cons_zero, List.getElem_cons_succ, Act.put, List.setIfInBounds_toArray, List.set_cons_zero, List.set_cons_succ]
  refine wpAnyH_take (i := 5) (v := .bool false) rfl (by kernel_rfl) (by kernel_rfl) (by kernel_rfl) (fun _ _ _ h => h) (.inl ⟨by kernel_rfl, fun w _ => by kernel_rfl⟩) hS ?_
  simp only [List.getElem_toArray, List.getElem_cons_zero, List.getElem_cons_succ, Act.put, List.setIfInBounds_toArray, List.set_cons_zero, List.set_cons_succ]
  refine wpAnyH_take (i := 6) (v := .pointer (some ⟨c1, 0, none⟩)) rfl (by kernel_rfl) (by kernel_rfl) (by kernel_rfl) (fun _ _ _ h => h) (.inl ⟨by kernel_rfl, fun w _ => by kernel_rfl⟩) hS ?_
  simp only [List.getElem_toArray, List.getElem_cons_zero, List.getElem_cons_succ, Act.put, List.setIfInBounds_toArray, List.set_cons_zero, List.set_cons_succ]
  refine wpAnyH_take (i := 8) (v := .pointer (some ⟨c2, 0, none⟩)) rfl (by kernel_rfl) (by kernel_rfl) (by kernel_rfl) (fun _ _ _ h => h) (.inl ⟨by kernel_rfl, fun w _ => by kernel_rfl⟩) hS ?_
  simp only [List.getElem_toArray, List.getElem_cons_zero, List.getElem_cons_succ, Act.put, List.setIfInBounds_toArray, List.set_cons_zero, List.set_cons_succ]
  refine wpAnyH_take (i := 9) (v := .pointer (some ⟨c2, 0, none⟩)) rfl (by kernel_rfl) (by kernel_rfl) (by kernel_rfl) (fun _ _ _ h => h) (.inl ⟨by kernel_rfl, fun w _ => by kernel_rfl⟩) hS ?_
  simp only [List.getElem_toArray, List.getElem_cons_zero, List.getElem_cons_succ, Act.put, List.setIfInBounds_toArray, List.set_cons_zero, List.set_cons_succ]
  refine wpAnyH_take (i := 10) (v := .pointer (some ⟨c2, 1, none⟩)) rfl (by kernel_rfl) (by kernel_rfl) (by kernel_rfl) (fun _ _ _ h => h) (.inl ⟨by kernel_rfl, fun w _ => by kernel_rfl⟩) hS ?_
  simp only [List.getElem_toArray, List.getElem_cons_zero, List.getElem_cons_succ, Act.put, List.setIfInBounds_toArray, List.set_cons_zero, List.set_cons_succ]
  refine wpAnyH_take (i := 11) (v := .int .i64 (q : Int)) rfl (by kernel_rfl) (by kernel_rfl) (by kernel_rfl) (fun _ _ _ h => h) (yields_cell (.tmp 35) rfl c2 1 (by kernel_rfl) (q : Int) (fun w h => h.2.2.cell1) (by kernel_rfl)) hS ?_
  simp only [List.getElem_toArray, List.getElem_cons_zero, List.getElem_cons_succ, Act.put, List.setIfInBounds_toArray, List.set_cons_zero, List.set_cons_succ]
  refine wpAnyH_ready (rs := [7]) (by kernel_rfl) (by simp) ?_
  refine AllReadyH.cons rfl (fun K' hK => ?_) AllReadyH.nil
  rw [if_pos (by kernel_rfl)]
  refine op_call2 21 #[.pointer (some ⟨c1, 0, none⟩)] (by kernel_rfl) (.int .i64 (q : Int)) (place_any hS.2.1) (fun u10 hR10 => hK.out _ _ (hR10 ▸ hS) (fun hS => ?_))
  simp only [List.getElem_toArray, List.getElem_cons_zero, List.getElem_cons_succ, Act.put, List.setIfInBounds_toArray, List.set_cons_zero, List.set_cons_succ]
  refine wpAnyH_take (i := 12) (v := .bool false) rfl (by kernel_rfl) (by kernel_rfl) (by kernel_rfl) (fun _ _ _ h => h) (.inl ⟨by kernel_rfl, fun w _ => exec_nneq 3 3 (.tmp 32) (.tmp 36) rfl (q : Int) (by kernel_rfl) (by kernel_rfl)⟩) hS ?_
  simp only [List.getElem_toArray, List.getElem_cons_zero, List.getElem_cons_succ, Act.put, List.setIfInBounds_toArray, List.set_cons_zero, List.set_cons_succ]
  refine wpAnyH_take (i := 13) (v := .bool false) rfl (by kernel_rfl) (by kernel_rfl) (by kernel_rfl) (fun _ _ _ h => h) (.inl ⟨by kernel_rfl, fun w _ => by kernel_rfl⟩) hS ?_
  simp only [List.getElem_toArray, List.getElem_cons_zero, List.getElem_cons_succ, Act.put, List.setIfInBounds_toArray, List.set_cons_zero, List.set_cons_succ]
  refine wpAnyH_take (i := 14) (v := .bool false) rfl (by kernel_rfl) (by kernel_rfl) (by kernel_rfl) (fun _ _ _ h => h) (.inl ⟨by kernel_rfl, fun w _ => by kernel_rfl⟩) hS ?_
  simp only [List.getElem_toArray, List.getElem_cons_zero, List.getElem_cons_succ, Act.put, List.setIfInBounds_toArray, List.set_cons_zero, List.set_cons_succ]
  refine wpAnyH_take (i := 15) (v := .pointer (some ⟨c1, 0, none⟩)) rfl (by kernel_rfl) (by kernel_rfl) (by kernel_rfl) (fun _ _ _ h => h) (.inl ⟨by kernel_rfl, fun w _ => by kernel_rfl⟩) hS ?_
  simp only [List.getElem_toArray, List.getElem_cons_zero, List.getElem_cons_succ, Act.put, List.setIfInBounds_toArray, List.set_cons_zero, List.set_cons_succ]
  refine wpAnyH_take (i := 18) (v := .pointer (some ⟨c2, 0, none⟩)) rfl (by kernel_rfl) (by kernel_rfl) (by kernel_rfl) (fun _ _ _ h => h) (.inl ⟨by kernel_rfl, fun w _ => by kernel_rfl⟩) hS ?_
  simp only [List.getElem_toArray, List.getElem_cons_zero, List.getElem_cons_succ, Act.put, List.setIfInBounds_toArray, List.set_cons_zero, List.set_cons_succ]
  refine wpAnyH_take (i := 19) (v := .pointer (some ⟨c2, 0, none⟩)) rfl (by kernel_rfl) (by kernel_rfl) (by kernel_rfl) (fun _ _ _ h => h) (.inl ⟨by kernel_rfl, fun w _ => by kernel_rfl⟩) hS ?_
  simp only [List.getElem_toArray, List.getElem_cons_zero, List.getElem_cons_succ, Act.put, List.setIfInBounds_toArray, List.set_cons_zero, List.set_cons_succ]
  refine wpAnyH_take (i := 20) (v := .pointer (some ⟨c2, 2, none⟩)) rfl (by kernel_rfl) (by kernel_rfl) (by kernel_rfl) (fun _ _ _ h => h) (.inl ⟨by kernel_rfl, fun w _ => by kernel_rfl⟩) hS ?_
  simp only [List.getElem_toArray, List.getElem_cons_zero, List.getElem_cons_succ, Act.put, List.setIfInBounds_toArray, List.set_cons_zero, List.set_cons_succ]
  refine wpAnyH_take (i := 21) (v := .int .i64 (k : Int)) rfl (by kernel_rfl) (by kernel_rfl) (by kernel_rfl) (fun _ _ _ h => h) (yields_cell (.tmp 45) rfl c2 2 (by kernel_rfl) (k : Int) (fun w h => h.2.2.cell2) (by kernel_rfl)) hS ?_
  simp only [List.getElem_toArray, List.getElem_cons_zero, List.getElem_cons_succ, Act.put, List.setIfInBounds_toArray, List.set_cons_zero, List.set_cons_succ]
  refine wpAnyH_ready (rs := [16]) (by kernel_rfl) (by simp) ?_
  refine AllReadyH.cons rfl (fun K' hK => ?_) AllReadyH.nil
  rw [if_pos (by kernel_rfl)]
  refine op_call2 22 #[.pointer (some ⟨c1, 0, none⟩)] (by kernel_rfl) (errV a k) (err_any hS.2.1) (fun u11 hR11 => hK.out _ _ (hR11 ▸ hS) (fun hS => ?_))
  simp only [List.getElem_toArray, List.getElem_cons_zero, List.getElem_cons_succ, Act.put, List.setIfInBounds_toArray, List.set_cons_zero, List.set_cons_succ]
  refine wpAnyH_ready (rs := [17]) (by kernel_rfl) (by simp) ?_
  refine AllReadyH.cons rfl (fun K' hK => ?_) AllReadyH.nil
  rw [if_pos (by kernel_rfl)]
  refine op_call2 15 #[errV a k] (by kernel_rfl) (.int .i64 (k : Int)) (CN.out _ hS.1.2) (fun u12 hR12 => hK.out _ _ (⟨⟨hS.1.1.kept hR12, bel2 hS.1.2 hR12⟩, hS.2.1.kept hR12, hS.2.2.kept hR12⟩) (fun hS => ?_))
  simp only [List.getElem_toArray, List.getElem_cons_zero, List.getElem_cons_succ, Act.put, List.setIfInBounds_toArray, List.set_cons_zero, List.set_cons_succ]
  refine wpAnyH_take (i := 22) (v := .bool false) rfl (by kernel_rfl) (by kernel_rfl) (by kernel_rfl) (fun _ _ _ h => h) (.inl ⟨by kernel_rfl, fun w _ => exec_nneq 3 3 (.tmp 42) (.tmp 46) rfl (k : Int) (by kernel_rfl) (by kernel_rfl)⟩) hS ?_
  simp only [List.getElem_toArray, List.getElem_cons_zero, List.getElem_cons_succ, Act.put, List.setIfInBounds_toArray, List.set_cons_zero, List.set_cons_succ]
  refine wpAnyH_take (i := 23) (v := .bool false) rfl (by kernel_rfl) (by kernel_rfl) (by kernel_rfl) (fun _ _ _ h => h) (.inl ⟨by kernel_rfl, fun w _ => by kernel_rfl⟩) hS ?_
  simp only [List.getElem_toArray, List.getElem_cons_zero, List.getElem_cons_succ, Act.put, List.setIfInBounds_toArray, List.set_cons_zero, List.set_cons_succ]
  refine wpAnyH_done (by kernel_rfl) ?_ _
  have HS := Lib.hid hS.1
  clear hS hR8 hR9 hR10 hR11 hR12
  go_wp2_with (refine wpl_load 50 _ rfl w.heap.size rfl _ _ _ HS.out.1 Tryz.underlying50 rfl 18 Tryz.infoCidr L18.out rfl ?_)
  refine (CPt.out u12).mono ?_
  rintro e u12b ⟨rfl, hb12⟩
  have HSb : Hid (Blk u12b (w.heap.size) 50 (cid s b n) ∧ Below w.heap.size w u12b) := Lib.hid ⟨HS.out.1.kept hb12, bel2 HS.out.2 hb12⟩
  clear hb12
  cases R with
  | false =>
    go_wp2
    go_ret
    exact ⟨rfl, HSb.out.2⟩
  | true =>
    have CR3g : Hid (∀ c3 ad3 cap3 w', Below w.heap.size w w' → Cur w' 79 c3 ad3 cap3 (putC s b n) 0 .nilIface → Calls Tryz.prog 31 #[.pointer (some ⟨c3, 0, none⟩)] w' fun e w2 => e = .returned (.agg (cid s b n)) ∧ (Cur w2 79 c3 ad3 cap3 (putC s b n) (putC s b n).length .nilIface ∧ Keep c3 w' w2)) := Lib.hid fun c3 ad3 cap3 w' hb hC => by
      have := cread_any a hC ((HEr.out.below hb).c)
      rw [(HRt.out rfl).1] at this
      simp only [(HRt.out rfl).2] at this
      exact this
    clear HRt
    go_wp2_with (refine wpl_load 50 _ rfl w.heap.size rfl _ _ _ HSb.out.1 Tryz.underlying50 rfl 18 Tryz.infoCidr L18.out rfl ?_)
    refine (CP.out u12b).mono ?_
    rintro e u13 ⟨v3, rfl, hown, hb13⟩
    obtain ⟨g3, cp3, rfl, hg3, hcp3, hg3l⟩ := own_shape hown HL0.out
    have CAt3 := Lib.hid (at_any u13 u13.heap.size (some ⟨g3, 0, none⟩) cp3 (putC s b n) (fun j hj => ⟨g3, 0, rfl, by omega, by
      rw [Nat.zero_add, hown.cellAt j (by omega)]
      simp [List.getD, List.getElem?_map, List.getElem?_eq_getElem hj]⟩) (fun h => by cases h) (by have := HL9.out; omega) HBp.out)
    have HS13 : Hid (Blk u13 (w.heap.size) 50 (cid s b n) ∧ Below w.heap.size w u13) := Lib.hid ⟨HSb.out.1.kept hb13, bel2 HSb.out.2 hb13⟩
    clear hown hb13
    go_wp2_with fail
    refine CAt3.out.mono ?_
    rintro e u14 ⟨c3, ad3, cap3, rfl, hC3, hc3, _, hb14⟩
    have hS0 : (Blk u14.drew (w.heap.size) 50 (cid s b n) ∧ Below w.heap.size w u14.drew) ∧ Cur u14.drew 79 c3 ad3 cap3 (putC s b n) 0 .nilIface := by
      have hbd := bel2 hb14 (below_drewN u14 1)
      exact ⟨⟨HS13.out.1.kept hbd, bel2 HS13.out.2 hbd⟩, hC3.kept (below_drewN u14 1)⟩
    have hG13 := HS13.out.1.lt
    have HG3 : Hid (w.heap.size ≠ c3) := Lib.hid (by omega)
    have HGc3 : Hid (w.heap.size ≤ c3) := Lib.hid (by omega)
    have CR3 := Lib.hid (CR3g.out c3 ad3 cap3)
    clear hC3 hc3 hb14 hG13 hg3 hg3l hcp3
    go_wp2_with fail
    refine wp_region_held_drew (S := fun w' => Blk w' (w.heap.size) 50 (cid s b n) ∧ Below w.heap.size w w') (by kernel_rfl) hS0.1 (fun hS => ?_)
    change wpAnyH _ _ _ _ _ 10 #[false, false, false, false, false, false, false, false, false, false] _ _
    refine wpAnyH_take (i := 0) (v := .pointer (some ⟨c3, 0, none⟩)) rfl (by kernel_rfl) (by kernel_rfl) (by kernel_rfl) (fun _ _ _ h => h) (.inl ⟨by kernel_rfl, fun w _ => by kernel_rfl⟩) hS ?_
    simp only [List.getElem_toArray, List.getElem_cons_zero, List.getElem_cons_succ, Act.put, List.setIfInBounds_toArray, List.set_cons_zero, List.set_cons_succ]
    refine wpAnyH_take (i := 2) (v := .agg (cid s b n)) rfl (by kernel_rfl) (by kernel_rfl) (by kernel_rfl) (fun _ _ _ h => h) (yields_load 50 (.tmp 2) rfl (w.heap.size) (by kernel_rfl) _ _ _ (fun w h => h.1) Tryz.underlying50 rfl 18 Tryz.infoCidr L18.out (by kernel_rfl)) hS ?_
    simp only [List.getElem_toArray, List.getElem_cons_zero, List.getElem_cons_succ, Act.put, List.setIfInBounds_toArray, List.set_cons_zero, List.set_cons_succ]
    refine wpAnyH_ready (rs := [1]) (by kernel_rfl) (by simp) ?_
    refine AllReadyH.cons rfl (fun K' hK => ?_) AllReadyH.nil
    refine step_call 31 #[.pointer (some ⟨c3, 0, none⟩)] (by kernel_rfl) (by kernel_rfl) (.agg (cid s b n)) (CR3.out _ hS.2 hS0.2) (fun u16 hR16 => hK.out _ _ (⟨hR16.2.blk hS.1 HG3.out, hS.2.trans (hR16.2.low.mono HGc3.out)⟩) (fun hS => ?_))
    simp only [List.getElem_toArray, List.getElem_cons_zero, List.getElem_cons_succ, Act.put, List.setIfInBounds_toArray, List.set_cons_zero, List.set_cons_succ]
    refine wpAnyH_take (i := 3) (v := .bool true) rfl (by kernel_rfl) (by kernel_rfl) (by kernel_rfl) (fun _ _ _ h => h) (.inl ⟨by kernel_rfl, fun w _ => exec_eql_cid3 (.tmp 56) (.tmp 57) rfl s b HLb.out n (by kernel_rfl) (by kernel_rfl) w⟩) hS ?_
    simp only [List.getElem_toArray, List.getElem_cons_zero, List.getElem_cons_succ, Act.put, List.setIfInBounds_toArray, List.set_cons_zero, List.set_cons_succ]
    refine wpAnyH_take (i := 4) (v := .bool true) rfl (by kernel_rfl) (by kernel_rfl) (by kernel_rfl) (fun _ _ _ h => h) (.inl ⟨by kernel_rfl, fun w _ => by kernel_rfl⟩) hS ?_
    simp only [List.getElem_toArray, List.getElem_cons_zero, List.getElem_cons_succ, Act.put, List.setIfInBounds_toArray, List.set_cons_zero, List.set_cons_succ]
    refine wpAnyH_take (i := 5) (v := .pointer (some ⟨c3, 0, none⟩)) rfl (by kernel_rfl) (by kernel_rfl) (by kernel_rfl) (fun _ _ _ h => h) (.inl ⟨by kernel_rfl, fun w _ => by kernel_rfl⟩) hS ?_
    simp only [List.getElem_toArray, List.getElem_cons_zero, List.getElem_cons_succ, Act.put, List.setIfInBounds_toArray, List.set_cons_zero, List.set_cons_succ]
    refine wpAnyH_ready (rs := [6]) (by kernel_rfl) (by simp) ?_
    refine AllReadyH.cons rfl (fun K' hK => ?_) AllReadyH.nil
    rw [if_pos (by kernel_rfl)]
    refine op_call2 34 #[.pointer (some ⟨c3, 0, none⟩)] (by kernel_rfl) (.nilIface) (end_nil hR16.1) (fun u17 hR17 => hK.out _ _ (by obtain ⟨m, rfl⟩ := hR17; exact ⟨hS.1.kept (below_drewN _ m), bel2 hS.2 (below_drewN _ m)⟩) (fun hS => ?_))
    simp only [List.getElem_toArray, List.getElem_cons_zero, List.getElem_cons_succ, Act.put, List.setIfInBounds_toArray, List.set_cons_zero, List.set_cons_succ]
    refine wpAnyH_take (i := 7) (v := .bool true) rfl (by kernel_rfl) (by kernel_rfl) (by kernel_rfl) (fun _ _ _ h => h) (.inl ⟨by kernel_rfl, fun w _ => by kernel_rfl⟩) hS ?_
    simp only [List.getElem_toArray, List.getElem_cons_zero, List.getElem_cons_succ, Act.put, List.setIfInBounds_toArray, List.set_cons_zero, List.set_cons_succ]
    refine wpAnyH_take (i := 8) (v := .bool true) rfl (by kernel_rfl) (by kernel_rfl) (by kernel_rfl) (fun _ _ _ h => h) (.inl ⟨by kernel_rfl, fun w _ => by kernel_rfl⟩) hS ?_
    simp only [List.getElem_toArray, List.getElem_cons_zero, List.getElem_cons_succ, Act.put, List.setIfInBounds_toArray, List.set_cons_zero, List.set_cons_succ]
    refine wpAnyH_take (i := 9) (v := .bool true) rfl (by kernel_rfl) (by kernel_rfl) (by kernel_rfl) (fun _ _ _ h => h) (.inl ⟨by kernel_rfl, fun w _ => by kernel_rfl⟩) hS ?_
    simp only [List.getElem_toArray, List.getElem_cons_zero, List.getElem_cons_succ, Act.put, List.setIfInBounds_toArray, List.set_cons_zero, List.set_cons_succ]
    refine wpAnyH_done (by kernel_rfl) ?_ _
    have hbE := hS.2
    clear hS
    go_wp2
    go_ret
    exact ⟨rfl, hbE⟩
end Go.Proofs.YtnfkgoeocebenaaGreatDoor
