/-
  The document's Read of a cidr.
-/
import Derived.Test.YtnfkgoeocebenaaGreatDoorKrread
import Derived.Test.YtnfkgoeocebenaaGreatDoorCread
namespace Go.Proofs.YtnfkgoeocebenaaGreatDoor
open Go.RowKit

theorem run_build_cid1 (s : Bool) (b : List Int) (hl : b.length = 16) (w : World) : (Instr.build 50 #[(0, .agg (adr s b))]).run Tryz.prog w = .ok (.agg (cid s b 0)) w := by
  match b, hl with
  | [a0, a1, a2, a3, a4, a5, a6, a7, a8, a9, a10, a11, a12, a13, a14, a15], _ =>
    show _ = _
    kernel_rfl
theorem exec_build_cid1 {a : Act} {o : Oper} (x : Operand) (ho : o.op = .build 50 #[(0, x)]) (s : Bool) (b : List Int) (hl : b.length = 16) (hx : a.eval x = .agg (adr s b)) (w : World) :
    (execOp a.eval o).run Tryz.prog w = .ok (.value (.agg (cid s b 0))) w := by
  unfold execOp
  simp only [ho, List.map_toArray, List.map_cons, List.map_nil, hx, Sem.run_bind, Sem.run_pure, Result.andThen_ok, run_build_cid1 s b hl]
theorem cid_set {w : World} {g : Nat} {s : Bool} {b : List Int} (hl : b.length = 16) (h : Blk w g 50 (cid s b 0)) (n : Int) : Blk (w.setCell ⟨g, 17, none⟩ (.int .i64 n)) g 50 (cid s b n) := by
  have := h.set 17 (.int .i64 n)
  have e : (cid s b 0).setIfInBounds 17 (.int .i64 n) = cid s b n := by
    unfold cid
    rw [List.setIfInBounds_toArray, List.set_append_right _ _ (by simp [hl])]
    simp [hl]
  rw [e] at this
  exact this

section
variable {w : World} {c : Nat} {ad : Option Addr} {cap : Nat} {bs : List Int} {p : Nat}

theorem Cur.setOther {w w' : World} {t : TypeId} {p q : Nat} {x y : Value} (h0 : Cur w t c ad cap bs p x) (h : Cur w' t c ad cap bs q y) {r i : Nat} (hr : w.heap.size ≤ r) (v : Value) : Cur (w'.setCell ⟨r, i, none⟩ v) t c ad cap bs q y := by
  have hc := h0.obj.lt
  refine ⟨h.obj.setOther (by omega) i v, fun j hj => ?_, h.le, h.room, h.most, h.byte⟩
  obtain ⟨g, o, e, hne, hx⟩ := h.row j hj
  obtain ⟨g0, o0, e0, _, hx0⟩ := h0.row j hj
  rw [e] at e0
  cases e0
  have hg : g < w.heap.size := World.block_lt_of_cell? w _ hx0
  exact ⟨g, o, e, hne, (World.cell?_of_block (w := w') (Below.heap_setCell w' ⟨r, i, none⟩ v g (by show g ≠ r; omega))).trans hx⟩
theorem Keep.setOther {w w' : World} (h : Keep c w w') {r i : Nat} (hc : c ≤ r) (hr : w.heap.size ≤ r) (v : Value) : Keep c w (w'.setCell ⟨r, i, none⟩ v) :=
  ⟨h.low.setCell (p := ⟨r, i, none⟩) hc v, fun g hg hne => (Below.heap_setCell w' ⟨r, i, none⟩ v g (by show g ≠ r; omega)).trans (h.rest g hg hne)⟩

set_option maxRecDepth 100000 in
set_option maxHeartbeats 2000000 in
theorem crread_good (h : Cur w 41 c ad cap bs p (.int .i64 0)) (s : Bool) (b : List Int) (hl : b.length = 16) (q : Nat)
    (cA : ∀ w', Cur w' 41 c ad cap bs p (.int .i64 0) → Calls Tryz.prog 20 #[.pointer (some ⟨c, 0, none⟩)] w' (AreadEnd 41 s b c ad cap bs q (.int .i64 0) w'))
    (hq : q + 1 ≤ bs.length) (n : Nat) (hn : accN bs q 1 = n)
    (cR : ∀ w, Calls Tryz.prog 33 #[.agg (cid s b (n : Int))] w fun e w' => e = .returned (.bool true) ∧ Below w.heap.size w w') :
    Calls Tryz.prog 32 #[.pointer (some ⟨c, 0, none⟩)] w (CreadEnd 41 s b n c ad cap bs (q + 1) (.int .i64 0) w) := by
  obtain ⟨W0, hW0⟩ : ∃ W, W = w.alloc (.cells (cid false z16 0) 50) := ⟨_, rfl⟩
  have hB0 : Blk W0 w.heap.size 50 (cid false z16 0) := hW0 ▸ Blk.new w _ _
  have hb0 : Below w.heap.size w W0 := hW0 ▸ (Below.refl _ _).alloc (Nat.le_refl _) _
  have HW0 : Hid (w.alloc (.cells #[.bool false, .int .u8 0, .int .u8 0, .int .u8 0, .int .u8 0, .int .u8 0, .int .u8 0, .int .u8 0, .int .u8 0, .int .u8 0, .int .u8 0, .int .u8 0, .int .u8 0, .int .u8 0, .int .u8 0, .int .u8 0, .int .u8 0, .int .i64 0] 50) = W0) := Lib.hid hW0.symm
  have hlt := h.obj.lt
  have hne : w.heap.size ≠ c := by omega
  have h0 : Cur W0 41 c ad cap bs p (.int .i64 0) := h.kept hb0
  have CA := Lib.hid (cA W0 h0)
  have CN : Hid (∀ w', Cur w' 41 c ad cap bs q (.int .i64 0) → Calls Tryz.prog 54 #[.pointer (some ⟨c, 0, none⟩), .int .i64 1] w' (CurEnd (.int .i64 (n : Int)) 41 c ad cap bs (q + 1) (.int .i64 0) w')) := Lib.hid fun w' hC => by
    have := rnum_ok hC 1 (by decide) (by decide) hq
    rw [hn] at this
    exact this
  have CRt := Lib.hid cR
  have HB0 := Lib.hid hB0
  have H := Lib.hid h
  have HLb := Lib.hid hl
  have L18 : Hid (18 = (cid s b (n : Int)).size) := Lib.hid (by rw [cid_size, hl])
  have L180 : Hid (18 = (cid s b 0).size) := Lib.hid (by rw [cid_size, hl])
  have HWo := Lib.hid hW0
  clear hW0 hB0 hb0 h h0 cA cR hn hl
  go_enter Tryz.func32, Tryz.ntmps32
  go_wp2_with fail
  rw [HW0.out]
  refine CA.out.mono ?_
  rintro e w1 ⟨rfl, hC1, hK1⟩
  obtain ⟨W3, hW3⟩ : ∃ W, W = w1.alloc (.cells (cid false z16 0) 50) := ⟨_, rfl⟩
  have hB3 : Blk W3 w1.heap.size 50 (cid false z16 0) := hW3 ▸ Blk.new w1 _ _
  have hb3 : Below w1.heap.size w1 W3 := hW3 ▸ (Below.refl _ _).alloc (Nat.le_refl _) _
  have HW3 : Hid (w1.alloc (.cells #[.bool false, .int .u8 0, .int .u8 0, .int .u8 0, .int .u8 0, .int .u8 0, .int .u8 0, .int .u8 0, .int .u8 0, .int .u8 0, .int .u8 0, .int .u8 0, .int .u8 0, .int .u8 0, .int .u8 0, .int .u8 0, .int .u8 0, .int .i64 0] 50) = W3) := Lib.hid hW3.symm
  obtain ⟨V, hV⟩ : ∃ V, V = W3.setRow w1.heap.size (cid s b 0) := ⟨_, rfl⟩
  have HV := Lib.hid hV.symm
  have hbV : Below w1.heap.size w1 V := hV ▸ below_setRow hb3 (Nat.le_refl _) _
  have HB3 := Lib.hid hB3
  have HBV : Hid (Blk V w1.heap.size 50 (cid s b 0)) := Lib.hid (hV ▸ hB3.row _)
  have hc1 := hC1.obj.lt
  have hne1 : w1.heap.size ≠ c := by omega
  have HBR : Hid (Blk V w.heap.size 50 (cid false z16 0)) := Lib.hid ((hK1.blk HB0.out hne).kept hbV)
  have HkV : Hid (Keep c W0 V) := Lib.hid (hK1.trans (Keep.of hbV (Nat.le_of_lt hc1)))
  have Hsz9 : Hid (W0.heap.size ≤ w1.heap.size) := Lib.hid hK1.low.size
  have hr1 : w.heap.size < w1.heap.size := by
    have := hK1.low.size
    have h2 := HB0.out.lt
    omega
  have CN1 := Lib.hid (CN.out V (hC1.kept hbV))
  clear hC1 hK1 hW3 hB3 hb3 hV hbV
  go_wp2_with ((try rw [HW3.out]); first | (refine wpl_run (.agg (cid s b 0)) _ (exec_build_cid1 (.tmp 5) rfl s b HLb.out rfl _) rfl ?_) | (refine wpl_store 50 _ _ rfl w1.heap.size (cid s b 0) rfl rfl _ _ HB3.out 18 Tryz.infoCidr L180.out rfl (cid_one _ _ _) rfl ?_; rw [HV.out]))
  refine CN1.out.mono ?_
  rintro e w4 ⟨rfl, hC4, hK4⟩
  have hX4 : Blk w4 w1.heap.size 50 (cid s b 0) := hK4.blk HBV.out hne1
  have hR4 : Blk w4 w.heap.size 50 (cid false z16 0) := hK4.blk HBR.out hne
  obtain ⟨w5, hw5⟩ : ∃ w5, w5 = w4.setCell ⟨w1.heap.size, 17, none⟩ (.int .i64 (n : Int)) := ⟨_, rfl⟩
  have hf17 := hX4.frozen 17
  have hc17 : w4.cell? ⟨w1.heap.size, 17, none⟩ = some (.int .i64 0) := cid_bitsCell hX4 HLb.out
  have HX5 : Hid (Blk w5 w1.heap.size 50 (cid s b (n : Int))) := Lib.hid (hw5 ▸ cid_set HLb.out hX4 n)
  have HR5 : Hid (Blk w5 w.heap.size 50 (cid false z16 0)) := Lib.hid (hw5 ▸ hR4.setOther (by omega) _ _)
  have hC5 : Cur w5 41 c ad cap bs (q + 1) (.int .i64 0) := hw5 ▸ Cur.setOther H.out hC4 (Nat.le_of_lt hr1) _
  have hk5 : Keep c W0 w5 := hw5 ▸ (HkV.out.trans hK4).setOther (by omega) Hsz9.out _
  have c25 := hC5.cell2
  have hp5 : w5.cell? ⟨w1.heap.size, 17, none⟩ = some (.int .i64 (n : Int)) := cid_bitsCell HX5.out HLb.out
  have HW5 := Lib.hid hw5.symm
  have HF : Hid (∀ V2, Below w5.heap.size w5 V2 → ∀ cs, Cur (V2.setRow w.heap.size cs) 41 c ad cap bs (q + 1) (.int .i64 0) ∧ Keep c w (V2.setRow w.heap.size cs)) := Lib.hid fun V2 hV2 cs => by
    have hk := hk5
    rw [HWo.out] at hk
    exact aread_fin H.out hC5 hk hV2 cs
  have HC5 := Lib.hid hC5
  clear hC4 hK4 hX4 hR4 hw5 hC5 hk5
  go_upto_region 3 with fail
  rw [HW5.out]
  go_wp2_with (refine wpl_load 50 _ rfl w1.heap.size rfl _ _ _ HX5.out Tryz.underlying50 rfl 18 Tryz.infoCidr L18.out rfl ?_)
  refine (CRt.out w5).mono ?_
  rintro e w6 ⟨rfl, hb6⟩
  have HX6 := Lib.hid (HX5.out.kept hb6)
  have HR6 := Lib.hid (HR5.out.kept hb6)
  have HF6 := Lib.hid (HF.out w6 hb6)
  have c26 := (HC5.out.kept hb6).cell2
  clear hb6 hp5
  go_wp2_with (first | (refine wpl_load 50 _ rfl w1.heap.size rfl _ _ _ HX6.out Tryz.underlying50 rfl 18 Tryz.infoCidr L18.out rfl ?_) | (refine wpl_store 50 _ _ rfl w.heap.size (cid s b (n : Int)) rfl rfl _ _ HR6.out 18 Tryz.infoCidr L18.out rfl (cid_one _ _ _) rfl ?_))
  exact retA rfl w.heap.size rfl _ _ _ (HR6.out.row _) Tryz.underlying50 rfl 18 Tryz.infoCidr L18.out rfl ⟨rfl, (HF6.out _).1, (HF6.out _).2⟩

set_option maxRecDepth 100000 in
set_option maxHeartbeats 2000000 in
theorem crread_keeps (h : Cur w 41 c ad cap bs p (.int .i64 0)) (s : Bool) (b : List Int) (hl : b.length = 16) (q q2 : Nat) (x : Value) (y : Int) (hy : y ≠ 0) 
    (cA : ∀ w', Cur w' 41 c ad cap bs p (.int .i64 0) → Calls Tryz.prog 20 #[.pointer (some ⟨c, 0, none⟩)] w' (AreadEnd 41 s b c ad cap bs q x w'))
    (cN : ∀ w', Cur w' 41 c ad cap bs q x → Calls Tryz.prog 54 #[.pointer (some ⟨c, 0, none⟩), .int .i64 1] w' (CurEnd (.int .i64 0) 41 c ad cap bs q2 (.int .i64 y) w')) :
    Calls Tryz.prog 32 #[.pointer (some ⟨c, 0, none⟩)] w (CreadEnd 41 false z16 0 c ad cap bs q2 (.int .i64 y) w) := by
  obtain ⟨W0, hW0⟩ : ∃ W, W = w.alloc (.cells (cid false z16 0) 50) := ⟨_, rfl⟩
  have hB0 : Blk W0 w.heap.size 50 (cid false z16 0) := hW0 ▸ Blk.new w _ _
  have hb0 : Below w.heap.size w W0 := hW0 ▸ (Below.refl _ _).alloc (Nat.le_refl _) _
  have HW0 : Hid (w.alloc (.cells #[.bool false, .int .u8 0, .int .u8 0, .int .u8 0, .int .u8 0, .int .u8 0, .int .u8 0, .int .u8 0, .int .u8 0, .int .u8 0, .int .u8 0, .int .u8 0, .int .u8 0, .int .u8 0, .int .u8 0, .int .u8 0, .int .u8 0, .int .i64 0] 50) = W0) := Lib.hid hW0.symm
  have hlt := h.obj.lt
  have hne : w.heap.size ≠ c := by omega
  have h0 : Cur W0 41 c ad cap bs p (.int .i64 0) := h.kept hb0
  have CA := Lib.hid (cA W0 h0)
  have CN := Lib.hid cN
  have dy : (y == 0) = false := by rw [beq_eq_false_iff_ne]; exact hy
  have dy2 : (y != 0) = true := by rw [bne_iff_ne]; exact hy
  have HB0 := Lib.hid hB0
  have H := Lib.hid h
  have HLb := Lib.hid hl
  have L180 : Hid (18 = (cid s b 0).size) := Lib.hid (by rw [cid_size, hl])
  have HWo := Lib.hid hW0
  clear hW0 hB0 hb0 h h0 cA cN hl hy
  go_enter Tryz.func32, Tryz.ntmps32
  go_wp2_with fail
  rw [HW0.out]
  refine CA.out.mono ?_
  rintro e w1 ⟨rfl, hC1, hK1⟩
  obtain ⟨W3, hW3⟩ : ∃ W, W = w1.alloc (.cells (cid false z16 0) 50) := ⟨_, rfl⟩
  have hB3 : Blk W3 w1.heap.size 50 (cid false z16 0) := hW3 ▸ Blk.new w1 _ _
  have hb3 : Below w1.heap.size w1 W3 := hW3 ▸ (Below.refl _ _).alloc (Nat.le_refl _) _
  have HW3 : Hid (w1.alloc (.cells #[.bool false, .int .u8 0, .int .u8 0, .int .u8 0, .int .u8 0, .int .u8 0, .int .u8 0, .int .u8 0, .int .u8 0, .int .u8 0, .int .u8 0, .int .u8 0, .int .u8 0, .int .u8 0, .int .u8 0, .int .u8 0, .int .u8 0, .int .i64 0] 50) = W3) := Lib.hid hW3.symm
  obtain ⟨V, hV⟩ : ∃ V, V = W3.setRow w1.heap.size (cid s b 0) := ⟨_, rfl⟩
  have HV := Lib.hid hV.symm
  have hbV : Below w1.heap.size w1 V := hV ▸ below_setRow hb3 (Nat.le_refl _) _
  have HB3 := Lib.hid hB3
  have HBV : Hid (Blk V w1.heap.size 50 (cid s b 0)) := Lib.hid (hV ▸ hB3.row _)
  have hc1 := hC1.obj.lt
  have hne1 : w1.heap.size ≠ c := by omega
  have HBR : Hid (Blk V w.heap.size 50 (cid false z16 0)) := Lib.hid ((hK1.blk HB0.out hne).kept hbV)
  have HkV : Hid (Keep c W0 V) := Lib.hid (hK1.trans (Keep.of hbV (Nat.le_of_lt hc1)))
  have Hsz9 : Hid (W0.heap.size ≤ w1.heap.size) := Lib.hid hK1.low.size
  have hr1 : w.heap.size < w1.heap.size := by
    have := hK1.low.size
    have h2 := HB0.out.lt
    omega
  have CN1 := Lib.hid (CN.out V (hC1.kept hbV))
  clear hC1 hK1 hW3 hB3 hb3 hV hbV
  go_wp2_with ((try rw [HW3.out]); first | (refine wpl_run (.agg (cid s b 0)) _ (exec_build_cid1 (.tmp 5) rfl s b HLb.out rfl _) rfl ?_) | (refine wpl_store 50 _ _ rfl w1.heap.size (cid s b 0) rfl rfl _ _ HB3.out 18 Tryz.infoCidr L180.out rfl (cid_one _ _ _) rfl ?_; rw [HV.out]))
  refine CN1.out.mono ?_
  rintro e w4 ⟨rfl, hC4, hK4⟩
  have hX4 : Blk w4 w1.heap.size 50 (cid s b 0) := hK4.blk HBV.out hne1
  have hR4 : Blk w4 w.heap.size 50 (cid false z16 0) := hK4.blk HBR.out hne
  obtain ⟨w4', hw4'⟩ : ∃ w5, w5 = w4.setCell ⟨w1.heap.size, 17, none⟩ (.int .i64 0) := ⟨_, rfl⟩
  have hf17 := hX4.frozen 17
  have hc17 : w4.cell? ⟨w1.heap.size, 17, none⟩ = some (.int .i64 0) := cid_bitsCell hX4 HLb.out
  have hX4' : Blk w4' w1.heap.size 50 (cid s b 0) := hw4' ▸ cid_set HLb.out hX4 0
  have hR4' : Blk w4' w.heap.size 50 (cid false z16 0) := hw4' ▸ hR4.setOther (by omega) _ _
  have hC4' : Cur w4' 41 c ad cap bs q2 (.int .i64 y) := hw4' ▸ Cur.setOther H.out hC4 (Nat.le_of_lt hr1) _
  have hk4' : Keep c W0 w4' := hw4' ▸ (HkV.out.trans hK4).setOther (by omega) Hsz9.out _
  have c25 := hC4'.cell2
  have hp5 : w4'.cell? ⟨w1.heap.size, 17, none⟩ = some (.int .i64 0) := cid_bitsCell hX4' HLb.out
  have HW5 := Lib.hid hw4'.symm
  obtain ⟨w5, hw5⟩ : ∃ w5, w5 = w4' := ⟨_, rfl⟩
  have hC5 : Cur w5 41 c ad cap bs q2 (.int .i64 y) := hw5 ▸ hC4'
  have hk5 : Keep c W0 w5 := hw5 ▸ hk4'
  have HR5 : Hid (Blk w5 w.heap.size 50 (cid false z16 0)) := Lib.hid (hw5 ▸ hR4')
  have HF : Hid (∀ cs, Cur (w5.setRow w.heap.size cs) 41 c ad cap bs q2 (.int .i64 y) ∧ Keep c w (w5.setRow w.heap.size cs)) := Lib.hid fun cs => by
    have hk := hk5
    rw [HWo.out] at hk
    exact aread_fin H.out hC5 hk (Below.refl _ _) cs
  subst hw5
  clear hC4 hK4 hX4 hR4 hC5 hk5 hX4' hR4' hC4' hk4' hw4'
  go_upto_region 3 with fail
  rw [HW5.out]
  go_wp2_with (refine wpl_store 50 _ _ rfl w.heap.size (cid false z16 0) rfl rfl _ _ HR5.out 18 Tryz.infoCidr rfl rfl (cid_one _ _ _) rfl ?_)
  exact retA rfl w.heap.size rfl _ _ _ (HR5.out.row _) Tryz.underlying50 rfl 18 Tryz.infoCidr rfl rfl ⟨rfl, (HF.out _).1, (HF.out _).2⟩

set_option maxRecDepth 100000 in
set_option maxHeartbeats 2000000 in
theorem crread_sets (h : Cur w 41 c ad cap bs p (.int .i64 0)) (s : Bool) (b : List Int) (hl : b.length = 16) (q q2 : Nat) (n : Nat) (x : Value) 
    (cA : ∀ w', Cur w' 41 c ad cap bs p (.int .i64 0) → Calls Tryz.prog 20 #[.pointer (some ⟨c, 0, none⟩)] w' (AreadEnd 41 s b c ad cap bs q x w'))
    (cN : ∀ w', Cur w' 41 c ad cap bs q x → Calls Tryz.prog 54 #[.pointer (some ⟨c, 0, none⟩), .int .i64 1] w' (CurEnd (.int .i64 (n : Int)) 41 c ad cap bs q2 (.int .i64 0) w'))
    (cR : ∀ w, Calls Tryz.prog 33 #[.agg (cid s b (n : Int))] w fun e w' => e = .returned (.bool false) ∧ Below w.heap.size w w') :
    Calls Tryz.prog 32 #[.pointer (some ⟨c, 0, none⟩)] w (CreadEnd 41 false z16 0 c ad cap bs q2 (.int .i64 1) w) := by
  obtain ⟨W0, hW0⟩ : ∃ W, W = w.alloc (.cells (cid false z16 0) 50) := ⟨_, rfl⟩
  have hB0 : Blk W0 w.heap.size 50 (cid false z16 0) := hW0 ▸ Blk.new w _ _
  have hb0 : Below w.heap.size w W0 := hW0 ▸ (Below.refl _ _).alloc (Nat.le_refl _) _
  have HW0 : Hid (w.alloc (.cells #[.bool false, .int .u8 0, .int .u8 0, .int .u8 0, .int .u8 0, .int .u8 0, .int .u8 0, .int .u8 0, .int .u8 0, .int .u8 0, .int .u8 0, .int .u8 0, .int .u8 0, .int .u8 0, .int .u8 0, .int .u8 0, .int .u8 0, .int .i64 0] 50) = W0) := Lib.hid hW0.symm
  have hlt := h.obj.lt
  have hne : w.heap.size ≠ c := by omega
  have h0 : Cur W0 41 c ad cap bs p (.int .i64 0) := h.kept hb0
  have CA := Lib.hid (cA W0 h0)
  have CN := Lib.hid cN
  have CRt := Lib.hid cR
  have L18 : Hid (18 = (cid s b (n : Int)).size) := Lib.hid (by rw [cid_size, hl])
  have HB0 := Lib.hid hB0
  have H := Lib.hid h
  have HLb := Lib.hid hl
  have L180 : Hid (18 = (cid s b 0).size) := Lib.hid (by rw [cid_size, hl])
  have HWo := Lib.hid hW0
  clear hW0 hB0 hb0 h h0 cA cN cR hl
  go_enter Tryz.func32, Tryz.ntmps32
  go_wp2_with fail
  rw [HW0.out]
  refine CA.out.mono ?_
  rintro e w1 ⟨rfl, hC1, hK1⟩
  obtain ⟨W3, hW3⟩ : ∃ W, W = w1.alloc (.cells (cid false z16 0) 50) := ⟨_, rfl⟩
  have hB3 : Blk W3 w1.heap.size 50 (cid false z16 0) := hW3 ▸ Blk.new w1 _ _
  have hb3 : Below w1.heap.size w1 W3 := hW3 ▸ (Below.refl _ _).alloc (Nat.le_refl _) _
  have HW3 : Hid (w1.alloc (.cells #[.bool false, .int .u8 0, .int .u8 0, .int .u8 0, .int .u8 0, .int .u8 0, .int .u8 0, .int .u8 0, .int .u8 0, .int .u8 0, .int .u8 0, .int .u8 0, .int .u8 0, .int .u8 0, .int .u8 0, .int .u8 0, .int .u8 0, .int .i64 0] 50) = W3) := Lib.hid hW3.symm
  obtain ⟨V, hV⟩ : ∃ V, V = W3.setRow w1.heap.size (cid s b 0) := ⟨_, rfl⟩
  have HV := Lib.hid hV.symm
  have hbV : Below w1.heap.size w1 V := hV ▸ below_setRow hb3 (Nat.le_refl _) _
  have HB3 := Lib.hid hB3
  have HBV : Hid (Blk V w1.heap.size 50 (cid s b 0)) := Lib.hid (hV ▸ hB3.row _)
  have hc1 := hC1.obj.lt
  have hne1 : w1.heap.size ≠ c := by omega
  have HBR : Hid (Blk V w.heap.size 50 (cid false z16 0)) := Lib.hid ((hK1.blk HB0.out hne).kept hbV)
  have HkV : Hid (Keep c W0 V) := Lib.hid (hK1.trans (Keep.of hbV (Nat.le_of_lt hc1)))
  have Hsz9 : Hid (W0.heap.size ≤ w1.heap.size) := Lib.hid hK1.low.size
  have hr1 : w.heap.size < w1.heap.size := by
    have := hK1.low.size
    have h2 := HB0.out.lt
    omega
  have CN1 := Lib.hid (CN.out V (hC1.kept hbV))
  clear hC1 hK1 hW3 hB3 hb3 hV hbV
  go_wp2_with ((try rw [HW3.out]); first | (refine wpl_run (.agg (cid s b 0)) _ (exec_build_cid1 (.tmp 5) rfl s b HLb.out rfl _) rfl ?_) | (refine wpl_store 50 _ _ rfl w1.heap.size (cid s b 0) rfl rfl _ _ HB3.out 18 Tryz.infoCidr L180.out rfl (cid_one _ _ _) rfl ?_; rw [HV.out]))
  refine CN1.out.mono ?_
  rintro e w4 ⟨rfl, hC4, hK4⟩
  have hX4 : Blk w4 w1.heap.size 50 (cid s b 0) := hK4.blk HBV.out hne1
  have hR4 : Blk w4 w.heap.size 50 (cid false z16 0) := hK4.blk HBR.out hne
  obtain ⟨w4', hw4'⟩ : ∃ w5, w5 = w4.setCell ⟨w1.heap.size, 17, none⟩ (.int .i64 (n : Int)) := ⟨_, rfl⟩
  have hf17 := hX4.frozen 17
  have hc17 : w4.cell? ⟨w1.heap.size, 17, none⟩ = some (.int .i64 0) := cid_bitsCell hX4 HLb.out
  have hX4' : Blk w4' w1.heap.size 50 (cid s b (n : Int)) := hw4' ▸ cid_set HLb.out hX4 n
  have hR4' : Blk w4' w.heap.size 50 (cid false z16 0) := hw4' ▸ hR4.setOther (by omega) _ _
  have hC4' : Cur w4' 41 c ad cap bs q2 (.int .i64 0) := hw4' ▸ Cur.setOther H.out hC4 (Nat.le_of_lt hr1) _
  have hk4' : Keep c W0 w4' := hw4' ▸ (HkV.out.trans hK4).setOther (by omega) Hsz9.out _
  have c25 := hC4'.cell2
  have HX4' := Lib.hid hX4'
  have HW5 := Lib.hid hw4'.symm
  have HC4' := Lib.hid hC4'
  have HR4' := Lib.hid hR4'
  have Hk4' := Lib.hid hk4'
  clear hC4 hK4 hX4 hR4 hw4' hX4' hR4' hC4' hk4'
  go_upto_region 3 with fail
  rw [HW5.out]
  go_wp2_with (refine wpl_load 50 _ rfl w1.heap.size rfl _ _ _ HX4'.out Tryz.underlying50 rfl 18 Tryz.infoCidr L18.out rfl ?_)
  refine (CRt.out w4').mono ?_
  rintro e w6 ⟨rfl, hb6⟩
  have hC6 := HC4'.out.kept hb6
  have hk6 : Keep c W0 w6 := Hk4'.out.trans (Keep.of hb6 (Nat.le_of_lt HC4'.out.obj.lt))
  have hR6 := HR4'.out.kept hb6
  obtain ⟨w5, hw5⟩ : ∃ w5, w5 = w6.setCell ⟨c, 2, none⟩ (.int .i64 1) := ⟨_, rfl⟩
  have hfc := hC6.free 2
  have c26 := hC6.cell2
  have hC5 : Cur w5 41 c ad cap bs q2 (.int .i64 1) := hw5 ▸ hC6.fails _
  have hks : Keep c w6 w5 := hw5 ▸ Keep.set _ c 2 _
  have hk5 : Keep c W0 w5 := hk6.trans hks
  have HR5 : Hid (Blk w5 w.heap.size 50 (cid false z16 0)) := Lib.hid (hks.blk hR6 hne)
  have c255 := hC5.cell2
  have HW6 := Lib.hid hw5.symm
  have HF : Hid (∀ cs, Cur (w5.setRow w.heap.size cs) 41 c ad cap bs q2 (.int .i64 1) ∧ Keep c w (w5.setRow w.heap.size cs)) := Lib.hid fun cs => by
    have hk := hk5
    rw [HWo.out] at hk
    exact aread_fin H.out hC5 hk (Below.refl _ _) cs
  clear hC6 hk6 hR6 hb6 hw5 hC5 hks hk5
  go_upto_region 5 with fail
  rw [HW6.out]
  go_wp2_with (refine wpl_store 50 _ _ rfl w.heap.size (cid false z16 0) rfl rfl _ _ HR5.out 18 Tryz.infoCidr rfl rfl (cid_one _ _ _) rfl ?_)
  exact retA rfl w.heap.size rfl _ _ _ (HR5.out.row _) Tryz.underlying50 rfl 18 Tryz.infoCidr rfl rfl ⟨rfl, (HF.out _).1, (HF.out _).2⟩

theorem crread_any (h : Cur w 41 c ad cap bs p (.int .i64 0)) :
    Calls Tryz.prog 32 #[.pointer (some ⟨c, 0, none⟩)] w (CreadEnd 41 (readC bs p).1.1.1 (readC bs p).1.1.2 ((readC bs p).1.2 : Nat) c ad cap bs (readC bs p).2.1 (.int .i64 ((readC bs p).2.2 : Nat)) w) := by
  have cA : ∀ w', Cur w' 41 c ad cap bs p (.int .i64 0) → Calls Tryz.prog 20 #[.pointer (some ⟨c, 0, none⟩)] w' (AreadEnd 41 (readA bs p).1.1 (readA bs p).1.2 c ad cap bs (readA bs p).2.1 (.int .i64 ((readA bs p).2.2 : Nat)) w') := fun w' hC => rread_any hC
  have hl := readA_len bs p
  have hmm := readA_mem bs p h.byte
  unfold readC
  generalize readA bs p = R at *
  obtain ⟨⟨s, b⟩, q, k⟩ := R
  simp only at cA hl hmm ⊢
  have cR : ∀ (n : Int) w, Calls Tryz.prog 33 #[.agg (cid s b n)] w fun e w' => e = .returned (.bool (rightC s b n)) ∧ Below w.heap.size w w' := fun n w => by
    obtain ⟨C, rfl, hC⟩ := nats_of b hmm
    exact rright_any s C (by rw [← ints_length, hl]) hC n w
  by_cases hk : k = 0
  · subst hk
    rw [if_pos rfl]
    have cA' : ∀ w', Cur w' 41 c ad cap bs p (.int .i64 0) → Calls Tryz.prog 20 #[.pointer (some ⟨c, 0, none⟩)] w' (AreadEnd 41 s b c ad cap bs q (.int .i64 0) w') := cA
    by_cases hq : q + 1 ≤ bs.length
    · rw [if_pos hq]
      cases hn : rightC s b (accN bs q 1 : Nat) with
      | false =>
        rw [if_neg (by simp)]
        exact crread_sets h s b hl q (q + 1) (accN bs q 1) _ cA' (fun w' hC => rnum_ok hC 1 (by decide) (by decide) hq) (fun w => by
          have := cR (accN bs q 1 : Nat) w
          rw [hn] at this
          exact this)
      | true =>
        rw [if_pos rfl]
        exact crread_good h s b hl q cA' hq _ rfl (fun w => by
          have := cR (accN bs q 1 : Nat) w
          rw [hn] at this
          exact this)
    · rw [if_neg hq]
      exact crread_keeps h s b hl q q _ 2 (by decide) cA' fun w' hC => rnum_short hC 1 (by decide) (by decide) (by omega)
  · rw [if_neg hk]
    simp only
    refine crread_keeps h s b hl q q _ k (by omega) cA fun w' hC => ?_
    refine (rnum_bad hC (by omega) 1).mono ?_
    rintro e w2 ⟨rfl, rfl⟩
    exact ⟨rfl, hC, Keep.refl _ _⟩
end
end Go.Proofs.YtnfkgoeocebenaaGreatDoor
