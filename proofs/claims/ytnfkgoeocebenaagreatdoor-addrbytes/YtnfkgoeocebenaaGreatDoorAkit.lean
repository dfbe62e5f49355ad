/-
  What the walk of AddrBytes asks for: the document's Bytes; steps of regions that draw.
-/
import Derived.Test.YtnfkgoeocebenaaGreatDoorKrread
import Derived.Test.YtnfkgoeocebenaaGreatDoorKput
import Derived.Test.YtnfkgoeocebenaaGreatDoorFewb
import Derived.Deep.MidRow
namespace Go.Proofs.YtnfkgoeocebenaaGreatDoor
open Go.RowKit

/-- v is a slice of bytes l, in a block from B on. -/
def BytesIn (w : World) (B : Nat) (v : Value) (l : List Int) : Prop := ∃ g o cap, v = .slice (some ⟨g, o, none⟩) l.length cap ∧ B ≤ g ∧ ∀ j, j < l.length → w.cell? ⟨g, o + j, none⟩ = some (.int .u8 (l.getD j 0))
theorem BytesIn.kept {w w' : World} {B : Nat} {v : Value} {l : List Int} (h : BytesIn w B v l) (hb : Below w.heap.size w w') : BytesIn w' B v l := by
  obtain ⟨g, o, cap, h1, h2, h3⟩ := h
  exact ⟨g, o, cap, h1, h2, fun j hj => cell_kept (h3 j hj) hb⟩
theorem BytesIn.mono {w : World} {B B' : Nat} {v : Value} {l : List Int} (h : BytesIn w B v l) (hb : B' ≤ B) : BytesIn w B' v l := by
  obtain ⟨g, o, cap, h1, h2, h3⟩ := h
  exact ⟨g, o, cap, h1, Nat.le_trans hb h2, h3⟩
theorem BytesIn.keep {w w' : World} {B c : Nat} {v : Value} {l : List Int} (h : BytesIn w B v l) (hk : Keep c w w') (hc : c < B) : BytesIn w' B v l := by
  obtain ⟨g, o, cap, h1, h2, h3⟩ := h
  exact ⟨g, o, cap, h1, h2, fun j hj => hk.cell (h3 j hj) (by omega)⟩
theorem own_in {w : World} {B : Nat} {v : Value} {l : List Int} (h : w.ownsRow B 5 1 v l.length (l.map (Value.int .u8))) (h0 : 0 < l.length) : BytesIn w B v l := by
  obtain ⟨g, cap, rfl, h1, _, _⟩ := own_shape h h0
  refine ⟨g, 0, cap, rfl, h1, fun j hj => ?_⟩
  rw [Nat.zero_add, h.cellAt j (by omega)]
  simp [List.getD, List.getElem?_map, List.getElem?_eq_getElem hj]

theorem exec_conv2 {o : Oper} {a : Act} {w : World} (x : Operand) (ho : o.op = .convert 25 9 x) (v : Value) (hx : a.eval x = v) (l : List Int) {B : Nat} (h : BytesIn w B v l) :
    (execOp a.eval o).run Tryz.prog w = .ok (.value (.string (strOfNums l))) w := by
  obtain ⟨g, off, cap, rfl, _, hc⟩ := h
  have h := run_convert_bytes_arg (P := Tryz.prog) w 25 5 Tryz.underlying25 Tryz.underlying5 g off l.length cap l rfl hc 9 Tryz.underlying9
  unfold execOp
  simp only [ho, hx, Sem.run_bind, h, Result.andThen_ok, Sem.run_pure]
theorem exec_sneq4 {P : Program} {a : Act} {w : World} {o : Oper} (t t' : TypeId) (x y : Operand) (ho : o.op = .binOp .neq t x y t') (s : ByteArray) (hx : a.eval x = .string s) (hy : a.eval y = .string s) :
    (execOp a.eval o).run P w = .ok (.value (.bool false)) w := by
  unfold execOp
  simp only [ho, hx, hy, eqGuard, binOp]
  simp [Op.stringOp, go_sem]
theorem exec_seql4 {P : Program} {a : Act} {w : World} {o : Oper} (t t' : TypeId) (x y : Operand) (ho : o.op = .binOp .eql t x y t') (s : ByteArray) (hx : a.eval x = .string s) (hy : a.eval y = .string s) :
    (execOp a.eval o).run P w = .ok (.value (.bool true)) w := by
  unfold execOp
  simp only [ho, hx, hy, eqGuard, binOp]
  simp [Op.stringOp, go_sem]
theorem exec_neql4 {P : Program} {a : Act} {w : World} {o : Oper} (t t' : TypeId) (x y : Operand) (ho : o.op = .binOp .eql t x y t') (n : Int) (hx : a.eval x = .int .i64 n) (hy : a.eval y = .int .i64 n) :
    (execOp a.eval o).run P w = .ok (.value (.bool true)) w := by
  unfold execOp
  simp only [ho, hx, hy, eqGuard, binOp]
  simp [go_sem]
theorem run_neq_adr (s : Bool) (b : List Int) (hl : b.length = 16) (w : World) : (binOp .neq 24 (.agg (adr s b)) (.agg (adr s b))).run Tryz.prog w = .ok (.bool false) w := by
  rw [run_neq_struct, equalIn_adr 9997 s s b b hl hl, show (s == s && b == b) = true by simp]
  rfl
set_option maxRecDepth 100000 in
theorem exec_neq_adr {a : Act} {o : Oper} (x y : Operand) (ho : o.op = .binOp .neq 24 x y 24) (s : Bool) (b : List Int) (hl : b.length = 16) (hx : a.eval x = .agg (adr s b)) (hy : a.eval y = .agg (adr s b)) (w : World) :
    (execOp a.eval o).run Tryz.prog w = .ok (.value (.bool false)) w := by
  have h := run_neq_adr s b hl w
  unfold execOp
  simp only [ho, hx, hy]
  simp [go_sem] at h ⊢
  first | exact h | simp [h]
set_option maxRecDepth 100000 in
theorem exec_eql_adr {a : Act} {o : Oper} (x y : Operand) (ho : o.op = .binOp .eql 24 x y 24) (s : Bool) (b : List Int) (hl : b.length = 16) (hx : a.eval x = .agg (adr s b)) (hy : a.eval y = .agg (adr s b)) (w : World) :
    (execOp a.eval o).run Tryz.prog w = .ok (.value (.bool true)) w := by
  have h := eql_adr s s b b hl hl w
  rw [show (s == s && b == b) = true by simp] at h
  unfold execOp
  simp only [ho, hx, hy]
  simp [go_sem] at h ⊢
  first | exact h | simp [h]
theorem run_build_six (b : List Int) (hl : b.length = 16) (w : World) : (Instr.build 24 #[(0, .bool true), (1, .agg (arr .u8 b))]).run Tryz.prog w = .ok (.agg (adr true b)) w := by
  match b, hl with
  | [a0, a1, a2, a3, a4, a5, a6, a7, a8, a9, a10, a11, a12, a13, a14, a15], _ =>
    show _ = _
    kernel_rfl
theorem exec_build_six {a : Act} {o : Oper} (x y : Operand) (ho : o.op = .build 24 #[(0, x), (1, y)]) (b : List Int) (hl : b.length = 16) (hx : a.eval x = .bool true) (hy : a.eval y = .agg (arr .u8 b)) (w : World) :
    (execOp a.eval o).run Tryz.prog w = .ok (.value (.agg (adr true b))) w := by
  unfold execOp
  simp only [ho, List.map_toArray, List.map_cons, List.map_nil, hx, hy, Sem.run_bind, Sem.run_pure, Result.andThen_ok, run_build_six b hl]
theorem adr_range {w : World} {g : Nat} {s : Bool} {b : List Int} (h : Blk w g 24 (adr s b)) : w.rangeAt g 1 (arr .u8 b).toList := by
  intro j v hv
  rw [h.cell, Nat.add_comm 1 j]
  simp only [arr] at hv
  simp only [adr, List.getElem?_toArray, List.getElem?_cons_succ]
  exact hv
theorem yields_arr {S : World → Prop} {ops : Array Oper} {a : Act} {oi : Oper} (x : Operand) (ho : oi.op = .load 22 x) (g : Nat) (hx : a.eval x = .pointer (some ⟨g, 1, none⟩)) (s : Bool) (b : List Int)
    (hS : ∀ w, S w → Blk w g 24 (adr s b)) (hl : b.length = 16) (hw : Region.wanted oi (yielded ops a.tmps) = true) : YieldsIf Tryz.prog ops S oi (.agg (arr .u8 b)) a :=
  yieldsIf_load_mid hw 22 x ho g 1 hx (arr .u8 b).toList _ (fun w h => adr_range (hS w h)) Tryz.underlying22 rfl (by rw [Array.length_toList, arr_size, hl]; exact Tryz.infoArr)
theorem yields_bool {S : World → Prop} {ops : Array Oper} {a : Act} {oi : Oper} (x : Operand) (ho : oi.op = .load 4 x) (g : Nat) (hx : a.eval x = .pointer (some ⟨g, 0, none⟩)) (s : Bool)
    (hS : ∀ w, S w → w.cell? ⟨g, 0, none⟩ = some (.bool s)) (hw : Region.wanted oi (yielded ops a.tmps) = true) : YieldsIf Tryz.prog ops S oi (.bool s) a :=
  .inl ⟨hw, fun w hw' => by
    have h := hS w hw'
    unfold execOp
    simp only [ho, hx]
    simp [go_sem, h]⟩
theorem yields_num {S : World → Prop} {ops : Array Oper} {a : Act} {oi : Oper} (x : Operand) (ho : oi.op = .load 3 x) (g off : Nat) (hx : a.eval x = .pointer (some ⟨g, off, none⟩)) (n : Int)
    (hS : ∀ w, S w → w.cell? ⟨g, off, none⟩ = some (.int .i64 n)) (hw : Region.wanted oi (yielded ops a.tmps) = true) : YieldsIf Tryz.prog ops S oi (.int .i64 n) a :=
  .inl ⟨hw, fun w hw' => by
    have h := hS w hw'
    unfold execOp
    simp only [ho, hx]
    simp [go_sem, h]⟩
theorem op_callV {P : Program} {a : Act} {w : World} {o : Oper} {K : Act → World → Prop} {Q : Exit → Act → World → Prop} (f : FuncId) (args : Array Value) (hrun : (execOp a.eval o).run P w = .ok (.enter f args) w) {R : World → Prop} (v : Value)
    (hc : Calls P f args w fun e w' => e = .returned v ∧ R w') (h : ∀ w', R w' → K (a.put o.dst v) w') : Oper.wp P o a w K Q := by
  unfold Oper.wp
  rw [hrun, Oper.upon_enter]
  refine hc.mono fun e w'' hh => ?_
  obtain ⟨rfl, hR⟩ := hh
  exact h _ hR
theorem Cur.otherA {w w' : World} {t : TypeId} {c d : Nat} {ad : Option Addr} {cap : Nat} {bs : List Int} {p : Nat} {x : Value} (h : Cur w t c ad cap bs p x) (hk : Keep d w w') (hd : c ≠ d) (hg : ∀ g o, ad = some ⟨g, o, none⟩ → 0 < bs.length → g ≠ d) : Cur w' t c ad cap bs p x :=
  ⟨hk.blk h.obj hd, h.row.keep hk (fun j hj g o e => hg g o e (by omega)), h.le, h.room, h.most, h.byte⟩

/-- The bytes of an address. -/
def bytesA (s : Bool) (b : List Int) : List Int := if s then b.take 16 else b.take 4
theorem bytesA_len (s : Bool) (b : List Int) (hl : b.length = 16) : (bytesA s b).length = if s then 16 else 4 := by cases s <;> simp [bytesA, hl]

set_option maxRecDepth 100000 in
set_option maxHeartbeats 1000000 in
theorem rbytesA (s : Bool) (b : List Int) (hl : b.length = 16) (w : World) : Calls Tryz.prog 10 #[.agg (adr s b)] w fun e w' => ∃ v, e = .returned v ∧ (BytesIn w' w.heap.size v (bytesA s b) ∧ Below w.heap.size w w') := by
  obtain ⟨W0, hW0⟩ : ∃ W, W = w.alloc (.cells (adr s b) 24) := ⟨_, rfl⟩
  have hB0 : Blk W0 w.heap.size 24 (adr s b) := hW0 ▸ Blk.new w _ _
  have hb0 : Below w.heap.size w W0 := hW0 ▸ (Below.refl _ _).alloc (Nat.le_refl _) _
  have h0 : W0.cell? ⟨w.heap.size, 0, none⟩ = some (.bool s) := by rw [hB0.cell]; rfl
  have HW0 := Lib.hid hW0.symm
  have HF : Hid (∀ n, n ≤ 16 → ∀ j, j < (b.take n).length → W0.cell? ⟨w.heap.size, 1 + j, none⟩ = some (.int .u8 ((b.take n).getD j 0))) := Lib.hid fun n hn j hj => by
    rw [List.length_take] at hj
    rw [hB0.cell, adr_at s b j (by omega), nth, List.getD, List.getD, List.getElem?_take_of_lt (by omega)]
  have HL := Lib.hid hl
  have Hb0 := Lib.hid hb0
  clear hW0 hB0 hl hb0
  cases s with
  | true =>
    go_enter Tryz.func10, Tryz.ntmps10
    go_upto_region 1 with fail
    rw [HW0.out]
    go_wp2
    go_ret
    exact ⟨_, rfl, ⟨w.heap.size, 1, 16, by rw [bytesA_len true b HL.out]; rfl, Nat.le_refl _, HF.out 16 (by omega)⟩, Hb0.out⟩
  | false =>
    go_enter Tryz.func10, Tryz.ntmps10
    go_upto_region 1 with fail
    rw [HW0.out]
    go_wp2
    go_ret
    exact ⟨_, rfl, ⟨w.heap.size, 1, 16, by rw [bytesA_len false b HL.out]; rfl, Nat.le_refl _, HF.out 4 (by omega)⟩, Hb0.out⟩

theorem abytesA (s : Bool) (b : List Int) (hl : b.length = 16) (w : World) : Calls Tryz.prog 9 #[.agg (adr s b)] w fun e w' => ∃ v, e = .returned v ∧ (BytesIn w' w.heap.size v (bytesA s b) ∧ Below w.heap.size w w') := by
  have h : Calls Tryz.prog 9 #[.agg (adr s b)] w (OwnEnd (bytesA s b) w) := by
    cases s with
    | true => exact abytes_true b hl w
    | false => exact abytes_false b hl w
  refine h.mono ?_
  rintro e w' ⟨v, rfl, ho, hb⟩
  exact ⟨v, rfl, own_in ho (by rw [bytesA_len s b hl]; split <;> omega), hb⟩
theorem aputA (s : Bool) (b : List Int) (hl : b.length = 16) (w : World) : Calls Tryz.prog 11 #[.agg (adr s b)] w fun e w' => ∃ v, e = .returned v ∧ (BytesIn w' w.heap.size v (putA s b) ∧ Below w.heap.size w w') := by
  refine (aput_any s b hl w).mono ?_
  rintro e w' ⟨v, rfl, ho, hb⟩
  exact ⟨v, rfl, own_in ho (by rw [putA_len s b hl]; split <;> omega), hb⟩
theorem rputA (s : Bool) (b : List Int) (hl : b.length = 16) (w : World) : Calls Tryz.prog 12 #[.agg (adr s b)] w fun e w' => ∃ v, e = .returned v ∧ (BytesIn w' w.heap.size v (putA s b) ∧ Below w.heap.size w w') := by
  refine (rput_any s b hl w).mono ?_
  rintro e w' ⟨v, rfl, ho, hb⟩
  exact ⟨v, rfl, own_in ho (by rw [putA_len s b hl]; split <;> omega), hb⟩
end Go.Proofs.YtnfkgoeocebenaaGreatDoor
