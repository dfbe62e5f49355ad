/-
  Cidrs in memory; the document's Right, Contains, Covers, Compare.
-/
import Derived.Test.YtijboclcbbnhbaaGreatDoorFewb
import Derived.Test.YtijboclcbbnhbaaGreatDoorAlive
import Derived.Test.YtijboclcbbnhbaaGreatDoorErr
import Derived.Test.YtijboclcbbnhbaaGreatDoorHeld
import Derived.Test.YtijboclcbbnhbaaGreatDoorCmpr
import Derived.Deep.Cut
namespace Go.Proofs.YtijboclcbbnhbaaGreatDoor
open Go.RowKit

/-- A cidr's cells. -/
def cid (s : Bool) (b : List Int) (n : Int) : Array Value := ((Value.bool s :: b.map (Value.int .u8)) ++ [Value.int .i64 n]).toArray
theorem cid_size (s : Bool) (b : List Int) (n : Int) : (cid s b n).size = b.length + 2 := by simp [cid]
theorem cid_one (s : Bool) (b : List Int) (n : Int) : (cid s b n).all (·.oneCell') = true := by
  rw [Array.all_eq_true_iff_forall_mem]
  intro v hv
  simp only [cid, List.mem_toArray, List.mem_append, List.mem_cons, List.mem_map, List.not_mem_nil, or_false] at hv
  rcases hv with (rfl | ⟨x, _, rfl⟩) | rfl <;> rfl
theorem cid_zero (s : Bool) (b : List Int) (n : Int) : (cid s b n)[0]? = some (.bool s) := rfl
theorem cid_at (s : Bool) (b : List Int) (n : Int) (i : Nat) (h : i < b.length) : (cid s b n)[1 + i]? = some (.int .u8 (nth b i)) := by
  simp only [cid, List.getElem?_toArray]
  rw [List.getElem?_append_left (by simp; omega)]
  simp [nth, Nat.add_comm 1 i, List.getElem?_eq_getElem h, List.getD]
theorem cid_bits (s : Bool) (b : List Int) (n : Int) (h : b.length = 16) : (cid s b n)[17]? = some (.int .i64 n) := by
  simp only [cid, List.getElem?_toArray]
  rw [List.getElem?_append_right (by simp [h])]
  simp [h]
theorem cid_extract (s : Bool) (b : List Int) (n : Int) (h : b.length = 16) : (cid s b n).extract 0 (0 + 17) = adr s b := by
  simp only [cid, adr, List.extract_toArray, List.extract_eq_take_drop]
  simp [h]

theorem Tryz.infoCidr : (Tryz.prog.info? 29).map (·.size) = some 18 := by kernel_rfl
theorem Tryz.sizeAddr (w : World) : (sizeOf 25).run Tryz.prog w = .ok 17 w := by kernel_rfl
theorem Tryz.fieldsCidr : Tryz.prog.underlying 29 = some (.struct (Tryz.prog.fieldsOf 29)) := by kernel_rfl
theorem Tryz.heldCidr : Tryz.prog.stoodInHeld 29 = false := by kernel_rfl
theorem Tryz.listCidr : (Tryz.prog.fieldsOf 29).toList.map (fun f => (f.name == "_", f.type, f.offset)) = [(false, 25, 0), (false, 3, 17)] := by kernel_rfl

theorem equalIn_cid (d : Nat) (s t : Bool) (x y : List Int) (n m : Int) (hx : x.length = 16) (hy : y.length = 16) (w : World) :
    (Op.equalIn (d + 4) 29 (.agg (cid s x n)) (.agg (cid t y m))).run Tryz.prog w = .ok ((s == t && x == y) && n == m) w := by
  rw [run_equalIn_struct w (d + 3) 29 _ _ Tryz.fieldsCidr Tryz.heldCidr]
  have hl := Tryz.listCidr
  generalize (Tryz.prog.fieldsOf 29).toList = l at hl ⊢
  have h2 : l.length = 2 := by simpa using congrArg List.length hl
  obtain ⟨f, g, rfl⟩ : ∃ f g, l = [f, g] := by
    cases l with
    | nil => simp at h2
    | cons f l =>
      cases l with
      | nil => simp at h2
      | cons g l =>
        cases l with
        | nil => exact ⟨f, g, rfl⟩
        | cons _ _ => simp at h2
  simp only [List.map_cons, List.map_nil, List.cons.injEq, Prod.mk.injEq, and_true, beq_eq_false_iff_ne] at hl
  obtain ⟨⟨f1, f2, f3⟩, g1, g2, g3⟩ := hl
  have p1 : ∀ (s : Bool) x n, x.length = 16 → (part 25 (cid s x n) 0).run Tryz.prog w = .ok (.agg (adr s x)) w := fun s x n h => by
    simp only [part, isAgg, Sem.run_bind, run_underlying Tryz.fieldsAddr, Result.andThen_ok, Sem.run_pure, if_true, Tryz.sizeAddr, cid_extract s x n h]
  have p2 : ∀ (s : Bool) x n, x.length = 16 → (part 3 (cid s x n) 17).run Tryz.prog w = .ok (.int .i64 n) w := fun s x n h => by
    simp [part, isAgg, run_underlying Tryz.underlying3, cid_bits s x n h]
  have e1 := equalIn_adr d s t x y hx hy w
  have e2 : (Op.equalIn (d + 3) 3 (.int .i64 n) (.int .i64 m)).run Tryz.prog w = .ok (n == m) w := by
    simp [Op.equalIn, run_underlying Tryz.underlying3, go_sem]
  rw [Op.eqFields, if_pos f1, f2, f3]
  simp only [Sem.run_bind, p1 s x n hx, p1 t y m hy, Result.andThen_ok, e1, Sem.run_ite, Sem.run_pure]
  by_cases hst : (!(s == t && x == y)) = true
  · rw [if_pos hst]
    have : (s == t && x == y) = false := by cases hh : (s == t && x == y) <;> simp_all
    rw [this]
    rfl
  · rw [if_neg hst]
    have : (s == t && x == y) = true := by cases hh : (s == t && x == y) <;> simp_all
    rw [this, Op.eqFields, if_pos g1, g2, g3]
    rw [Sem.run_bind, p2 s x n hx, Result.andThen_ok, Sem.run_bind, p2 t y m hy, Result.andThen_ok, Sem.run_bind, e2, Result.andThen_ok, Sem.run_ite, Bool.true_and]
    by_cases hxy : (!(n == m)) = true
    · rw [if_pos hxy]
      have : (n == m) = false := by simpa using hxy
      rw [this, Sem.run_pure]
    · rw [if_neg hxy]
      have : (n == m) = true := by simpa using hxy
      rw [this, Op.eqFields, Sem.run_pure]

theorem eql_cid (s t : Bool) (x y : List Int) (n m : Int) (hx : x.length = 16) (hy : y.length = 16) (w : World) :
    (binOp .eql 29 (.agg (cid s x n)) (.agg (cid t y m))).run Tryz.prog w = .ok (.bool ((s == t && x == y) && n == m)) w := by
  rw [run_eql_struct, equalIn_cid 9996 s t x y n m hx hy]
  rfl

/-- The address of a cidr that lies in a block. -/
theorem cid_range {w : World} {g : Nat} {s : Bool} {b : List Int} {n : Int} (h : Blk w g 29 (cid s b n)) : w.rangeAt g 0 (adr s b).toList := by
  intro j v hv
  rw [Nat.zero_add, h.cell]
  have hj := (List.getElem?_eq_some_iff.1 hv).1
  simp only [adr] at hv hj
  simp only [cid, List.getElem?_toArray]
  rw [List.getElem?_append_left (by simpa using hj)]
  exact hv

theorem cid_bitsCell {w : World} {g : Nat} {s : Bool} {b : List Int} {n : Int} (h : Blk w g 29 (cid s b n)) (hl : b.length = 16) : w.cell? ⟨g, 17, none⟩ = some (.int .i64 n) := by rw [h.cell, cid_bits s b n hl]

section
variable {P : Program}
/-- The address out of a cidr's block. -/
theorem wpl_load_addr {ops : Array Oper} {rest : List Oper} {o : Oper} {a : Act} {w : World} {Q : Exit → Act → World → Prop} (x : Operand) (ho : o.op = .load 25 x)
    (g : Nat) (hx : a.eval x = .pointer (some ⟨g, 0, none⟩)) (s : Bool) (b : List Int) (n : Int) (hB : Blk w g 29 (cid s b n)) (hl : b.length = 16) (hw : Region.wanted o (yielded ops a.tmps) = true)
    (h : wpList Tryz.prog ops Q rest (a.put o.dst (.agg (adr s b))) w) : wpList Tryz.prog ops Q (o :: rest) a w :=
  wpl_load_mid 25 x ho g 0 hx (adr s b).toList _ (cid_range hB) Tryz.underlying25 rfl 17 Tryz.infoAddr (by rw [Array.length_toList, adr_size, hl]) hw h
end

/-- A bit of bytes. -/
def bitN (b : List Int) (i : Nat) : Int := nth b (i / 8) / 2 ^ (7 - i % 8) % 2
theorem bitN_range (b : List Int) (i : Nat) : 0 ≤ bitN b i ∧ bitN b i < 2 := by
  unfold bitN
  omega

/-- How many bits an address has. -/
def wid (s : Bool) : Nat := if s then 128 else 32

set_option maxHeartbeats 400000 in
theorem width_any (s : Bool) (b : List Int) (w : World) : Calls Tryz.prog 38 #[.agg (adr s b)] w fun e w' => e = .returned (.int .i64 (wid s)) ∧ Below w.heap.size w w' := by
  have h0 := adr_zero s b
  cases s
  all_goals
    go_enter Tryz.func38, Tryz.ntmps38
    go_wp2
    go_ret
    exact ⟨rfl, (Below.refl _ _).alloc (Nat.le_refl _) _⟩

theorem ints_byte (B : List Nat) (hB : ∀ x ∈ B, x < 256) (j : Nat) : ∃ x : Nat, nth (ints B) j = (x : Int) ∧ x < 256 := by
  rw [nth_ints]
  refine ⟨B.getD j 0, rfl, ?_⟩
  by_cases h : j < B.length
  · rw [List.getD, List.getElem?_eq_getElem h]
    exact hB _ (List.getElem_mem h)
  · rw [List.getD, List.getElem?_eq_none (by omega)]
    decide

set_option maxHeartbeats 1000000 in
theorem bit_any (s : Bool) (B : List Nat) (hl : B.length = 16) (hB : ∀ x ∈ B, x < 256) (i : Nat) (hi : i < 128) (w : World) :
    Calls Tryz.prog 21 #[.agg (adr s (ints B)), .int .i64 (i : Int)] w fun e w' => e = .returned (.int .i64 (bitN (ints B) i)) ∧ Below w.heap.size w w' := by
  have hB0 := Blk.new w 25 (adr s (ints B))
  obtain ⟨x, hx, hx8⟩ := ints_byte B hB (i / 8)
  have HBit : Hid (bitN (ints B) i = (x : Int) / 2 ^ (7 - i % 8) % 2) := Lib.hid (by unfold bitN; rw [hx])
  have hc : (w.alloc (.cells (adr s (ints B)) 25)).cell? ⟨w.heap.size, 1 + i / 8, none⟩ = some (.int .u8 (x : Int)) := by rw [hB0.cell, adr_at _ _ _ (by rw [ints_length, hl]; omega), hx]
  obtain ⟨q, hq⟩ : ∃ q, q = i / 8 := ⟨_, rfl⟩
  obtain ⟨r, hr⟩ : ∃ r, r = i % 8 := ⟨_, rfl⟩
  rw [← hq] at hc
  rw [← hr] at HBit
  have e1 : IntKind.i64.wrap ((i : Int) / 8) = (q : Int) := by simp only [IntKind.wrap, IntKind.signed, IntKind.bits]; simp; omega
  have e1' : IntKind.i64.wrap ((i : Int).tdiv 8) = (q : Int) := by rw [Int.tdiv_eq_ediv_of_nonneg (by omega)]; exact e1
  have e2 : (i : Int).tmod 8 = (r : Int) := by rw [Int.tmod_eq_emod_of_nonneg (by omega)]; omega
  have e3 : (i : Int) % 8 = (r : Int) := by omega
  have eX : IntKind.i64.wrap (x : Int) = (x : Int) := by simp only [IntKind.wrap, IntKind.signed, IntKind.bits]; simp; omega
  obtain ⟨k, hk⟩ : ∃ k, k = 7 - r := ⟨_, rfl⟩
  have e4 : IntKind.i64.wrap (7 - (r : Int)) = (k : Int) := by simp only [IntKind.wrap, IntKind.signed, IntKind.bits]; simp; omega
  have q0 : (0 : Int) ≤ (q : Int) := by omega
  have q1 : (q : Int) < 16 := by omega
  have k0 : (0 : Int) ≤ (k : Int) := by omega
  have HK : Hid (k = 7 - r ∧ k ≤ 7) := Lib.hid ⟨hk, by omega⟩
  clear hB0 hx hq hr hk hi
  go_enter Tryz.func21, Tryz.ntmps21
  go_wp2
  go_ret
  refine ⟨ret_int ?_, (Below.refl _ _).alloc (Nat.le_refl _) _⟩
  rw [HBit.out, ← HK.out.1, Nat.min_eq_left (by have := HK.out.2; omega), Int.tmod_eq_emod_of_nonneg (Int.ediv_nonneg (by omega) (Int.le_of_lt (Int.pow_pos (by omega))))]

section
variable {P : Program} {ops : Array Oper} {o : Oper} {a : Act} {w : World} {K : Act → World → Prop} {Q : Exit → Act → World → Prop} {E : Prop}
/-- The address out of a cidr's block, at a step of a region that draws. -/
theorem step_load_addr (x : Operand) (ho : o.op = .load 25 x) (g : Nat) (hx : a.eval x = .pointer (some ⟨g, 0, none⟩)) (s : Bool) (b : List Int) (n : Int) (hB : Blk w g 29 (cid s b n)) (hl : b.length = 16)
    (hw : Region.wanted o (yielded ops a.tmps) = true) (h : K (a.put o.dst (.agg (adr s b))) w) : if Region.wanted o (yielded ops a.tmps) = true then Oper.wp Tryz.prog o a w K Q else E := by
  rw [if_pos hw]
  exact wp_load_mid 25 x ho g 0 hx (adr s b).toList _ (cid_range hB) Tryz.underlying25 rfl (by rw [Array.length_toList, adr_size, hl]; exact Tryz.infoAddr) h
/-- A whole load out of a block, at a step of a region that draws. -/
theorem step_load_row (ty : TypeId) (x : Operand) (ho : o.op = .load ty x)
    (g : Nat) (hx : a.eval x = .pointer (some ⟨g, 0, none⟩)) (t : TypeId) (cs : Array Value) (d : TypeDesc) (hg : Blk w g t cs)
    (hu : P.underlying ty = some d) (hd : (match d with | .struct _ | .array _ _ => true | _ => false) = true) (n : Nat) (hi : (P.info? ty).map (·.size) = some n) (hn : n = cs.size)
    (hw : Region.wanted o (yielded ops a.tmps) = true)
    (h : K (a.put o.dst (.agg cs)) w) : if Region.wanted o (yielded ops a.tmps) = true then Oper.wp P o a w K Q else E := by
  rw [if_pos hw]
  exact wp_load_row ty x ho g hx t cs (0, 0) d hg hu hd (hn ▸ hi) h
end
end Go.Proofs.YtijboclcbbnhbaaGreatDoor
namespace Go.Proofs.YtijboclcbbnhbaaGreatDoor
open Go.RowKit

section
variable {P : Program} {ops : Array Oper} {a : Act} {w : World} {o : Oper}
/-- A call of a Go function by its contract, at the operation itself. -/
theorem op_call2 {K : Act → World → Prop} {Q : Exit → Act → World → Prop} (f : FuncId) (args : Array Value) (hrun : (execOp a.eval o).run P w = .ok (.enter f args) w) {R : World → Prop} (v : Value)
    (hc : Calls P f args w fun e w' => e = .returned v ∧ R w') (h : ∀ w', R w' → K (a.put o.dst v) w') : Oper.wp P o a w K Q := by
  unfold Oper.wp
  rw [hrun, Oper.upon_enter]
  refine hc.mono fun e w'' hh => ?_
  obtain ⟨rfl, hR⟩ := hh
  exact h _ hR

theorem yields_addr {S : World → Prop} {oi : Oper} (x : Operand) (ho : oi.op = .load 25 x) (g : Nat) (hx : a.eval x = .pointer (some ⟨g, 0, none⟩)) (s : Bool) (b : List Int) (n : Int)
    (hS : ∀ w, S w → Blk w g 29 (cid s b n)) (hl : b.length = 16) (hw : Region.wanted oi (yielded ops a.tmps) = true) : YieldsIf Tryz.prog ops S oi (.agg (adr s b)) a :=
  yieldsIf_load_mid hw 25 x ho g 0 hx (adr s b).toList _ (fun w h => cid_range (hS w h)) Tryz.underlying25 rfl (by rw [Array.length_toList, adr_size, hl]; exact Tryz.infoAddr)

theorem yields_cell {S : World → Prop} {oi : Oper} (x : Operand) (ho : oi.op = .load 3 x) (g off : Nat) (hx : a.eval x = .pointer (some ⟨g, off, none⟩)) (n : Int)
    (hS : ∀ w, S w → w.cell? ⟨g, off, none⟩ = some (.int .i64 n)) (hw : Region.wanted oi (yielded ops a.tmps) = true) : YieldsIf Tryz.prog ops S oi (.int .i64 n) a :=
  .inl ⟨hw, fun w hw' => by
    have h := hS w hw'
    unfold execOp
    simp only [ho, hx]
    simp [go_sem, h]⟩

theorem exec_geq (t t' : TypeId) (x y : Operand) (ho : o.op = .binOp .geq t x y t') (n m : Int) (hx : a.eval x = .int .i64 n) (hy : a.eval y = .int .i64 m) (b : Bool) (h : decide (n ≥ m) = b) :
    (execOp a.eval o).run P w = .ok (.value (.bool b)) w := by
  subst h
  unfold execOp
  simp only [ho, hx, hy, eqGuard, binOp]
  simp [go_sem]
theorem exec_leq (t t' : TypeId) (x y : Operand) (ho : o.op = .binOp .leq t x y t') (n m : Int) (hx : a.eval x = .int .i64 n) (hy : a.eval y = .int .i64 m) (b : Bool) (h : decide (n ≤ m) = b) :
    (execOp a.eval o).run P w = .ok (.value (.bool b)) w := by
  subst h
  unfold execOp
  simp only [ho, hx, hy, eqGuard, binOp]
  simp [go_sem]
end
end Go.Proofs.YtijboclcbbnhbaaGreatDoor
namespace Go.Proofs.YtijboclcbbnhbaaGreatDoor
open Go.RowKit

/-- Are all bits from the n-th on noughts? -/
def zeroB (b : List Int) (n m : Nat) : Bool := (List.range m).all fun i => decide (i < n) || bitN b i == 0
theorem zeroB_of (b : List Int) (n m : Nat) (h : ∀ j, n ≤ j → j < m → bitN b j = 0) : zeroB b n m = true := by
  unfold zeroB
  rw [List.all_eq_true]
  intro i hi
  rw [List.mem_range] at hi
  by_cases hn : i < n
  · simp [hn]
  · simp [h i (by omega) hi]
theorem zeroB_not (b : List Int) (n m j : Nat) (h1 : n ≤ j) (h2 : j < m) (h : bitN b j ≠ 0) : zeroB b n m = false := by
  rw [← Bool.not_eq_true]
  intro hz
  have := List.all_eq_true.1 hz j (List.mem_range.2 h2)
  simp at this
  rcases this with h' | h'
  · omega
  · exact h h'

theorem wid_le (s : Bool) : wid s ≤ 128 := by cases s <;> decide

set_option maxRecDepth 100000 in
set_option maxHeartbeats 2000000 in
theorem zero_any (s : Bool) (B : List Nat) (hl : B.length = 16) (hB : ∀ x ∈ B, x < 256) (n : Nat) (hn : n ≤ wid s) (w : World) :
    Calls Tryz.prog 39 #[.agg (adr s (ints B)), .int .i64 (n : Int)] w fun e w' => e = .returned (.bool (zeroB (ints B) n (wid s))) ∧ Below w.heap.size w w' := by
  obtain ⟨W0, hW0⟩ : ∃ W, W = w.alloc (.cells (adr s (ints B)) 25) := ⟨_, rfl⟩
  have hB0 : Blk W0 w.heap.size 25 (adr s (ints B)) := hW0 ▸ Blk.new w _ _
  have hb0 : Below w.heap.size w W0 := hW0 ▸ (Below.refl _ _).alloc (Nat.le_refl _) _
  have HW0 := Lib.hid hW0.symm
  have H0 := Lib.hid (⟨hB0, hb0⟩ : Blk W0 w.heap.size 25 (adr s (ints B)) ∧ Below w.heap.size w W0)
  have L17 : Hid (17 = (adr s (ints B)).size) := Lib.hid (by rw [adr_size, ints_length, hl])
  have CW := Lib.hid (width_any s (ints B))
  have CB := Lib.hid (fun i hi w => bit_any s B hl hB i hi w)
  have hw8 := wid_le s
  obtain ⟨m, hm⟩ : ∃ m, m = wid s := ⟨_, rfl⟩
  have HM := Lib.hid hm
  rw [← hm] at CW hw8 hn ⊢
  clear hW0 hB0 hb0 hl hB hm
  go_enter Tryz.func39, Tryz.ntmps39
  go_wp2
  rw [HW0.out]
  go_loopw [5] (fun i wr => ∃ k : Nat, n ≤ k ∧ k ≤ m ∧ i = .int .i64 k ∧ Hid ((∀ j, n ≤ j → j < k → bitN (ints B) j = 0) ∧ Blk wr w.heap.size 25 (adr s (ints B)) ∧ Below w.heap.size w wr)) (fun i _ => m - (intOf i).toNat)
  case atStart => exact ⟨n, Nat.le_refl _, hn, rfl, (fun j h h' => by omega), H0.out⟩
  case round =>
    obtain ⟨k, hk1, hk2, rfl, hh⟩ := hrel
    clear H0 HW0
    have HBr : Hid (Blk wr w.heap.size 25 (adr s (ints B))) := Lib.hid hh.out.2.1
    by_cases hlt : k < m
    · go_wp2_with (refine wpl_load 25 _ rfl w.heap.size rfl _ _ _ HBr.out Tryz.underlying25 rfl 17 Tryz.infoAddr L17.out rfl ?_)
      refine (CW.out wr).mono ?_
      rintro e w1 ⟨rfl, hb1⟩
      have HB1 := Lib.hid (HBr.out.kept hb1)
      have Hb1 := Lib.hid (bel2 hh.out.2.2 hb1)
      go_wp2_with (refine wpl_load 25 _ rfl w.heap.size rfl _ _ _ HB1.out Tryz.underlying25 rfl 17 Tryz.infoAddr L17.out rfl ?_)
      refine (CB.out k (by omega) w1).mono ?_
      rintro e w2 ⟨rfl, hb2⟩
      obtain ⟨t, ht⟩ : ∃ t, t = bitN (ints B) k := ⟨_, rfl⟩
      rw [← ht]
      by_cases h0 : t = 0
      · have q : (t != 0) = false := by rw [h0]; rfl
        have HX : Hid ((∀ j, n ≤ j → j < k + 1 → bitN (ints B) j = 0) ∧ Blk w2 w.heap.size 25 (adr s (ints B)) ∧ Below w.heap.size w w2) := Lib.hid ⟨fun j h h' => by
          by_cases e : j = k
          · rw [e, ← ht, h0]
          · exact hh.out.1 j h (by omega), HB1.out.kept hb2, bel2 Hb1.out hb2⟩
        subst h0
        clear ht hh
        go_wp2
        go_roundw
        case rel => exact ⟨k + 1, by omega, by omega, by go_num, HX.out⟩
        case measure => simp [intOf]; omega
      · have q : (t != 0) = true := by rw [bne_iff_ne]; exact h0
        have HX : Hid (zeroB (ints B) n m = false) := Lib.hid (zeroB_not _ _ _ k hk1 hlt (by rw [← ht]; exact h0))
        have HbX : Hid (Below w.heap.size w w2) := Lib.hid (bel2 Hb1.out hb2)
        clear ht hh
        go_wp2
        go_ret
        exact ⟨by rw [HX.out]; rfl, HbX.out⟩
    · obtain rfl : k = m := by omega
      have HX : Hid (zeroB (ints B) n k = true) := Lib.hid (zeroB_of _ _ _ hh.out.1)
      go_wp2_with (refine wpl_load 25 _ rfl w.heap.size rfl _ _ _ HBr.out Tryz.underlying25 rfl 17 Tryz.infoAddr L17.out rfl ?_)
      refine (CW.out wr).mono ?_
      rintro e w1 ⟨rfl, hb1⟩
      have Hb1 := Lib.hid (bel2 hh.out.2.2 hb1)
      clear hh
      go_wp2
      go_ret
      exact ⟨by rw [HX.out]; rfl, Hb1.out⟩

/-- Is a cidr right? -/
def rightC (s : Bool) (b : List Int) (n : Int) : Bool := (s || flat b) && (decide (0 ≤ n) && (decide (n ≤ wid s) && zeroB b n.toNat (wid s)))

set_option linter.unusedSimpArgs false in
set_option maxRecDepth 100000 in
set_option maxHeartbeats 4000000 in
theorem rright_A (s : Bool) (b : List Int) (hl : b.length = 16) (n : Int) (_m : Nat) (w : World)
    (cR : ∀ w, Calls Tryz.prog 20 #[.agg (adr s b)] w fun e w' => e = .returned (.bool false) ∧ Below w.heap.size w w') :
    Calls Tryz.prog 19 #[.agg (cid s b n)] w fun e w' => e = .returned (.bool false) ∧ Below w.heap.size w w' := by
  obtain ⟨W0, hW0⟩ : ∃ W, W = w.alloc (.cells (cid s b n) 29) := ⟨_, rfl⟩
  have hB0 : Blk W0 w.heap.size 29 (cid s b n) := hW0 ▸ Blk.new w _ _
  have hb0 : Below w.heap.size w W0 := hW0 ▸ (Below.refl _ _).alloc (Nat.le_refl _) _
  have HW0 := Lib.hid hW0.symm
  have HLi := Lib.hid hl
  have hS0 : Blk W0.drew w.heap.size 29 (cid s b n) ∧ Below w.heap.size w W0.drew := ⟨hB0.kept (below_drewN W0 1), bel2 hb0 (below_drewN W0 1)⟩
  have CR := Lib.hid cR
  clear hW0 hB0 hb0 hl cR
  go_enter Tryz.func19, Tryz.ntmps19
  go_wp2_with fail
  rw [HW0.out]
  refine wp_region_held_drew (S := fun w' => Blk w' w.heap.size 29 (cid s b n) ∧ Below w.heap.size w w') (by kernel_rfl) hS0 (fun hS => ?_)
  change wpAnyH _ _ _ _ _ 24 #[false, false, false, false, false, false, false, false, false, false, false, false, false, false, false, false, false, false, false, false, false, false, false, false] _ _
  refine wpAnyH_take (i := 0) (v := .pointer (some ⟨w.heap.size, 0, none⟩)) rfl (by kernel_rfl) (by kernel_rfl) (by kernel_rfl) (fun _ _ _ h => h) (.inl ⟨by kernel_rfl, fun w _ => by kernel_rfl⟩) hS ?_
  simp only [List.getElem_toArray, List.getElem_cons_zero, List.getElem_cons_succ, Act.put, List.setIfInBounds_toArray, List.set_cons_zero, List.set_cons_succ]
  refine wpAnyH_take (i := 1) (v := .agg (adr s b)) rfl (by kernel_rfl) (by kernel_rfl) (by kernel_rfl) (fun _ _ _ h => h) (yields_addr (.tmp 3) rfl w.heap.size (by kernel_rfl) s b n (fun w h => h.1) HLi.out (by kernel_rfl)) hS ?_
  simp only [List.getElem_toArray, List.getElem_cons_zero, List.getElem_cons_succ, Act.put, List.setIfInBounds_toArray, List.set_cons_zero, List.set_cons_succ]
  refine wpAnyH_ready (rs := [2]) (by kernel_rfl) (by simp) ?_
  refine AllReadyH.cons rfl (fun K' hK => ?_) AllReadyH.nil
  refine step_call 20 #[.agg (adr s b)] (by kernel_rfl) (by kernel_rfl) (.bool false) (CR.out _) (fun w1 hb1 => hK.out _ _ (⟨hS.1.kept hb1, bel2 hS.2 hb1⟩) (fun hS => ?_))
  simp only [List.getElem_toArray, List.getElem_cons_zero, List.getElem_cons_succ, Act.put, List.setIfInBounds_toArray, List.set_cons_zero, List.set_cons_succ]
  refine wpAnyH_take (i := 3) (v := .bool false) rfl (by kernel_rfl) (by kernel_rfl) (by kernel_rfl) (fun _ _ _ h => h) (.inl ⟨by kernel_rfl, fun w _ => by kernel_rfl⟩) hS ?_
  simp only [List.getElem_toArray, List.getElem_cons_zero, List.getElem_cons_succ, Act.put, List.setIfInBounds_toArray, List.set_cons_zero, List.set_cons_succ]
  refine wpAnyH_take (i := 4) (v := undef) rfl (by kernel_rfl) (by kernel_rfl) (by kernel_rfl) (fun _ _ _ h => h) (.inr ⟨by kernel_rfl, rfl⟩) hS ?_
  simp only [List.getElem_toArray, List.getElem_cons_zero, List.getElem_cons_succ, Act.put, List.setIfInBounds_toArray, List.set_cons_zero, List.set_cons_succ]
  refine wpAnyH_take (i := 5) (v := undef) rfl (by kernel_rfl) (by kernel_rfl) (by kernel_rfl) (fun _ _ _ h => h) (.inr ⟨by kernel_rfl, rfl⟩) hS ?_
  simp only [List.getElem_toArray, List.getElem_cons_zero, List.getElem_cons_succ, Act.put, List.setIfInBounds_toArray, List.set_cons_zero, List.set_cons_succ]
  refine wpAnyH_take (i := 6) (v := undef) rfl (by kernel_rfl) (by kernel_rfl) (by kernel_rfl) (fun _ _ _ h => h) (.inr ⟨by kernel_rfl, rfl⟩) hS ?_
  simp only [List.getElem_toArray, List.getElem_cons_zero, List.getElem_cons_succ, Act.put, List.setIfInBounds_toArray, List.set_cons_zero, List.set_cons_succ]
  refine wpAnyH_take (i := 7) (v := .bool false) rfl (by kernel_rfl) (by kernel_rfl) (by kernel_rfl) (fun _ _ _ h => h) (.inl ⟨by kernel_rfl, fun w _ => by kernel_rfl⟩) hS ?_
  simp only [List.getElem_toArray, List.getElem_cons_zero, List.getElem_cons_succ, Act.put, List.setIfInBounds_toArray, List.set_cons_zero, List.set_cons_succ]
  refine wpAnyH_take (i := 8) (v := .bool false) rfl (by kernel_rfl) (by kernel_rfl) (by kernel_rfl) (fun _ _ _ h => h) (.inl ⟨by kernel_rfl, fun w _ => by kernel_rfl⟩) hS ?_
  simp only [List.getElem_toArray, List.getElem_cons_zero, List.getElem_cons_succ, Act.put, List.setIfInBounds_toArray, List.set_cons_zero, List.set_cons_succ]
  refine wpAnyH_take (i := 9) (v := undef) rfl (by kernel_rfl) (by kernel_rfl) (by kernel_rfl) (fun _ _ _ h => h) (.inr ⟨by kernel_rfl, rfl⟩) hS ?_
  simp only [List.getElem_toArray, List.getElem_cons_zero, List.getElem_cons_succ, Act.put, List.setIfInBounds_toArray, List.set_cons_zero, List.set_cons_succ]
  refine wpAnyH_take (i := 10) (v := undef) rfl (by kernel_rfl) (by kernel_rfl) (by kernel_rfl) (fun _ _ _ h => h) (.inr ⟨by kernel_rfl, rfl⟩) hS ?_
  simp only [List.getElem_toArray, List.getElem_cons_zero, List.getElem_cons_succ, Act.put, List.setIfInBounds_toArray, List.set_cons_zero, List.set_cons_succ]
  refine wpAnyH_take (i := 11) (v := undef) rfl (by kernel_rfl) (by kernel_rfl) (by kernel_rfl) (fun _ _ _ h => h) (.inr ⟨by kernel_rfl, rfl⟩) hS ?_
  simp only [List.getElem_toArray, List.getElem_cons_zero, List.getElem_cons_succ, Act.put, List.setIfInBounds_toArray, List.set_cons_zero, List.set_cons_succ]
  refine wpAnyH_take (i := 12) (v := undef) rfl (by kernel_rfl) (by kernel_rfl) (by kernel_rfl) (fun _ _ _ h => h) (.inr ⟨by kernel_rfl, rfl⟩) hS ?_
  simp only [List.getElem_toArray, List.getElem_cons_zero, List.getElem_cons_succ, Act.put, List.setIfInBounds_toArray, List.set_cons_zero, List.set_cons_succ]
  refine wpAnyH_take (i := 13) (v := undef) rfl (by kernel_rfl) (by kernel_rfl) (by kernel_rfl) (fun _ _ _ h => h) (.inr ⟨by kernel_rfl, rfl⟩) hS ?_
  simp only [List.getElem_toArray, List.getElem_cons_zero, List.getElem_cons_succ, Act.put, List.setIfInBounds_toArray, List.set_cons_zero, List.set_cons_succ]
  refine wpAnyH_take (i := 14) (v := undef) rfl (by kernel_rfl) (by kernel_rfl) (by kernel_rfl) (fun _ _ _ h => h) (.inr ⟨by kernel_rfl, rfl⟩) hS ?_
  simp only [List.getElem_toArray, List.getElem_cons_zero, List.getElem_cons_succ, Act.put, List.setIfInBounds_toArray, List.set_cons_zero, List.set_cons_succ]
  refine wpAnyH_take (i := 15) (v := .bool false) rfl (by kernel_rfl) (by kernel_rfl) (by kernel_rfl) (fun _ _ _ h => h) (.inl ⟨by kernel_rfl, fun w _ => by kernel_rfl⟩) hS ?_
  simp only [List.getElem_toArray, List.getElem_cons_zero, List.getElem_cons_succ, Act.put, List.setIfInBounds_toArray, List.set_cons_zero, List.set_cons_succ]
  refine wpAnyH_take (i := 16) (v := .bool false) rfl (by kernel_rfl) (by kernel_rfl) (by kernel_rfl) (fun _ _ _ h => h) (.inl ⟨by kernel_rfl, fun w _ => by kernel_rfl⟩) hS ?_
  simp only [List.getElem_toArray, List.getElem_cons_zero, List.getElem_cons_succ, Act.put, List.setIfInBounds_toArray, List.set_cons_zero, List.set_cons_succ]
  refine wpAnyH_take (i := 17) (v := undef) rfl (by kernel_rfl) (by kernel_rfl) (by kernel_rfl) (fun _ _ _ h => h) (.inr ⟨by kernel_rfl, rfl⟩) hS ?_
  simp only [List.getElem_toArray, List.getElem_cons_zero, List.getElem_cons_succ, Act.put, List.setIfInBounds_toArray, List.set_cons_zero, List.set_cons_succ]
  refine wpAnyH_take (i := 18) (v := undef) rfl (by kernel_rfl) (by kernel_rfl) (by kernel_rfl) (fun _ _ _ h => h) (.inr ⟨by kernel_rfl, rfl⟩) hS ?_
  simp only [List.getElem_toArray, List.getElem_cons_zero, List.getElem_cons_succ, Act.put, List.setIfInBounds_toArray, List.set_cons_zero, List.set_cons_succ]
  refine wpAnyH_take (i := 19) (v := undef) rfl (by kernel_rfl) (by kernel_rfl) (by kernel_rfl) (fun _ _ _ h => h) (.inr ⟨by kernel_rfl, rfl⟩) hS ?_
  simp only [List.getElem_toArray, List.getElem_cons_zero, List.getElem_cons_succ, Act.put, List.setIfInBounds_toArray, List.set_cons_zero, List.set_cons_succ]
  refine wpAnyH_take (i := 20) (v := undef) rfl (by kernel_rfl) (by kernel_rfl) (by kernel_rfl) (fun _ _ _ h => h) (.inr ⟨by kernel_rfl, rfl⟩) hS ?_
  simp only [List.getElem_toArray, List.getElem_cons_zero, List.getElem_cons_succ, Act.put, List.setIfInBounds_toArray, List.set_cons_zero, List.set_cons_succ]
  refine wpAnyH_take (i := 21) (v := undef) rfl (by kernel_rfl) (by kernel_rfl) (by kernel_rfl) (fun _ _ _ h => h) (.inr ⟨by kernel_rfl, rfl⟩) hS ?_
  simp only [List.getElem_toArray, List.getElem_cons_zero, List.getElem_cons_succ, Act.put, List.setIfInBounds_toArray, List.set_cons_zero, List.set_cons_succ]
  refine wpAnyH_take (i := 22) (v := .bool false) rfl (by kernel_rfl) (by kernel_rfl) (by kernel_rfl) (fun _ _ _ h => h) (.inl ⟨by kernel_rfl, fun w _ => by kernel_rfl⟩) hS ?_
  simp only [List.getElem_toArray, List.getElem_cons_zero, List.getElem_cons_succ, Act.put, List.setIfInBounds_toArray, List.set_cons_zero, List.set_cons_succ]
  refine wpAnyH_take (i := 23) (v := .bool false) rfl (by kernel_rfl) (by kernel_rfl) (by kernel_rfl) (fun _ _ _ h => h) (.inl ⟨by kernel_rfl, fun w _ => by kernel_rfl⟩) hS ?_
  simp only [List.getElem_toArray, List.getElem_cons_zero, List.getElem_cons_succ, Act.put, List.setIfInBounds_toArray, List.set_cons_zero, List.set_cons_succ]
  refine wpAnyH_done (by kernel_rfl) ?_ _
  obtain ⟨_, hbE⟩ := hS
  go_wp2
  go_ret
  exact ⟨rfl, hbE⟩

set_option linter.unusedSimpArgs false in
set_option maxRecDepth 100000 in
set_option maxHeartbeats 4000000 in
theorem rright_B (s : Bool) (b : List Int) (hl : b.length = 16) (n : Int) (_m : Nat) (w : World)
    (cR : ∀ w, Calls Tryz.prog 20 #[.agg (adr s b)] w fun e w' => e = .returned (.bool true) ∧ Below w.heap.size w w') (hg0 : decide (n ≥ 0) = false) :
    Calls Tryz.prog 19 #[.agg (cid s b n)] w fun e w' => e = .returned (.bool false) ∧ Below w.heap.size w w' := by
  obtain ⟨W0, hW0⟩ : ∃ W, W = w.alloc (.cells (cid s b n) 29) := ⟨_, rfl⟩
  have hB0 : Blk W0 w.heap.size 29 (cid s b n) := hW0 ▸ Blk.new w _ _
  have hb0 : Below w.heap.size w W0 := hW0 ▸ (Below.refl _ _).alloc (Nat.le_refl _) _
  have HW0 := Lib.hid hW0.symm
  have HLi := Lib.hid hl
  have hS0 : Blk W0.drew w.heap.size 29 (cid s b n) ∧ Below w.heap.size w W0.drew := ⟨hB0.kept (below_drewN W0 1), bel2 hb0 (below_drewN W0 1)⟩
  have CR := Lib.hid cR
  clear hW0 hB0 hb0 hl cR
  go_enter Tryz.func19, Tryz.ntmps19
  go_wp2_with fail
  rw [HW0.out]
  refine wp_region_held_drew (S := fun w' => Blk w' w.heap.size 29 (cid s b n) ∧ Below w.heap.size w w') (by kernel_rfl) hS0 (fun hS => ?_)
  change wpAnyH _ _ _ _ _ 24 #[false, false, false, false, false, false, false, false, false, false, false, false, false, false, false, false, false, false, false, false, false, false, false, false] _ _
  refine wpAnyH_take (i := 0) (v := .pointer (some ⟨w.heap.size, 0, none⟩)) rfl (by kernel_rfl) (by kernel_rfl) (by kernel_rfl) (fun _ _ _ h => h) (.inl ⟨by kernel_rfl, fun w _ => by kernel_rfl⟩) hS ?_
  simp only [List.getElem_toArray, List.getElem_cons_zero, List.getElem_cons_succ, Act.put, List.setIfInBounds_toArray, List.set_cons_zero, List.set_cons_succ]
  refine wpAnyH_take (i := 1) (v := .agg (adr s b)) rfl (by kernel_rfl) (by kernel_rfl) (by kernel_rfl) (fun _ _ _ h => h) (yields_addr (.tmp 3) rfl w.heap.size (by kernel_rfl) s b n (fun w h => h.1) HLi.out (by kernel_rfl)) hS ?_
  simp only [List.getElem_toArray, List.getElem_cons_zero, List.getElem_cons_succ, Act.put, List.setIfInBounds_toArray, List.set_cons_zero, List.set_cons_succ]
  refine wpAnyH_ready (rs := [2]) (by kernel_rfl) (by simp) ?_
  refine AllReadyH.cons rfl (fun K' hK => ?_) AllReadyH.nil
  refine step_call 20 #[.agg (adr s b)] (by kernel_rfl) (by kernel_rfl) (.bool true) (CR.out _) (fun w1 hb1 => hK.out _ _ (⟨hS.1.kept hb1, bel2 hS.2 hb1⟩) (fun hS => ?_))
  simp only [List.getElem_toArray, List.getElem_cons_zero, List.getElem_cons_succ, Act.put, List.setIfInBounds_toArray, List.set_cons_zero, List.set_cons_succ]
  refine wpAnyH_take (i := 3) (v := .bool true) rfl (by kernel_rfl) (by kernel_rfl) (by kernel_rfl) (fun _ _ _ h => h) (.inl ⟨by kernel_rfl, fun w _ => by kernel_rfl⟩) hS ?_
  simp only [List.getElem_toArray, List.getElem_cons_zero, List.getElem_cons_succ, Act.put, List.setIfInBounds_toArray, List.set_cons_zero, List.set_cons_succ]
  refine wpAnyH_take (i := 4) (v := .pointer (some ⟨w.heap.size, 17, none⟩)) rfl (by kernel_rfl) (by kernel_rfl) (by kernel_rfl) (fun _ _ _ h => h) (.inl ⟨by kernel_rfl, fun w _ => by kernel_rfl⟩) hS ?_
  simp only [List.getElem_toArray, List.getElem_cons_zero, List.getElem_cons_succ, Act.put, List.setIfInBounds_toArray, List.set_cons_zero, List.set_cons_succ]
  refine wpAnyH_take (i := 5) (v := .int .i64 n) rfl (by kernel_rfl) (by kernel_rfl) (by kernel_rfl) (fun _ _ _ h => h) (yields_cell (.tmp 7) rfl w.heap.size 17 (by kernel_rfl) n (fun w h => cid_bitsCell h.1 HLi.out) (by kernel_rfl)) hS ?_
  simp only [List.getElem_toArray, List.getElem_cons_zero, List.getElem_cons_succ, Act.put, List.setIfInBounds_toArray, List.set_cons_zero, List.set_cons_succ]
  refine wpAnyH_take (i := 6) (v := .bool false) rfl (by kernel_rfl) (by kernel_rfl) (by kernel_rfl) (fun _ _ _ h => h) (.inl ⟨by kernel_rfl, fun w _ => exec_geq 3 3 (.tmp 8) (.const (.int .i64 0)) rfl n 0 (by kernel_rfl) (by kernel_rfl) false hg0⟩) hS ?_
  simp only [List.getElem_toArray, List.getElem_cons_zero, List.getElem_cons_succ, Act.put, List.setIfInBounds_toArray, List.set_cons_zero, List.set_cons_succ]
  refine wpAnyH_take (i := 7) (v := .bool false) rfl (by kernel_rfl) (by kernel_rfl) (by kernel_rfl) (fun _ _ _ h => h) (.inl ⟨by kernel_rfl, fun w _ => by kernel_rfl⟩) hS ?_
  simp only [List.getElem_toArray, List.getElem_cons_zero, List.getElem_cons_succ, Act.put, List.setIfInBounds_toArray, List.set_cons_zero, List.set_cons_succ]
  refine wpAnyH_take (i := 8) (v := .bool false) rfl (by kernel_rfl) (by kernel_rfl) (by kernel_rfl) (fun _ _ _ h => h) (.inl ⟨by kernel_rfl, fun w _ => by kernel_rfl⟩) hS ?_
  simp only [List.getElem_toArray, List.getElem_cons_zero, List.getElem_cons_succ, Act.put, List.setIfInBounds_toArray, List.set_cons_zero, List.set_cons_succ]
  refine wpAnyH_take (i := 9) (v := undef) rfl (by kernel_rfl) (by kernel_rfl) (by kernel_rfl) (fun _ _ _ h => h) (.inr ⟨by kernel_rfl, rfl⟩) hS ?_
  simp only [List.getElem_toArray, List.getElem_cons_zero, List.getElem_cons_succ, Act.put, List.setIfInBounds_toArray, List.set_cons_zero, List.set_cons_succ]
  refine wpAnyH_take (i := 10) (v := undef) rfl (by kernel_rfl) (by kernel_rfl) (by kernel_rfl) (fun _ _ _ h => h) (.inr ⟨by kernel_rfl, rfl⟩) hS ?_
  simp only [List.getElem_toArray, List.getElem_cons_zero, List.getElem_cons_succ, Act.put, List.setIfInBounds_toArray, List.set_cons_zero, List.set_cons_succ]
  refine wpAnyH_take (i := 11) (v := undef) rfl (by kernel_rfl) (by kernel_rfl) (by kernel_rfl) (fun _ _ _ h => h) (.inr ⟨by kernel_rfl, rfl⟩) hS ?_
  simp only [List.getElem_toArray, List.getElem_cons_zero, List.getElem_cons_succ, Act.put, List.setIfInBounds_toArray, List.set_cons_zero, List.set_cons_succ]
  refine wpAnyH_take (i := 12) (v := undef) rfl (by kernel_rfl) (by kernel_rfl) (by kernel_rfl) (fun _ _ _ h => h) (.inr ⟨by kernel_rfl, rfl⟩) hS ?_
  simp only [List.getElem_toArray, List.getElem_cons_zero, List.getElem_cons_succ, Act.put, List.setIfInBounds_toArray, List.set_cons_zero, List.set_cons_succ]
  refine wpAnyH_take (i := 13) (v := undef) rfl (by kernel_rfl) (by kernel_rfl) (by kernel_rfl) (fun _ _ _ h => h) (.inr ⟨by kernel_rfl, rfl⟩) hS ?_
  simp only [List.getElem_toArray, List.getElem_cons_zero, List.getElem_cons_succ, Act.put, List.setIfInBounds_toArray, List.set_cons_zero, List.set_cons_succ]
  refine wpAnyH_take (i := 14) (v := undef) rfl (by kernel_rfl) (by kernel_rfl) (by kernel_rfl) (fun _ _ _ h => h) (.inr ⟨by kernel_rfl, rfl⟩) hS ?_
  simp only [List.getElem_toArray, List.getElem_cons_zero, List.getElem_cons_succ, Act.put, List.setIfInBounds_toArray, List.set_cons_zero, List.set_cons_succ]
  refine wpAnyH_take (i := 15) (v := .bool false) rfl (by kernel_rfl) (by kernel_rfl) (by kernel_rfl) (fun _ _ _ h => h) (.inl ⟨by kernel_rfl, fun w _ => by kernel_rfl⟩) hS ?_
  simp only [List.getElem_toArray, List.getElem_cons_zero, List.getElem_cons_succ, Act.put, List.setIfInBounds_toArray, List.set_cons_zero, List.set_cons_succ]
  refine wpAnyH_take (i := 16) (v := .bool false) rfl (by kernel_rfl) (by kernel_rfl) (by kernel_rfl) (fun _ _ _ h => h) (.inl ⟨by kernel_rfl, fun w _ => by kernel_rfl⟩) hS ?_
  simp only [List.getElem_toArray, List.getElem_cons_zero, List.getElem_cons_succ, Act.put, List.setIfInBounds_toArray, List.set_cons_zero, List.set_cons_succ]
  refine wpAnyH_take (i := 17) (v := undef) rfl (by kernel_rfl) (by kernel_rfl) (by kernel_rfl) (fun _ _ _ h => h) (.inr ⟨by kernel_rfl, rfl⟩) hS ?_
  simp only [List.getElem_toArray, List.getElem_cons_zero, List.getElem_cons_succ, Act.put, List.setIfInBounds_toArray, List.set_cons_zero, List.set_cons_succ]
  refine wpAnyH_take (i := 18) (v := undef) rfl (by kernel_rfl) (by kernel_rfl) (by kernel_rfl) (fun _ _ _ h => h) (.inr ⟨by kernel_rfl, rfl⟩) hS ?_
  simp only [List.getElem_toArray, List.getElem_cons_zero, List.getElem_cons_succ, Act.put, List.setIfInBounds_toArray, List.set_cons_zero, List.set_cons_succ]
  refine wpAnyH_take (i := 19) (v := undef) rfl (by kernel_rfl) (by kernel_rfl) (by kernel_rfl) (fun _ _ _ h => h) (.inr ⟨by kernel_rfl, rfl⟩) hS ?_
  simp only [List.getElem_toArray, List.getElem_cons_zero, List.getElem_cons_succ, Act.put, List.setIfInBounds_toArray, List.set_cons_zero, List.set_cons_succ]
  refine wpAnyH_take (i := 20) (v := undef) rfl (by kernel_rfl) (by kernel_rfl) (by kernel_rfl) (fun _ _ _ h => h) (.inr ⟨by kernel_rfl, rfl⟩) hS ?_
  simp only [List.getElem_toArray, List.getElem_cons_zero, List.getElem_cons_succ, Act.put, List.setIfInBounds_toArray, List.set_cons_zero, List.set_cons_succ]
  refine wpAnyH_take (i := 21) (v := undef) rfl (by kernel_rfl) (by kernel_rfl) (by kernel_rfl) (fun _ _ _ h => h) (.inr ⟨by kernel_rfl, rfl⟩) hS ?_
  simp only [List.getElem_toArray, List.getElem_cons_zero, List.getElem_cons_succ, Act.put, List.setIfInBounds_toArray, List.set_cons_zero, List.set_cons_succ]
  refine wpAnyH_take (i := 22) (v := .bool false) rfl (by kernel_rfl) (by kernel_rfl) (by kernel_rfl) (fun _ _ _ h => h) (.inl ⟨by kernel_rfl, fun w _ => by kernel_rfl⟩) hS ?_
  simp only [List.getElem_toArray, List.getElem_cons_zero, List.getElem_cons_succ, Act.put, List.setIfInBounds_toArray, List.set_cons_zero, List.set_cons_succ]
  refine wpAnyH_take (i := 23) (v := .bool false) rfl (by kernel_rfl) (by kernel_rfl) (by kernel_rfl) (fun _ _ _ h => h) (.inl ⟨by kernel_rfl, fun w _ => by kernel_rfl⟩) hS ?_
  simp only [List.getElem_toArray, List.getElem_cons_zero, List.getElem_cons_succ, Act.put, List.setIfInBounds_toArray, List.set_cons_zero, List.set_cons_succ]
  refine wpAnyH_done (by kernel_rfl) ?_ _
  obtain ⟨_, hbE⟩ := hS
  go_wp2
  go_ret
  exact ⟨rfl, hbE⟩

set_option linter.unusedSimpArgs false in
set_option maxRecDepth 100000 in
set_option maxHeartbeats 4000000 in
theorem rright_C (s : Bool) (b : List Int) (hl : b.length = 16) (n : Int) (m : Nat) (w : World)
    (cR : ∀ w, Calls Tryz.prog 20 #[.agg (adr s b)] w fun e w' => e = .returned (.bool true) ∧ Below w.heap.size w w')
    (cW : ∀ w, Calls Tryz.prog 38 #[.agg (adr s b)] w fun e w' => e = .returned (.int .i64 (m : Int)) ∧ Below w.heap.size w w') (hg0 : decide (n ≥ 0) = true) (hl0 : decide (n ≤ (m : Int)) = false) :
    Calls Tryz.prog 19 #[.agg (cid s b n)] w fun e w' => e = .returned (.bool false) ∧ Below w.heap.size w w' := by
  obtain ⟨W0, hW0⟩ : ∃ W, W = w.alloc (.cells (cid s b n) 29) := ⟨_, rfl⟩
  have hB0 : Blk W0 w.heap.size 29 (cid s b n) := hW0 ▸ Blk.new w _ _
  have hb0 : Below w.heap.size w W0 := hW0 ▸ (Below.refl _ _).alloc (Nat.le_refl _) _
  have HW0 := Lib.hid hW0.symm
  have HLi := Lib.hid hl
  have hS0 : Blk W0.drew w.heap.size 29 (cid s b n) ∧ Below w.heap.size w W0.drew := ⟨hB0.kept (below_drewN W0 1), bel2 hb0 (below_drewN W0 1)⟩
  have CR := Lib.hid cR
  have CW := Lib.hid cW
  clear hW0 hB0 hb0 hl cR cW
  go_enter Tryz.func19, Tryz.ntmps19
  go_wp2_with fail
  rw [HW0.out]
  refine wp_region_held_drew (S := fun w' => Blk w' w.heap.size 29 (cid s b n) ∧ Below w.heap.size w w') (by kernel_rfl) hS0 (fun hS => ?_)
  change wpAnyH _ _ _ _ _ 24 #[false, false, false, false, false, false, false, false, false, false, false, false, false, false, false, false, false, false, false, false, false, false, false, false] _ _
  refine wpAnyH_take (i := 0) (v := .pointer (some ⟨w.heap.size, 0, none⟩)) rfl (by kernel_rfl) (by kernel_rfl) (by kernel_rfl) (fun _ _ _ h => h) (.inl ⟨by kernel_rfl, fun w _ => by kernel_rfl⟩) hS ?_
  simp only [List.getElem_toArray, List.getElem_cons_zero, List.getElem_cons_succ, Act.put, List.setIfInBounds_toArray, List.set_cons_zero, List.set_cons_succ]
  refine wpAnyH_take (i := 1) (v := .agg (adr s b)) rfl (by kernel_rfl) (by kernel_rfl) (by kernel_rfl) (fun _ _ _ h => h) (yields_addr (.tmp 3) rfl w.heap.size (by kernel_rfl) s b n (fun w h => h.1) HLi.out (by kernel_rfl)) hS ?_
  simp only [List.getElem_toArray, List.getElem_cons_zero, List.getElem_cons_succ, Act.put, List.setIfInBounds_toArray, List.set_cons_zero, List.set_cons_succ]
  refine wpAnyH_ready (rs := [2]) (by kernel_rfl) (by simp) ?_
  refine AllReadyH.cons rfl (fun K' hK => ?_) AllReadyH.nil
  refine step_call 20 #[.agg (adr s b)] (by kernel_rfl) (by kernel_rfl) (.bool true) (CR.out _) (fun w1 hb1 => hK.out _ _ (⟨hS.1.kept hb1, bel2 hS.2 hb1⟩) (fun hS => ?_))
  simp only [List.getElem_toArray, List.getElem_cons_zero, List.getElem_cons_succ, Act.put, List.setIfInBounds_toArray, List.set_cons_zero, List.set_cons_succ]
  refine wpAnyH_take (i := 3) (v := .bool true) rfl (by kernel_rfl) (by kernel_rfl) (by kernel_rfl) (fun _ _ _ h => h) (.inl ⟨by kernel_rfl, fun w _ => by kernel_rfl⟩) hS ?_
  simp only [List.getElem_toArray, List.getElem_cons_zero, List.getElem_cons_succ, Act.put, List.setIfInBounds_toArray, List.set_cons_zero, List.set_cons_succ]
  refine wpAnyH_take (i := 4) (v := .pointer (some ⟨w.heap.size, 17, none⟩)) rfl (by kernel_rfl) (by kernel_rfl) (by kernel_rfl) (fun _ _ _ h => h) (.inl ⟨by kernel_rfl, fun w _ => by kernel_rfl⟩) hS ?_
  simp only [List.getElem_toArray, List.getElem_cons_zero, List.getElem_cons_succ, Act.put, List.setIfInBounds_toArray, List.set_cons_zero, List.set_cons_succ]
  refine wpAnyH_take (i := 5) (v := .int .i64 n) rfl (by kernel_rfl) (by kernel_rfl) (by kernel_rfl) (fun _ _ _ h => h) (yields_cell (.tmp 7) rfl w.heap.size 17 (by kernel_rfl) n (fun w h => cid_bitsCell h.1 HLi.out) (by kernel_rfl)) hS ?_
  simp only [List.getElem_toArray, List.getElem_cons_zero, List.getElem_cons_succ, Act.put, List.setIfInBounds_toArray, List.set_cons_zero, List.set_cons_succ]
  refine wpAnyH_take (i := 6) (v := .bool true) rfl (by kernel_rfl) (by kernel_rfl) (by kernel_rfl) (fun _ _ _ h => h) (.inl ⟨by kernel_rfl, fun w _ => exec_geq 3 3 (.tmp 8) (.const (.int .i64 0)) rfl n 0 (by kernel_rfl) (by kernel_rfl) true hg0⟩) hS ?_
  simp only [List.getElem_toArray, List.getElem_cons_zero, List.getElem_cons_succ, Act.put, List.setIfInBounds_toArray, List.set_cons_zero, List.set_cons_succ]
  refine wpAnyH_take (i := 7) (v := .bool true) rfl (by kernel_rfl) (by kernel_rfl) (by kernel_rfl) (fun _ _ _ h => h) (.inl ⟨by kernel_rfl, fun w _ => by kernel_rfl⟩) hS ?_
  simp only [List.getElem_toArray, List.getElem_cons_zero, List.getElem_cons_succ, Act.put, List.setIfInBounds_toArray, List.set_cons_zero, List.set_cons_succ]
  refine wpAnyH_take (i := 8) (v := .bool true) rfl (by kernel_rfl) (by kernel_rfl) (by kernel_rfl) (fun _ _ _ h => h) (.inl ⟨by kernel_rfl, fun w _ => by kernel_rfl⟩) hS ?_
  simp only [List.getElem_toArray, List.getElem_cons_zero, List.getElem_cons_succ, Act.put, List.setIfInBounds_toArray, List.set_cons_zero, List.set_cons_succ]
  refine wpAnyH_take (i := 9) (v := .pointer (some ⟨w.heap.size, 17, none⟩)) rfl (by kernel_rfl) (by kernel_rfl) (by kernel_rfl) (fun _ _ _ h => h) (.inl ⟨by kernel_rfl, fun w _ => by kernel_rfl⟩) hS ?_
  simp only [List.getElem_toArray, List.getElem_cons_zero, List.getElem_cons_succ, Act.put, List.setIfInBounds_toArray, List.set_cons_zero, List.set_cons_succ]
  refine wpAnyH_take (i := 10) (v := .int .i64 n) rfl (by kernel_rfl) (by kernel_rfl) (by kernel_rfl) (fun _ _ _ h => h) (yields_cell (.tmp 12) rfl w.heap.size 17 (by kernel_rfl) n (fun w h => cid_bitsCell h.1 HLi.out) (by kernel_rfl)) hS ?_
  simp only [List.getElem_toArray, List.getElem_cons_zero, List.getElem_cons_succ, Act.put, List.setIfInBounds_toArray, List.set_cons_zero, List.set_cons_succ]
  refine wpAnyH_take (i := 11) (v := .pointer (some ⟨w.heap.size, 0, none⟩)) rfl (by kernel_rfl) (by kernel_rfl) (by kernel_rfl) (fun _ _ _ h => h) (.inl ⟨by kernel_rfl, fun w _ => by kernel_rfl⟩) hS ?_
  simp only [List.getElem_toArray, List.getElem_cons_zero, List.getElem_cons_succ, Act.put, List.setIfInBounds_toArray, List.set_cons_zero, List.set_cons_succ]
  refine wpAnyH_take (i := 12) (v := .agg (adr s b)) rfl (by kernel_rfl) (by kernel_rfl) (by kernel_rfl) (fun _ _ _ h => h) (yields_addr (.tmp 14) rfl w.heap.size (by kernel_rfl) s b n (fun w h => h.1) HLi.out (by kernel_rfl)) hS ?_
  simp only [List.getElem_toArray, List.getElem_cons_zero, List.getElem_cons_succ, Act.put, List.setIfInBounds_toArray, List.set_cons_zero, List.set_cons_succ]
  refine wpAnyH_ready (rs := [13]) (by kernel_rfl) (by simp) ?_
  refine AllReadyH.cons rfl (fun K' hK => ?_) AllReadyH.nil
  rw [if_pos (by kernel_rfl)]
  refine op_call2 38 #[.agg (adr s b)] (by kernel_rfl) (.int .i64 (m : Int)) (CW.out _) (fun w2 hb2 => hK.out _ _ (⟨hS.1.kept hb2, bel2 hS.2 hb2⟩) (fun hS => ?_))
  simp only [List.getElem_toArray, List.getElem_cons_zero, List.getElem_cons_succ, Act.put, List.setIfInBounds_toArray, List.set_cons_zero, List.set_cons_succ]
  refine wpAnyH_take (i := 14) (v := .bool false) rfl (by kernel_rfl) (by kernel_rfl) (by kernel_rfl) (fun _ _ _ h => h) (.inl ⟨by kernel_rfl, fun w _ => exec_leq 3 3 (.tmp 13) (.tmp 16) rfl n m (by kernel_rfl) (by kernel_rfl) false hl0⟩) hS ?_
  simp only [List.getElem_toArray, List.getElem_cons_zero, List.getElem_cons_succ, Act.put, List.setIfInBounds_toArray, List.set_cons_zero, List.set_cons_succ]
  refine wpAnyH_take (i := 15) (v := .bool false) rfl (by kernel_rfl) (by kernel_rfl) (by kernel_rfl) (fun _ _ _ h => h) (.inl ⟨by kernel_rfl, fun w _ => by kernel_rfl⟩) hS ?_
  simp only [List.getElem_toArray, List.getElem_cons_zero, List.getElem_cons_succ, Act.put, List.setIfInBounds_toArray, List.set_cons_zero, List.set_cons_succ]
  refine wpAnyH_take (i := 16) (v := .bool false) rfl (by kernel_rfl) (by kernel_rfl) (by kernel_rfl) (fun _ _ _ h => h) (.inl ⟨by kernel_rfl, fun w _ => by kernel_rfl⟩) hS ?_
  simp only [List.getElem_toArray, List.getElem_cons_zero, List.getElem_cons_succ, Act.put, List.setIfInBounds_toArray, List.set_cons_zero, List.set_cons_succ]
  refine wpAnyH_take (i := 17) (v := undef) rfl (by kernel_rfl) (by kernel_rfl) (by kernel_rfl) (fun _ _ _ h => h) (.inr ⟨by kernel_rfl, rfl⟩) hS ?_
  simp only [List.getElem_toArray, List.getElem_cons_zero, List.getElem_cons_succ, Act.put, List.setIfInBounds_toArray, List.set_cons_zero, List.set_cons_succ]
  refine wpAnyH_take (i := 18) (v := undef) rfl (by kernel_rfl) (by kernel_rfl) (by kernel_rfl) (fun _ _ _ h => h) (.inr ⟨by kernel_rfl, rfl⟩) hS ?_
  simp only [List.getElem_toArray, List.getElem_cons_zero, List.getElem_cons_succ, Act.put, List.setIfInBounds_toArray, List.set_cons_zero, List.set_cons_succ]
  refine wpAnyH_take (i := 19) (v := undef) rfl (by kernel_rfl) (by kernel_rfl) (by kernel_rfl) (fun _ _ _ h => h) (.inr ⟨by kernel_rfl, rfl⟩) hS ?_
  simp only [List.getElem_toArray, List.getElem_cons_zero, List.getElem_cons_succ, Act.put, List.setIfInBounds_toArray, List.set_cons_zero, List.set_cons_succ]
  refine wpAnyH_take (i := 20) (v := undef) rfl (by kernel_rfl) (by kernel_rfl) (by kernel_rfl) (fun _ _ _ h => h) (.inr ⟨by kernel_rfl, rfl⟩) hS ?_
  simp only [List.getElem_toArray, List.getElem_cons_zero, List.getElem_cons_succ, Act.put, List.setIfInBounds_toArray, List.set_cons_zero, List.set_cons_succ]
  refine wpAnyH_take (i := 21) (v := undef) rfl (by kernel_rfl) (by kernel_rfl) (by kernel_rfl) (fun _ _ _ h => h) (.inr ⟨by kernel_rfl, rfl⟩) hS ?_
  simp only [List.getElem_toArray, List.getElem_cons_zero, List.getElem_cons_succ, Act.put, List.setIfInBounds_toArray, List.set_cons_zero, List.set_cons_succ]
  refine wpAnyH_take (i := 22) (v := .bool false) rfl (by kernel_rfl) (by kernel_rfl) (by kernel_rfl) (fun _ _ _ h => h) (.inl ⟨by kernel_rfl, fun w _ => by kernel_rfl⟩) hS ?_
  simp only [List.getElem_toArray, List.getElem_cons_zero, List.getElem_cons_succ, Act.put, List.setIfInBounds_toArray, List.set_cons_zero, List.set_cons_succ]
  refine wpAnyH_take (i := 23) (v := .bool false) rfl (by kernel_rfl) (by kernel_rfl) (by kernel_rfl) (fun _ _ _ h => h) (.inl ⟨by kernel_rfl, fun w _ => by kernel_rfl⟩) hS ?_
  simp only [List.getElem_toArray, List.getElem_cons_zero, List.getElem_cons_succ, Act.put, List.setIfInBounds_toArray, List.set_cons_zero, List.set_cons_succ]
  refine wpAnyH_done (by kernel_rfl) ?_ _
  obtain ⟨_, hbE⟩ := hS
  go_wp2
  go_ret
  exact ⟨rfl, hbE⟩

set_option linter.unusedSimpArgs false in
set_option maxRecDepth 100000 in
set_option maxHeartbeats 4000000 in
theorem rright_D (s : Bool) (b : List Int) (hl : b.length = 16) (n : Int) (m : Nat) (w : World)
    (cR : ∀ w, Calls Tryz.prog 20 #[.agg (adr s b)] w fun e w' => e = .returned (.bool true) ∧ Below w.heap.size w w')
    (cW : ∀ w, Calls Tryz.prog 38 #[.agg (adr s b)] w fun e w' => e = .returned (.int .i64 (m : Int)) ∧ Below w.heap.size w w')
    (z : Bool) (cZ : ∀ w, Calls Tryz.prog 39 #[.agg (adr s b), .int .i64 n] w fun e w' => e = .returned (.bool z) ∧ Below w.heap.size w w') (hg0 : decide (n ≥ 0) = true) (hl0 : decide (n ≤ (m : Int)) = true) :
    Calls Tryz.prog 19 #[.agg (cid s b n)] w fun e w' => e = .returned (.bool z) ∧ Below w.heap.size w w' := by
  obtain ⟨W0, hW0⟩ : ∃ W, W = w.alloc (.cells (cid s b n) 29) := ⟨_, rfl⟩
  have hB0 : Blk W0 w.heap.size 29 (cid s b n) := hW0 ▸ Blk.new w _ _
  have hb0 : Below w.heap.size w W0 := hW0 ▸ (Below.refl _ _).alloc (Nat.le_refl _) _
  have HW0 := Lib.hid hW0.symm
  have HLi := Lib.hid hl
  have hS0 : Blk W0.drew w.heap.size 29 (cid s b n) ∧ Below w.heap.size w W0.drew := ⟨hB0.kept (below_drewN W0 1), bel2 hb0 (below_drewN W0 1)⟩
  have CR := Lib.hid cR
  have CW := Lib.hid cW
  have CZ := Lib.hid cZ
  clear hW0 hB0 hb0 hl cR cW cZ
  go_enter Tryz.func19, Tryz.ntmps19
  go_wp2_with fail
  rw [HW0.out]
  refine wp_region_held_drew (S := fun w' => Blk w' w.heap.size 29 (cid s b n) ∧ Below w.heap.size w w') (by kernel_rfl) hS0 (fun hS => ?_)
  change wpAnyH _ _ _ _ _ 24 #[false, false, false, false, false, false, false, false, false, false, false, false, false, false, false, false, false, false, false, false, false, false, false, false] _ _
  refine wpAnyH_take (i := 0) (v := .pointer (some ⟨w.heap.size, 0, none⟩)) rfl (by kernel_rfl) (by kernel_rfl) (by kernel_rfl) (fun _ _ _ h => h) (.inl ⟨by kernel_rfl, fun w _ => by kernel_rfl⟩) hS ?_
  simp only [List.getElem_toArray, List.getElem_cons_zero, List.getElem_cons_succ, Act.put, List.setIfInBounds_toArray, List.set_cons_zero, List.set_cons_succ]
  refine wpAnyH_take (i := 1) (v := .agg (adr s b)) rfl (by kernel_rfl) (by kernel_rfl) (by kernel_rfl) (fun _ _ _ h => h) (yields_addr (.tmp 3) rfl w.heap.size (by kernel_rfl) s b n (fun w h => h.1) HLi.out (by kernel_rfl)) hS ?_
  simp only [List.getElem_toArray, List.getElem_cons_zero, List.getElem_cons_succ, Act.put, List.setIfInBounds_toArray, List.set_cons_zero, List.set_cons_succ]
  refine wpAnyH_ready (rs := [2]) (by kernel_rfl) (by simp) ?_
  refine AllReadyH.cons rfl (fun K' hK => ?_) AllReadyH.nil
  refine step_call 20 #[.agg (adr s b)] (by kernel_rfl) (by kernel_rfl) (.bool true) (CR.out _) (fun w1 hb1 => hK.out _ _ (⟨hS.1.kept hb1, bel2 hS.2 hb1⟩) (fun hS => ?_))
  simp only [List.getElem_toArray, List.getElem_cons_zero, List.getElem_cons_succ, Act.put, List.setIfInBounds_toArray, List.set_cons_zero, List.set_cons_succ]
  refine wpAnyH_take (i := 3) (v := .bool true) rfl (by kernel_rfl) (by kernel_rfl) (by kernel_rfl) (fun _ _ _ h => h) (.inl ⟨by kernel_rfl, fun w _ => by kernel_rfl⟩) hS ?_
  simp only [List.getElem_toArray, List.getElem_cons_zero, List.getElem_cons_succ, Act.put, List.setIfInBounds_toArray, List.set_cons_zero, List.set_cons_succ]
  refine wpAnyH_take (i := 4) (v := .pointer (some ⟨w.heap.size, 17, none⟩)) rfl (by kernel_rfl) (by kernel_rfl) (by kernel_rfl) (fun _ _ _ h => h) (.inl ⟨by kernel_rfl, fun w _ => by kernel_rfl⟩) hS ?_
  simp only [List.getElem_toArray, List.getElem_cons_zero, List.getElem_cons_succ, Act.put, List.setIfInBounds_toArray, List.set_cons_zero, List.set_cons_succ]
  refine wpAnyH_take (i := 5) (v := .int .i64 n) rfl (by kernel_rfl) (by kernel_rfl) (by kernel_rfl) (fun _ _ _ h => h) (yields_cell (.tmp 7) rfl w.heap.size 17 (by kernel_rfl) n (fun w h => cid_bitsCell h.1 HLi.out) (by kernel_rfl)) hS ?_
  simp only [List.getElem_toArray, List.getElem_cons_zero, List.getElem_cons_succ, Act.put, List.setIfInBounds_toArray, List.set_cons_zero, List.set_cons_succ]
  refine wpAnyH_take (i := 6) (v := .bool true) rfl (by kernel_rfl) (by kernel_rfl) (by kernel_rfl) (fun _ _ _ h => h) (.inl ⟨by kernel_rfl, fun w _ => exec_geq 3 3 (.tmp 8) (.const (.int .i64 0)) rfl n 0 (by kernel_rfl) (by kernel_rfl) true hg0⟩) hS ?_
  simp only [List.getElem_toArray, List.getElem_cons_zero, List.getElem_cons_succ, Act.put, List.setIfInBounds_toArray, List.set_cons_zero, List.set_cons_succ]
  refine wpAnyH_take (i := 7) (v := .bool true) rfl (by kernel_rfl) (by kernel_rfl) (by kernel_rfl) (fun _ _ _ h => h) (.inl ⟨by kernel_rfl, fun w _ => by kernel_rfl⟩) hS ?_
  simp only [List.getElem_toArray, List.getElem_cons_zero, List.getElem_cons_succ, Act.put, List.setIfInBounds_toArray, List.set_cons_zero, List.set_cons_succ]
  refine wpAnyH_take (i := 8) (v := .bool true) rfl (by kernel_rfl) (by kernel_rfl) (by kernel_rfl) (fun _ _ _ h => h) (.inl ⟨by kernel_rfl, fun w _ => by kernel_rfl⟩) hS ?_
  simp only [List.getElem_toArray, List.getElem_cons_zero, List.getElem_cons_succ, Act.put, List.setIfInBounds_toArray, List.set_cons_zero, List.set_cons_succ]
  refine wpAnyH_take (i := 9) (v := .pointer (some ⟨w.heap.size, 17, none⟩)) rfl (by kernel_rfl) (by kernel_rfl) (by kernel_rfl) (fun _ _ _ h => h) (.inl ⟨by kernel_rfl, fun w _ => by kernel_rfl⟩) hS ?_
  simp only [List.getElem_toArray, List.getElem_cons_zero, List.getElem_cons_succ, Act.put, List.setIfInBounds_toArray, List.set_cons_zero, List.set_cons_succ]
  refine wpAnyH_take (i := 10) (v := .int .i64 n) rfl (by kernel_rfl) (by kernel_rfl) (by kernel_rfl) (fun _ _ _ h => h) (yields_cell (.tmp 12) rfl w.heap.size 17 (by kernel_rfl) n (fun w h => cid_bitsCell h.1 HLi.out) (by kernel_rfl)) hS ?_
  simp only [List.getElem_toArray, List.getElem_cons_zero, List.getElem_cons_succ, Act.put, List.setIfInBounds_toArray, List.set_cons_zero, List.set_cons_succ]
  refine wpAnyH_take (i := 11) (v := .pointer (some ⟨w.heap.size, 0, none⟩)) rfl (by kernel_rfl) (by kernel_rfl) (by kernel_rfl) (fun _ _ _ h => h) (.inl ⟨by kernel_rfl, fun w _ => by kernel_rfl⟩) hS ?_
  simp only [List.getElem_toArray, List.getElem_cons_zero, List.getElem_cons_succ, Act.put, List.setIfInBounds_toArray, List.set_cons_zero, List.set_cons_succ]
  refine wpAnyH_take (i := 12) (v := .agg (adr s b)) rfl (by kernel_rfl) (by kernel_rfl) (by kernel_rfl) (fun _ _ _ h => h) (yields_addr (.tmp 14) rfl w.heap.size (by kernel_rfl) s b n (fun w h => h.1) HLi.out (by kernel_rfl)) hS ?_
  simp only [List.getElem_toArray, List.getElem_cons_zero, List.getElem_cons_succ, Act.put, List.setIfInBounds_toArray, List.set_cons_zero, List.set_cons_succ]
  refine wpAnyH_ready (rs := [13]) (by kernel_rfl) (by simp) ?_
  refine AllReadyH.cons rfl (fun K' hK => ?_) AllReadyH.nil
  rw [if_pos (by kernel_rfl)]
  refine op_call2 38 #[.agg (adr s b)] (by kernel_rfl) (.int .i64 (m : Int)) (CW.out _) (fun w2 hb2 => hK.out _ _ (⟨hS.1.kept hb2, bel2 hS.2 hb2⟩) (fun hS => ?_))
  simp only [List.getElem_toArray, List.getElem_cons_zero, List.getElem_cons_succ, Act.put, List.setIfInBounds_toArray, List.set_cons_zero, List.set_cons_succ]
  refine wpAnyH_take (i := 14) (v := .bool true) rfl (by kernel_rfl) (by kernel_rfl) (by kernel_rfl) (fun _ _ _ h => h) (.inl ⟨by kernel_rfl, fun w _ => exec_leq 3 3 (.tmp 13) (.tmp 16) rfl n m (by kernel_rfl) (by kernel_rfl) true hl0⟩) hS ?_
  simp only [List.getElem_toArray, List.getElem_cons_zero, List.getElem_cons_succ, Act.put, List.setIfInBounds_toArray, List.set_cons_zero, List.set_cons_succ]
  refine wpAnyH_take (i := 15) (v := .bool true) rfl (by kernel_rfl) (by kernel_rfl) (by kernel_rfl) (fun _ _ _ h => h) (.inl ⟨by kernel_rfl, fun w _ => by kernel_rfl⟩) hS ?_
  simp only [List.getElem_toArray, List.getElem_cons_zero, List.getElem_cons_succ, Act.put, List.setIfInBounds_toArray, List.set_cons_zero, List.set_cons_succ]
  refine wpAnyH_take (i := 16) (v := .bool true) rfl (by kernel_rfl) (by kernel_rfl) (by kernel_rfl) (fun _ _ _ h => h) (.inl ⟨by kernel_rfl, fun w _ => by kernel_rfl⟩) hS ?_
  simp only [List.getElem_toArray, List.getElem_cons_zero, List.getElem_cons_succ, Act.put, List.setIfInBounds_toArray, List.set_cons_zero, List.set_cons_succ]
  refine wpAnyH_take (i := 17) (v := .pointer (some ⟨w.heap.size, 0, none⟩)) rfl (by kernel_rfl) (by kernel_rfl) (by kernel_rfl) (fun _ _ _ h => h) (.inl ⟨by kernel_rfl, fun w _ => by kernel_rfl⟩) hS ?_
  simp only [List.getElem_toArray, List.getElem_cons_zero, List.getElem_cons_succ, Act.put, List.setIfInBounds_toArray, List.set_cons_zero, List.set_cons_succ]
  refine wpAnyH_take (i := 18) (v := .agg (adr s b)) rfl (by kernel_rfl) (by kernel_rfl) (by kernel_rfl) (fun _ _ _ h => h) (yields_addr (.tmp 20) rfl w.heap.size (by kernel_rfl) s b n (fun w h => h.1) HLi.out (by kernel_rfl)) hS ?_
  simp only [List.getElem_toArray, List.getElem_cons_zero, List.getElem_cons_succ, Act.put, List.setIfInBounds_toArray, List.set_cons_zero, List.set_cons_succ]
  refine wpAnyH_take (i := 19) (v := .pointer (some ⟨w.heap.size, 17, none⟩)) rfl (by kernel_rfl) (by kernel_rfl) (by kernel_rfl) (fun _ _ _ h => h) (.inl ⟨by kernel_rfl, fun w _ => by kernel_rfl⟩) hS ?_
  simp only [List.getElem_toArray, List.getElem_cons_zero, List.getElem_cons_succ, Act.put, List.setIfInBounds_toArray, List.set_cons_zero, List.set_cons_succ]
  refine wpAnyH_take (i := 20) (v := .int .i64 n) rfl (by kernel_rfl) (by kernel_rfl) (by kernel_rfl) (fun _ _ _ h => h) (yields_cell (.tmp 22) rfl w.heap.size 17 (by kernel_rfl) n (fun w h => cid_bitsCell h.1 HLi.out) (by kernel_rfl)) hS ?_
  simp only [List.getElem_toArray, List.getElem_cons_zero, List.getElem_cons_succ, Act.put, List.setIfInBounds_toArray, List.set_cons_zero, List.set_cons_succ]
  refine wpAnyH_ready (rs := [21]) (by kernel_rfl) (by simp) ?_
  refine AllReadyH.cons rfl (fun K' hK => ?_) AllReadyH.nil
  rw [if_pos (by kernel_rfl)]
  refine op_call2 39 #[.agg (adr s b), .int .i64 n] (by kernel_rfl) (.bool z) (CZ.out _) (fun w3 hb3 => hK.out _ _ (⟨hS.1.kept hb3, bel2 hS.2 hb3⟩) (fun hS => ?_))
  simp only [List.getElem_toArray, List.getElem_cons_zero, List.getElem_cons_succ, Act.put, List.setIfInBounds_toArray, List.set_cons_zero, List.set_cons_succ]
  refine wpAnyH_take (i := 22) (v := .bool z) rfl (by kernel_rfl) (by kernel_rfl) (by kernel_rfl) (fun _ _ _ h => h) (.inl ⟨by kernel_rfl, fun w _ => by kernel_rfl⟩) hS ?_
  simp only [List.getElem_toArray, List.getElem_cons_zero, List.getElem_cons_succ, Act.put, List.setIfInBounds_toArray, List.set_cons_zero, List.set_cons_succ]
  refine wpAnyH_take (i := 23) (v := .bool z) rfl (by kernel_rfl) (by kernel_rfl) (by kernel_rfl) (fun _ _ _ h => h) (.inl ⟨by kernel_rfl, fun w _ => by kernel_rfl⟩) hS ?_
  simp only [List.getElem_toArray, List.getElem_cons_zero, List.getElem_cons_succ, Act.put, List.setIfInBounds_toArray, List.set_cons_zero, List.set_cons_succ]
  refine wpAnyH_done (by kernel_rfl) ?_ _
  obtain ⟨_, hbE⟩ := hS
  go_wp2
  go_ret
  exact ⟨rfl, hbE⟩

theorem rright_any (s : Bool) (B : List Nat) (hl : B.length = 16) (hB : ∀ x ∈ B, x < 256) (n : Int) (w : World) :
    Calls Tryz.prog 19 #[.agg (cid s (ints B) n)] w fun e w' => e = .returned (.bool (rightC s (ints B) n)) ∧ Below w.heap.size w w' := by
  have hli : (ints B).length = 16 := by rw [ints_length, hl]
  have cR := refRight_any s (ints B) hli
  cases hr : (s || flat (ints B)) with
  | false =>
    rw [hr] at cR
    refine (rright_A s (ints B) hli n 0 w cR).mono fun e w' h => ⟨?_, h.2⟩
    rw [h.1]; unfold rightC; rw [hr]; rfl
  | true =>
    rw [hr] at cR
    by_cases h0 : n ≥ 0
    · obtain ⟨k, rfl⟩ : ∃ k : Nat, n = k := ⟨n.toNat, by omega⟩
      by_cases hw : (k : Int) ≤ (wid s : Int)
      · refine (rright_D s (ints B) hli k (wid s) w cR (width_any s (ints B)) _ (zero_any s B hl hB k (by omega)) (decide_eq_true h0) (decide_eq_true hw)).mono fun e w' h => ⟨?_, h.2⟩
        rw [h.1]; unfold rightC; rw [hr, decide_eq_true (show (0 : Int) ≤ (k : Int) by omega), decide_eq_true hw]; rfl
      · refine (rright_C s (ints B) hli k (wid s) w cR (width_any s (ints B)) (decide_eq_true h0) (decide_eq_false hw)).mono fun e w' h => ⟨?_, h.2⟩
        rw [h.1]; unfold rightC; rw [hr, decide_eq_true (show (0 : Int) ≤ (k : Int) by omega), decide_eq_false hw]; rfl
    · refine (rright_B s (ints B) hli n 0 w cR (decide_eq_false h0)).mono fun e w' h => ⟨?_, h.2⟩
      rw [h.1]; unfold rightC; rw [hr, decide_eq_false (show ¬ (0 : Int) ≤ n by omega)]; rfl
end Go.Proofs.YtijboclcbbnhbaaGreatDoor
namespace Go.Proofs.YtijboclcbbnhbaaGreatDoor
open Go.RowKit

/-- Are the first bits the same? -/
def agreeB (b c : List Int) (n : Nat) : Bool := (List.range n).all fun i => bitN b i == bitN c i
theorem agreeB_of (b c : List Int) (n : Nat) (h : ∀ j, j < n → bitN b j = bitN c j) : agreeB b c n = true := by
  unfold agreeB
  rw [List.all_eq_true]
  intro i hi
  simp [h i (List.mem_range.1 hi)]
theorem agreeB_not (b c : List Int) (n j : Nat) (h2 : j < n) (h : bitN b j ≠ bitN c j) : agreeB b c n = false := by
  rw [← Bool.not_eq_true]
  intro hz
  have := List.all_eq_true.1 hz j (List.mem_range.2 h2)
  exact h (by simpa using this)

set_option linter.unusedSimpArgs false in
set_option maxRecDepth 100000 in
set_option maxHeartbeats 4000000 in
theorem rcont_yes (cs sa : Bool) (C A : List Nat) (hlc : C.length = 16) (hla : A.length = 16) (hC : ∀ x ∈ C, x < 256) (hA : ∀ x ∈ A, x < 256) (N : Nat) (hN : N ≤ 128) (heq : sa = cs) (w : World)
    (cR : ∀ w, Calls Tryz.prog 19 #[.agg (cid cs (ints C) (N : Int))] w fun e w' => e = .returned (.bool true) ∧ Below w.heap.size w w')
    (cQ : ∀ w, Calls Tryz.prog 20 #[.agg (adr sa (ints A))] w fun e w' => e = .returned (.bool true) ∧ Below w.heap.size w w') :
    Calls Tryz.prog 6 #[.agg (cid cs (ints C) (N : Int)), .agg (adr sa (ints A))] w fun e w' => e = .returned (.bool (agreeB (ints A) (ints C) N)) ∧ Below w.heap.size w w' := by
  obtain ⟨W0, hW0⟩ : ∃ W, W = w.alloc (.cells (cid cs (ints C) (N : Int)) 29) := ⟨_, rfl⟩
  obtain ⟨W1, hW1⟩ : ∃ W, W = W0.alloc (.cells (adr sa (ints A)) 25) := ⟨_, rfl⟩
  have hB0 : Blk W0 w.heap.size 29 (cid cs (ints C) (N : Int)) := hW0 ▸ Blk.new w _ _
  have hb0 : Below w.heap.size w W0 := hW0 ▸ (Below.refl _ _).alloc (Nat.le_refl _) _
  have hs0 : W0.heap.size = w.heap.size + 1 := by rw [hW0]; simp
  have hb1 : Below W0.heap.size W0 W1 := hW1 ▸ (Below.refl _ _).alloc (Nat.le_refl _) _
  have hB1 : Blk W1 (w.heap.size + 1) 25 (adr sa (ints A)) := by rw [← hs0]; exact hW1 ▸ Blk.new W0 _ _
  have HW0 := Lib.hid hW0.symm
  have HW1 := Lib.hid hW1.symm
  have H1 : Hid (Blk W1 (w.heap.size) 29 (cid cs (ints C) (N : Int)) ∧ Blk W1 (w.heap.size + 1) 25 (adr sa (ints A)) ∧ Below w.heap.size w W1) := Lib.hid ⟨hB0.kept hb1, hB1, bel2 hb0 hb1⟩
  have LC : Hid ((ints C).length = 16) := Lib.hid (by rw [ints_length, hlc])
  have LA : Hid (17 = (adr sa (ints A)).size) := Lib.hid (by rw [adr_size, ints_length, hla])
  have L18 : Hid (18 = (cid cs (ints C) (N : Int)).size) := Lib.hid (by rw [cid_size, ints_length, hlc])
  have CR := Lib.hid cR
  have CQ := Lib.hid cQ
  have CBa := Lib.hid (fun i hi w => bit_any sa A hla hA i hi w)
  have CBc := Lib.hid (fun i hi w => bit_any cs C hlc hC i hi w)
  have HBc : Hid (Blk W1 (w.heap.size) 29 (cid cs (ints C) (N : Int))) := Lib.hid H1.out.1
  have HSz := Lib.hid hs0
  have HEq := Lib.hid heq
  clear hW0 hW1 hB0 hb0 hb1 hB1 hlc hla hC hA cR cQ hs0 heq
  go_enter Tryz.func6, Tryz.ntmps6
  go_upto_region 1 with fail
  rw [HW0.out]
  rw [HW1.out]
  go_wp2_with (refine wpl_load 29 _ rfl w.heap.size rfl _ _ _ HBc.out Tryz.underlying29 rfl 18 Tryz.infoCidr L18.out rfl ?_)
  refine (CR.out W1).mono ?_
  rintro e w1 ⟨rfl, hb1⟩
  have H2 : Hid (Blk w1 (w.heap.size) 29 (cid cs (ints C) (N : Int)) ∧ Blk w1 (w.heap.size + 1) 25 (adr sa (ints A)) ∧ Below w.heap.size w w1) := Lib.hid ⟨H1.out.1.kept hb1, H1.out.2.1.kept hb1, bel2 H1.out.2.2 hb1⟩
  have HBa : Hid (Blk w1 (w.heap.size + 1) 25 (adr sa (ints A))) := Lib.hid H2.out.2.1
  clear hb1
  go_wp2_with (refine wpl_load 25 _ rfl (w.heap.size + 1) rfl _ _ _ HBa.out Tryz.underlying25 rfl 17 Tryz.infoAddr LA.out rfl ?_)
  refine (CQ.out w1).mono ?_
  rintro e w2 ⟨rfl, hb2⟩
  have H3 : Hid (Blk w2 (w.heap.size) 29 (cid cs (ints C) (N : Int)) ∧ Blk w2 (w.heap.size + 1) 25 (adr sa (ints A)) ∧ Below w.heap.size w w2) := Lib.hid ⟨H2.out.1.kept hb2, H2.out.2.1.kept hb2, bel2 H2.out.2.2 hb2⟩
  have c0 : w2.cell? ⟨w.heap.size, 0, none⟩ = some (.bool cs) := by rw [H3.out.1.cell]; rfl
  have c1 : w2.cell? ⟨w.heap.size + 1, 0, none⟩ = some (.bool sa) := by rw [H3.out.2.1.cell]; rfl
  obtain rfl := HEq.out
  have qs : (sa != sa) = false := by simp
  clear hb2 H2 HBa HBc H1 CR CQ
  go_wp2
  clear c0 c1
  go_loopw [5] (fun i wr => ∃ k : Nat, k ≤ N ∧ i = .int .i64 k ∧ Hid ((∀ j, j < k → bitN (ints A) j = bitN (ints C) j) ∧ Blk wr (w.heap.size) 29 (cid sa (ints C) (N : Int)) ∧ Blk wr (w.heap.size + 1) 25 (adr sa (ints A)) ∧ Below w.heap.size w wr)) (fun i _ => N - (intOf i).toNat)
  case atStart => exact ⟨0, Nat.zero_le _, rfl, (fun j h => by omega), H3.out⟩
  case round =>
    obtain ⟨k, hk, rfl, hh⟩ := hrel
    clear H3
    have cn := cid_bitsCell hh.out.2.1 LC.out
    by_cases hlt : k < N
    · obtain ⟨x, hx⟩ : ∃ x, x = bitN (ints A) k := ⟨_, rfl⟩
      obtain ⟨y, hy⟩ : ∃ y, y = bitN (ints C) k := ⟨_, rfl⟩
      have CBa := Lib.hid (CBa.out k (by omega))
      have CBc := Lib.hid (CBc.out k (by omega))
      rw [← hx] at CBa
      rw [← hy] at CBc
      have HXe := Lib.hid hx
      have HYe := Lib.hid hy
      clear hx hy
      go_wp2_with fail
      have hS0 : Blk wr.drew (w.heap.size) 29 (cid sa (ints C) (N : Int)) ∧ Blk wr.drew (w.heap.size + 1) 25 (adr sa (ints A)) ∧ Below w.heap.size w wr.drew := ⟨hh.out.2.1.kept (below_drewN wr 1), hh.out.2.2.1.kept (below_drewN wr 1), bel2 hh.out.2.2.2 (below_drewN wr 1)⟩
      clear cn
      refine wp_region_held_drew (S := fun w' => Blk w' (w.heap.size) 29 (cid sa (ints C) (N : Int)) ∧ Blk w' (w.heap.size + 1) 25 (adr sa (ints A)) ∧ Below w.heap.size w w') (by kernel_rfl) hS0 (fun hS => ?_)
      change wpAnyH _ _ _ _ _ 8 #[false, false, false, false, false, false, false, false] _ _
      refine wpAnyH_take (i := 0) (v := .agg (adr sa (ints A))) rfl (by kernel_rfl) (by kernel_rfl) (by kernel_rfl) (fun _ _ _ h => h) (yields_load 25 (.tmp 3) rfl (w.heap.size + 1) (by kernel_rfl) _ _ _ (fun w h => h.2.1) Tryz.underlying25 rfl 17 Tryz.infoAddr LA.out (by kernel_rfl)) hS ?_
      simp only [List.getElem_toArray, List.getElem_cons_zero, List.getElem_cons_succ, Act.put, List.setIfInBounds_toArray, List.set_cons_zero, List.set_cons_succ]
      refine wpAnyH_take (i := 1) (v := .int .i64 (k : Int)) rfl (by kernel_rfl) (by kernel_rfl) (by kernel_rfl) (fun _ _ _ h => h) (.inl ⟨by kernel_rfl, fun w _ => by kernel_rfl⟩) hS ?_
      simp only [List.getElem_toArray, List.getElem_cons_zero, List.getElem_cons_succ, Act.put, List.setIfInBounds_toArray, List.set_cons_zero, List.set_cons_succ]
      refine wpAnyH_take (i := 3) (v := .pointer (some ⟨w.heap.size, 0, none⟩)) rfl (by kernel_rfl) (by kernel_rfl) (by kernel_rfl) (fun _ _ _ h => h) (.inl ⟨by kernel_rfl, fun w _ => by kernel_rfl⟩) hS ?_
      simp only [List.getElem_toArray, List.getElem_cons_zero, List.getElem_cons_succ, Act.put, List.setIfInBounds_toArray, List.set_cons_zero, List.set_cons_succ]
      refine wpAnyH_take (i := 4) (v := .agg (adr sa (ints C))) rfl (by kernel_rfl) (by kernel_rfl) (by kernel_rfl) (fun _ _ _ h => h) (yields_addr (.tmp 31) rfl w.heap.size (by kernel_rfl) sa (ints C) (N : Int) (fun w h => h.1) LC.out (by kernel_rfl)) hS ?_
      simp only [List.getElem_toArray, List.getElem_cons_zero, List.getElem_cons_succ, Act.put, List.setIfInBounds_toArray, List.set_cons_zero, List.set_cons_succ]
      refine wpAnyH_take (i := 5) (v := .int .i64 (k : Int)) rfl (by kernel_rfl) (by kernel_rfl) (by kernel_rfl) (fun _ _ _ h => h) (.inl ⟨by kernel_rfl, fun w _ => by kernel_rfl⟩) hS ?_
      simp only [List.getElem_toArray, List.getElem_cons_zero, List.getElem_cons_succ, Act.put, List.setIfInBounds_toArray, List.set_cons_zero, List.set_cons_succ]
      refine wpAnyH_ready (rs := [2]) (by kernel_rfl) (by simp) ?_
      refine AllReadyH.cons rfl (fun K' hK => ?_) AllReadyH.nil
      refine step_call 21 #[.agg (adr sa (ints A)), .int .i64 (k : Int)] (by kernel_rfl) (by kernel_rfl) (.int .i64 x) (CBa.out _) (fun w1 hb1 => hK.out _ _ (⟨hS.1.kept hb1, hS.2.1.kept hb1, bel2 hS.2.2 hb1⟩) (fun hS => ?_))
      simp only [List.getElem_toArray, List.getElem_cons_zero, List.getElem_cons_succ, Act.put, List.setIfInBounds_toArray, List.set_cons_zero, List.set_cons_succ]
      refine wpAnyH_ready (rs := [6]) (by kernel_rfl) (by simp) ?_
      refine AllReadyH.cons rfl (fun K' hK => ?_) AllReadyH.nil
      refine step_call 21 #[.agg (adr sa (ints C)), .int .i64 (k : Int)] (by kernel_rfl) (by kernel_rfl) (.int .i64 y) (CBc.out _) (fun w2 hb2 => hK.out _ _ (⟨hS.1.kept hb2, hS.2.1.kept hb2, bel2 hS.2.2 hb2⟩) (fun hS => ?_))
      simp only [List.getElem_toArray, List.getElem_cons_zero, List.getElem_cons_succ, Act.put, List.setIfInBounds_toArray, List.set_cons_zero, List.set_cons_succ]
      refine wpAnyH_take (i := 7) (v := .bool (x != y)) rfl (by kernel_rfl) (by kernel_rfl) (by kernel_rfl) (fun _ _ _ h => h) (.inl ⟨by kernel_rfl, fun w _ => by kernel_rfl⟩) hS ?_
      simp only [List.getElem_toArray, List.getElem_cons_zero, List.getElem_cons_succ, Act.put, List.setIfInBounds_toArray, List.set_cons_zero, List.set_cons_succ]
      refine wpAnyH_done (by kernel_rfl) ?_ _
      obtain ⟨hBE, hAE, hbE⟩ := hS
      have HE := Lib.hid (⟨hBE, hAE, hbE⟩ : Blk w2 (w.heap.size) 29 (cid sa (ints C) (N : Int)) ∧ Blk w2 (w.heap.size + 1) 25 (adr sa (ints A)) ∧ Below w.heap.size w w2)
      clear hBE hAE hbE
      by_cases hxy : x = y
      · have q : (x != y) = false := by rw [hxy]; simp
        have HX : Hid (∀ j, j < k + 1 → bitN (ints A) j = bitN (ints C) j) := Lib.hid fun j hj => by
          by_cases e : j = k
          · rw [e, ← HXe.out, ← HYe.out, hxy]
          · exact hh.out.1 j (by omega)
        clear hxy hh
        go_wp2
        go_roundw
        case rel => exact ⟨k + 1, by omega, by go_num, HX.out, HE.out⟩
        case measure => simp [intOf]; omega
      · have q : (x != y) = true := by rw [bne_iff_ne]; exact hxy
        have HX : Hid (agreeB (ints A) (ints C) N = false) := Lib.hid (agreeB_not _ _ _ k hlt (by rw [← HXe.out, ← HYe.out]; exact hxy))
        clear hxy hh
        go_wp2
        go_ret
        exact ⟨by rw [HX.out]; rfl, HE.out.2.2⟩
    · obtain rfl : k = N := by omega
      have HX : Hid (agreeB (ints A) (ints C) k = true) := Lib.hid (agreeB_of _ _ _ hh.out.1)
      have HbX : Hid (Below w.heap.size w wr) := Lib.hid hh.out.2.2.2
      clear hh
      go_wp2
      go_ret
      exact ⟨by rw [HX.out]; rfl, HbX.out⟩
end Go.Proofs.YtijboclcbbnhbaaGreatDoor
namespace Go.Proofs.YtijboclcbbnhbaaGreatDoor
open Go.RowKit

/-- Does an address begin so? -/
def containsC (cs : Bool) (cb : List Int) (n : Int) (sa : Bool) (ab : List Int) : Bool := rightC cs cb n && ((sa || flat ab) && ((sa == cs) && agreeB ab cb n.toNat))

set_option maxRecDepth 100000 in
set_option maxHeartbeats 4000000 in
theorem rcont_no (cs sa : Bool) (cb ab : List Int) (hlc : cb.length = 16) (hla : ab.length = 16) (n : Int) (r q : Bool) (w : World)
    (cR : ∀ w, Calls Tryz.prog 19 #[.agg (cid cs cb n)] w fun e w' => e = .returned (.bool r) ∧ Below w.heap.size w w')
    (cQ : ∀ w, Calls Tryz.prog 20 #[.agg (adr sa ab)] w fun e w' => e = .returned (.bool q) ∧ Below w.heap.size w w')
    (h : r = false ∨ q = false ∨ sa ≠ cs) :
    Calls Tryz.prog 6 #[.agg (cid cs cb n), .agg (adr sa ab)] w fun e w' => e = .returned (.bool false) ∧ Below w.heap.size w w' := by
  obtain ⟨W0, hW0⟩ : ∃ W, W = w.alloc (.cells (cid cs cb n) 29) := ⟨_, rfl⟩
  obtain ⟨W1, hW1⟩ : ∃ W, W = W0.alloc (.cells (adr sa ab) 25) := ⟨_, rfl⟩
  have hB0 : Blk W0 w.heap.size 29 (cid cs cb n) := hW0 ▸ Blk.new w _ _
  have hb0 : Below w.heap.size w W0 := hW0 ▸ (Below.refl _ _).alloc (Nat.le_refl _) _
  have hs0 : W0.heap.size = w.heap.size + 1 := by rw [hW0]; simp
  have hb1 : Below W0.heap.size W0 W1 := hW1 ▸ (Below.refl _ _).alloc (Nat.le_refl _) _
  have hB1 : Blk W1 (w.heap.size + 1) 25 (adr sa ab) := by rw [← hs0]; exact hW1 ▸ Blk.new W0 _ _
  have HW0 := Lib.hid hW0.symm
  have HW1 := Lib.hid hW1.symm
  have HBc : Hid (Blk W1 (w.heap.size) 29 (cid cs cb n)) := Lib.hid (hB0.kept hb1)
  have HBa0 := Lib.hid hB1
  have Hb0 : Hid (Below w.heap.size w W1) := Lib.hid (bel2 hb0 hb1)
  have LA : Hid (17 = (adr sa ab).size) := Lib.hid (by rw [adr_size, hla])
  have L18 : Hid (18 = (cid cs cb n).size) := Lib.hid (by rw [cid_size, hlc])
  have CR := Lib.hid cR
  have CQ := Lib.hid cQ
  have HSz := Lib.hid hs0
  clear hW0 hW1 hB0 hb0 hb1 hB1 hlc hla cR cQ hs0
  go_enter Tryz.func6, Tryz.ntmps6
  go_upto_region 1 with fail
  rw [HW0.out]
  rw [HW1.out]
  go_wp2_with (refine wpl_load 29 _ rfl w.heap.size rfl _ _ _ HBc.out Tryz.underlying29 rfl 18 Tryz.infoCidr L18.out rfl ?_)
  refine (CR.out W1).mono ?_
  rintro e w1 ⟨rfl, hb1⟩
  have HBc1 := Lib.hid (HBc.out.kept hb1)
  have HBa := Lib.hid (HBa0.out.kept hb1)
  have Hb1 := Lib.hid (bel2 Hb0.out hb1)
  clear hb1
  cases r with
  | false =>
    go_wp2
    go_ret
    exact ⟨rfl, Hb1.out⟩
  | true =>
    go_wp2_with (refine wpl_load 25 _ rfl (w.heap.size + 1) rfl _ _ _ HBa.out Tryz.underlying25 rfl 17 Tryz.infoAddr LA.out rfl ?_)
    refine (CQ.out w1).mono ?_
    rintro e w2 ⟨rfl, hb2⟩
    have Hb2 := Lib.hid (bel2 Hb1.out hb2)
    cases q with
    | false =>
      go_wp2
      go_ret
      exact ⟨rfl, Hb2.out⟩
    | true =>
      have hne : (sa != cs) = true := by
        rcases h with h | h | h
        · cases h
        · cases h
        · simpa using h
      have c0 : w2.cell? ⟨w.heap.size, 0, none⟩ = some (.bool cs) := by rw [(HBc1.out.kept hb2).cell]; rfl
      have c1 : w2.cell? ⟨w.heap.size + 1, 0, none⟩ = some (.bool sa) := by rw [(HBa.out.kept hb2).cell]; rfl
      clear h hb2
      cases sa <;> cases cs
      · cases hne
      · go_wp2
        go_ret
        exact ⟨rfl, Hb2.out⟩
      · go_wp2
        go_ret
        exact ⟨rfl, Hb2.out⟩
      · cases hne

theorem rcont_any (cs sa : Bool) (C A : List Nat) (hlc : C.length = 16) (hla : A.length = 16) (hC : ∀ x ∈ C, x < 256) (hA : ∀ x ∈ A, x < 256) (n : Int) (w : World) :
    Calls Tryz.prog 6 #[.agg (cid cs (ints C) n), .agg (adr sa (ints A))] w fun e w' => e = .returned (.bool (containsC cs (ints C) n sa (ints A))) ∧ Below w.heap.size w w' := by
  have hli : (ints C).length = 16 := by rw [ints_length, hlc]
  have hlj : (ints A).length = 16 := by rw [ints_length, hla]
  have cR := rright_any cs C hlc hC n
  have cQ := refRight_any sa (ints A) hlj
  by_cases h : rightC cs (ints C) n = true ∧ (sa || flat (ints A)) = true ∧ sa = cs
  · obtain ⟨h1, h2, h3⟩ := h
    have h0 : 0 ≤ n ∧ n ≤ wid cs := by
      unfold rightC at h1
      simp only [Bool.and_eq_true, decide_eq_true_eq] at h1
      exact ⟨h1.2.1, h1.2.2.1⟩
    obtain ⟨N, rfl⟩ : ∃ N : Nat, n = N := ⟨n.toNat, by omega⟩
    have := wid_le cs
    refine (rcont_yes cs sa C A hlc hla hC hA N (by omega) h3 w (fun w => (cR w).mono fun e w' hh => ⟨by rw [hh.1, h1], hh.2⟩) (fun w => (cQ w).mono fun e w' hh => ⟨by rw [hh.1, h2], hh.2⟩)).mono fun e w' hh => ⟨?_, hh.2⟩
    rw [hh.1]
    unfold containsC
    rw [h1, h2, h3]
    simp
  · refine (rcont_no cs sa (ints C) (ints A) hli hlj n _ _ w cR cQ ?_).mono fun e w' hh => ⟨?_, hh.2⟩
    · cases e1 : rightC cs (ints C) n with
      | false => exact .inl rfl
      | true =>
        cases e2 : (sa || flat (ints A)) with
        | false => exact .inr (.inl rfl)
        | true => exact .inr (.inr fun e3 => h ⟨e1, e2, e3⟩)
    · rw [hh.1]
      unfold containsC
      cases e1 : rightC cs (ints C) n with
      | false => rfl
      | true =>
        cases e2 : (sa || flat (ints A)) with
        | false => rfl
        | true =>
          have : (sa == cs) = false := by rw [beq_eq_false_iff_ne]; exact fun e3 => h ⟨e1, e2, e3⟩
          rw [this]
          rfl

/-- Does a cidr contain all of another one? -/
def coversC (cs : Bool) (cb : List Int) (n : Int) (ds : Bool) (db : List Int) (m : Int) : Bool := rightC ds db m && (containsC cs cb n ds db && decide (n ≤ m))

set_option maxRecDepth 100000 in
set_option maxHeartbeats 4000000 in
theorem rcov_walk (cs ds : Bool) (cb db : List Int) (hlc : cb.length = 16) (hld : db.length = 16) (n m : Int) (r q : Bool) (w : World)
    (cR : ∀ w, Calls Tryz.prog 19 #[.agg (cid ds db m)] w fun e w' => e = .returned (.bool r) ∧ Below w.heap.size w w')
    (cQ : ∀ w, Calls Tryz.prog 6 #[.agg (cid cs cb n), .agg (adr ds db)] w fun e w' => e = .returned (.bool q) ∧ Below w.heap.size w w') :
    Calls Tryz.prog 22 #[.agg (cid cs cb n), .agg (cid ds db m)] w fun e w' => e = .returned (.bool (r && (q && decide (n ≤ m)))) ∧ Below w.heap.size w w' := by
  obtain ⟨W0, hW0⟩ : ∃ W, W = w.alloc (.cells (cid cs cb n) 29) := ⟨_, rfl⟩
  obtain ⟨W1, hW1⟩ : ∃ W, W = W0.alloc (.cells (cid ds db m) 29) := ⟨_, rfl⟩
  have hB0 : Blk W0 w.heap.size 29 (cid cs cb n) := hW0 ▸ Blk.new w _ _
  have hb0 : Below w.heap.size w W0 := hW0 ▸ (Below.refl _ _).alloc (Nat.le_refl _) _
  have hs0 : W0.heap.size = w.heap.size + 1 := by rw [hW0]; simp
  have hb1 : Below W0.heap.size W0 W1 := hW1 ▸ (Below.refl _ _).alloc (Nat.le_refl _) _
  have hB1 : Blk W1 (w.heap.size + 1) 29 (cid ds db m) := by rw [← hs0]; exact hW1 ▸ Blk.new W0 _ _
  have HW0 := Lib.hid hW0.symm
  have HW1 := Lib.hid hW1.symm
  have HBc : Hid (Blk W1 (w.heap.size) 29 (cid cs cb n)) := Lib.hid (hB0.kept hb1)
  have HBd := Lib.hid hB1
  have Hb0 : Hid (Below w.heap.size w W1) := Lib.hid (bel2 hb0 hb1)
  have L18 : Hid (18 = (cid cs cb n).size) := Lib.hid (by rw [cid_size, hlc])
  have L18d : Hid (18 = (cid ds db m).size) := Lib.hid (by rw [cid_size, hld])
  have LD := Lib.hid hld
  have LC := Lib.hid hlc
  have CR := Lib.hid cR
  have CQ := Lib.hid cQ
  have HSz := Lib.hid hs0
  clear hW0 hW1 hB0 hb0 hb1 hB1 hlc hld cR cQ hs0
  go_enter Tryz.func22, Tryz.ntmps22
  go_upto_region 1 with fail
  rw [HW0.out]
  rw [HW1.out]
  go_wp2_with (refine wpl_load 29 _ rfl (w.heap.size + 1) rfl _ _ _ HBd.out Tryz.underlying29 rfl 18 Tryz.infoCidr L18d.out rfl ?_)
  refine (CR.out W1).mono ?_
  rintro e w1 ⟨rfl, hb1⟩
  have HBc1 := Lib.hid (HBc.out.kept hb1)
  have HBd1 := Lib.hid (HBd.out.kept hb1)
  have Hb1 := Lib.hid (bel2 Hb0.out hb1)
  clear hb1
  cases r with
  | false =>
    go_wp2
    go_ret
    exact ⟨rfl, Hb1.out⟩
  | true =>
    go_wp2_with (first | (refine wpl_load 29 _ rfl w.heap.size rfl _ _ _ HBc1.out Tryz.underlying29 rfl 18 Tryz.infoCidr L18.out rfl ?_) | (refine wpl_load_addr _ rfl (w.heap.size + 1) rfl ds db m HBd1.out LD.out rfl ?_))
    refine (CQ.out w1).mono ?_
    rintro e w2 ⟨rfl, hb2⟩
    have Hb2 := Lib.hid (bel2 Hb1.out hb2)
    cases q with
    | false =>
      go_wp2
      go_ret
      exact ⟨rfl, Hb2.out⟩
    | true =>
      have c0 : w2.cell? ⟨w.heap.size, 17, none⟩ = some (.int .i64 n) := cid_bitsCell (HBc1.out.kept hb2) LC.out
      have c1 : w2.cell? ⟨w.heap.size + 1, 17, none⟩ = some (.int .i64 m) := cid_bitsCell (HBd1.out.kept hb2) LD.out
      clear hb2
      go_wp2
      go_ret
      exact ⟨rfl, Hb2.out⟩

theorem rcov_any (cs ds : Bool) (C D : List Nat) (hlc : C.length = 16) (hld : D.length = 16) (hC : ∀ x ∈ C, x < 256) (hD : ∀ x ∈ D, x < 256) (n m : Int) (w : World) :
    Calls Tryz.prog 22 #[.agg (cid cs (ints C) n), .agg (cid ds (ints D) m)] w fun e w' => e = .returned (.bool (coversC cs (ints C) n ds (ints D) m)) ∧ Below w.heap.size w w' :=
  rcov_walk cs ds (ints C) (ints D) (by rw [ints_length, hlc]) (by rw [ints_length, hld]) n m _ _ w (rright_any ds D hld hD m) (rcont_any cs ds C D hlc hld hC hD n)

/-- Which of two cidrs comes first. -/
def cmpC (s t : Bool) (x y : List Nat) (n m : Int) : Int := if cmpA s t x y ≠ 0 then cmpA s t x y else if n < m then -1 else if m < n then 1 else 0

set_option maxRecDepth 100000 in
set_option maxHeartbeats 4000000 in
theorem rcmp_any (s t : Bool) (X Y : List Nat) (hx : X.length = 16) (hy : Y.length = 16) (n m : Int) (w : World) :
    Calls Tryz.prog 23 #[.agg (cid s (ints X) n), .agg (cid t (ints Y) m)] w fun e w' => e = .returned (.int .i64 (cmpC s t X Y n m)) ∧ Below w.heap.size w w' := by
  obtain ⟨W0, hW0⟩ : ∃ W, W = w.alloc (.cells (cid s (ints X) n) 29) := ⟨_, rfl⟩
  obtain ⟨W1, hW1⟩ : ∃ W, W = W0.alloc (.cells (cid t (ints Y) m) 29) := ⟨_, rfl⟩
  have hlx : (ints X).length = 16 := by rw [ints_length, hx]
  have hly : (ints Y).length = 16 := by rw [ints_length, hy]
  have hB0 : Blk W0 w.heap.size 29 (cid s (ints X) n) := hW0 ▸ Blk.new w _ _
  have hb0 : Below w.heap.size w W0 := hW0 ▸ (Below.refl _ _).alloc (Nat.le_refl _) _
  have hs0 : W0.heap.size = w.heap.size + 1 := by rw [hW0]; simp
  have hb1 : Below W0.heap.size W0 W1 := hW1 ▸ (Below.refl _ _).alloc (Nat.le_refl _) _
  have hB1 : Blk W1 (w.heap.size + 1) 29 (cid t (ints Y) m) := by rw [← hs0]; exact hW1 ▸ Blk.new W0 _ _
  have HW0 := Lib.hid hW0.symm
  have HW1 := Lib.hid hW1.symm
  have HBc : Hid (Blk W1 (w.heap.size) 29 (cid s (ints X) n)) := Lib.hid (hB0.kept hb1)
  have HBd := Lib.hid hB1
  have Hb0 : Hid (Below w.heap.size w W1) := Lib.hid (bel2 hb0 hb1)
  have LX := Lib.hid hlx
  have LY := Lib.hid hly
  have CQ := Lib.hid (refCompare_any s t X Y hx hy)
  have HC : Hid (cmpC s t X Y n m = if cmpA s t X Y ≠ 0 then cmpA s t X Y else if n < m then -1 else if m < n then 1 else 0) := Lib.hid rfl
  generalize cmpC s t X Y n m = R at *
  obtain ⟨c, hc⟩ : ∃ c, c = cmpA s t X Y := ⟨_, rfl⟩
  rw [← hc] at CQ HC
  clear hW0 hW1 hB0 hb0 hb1 hB1 hs0 hlx hly hx hy hc
  go_enter Tryz.func23, Tryz.ntmps23
  go_upto_region 1 with fail
  rw [HW0.out]
  rw [HW1.out]
  go_wp2_with (first | (refine wpl_load_addr _ rfl w.heap.size rfl s (ints X) n HBc.out LX.out rfl ?_) | (refine wpl_load_addr _ rfl (w.heap.size + 1) rfl t (ints Y) m HBd.out LY.out rfl ?_))
  refine (CQ.out W1).mono ?_
  rintro e w1 ⟨rfl, hb1⟩
  have c0 : w1.cell? ⟨w.heap.size, 17, none⟩ = some (.int .i64 n) := cid_bitsCell (HBc.out.kept hb1) LX.out
  have c1 : w1.cell? ⟨w.heap.size + 1, 17, none⟩ = some (.int .i64 m) := cid_bitsCell (HBd.out.kept hb1) LY.out
  have Hb1 := Lib.hid (bel2 Hb0.out hb1)
  clear hb1
  by_cases hc0 : c = 0
  · have q : (c != 0) = false := by rw [hc0]; rfl
    have HC2 : Hid (R = if n < m then -1 else if m < n then 1 else 0) := Lib.hid (by rw [HC.out, if_neg (by simp [hc0])])
    clear hc0
    by_cases h1 : n < m
    · go_wp2
      go_ret
      exact ⟨ret_int (by rw [HC2.out, if_pos h1]), Hb1.out⟩
    · by_cases h2 : m < n
      · go_wp2
        go_ret
        exact ⟨ret_int (by rw [HC2.out, if_neg (by omega), if_pos (by omega)]), Hb1.out⟩
      · go_wp2
        go_ret
        exact ⟨ret_int (by rw [HC2.out, if_neg (by omega), if_neg (by omega)]), Hb1.out⟩
  · have q : (c != 0) = true := by rw [bne_iff_ne]; exact hc0
    have HC2 : Hid (R = c) := Lib.hid (by rw [HC.out, if_pos hc0])
    go_wp2
    go_ret
    exact ⟨ret_int HC2.out.symm, Hb1.out⟩
end Go.Proofs.YtijboclcbbnhbaaGreatDoor
