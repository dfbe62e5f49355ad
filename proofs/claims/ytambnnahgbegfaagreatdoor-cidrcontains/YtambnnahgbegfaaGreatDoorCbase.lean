/-
  A cidr's cells, equality of cidrs, and its parts in memory.
-/
import Derived.Test.YtambnnahgbegfaaGreatDoorFewb
import Derived.Test.YtambnnahgbegfaaGreatDoorAlive
import Derived.Test.YtambnnahgbegfaaGreatDoorErr
namespace Go.Proofs.YtambnnahgbegfaaGreatDoor
open Go.RowKit

/-- A cidr's cells. -/
def cid (s : Bool) (b : List Int) (n : Int) : Array Value := ((Value.bool s :: b.map (Value.int .u8)) ++ [Value.int .i64 n]).toArray
theorem cid_size (s : Bool) (b : List Int) (n : Int) : (cid s b n).size = b.length + 2 := by simp [cid]
theorem cid_one (s : Bool) (b : List Int) (n : Int) : (cid s b n).all (·.oneCell') = true := by
  rw [Array.all_eq_true_iff_forall_mem]
  intro v hv
  simp only [cid, List.mem_toArray, List.mem_append, List.mem_cons, List.mem_map, List.not_mem_nil, or_false] at hv
  rcases hv with (rfl | ⟨x, _, rfl⟩) | rfl <;> rfl
theorem cid_zero (s : Bool) (b : List Int) (n : Int) : (cid s b n)[0]? = some (.bool s) := rfl
theorem cid_at (s : Bool) (b : List Int) (n : Int) (i : Nat) (h : i < b.length) : (cid s b n)[1 + i]? = some (.int .u8 (nth b i)) := by
  simp only [cid, List.getElem?_toArray]
  rw [List.getElem?_append_left (by simp; omega)]
  simp [nth, Nat.add_comm 1 i, List.getElem?_eq_getElem h, List.getD]
theorem cid_bits (s : Bool) (b : List Int) (n : Int) (h : b.length = 16) : (cid s b n)[17]? = some (.int .i64 n) := by
  simp only [cid, List.getElem?_toArray]
  rw [List.getElem?_append_right (by simp [h])]
  simp [h]
theorem cid_extract (s : Bool) (b : List Int) (n : Int) (h : b.length = 16) : (cid s b n).extract 0 (0 + 17) = adr s b := by
  simp only [cid, adr, List.extract_toArray, List.extract_eq_take_drop]
  simp [h]

theorem Tryz.infoCidr : (Tryz.prog.info? 48).map (·.size) = some 18 := by kernel_rfl
theorem Tryz.sizeAddr (w : World) : (sizeOf 24).run Tryz.prog w = .ok 17 w := by kernel_rfl
theorem Tryz.fieldsCidr : Tryz.prog.underlying 48 = some (.struct (Tryz.prog.fieldsOf 48)) := by kernel_rfl
theorem Tryz.heldCidr : Tryz.prog.stoodInHeld 48 = false := by kernel_rfl
theorem Tryz.listCidr : (Tryz.prog.fieldsOf 48).toList.map (fun f => (f.name == "_", f.type, f.offset)) = [(false, 24, 0), (false, 3, 17)] := by kernel_rfl

theorem equalIn_cid (d : Nat) (s t : Bool) (x y : List Int) (n m : Int) (hx : x.length = 16) (hy : y.length = 16) (w : World) :
    (Op.equalIn (d + 4) 48 (.agg (cid s x n)) (.agg (cid t y m))).run Tryz.prog w = .ok ((s == t && x == y) && n == m) w := by
  rw [run_equalIn_struct w (d + 3) 48 _ _ Tryz.fieldsCidr Tryz.heldCidr]
  have hl := Tryz.listCidr
  generalize (Tryz.prog.fieldsOf 48).toList = l at hl ⊢
  have h2 : l.length = 2 := by simpa using congrArg List.length hl
  obtain ⟨f, g, rfl⟩ : ∃ f g, l = [f, g] := by
    cases l with
    | nil => simp at h2
    | cons f l =>
      cases l with
      | nil => simp at h2
      | cons g l =>
        cases l with
        | nil => exact ⟨f, g, rfl⟩
        | cons _ _ => simp at h2
  simp only [List.map_cons, List.map_nil, List.cons.injEq, Prod.mk.injEq, and_true, beq_eq_false_iff_ne] at hl
  obtain ⟨⟨f1, f2, f3⟩, g1, g2, g3⟩ := hl
  have p1 : ∀ (s : Bool) x n, x.length = 16 → (part 24 (cid s x n) 0).run Tryz.prog w = .ok (.agg (adr s x)) w := fun s x n h => by
    simp only [part, isAgg, Sem.run_bind, run_underlying Tryz.fieldsAddr, Result.andThen_ok, Sem.run_pure, if_true, Tryz.sizeAddr, cid_extract s x n h]
  have p2 : ∀ (s : Bool) x n, x.length = 16 → (part 3 (cid s x n) 17).run Tryz.prog w = .ok (.int .i64 n) w := fun s x n h => by
    simp [part, isAgg, run_underlying Tryz.underlying3, cid_bits s x n h]
  have e1 := equalIn_adr d s t x y hx hy w
  have e2 : (Op.equalIn (d + 3) 3 (.int .i64 n) (.int .i64 m)).run Tryz.prog w = .ok (n == m) w := by
    simp [Op.equalIn, run_underlying Tryz.underlying3, go_sem]
  rw [Op.eqFields, if_pos f1, f2, f3]
  simp only [Sem.run_bind, p1 s x n hx, p1 t y m hy, Result.andThen_ok, e1, Sem.run_ite, Sem.run_pure]
  by_cases hst : (!(s == t && x == y)) = true
  · rw [if_pos hst]
    have : (s == t && x == y) = false := by cases hh : (s == t && x == y) <;> simp_all
    rw [this]
    rfl
  · rw [if_neg hst]
    have : (s == t && x == y) = true := by cases hh : (s == t && x == y) <;> simp_all
    rw [this, Op.eqFields, if_pos g1, g2, g3]
    rw [Sem.run_bind, p2 s x n hx, Result.andThen_ok, Sem.run_bind, p2 t y m hy, Result.andThen_ok, Sem.run_bind, e2, Result.andThen_ok, Sem.run_ite, Bool.true_and]
    by_cases hxy : (!(n == m)) = true
    · rw [if_pos hxy]
      have : (n == m) = false := by simpa using hxy
      rw [this, Sem.run_pure]
    · rw [if_neg hxy]
      have : (n == m) = true := by simpa using hxy
      rw [this, Op.eqFields, Sem.run_pure]

theorem eql_cid (s t : Bool) (x y : List Int) (n m : Int) (hx : x.length = 16) (hy : y.length = 16) (w : World) :
    (binOp .eql 48 (.agg (cid s x n)) (.agg (cid t y m))).run Tryz.prog w = .ok (.bool ((s == t && x == y) && n == m)) w := by
  rw [run_eql_struct, equalIn_cid 9996 s t x y n m hx hy]
  rfl

/-- The address of a cidr that lies in a block. -/
theorem cid_range {w : World} {g : Nat} {s : Bool} {b : List Int} {n : Int} (h : Blk w g 48 (cid s b n)) : w.rangeAt g 0 (adr s b).toList := by
  intro j v hv
  rw [Nat.zero_add, h.cell]
  have hj := (List.getElem?_eq_some_iff.1 hv).1
  simp only [adr] at hv hj
  simp only [cid, List.getElem?_toArray]
  rw [List.getElem?_append_left (by simpa using hj)]
  exact hv

theorem cid_bitsCell {w : World} {g : Nat} {s : Bool} {b : List Int} {n : Int} (h : Blk w g 48 (cid s b n)) (hl : b.length = 16) : w.cell? ⟨g, 17, none⟩ = some (.int .i64 n) := by rw [h.cell, cid_bits s b n hl]

section
variable {P : Program}
/-- The address out of a cidr's block. -/
theorem wpl_load_addr {ops : Array Oper} {rest : List Oper} {o : Oper} {a : Act} {w : World} {Q : Exit → Act → World → Prop} (x : Operand) (ho : o.op = .load 24 x)
    (g : Nat) (hx : a.eval x = .pointer (some ⟨g, 0, none⟩)) (s : Bool) (b : List Int) (n : Int) (hB : Blk w g 48 (cid s b n)) (hl : b.length = 16) (hw : Region.wanted o (yielded ops a.tmps) = true)
    (h : wpList Tryz.prog ops Q rest (a.put o.dst (.agg (adr s b))) w) : wpList Tryz.prog ops Q (o :: rest) a w :=
  wpl_load_mid 24 x ho g 0 hx (adr s b).toList _ (cid_range hB) Tryz.underlying24 rfl 17 Tryz.infoAddr (by rw [Array.length_toList, adr_size, hl]) hw h
end

/-- A bit of bytes. -/
def bitN (b : List Int) (i : Nat) : Int := nth b (i / 8) / 2 ^ (7 - i % 8) % 2
theorem bitN_range (b : List Int) (i : Nat) : 0 ≤ bitN b i ∧ bitN b i < 2 := by
  unfold bitN
  omega

/-- How many bits an address has. -/
def wid (s : Bool) : Nat := if s then 128 else 32

set_option maxHeartbeats 400000 in
theorem width_any (s : Bool) (b : List Int) (w : World) : Calls Tryz.prog 37 #[.agg (adr s b)] w fun e w' => e = .returned (.int .i64 (wid s)) ∧ Below w.heap.size w w' := by
  have h0 := adr_zero s b
  cases s
  all_goals
    go_enter Tryz.func37, Tryz.ntmps37
    go_wp2
    go_ret
    exact ⟨rfl, (Below.refl _ _).alloc (Nat.le_refl _) _⟩

theorem ints_byte (B : List Nat) (hB : ∀ x ∈ B, x < 256) (j : Nat) : ∃ x : Nat, nth (ints B) j = (x : Int) ∧ x < 256 := by
  rw [nth_ints]
  refine ⟨B.getD j 0, rfl, ?_⟩
  by_cases h : j < B.length
  · rw [List.getD, List.getElem?_eq_getElem h]
    exact hB _ (List.getElem_mem h)
  · rw [List.getD, List.getElem?_eq_none (by omega)]
    decide

set_option maxHeartbeats 1000000 in
theorem bit_any (s : Bool) (B : List Nat) (hl : B.length = 16) (hB : ∀ x ∈ B, x < 256) (i : Nat) (hi : i < 128) (w : World) :
    Calls Tryz.prog 65 #[.agg (adr s (ints B)), .int .i64 (i : Int)] w fun e w' => e = .returned (.int .i64 (bitN (ints B) i)) ∧ Below w.heap.size w w' := by
  have hB0 := Blk.new w 24 (adr s (ints B))
  obtain ⟨x, hx, hx8⟩ := ints_byte B hB (i / 8)
  have HBit : Hid (bitN (ints B) i = (x : Int) / 2 ^ (7 - i % 8) % 2) := Lib.hid (by unfold bitN; rw [hx])
  have hc : (w.alloc (.cells (adr s (ints B)) 24)).cell? ⟨w.heap.size, 1 + i / 8, none⟩ = some (.int .u8 (x : Int)) := by rw [hB0.cell, adr_at _ _ _ (by rw [ints_length, hl]; omega), hx]
  obtain ⟨q, hq⟩ : ∃ q, q = i / 8 := ⟨_, rfl⟩
  obtain ⟨r, hr⟩ : ∃ r, r = i % 8 := ⟨_, rfl⟩
  rw [← hq] at hc
  rw [← hr] at HBit
  have e1 : IntKind.i64.wrap ((i : Int) / 8) = (q : Int) := by simp only [IntKind.wrap, IntKind.signed, IntKind.bits]; simp; omega
  have e1' : IntKind.i64.wrap ((i : Int).tdiv 8) = (q : Int) := by rw [Int.tdiv_eq_ediv_of_nonneg (by omega)]; exact e1
  have e2 : (i : Int).tmod 8 = (r : Int) := by rw [Int.tmod_eq_emod_of_nonneg (by omega)]; omega
  have e3 : (i : Int) % 8 = (r : Int) := by omega
  have eX : IntKind.i64.wrap (x : Int) = (x : Int) := by simp only [IntKind.wrap, IntKind.signed, IntKind.bits]; simp; omega
  obtain ⟨k, hk⟩ : ∃ k, k = 7 - r := ⟨_, rfl⟩
  have e4 : IntKind.i64.wrap (7 - (r : Int)) = (k : Int) := by simp only [IntKind.wrap, IntKind.signed, IntKind.bits]; simp; omega
  have q0 : (0 : Int) ≤ (q : Int) := by omega
  have q1 : (q : Int) < 16 := by omega
  have k0 : (0 : Int) ≤ (k : Int) := by omega
  have HK : Hid (k = 7 - r ∧ k ≤ 7) := Lib.hid ⟨hk, by omega⟩
  clear hB0 hx hq hr hk hi
  go_enter Tryz.func65, Tryz.ntmps65
  go_wp2
  go_ret
  refine ⟨ret_int ?_, (Below.refl _ _).alloc (Nat.le_refl _) _⟩
  rw [HBit.out, ← HK.out.1, Nat.min_eq_left (by have := HK.out.2; omega), Int.tmod_eq_emod_of_nonneg (Int.ediv_nonneg (by omega) (Int.le_of_lt (Int.pow_pos (by omega))))]

section
variable {P : Program} {ops : Array Oper} {o : Oper} {a : Act} {w : World} {K : Act → World → Prop} {Q : Exit → Act → World → Prop} {E : Prop}
/-- The address out of a cidr's block, at a step of a region that draws. -/
theorem step_load_addr (x : Operand) (ho : o.op = .load 24 x) (g : Nat) (hx : a.eval x = .pointer (some ⟨g, 0, none⟩)) (s : Bool) (b : List Int) (n : Int) (hB : Blk w g 48 (cid s b n)) (hl : b.length = 16)
    (hw : Region.wanted o (yielded ops a.tmps) = true) (h : K (a.put o.dst (.agg (adr s b))) w) : if Region.wanted o (yielded ops a.tmps) = true then Oper.wp Tryz.prog o a w K Q else E := by
  rw [if_pos hw]
  exact wp_load_mid 24 x ho g 0 hx (adr s b).toList _ (cid_range hB) Tryz.underlying24 rfl (by rw [Array.length_toList, adr_size, hl]; exact Tryz.infoAddr) h
/-- A whole load out of a block, at a step of a region that draws. -/
theorem step_load_row (ty : TypeId) (x : Operand) (ho : o.op = .load ty x)
    (g : Nat) (hx : a.eval x = .pointer (some ⟨g, 0, none⟩)) (t : TypeId) (cs : Array Value) (d : TypeDesc) (hg : Blk w g t cs)
    (hu : P.underlying ty = some d) (hd : (match d with | .struct _ | .array _ _ => true | _ => false) = true) (n : Nat) (hi : (P.info? ty).map (·.size) = some n) (hn : n = cs.size)
    (hw : Region.wanted o (yielded ops a.tmps) = true)
    (h : K (a.put o.dst (.agg cs)) w) : if Region.wanted o (yielded ops a.tmps) = true then Oper.wp P o a w K Q else E := by
  rw [if_pos hw]
  exact wp_load_row ty x ho g hx t cs (0, 0) d hg hu hd (hn ▸ hi) h
end
end Go.Proofs.YtambnnahgbegfaaGreatDoor
