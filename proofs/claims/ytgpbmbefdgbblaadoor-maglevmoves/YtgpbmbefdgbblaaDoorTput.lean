/-
  addr.Put, ports.Put, and the document's: the bytes of addresses and points.
-/
import Derived.Test.YtgpbmbefdgbblaaDoorSadr
import Derived.Deep.MidRow
namespace Go.Proofs.YtgpbmbefdgbblaaDoor
open Go.RowKit

theorem own_shape {w : World} {base n : Nat} {v : Value} {xs : List Value} (h : w.ownsRow base 5 1 v n xs) (hn : 0 < n) : ∃ g cap, v = .slice (some ⟨g, 0, none⟩) n cap ∧ base ≤ g ∧ n ≤ cap ∧ g < w.heap.size := by
  rcases h.2 with ⟨_, h0⟩ | ⟨g, cap, cur, rfl, hb, hg, hnc, _⟩
  · omega
  · exact ⟨g, cap, rfl, hb, hnc, (Array.getElem?_eq_some_iff.1 hg).1⟩
/-- The bytes of an address as it is put. -/
def putA (s : Bool) (b : List Int) : List Int := if s then 6 :: b.take 16 else 4 :: b.take 4
theorem putA_len (s : Bool) (b : List Int) (hl : b.length = 16) : (putA s b).length = if s then 17 else 5 := by
  cases s <;> simp [putA, hl]

set_option maxRecDepth 100000 in
set_option maxHeartbeats 1000000 in
theorem aput_false (b : List Int) (hl : b.length = 16) (w : World) : Calls Tryd.prog 59 #[.agg (adr false b)] w (OwnEnd (putA false b) w) := by
  obtain ⟨W0, hW0⟩ : ∃ W, W = w.alloc (.cells (adr false b) 34) := ⟨_, rfl⟩
  have hB0 : Blk W0 w.heap.size 34 (adr false b) := hW0 ▸ Blk.new w _ _
  have hb0 : Below w.heap.size w W0 := hW0 ▸ (Below.refl _ _).alloc (Nat.le_refl _) _
  have h0 : W0.cell? ⟨w.heap.size, 0, none⟩ = some (.bool false) := by rw [hB0.cell]; rfl
  obtain ⟨W1, hW1⟩ : ∃ W, W = W0.alloc (.cells #[.int .u8 4] 5) := ⟨_, rfl⟩
  have hb1 : Below W0.heap.size W0 W1 := hW1 ▸ (Below.refl _ _).alloc (Nat.le_refl _) _
  have HW0 := Lib.hid hW0.symm
  have HW1 := Lib.hid hW1.symm
  have HB1 := Lib.hid (hB0.kept hb1)
  have Hb1 := Lib.hid (bel2 hb0 hb1)
  have L17 : Hid (17 = (adr false b).size) := Lib.hid (by rw [adr_size, hl])
  obtain ⟨i0, hi, hp⟩ := Option.map_eq_some_iff.1 Tryd.infoByte
  simp only [Prod.mk.injEq] at hp
  obtain ⟨hz1, hz0, hz2⟩ := hp
  have hln : (b.take 4).length = 4 := by rw [List.length_take, hl]; rfl
  have hlt : w.heap.size < W0.heap.size := hB0.lt
  have HO : Hid (W1.ownsRow W0.heap.size 5 1 (.slice (some ⟨W0.heap.size, 0, none⟩) 1 1) 1 [.int .u8 4]) := Lib.hid (hW1 ▸ World.ownsRow_lit W0 _ 1 (Nat.le_refl _) (by decide) rfl)
  have HC := Lib.hid (abytes_false b hl W1)
  have HLn := Lib.hid hln
  have HL := Lib.hid hl
  have Hsz1 : Hid (W0.heap.size ≤ W1.heap.size) := Lib.hid hb1.size
  clear hW0 hB0 hb0 hW1 hb1 hl hln
  go_enter Tryd.func59, Tryd.ntmps59
  go_upto_region 1 with fail
  rw [HW0.out]
  go_wp2_with ((try rw [HW1.out]); refine wpl_load 34 _ rfl w.heap.size rfl _ _ _ HB1.out Tryd.underlying34 rfl 17 Tryd.infoAddr L17.out rfl ?_)
  refine HC.out.mono ?_
  rintro e w2 ⟨v, rfl, hown, hb2⟩
  rw [HLn.out] at hown
  obtain ⟨g, cap, rfl, _, _, _⟩ := own_shape hown (by decide)
  have HCell := Lib.hid (World.ownsRow.cells hown rfl)
  have HO2 := Lib.hid (own_below HO.out hb2)
  have hb3 : Below w.heap.size w w2 := bel2 Hb1.out hb2
  have Hsz : Hid (W0.heap.size ≤ w2.heap.size) := Lib.hid (Nat.le_trans Hsz1.out hb2.size)
  clear hown hb2
  go_wp2_with (at_builtin; refine wpList_append_own _ rfl (.tmp 7) (.tmp 9) 77 rfl W0.heap.size 5 i0 (.int .u8 0) 1 1 Tryd.underlying77 hi hz0 hz1 hz2 rfl (by decide) _ 1 _ rfl HO2.out ⟨g, 0, none⟩ 4 cap ((b.take 4).map (Value.int .u8)) rfl (by rw [List.length_map, HLn.out]) HCell.out (bytes_one _) (by decide) (by decide) Hsz.out ?_; intro v' w3 hown hgrow _)
  go_ret
  refine ⟨v', rfl, ?_, hb3.grown hgrow (by have := hb3.size; omega) (fun k hk => by
    have : W0.heap.size = k := by simpa [Act.eval, Value.ownBlock] using hk
    omega)⟩
  have e1 : (putA false b).length = 1 + 4 := by rw [putA_len false b HL.out]; rfl
  rw [e1]
  exact own_mono hown (Nat.le_of_lt hlt)


set_option maxRecDepth 100000 in
set_option maxHeartbeats 1000000 in
theorem aput_true (b : List Int) (hl : b.length = 16) (w : World) : Calls Tryd.prog 59 #[.agg (adr true b)] w (OwnEnd (putA true b) w) := by
  obtain ⟨W0, hW0⟩ : ∃ W, W = w.alloc (.cells (adr true b) 34) := ⟨_, rfl⟩
  have hB0 : Blk W0 w.heap.size 34 (adr true b) := hW0 ▸ Blk.new w _ _
  have hb0 : Below w.heap.size w W0 := hW0 ▸ (Below.refl _ _).alloc (Nat.le_refl _) _
  have h0 : W0.cell? ⟨w.heap.size, 0, none⟩ = some (.bool true) := by rw [hB0.cell]; rfl
  obtain ⟨W1, hW1⟩ : ∃ W, W = W0.alloc (.cells #[.int .u8 6] 5) := ⟨_, rfl⟩
  have hb1 : Below W0.heap.size W0 W1 := hW1 ▸ (Below.refl _ _).alloc (Nat.le_refl _) _
  have HW0 := Lib.hid hW0.symm
  have HW1 := Lib.hid hW1.symm
  have HB1 := Lib.hid (hB0.kept hb1)
  have Hb1 := Lib.hid (bel2 hb0 hb1)
  have L17 : Hid (17 = (adr true b).size) := Lib.hid (by rw [adr_size, hl])
  obtain ⟨i0, hi, hp⟩ := Option.map_eq_some_iff.1 Tryd.infoByte
  simp only [Prod.mk.injEq] at hp
  obtain ⟨hz1, hz0, hz2⟩ := hp
  have hln : (b.take 16).length = 16 := by rw [List.length_take, hl]; rfl
  have hlt : w.heap.size < W0.heap.size := hB0.lt
  have HO : Hid (W1.ownsRow W0.heap.size 5 1 (.slice (some ⟨W0.heap.size, 0, none⟩) 1 1) 1 [.int .u8 6]) := Lib.hid (hW1 ▸ World.ownsRow_lit W0 _ 1 (Nat.le_refl _) (by decide) rfl)
  have HC := Lib.hid (abytes_true b hl W1)
  have HLn := Lib.hid hln
  have HL := Lib.hid hl
  have Hsz1 : Hid (W0.heap.size ≤ W1.heap.size) := Lib.hid hb1.size
  clear hW0 hB0 hb0 hW1 hb1 hl hln
  go_enter Tryd.func59, Tryd.ntmps59
  go_upto_region 1 with fail
  rw [HW0.out]
  go_wp2_with ((try rw [HW1.out]); refine wpl_load 34 _ rfl w.heap.size rfl _ _ _ HB1.out Tryd.underlying34 rfl 17 Tryd.infoAddr L17.out rfl ?_)
  refine HC.out.mono ?_
  rintro e w2 ⟨v, rfl, hown, hb2⟩
  rw [HLn.out] at hown
  obtain ⟨g, cap, rfl, _, _, _⟩ := own_shape hown (by decide)
  have HCell := Lib.hid (World.ownsRow.cells hown rfl)
  have HO2 := Lib.hid (own_below HO.out hb2)
  have hb3 : Below w.heap.size w w2 := bel2 Hb1.out hb2
  have Hsz : Hid (W0.heap.size ≤ w2.heap.size) := Lib.hid (Nat.le_trans Hsz1.out hb2.size)
  clear hown hb2
  go_wp2_with (at_builtin; refine wpList_append_own _ rfl (.tmp 7) (.tmp 9) 77 rfl W0.heap.size 5 i0 (.int .u8 0) 1 1 Tryd.underlying77 hi hz0 hz1 hz2 rfl (by decide) _ 1 _ rfl HO2.out ⟨g, 0, none⟩ 16 cap ((b.take 16).map (Value.int .u8)) rfl (by rw [List.length_map, HLn.out]) HCell.out (bytes_one _) (by decide) (by decide) Hsz.out ?_; intro v' w3 hown hgrow _)
  go_ret
  refine ⟨v', rfl, ?_, hb3.grown hgrow (by have := hb3.size; omega) (fun k hk => by
    have : W0.heap.size = k := by simpa [Act.eval, Value.ownBlock] using hk
    omega)⟩
  have e1 : (putA true b).length = 1 + 16 := by rw [putA_len true b HL.out]; rfl
  rw [e1]
  exact own_mono hown (Nat.le_of_lt hlt)


theorem aput_any (s : Bool) (b : List Int) (hl : b.length = 16) (w : World) : Calls Tryd.prog 59 #[.agg (adr s b)] w (OwnEnd (putA s b) w) := by
  cases s with
  | true => exact aput_true b hl w
  | false => exact aput_false b hl w

theorem wpl_load_pmid {P : Program} {ops : Array Oper} {rest : List Oper} {o : Oper} {a : Act} {w : World} {Q : Exit → Act → World → Prop} (ty : TypeId) (x : Operand) (ho : o.op = .load ty x)
    (b off : Nat) (hx : a.eval x = .pointer (some ⟨b, off, none⟩)) (cs : List Value) (d : TypeDesc) (hc : w.rangeAt b off cs)
    (hu : P.underlying ty = some d) (hd : d.isRow = true) (n : Nat) (hi : (P.info? ty).map (·.size) = some n) (hn : n = cs.length) (hw : Region.wanted o (yielded ops a.tmps) = true)
    (h : wpList P ops Q rest (a.put o.dst (.agg cs.toArray)) w) : wpList P ops Q (o :: rest) a w :=
  BigFrame.wpList_want hw fun _ hK => wp_load_mid ty x ho b off hx cs d hc hu hd (hn ▸ hi) (hK _ _ h)

/-- A point's cells. -/
def pnt (s : Bool) (b : List Int) (n : Int) : Array Value := ((Value.bool s :: b.map (Value.int .u8)) ++ [Value.int .i64 n]).toArray
theorem pnt_size (s : Bool) (b : List Int) (n : Int) : (pnt s b n).size = b.length + 2 := by simp [pnt]
theorem pnt_one (s : Bool) (b : List Int) (n : Int) : (pnt s b n).all (·.oneCell') = true := by
  rw [Array.all_eq_true_iff_forall_mem]
  intro v hv
  simp only [pnt, List.mem_toArray, List.mem_append, List.mem_cons, List.mem_map, List.not_mem_nil, or_false] at hv
  rcases hv with (rfl | ⟨x, _, rfl⟩) | rfl <;> rfl
theorem pnt_zero (s : Bool) (b : List Int) (n : Int) : (pnt s b n)[0]? = some (.bool s) := rfl
theorem pnt_at (s : Bool) (b : List Int) (n : Int) (i : Nat) (h : i < b.length) : (pnt s b n)[1 + i]? = some (.int .u8 (nth b i)) := by
  simp only [pnt, List.getElem?_toArray]
  rw [List.getElem?_append_left (by simp; omega)]
  simp [nth, Nat.add_comm 1 i, List.getElem?_eq_getElem h, List.getD]
theorem pnt_port (s : Bool) (b : List Int) (n : Int) (h : b.length = 16) : (pnt s b n)[17]? = some (.int .i64 n) := by
  simp only [pnt, List.getElem?_toArray]
  rw [List.getElem?_append_right (by simp [h])]
  simp [h]
theorem pnt_extract (s : Bool) (b : List Int) (n : Int) (h : b.length = 16) : (pnt s b n).extract 0 (0 + 17) = adr s b := by
  simp only [pnt, adr, List.extract_toArray, List.extract_eq_take_drop]
  simp [h]

theorem Tryd.infoPoint : (Tryd.prog.info? 36).map (·.size) = some 18 := by kernel_rfl
theorem Tryd.sizeAddr (w : World) : (sizeOf 34).run Tryd.prog w = .ok 17 w := by kernel_rfl
theorem pnt_range {w : World} {g : Nat} {s : Bool} {b : List Int} {n : Int} (h : Blk w g 36 (pnt s b n)) : w.rangeAt g 0 (adr s b).toList := by
  intro j v hv
  rw [Nat.zero_add, h.cell]
  have hj := (List.getElem?_eq_some_iff.1 hv).1
  simp only [adr] at hv hj
  simp only [pnt, List.getElem?_toArray]
  rw [List.getElem?_append_left (by simpa using hj)]
  exact hv

theorem pnt_portCell {w : World} {g : Nat} {s : Bool} {b : List Int} {n : Int} (h : Blk w g 36 (pnt s b n)) (hl : b.length = 16) : w.cell? ⟨g, 17, none⟩ = some (.int .i64 n) := by rw [h.cell, pnt_port s b n hl]

section
variable {P : Program}
/-- The address out of a point's block. -/
theorem wpl_load_padr {ops : Array Oper} {rest : List Oper} {o : Oper} {a : Act} {w : World} {Q : Exit → Act → World → Prop} (x : Operand) (ho : o.op = .load 34 x)
    (g : Nat) (hx : a.eval x = .pointer (some ⟨g, 0, none⟩)) (s : Bool) (b : List Int) (n : Int) (hB : Blk w g 36 (pnt s b n)) (hl : b.length = 16) (hw : Region.wanted o (yielded ops a.tmps) = true)
    (h : wpList Tryd.prog ops Q rest (a.put o.dst (.agg (adr s b))) w) : wpList Tryd.prog ops Q (o :: rest) a w :=
  wpl_load_pmid 34 x ho g 0 hx (adr s b).toList _ (pnt_range hB) Tryd.underlying34 rfl 17 Tryd.infoAddr (by rw [Array.length_toList, adr_size, hl]) hw h
end

section
variable {P : Program} {ops : Array Oper} {a : Act} {w : World} {o : Oper}
/-- A call of a Go function by its contract, at the operation itself. -/
theorem op_call2 {K : Act → World → Prop} {Q : Exit → Act → World → Prop} (f : FuncId) (args : Array Value) (hrun : (execOp a.eval o).run P w = .ok (.enter f args) w) {R : World → Prop} (v : Value)
    (hc : Calls P f args w fun e w' => e = .returned v ∧ R w') (h : ∀ w', R w' → K (a.put o.dst v) w') : Oper.wp P o a w K Q := by
  unfold Oper.wp
  rw [hrun, Oper.upon_enter]
  refine hc.mono fun e w'' hh => ?_
  obtain ⟨rfl, hR⟩ := hh
  exact h _ hR

theorem yields_padr {S : World → Prop} {oi : Oper} (x : Operand) (ho : oi.op = .load 34 x) (g : Nat) (hx : a.eval x = .pointer (some ⟨g, 0, none⟩)) (s : Bool) (b : List Int) (n : Int)
    (hS : ∀ w, S w → Blk w g 36 (pnt s b n)) (hl : b.length = 16) (hw : Region.wanted oi (yielded ops a.tmps) = true) : YieldsIf Tryd.prog ops S oi (.agg (adr s b)) a :=
  yieldsIf_load_mid hw 34 x ho g 0 hx (adr s b).toList _ (fun w h => pnt_range (hS w h)) Tryd.underlying34 rfl (by rw [Array.length_toList, adr_size, hl]; exact Tryd.infoAddr)

theorem yields_cell {S : World → Prop} {oi : Oper} (x : Operand) (ho : oi.op = .load 3 x) (g off : Nat) (hx : a.eval x = .pointer (some ⟨g, off, none⟩)) (n : Int)
    (hS : ∀ w, S w → w.cell? ⟨g, off, none⟩ = some (.int .i64 n)) (hw : Region.wanted oi (yielded ops a.tmps) = true) : YieldsIf Tryd.prog ops S oi (.int .i64 n) a :=
  .inl ⟨hw, fun w hw' => by
    have h := hS w hw'
    unfold execOp
    simp only [ho, hx]
    simp [go_sem, h]⟩

end

theorem exec_shr8 {P : Program} {o : Oper} {a : Act} {w : World} (x : Operand) (t t' : TypeId) (y : Operand) (ho : o.op = .binOp .shr t x y t') (n : Int) (hx : a.eval x = .int .i64 n) (hy : a.eval y = .int .u64 8) :
    (execOp a.eval o).run P w = .ok (.value (.int .i64 (n / 256))) w := by
  unfold execOp
  simp only [ho, hx, hy, eqGuard, binOp]
  simp [go_sem]
theorem exec_byte {o : Oper} {a : Act} {w : World} (x : Operand) (ho : o.op = .convert 3 5 x) (n : Int) (hx : a.eval x = .int .i64 n) :
    (execOp a.eval o).run Tryd.prog w = .ok (.value (.int .u8 (n % 256))) w := by
  have e : IntKind.u8.wrap n = n % 256 := by simp [IntKind.wrap, IntKind.signed, IntKind.bits]
  unfold execOp
  simp only [ho, hx]
  simp [convert, run_underlying Tryd.underlying3, run_underlying Tryd.underlying5, go_sem, e]

theorem own_block {w : World} {base : Nat} {e : TypeId} {size : Nat} {v : Value} {n : Nat} {xs : List Value} (h : w.ownsRow base e size v n xs) {k : Nat} (hk : v.ownBlock = some k) : base ≤ k := by
  rcases h.2 with ⟨rfl, _⟩ | ⟨g, cap, cur, rfl, h2, _⟩
  · cases hk
  · cases hk
    exact h2
theorem own_ne {w : World} {base : Nat} {e : TypeId} {size : Nat} {v : Value} {n : Nat} {xs : List Value} (h : w.ownsRow base e size v n xs) {k : Nat} (hk : k < base) : v.ownBlock ≠ some k := fun e => by
  have := own_block h e
  omega
theorem Blk.grown {w w' : World} {g : Nat} {t : TypeId} {cs : Array Value} (h : Blk w g t cs) {o : Option Nat} (hg : w.grownBy w' o) (hne : o ≠ some g) : Blk w' g t cs := by
  unfold Blk
  rw [hg.block g h.lt (fun e => hne e.symm)]
  exact h

/-- The bytes of a point as it is put. -/
def putP (s : Bool) (b : List Int) (n : Int) : List Int := putA s b ++ [n / 256 % 256, n % 256]


set_option linter.unusedSimpArgs false in
set_option maxRecDepth 100000 in
set_option maxHeartbeats 4000000 in
theorem pput_any (s : Bool) (b : List Int) (hl : b.length = 16) (n : Int) (w : World) : Calls Tryd.prog 44 #[.agg (pnt s b n)] w (OwnEnd (putP s b n) w) := by
  obtain ⟨w1, hw1⟩ : ∃ W, W = w.alloc (.cells (pnt s b n) 36) := ⟨_, rfl⟩
  have hB0 : Blk w1 w.heap.size 36 (pnt s b n) := hw1 ▸ Blk.new w _ _
  have hb0 : Below w.heap.size w w1 := hw1 ▸ (Below.refl _ _).alloc (Nat.le_refl _) _
  have HW0 := Lib.hid hw1.symm
  have HL := Lib.hid hl
  obtain ⟨i0, hi, hpx⟩ := Option.map_eq_some_iff.1 Tryd.infoByte
  simp only [Prod.mk.injEq] at hpx
  obtain ⟨hz1, hz0, hz2⟩ := hpx
  have CP : Hid (∀ w, Calls Tryd.prog 59 #[.agg (adr s b)] w fun e w' => ∃ v, e = .returned v ∧ (w'.ownsRow w.heap.size 5 1 v (putA s b).length ((putA s b).map (Value.int .u8)) ∧ Below w.heap.size w w')) := Lib.hid (aput_any s b hl)
  have hS0 : Blk w1.drew (w.heap.size) 36 (pnt s b n) ∧ Below w.heap.size w w1.drew := ⟨hB0.kept (below_drewN w1 1), bel2 hb0 (below_drewN w1 1)⟩
  clear hw1 hB0 hb0 hl
  go_enter Tryd.func44, Tryd.ntmps44
  go_upto_region 1 with fail
  rw [HW0.out]
  refine wp_region_held_drew (S := fun w' => Blk w' (w.heap.size) 36 (pnt s b n) ∧ Below w.heap.size w w') (by kernel_rfl) hS0 (fun hS => ?_)
  change wpAnyH _ _ _ _ _ 13 #[false, false, false, false, false, false, false, false, false, false, false, false, false] _ _
  refine wpAnyH_take (i := 0) (v := .pointer (some ⟨w.heap.size, 0, none⟩)) rfl (by kernel_rfl) (by kernel_rfl) (by kernel_rfl) (fun _ _ _ h => h) (.inl ⟨by kernel_rfl, fun w _ => by kernel_rfl⟩) hS ?_
  simp only [List.getElem_toArray, List.getElem_cons_zero, List.getElem_cons_succ, Act.put, List.setIfInBounds_toArray, List.set_cons_zero, List.set_cons_succ]
  refine wpAnyH_take (i := 1) (v := .agg (adr s b)) rfl (by kernel_rfl) (by kernel_rfl) (by kernel_rfl) (fun _ _ _ h => h) (yields_padr (.tmp 3) rfl (w.heap.size) (by kernel_rfl) s b n (fun w h => h.1) HL.out (by kernel_rfl)) hS ?_
  simp only [List.getElem_toArray, List.getElem_cons_zero, List.getElem_cons_succ, Act.put, List.setIfInBounds_toArray, List.set_cons_zero, List.set_cons_succ]
  refine wpAnyH_take (i := 3) (v := .pointer (some ⟨w.heap.size, 17, none⟩)) rfl (by kernel_rfl) (by kernel_rfl) (by kernel_rfl) (fun _ _ _ h => h) (.inl ⟨by kernel_rfl, fun w _ => by kernel_rfl⟩) hS ?_
  simp only [List.getElem_toArray, List.getElem_cons_zero, List.getElem_cons_succ, Act.put, List.setIfInBounds_toArray, List.set_cons_zero, List.set_cons_succ]
  refine wpAnyH_take (i := 4) (v := .int .i64 n) rfl (by kernel_rfl) (by kernel_rfl) (by kernel_rfl) (fun _ _ _ h => h) (yields_cell (.tmp 6) rfl (w.heap.size) 17 (by kernel_rfl) n (fun w h => pnt_portCell h.1 HL.out) (by kernel_rfl)) hS ?_
  simp only [List.getElem_toArray, List.getElem_cons_zero, List.getElem_cons_succ, Act.put, List.setIfInBounds_toArray, List.set_cons_zero, List.set_cons_succ]
  refine wpAnyH_take (i := 5) (v := .int .i64 (n / 256)) rfl (by kernel_rfl) (by kernel_rfl) (by kernel_rfl) (fun _ _ _ h => h) (.inl ⟨by kernel_rfl, fun w _ => exec_shr8 (.tmp 7) _ _ _ rfl n (by kernel_rfl) (by kernel_rfl)⟩) hS ?_
  simp only [List.getElem_toArray, List.getElem_cons_zero, List.getElem_cons_succ, Act.put, List.setIfInBounds_toArray, List.set_cons_zero, List.set_cons_succ]
  refine wpAnyH_take (i := 6) (v := .int .u8 (n / 256 % 256)) rfl (by kernel_rfl) (by kernel_rfl) (by kernel_rfl) (fun _ _ _ h => h) (.inl ⟨by kernel_rfl, fun w _ => exec_byte (.tmp 8) rfl (n / 256) (by kernel_rfl)⟩) hS ?_
  simp only [List.getElem_toArray, List.getElem_cons_zero, List.getElem_cons_succ, Act.put, List.setIfInBounds_toArray, List.set_cons_zero, List.set_cons_succ]
  refine wpAnyH_take (i := 7) (v := .pointer (some ⟨w.heap.size, 17, none⟩)) rfl (by kernel_rfl) (by kernel_rfl) (by kernel_rfl) (fun _ _ _ h => h) (.inl ⟨by kernel_rfl, fun w _ => by kernel_rfl⟩) hS ?_
  simp only [List.getElem_toArray, List.getElem_cons_zero, List.getElem_cons_succ, Act.put, List.setIfInBounds_toArray, List.set_cons_zero, List.set_cons_succ]
  refine wpAnyH_take (i := 8) (v := .int .i64 n) rfl (by kernel_rfl) (by kernel_rfl) (by kernel_rfl) (fun _ _ _ h => h) (yields_cell (.tmp 10) rfl (w.heap.size) 17 (by kernel_rfl) n (fun w h => pnt_portCell h.1 HL.out) (by kernel_rfl)) hS ?_
  simp only [List.getElem_toArray, List.getElem_cons_zero, List.getElem_cons_succ, Act.put, List.setIfInBounds_toArray, List.set_cons_zero, List.set_cons_succ]
  refine wpAnyH_take (i := 9) (v := .int .u8 (n % 256)) rfl (by kernel_rfl) (by kernel_rfl) (by kernel_rfl) (fun _ _ _ h => h) (.inl ⟨by kernel_rfl, fun w _ => exec_byte (.tmp 11) rfl n (by kernel_rfl)⟩) hS ?_
  simp only [List.getElem_toArray, List.getElem_cons_zero, List.getElem_cons_succ, Act.put, List.setIfInBounds_toArray, List.set_cons_zero, List.set_cons_succ]
  refine wpAnyH_ready (rs := [2, 10]) (by kernel_rfl) (by simp) ?_
  refine AllReadyH.cons rfl (fun K' hK => ?_) (AllReadyH.cons rfl (fun K' hK => ?_) AllReadyH.nil)
  · refine step_callE 59 #[.agg (adr s b)] (by kernel_rfl) (by kernel_rfl) (CP.out _) (fun v w2 hR => hK.out _ _ ⟨hS.1.kept hR.2, bel2 hS.2 hR.2⟩ (fun hS2 => ?_))
    simp only [List.getElem_toArray, List.getElem_cons_zero, List.getElem_cons_succ, Act.put, List.setIfInBounds_toArray, List.set_cons_zero, List.set_cons_succ]
    have hown := own_mono hR.1 hS.2.size
    obtain ⟨w3, hw3⟩ : ∃ w3, w3 = w2.alloc (.cells #[.int .u8 (n / 256 % 256), .int .u8 (n % 256)] 5) := ⟨_, rfl⟩
    have hb3 : Below w2.heap.size w2 w3 := hw3 ▸ (Below.refl _ _).alloc (Nat.le_refl _) _
    refine wpAnyH_ready (rs := [10]) (by kernel_rfl) (by simp) ?_
    refine AllReadyH.cons rfl (fun K' hK => ?_) AllReadyH.nil
    refine step_run (.slice (some ⟨w2.heap.size, 0, none⟩) 2 2) w3 (by rw [hw3]; kernel_rfl) (by kernel_rfl) (hK.out _ _ ⟨hS2.1.kept hb3, bel2 hS2.2 hb3⟩ (fun hS => ?_))
    simp only [List.getElem_toArray, List.getElem_cons_zero, List.getElem_cons_succ, Act.put, List.setIfInBounds_toArray, List.set_cons_zero, List.set_cons_succ]
    have HO : Hid (w3.ownsRow w.heap.size 5 1 v (putA s b).length ((putA s b).map (Value.int .u8))) := Lib.hid (own_below hown hb3)
    have HN : Hid (∀ j u, ([.int .u8 (n / 256 % 256), .int .u8 (n % 256)] : List Value)[j]? = some u → w3.cell? ((⟨w2.heap.size, 0, none⟩ : Addr).add j) = some u) := Lib.hid fun j u hu => by
      have hB : Blk w3 w2.heap.size 5 #[.int .u8 (n / 256 % 256), .int .u8 (n % 256)] := hw3 ▸ Blk.new w2 _ _
      rw [add_plain, hB.cell, Nat.zero_add]
      simpa using hu
    have HG : Hid (v.ownBlock ≠ some w.heap.size) := Lib.hid (own_ne hR.1 hS0.1.lt)
    have hlen : (putA s b).length ≤ 17 := by rw [putA_len s b HL.out]; split <;> omega
    refine wpAnyH_ready (rs := [11]) (by kernel_rfl) (by simp) ?_
    refine AllReadyH.cons rfl (fun K' hK => ?_) AllReadyH.nil
    rw [if_pos (by kernel_rfl)]
    refine wp_append_own _ (.tmp 5) (.tmp 13) 77 rfl w.heap.size 5 i0 (.int .u8 0) 1 1 Tryd.underlying77 hi hz0 hz1 hz2 rfl (by decide) v _ _ (by kernel_rfl) HO.out ⟨w2.heap.size, 0, none⟩ 2 2 [.int .u8 (n / 256 % 256), .int .u8 (n % 256)] (by kernel_rfl) rfl HN.out (by simp [Value.oneCell']) (by unfold maxLen; omega) (by omega) (by have := hS.2.size; omega) (fun v' w4 hown hgrow _ => hK.out _ _ ⟨hS.1.grown hgrow HG.out, hS.2.grown hgrow hS.2.size (fun k hk => own_block HO.out hk)⟩ (fun hS => ?_))
    simp only [List.getElem_toArray, List.getElem_cons_zero, List.getElem_cons_succ, Act.put, List.setIfInBounds_toArray, List.set_cons_zero, List.set_cons_succ]
    have F : Hid (OwnEnd (putP s b n) w (.returned v') w4) := Lib.hid ⟨v', rfl, by
      unfold putP
      rw [List.length_append, List.map_append]
      exact hown, hS.2⟩
    refine wpAnyH_take (i := 12) (v := v') rfl (by kernel_rfl) (by kernel_rfl) (by kernel_rfl) (fun _ _ _ h => h) (.inl ⟨by kernel_rfl, fun w _ => by kernel_rfl⟩) hS ?_
    simp only [List.getElem_toArray, List.getElem_cons_zero, List.getElem_cons_succ, Act.put, List.setIfInBounds_toArray, List.set_cons_zero, List.set_cons_succ]
    refine wpAnyH_done (by kernel_rfl) ?_ _
    clear hS hown hgrow
    go_wp2
    go_ret
    exact F.out
  · obtain ⟨w2, hw2⟩ : ∃ w2, w2 = w1.drew.alloc (.cells #[.int .u8 (n / 256 % 256), .int .u8 (n % 256)] 5) := ⟨_, rfl⟩
    have hb2 : Below w1.drew.heap.size w1.drew w2 := hw2 ▸ (Below.refl _ _).alloc (Nat.le_refl _) _
    refine step_run (.slice (some ⟨w1.drew.heap.size, 0, none⟩) 2 2) w2 (by rw [hw2]; kernel_rfl) (by kernel_rfl) (hK.out _ _ ⟨hS.1.kept hb2, bel2 hS.2 hb2⟩ (fun hS2 => ?_))
    simp only [List.getElem_toArray, List.getElem_cons_zero, List.getElem_cons_succ, Act.put, List.setIfInBounds_toArray, List.set_cons_zero, List.set_cons_succ]
    refine wpAnyH_ready (rs := [2]) (by kernel_rfl) (by simp) ?_
    refine AllReadyH.cons rfl (fun K' hK => ?_) AllReadyH.nil
    refine step_callE 59 #[.agg (adr s b)] (by kernel_rfl) (by kernel_rfl) (CP.out _) (fun v w3 hR => hK.out _ _ ⟨hS2.1.kept hR.2, bel2 hS2.2 hR.2⟩ (fun hS => ?_))
    simp only [List.getElem_toArray, List.getElem_cons_zero, List.getElem_cons_succ, Act.put, List.setIfInBounds_toArray, List.set_cons_zero, List.set_cons_succ]
    have HO : Hid (w3.ownsRow w.heap.size 5 1 v (putA s b).length ((putA s b).map (Value.int .u8))) := Lib.hid (own_mono hR.1 hS2.2.size)
    have HN : Hid (∀ j u, ([.int .u8 (n / 256 % 256), .int .u8 (n % 256)] : List Value)[j]? = some u → w3.cell? ((⟨w1.drew.heap.size, 0, none⟩ : Addr).add j) = some u) := Lib.hid fun j u hu => by
      have hB : Blk w3 w1.drew.heap.size 5 #[.int .u8 (n / 256 % 256), .int .u8 (n % 256)] := (hw2 ▸ Blk.new w1.drew _ _ : Blk w2 _ _ _).kept hR.2
      rw [add_plain, hB.cell, Nat.zero_add]
      simpa using hu
    have HG : Hid (v.ownBlock ≠ some w.heap.size) := Lib.hid (own_ne hR.1 hS2.1.lt)
    have hlen : (putA s b).length ≤ 17 := by rw [putA_len s b HL.out]; split <;> omega
    refine wpAnyH_ready (rs := [11]) (by kernel_rfl) (by simp) ?_
    refine AllReadyH.cons rfl (fun K' hK => ?_) AllReadyH.nil
    rw [if_pos (by kernel_rfl)]
    refine wp_append_own _ (.tmp 5) (.tmp 13) 77 rfl w.heap.size 5 i0 (.int .u8 0) 1 1 Tryd.underlying77 hi hz0 hz1 hz2 rfl (by decide) v _ _ (by kernel_rfl) HO.out ⟨w1.drew.heap.size, 0, none⟩ 2 2 [.int .u8 (n / 256 % 256), .int .u8 (n % 256)] (by kernel_rfl) rfl HN.out (by simp [Value.oneCell']) (by unfold maxLen; omega) (by omega) (by have := hS.2.size; omega) (fun v' w4 hown hgrow _ => hK.out _ _ ⟨hS.1.grown hgrow HG.out, hS.2.grown hgrow hS.2.size (fun k hk => own_block HO.out hk)⟩ (fun hS => ?_))
    simp only [List.getElem_toArray, List.getElem_cons_zero, List.getElem_cons_succ, Act.put, List.setIfInBounds_toArray, List.set_cons_zero, List.set_cons_succ]
    have F : Hid (OwnEnd (putP s b n) w (.returned v') w4) := Lib.hid ⟨v', rfl, by
      unfold putP
      rw [List.length_append, List.map_append]
      exact hown, hS.2⟩
    refine wpAnyH_take (i := 12) (v := v') rfl (by kernel_rfl) (by kernel_rfl) (by kernel_rfl) (fun _ _ _ h => h) (.inl ⟨by kernel_rfl, fun w _ => by kernel_rfl⟩) hS ?_
    simp only [List.getElem_toArray, List.getElem_cons_zero, List.getElem_cons_succ, Act.put, List.setIfInBounds_toArray, List.set_cons_zero, List.set_cons_succ]
    refine wpAnyH_done (by kernel_rfl) ?_ _
    clear hS hown hgrow
    go_wp2
    go_ret
    exact F.out
end Go.Proofs.YtgpbmbefdgbblaaDoor
