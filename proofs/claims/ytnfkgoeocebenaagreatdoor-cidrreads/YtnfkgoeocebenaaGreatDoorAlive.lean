/-
  The walk of alive: the chapter's example.
-/
import Derived.Test.YtnfkgoeocebenaaGreatDoorParsed
import Derived.Test.YtnfkgoeocebenaaGreatDoorFormat
import Derived.Deep.MidRow
namespace Go.Proofs.YtnfkgoeocebenaaGreatDoor
open Go.RowKit

theorem wpl_load_mid {P : Program} {ops : Array Oper} {rest : List Oper} {o : Oper} {a : Act} {w : World} {Q : Exit → Act → World → Prop} (ty : TypeId) (x : Operand) (ho : o.op = .load ty x)
    (b off : Nat) (hx : a.eval x = .pointer (some ⟨b, off, none⟩)) (cs : List Value) (d : TypeDesc) (hc : w.rangeAt b off cs)
    (hu : P.underlying ty = some d) (hd : d.isRow = true) (n : Nat) (hi : (P.info? ty).map (·.size) = some n) (hn : n = cs.length) (hw : Region.wanted o (yielded ops a.tmps) = true)
    (h : wpList P ops Q rest (a.put o.dst (.agg cs.toArray)) w) : wpList P ops Q (o :: rest) a w :=
  BigFrame.wpList_want hw fun _ hK => wp_load_mid ty x ho b off hx cs d hc hu hd (hn ▸ hi) (hK _ _ h)

abbrev exB : List Nat := [32, 1, 13, 184, 0, 0, 0, 0, 0, 0, 0, 0, 0, 0, 0, 1]
abbrev exS : ByteArray := ⟨#[50, 48, 48, 49, 58, 100, 98, 56, 58, 58, 49]⟩
theorem ex_parsed : parsed [50, 48, 48, 49, 58, 100, 98, 56, 58, 58, 49] = some (true, ints exB) := by decide +kernel
theorem ex_text : text6 (gr exB) = [50, 48, 48, 49, 58, 100, 98, 56, 58, 58, 49] := by decide +kernel

theorem ex_parse (E : Value) (w : World) (hE : Env E w) : Calls Tryz.prog 46 #[.string ⟨#[50, 48, 48, 49, 58, 100, 98, 56, 58, 58, 49]⟩] w fun e w' => e = .returned (.tuple #[.agg (adr true (ints exB)), .nilIface]) ∧ Below w.heap.size w w' := by
  refine (parse_any exS (by decide) E w hE).mono ?_
  rintro e w' ⟨h, hb⟩
  have hp : parsed exS.data.toList = some (true, ints exB) := ex_parsed
  rw [hp] at h
  exact ⟨h, hb⟩
theorem ex_format (E : Value) (w : World) (hE : Env E w) : Calls Tryz.prog 47 #[.agg (adr true (ints exB))] w fun e w' => e = .returned (.string ⟨#[50, 48, 48, 49, 58, 100, 98, 56, 58, 58, 49]⟩) ∧ Below w.heap.size w w' := by
  refine (format_six exB rfl (by decide) E w hE).mono ?_
  rintro e w' ⟨rfl, hb⟩
  rw [ex_text]
  exact ⟨rfl, hb⟩

set_option maxRecDepth 100000 in
set_option maxHeartbeats 4000000 in
theorem alive_any (E : Value) (w : World) (hE : Env E w) : Calls Tryz.prog 8 #[] w fun e w' => e = .returned (.bool true) ∧ Below w.heap.size w w' := by
  have HE := Lib.hid hE
  clear hE
  have hq : ∀ w, (binOp .eql 22 (.agg #[.int .u8 32, .int .u8 1, .int .u8 13, .int .u8 184, .int .u8 0, .int .u8 0, .int .u8 0, .int .u8 0, .int .u8 0, .int .u8 0, .int .u8 0, .int .u8 0, .int .u8 0, .int .u8 0, .int .u8 0, .int .u8 1]) (.agg #[.int .u8 32, .int .u8 1, .int .u8 13, .int .u8 184, .int .u8 0, .int .u8 0, .int .u8 0, .int .u8 0, .int .u8 0, .int .u8 0, .int .u8 0, .int .u8 0, .int .u8 0, .int .u8 0, .int .u8 0, .int .u8 1])).run Tryz.prog w = .ok (.bool true) w := fun w => eql_arr (ints exB) (ints exB) rfl rfl w
  have hstr : ((⟨#[50, 48, 48, 49, 58, 100, 98, 56, 58, 58, 49]⟩ : ByteArray).toList == (⟨#[50, 48, 48, 49, 58, 100, 98, 56, 58, 58, 49]⟩ : ByteArray).toList) = true := by simp
  go_enter Tryz.func8, Tryz.ntmps8
  go_wp2_with fail
  refine (ex_parse E w HE.out).mono ?_
  rintro e w1 ⟨rfl, hb1⟩
  obtain ⟨W2, hW2⟩ : ∃ W, W = w1.alloc (.cells (adr false z16) 24) := ⟨_, rfl⟩
  have hB2 : Blk W2 w1.heap.size 24 (adr false z16) := hW2 ▸ Blk.new w1 _ _
  have hb2 : Below w1.heap.size w1 W2 := hW2 ▸ (Below.refl _ _).alloc (Nat.le_refl _) _
  have HW2 : Hid (w1.alloc (.cells #[.bool false, .int .u8 0, .int .u8 0, .int .u8 0, .int .u8 0, .int .u8 0, .int .u8 0, .int .u8 0, .int .u8 0, .int .u8 0, .int .u8 0, .int .u8 0, .int .u8 0, .int .u8 0, .int .u8 0, .int .u8 0, .int .u8 0] 24) = W2) := Lib.hid hW2.symm
  have HB2 := Lib.hid hB2
  have hBV : Blk (W2.setRow w1.heap.size (adr true (ints exB))) w1.heap.size 24 (adr true (ints exB)) := hB2.row _
  have hbV : Below w1.heap.size w1 (W2.setRow w1.heap.size (adr true (ints exB))) := below_setRow hb2 (Nat.le_refl _) _
  have h0 : (W2.setRow w1.heap.size (adr true (ints exB))).cell? ⟨w1.heap.size, 0, none⟩ = some (.bool true) := by rw [hBV.cell]; rfl
  have HRg : Hid ((W2.setRow w1.heap.size (adr true (ints exB))).rangeAt w1.heap.size 1 [.int .u8 32, .int .u8 1, .int .u8 13, .int .u8 184, .int .u8 0, .int .u8 0, .int .u8 0, .int .u8 0, .int .u8 0, .int .u8 0, .int .u8 0, .int .u8 0, .int .u8 0, .int .u8 0, .int .u8 0, .int .u8 1]) := Lib.hid fun j v hv => by
    have hj : j < 16 := (List.getElem?_eq_some_iff.1 hv).1
    rw [hBV.cell, adr_at _ _ _ (by exact hj), nth_ints]
    rw [← hv]
    have : j = 0 ∨ j = 1 ∨ j = 2 ∨ j = 3 ∨ j = 4 ∨ j = 5 ∨ j = 6 ∨ j = 7 ∨ j = 8 ∨ j = 9 ∨ j = 10 ∨ j = 11 ∨ j = 12 ∨ j = 13 ∨ j = 14 ∨ j = 15 := by omega
    rcases this with rfl | rfl | rfl | rfl | rfl | rfl | rfl | rfl | rfl | rfl | rfl | rfl | rfl | rfl | rfl | rfl <;> rfl
  have HBV := Lib.hid hBV
  clear hW2 hB2 hBV
  go_wp2_with ((try rw [HW2.out]); first | (refine wpl_store 24 _ _ rfl _ (adr true (ints exB)) rfl rfl _ _ HB2.out 17 Tryz.infoAddr rfl rfl (adr_one _ _) rfl ?_) | (refine wpl_load_mid 22 _ rfl w1.heap.size 1 rfl _ _ HRg.out Tryz.underlying22 rfl 16 Tryz.infoArr rfl rfl ?_) | (refine wpl_load 24 _ rfl _ rfl _ _ _ HBV.out Tryz.underlying24 rfl 17 Tryz.infoAddr rfl rfl ?_))
  refine (ex_format E _ ((HE.out.kept hb1).kept hbV)).mono ?_
  rintro e w4 ⟨rfl, hb4⟩
  go_wp2
  go_ret
  exact ⟨rfl, bel2 (bel2 hb1 hbV) hb4⟩
end Go.Proofs.YtnfkgoeocebenaaGreatDoor
