/-
  A cidr opened and shut, and what is listed for the laws of layer 3.
-/
import Derived.Test.YtnfkgoeocebenaaGreatDoorRow
import Derived.Test.YtnfkgoeocebenaaGreatDoorLaid
import Derived.Test.YtnfkgoeocebenaaGreatDoorQa
namespace Go.Proofs.YtnfkgoeocebenaaGreatDoor
open Go.ChangeShapes Go.WideShapes Go.ChangeAt Go.WideMaps Go.WideElems Go.RowKit
section
variable {H : Type} {enc : TypeId × Value → H}

def cidData (s : Bool) (x : List Nat) (n : Int) : DataW H := .agg [adrData s x, .lit (.int .i64 n)]

theorem cid_list (s : Bool) (x : List Nat) (n : Int) : (cid s (ints x) n).toList = (.bool s :: x.map fun n : Nat => Value.int .u8 n) ++ [.int .i64 n] := by
  simp [cid, ints]

set_option maxRecDepth 100000 in
theorem open_cid {W : World} {base b0 : Nat} {sp : Nat → Bool} {held : Bool} {r : Reach} {v : Value} {d : DataW H} {ps : List MemPlace} (hv : Value.okWide Tryz.prog W r b0 50 v) (h : DataW.Trod enc Tryz.prog W base sp held 50 v d ps) :
    ∃ s x n, v = .agg (cid s (ints x) n) ∧ d = cidData s x n ∧ ps = [] ∧ x.length = 16 ∧ (∀ n ∈ x, n < 256) ∧ (Lit.int .i64 n).wf = true := by
  obtain ⟨cs, rfl, hs⟩ := okWide_struct Tryz.underlying50 hv
  obtain ⟨fuel, hf⟩ := h
  obtain ⟨y0, y1, n, hx, hl, h0, h1⟩ := trod_struct2 Tryz.underlying50 hf
  have hca : Tryz.prog.cellsOf 24 = 17 := by kernel_rfl
  have hci : Tryz.prog.cellsOf 3 = 1 := by kernel_rfl
  have hc0 : Tryz.prog.cellsOf 4 = 1 := by kernel_rfl
  have hc1 : Tryz.prog.cellsOf 22 = 16 := by kernel_rfl
  have hs : cs.size = 18 := hs.trans (by kernel_rfl)
  simp only [hca, hci, Value.cells] at h0 h1
  obtain ⟨z0, z1, k, hz, hzl, k0, k1⟩ := trod_struct2 Tryz.underlying24 h0
  simp only [hc0, hc1] at k0 k1
  obtain ⟨s, e0, rfl⟩ := DataW.trod_bool Tryz.underlying4 k0
  obtain ⟨x, hxl, hxb, e1, rfl⟩ := open_bytes16 k1
  obtain ⟨m, e2, rfl, hwf⟩ := DataW.trod_int Tryz.underlying3 h1
  subst hz
  refine ⟨s, x, m, ?_, ?_, ?_, hxl, hxb, hwf⟩
  · congr 1
    apply Array.toList_inj.1
    rw [cid_list, ← List.take_append_drop 17 cs.toList]
    simp only [List.drop_zero] at e0 e1
    have a1 : cs.toList.take 17 = .bool s :: x.map fun n : Nat => Value.int .u8 n := by
      rw [← List.take_append_drop 1 (cs.toList.take 17), e0]
      rw [List.take_of_length_le (by simp [hs])] at e1
      rw [e1]
      rfl
    have a2 : cs.toList.drop 17 = [.int .i64 m] := by
      rw [List.take_of_length_le (by simp [hs])] at e2
      exact e2
    rw [a1, a2]
  · simpa [cidData, adrData] using congrArg Prod.fst hx
  · simpa using congrArg Prod.snd hx

set_option maxRecDepth 100000 in
theorem shut_adr3 {W : World} {base : Nat} {sp : Nat → Bool} {held : Bool} {s : Bool} {x : List Nat} (hl : x.length = 16) (hb : ∀ n ∈ x, n < 256) : DataW.trod enc Tryz.prog W base sp held 3 24 (.bool s :: x.map fun n : Nat => Value.int .u8 n) = some (adrData s x, []) := by
  have hc0 : Tryz.prog.cellsOf 4 = 1 := by kernel_rfl
  have hc1 : Tryz.prog.cellsOf 22 = 16 := by kernel_rfl
  have hc : Tryz.prog.cellsOf 24 = 17 := by kernel_rfl
  refine (trod_struct2_mk (y0 := (.lit (.bool s), [])) (y1 := (.agg (x.map fun n : Nat => .lit (.int .u8 n)), [])) Tryz.underlying24 (by simp [hc, hl]) ?_ ?_).trans (by simp [adrData])
  · simp only [hc0]
    simp [DataW.trod, Tryz.underlying4]
  · simp only [hc1]
    have := shut_bytes16 (enc := enc) (W := W) (base := base) (sp := sp) (held := held) 0 hl hb
    simpa [List.take_of_length_le, hl] using this

set_option maxRecDepth 100000 in
theorem shut_cid {W : World} {base : Nat} {sp : Nat → Bool} {held : Bool} {s : Bool} {x : List Nat} {n : Int} (hl : x.length = 16) (hb : ∀ n ∈ x, n < 256) (hw : (Lit.int .i64 n).wf = true) : DataW.Trod enc Tryz.prog W base sp held 50 (.agg (cid s (ints x) n)) (cidData s x n) [] := by
  have hca : Tryz.prog.cellsOf 24 = 17 := by kernel_rfl
  have hci : Tryz.prog.cellsOf 3 = 1 := by kernel_rfl
  have hc : Tryz.prog.cellsOf 50 = 18 := by kernel_rfl
  refine ⟨4, ?_⟩
  show DataW.trod enc Tryz.prog W base sp held 4 50 (cid s (ints x) n).toList = _
  rw [cid_list]
  refine (trod_struct2_mk (y0 := (adrData s x, [])) (y1 := (.lit (.int .i64 n), [])) Tryz.underlying50 (by simp [hc, hl]) ?_ ?_).trans (by simp [cidData])
  · simp only [hca]
    have e : (((Value.bool s :: x.map fun n : Nat => Value.int .u8 n) ++ [Value.int .i64 n]).drop 0).take 17 = .bool s :: x.map fun n : Nat => Value.int .u8 n := by
      rw [List.drop_zero, List.take_append_of_le_length (by simp [hl]), List.take_of_length_le (by simp [hl])]
    rw [e]
    exact shut_adr3 hl hb
  · simp only [hci]
    have e : (((Value.bool s :: x.map fun n : Nat => Value.int .u8 n) ++ [Value.int .i64 n]).drop 17).take 1 = [.int .i64 n] := by
      rw [List.drop_append_of_le_length (by simp [hl]), List.drop_of_length_le (by simp [hl])]
      rfl
    rw [e]
    exact trod_int_mk 2 Tryz.underlying3 hw
end
end Go.Proofs.YtnfkgoeocebenaaGreatDoor
