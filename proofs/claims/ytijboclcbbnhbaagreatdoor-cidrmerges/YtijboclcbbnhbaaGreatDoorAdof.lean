/-
  The walks of addr.Six and addr.addressOf.
-/
import Derived.Test.YtijboclcbbnhbaaGreatDoorFour
namespace Go.Proofs.YtijboclcbbnhbaaGreatDoor
open Go.RowKit

set_option maxRecDepth 100000 in
set_option maxHeartbeats 1000000 in
theorem six_any (b : List Int) (hl : b.length = 16) (w : World) : Calls Tryz.prog 90 #[.agg (arr .u8 b)] w fun e w' => e = .returned (.agg (adr true b)) ∧ Below w.heap.size w w' := by
  match b, hl with
  | [a0, a1, a2, a3, a4, a5, a6, a7, a8, a9, a10, a11, a12, a13, a14, a15], _ =>
    obtain ⟨W0, hW0⟩ : ∃ W, W = w.alloc (.cells (arr .u8 [a0, a1, a2, a3, a4, a5, a6, a7, a8, a9, a10, a11, a12, a13, a14, a15]) 23) := ⟨_, rfl⟩
    have hB0 : Blk W0 w.heap.size 23 (arr .u8 [a0, a1, a2, a3, a4, a5, a6, a7, a8, a9, a10, a11, a12, a13, a14, a15]) := hW0 ▸ Blk.new w _ _
    have hb0 : Below w.heap.size w W0 := hW0 ▸ (Below.refl _ _).alloc (Nat.le_refl _) _
    obtain ⟨W1, hW1⟩ : ∃ W, W = W0.alloc (.cells (adr false z16) 25) := ⟨_, rfl⟩
    have hB1 : Blk W1 W0.heap.size 25 (adr false z16) := hW1 ▸ Blk.new W0 _ _
    have hb1 : Below W0.heap.size W0 W1 := hW1 ▸ (Below.refl _ _).alloc (Nat.le_refl _) _
    have hs0 : W0.heap.size = w.heap.size + 1 := by rw [hW0]; simp
    have HW : Hid ((w.alloc (.cells (arr .u8 [a0, a1, a2, a3, a4, a5, a6, a7, a8, a9, a10, a11, a12, a13, a14, a15]) 23)).alloc (.cells #[.bool false, .int .u8 0, .int .u8 0, .int .u8 0, .int .u8 0, .int .u8 0, .int .u8 0, .int .u8 0, .int .u8 0, .int .u8 0, .int .u8 0, .int .u8 0, .int .u8 0, .int .u8 0, .int .u8 0, .int .u8 0, .int .u8 0] 25) = W1) := Lib.hid (by rw [hW1, hW0]; rfl)
    have HB0 := Lib.hid (hB0.kept hb1)
    have HB1 : Hid (Blk W1 (w.heap.size + 1) 25 (adr false z16)) := Lib.hid (hs0 ▸ hB1)
    have Hb : Hid (Below w.heap.size w W1) := Lib.hid (bel2 hb0 hb1)
    clear hB0 hB1 hb0 hb1 hW0 hW1 hs0
    go_enter Tryz.func90, Tryz.ntmps90
    go_wp2_with ((try rw [HW.out]); first | (refine wpl_load 23 _ rfl _ rfl _ _ _ HB0.out Tryz.underlying23 rfl 16 Tryz.infoArr rfl rfl ?_; simp only [arr, List.map_cons, List.map_nil]) | (refine wpl_store 25 _ _ rfl _ (adr true [a0, a1, a2, a3, a4, a5, a6, a7, a8, a9, a10, a11, a12, a13, a14, a15]) rfl rfl _ _ HB1.out 17 Tryz.infoAddr rfl rfl (adr_one _ _) rfl ?_))
    exact retA rfl (w.heap.size + 1) rfl _ _ _ (HB1.out.row _) Tryz.underlying25 rfl 17 Tryz.infoAddr rfl rfl ⟨rfl, below_setRow Hb.out (by omega) _⟩

/-- The two bytes of each group. -/
def by2 (ns : List Nat) : List Nat := ns.flatMap fun n => [n / 256, n % 256]
theorem by2_length (ns : List Nat) : (by2 ns).length = 2 * ns.length := by
  induction ns with
  | nil => rfl
  | cons n ns ih => simp only [by2, List.flatMap_cons, List.length_append, List.length_cons, List.length_nil] at ih ⊢; omega
theorem by2_append (a b : List Nat) : by2 (a ++ b) = by2 a ++ by2 b := by simp [by2]
theorem by2_zeros (k : Nat) : by2 (List.replicate k 0) = List.replicate (2 * k) 0 := by
  induction k with
  | zero => rfl
  | succ k ih =>
    have : by2 (List.replicate (k + 1) 0) = 0 :: 0 :: by2 (List.replicate k 0) := rfl
    rw [this, ih, show 2 * (k + 1) = 2 * k + 1 + 1 by omega, List.replicate_succ, List.replicate_succ]
theorem by2_take (g : List Nat) (k : Nat) (h : k < g.length) : by2 (g.take (k + 1)) = by2 (g.take k) ++ [g.getD k 0 / 256, g.getD k 0 % 256] := by
  rw [List.take_succ_eq_append_getElem h, by2_append]
  simp [by2, List.getD, List.getElem?_eq_getElem h]

theorem rowOf_two (g : List Nat) (k : Nat) (h : k < g.length) (h8 : g.length = 8) :
    ((rowOf (by2 (g.take k)) 16).set (2 * k) ((g.getD k 0 / 256 : Nat) : Int)).set (2 * k + 1) ((g.getD k 0 % 256 : Nat) : Int) = rowOf (by2 (g.take (k + 1))) 16 := by
  have hl : (by2 (g.take k)).length = 2 * k := by rw [by2_length, List.length_take]; omega
  have e1 := rowOf_set (by2 (g.take k)) 16 (g.getD k 0 / 256) (by omega)
  have e2 := rowOf_set (by2 (g.take k) ++ [g.getD k 0 / 256]) 16 (g.getD k 0 % 256) (by simp [hl]; omega)
  rw [hl] at e1
  rw [e1]
  simp only [List.length_append, hl, List.length_cons, List.length_nil] at e2
  rw [e2, by2_take g k h]
  simp

theorem run_index_grp (cs : Array Value) (k : Nat) (v : Value) (hk : k < 8) (hv : cs[k]? = some v) (w : World) :
    (Instr.index 74 (.agg cs) (.int .i64 (k : Int))).run Tryz.prog w = .ok v w := by
  have h1 : (0 : Int) ≤ (k : Int) ∧ (k : Int) < ((8 : Nat) : Int) := by omega
  have h2 : (part 73 cs (k * 1)).run Tryz.prog w = .ok v w := by
    simp [part, Tryz.isAgg73, hv]
  simp only [Instr.index, asIntOf, Sem.run_bind, Sem.run_pure, Result.andThen_ok, run_underlying Tryz.underlying74, Sem.run_ite, Tryz.sizeOf73, Int.toNat_natCast]
  rw [if_pos h1]
  exact h2

theorem shr16 (n : Nat) : ((n : Int) / 2 ^ 8) = ((n / 256 : Nat) : Int) := by simp

set_option maxRecDepth 100000 in
set_option maxHeartbeats 4000000 in
theorem adof_any (g : List Nat) (h8 : g.length = 8) (hg : ∀ n ∈ g, n < 65536) (w : World) :
    Calls Tryz.prog 63 #[.agg (arr .u16 (g.map (fun k : Nat => (k : Int))))] w fun e w' => e = .returned (.agg (adr true ((by2 g).map (fun k : Nat => (k : Int))))) ∧ Below w.heap.size w w' := by
  obtain ⟨W0, hW0⟩ : ∃ W, W = w.alloc (.cells (arr .u16 (g.map (fun k : Nat => (k : Int)))) 74) := ⟨_, rfl⟩
  have hB0 : Blk W0 w.heap.size 74 (arr .u16 (g.map (fun k : Nat => (k : Int)))) := hW0 ▸ Blk.new w _ _
  have hb0 : Below w.heap.size w W0 := hW0 ▸ (Below.refl _ _).alloc (Nat.le_refl _) _
  have hs0 : W0.heap.size = w.heap.size + 1 := by rw [hW0]; simp
  obtain ⟨W1, hW1⟩ : ∃ W, W = W0.alloc (.cells (adr false z16) 25) := ⟨_, rfl⟩
  have hB1 : Blk W1 W0.heap.size 25 (adr false z16) := hW1 ▸ Blk.new W0 _ _
  have hb1 : Below W0.heap.size W0 W1 := hW1 ▸ (Below.refl _ _).alloc (Nat.le_refl _) _
  have hs1 : W1.heap.size = w.heap.size + 2 := by rw [hW1]; simp [hs0]
  obtain ⟨W2, hW2⟩ : ∃ W, W = W1.alloc (.cells (arr .u8 z16) 23) := ⟨_, rfl⟩
  have hB2 : Blk W2 W1.heap.size 23 (arr .u8 z16) := hW2 ▸ Blk.new W1 _ _
  have hb2 : Below W1.heap.size W1 W2 := hW2 ▸ (Below.refl _ _).alloc (Nat.le_refl _) _
  have HW : Hid (((w.alloc (.cells (arr .u16 (g.map (fun k : Nat => (k : Int)))) 74)).alloc (.cells #[.bool false, .int .u8 0, .int .u8 0, .int .u8 0, .int .u8 0, .int .u8 0, .int .u8 0, .int .u8 0, .int .u8 0, .int .u8 0, .int .u8 0, .int .u8 0, .int .u8 0, .int .u8 0, .int .u8 0, .int .u8 0, .int .u8 0] 25)).alloc (.cells #[.int .u8 0, .int .u8 0, .int .u8 0, .int .u8 0, .int .u8 0, .int .u8 0, .int .u8 0, .int .u8 0, .int .u8 0, .int .u8 0, .int .u8 0, .int .u8 0, .int .u8 0, .int .u8 0, .int .u8 0, .int .u8 0] 23) = W2) := Lib.hid (by rw [hW2, hW1, hW0]; rfl)
  have HB2 : Hid (Blk W2 (w.heap.size + 2) 23 (arr .u8 z16)) := Lib.hid (hs1 ▸ hB2)
  have HB1 : Hid (Blk W2 (w.heap.size + 1) 25 (adr false z16)) := Lib.hid (hs0 ▸ hB1.kept hb2)
  have HB0 : Hid (Blk W2 w.heap.size 74 (arr .u16 (g.map (fun k : Nat => (k : Int))))) := Lib.hid ((hB0.kept hb1).kept hb2)
  have Hb : Hid (Below w.heap.size w W2) := Lib.hid (bel2 (bel2 hb0 hb1) hb2)
  obtain ⟨V, hV⟩ : ∃ V, V = W2.setRow (w.heap.size + 2) (arr .u8 z16) := ⟨_, rfl⟩
  have HV2 : Hid (Blk V (w.heap.size + 2) 23 (arr .u8 (rowOf (by2 (g.take 0)) 16))) := Lib.hid (hV ▸ HB2.out.row _)
  have HV1 : Hid (Blk V (w.heap.size + 1) 25 (adr false z16)) := Lib.hid (hV ▸ HB1.out.rowOther (by omega) _)
  have HV0 : Hid (Blk V w.heap.size 74 (arr .u16 (g.map (fun k : Nat => (k : Int))))) := Lib.hid (hV ▸ HB0.out.rowOther (by omega) _)
  have HVb : Hid (Below w.heap.size w V) := Lib.hid (hV ▸ below_setRow Hb.out (by omega) _)
  have HV := Lib.hid hV.symm
  have H8 := Lib.hid h8
  have HG := Lib.hid hg
  clear hB0 hB1 hB2 hb0 hb1 hb2 hW0 hW1 hW2 hs0 hs1 hV h8 hg
  have HSz : Hid (8 = (arr .u16 (g.map (fun k : Nat => (k : Int)))).size) := Lib.hid (by rw [arr_size]; simp [H8.out])
  go_enter Tryz.func63, Tryz.ntmps63
  go_wp2_with ((try rw [HW.out]); (try rw [HV.out]); first | (refine wpl_store 23 _ _ rfl _ (arr .u8 z16) rfl rfl _ _ HB2.out 16 Tryz.infoArr rfl rfl (arr_one _ _) rfl ?_) | (refine wpl_load 74 _ rfl _ rfl _ _ _ HV0.out Tryz.underlying74 rfl 8 Tryz.infoGrp HSz.out rfl ?_))
  clear HW HB2 HB1 HB0 Hb HV
  go_loopw [8] (fun i wr => ∃ k : Nat, k ≤ 8 ∧ i = .int .i64 k ∧ Hid (Blk wr (w.heap.size + 2) 23 (arr .u8 (rowOf (by2 (g.take k)) 16)) ∧ Blk wr (w.heap.size + 1) 25 (adr false z16) ∧ Below w.heap.size w wr)) (fun i _ => 8 - (intOf i).toNat)
  case atStart => exact ⟨0, Nat.zero_le _, rfl, HV2.out, HV1.out, HVb.out⟩
  case round =>
    obtain ⟨k, hk, rfl, hh⟩ := hrel
    clear HV2 HV1 HV0 HVb
    by_cases hlt : k < 8
    · obtain ⟨hR, hB1, hb⟩ := hh.out
      have hkg : k < g.length := by rw [H8.out]; exact hlt
      have hrl : (rowOf (by2 (g.take k)) 16).length = 16 := rowOf_length _ _ (by rw [by2_length, List.length_take]; omega)
      obtain ⟨n, hn⟩ : ∃ n, n = g.getD k 0 := ⟨_, rfl⟩
      have hn16 : n < 65536 := by
        rw [hn]
        apply HG.out
        simp [List.getD, List.getElem?_eq_getElem hkg]
      have hix := run_index_grp (arr .u16 (g.map (fun k : Nat => (k : Int)))) k (.int .u16 (n : Int)) hlt (by
        rw [hn]
        simp [arr, List.getD, List.getElem?_eq_getElem hkg])
      have hc1 : wr.cell? ⟨w.heap.size + 1 + 1, 2 * k, none⟩ = some (.int .u8 (nth (rowOf (by2 (g.take k)) 16) (2 * k))) := by rw [show w.heap.size + 1 + 1 = w.heap.size + 2 from rfl, hR.cell, arr_at _ _ _ (by omega)]
      have hc2 : wr.cell? ⟨w.heap.size + 1 + 1, 2 * k + 1, none⟩ = some (.int .u8 (nth (rowOf (by2 (g.take k)) 16) (2 * k + 1))) := by rw [show w.heap.size + 1 + 1 = w.heap.size + 2 from rfl, hR.cell, arr_at _ _ _ (by omega)]
      have hf1 : wr.frozen? ⟨w.heap.size + 1 + 1, 2 * k, none⟩ = false := hR.frozen (2 * k)
      have hf2 : wr.frozen? ⟨w.heap.size + 1 + 1, 2 * k + 1, none⟩ = false := hR.frozen (2 * k + 1)
      have HR := Lib.hid hR
      have HB1 := Lib.hid hB1
      have Hb := Lib.hid hb
      have HN := Lib.hid hn
      clear hR hB1 hb hh hn hrl hkg
      go_wp2
      go_roundw
      case rel =>
        have e1 : ((n : Int) / 256) = ((n / 256 : Nat) : Int) := by omega
        have e2 : ((n : Int) % 256) = ((n % 256 : Nat) : Int) := by omega
        rw [e1, e2]
        refine ⟨k + 1, by omega, by go_num, ?_, ?_, ?_⟩
        · have := (HR.out.set (2 * k) (.int .u8 ((n / 256 : Nat) : Int))).set (2 * k + 1) (.int .u8 ((n % 256 : Nat) : Int))
          rw [arr_set, arr_set, HN.out, rowOf_two g k (by rw [H8.out]; exact hlt) H8.out] at this
          rw [HN.out]
          exact this
        · exact (HB1.out.setOther (by omega) _ _).setOther (by omega) _ _
        · exact (Hb.out.setCell (by show w.heap.size ≤ w.heap.size + 1 + 1; omega) _).setCell (by show w.heap.size ≤ w.heap.size + 1 + 1; omega) _
      case measure => simp [intOf]; omega
    · obtain rfl : k = 8 := by omega
      obtain ⟨hR, hB1, hb⟩ := hh.out
      have hfull : rowOf (by2 (g.take 8)) 16 = (by2 g).map (fun k : Nat => (k : Int)) := by
        rw [List.take_of_length_le (by rw [H8.out]; omega), rowOf_full _ _ (by rw [by2_length, H8.out])]
      rw [hfull] at hR
      have hl16 : ((by2 g).map (fun k : Nat => (k : Int))).length = 16 := by rw [List.length_map, by2_length, H8.out]
      have HR := Lib.hid hR
      have HB1 := Lib.hid hB1
      have Hb := Lib.hid hb
      have HL := Lib.hid hl16
      clear hR hB1 hb hh hfull hl16
      obtain ⟨B, hBd⟩ : ∃ B, B = (by2 g).map (fun k : Nat => (k : Int)) := ⟨_, rfl⟩
      rw [← hBd] at HR HL
      have HBd := Lib.hid hBd
      clear hBd
      go_wp2_with (refine wpl_load 23 _ rfl _ rfl _ _ _ HR.out Tryz.underlying23 rfl 16 Tryz.infoArr (by rw [arr_size, HL.out]) rfl ?_)
      refine (six_any B HL.out _).mono ?_
      rintro e w2 ⟨rfl, hb2⟩
      have HB2 := Lib.hid (HB1.out.kept hb2)
      go_wp2_with (refine wpl_store 25 _ _ rfl _ (adr true B) rfl rfl _ _ HB2.out 17 Tryz.infoAddr (by rw [adr_size, HL.out]) rfl (adr_one _ _) rfl ?_)
      exact retA rfl (w.heap.size + 1) rfl _ _ _ (HB2.out.row _) Tryz.underlying25 rfl 17 Tryz.infoAddr (by rw [adr_size, HL.out]) rfl ⟨by rw [HBd.out], below_setRow (bel2 Hb.out hb2) (by omega) _⟩
end Go.Proofs.YtijboclcbbnhbaaGreatDoor
