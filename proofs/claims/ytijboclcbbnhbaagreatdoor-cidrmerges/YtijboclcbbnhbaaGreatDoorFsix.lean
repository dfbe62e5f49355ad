/-
  The walk of addr.formatSix.
-/
import Derived.Test.YtijboclcbbnhbaaGreatDoorFgrp
import Derived.Test.YtijboclcbbnhbaaGreatDoorSixq
import Derived.Deep.RegionWith
namespace Go.Proofs.YtijboclcbbnhbaaGreatDoor
open Go.RowKit

theorem below_drew (w : World) : Below w.heap.size w w.drew := below_drewN w 1

/-- The text of eight groups: two colons in place of the longest row of noughts. -/
def text6 (g : List Nat) : List UInt8 :=
  if (nzB (zeros g) 8).2.1 = (nzB (zeros g) 8).2.2 then gtext g else gtext (g.take (nzB (zeros g) 8).2.1) ++ ([58, 58] ++ gtext (g.drop (nzB (zeros g) 8).2.2))

theorem fgrp_any (p : Option Addr) (c n : Nat) (ns : List Nat) (hn : ns.length = n) (hn8 : n ≤ 8) (hns : ∀ x ∈ ns, x < 65536) (E : Value) (w : World) (hE : Env E w) (hS : SrcAt w p ns) :
    Calls Tryz.prog 69 #[.slice p n c] w (TextEnd (gtext ns) w) := by
  by_cases h0 : n = 0
  · subst h0
    obtain rfl : ns = [] := List.length_eq_zero_iff.1 hn
    exact fgrp_none p c w
  · exact fgrp_some p c n ns hn (by omega) hn8 hns E w hE hS

theorem gtext_le (ns : List Nat) (k : Nat) (h : ns.length ≤ k) : (gtext ns).length ≤ 5 * k := by
  have := join_le (ns.map hexs) (fun x hx => by
    obtain ⟨y, _, rfl⟩ := List.mem_map.1 hx
    exact hexs_le y) [58] rfl
  rw [List.length_map] at this
  unfold gtext
  omega

theorem run_to8 (g m : Nat) (hm : m ≤ 8) (w : World) :
    (Instr.sliceAt 74 (.pointer (some ⟨g, 0, none⟩)) none (some (.int .i64 (m : Int))) none).run Tryz.prog w = .ok (.slice (some ⟨g, 0, none⟩) m 8) w := by
  have h1 : (m : Int) ≤ 8 := by omega
  have h0 : (0 : Int) ≤ (m : Int) := by omega
  simp [Instr.sliceAt, Instr.sureAddr, run_underlying Tryz.underlying74, Instr.sliceBounds, Tryz.sizeOf73, go_sem, h1, h0]

set_option maxRecDepth 100000 in
set_option maxHeartbeats 4000000 in
theorem fsix_any (g : List Nat) (h8 : g.length = 8) (hg : ∀ n ∈ g, n < 65536) (E : Value) (w : World) (hE : Env E w) :
    Calls Tryz.prog 50 #[.agg (arr .u16 (ints g))] w (TextEnd (text6 g) w) := by
  obtain ⟨W0, hW0⟩ : ∃ W, W = w.alloc (.cells (arr .u16 (ints g)) 74) := ⟨_, rfl⟩
  have hB0 : Blk W0 w.heap.size 74 (arr .u16 (ints g)) := hW0 ▸ Blk.new w _ _
  have hb0 : Below w.heap.size w W0 := hW0 ▸ (Below.refl _ _).alloc (Nat.le_refl _) _
  have HW0 := Lib.hid hW0.symm
  have HL8 : Hid (8 = (arr .u16 (ints g)).size) := Lib.hid (by rw [arr_size, ints_length, h8])
  have hcell : ∀ w', Blk w' w.heap.size 74 (arr .u16 (ints g)) → ∀ j, j < 8 → w'.cell? ⟨w.heap.size, j, none⟩ = some (.int .u16 ((g.getD j 0 : Nat) : Int)) := fun w' h j hj => by
    rw [h.cell, arr_at _ _ _ (by rw [ints_length, h8]; exact hj), nth_ints]
  obtain ⟨f, hf⟩ : ∃ f, f = (nzB (zeros g) 8).2.1 := ⟨_, rfl⟩
  obtain ⟨t, ht⟩ : ∃ t, t = (nzB (zeros g) 8).2.2 := ⟨_, rfl⟩
  obtain ⟨n1, n2, n3, n4⟩ := nz_of g h8
  have hno := noughts_any g h8 hg
  have htx : text6 g = if f = t then gtext g else gtext (g.take f) ++ ([58, 58] ++ gtext (g.drop t)) := by unfold text6; rw [hf, ht]
  rw [← hf, ← ht] at hno
  rw [← hf, ← ht] at n1
  rw [← ht] at n2
  have HNo := Lib.hid hno
  have HTx := Lib.hid htx
  have HB0 := Lib.hid hB0
  have HE := Lib.hid hE
  have HC := Lib.hid hcell
  have H8 := Lib.hid h8
  have HG := Lib.hid hg
  clear hW0 hB0 hcell hf ht n3 n4 hno htx hE h8 hg
  by_cases hft : f = t
  · go_enter Tryz.func50, Tryz.ntmps50
    go_wp2_with ((try rw [HW0.out]); refine wpl_load 74 _ rfl _ rfl _ _ _ HB0.out Tryz.underlying74 rfl 8 Tryz.infoGrp HL8.out rfl ?_)
    refine (HNo.out W0).mono ?_
    rintro e w1 ⟨rfl, hb1⟩
    have HB1 := Lib.hid (HB0.out.kept hb1)
    have q : ((f : Int) == (t : Int)) = true := by rw [beq_iff_eq]; omega
    have HFt := Lib.hid hft
    clear hft
    go_wp2_with fail
    refine (fgrp_any _ _ 8 g H8.out (by omega) HG.out E w1 ((HE.out.kept hb0).kept hb1) (fun _ => ⟨w.heap.size, 0, rfl, HB1.out.lt, fun j hj => by rw [Nat.zero_add]; exact HC.out w1 HB1.out j (by rw [H8.out] at hj; exact hj)⟩)).mono ?_
    rintro e w2 ⟨rfl, hb2⟩
    go_wp2
    go_ret
    exact ⟨by rw [HTx.out, if_pos HFt.out]; rfl, bel2 (bel2 hb0 hb1) hb2⟩
  · obtain ⟨ad, had⟩ : ∃ ad : Addr, ad = if 8 = t then ⟨w.heap.size, 0, none⟩ else ⟨w.heap.size, t, none⟩ := ⟨_, rfl⟩
    have hsl : ∀ w', (Instr.sliceAt 74 (.pointer (some ⟨w.heap.size, 0, none⟩)) (some (.int .i64 (t : Int))) none none).run Tryz.prog w' = .ok (.slice (some ad) (8 - t) (8 - t)) w' := fun w' => by
      rw [run_from8 w.heap.size t n2 w', ← had]
    have hsf := run_to8 w.heap.size f (by omega)
    have HA : Hid (∀ w', Blk w' w.heap.size 74 (arr .u16 (ints g)) → Env E w' → Calls Tryz.prog 69 #[.slice (some ⟨w.heap.size, 0, none⟩) f 8] w' (TextEnd (gtext (g.take f)) w')) := Lib.hid fun w' h hE' => by
      refine fgrp_any _ _ f (g.take f) (by rw [List.length_take, H8.out]; omega) (by omega) (fun x hx => HG.out x (List.mem_of_mem_take hx)) E w' hE' (fun _ => ⟨w.heap.size, 0, rfl, h.lt, fun j hj => ?_⟩)
      rw [List.length_take, H8.out] at hj
      rw [Nat.zero_add, HC.out w' h j (by omega)]
      simp [List.getD, show j < f by omega]
    have HB : Hid (∀ w', Blk w' w.heap.size 74 (arr .u16 (ints g)) → Env E w' → Calls Tryz.prog 69 #[.slice (some ad) (8 - t) (8 - t)] w' (TextEnd (gtext (g.drop t)) w')) := Lib.hid fun w' h hE' => by
      refine fgrp_any _ _ (8 - t) (g.drop t) (by rw [List.length_drop, H8.out]) (by omega) (fun x hx => HG.out x (List.mem_of_mem_drop hx)) E w' hE' (fun h0 => ⟨w.heap.size, t, ?_, h.lt, fun j hj => ?_⟩)
      · rw [List.length_drop, H8.out] at h0
        rw [had, if_neg (by omega)]
      · rw [List.length_drop, H8.out] at hj
        rw [HC.out w' h (t + j) (by omega)]
        simp [List.getD, List.getElem?_drop]
    clear had
    obtain ⟨sA, hsA⟩ : ∃ s : ByteArray, s = ⟨(gtext (g.take f)).toArray⟩ := ⟨_, rfl⟩
    obtain ⟨sB, hsB⟩ : ∃ s : ByteArray, s = ⟨(gtext (g.drop t)).toArray⟩ := ⟨_, rfl⟩
    obtain ⟨sM, hsM⟩ : ∃ s : ByteArray, s = ⟨(gtext (g.take f) ++ [58, 58]).toArray⟩ := ⟨_, rfl⟩
    obtain ⟨sR, hsR⟩ : ∃ s : ByteArray, s = ⟨((gtext (g.take f) ++ [58, 58]) ++ gtext (g.drop t)).toArray⟩ := ⟨_, rfl⟩
    have hA2 : ∀ w', Blk w' w.heap.size 74 (arr .u16 (ints g)) → Env E w' → Calls Tryz.prog 69 #[.slice (some ⟨w.heap.size, 0, none⟩) f 8] w' fun e w2 => e = .returned (.string sA) ∧ Below w'.heap.size w' w2 := fun w' h h' => (HA.out w' h h').mono fun e w2 h => ⟨by rw [hsA]; exact h.1, h.2⟩
    have hB2 : ∀ w', Blk w' w.heap.size 74 (arr .u16 (ints g)) → Env E w' → Calls Tryz.prog 69 #[.slice (some ad) (8 - t) (8 - t)] w' fun e w2 => e = .returned (.string sB) ∧ Below w'.heap.size w' w2 := fun w' h h' => (HB.out w' h h').mono fun e w2 h => ⟨by rw [hsB]; exact h.1, h.2⟩
    have hle1 := gtext_le (g.take f) 8 (by rw [List.length_take, H8.out]; omega)
    have hle2 := gtext_le (g.drop t) 8 (by rw [List.length_drop, H8.out]; omega)
    have hs1 : ∀ w', (Op.stringOp .add sA ⟨#[58, 58]⟩).run Tryz.prog w' = .ok (.string sM) w' := fun w' => by
      rw [hsA, hsM]
      exact run_string_add_lists w' (gtext (g.take f)) [58, 58] (by omega) (by simp)
    have hs2 : ∀ w', (Op.stringOp .add sM sB).run Tryz.prog w' = .ok (.string sR) w' := fun w' => by
      rw [hsM, hsB, hsR]
      exact run_string_add_lists w' _ _ (by simp; omega) (by omega)
    have HRs : Hid (sR = ⟨(text6 g).toArray⟩) := Lib.hid (by rw [HTx.out, if_neg hft, hsR, List.append_assoc])
    clear hsA hsB hsM hsR hle1 hle2 HA HB
    have HA := Lib.hid hA2
    have HB := Lib.hid hB2
    clear hA2 hB2
    go_enter Tryz.func50, Tryz.ntmps50
    go_wp2_with ((try rw [HW0.out]); refine wpl_load 74 _ rfl _ rfl _ _ _ HB0.out Tryz.underlying74 rfl 8 Tryz.infoGrp HL8.out rfl ?_)
    refine (HNo.out W0).mono ?_
    rintro e w1 ⟨rfl, hb1⟩
    have HB1 : Hid (Blk w1.drew w.heap.size 74 (arr .u16 (ints g))) := Lib.hid ((HB0.out.kept hb1).kept (below_drew w1))
    have HE1 : Hid (Env E w1.drew) := Lib.hid (((HE.out.kept hb0).kept hb1).kept (below_drew w1))
    have Hb1 : Hid (Below w.heap.size w w1.drew) := Lib.hid (bel2 (bel2 hb0 hb1) (below_drew w1))
    have q : ((f : Int) == (t : Int)) = false := by rw [beq_eq_false_iff_ne]; omega
    have HFt := Lib.hid hft
    clear hft
    go_wp2_with fail
    go_region_with (first
      | (go_at_call 69; (with_reducible refine (HA.out w1.drew HB1.out HE1.out).mono ?_); rintro e wA ⟨rfl, hbA⟩)
      | (go_at_call 69; (with_reducible refine (HB.out wA (HB1.out.kept hbA) (HE1.out.kept hbA)).mono ?_); rintro e wB ⟨rfl, hbB⟩))
    all_goals go_wp2
    all_goals go_ret
    exact ⟨by rw [← HRs.out]; rfl, bel2 (bel2 Hb1.out hbA) hbB⟩
end Go.Proofs.YtijboclcbbnhbaaGreatDoor
