/-
  The walk of the document's Cut.
-/
import Derived.Test.YtambnnahgbegfaaGreatDoorCrcutp
import Derived.Deep.RegionLaw
namespace Go.Proofs.YtambnnahgbegfaaGreatDoor
open Go.RowKit

set_option maxRecDepth 100000 in
set_option maxHeartbeats 4000000 in
theorem rcut_any (s : Bool) (A : List Nat) (hl : A.length = 16) (hA : ∀ x ∈ A, x < 256) (N : Nat) (hN : N ≤ 128) (w : World) :
    Calls Tryz.prog 38 #[.agg (adr s (ints A)), .int .i64 (N : Int)] w fun e w' => e = .returned (.agg (adr s (ints (cutTo A N 16)))) ∧ Below w.heap.size w w' := by
  obtain ⟨W0, hW0⟩ : ∃ W, W = w.alloc (.cells (adr s (ints A)) 24) := ⟨_, rfl⟩
  obtain ⟨W1, hW1⟩ : ∃ W, W = W0.alloc (.cells (adr false z16) 24) := ⟨_, rfl⟩
  obtain ⟨V, hV⟩ : ∃ V, V = W1.alloc (.cells (adr s z16) 24) := ⟨_, rfl⟩
  have hB0 : Blk W0 w.heap.size 24 (adr s (ints A)) := hW0 ▸ Blk.new w _ _
  have hb0 : Below w.heap.size w W0 := hW0 ▸ (Below.refl _ _).alloc (Nat.le_refl _) _
  have hs0 : W0.heap.size = w.heap.size + 1 := by rw [hW0]; simp
  have hb1 : Below W0.heap.size W0 W1 := hW1 ▸ (Below.refl _ _).alloc (Nat.le_refl _) _
  have hs1 : W1.heap.size = w.heap.size + 1 + 1 := by rw [hW1]; simp [hs0]
  have hB1 : Blk W1 (w.heap.size + 1) 24 (adr false z16) := by rw [← hs0]; exact hW1 ▸ Blk.new W0 _ _
  have hb2 : Below W1.heap.size W1 V := hV ▸ (Below.refl _ _).alloc (Nat.le_refl _) _
  obtain ⟨g2, hg2⟩ : ∃ g2, g2 = W1.heap.size := ⟨_, rfl⟩
  have hB2 : Blk V g2 24 (adr s z16) := by rw [hg2]; exact hV ▸ Blk.new W1 _ _
  have HG2 : Hid (g2 = w.heap.size + 1 + 1) := Lib.hid (by rw [hg2, hs1])
  have HW0 := Lib.hid hW0.symm
  have HW1 : Hid (W0.alloc (.cells #[.bool false, .int .u8 0, .int .u8 0, .int .u8 0, .int .u8 0, .int .u8 0, .int .u8 0, .int .u8 0, .int .u8 0, .int .u8 0, .int .u8 0, .int .u8 0, .int .u8 0, .int .u8 0, .int .u8 0, .int .u8 0, .int .u8 0] 24) = W1) := Lib.hid hW1.symm
  have HV : Hid (W1.alloc (.cells #[.bool s, .int .u8 0, .int .u8 0, .int .u8 0, .int .u8 0, .int .u8 0, .int .u8 0, .int .u8 0, .int .u8 0, .int .u8 0, .int .u8 0, .int .u8 0, .int .u8 0, .int .u8 0, .int .u8 0, .int .u8 0, .int .u8 0] 24) = V) := Lib.hid hV.symm
  have H2 : Hid (Blk V (w.heap.size) 24 (adr s (ints A)) ∧ Blk V (w.heap.size + 1) 24 (adr false z16) ∧ Blk V g2 24 (adr s (ints (cutTo A 0 16))) ∧ Below w.heap.size w V) := Lib.hid (by
    rw [cutTo_nought]
    exact ⟨(hB0.kept hb1).kept hb2, hB1.kept hb2, hB2, bel2 (bel2 hb0 hb1) hb2⟩)
  have c0 : W1.cell? ⟨w.heap.size, 0, none⟩ = some (.bool s) := by rw [(hB0.kept hb1).cell]; rfl
  have LA : Hid (17 = (adr s (ints A)).size) := Lib.hid (by rw [adr_size, ints_length, hl])
  have CB := Lib.hid (fun i hi w => bit_any s A hl hA i hi w)
  have HL := Lib.hid hl
  have HAd := Lib.hid hA
  clear hW0 hW1 hV hB0 hb0 hb1 hB1 hb2 hB2 hs0 hs1 hl hA
  go_enter Tryz.func38, Tryz.ntmps38
  go_upto_region 1 with fail
  rw [HW0.out]
  rw [HW1.out]
  go_wp2
  rw [HV.out]
  rw [← hg2]
  clear hg2
  go_loopw [6] (fun i wr => ∃ k : Nat, k ≤ N ∧ i = .int .i64 k ∧ Hid (Blk wr (w.heap.size) 24 (adr s (ints A)) ∧ Blk wr (w.heap.size + 1) 24 (adr false z16) ∧ Blk wr g2 24 (adr s (ints (cutTo A k 16))) ∧ Below w.heap.size w wr)) (fun i _ => N - (intOf i).toNat)
  case atStart => exact ⟨0, Nat.zero_le _, rfl, H2.out⟩
  case round =>
    obtain ⟨k, hk, rfl, hh⟩ := hrel
    clear H2 c0
    by_cases hlt : k < N
    · obtain ⟨q, hq⟩ : ∃ q, q = k / 8 := ⟨_, rfl⟩
      obtain ⟨r, hr⟩ : ∃ r, r = k % 8 := ⟨_, rfl⟩
      obtain ⟨kk, hkk⟩ : ∃ kk, kk = 7 - r := ⟨_, rfl⟩
      obtain ⟨x, hx⟩ : ∃ x, x = cutN A k q := ⟨_, rfl⟩
      obtain ⟨b, hb⟩ : ∃ b, b = bitn A k := ⟨_, rfl⟩
      obtain ⟨t, ht⟩ : ∃ t, t = b * 2 ^ kk := ⟨_, rfl⟩
      have hb2 : b < 2 := by rw [hb]; unfold bitn; omega
      have hnx := cut_next A HAd.out k
      rw [← hq, ← hr, ← hkk, ← hx, ← hb, ← ht] at hnx
      have HN1 := Lib.hid hnx.1
      have hxt := hnx.2
      have hpow : 2 ^ kk ≤ 2 ^ 7 := Nat.pow_le_pow_right (by decide) (by omega)
      have ht8 : t ≤ 128 := by
        rw [ht]
        have : b * 2 ^ kk ≤ 1 * 2 ^ kk := Nat.mul_le_mul_right _ (by omega)
        omega
      have e1 : IntKind.i64.wrap ((k : Int) / 8) = (q : Int) := by simp only [IntKind.wrap, IntKind.signed, IntKind.bits]; simp; omega
      have e1' : IntKind.i64.wrap ((k : Int).tdiv 8) = (q : Int) := by rw [Int.tdiv_eq_ediv_of_nonneg (by omega)]; exact e1
      have e2 : (k : Int).tmod 8 = (r : Int) := by rw [Int.tmod_eq_emod_of_nonneg (by omega)]; omega
      have e3 : (k : Int) % 8 = (r : Int) := by omega
      have e4 : IntKind.i64.wrap (7 - (r : Int)) = (kk : Int) := by simp only [IntKind.wrap, IntKind.signed, IntKind.bits]; simp; omega
      have ebt : ((b : Int) * 2 ^ kk) = (t : Int) := by rw [ht]; simp
      have e5 : IntKind.i64.wrap ((b : Int) * 2 ^ kk) = (t : Int) := by rw [ebt]; simp only [IntKind.wrap, IntKind.signed, IntKind.bits]; simp; omega
      have e6 : IntKind.u8.wrap (t : Int) = (t : Int) := by simp only [IntKind.wrap, IntKind.signed, IntKind.bits]; simp; omega
      have e7 : IntKind.u8.wrap ((x : Int) + (t : Int)) = ((x + t : Nat) : Int) := by simp only [IntKind.wrap, IntKind.signed, IntKind.bits]; simp; omega
      have q0 : (0 : Int) ≤ (q : Int) := by omega
      have q1 : (q : Int) < 16 := by omega
      have k0 : (0 : Int) ≤ (kk : Int) := by omega
      have hk63 : ¬ (64 : Int) ≤ (kk : Int) := by omega
      have CBk : Hid (∀ w, Calls Tryz.prog 65 #[.agg (adr s (ints A)), .int .i64 (k : Int)] w fun e w' => e = .returned (.int .i64 (b : Int)) ∧ Below w.heap.size w w') := Lib.hid fun w => by
        have := CB.out k (by omega) w
        rw [bitN_ints, ← hb] at this
        exact this
      have hcell : ∀ w', Blk w' g2 24 (adr s (ints (cutTo A k 16))) → w'.cell? ⟨g2, 1 + q, none⟩ = some (.int .u8 (x : Int)) := fun w' h => by
        rw [h.cell, adr_at _ _ _ (by rw [ints_length, cutTo_length]; omega), nth_ints, cut_at16 A k q (by omega), hx]
      have HCell := Lib.hid hcell
      have HBd : Hid (Blk wr.drew (w.heap.size) 24 (adr s (ints A))) := Lib.hid (hh.out.1.kept (below_drewN wr 1))
      have HOd : Hid (Blk wr.drew g2 24 (adr s (ints (cutTo A k 16)))) := Lib.hid (hh.out.2.2.1.kept (below_drewN wr 1))
      have hcd := hcell _ HOd.out
      have hfd := HOd.out.frozen (1 + q)
      clear hq hr hkk hx hb ht hb2 hnx hpow ht8 ebt hcell
      have hli : (ints A).length = 16 := by rw [ints_length, HL.out]
      obtain ⟨z0, z1, z2, z3, z4, z5, z6, z7, z8, z9, z10, z11, z12, z13, z14, z15, z16'⟩ := cells16 hli HBd.out
      rw [lit16 s (ints A) hli] at CBk
      clear hli
      go_wp2_with fail
      go_region_law (first
        | (go_simp; go_at_call 65; refine (CBk.out _).mono ?_; rintro e w1 ⟨rfl, hb1⟩; have hc1 := HCell.out w1 (HOd.out.kept hb1); have hf1 := (HOd.out.kept hb1).frozen (1 + q)))
      all_goals
        have HE : Hid (Blk (w1.setCell ⟨g2, 1 + q, none⟩ (.int .u8 ((x : Int) + (t : Int)))) (w.heap.size) 24 (adr s (ints A)) ∧ Blk (w1.setCell ⟨g2, 1 + q, none⟩ (.int .u8 ((x : Int) + (t : Int)))) (w.heap.size + 1) 24 (adr false z16) ∧ Blk (w1.setCell ⟨g2, 1 + q, none⟩ (.int .u8 ((x : Int) + (t : Int)))) g2 24 (adr s (ints (cutTo A ((k + 1 : Nat) : Int) 16))) ∧ Below w.heap.size w (w1.setCell ⟨g2, 1 + q, none⟩ (.int .u8 ((x : Int) + (t : Int))))) := Lib.hid (by
          have hg := HG2.out
          refine ⟨(HBd.out.kept hb1).setOther (by omega) _ _, ((hh.out.2.1.kept (below_drewN wr 1)).kept hb1).setOther (by omega) _ _, ?_, ?_⟩
          · have := (HOd.out.kept hb1).set (1 + q) (.int .u8 ((x + t : Nat) : Int))
            rw [adr_set, ints_set, HN1.out] at this
            rw [show ((x : Int) + (t : Int)) = ((x + t : Nat) : Int) by simp]
            exact this
          · exact (bel2 (bel2 hh.out.2.2.2 (below_drewN wr 1)) hb1).setCell (by show w.heap.size ≤ g2; omega) _)
        clear hb1 hc1 hf1 z0 z1 z2 z3 z4 z5 z6 z7 z8 z9 z10 z11 z12 z13 z14 z15 z16' hcd hfd hh
        go_wp2
        go_roundw
        case rel => exact ⟨k + 1, by omega, by go_num, HE.out⟩
        case measure => simp [intOf]; omega
    · obtain rfl : k = N := by omega
      obtain ⟨hBa, hBr, hBo, hbx⟩ := hh.out
      have HX := Lib.hid hBo
      have HY := Lib.hid hBr
      have Hb := Lib.hid hbx
      have L17 : Hid (17 = (adr s (ints (cutTo A k 16))).size) := Lib.hid (by rw [adr_size, ints_length, cutTo_length])
      clear hh hBa hBr hBo hbx
      go_wp2_with (first | (refine wpl_load 24 _ rfl g2 rfl _ _ _ HX.out Tryz.underlying24 rfl 17 Tryz.infoAddr L17.out rfl ?_) | (refine wpl_store 24 _ _ rfl (w.heap.size + 1) (adr s (ints (cutTo A k 16))) rfl rfl _ _ HY.out 17 Tryz.infoAddr L17.out rfl (adr_one _ _) rfl ?_))
      exact retA rfl (w.heap.size + 1) rfl _ _ _ (HY.out.row _) Tryz.underlying24 rfl 17 Tryz.infoAddr L17.out rfl ⟨rfl, below_setRow Hb.out (by omega) _⟩
end Go.Proofs.YtambnnahgbegfaaGreatDoor
