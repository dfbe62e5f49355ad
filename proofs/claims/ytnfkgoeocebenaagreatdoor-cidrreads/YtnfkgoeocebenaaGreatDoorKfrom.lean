/-
  addr.From of a row of bytes.
-/
import Derived.Test.YtnfkgoeocebenaaGreatDoorKref
import Derived.Test.YtnfkgoeocebenaaGreatDoorKdraw
namespace Go.Proofs.YtnfkgoeocebenaaGreatDoor
open Go.RowKit

/-- Bytes, and noughts up to sixteen. -/
def pad16 (l : List Int) : List Int := l ++ List.replicate (16 - l.length) 0
theorem pad16_length (l : List Int) (h : l.length ≤ 16) : (pad16 l).length = 16 := by simp [pad16]; omega

theorem splice_adr (s : Bool) (l : List Int) (_h : l.length ≤ 16) : splice (adr s z16).toList 1 (l.map (Value.int .u8)) = (adr s (pad16 l)).toList := by
  have e : z16 = List.replicate 16 0 := rfl
  unfold splice adr pad16
  rw [e]
  simp only [List.map_append, List.map_replicate, List.length_map, List.take_succ_cons, List.take_zero, List.cons_append, List.nil_append]
  rw [Nat.add_comm 1, List.drop_succ_cons, List.drop_replicate]

theorem Tryz.oneU8x : (Tryz.prog.info? 5).map (·.size) = some 1 := by kernel_rfl
theorem row_cells {w : World} {ad : Option Addr} {l : List Int} (hc : ∀ j, j < l.length → ∃ g o, ad = some ⟨g, o, none⟩ ∧ w.cell? ⟨g, o + j, none⟩ = some (.int .u8 (l.getD j 0))) (h0 : 0 < l.length) :
    ∃ a, ad = some a ∧ ∀ j v, (l.map (Value.int .u8))[j]? = some v → w.cell? (a.add j) = some v := by
  obtain ⟨g, o, rfl, _⟩ := hc 0 h0
  refine ⟨_, rfl, fun j v hv => ?_⟩
  rw [List.getElem?_map] at hv
  obtain ⟨x, hx, rfl⟩ := Option.map_eq_some_iff.1 hv
  have hj : j < l.length := (List.getElem?_eq_some_iff.1 hx).1
  obtain ⟨g', o', e, h⟩ := hc j hj
  cases e
  rw [add_plain, h, List.getD, hx]
  rfl

set_option maxRecDepth 100000 in
set_option maxHeartbeats 1000000 in
theorem from_bad (ad : Option Addr) (n cap : Nat) (h4 : n ≠ 4) (h16 : n ≠ 16) (E : Value) (w : World) (hE : w.cell? ⟨0, 0, none⟩ = some E) :
    Calls Tryz.prog 14 #[.slice ad n cap] w fun e w' => e = .returned (.tuple #[.agg (adr false z16), E]) ∧ Below w.heap.size w w' := by
  obtain ⟨W0, hW0⟩ : ∃ W, W = w.alloc (.cells (adr false z16) 24) := ⟨_, rfl⟩
  have hB0 : Blk W0 w.heap.size 24 (adr false z16) := hW0 ▸ Blk.new w _ _
  have hb0 : Below w.heap.size w W0 := hW0 ▸ (Below.refl _ _).alloc (Nat.le_refl _) _
  have HW0 : Hid (w.alloc (.cells #[.bool false, .int .u8 0, .int .u8 0, .int .u8 0, .int .u8 0, .int .u8 0, .int .u8 0, .int .u8 0, .int .u8 0, .int .u8 0, .int .u8 0, .int .u8 0, .int .u8 0, .int .u8 0, .int .u8 0, .int .u8 0, .int .u8 0] 24) = W0) := Lib.hid hW0.symm
  have HF := Lib.hid hE
  have d4 : ((n : Int) != 4) = true := by rw [bne_iff_ne]; omega
  have d16 : ((n : Int) != 16) = true := by rw [bne_iff_ne]; omega
  have HBx := Lib.hid hB0
  have Hbx := Lib.hid hb0
  clear hW0 hB0 hb0 hE h4 h16
  go_enter Tryz.func14, Tryz.ntmps14
  go_upto_region 2 with fail
  rw [HW0.out]
  clear HW0
  have HB5d : Hid (Blk W0.drew w.heap.size 24 (adr false z16)) := Lib.hid (HBx.out.kept (below_drewN W0 1))
  have hform : W0.cell? ⟨0, 0, none⟩ = some E := cell_kept HF.out Hbx.out
  have hform2 : (W0.drew.setRow w.heap.size (adr false z16)).cell? ⟨0, 0, none⟩ = some E := cell_kept HF.out (below_setRow (bel2 Hbx.out (below_drewN W0 1)) (Nat.le_refl _) _)
  refine wp_region_any (by kernel_rfl) ?_
  change wpAny _ _ _ _ _ _ _ (World.drew _)
  refine wpAny_take (i := 0) (v := .agg (adr false z16)) rfl (by kernel_rfl) (by kernel_rfl) (by kernel_rfl) (fun _ _ _ h => h) (Or.inl ⟨by rfl, fun w => by kernel_rfl⟩) ?_
  refine wpAny_ready (rs := [1, 2]) (by kernel_rfl) (by simp) ?_
  refine AllReady.cons rfl (fun K hK => ?_) (AllReady.cons rfl (fun K hK => ?_) AllReady.nil)
  · refine step_run E W0.drew (by go_simp) rfl (hK _ _ ?_)
    refine wpAny_ready (rs := [2]) (by kernel_rfl) (by simp) ?_
    refine AllReady.cons rfl (fun K hK => ?_) AllReady.nil
    refine step_store 24 (.tmp 2) (.tmp 13) rfl w.heap.size (adr false z16) rfl rfl 24 (adr false z16) HB5d.out 17 Tryz.infoAddr rfl rfl (adr_one _ _) rfl (hK _ _ ?_)
    refine wpAny_ready (rs := [3]) (by kernel_rfl) (by simp) ?_
    refine AllReady.cons rfl (fun K hK => ?_) AllReady.nil
    refine step_run E _ rfl rfl (hK _ _ ?_)
    refine wpAny_done (by kernel_rfl) ?_ _
    go_wp2
    exact retA2 rfl w.heap.size rfl _ _ _ (HB5d.out.row _) Tryz.underlying24 rfl 17 Tryz.infoAddr rfl rfl _ rfl ⟨rfl, below_setRow (bel2 Hbx.out (below_drewN W0 1)) (Nat.le_refl _) _⟩
  · refine step_store 24 (.tmp 2) (.tmp 13) rfl w.heap.size (adr false z16) rfl rfl 24 (adr false z16) HB5d.out 17 Tryz.infoAddr rfl rfl (adr_one _ _) rfl (hK _ _ ?_)
    refine wpAny_ready (rs := [1]) (by kernel_rfl) (by simp) ?_
    refine AllReady.cons rfl (fun K hK => ?_) AllReady.nil
    refine step_run E (W0.drew.setRow w.heap.size (adr false z16)) (by go_simp) rfl (hK _ _ ?_)
    refine wpAny_ready (rs := [3]) (by kernel_rfl) (by simp) ?_
    refine AllReady.cons rfl (fun K hK => ?_) AllReady.nil
    refine step_run E _ rfl rfl (hK _ _ ?_)
    refine wpAny_done (by kernel_rfl) ?_ _
    go_wp2
    exact retA2 rfl w.heap.size rfl _ _ _ (HB5d.out.row _) Tryz.underlying24 rfl 17 Tryz.infoAddr rfl rfl _ rfl ⟨rfl, below_setRow (bel2 Hbx.out (below_drewN W0 1)) (Nat.le_refl _) _⟩

set_option maxRecDepth 100000 in
set_option maxHeartbeats 1000000 in
theorem from_4 (ad : Option Addr) (cap : Nat) (l : List Int) (hl : l.length = 4) (w : World) (hc : ∀ j, j < l.length → ∃ g o, ad = some ⟨g, o, none⟩ ∧ w.cell? ⟨g, o + j, none⟩ = some (.int .u8 (l.getD j 0))) :
    Calls Tryz.prog 14 #[.slice ad 4 cap] w fun e w' => e = .returned (.tuple #[.agg (adr false (pad16 l)), .nilIface]) ∧ Below w.heap.size w w' := by
  obtain ⟨W0, hW0⟩ : ∃ W, W = w.alloc (.cells (adr false z16) 24) := ⟨_, rfl⟩
  have hB0 : Blk W0 w.heap.size 24 (adr false z16) := hW0 ▸ Blk.new w _ _
  have hb0 : Below w.heap.size w W0 := hW0 ▸ (Below.refl _ _).alloc (Nat.le_refl _) _
  have HW0 : Hid (w.alloc (.cells #[.bool false, .int .u8 0, .int .u8 0, .int .u8 0, .int .u8 0, .int .u8 0, .int .u8 0, .int .u8 0, .int .u8 0, .int .u8 0, .int .u8 0, .int .u8 0, .int .u8 0, .int .u8 0, .int .u8 0, .int .u8 0, .int .u8 0] 24) = W0) := Lib.hid hW0.symm
  obtain ⟨V, hV⟩ : ∃ W, W = W0.alloc (.cells (adr false z16) 24) := ⟨_, rfl⟩
  have HV : Hid (W0.alloc (.cells #[.bool false, .int .u8 0, .int .u8 0, .int .u8 0, .int .u8 0, .int .u8 0, .int .u8 0, .int .u8 0, .int .u8 0, .int .u8 0, .int .u8 0, .int .u8 0, .int .u8 0, .int .u8 0, .int .u8 0, .int .u8 0, .int .u8 0] 24) = V) := Lib.hid hV.symm
  have hbV0 : Below W0.heap.size W0 V := hV ▸ (Below.refl _ _).alloc (Nat.le_refl _) _
  have hbV : Below w.heap.size w V := bel2 hb0 hbV0
  have hz : W0.heap.size = w.heap.size + 1 := by rw [hW0]; simp
  have HBV : Hid (Blk V (w.heap.size + 1) 24 (adr false z16)) := Lib.hid (hz ▸ hV ▸ Blk.new W0 _ _)
  have HR : Hid (Blk V w.heap.size 24 (adr false z16)) := Lib.hid (hB0.kept hbV0)
  have HbV := Lib.hid hbV
  have HL := Lib.hid hl
  have HC : Hid (∃ a, ad = some a ∧ ∀ j v, (l.map (Value.int .u8))[j]? = some v → V.cell? (a.add j) = some v) := Lib.hid (row_cells (fun j hj => by
    obtain ⟨g, o, e, h⟩ := hc j hj
    exact ⟨g, o, e, cell_kept h hbV⟩) (by omega))
  have HSp : Hid (splice (adr false z16).toList 1 (l.map (Value.int .u8)) = (adr false (pad16 l)).toList) := Lib.hid (splice_adr false l (by omega))
  obtain ⟨cs, hcs⟩ : ∃ cs, cs = l.map (Value.int .u8) := ⟨_, rfl⟩
  have Hn : Hid (cs.length = Nat.min 4 16) := Lib.hid (by rw [hcs, List.length_map, hl]; rfl)
  have H1 : Hid (∀ v ∈ cs, v.oneCell' = true) := Lib.hid (by rw [hcs]; exact bytes_one l)
  rw [← hcs] at HC HSp
  have L17 : Hid (17 = (adr false (pad16 l)).size) := Lib.hid (by rw [adr_size, pad16_length l (by omega)])
  have Hg : Hid (V.heap[(w.heap.size + 1)]? = some (.cells (adr false z16).toList.toArray 24 (0, 0))) := Lib.hid HBV.out
  clear hW0 hB0 hb0 hV hz hbV hbV0 hl hc hcs
  go_enter Tryz.func14, Tryz.ntmps14
  go_upto_region 5 with ((try rw [HW0.out]); ((show wpList _ _ _ (⟨some 22, _, _, _, _, _⟩ :: _) _ _); (try rw [HV.out]); go_must (refine wpList_copy_splice rfl (.tmp 20) (.tmp 21) 25 25 rfl 5 Tryz.underlying25 Tryz.oneU8x (some ⟨(w.heap.size + 1), 1, none⟩) ad 16 16 4 cap rfl rfl (w.heap.size + 1) 1 (adr false z16).toList 24 Hg.out cs Hn.out (fun _ => ⟨rfl, HC.out⟩) (by rw [Hn.out]; decide) H1.out (w.heap.size + 1) V (Below.refl _ _) (Nat.le_refl _) ?_; intro w2 HG2 hB2)))
  have HB2 : Hid (Blk w2 (w.heap.size + 1) 24 (adr false (pad16 l))) := Lib.hid (by
    have := HG2.out
    rw [HSp.out] at this
    exact this)
  have HR2 : Hid (Blk w2 w.heap.size 24 (adr false z16)) := Lib.hid (HR.out.below hB2 (by omega))
  have Hb2 : Hid (Below w.heap.size w w2) := Lib.hid (HbV.out.trans (hB2.mono (by omega)))
  clear HG2 hB2
  go_wp2_with (first | (refine wpl_load 24 _ rfl (w.heap.size + 1) rfl _ _ _ HB2.out Tryz.underlying24 rfl 17 Tryz.infoAddr L17.out rfl ?_) | (refine wpl_store 24 _ _ rfl w.heap.size (adr false (pad16 l)) rfl rfl _ _ HR2.out 17 Tryz.infoAddr L17.out rfl (adr_one _ _) rfl ?_))
  exact retA2 rfl w.heap.size rfl _ _ _ (HR2.out.row _) Tryz.underlying24 rfl 17 Tryz.infoAddr L17.out rfl _ rfl ⟨rfl, below_setRow Hb2.out (Nat.le_refl _) _⟩

set_option maxRecDepth 100000 in
set_option maxHeartbeats 1000000 in
theorem from_16 (ad : Option Addr) (cap : Nat) (l : List Int) (hl : l.length = 16) (w : World) (hc : ∀ j, j < l.length → ∃ g o, ad = some ⟨g, o, none⟩ ∧ w.cell? ⟨g, o + j, none⟩ = some (.int .u8 (l.getD j 0))) :
    Calls Tryz.prog 14 #[.slice ad 16 cap] w fun e w' => e = .returned (.tuple #[.agg (adr true (pad16 l)), .nilIface]) ∧ Below w.heap.size w w' := by
  obtain ⟨W0, hW0⟩ : ∃ W, W = w.alloc (.cells (adr false z16) 24) := ⟨_, rfl⟩
  have hB0 : Blk W0 w.heap.size 24 (adr false z16) := hW0 ▸ Blk.new w _ _
  have hb0 : Below w.heap.size w W0 := hW0 ▸ (Below.refl _ _).alloc (Nat.le_refl _) _
  have HW0 : Hid (w.alloc (.cells #[.bool false, .int .u8 0, .int .u8 0, .int .u8 0, .int .u8 0, .int .u8 0, .int .u8 0, .int .u8 0, .int .u8 0, .int .u8 0, .int .u8 0, .int .u8 0, .int .u8 0, .int .u8 0, .int .u8 0, .int .u8 0, .int .u8 0] 24) = W0) := Lib.hid hW0.symm
  obtain ⟨V, hV⟩ : ∃ W, W = W0.alloc (.cells (adr true z16) 24) := ⟨_, rfl⟩
  have HV : Hid (W0.alloc (.cells #[.bool true, .int .u8 0, .int .u8 0, .int .u8 0, .int .u8 0, .int .u8 0, .int .u8 0, .int .u8 0, .int .u8 0, .int .u8 0, .int .u8 0, .int .u8 0, .int .u8 0, .int .u8 0, .int .u8 0, .int .u8 0, .int .u8 0] 24) = V) := Lib.hid hV.symm
  have hbV0 : Below W0.heap.size W0 V := hV ▸ (Below.refl _ _).alloc (Nat.le_refl _) _
  have hbV : Below w.heap.size w V := bel2 hb0 hbV0
  have hz : W0.heap.size = w.heap.size + 1 := by rw [hW0]; simp
  have HBV : Hid (Blk V (w.heap.size + 1) 24 (adr true z16)) := Lib.hid (hz ▸ hV ▸ Blk.new W0 _ _)
  have HR : Hid (Blk V w.heap.size 24 (adr false z16)) := Lib.hid (hB0.kept hbV0)
  have HbV := Lib.hid hbV
  have HL := Lib.hid hl
  have HC : Hid (∃ a, ad = some a ∧ ∀ j v, (l.map (Value.int .u8))[j]? = some v → V.cell? (a.add j) = some v) := Lib.hid (row_cells (fun j hj => by
    obtain ⟨g, o, e, h⟩ := hc j hj
    exact ⟨g, o, e, cell_kept h hbV⟩) (by omega))
  have HSp : Hid (splice (adr true z16).toList 1 (l.map (Value.int .u8)) = (adr true (pad16 l)).toList) := Lib.hid (splice_adr true l (by omega))
  obtain ⟨cs, hcs⟩ : ∃ cs, cs = l.map (Value.int .u8) := ⟨_, rfl⟩
  have Hn : Hid (cs.length = Nat.min 16 16) := Lib.hid (by rw [hcs, List.length_map, hl]; rfl)
  have H1 : Hid (∀ v ∈ cs, v.oneCell' = true) := Lib.hid (by rw [hcs]; exact bytes_one l)
  rw [← hcs] at HC HSp
  have L17 : Hid (17 = (adr true (pad16 l)).size) := Lib.hid (by rw [adr_size, pad16_length l (by omega)])
  have Hg : Hid (V.heap[(w.heap.size + 1)]? = some (.cells (adr true z16).toList.toArray 24 (0, 0))) := Lib.hid HBV.out
  clear hW0 hB0 hb0 hV hz hbV hbV0 hl hc hcs
  go_enter Tryz.func14, Tryz.ntmps14
  go_upto_region 5 with ((try rw [HW0.out]); ((show wpList _ _ _ (⟨some 22, _, _, _, _, _⟩ :: _) _ _); (try rw [HV.out]); go_must (refine wpList_copy_splice rfl (.tmp 20) (.tmp 21) 25 25 rfl 5 Tryz.underlying25 Tryz.oneU8x (some ⟨(w.heap.size + 1), 1, none⟩) ad 16 16 16 cap rfl rfl (w.heap.size + 1) 1 (adr true z16).toList 24 Hg.out cs Hn.out (fun _ => ⟨rfl, HC.out⟩) (by rw [Hn.out]; decide) H1.out (w.heap.size + 1) V (Below.refl _ _) (Nat.le_refl _) ?_; intro w2 HG2 hB2)))
  have HB2 : Hid (Blk w2 (w.heap.size + 1) 24 (adr true (pad16 l))) := Lib.hid (by
    have := HG2.out
    rw [HSp.out] at this
    exact this)
  have HR2 : Hid (Blk w2 w.heap.size 24 (adr false z16)) := Lib.hid (HR.out.below hB2 (by omega))
  have Hb2 : Hid (Below w.heap.size w w2) := Lib.hid (HbV.out.trans (hB2.mono (by omega)))
  clear HG2 hB2
  go_wp2_with (first | (refine wpl_load 24 _ rfl (w.heap.size + 1) rfl _ _ _ HB2.out Tryz.underlying24 rfl 17 Tryz.infoAddr L17.out rfl ?_) | (refine wpl_store 24 _ _ rfl w.heap.size (adr true (pad16 l)) rfl rfl _ _ HR2.out 17 Tryz.infoAddr L17.out rfl (adr_one _ _) rfl ?_))
  exact retA2 rfl w.heap.size rfl _ _ _ (HR2.out.row _) Tryz.underlying24 rfl 17 Tryz.infoAddr L17.out rfl _ rfl ⟨rfl, below_setRow Hb2.out (Nat.le_refl _) _⟩

end Go.Proofs.YtnfkgoeocebenaaGreatDoor
