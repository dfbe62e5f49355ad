/-
  cidr.figures, Parse and Format, where they succeed.
-/
import Derived.Test.YtambnnahgbegfaaGreatDoorCcmp
import Derived.Test.YtambnnahgbegfaaGreatDoorNumr
namespace Go.Proofs.YtambnnahgbegfaaGreatDoor
open Go.RowKit

set_option maxRecDepth 100000 in
set_option maxHeartbeats 2000000 in
theorem figures_good (s : ByteArray) (hs : s.size ≤ 1000) (u : Nat) (h : Lib.parseUintB 8 s.data.toList = .ok u) (hu : u ≤ 128) (hz : ¬ (1 < s.data.toList.length ∧ s.data.toList.head? = some 48)) (w : World) :
    Calls Tryz.prog 59 #[.string s] w fun e w' => e = .returned (.tuple #[.int .i64 (u : Int), .bool true]) ∧ Below w.heap.size w w' := by
  have HP := Lib.hid (pu8_ok s (by omega) u h)
  have eu : IntKind.i64.wrap (u : Int) = (u : Int) := by simp only [IntKind.wrap, IntKind.signed, IntKind.bits]; simp; omega
  by_cases h1 : 1 < s.size
  · have h48' : ((s[0].toNat : Int) == 48) = false := by
      rw [beq_eq_false_iff_ne]
      intro e
      apply hz
      refine ⟨by rw [← Lib.size_eq]; exact h1, ?_⟩
      rw [head_at s h1]
      congr 1
      exact UInt8.toNat_inj.1 (by simpa using (Int.ofNat.inj e))
    clear hz h
    go_enter Tryz.func59, Tryz.ntmps59
    go_wp2_with fail
    refine (HP.out w).mono ?_
    rintro e w1 ⟨rfl, hb1⟩
    go_wp2
    go_ret2
    exact ⟨rfl, hb1⟩
  · clear hz h
    go_enter Tryz.func59, Tryz.ntmps59
    go_wp2_with fail
    refine (HP.out w).mono ?_
    rintro e w1 ⟨rfl, hb1⟩
    go_wp2
    go_ret2
    exact ⟨rfl, hb1⟩

set_option maxRecDepth 100000 in
set_option maxHeartbeats 4000000 in
theorem cparse_good (s hd tl : ByteArray) (sa : Bool) (ab : List Int) (hl : ab.length = 16) (n : Int) (E EA ER : Value) (w : World) (hE : Env E w) (hE3 : Env3 EA ER w)
    (cC : ∀ w, Env E w → Calls Tryz.prog 58 #[.string s, .string ⟨#[47]⟩] w fun e w' => e = .returned (.tuple #[.string hd, .string tl, .bool true]) ∧ Below w.heap.size w w')
    (cP : ∀ w, Env E w → Calls Tryz.prog 48 #[.string hd] w fun e w' => e = .returned (.tuple #[.agg (adr sa ab), .nilIface]) ∧ Below w.heap.size w w')
    (cF : ∀ w, Env E w → Calls Tryz.prog 59 #[.string tl] w fun e w' => e = .returned (.tuple #[.int .i64 n, .bool true]) ∧ Below w.heap.size w w')
    (cO : ∀ w, Env3 EA ER w → Calls Tryz.prog 36 #[.agg (adr sa ab), .int .i64 n] w fun e w' => e = .returned (.tuple #[.agg (cid sa ab n), .nilIface]) ∧ Below w.heap.size w w') :
    Calls Tryz.prog 24 #[.string s] w fun e w' => e = .returned (.tuple #[.agg (cid sa ab n), .nilIface]) ∧ Below w.heap.size w w' := by
  obtain ⟨W0, hW0⟩ : ∃ W, W = w.alloc (.cells (cid false z16 0) 48) := ⟨_, rfl⟩
  have hB0 : Blk W0 w.heap.size 48 (cid false z16 0) := hW0 ▸ Blk.new w _ _
  have hb0 : Below w.heap.size w W0 := hW0 ▸ (Below.refl _ _).alloc (Nat.le_refl _) _
  have HW0 : Hid (w.alloc (.cells #[.bool false, .int .u8 0, .int .u8 0, .int .u8 0, .int .u8 0, .int .u8 0, .int .u8 0, .int .u8 0, .int .u8 0, .int .u8 0, .int .u8 0, .int .u8 0, .int .u8 0, .int .u8 0, .int .u8 0, .int .u8 0, .int .u8 0, .int .i64 0] 48) = W0) := Lib.hid hW0.symm
  have HB0 := Lib.hid hB0
  have Hb0 := Lib.hid hb0
  have HE := Lib.hid hE
  have HE3 := Lib.hid hE3
  have CC := Lib.hid cC
  have CP := Lib.hid cP
  have CF := Lib.hid cF
  have CO := Lib.hid cO
  have L17 : Hid (17 = (adr sa ab).size) := Lib.hid (by rw [adr_size, hl])
  have L18 : Hid (18 = (cid sa ab n).size) := Lib.hid (by rw [cid_size, hl])
  have HL := Lib.hid hl
  have hq : ∀ w, (binOp .neq 24 (.agg (adr sa ab)) (.agg (adr sa ab))).run Tryz.prog w = .ok (.bool false) w := fun w => by
    rw [run_neq_struct, equalIn_adr 9997 sa sa ab ab hl hl, show ((sa == sa) && (ab == ab)) = true by simp]
    rfl
  clear hW0 hB0 hb0 hE hE3 cC cP cF cO hl
  go_enter Tryz.func24, Tryz.ntmps24
  go_wp2_with fail
  rw [HW0.out]
  refine (CC.out W0 (HE.out.kept Hb0.out)).mono ?_
  rintro e w1 ⟨rfl, hb1⟩
  have Hb1 := Lib.hid (bel2 Hb0.out hb1)
  have HB1 := Lib.hid (HB0.out.kept hb1)
  clear hb1
  go_wp2_with fail
  refine (CP.out w1 (HE.out.kept Hb1.out)).mono ?_
  rintro e w2 ⟨rfl, hb2⟩
  have Hb2 := Lib.hid (bel2 Hb1.out hb2)
  have HB2 := Lib.hid (HB1.out.kept hb2)
  obtain ⟨W3, hW3⟩ : ∃ W, W = w2.alloc (.cells (adr false z16) 24) := ⟨_, rfl⟩
  have hB3 : Blk W3 w2.heap.size 24 (adr false z16) := hW3 ▸ Blk.new w2 _ _
  have hb3 : Below w2.heap.size w2 W3 := hW3 ▸ (Below.refl _ _).alloc (Nat.le_refl _) _
  have HW3 : Hid (w2.alloc (.cells #[.bool false, .int .u8 0, .int .u8 0, .int .u8 0, .int .u8 0, .int .u8 0, .int .u8 0, .int .u8 0, .int .u8 0, .int .u8 0, .int .u8 0, .int .u8 0, .int .u8 0, .int .u8 0, .int .u8 0, .int .u8 0, .int .u8 0] 24) = W3) := Lib.hid hW3.symm
  have HB3 := Lib.hid hB3
  obtain ⟨V, hV⟩ : ∃ V, V = W3.setRow w2.heap.size (adr sa ab) := ⟨_, rfl⟩
  have HV := Lib.hid hV.symm
  have hsz : w.heap.size < w2.heap.size := HB2.out.lt
  have HBV : Hid (Blk V w2.heap.size 24 (adr sa ab)) := Lib.hid (hV ▸ hB3.row _)
  have HBR : Hid (Blk V w.heap.size 48 (cid false z16 0)) := Lib.hid (hV ▸ (HB2.out.kept hb3).rowOther (by omega) _)
  have HbV : Hid (Below w.heap.size w V) := Lib.hid (hV ▸ below_setRow (bel2 Hb2.out hb3) (by omega) _)
  clear hb2 hW3 hB3 hb3 hV
  go_wp2_with ((try rw [HW3.out]); refine wpl_store 24 _ _ rfl w2.heap.size (adr sa ab) rfl rfl _ _ HB3.out 17 Tryz.infoAddr L17.out rfl (adr_one _ _) rfl ?_; rw [HV.out])
  refine (CF.out V (HE.out.kept HbV.out)).mono ?_
  rintro e w4 ⟨rfl, hb4⟩
  have Hb4 := Lib.hid (bel2 HbV.out hb4)
  have HBA := Lib.hid (HBV.out.kept hb4)
  have HBR4 := Lib.hid (HBR.out.kept hb4)
  clear hb4
  go_wp2_with (refine wpl_load 24 _ rfl w2.heap.size rfl _ _ _ HBA.out Tryz.underlying24 rfl 17 Tryz.infoAddr L17.out rfl ?_)
  refine (CO.out w4 (HE3.out.kept Hb4.out)).mono ?_
  rintro e w5 ⟨rfl, hb5⟩
  have Hb5 := Lib.hid (bel2 Hb4.out hb5)
  have HBA5 := Lib.hid (HBA.out.kept hb5)
  have HBR5 := Lib.hid (HBR4.out.kept hb5)
  obtain ⟨W6, hW6⟩ : ∃ W, W = w5.alloc (.cells (cid false z16 0) 48) := ⟨_, rfl⟩
  have hB6 : Blk W6 w5.heap.size 48 (cid false z16 0) := hW6 ▸ Blk.new w5 _ _
  have hb6 : Below w5.heap.size w5 W6 := hW6 ▸ (Below.refl _ _).alloc (Nat.le_refl _) _
  have HW6 : Hid (w5.alloc (.cells #[.bool false, .int .u8 0, .int .u8 0, .int .u8 0, .int .u8 0, .int .u8 0, .int .u8 0, .int .u8 0, .int .u8 0, .int .u8 0, .int .u8 0, .int .u8 0, .int .u8 0, .int .u8 0, .int .u8 0, .int .u8 0, .int .u8 0, .int .i64 0] 48) = W6) := Lib.hid hW6.symm
  have HB6 := Lib.hid hB6
  obtain ⟨V7, hV7⟩ : ∃ V, V = W6.setRow w5.heap.size (cid sa ab n) := ⟨_, rfl⟩
  have HV7 := Lib.hid hV7.symm
  have hsz5 : w2.heap.size < w5.heap.size := HBA5.out.lt
  have HBC : Hid (Blk V7 w5.heap.size 48 (cid sa ab n)) := Lib.hid (hV7 ▸ hB6.row _)
  have HBA7 : Hid (Blk V7 w2.heap.size 24 (adr sa ab)) := Lib.hid (hV7 ▸ (HBA5.out.kept hb6).rowOther (by omega) _)
  have HBR7 : Hid (Blk V7 w.heap.size 48 (cid false z16 0)) := Lib.hid (hV7 ▸ (HBR5.out.kept hb6).rowOther (by omega) _)
  have Hb7 : Hid (Below w.heap.size w V7) := Lib.hid (hV7 ▸ below_setRow (bel2 Hb5.out hb6) (by omega) _)
  clear hb5 hW6 hB6 hb6 hV7
  go_wp2_with ((try rw [HW6.out]); first | (refine wpl_store 48 _ _ rfl w5.heap.size (cid sa ab n) rfl rfl _ _ HB6.out 18 Tryz.infoCidr L18.out rfl (cid_one _ _ _) rfl ?_; rw [HV7.out]) | (refine wpl_load_addr _ rfl w5.heap.size rfl sa ab n HBC.out HL.out rfl ?_) | (refine wpl_load 24 _ rfl w2.heap.size rfl _ _ _ HBA7.out Tryz.underlying24 rfl 17 Tryz.infoAddr L17.out rfl ?_) | (refine wpl_load 48 _ rfl w5.heap.size rfl _ _ _ HBC.out Tryz.underlying48 rfl 18 Tryz.infoCidr L18.out rfl ?_) | (refine wpl_store 48 _ _ rfl w.heap.size (cid sa ab n) rfl rfl _ _ HBR7.out 18 Tryz.infoCidr L18.out rfl (cid_one _ _ _) rfl ?_))
  exact retA2 rfl w.heap.size rfl _ _ _ (HBR7.out.row _) Tryz.underlying48 rfl 18 Tryz.infoCidr L18.out rfl _ rfl ⟨rfl, below_setRow Hb7.out (Nat.le_refl _) _⟩

set_option linter.unusedSimpArgs false in
set_option maxRecDepth 100000 in
set_option maxHeartbeats 4000000 in
theorem cformat_good (s : Bool) (b : List Int) (hl : b.length = 16) (n : Int) (T T1 D T2 : ByteArray) (E EA ER : Value) (w : World) (hE : Env E w) (hE3 : Env3 EA ER w)
    (cR : ∀ w, Env3 EA ER w → Calls Tryz.prog 26 #[.agg (cid s b n)] w fun e w' => e = .returned (.bool true) ∧ Below w.heap.size w w')
    (cF : ∀ w, Env E w → Calls Tryz.prog 49 #[.agg (adr s b)] w fun e w' => e = .returned (.string T) ∧ Below w.heap.size w w')
    (cI : ∀ w, Env E w → Calls Tryz.prog 62 #[.int .i64 n] w fun e w' => e = .returned (.string D) ∧ Below w.heap.size w w')
    (h1 : ∀ w', (Op.stringOp .add T ⟨#[47]⟩).run Tryz.prog w' = .ok (.string T1) w') (h2 : ∀ w', (Op.stringOp .add T1 D).run Tryz.prog w' = .ok (.string T2) w') :
    Calls Tryz.prog 28 #[.agg (cid s b n)] w fun e w' => e = .returned (.string T2) ∧ Below w.heap.size w w' := by
  obtain ⟨W0, hW0⟩ : ∃ W, W = w.alloc (.cells (cid s b n) 48) := ⟨_, rfl⟩
  have hB0 : Blk W0 w.heap.size 48 (cid s b n) := hW0 ▸ Blk.new w _ _
  have hb0 : Below w.heap.size w W0 := hW0 ▸ (Below.refl _ _).alloc (Nat.le_refl _) _
  have HW0 := Lib.hid hW0.symm
  have HB0 := Lib.hid hB0
  have Hb0 := Lib.hid hb0
  have HE := Lib.hid hE
  have HE3 := Lib.hid (hE3.kept hb0)
  have LB := Lib.hid hl
  have L18 : Hid (18 = (cid s b n).size) := Lib.hid (by rw [cid_size, hl])
  have CR := Lib.hid cR
  have CF := Lib.hid cF
  have CI := Lib.hid cI
  clear hW0 hB0 hb0 hl hE hE3 cR cF cI
  go_enter Tryz.func28, Tryz.ntmps28
  go_upto_region 1 with fail
  rw [HW0.out]
  go_wp2_with (refine wpl_load 48 _ rfl w.heap.size rfl _ _ _ HB0.out Tryz.underlying48 rfl 18 Tryz.infoCidr L18.out rfl ?_)
  refine (CR.out W0 HE3.out).mono ?_
  rintro e w1 ⟨rfl, hb1⟩
  have hS0 : Blk w1.drew (w.heap.size) 48 (cid s b n) ∧ Env E w1.drew ∧ Below w.heap.size w w1.drew := ⟨(HB0.out.kept hb1).kept (below_drewN w1 1), (HE.out.kept (bel2 Hb0.out hb1)).kept (below_drewN w1 1), bel2 (bel2 Hb0.out hb1) (below_drewN w1 1)⟩
  clear hb1
  go_wp2_with fail
  refine wp_region_held_drew (S := fun w' => Blk w' (w.heap.size) 48 (cid s b n) ∧ Env E w' ∧ Below w.heap.size w w') (by kernel_rfl) hS0 (fun hS => ?_)
  change wpAnyH _ _ _ _ _ 9 #[false, false, false, false, false, false, false, false, false] _ _
  refine wpAnyH_take (i := 0) (v := .pointer (some ⟨w.heap.size, 0, none⟩)) rfl (by kernel_rfl) (by kernel_rfl) (by kernel_rfl) (fun _ _ _ h => h) (.inl ⟨by kernel_rfl, fun w _ => by kernel_rfl⟩) hS ?_
  simp only [List.getElem_toArray, List.getElem_cons_zero, List.getElem_cons_succ, Act.put, List.setIfInBounds_toArray, List.set_cons_zero, List.set_cons_succ]
  refine wpAnyH_take (i := 1) (v := .agg (adr s b)) rfl (by kernel_rfl) (by kernel_rfl) (by kernel_rfl) (fun _ _ _ h => h) (yields_addr (.tmp 6) rfl (w.heap.size) (by kernel_rfl) s b n (fun w h => h.1) LB.out (by kernel_rfl)) hS ?_
  simp only [List.getElem_toArray, List.getElem_cons_zero, List.getElem_cons_succ, Act.put, List.setIfInBounds_toArray, List.set_cons_zero, List.set_cons_succ]
  refine wpAnyH_take (i := 4) (v := .pointer (some ⟨w.heap.size, 17, none⟩)) rfl (by kernel_rfl) (by kernel_rfl) (by kernel_rfl) (fun _ _ _ h => h) (.inl ⟨by kernel_rfl, fun w _ => by kernel_rfl⟩) hS ?_
  simp only [List.getElem_toArray, List.getElem_cons_zero, List.getElem_cons_succ, Act.put, List.setIfInBounds_toArray, List.set_cons_zero, List.set_cons_succ]
  refine wpAnyH_take (i := 5) (v := .int .i64 n) rfl (by kernel_rfl) (by kernel_rfl) (by kernel_rfl) (fun _ _ _ h => h) (yields_cell (.tmp 10) rfl (w.heap.size) 17 (by kernel_rfl) n (fun w h => cid_bitsCell h.1 LB.out) (by kernel_rfl)) hS ?_
  simp only [List.getElem_toArray, List.getElem_cons_zero, List.getElem_cons_succ, Act.put, List.setIfInBounds_toArray, List.set_cons_zero, List.set_cons_succ]
  refine wpAnyH_ready (rs := [2]) (by kernel_rfl) (by simp) ?_
  refine AllReadyH.cons rfl (fun K' hK => ?_) AllReadyH.nil
  refine step_call 49 #[.agg (adr s b)] (by kernel_rfl) (by kernel_rfl) (.string T) (CF.out _ hS.2.1) (fun w2 hb2 => hK.out _ _ (⟨hS.1.kept hb2, hS.2.1.kept hb2, bel2 hS.2.2 hb2⟩) (fun hS => ?_))
  simp only [List.getElem_toArray, List.getElem_cons_zero, List.getElem_cons_succ, Act.put, List.setIfInBounds_toArray, List.set_cons_zero, List.set_cons_succ]
  refine wpAnyH_take (i := 3) (v := .string T1) rfl (by kernel_rfl) (by kernel_rfl) (by kernel_rfl) (fun _ _ _ h => h) (.inl ⟨by kernel_rfl, fun w _ => exec_sadd 9 9 (.tmp 8) (.const (.string ⟨#[47]⟩)) rfl T ⟨#[47]⟩ T1 (by kernel_rfl) (by kernel_rfl) (h1 w)⟩) hS ?_
  simp only [List.getElem_toArray, List.getElem_cons_zero, List.getElem_cons_succ, Act.put, List.setIfInBounds_toArray, List.set_cons_zero, List.set_cons_succ]
  refine wpAnyH_ready (rs := [6]) (by kernel_rfl) (by simp) ?_
  refine AllReadyH.cons rfl (fun K' hK => ?_) AllReadyH.nil
  refine step_call 62 #[.int .i64 n] (by kernel_rfl) (by kernel_rfl) (.string D) (CI.out _ hS.2.1) (fun w3 hb3 => hK.out _ _ (⟨hS.1.kept hb3, hS.2.1.kept hb3, bel2 hS.2.2 hb3⟩) (fun hS => ?_))
  simp only [List.getElem_toArray, List.getElem_cons_zero, List.getElem_cons_succ, Act.put, List.setIfInBounds_toArray, List.set_cons_zero, List.set_cons_succ]
  refine wpAnyH_take (i := 7) (v := .string T2) rfl (by kernel_rfl) (by kernel_rfl) (by kernel_rfl) (fun _ _ _ h => h) (.inl ⟨by kernel_rfl, fun w _ => exec_sadd 9 9 (.tmp 9) (.tmp 12) rfl T1 D T2 (by kernel_rfl) (by kernel_rfl) (h2 w)⟩) hS ?_
  simp only [List.getElem_toArray, List.getElem_cons_zero, List.getElem_cons_succ, Act.put, List.setIfInBounds_toArray, List.set_cons_zero, List.set_cons_succ]
  refine wpAnyH_take (i := 8) (v := .string T2) rfl (by kernel_rfl) (by kernel_rfl) (by kernel_rfl) (fun _ _ _ h => h) (.inl ⟨by kernel_rfl, fun w _ => by kernel_rfl⟩) hS ?_
  simp only [List.getElem_toArray, List.getElem_cons_zero, List.getElem_cons_succ, Act.put, List.setIfInBounds_toArray, List.set_cons_zero, List.set_cons_succ]
  refine wpAnyH_done (by kernel_rfl) ?_ _
  obtain ⟨_, _, hbE⟩ := hS
  go_wp2
  go_ret
  exact ⟨rfl, hbE⟩
end Go.Proofs.YtambnnahgbegfaaGreatDoor
