/-
  cidr.Parse of every text, the document's Parse and Format, and the law CidrParses.
-/
import Derived.Test.YtambnnahgbegfaaGreatDoorQb
import Derived.Test.YtambnnahgbegfaaGreatDoorRpar
import Derived.Test.YtambnnahgbegfaaGreatDoorRsix
import Derived.Test.YtambnnahgbegfaaGreatDoorBack
namespace Go.Proofs.YtambnnahgbegfaaGreatDoor
open Go.RowKit
theorem exec_neq_self {P : Program} {a : Act} {w : World} {o : Oper} (t t' : TypeId) (x y : Operand) (ho : o.op = .binOp .neq t x y t') (n : Int) (hx : a.eval x = .int .i64 n) (hy : a.eval y = .int .i64 n) :
    (execOp a.eval o).run P w = .ok (.value (.bool false)) w := by
  unfold execOp
  simp only [ho, hx, hy, eqGuard, binOp]
  simp [go_sem]
theorem env3_of {a : Nat → Addr} {w : World} (h : Errs 18 a w) : Env3 (.iface 201 (.pointer (some (a 7)))) (.iface 201 (.pointer (some (a 0)))) w := ⟨h.cell 7 (by decide), h.cell 0 (by decide)⟩
end Go.Proofs.YtambnnahgbegfaaGreatDoor
namespace Go.Proofs.YtambnnahgbegfaaGreatDoor
open Go.RowKit

set_option maxRecDepth 100000 in
set_option maxHeartbeats 2000000 in
theorem figures_bad (s : ByteArray) (hs : s.size ≤ 1000) (E : Value) (w : World) (hE : Env E w)
    (h : (∀ u, Lib.parseUintB 8 s.data.toList ≠ .ok u) ∨ ∃ u, Lib.parseUintB 8 s.data.toList = .ok u ∧ u ≤ 255 ∧ (128 < u ∨ (1 < s.data.toList.length ∧ s.data.toList.head? = some 48))) :
    Calls Tryz.prog 59 #[.string s] w fun e w' => e = .returned (.tuple #[.int .i64 0, .bool false]) ∧ Below w.heap.size w w' := by
  rcases h with h | ⟨u, h, hu, h'⟩
  · have HP := Lib.hid (pu8_bad s (by omega) h E w hE)
    clear h hE
    go_enter Tryz.func59, Tryz.ntmps59
    go_wp2_with fail
    refine HP.out.mono ?_
    rintro e w1 ⟨v, p, rfl, hb1⟩
    go_wp2
    go_ret2
    exact ⟨rfl, hb1⟩
  · have HP := Lib.hid (pu8_ok s (by omega) u h)
    clear h hE
    by_cases h1 : 128 < u
    · clear h'
      go_enter Tryz.func59, Tryz.ntmps59
      go_wp2_with fail
      refine (HP.out w).mono ?_
      rintro e w1 ⟨rfl, hb1⟩
      go_wp2
      go_ret2
      exact ⟨rfl, hb1⟩
    · have hz : 1 < s.data.toList.length ∧ s.data.toList.head? = some 48 := by
        rcases h' with h' | h'
        · exact absurd h' h1
        · exact h'
      have hs1 : 1 < s.size := by rw [Lib.size_eq]; exact hz.1
      have h48 : s[0] = 48 := by
        have := head_at s hs1
        rw [hz.2] at this
        exact (Option.some.inj this).symm
      have h48' : ((s[0].toNat : Int) == 48) = true := by rw [h48]; rfl
      clear h' hz h48
      go_enter Tryz.func59, Tryz.ntmps59
      go_wp2_with fail
      refine (HP.out w).mono ?_
      rintro e w1 ⟨rfl, hb1⟩
      go_wp2
      go_ret2
      exact ⟨rfl, hb1⟩

set_option maxRecDepth 100000 in
set_option maxHeartbeats 4000000 in
theorem cparse_cut (s hd tl : ByteArray) (sa : Bool) (ab : List Int) (hl : ab.length = 16) (n : Int) (ok : Bool) (E Ea : Value) (w : World) (hE : Env E w) 
    (cC : ∀ w, Env E w → Calls Tryz.prog 58 #[.string s, .string ⟨#[47]⟩] w fun e w' => e = .returned (.tuple #[.string hd, .string tl, .bool false]) ∧ Below w.heap.size w w')
    (cP : ∀ w, Env E w → Calls Tryz.prog 48 #[.string hd] w fun e w' => e = .returned (.tuple #[.agg (adr sa ab), Ea]) ∧ Below w.heap.size w w')
    (cF : ∀ w, Env E w → Calls Tryz.prog 59 #[.string tl] w fun e w' => e = .returned (.tuple #[.int .i64 n, .bool ok]) ∧ Below w.heap.size w w') :
    Calls Tryz.prog 24 #[.string s] w fun e w' => e = .returned (.tuple #[.agg (cid false z16 0), E]) ∧ Below w.heap.size w w' := by
  obtain ⟨W0, hW0⟩ : ∃ W, W = w.alloc (.cells (cid false z16 0) 48) := ⟨_, rfl⟩
  have hB0 : Blk W0 w.heap.size 48 (cid false z16 0) := hW0 ▸ Blk.new w _ _
  have hb0 : Below w.heap.size w W0 := hW0 ▸ (Below.refl _ _).alloc (Nat.le_refl _) _
  have HW0 : Hid (w.alloc (.cells #[.bool false, .int .u8 0, .int .u8 0, .int .u8 0, .int .u8 0, .int .u8 0, .int .u8 0, .int .u8 0, .int .u8 0, .int .u8 0, .int .u8 0, .int .u8 0, .int .u8 0, .int .u8 0, .int .u8 0, .int .u8 0, .int .u8 0, .int .i64 0] 48) = W0) := Lib.hid hW0.symm
  have HB0 := Lib.hid hB0
  have Hb0 := Lib.hid hb0
  have HE := Lib.hid hE
  have CC := Lib.hid cC
  have CP := Lib.hid cP
  have CF := Lib.hid cF
  have L17 : Hid (17 = (adr sa ab).size) := Lib.hid (by rw [adr_size, hl])
  have HF : Hid (w.cell? ⟨0, 0, none⟩ = some E) := Lib.hid hE.form
  clear hW0 hB0 hb0 hE cC cP cF hl
  go_enter Tryz.func24, Tryz.ntmps24
  go_wp2_with fail
  rw [HW0.out]
  refine (CC.out W0 (HE.out.kept Hb0.out)).mono ?_
  rintro e w1 ⟨rfl, hb1⟩
  have Hb1 := Lib.hid (bel2 Hb0.out hb1)
  have HB1 := Lib.hid (HB0.out.kept hb1)
  clear hb1
  go_wp2_with fail
  refine (CP.out w1 (HE.out.kept Hb1.out)).mono ?_
  rintro e w2 ⟨rfl, hb2⟩
  have Hb2 := Lib.hid (bel2 Hb1.out hb2)
  have HB2 := Lib.hid (HB1.out.kept hb2)
  obtain ⟨W3, hW3⟩ : ∃ W, W = w2.alloc (.cells (adr false z16) 24) := ⟨_, rfl⟩
  have hB3 : Blk W3 w2.heap.size 24 (adr false z16) := hW3 ▸ Blk.new w2 _ _
  have hb3 : Below w2.heap.size w2 W3 := hW3 ▸ (Below.refl _ _).alloc (Nat.le_refl _) _
  have HW3 : Hid (w2.alloc (.cells #[.bool false, .int .u8 0, .int .u8 0, .int .u8 0, .int .u8 0, .int .u8 0, .int .u8 0, .int .u8 0, .int .u8 0, .int .u8 0, .int .u8 0, .int .u8 0, .int .u8 0, .int .u8 0, .int .u8 0, .int .u8 0, .int .u8 0] 24) = W3) := Lib.hid hW3.symm
  have HB3 := Lib.hid hB3
  obtain ⟨V, hV⟩ : ∃ V, V = W3.setRow w2.heap.size (adr sa ab) := ⟨_, rfl⟩
  have HV := Lib.hid hV.symm
  have hsz : w.heap.size < w2.heap.size := HB2.out.lt
  have HBV : Hid (Blk V w2.heap.size 24 (adr sa ab)) := Lib.hid (hV ▸ hB3.row _)
  have HBR : Hid (Blk V w.heap.size 48 (cid false z16 0)) := Lib.hid (hV ▸ (HB2.out.kept hb3).rowOther (by omega) _)
  have HbV : Hid (Below w.heap.size w V) := Lib.hid (hV ▸ below_setRow (bel2 Hb2.out hb3) (by omega) _)
  clear hb2 hW3 hB3 hb3 hV
  go_wp2_with ((try rw [HW3.out]); refine wpl_store 24 _ _ rfl w2.heap.size (adr sa ab) rfl rfl _ _ HB3.out 17 Tryz.infoAddr L17.out rfl (adr_one _ _) rfl ?_; rw [HV.out])
  refine (CF.out V (HE.out.kept HbV.out)).mono ?_
  rintro e w4 ⟨rfl, hb4⟩
  have Hb4 := Lib.hid (bel2 HbV.out hb4)
  have HBR4 := Lib.hid (HBR.out.kept hb4)
  clear hb4
  go_wp2_with fail
  obtain ⟨wx, hwx⟩ : ∃ wx, wx = w4 := ⟨_, rfl⟩
  have HBx : Hid (Blk wx w.heap.size 48 (cid false z16 0)) := Lib.hid (hwx ▸ HBR4.out)
  have Hbx : Hid (Below w.heap.size w wx) := Lib.hid (hwx ▸ Hb4.out)
  rw [← hwx]
  clear hwx
  obtain ⟨V9, hV9⟩ : ∃ V, V = wx := ⟨_, rfl⟩
  have hB5d : Blk V9.drew w.heap.size 48 (cid false z16 0) := hV9 ▸ HBx.out.kept (below_drewN wx 1)
  have HB5d := Lib.hid hB5d
  have HbQ : Hid (Below w.heap.size w V9) := Lib.hid (hV9 ▸ Hbx.out)
  have hform : V9.cell? ⟨0, 0, none⟩ = some E := cell_kept HF.out HbQ.out
  have hform2 : (V9.drew.setRow w.heap.size (cid false z16 0)).cell? ⟨0, 0, none⟩ = some E := cell_kept HF.out (below_setRow (bel2 HbQ.out (below_drewN V9 1)) (Nat.le_refl _) _)
  rw [← hV9]
  clear hV9 hB5d
  refine wp_region_any (by kernel_rfl) ?_
  change wpAny _ _ _ _ _ _ _ (World.drew _)
  refine wpAny_take (i := 0) (v := .agg (cid false z16 0)) rfl (by kernel_rfl) (by kernel_rfl) (by kernel_rfl) (fun _ _ _ h => h) (Or.inl ⟨by rfl, fun w => by kernel_rfl⟩) ?_
  refine wpAny_ready (rs := [1, 2]) (by kernel_rfl) (by simp) ?_
  refine AllReady.cons rfl (fun K hK => ?_) (AllReady.cons rfl (fun K hK => ?_) AllReady.nil)
  · refine step_run E V9.drew (by go_simp) rfl (hK _ _ ?_)
    refine wpAny_ready (rs := [2]) (by kernel_rfl) (by simp) ?_
    refine AllReady.cons rfl (fun K hK => ?_) AllReady.nil
    refine step_store 48 (.tmp 2) (.tmp 38) rfl w.heap.size (cid false z16 0) rfl rfl 48 (cid false z16 0) HB5d.out 18 Tryz.infoCidr rfl rfl (cid_one _ _ _) rfl (hK _ _ ?_)
    refine wpAny_ready (rs := [3]) (by kernel_rfl) (by simp) ?_
    refine AllReady.cons rfl (fun K hK => ?_) AllReady.nil
    refine step_run E _ rfl rfl (hK _ _ ?_)
    refine wpAny_done (by kernel_rfl) ?_ _
    go_wp2
    exact retA2 rfl w.heap.size rfl _ _ _ (HB5d.out.row _) Tryz.underlying48 rfl 18 Tryz.infoCidr rfl rfl _ rfl ⟨rfl, below_setRow (bel2 HbQ.out (below_drewN V9 1)) (Nat.le_refl _) _⟩
  · refine step_store 48 (.tmp 2) (.tmp 38) rfl w.heap.size (cid false z16 0) rfl rfl 48 (cid false z16 0) HB5d.out 18 Tryz.infoCidr rfl rfl (cid_one _ _ _) rfl (hK _ _ ?_)
    refine wpAny_ready (rs := [1]) (by kernel_rfl) (by simp) ?_
    refine AllReady.cons rfl (fun K hK => ?_) AllReady.nil
    refine step_run E (V9.drew.setRow w.heap.size (cid false z16 0)) (by go_simp) rfl (hK _ _ ?_)
    refine wpAny_ready (rs := [3]) (by kernel_rfl) (by simp) ?_
    refine AllReady.cons rfl (fun K hK => ?_) AllReady.nil
    refine step_run E _ rfl rfl (hK _ _ ?_)
    refine wpAny_done (by kernel_rfl) ?_ _
    go_wp2
    exact retA2 rfl w.heap.size rfl _ _ _ (HB5d.out.row _) Tryz.underlying48 rfl 18 Tryz.infoCidr rfl rfl _ rfl ⟨rfl, below_setRow (bel2 HbQ.out (below_drewN V9 1)) (Nat.le_refl _) _⟩

set_option maxRecDepth 100000 in
set_option maxHeartbeats 4000000 in
theorem cparse_ad (s hd tl : ByteArray) (sa : Bool) (ab : List Int) (hl : ab.length = 16) (n : Int) (ok : Bool) (ue : TypeId) (pe : Value) (E : Value) (w : World) (hE : Env E w) 
    (cC : ∀ w, Env E w → Calls Tryz.prog 58 #[.string s, .string ⟨#[47]⟩] w fun e w' => e = .returned (.tuple #[.string hd, .string tl, .bool true]) ∧ Below w.heap.size w w')
    (cP : ∀ w, Env E w → Calls Tryz.prog 48 #[.string hd] w fun e w' => e = .returned (.tuple #[.agg (adr sa ab), .iface ue pe]) ∧ Below w.heap.size w w')
    (cF : ∀ w, Env E w → Calls Tryz.prog 59 #[.string tl] w fun e w' => e = .returned (.tuple #[.int .i64 n, .bool ok]) ∧ Below w.heap.size w w') :
    Calls Tryz.prog 24 #[.string s] w fun e w' => e = .returned (.tuple #[.agg (cid false z16 0), E]) ∧ Below w.heap.size w w' := by
  obtain ⟨W0, hW0⟩ : ∃ W, W = w.alloc (.cells (cid false z16 0) 48) := ⟨_, rfl⟩
  have hB0 : Blk W0 w.heap.size 48 (cid false z16 0) := hW0 ▸ Blk.new w _ _
  have hb0 : Below w.heap.size w W0 := hW0 ▸ (Below.refl _ _).alloc (Nat.le_refl _) _
  have HW0 : Hid (w.alloc (.cells #[.bool false, .int .u8 0, .int .u8 0, .int .u8 0, .int .u8 0, .int .u8 0, .int .u8 0, .int .u8 0, .int .u8 0, .int .u8 0, .int .u8 0, .int .u8 0, .int .u8 0, .int .u8 0, .int .u8 0, .int .u8 0, .int .u8 0, .int .i64 0] 48) = W0) := Lib.hid hW0.symm
  have HB0 := Lib.hid hB0
  have Hb0 := Lib.hid hb0
  have HE := Lib.hid hE
  have CC := Lib.hid cC
  have CP := Lib.hid cP
  have CF := Lib.hid cF
  have L17 : Hid (17 = (adr sa ab).size) := Lib.hid (by rw [adr_size, hl])
  have HF : Hid (w.cell? ⟨0, 0, none⟩ = some E) := Lib.hid hE.form
  clear hW0 hB0 hb0 hE cC cP cF hl
  go_enter Tryz.func24, Tryz.ntmps24
  go_wp2_with fail
  rw [HW0.out]
  refine (CC.out W0 (HE.out.kept Hb0.out)).mono ?_
  rintro e w1 ⟨rfl, hb1⟩
  have Hb1 := Lib.hid (bel2 Hb0.out hb1)
  have HB1 := Lib.hid (HB0.out.kept hb1)
  clear hb1
  go_wp2_with fail
  refine (CP.out w1 (HE.out.kept Hb1.out)).mono ?_
  rintro e w2 ⟨rfl, hb2⟩
  have Hb2 := Lib.hid (bel2 Hb1.out hb2)
  have HB2 := Lib.hid (HB1.out.kept hb2)
  obtain ⟨W3, hW3⟩ : ∃ W, W = w2.alloc (.cells (adr false z16) 24) := ⟨_, rfl⟩
  have hB3 : Blk W3 w2.heap.size 24 (adr false z16) := hW3 ▸ Blk.new w2 _ _
  have hb3 : Below w2.heap.size w2 W3 := hW3 ▸ (Below.refl _ _).alloc (Nat.le_refl _) _
  have HW3 : Hid (w2.alloc (.cells #[.bool false, .int .u8 0, .int .u8 0, .int .u8 0, .int .u8 0, .int .u8 0, .int .u8 0, .int .u8 0, .int .u8 0, .int .u8 0, .int .u8 0, .int .u8 0, .int .u8 0, .int .u8 0, .int .u8 0, .int .u8 0, .int .u8 0] 24) = W3) := Lib.hid hW3.symm
  have HB3 := Lib.hid hB3
  obtain ⟨V, hV⟩ : ∃ V, V = W3.setRow w2.heap.size (adr sa ab) := ⟨_, rfl⟩
  have HV := Lib.hid hV.symm
  have hsz : w.heap.size < w2.heap.size := HB2.out.lt
  have HBV : Hid (Blk V w2.heap.size 24 (adr sa ab)) := Lib.hid (hV ▸ hB3.row _)
  have HBR : Hid (Blk V w.heap.size 48 (cid false z16 0)) := Lib.hid (hV ▸ (HB2.out.kept hb3).rowOther (by omega) _)
  have HbV : Hid (Below w.heap.size w V) := Lib.hid (hV ▸ below_setRow (bel2 Hb2.out hb3) (by omega) _)
  clear hb2 hW3 hB3 hb3 hV
  go_wp2_with ((try rw [HW3.out]); refine wpl_store 24 _ _ rfl w2.heap.size (adr sa ab) rfl rfl _ _ HB3.out 17 Tryz.infoAddr L17.out rfl (adr_one _ _) rfl ?_; rw [HV.out])
  refine (CF.out V (HE.out.kept HbV.out)).mono ?_
  rintro e w4 ⟨rfl, hb4⟩
  have Hb4 := Lib.hid (bel2 HbV.out hb4)
  have HBR4 := Lib.hid (HBR.out.kept hb4)
  clear hb4
  go_wp2_with fail
  obtain ⟨wx, hwx⟩ : ∃ wx, wx = w4 := ⟨_, rfl⟩
  have HBx : Hid (Blk wx w.heap.size 48 (cid false z16 0)) := Lib.hid (hwx ▸ HBR4.out)
  have Hbx : Hid (Below w.heap.size w wx) := Lib.hid (hwx ▸ Hb4.out)
  rw [← hwx]
  clear hwx
  obtain ⟨V9, hV9⟩ : ∃ V, V = wx := ⟨_, rfl⟩
  have hB5d : Blk V9.drew w.heap.size 48 (cid false z16 0) := hV9 ▸ HBx.out.kept (below_drewN wx 1)
  have HB5d := Lib.hid hB5d
  have HbQ : Hid (Below w.heap.size w V9) := Lib.hid (hV9 ▸ Hbx.out)
  have hform : V9.cell? ⟨0, 0, none⟩ = some E := cell_kept HF.out HbQ.out
  have hform2 : (V9.drew.setRow w.heap.size (cid false z16 0)).cell? ⟨0, 0, none⟩ = some E := cell_kept HF.out (below_setRow (bel2 HbQ.out (below_drewN V9 1)) (Nat.le_refl _) _)
  rw [← hV9]
  clear hV9 hB5d
  refine wp_region_any (by kernel_rfl) ?_
  change wpAny _ _ _ _ _ _ _ (World.drew _)
  refine wpAny_take (i := 0) (v := .agg (cid false z16 0)) rfl (by kernel_rfl) (by kernel_rfl) (by kernel_rfl) (fun _ _ _ h => h) (Or.inl ⟨by rfl, fun w => by kernel_rfl⟩) ?_
  refine wpAny_ready (rs := [1, 2]) (by kernel_rfl) (by simp) ?_
  refine AllReady.cons rfl (fun K hK => ?_) (AllReady.cons rfl (fun K hK => ?_) AllReady.nil)
  · refine step_run E V9.drew (by go_simp) rfl (hK _ _ ?_)
    refine wpAny_ready (rs := [2]) (by kernel_rfl) (by simp) ?_
    refine AllReady.cons rfl (fun K hK => ?_) AllReady.nil
    refine step_store 48 (.tmp 2) (.tmp 38) rfl w.heap.size (cid false z16 0) rfl rfl 48 (cid false z16 0) HB5d.out 18 Tryz.infoCidr rfl rfl (cid_one _ _ _) rfl (hK _ _ ?_)
    refine wpAny_ready (rs := [3]) (by kernel_rfl) (by simp) ?_
    refine AllReady.cons rfl (fun K hK => ?_) AllReady.nil
    refine step_run E _ rfl rfl (hK _ _ ?_)
    refine wpAny_done (by kernel_rfl) ?_ _
    go_wp2
    exact retA2 rfl w.heap.size rfl _ _ _ (HB5d.out.row _) Tryz.underlying48 rfl 18 Tryz.infoCidr rfl rfl _ rfl ⟨rfl, below_setRow (bel2 HbQ.out (below_drewN V9 1)) (Nat.le_refl _) _⟩
  · refine step_store 48 (.tmp 2) (.tmp 38) rfl w.heap.size (cid false z16 0) rfl rfl 48 (cid false z16 0) HB5d.out 18 Tryz.infoCidr rfl rfl (cid_one _ _ _) rfl (hK _ _ ?_)
    refine wpAny_ready (rs := [1]) (by kernel_rfl) (by simp) ?_
    refine AllReady.cons rfl (fun K hK => ?_) AllReady.nil
    refine step_run E (V9.drew.setRow w.heap.size (cid false z16 0)) (by go_simp) rfl (hK _ _ ?_)
    refine wpAny_ready (rs := [3]) (by kernel_rfl) (by simp) ?_
    refine AllReady.cons rfl (fun K hK => ?_) AllReady.nil
    refine step_run E _ rfl rfl (hK _ _ ?_)
    refine wpAny_done (by kernel_rfl) ?_ _
    go_wp2
    exact retA2 rfl w.heap.size rfl _ _ _ (HB5d.out.row _) Tryz.underlying48 rfl 18 Tryz.infoCidr rfl rfl _ rfl ⟨rfl, below_setRow (bel2 HbQ.out (below_drewN V9 1)) (Nat.le_refl _) _⟩

set_option maxRecDepth 100000 in
set_option maxHeartbeats 4000000 in
theorem cparse_fig (s hd tl : ByteArray) (sa : Bool) (ab : List Int) (hl : ab.length = 16) (n : Int) (E : Value) (w : World) (hE : Env E w) 
    (cC : ∀ w, Env E w → Calls Tryz.prog 58 #[.string s, .string ⟨#[47]⟩] w fun e w' => e = .returned (.tuple #[.string hd, .string tl, .bool true]) ∧ Below w.heap.size w w')
    (cP : ∀ w, Env E w → Calls Tryz.prog 48 #[.string hd] w fun e w' => e = .returned (.tuple #[.agg (adr sa ab), .nilIface]) ∧ Below w.heap.size w w')
    (cF : ∀ w, Env E w → Calls Tryz.prog 59 #[.string tl] w fun e w' => e = .returned (.tuple #[.int .i64 n, .bool false]) ∧ Below w.heap.size w w') :
    Calls Tryz.prog 24 #[.string s] w fun e w' => e = .returned (.tuple #[.agg (cid false z16 0), E]) ∧ Below w.heap.size w w' := by
  obtain ⟨W0, hW0⟩ : ∃ W, W = w.alloc (.cells (cid false z16 0) 48) := ⟨_, rfl⟩
  have hB0 : Blk W0 w.heap.size 48 (cid false z16 0) := hW0 ▸ Blk.new w _ _
  have hb0 : Below w.heap.size w W0 := hW0 ▸ (Below.refl _ _).alloc (Nat.le_refl _) _
  have HW0 : Hid (w.alloc (.cells #[.bool false, .int .u8 0, .int .u8 0, .int .u8 0, .int .u8 0, .int .u8 0, .int .u8 0, .int .u8 0, .int .u8 0, .int .u8 0, .int .u8 0, .int .u8 0, .int .u8 0, .int .u8 0, .int .u8 0, .int .u8 0, .int .u8 0, .int .i64 0] 48) = W0) := Lib.hid hW0.symm
  have HB0 := Lib.hid hB0
  have Hb0 := Lib.hid hb0
  have HE := Lib.hid hE
  have CC := Lib.hid cC
  have CP := Lib.hid cP
  have CF := Lib.hid cF
  have L17 : Hid (17 = (adr sa ab).size) := Lib.hid (by rw [adr_size, hl])
  have HF : Hid (w.cell? ⟨0, 0, none⟩ = some E) := Lib.hid hE.form
  clear hW0 hB0 hb0 hE cC cP cF hl
  go_enter Tryz.func24, Tryz.ntmps24
  go_wp2_with fail
  rw [HW0.out]
  refine (CC.out W0 (HE.out.kept Hb0.out)).mono ?_
  rintro e w1 ⟨rfl, hb1⟩
  have Hb1 := Lib.hid (bel2 Hb0.out hb1)
  have HB1 := Lib.hid (HB0.out.kept hb1)
  clear hb1
  go_wp2_with fail
  refine (CP.out w1 (HE.out.kept Hb1.out)).mono ?_
  rintro e w2 ⟨rfl, hb2⟩
  have Hb2 := Lib.hid (bel2 Hb1.out hb2)
  have HB2 := Lib.hid (HB1.out.kept hb2)
  obtain ⟨W3, hW3⟩ : ∃ W, W = w2.alloc (.cells (adr false z16) 24) := ⟨_, rfl⟩
  have hB3 : Blk W3 w2.heap.size 24 (adr false z16) := hW3 ▸ Blk.new w2 _ _
  have hb3 : Below w2.heap.size w2 W3 := hW3 ▸ (Below.refl _ _).alloc (Nat.le_refl _) _
  have HW3 : Hid (w2.alloc (.cells #[.bool false, .int .u8 0, .int .u8 0, .int .u8 0, .int .u8 0, .int .u8 0, .int .u8 0, .int .u8 0, .int .u8 0, .int .u8 0, .int .u8 0, .int .u8 0, .int .u8 0, .int .u8 0, .int .u8 0, .int .u8 0, .int .u8 0] 24) = W3) := Lib.hid hW3.symm
  have HB3 := Lib.hid hB3
  obtain ⟨V, hV⟩ : ∃ V, V = W3.setRow w2.heap.size (adr sa ab) := ⟨_, rfl⟩
  have HV := Lib.hid hV.symm
  have hsz : w.heap.size < w2.heap.size := HB2.out.lt
  have HBV : Hid (Blk V w2.heap.size 24 (adr sa ab)) := Lib.hid (hV ▸ hB3.row _)
  have HBR : Hid (Blk V w.heap.size 48 (cid false z16 0)) := Lib.hid (hV ▸ (HB2.out.kept hb3).rowOther (by omega) _)
  have HbV : Hid (Below w.heap.size w V) := Lib.hid (hV ▸ below_setRow (bel2 Hb2.out hb3) (by omega) _)
  clear hb2 hW3 hB3 hb3 hV
  go_wp2_with ((try rw [HW3.out]); refine wpl_store 24 _ _ rfl w2.heap.size (adr sa ab) rfl rfl _ _ HB3.out 17 Tryz.infoAddr L17.out rfl (adr_one _ _) rfl ?_; rw [HV.out])
  refine (CF.out V (HE.out.kept HbV.out)).mono ?_
  rintro e w4 ⟨rfl, hb4⟩
  have Hb4 := Lib.hid (bel2 HbV.out hb4)
  have HBR4 := Lib.hid (HBR.out.kept hb4)
  clear hb4
  go_wp2_with fail
  obtain ⟨wx, hwx⟩ : ∃ wx, wx = w4 := ⟨_, rfl⟩
  have HBx : Hid (Blk wx w.heap.size 48 (cid false z16 0)) := Lib.hid (hwx ▸ HBR4.out)
  have Hbx : Hid (Below w.heap.size w wx) := Lib.hid (hwx ▸ Hb4.out)
  rw [← hwx]
  clear hwx
  obtain ⟨V9, hV9⟩ : ∃ V, V = wx := ⟨_, rfl⟩
  have hB5d : Blk V9.drew w.heap.size 48 (cid false z16 0) := hV9 ▸ HBx.out.kept (below_drewN wx 1)
  have HB5d := Lib.hid hB5d
  have HbQ : Hid (Below w.heap.size w V9) := Lib.hid (hV9 ▸ Hbx.out)
  have hform : V9.cell? ⟨0, 0, none⟩ = some E := cell_kept HF.out HbQ.out
  have hform2 : (V9.drew.setRow w.heap.size (cid false z16 0)).cell? ⟨0, 0, none⟩ = some E := cell_kept HF.out (below_setRow (bel2 HbQ.out (below_drewN V9 1)) (Nat.le_refl _) _)
  rw [← hV9]
  clear hV9 hB5d
  refine wp_region_any (by kernel_rfl) ?_
  change wpAny _ _ _ _ _ _ _ (World.drew _)
  refine wpAny_take (i := 0) (v := .agg (cid false z16 0)) rfl (by kernel_rfl) (by kernel_rfl) (by kernel_rfl) (fun _ _ _ h => h) (Or.inl ⟨by rfl, fun w => by kernel_rfl⟩) ?_
  refine wpAny_ready (rs := [1, 2]) (by kernel_rfl) (by simp) ?_
  refine AllReady.cons rfl (fun K hK => ?_) (AllReady.cons rfl (fun K hK => ?_) AllReady.nil)
  · refine step_run E V9.drew (by go_simp) rfl (hK _ _ ?_)
    refine wpAny_ready (rs := [2]) (by kernel_rfl) (by simp) ?_
    refine AllReady.cons rfl (fun K hK => ?_) AllReady.nil
    refine step_store 48 (.tmp 2) (.tmp 38) rfl w.heap.size (cid false z16 0) rfl rfl 48 (cid false z16 0) HB5d.out 18 Tryz.infoCidr rfl rfl (cid_one _ _ _) rfl (hK _ _ ?_)
    refine wpAny_ready (rs := [3]) (by kernel_rfl) (by simp) ?_
    refine AllReady.cons rfl (fun K hK => ?_) AllReady.nil
    refine step_run E _ rfl rfl (hK _ _ ?_)
    refine wpAny_done (by kernel_rfl) ?_ _
    go_wp2
    exact retA2 rfl w.heap.size rfl _ _ _ (HB5d.out.row _) Tryz.underlying48 rfl 18 Tryz.infoCidr rfl rfl _ rfl ⟨rfl, below_setRow (bel2 HbQ.out (below_drewN V9 1)) (Nat.le_refl _) _⟩
  · refine step_store 48 (.tmp 2) (.tmp 38) rfl w.heap.size (cid false z16 0) rfl rfl 48 (cid false z16 0) HB5d.out 18 Tryz.infoCidr rfl rfl (cid_one _ _ _) rfl (hK _ _ ?_)
    refine wpAny_ready (rs := [1]) (by kernel_rfl) (by simp) ?_
    refine AllReady.cons rfl (fun K hK => ?_) AllReady.nil
    refine step_run E (V9.drew.setRow w.heap.size (cid false z16 0)) (by go_simp) rfl (hK _ _ ?_)
    refine wpAny_ready (rs := [3]) (by kernel_rfl) (by simp) ?_
    refine AllReady.cons rfl (fun K hK => ?_) AllReady.nil
    refine step_run E _ rfl rfl (hK _ _ ?_)
    refine wpAny_done (by kernel_rfl) ?_ _
    go_wp2
    exact retA2 rfl w.heap.size rfl _ _ _ (HB5d.out.row _) Tryz.underlying48 rfl 18 Tryz.infoCidr rfl rfl _ rfl ⟨rfl, below_setRow (bel2 HbQ.out (below_drewN V9 1)) (Nat.le_refl _) _⟩

end Go.Proofs.YtambnnahgbegfaaGreatDoor
namespace Go.Proofs.YtambnnahgbegfaaGreatDoor
open Go.RowKit

set_option maxRecDepth 100000 in
set_option maxHeartbeats 4000000 in
theorem cparse_of (s hd tl : ByteArray) (sa : Bool) (ab : List Int) (hl : ab.length = 16) (n : Int) (ue : TypeId) (pe : Value) (E EA ER : Value) (w : World) (hE : Env E w) (hE3 : Env3 EA ER w)
    (cC : ∀ w, Env E w → Calls Tryz.prog 58 #[.string s, .string ⟨#[47]⟩] w fun e w' => e = .returned (.tuple #[.string hd, .string tl, .bool true]) ∧ Below w.heap.size w w')
    (cP : ∀ w, Env E w → Calls Tryz.prog 48 #[.string hd] w fun e w' => e = .returned (.tuple #[.agg (adr sa ab), .nilIface]) ∧ Below w.heap.size w w')
    (cF : ∀ w, Env E w → Calls Tryz.prog 59 #[.string tl] w fun e w' => e = .returned (.tuple #[.int .i64 n, .bool true]) ∧ Below w.heap.size w w')
    (cO : ∀ w, Env3 EA ER w → Calls Tryz.prog 36 #[.agg (adr sa ab), .int .i64 n] w fun e w' => e = .returned (.tuple #[.agg (cid false z16 0), .iface ue pe]) ∧ Below w.heap.size w w') :
    Calls Tryz.prog 24 #[.string s] w fun e w' => e = .returned (.tuple #[.agg (cid false z16 0), .iface ue pe]) ∧ Below w.heap.size w w' := by
  obtain ⟨W0, hW0⟩ : ∃ W, W = w.alloc (.cells (cid false z16 0) 48) := ⟨_, rfl⟩
  have hB0 : Blk W0 w.heap.size 48 (cid false z16 0) := hW0 ▸ Blk.new w _ _
  have hb0 : Below w.heap.size w W0 := hW0 ▸ (Below.refl _ _).alloc (Nat.le_refl _) _
  have HW0 : Hid (w.alloc (.cells #[.bool false, .int .u8 0, .int .u8 0, .int .u8 0, .int .u8 0, .int .u8 0, .int .u8 0, .int .u8 0, .int .u8 0, .int .u8 0, .int .u8 0, .int .u8 0, .int .u8 0, .int .u8 0, .int .u8 0, .int .u8 0, .int .u8 0, .int .i64 0] 48) = W0) := Lib.hid hW0.symm
  have HB0 := Lib.hid hB0
  have Hb0 := Lib.hid hb0
  have HE := Lib.hid hE
  have HE3 := Lib.hid hE3
  have CC := Lib.hid cC
  have CP := Lib.hid cP
  have CF := Lib.hid cF
  have CO := Lib.hid cO
  have L17 : Hid (17 = (adr sa ab).size) := Lib.hid (by rw [adr_size, hl])
  have L18 : Hid (18 = (cid false z16 0).size) := Lib.hid rfl
  clear hW0 hB0 hb0 hE hE3 cC cP cF cO hl
  go_enter Tryz.func24, Tryz.ntmps24
  go_wp2_with fail
  rw [HW0.out]
  refine (CC.out W0 (HE.out.kept Hb0.out)).mono ?_
  rintro e w1 ⟨rfl, hb1⟩
  have Hb1 := Lib.hid (bel2 Hb0.out hb1)
  have HB1 := Lib.hid (HB0.out.kept hb1)
  clear hb1
  go_wp2_with fail
  refine (CP.out w1 (HE.out.kept Hb1.out)).mono ?_
  rintro e w2 ⟨rfl, hb2⟩
  have Hb2 := Lib.hid (bel2 Hb1.out hb2)
  have HB2 := Lib.hid (HB1.out.kept hb2)
  obtain ⟨W3, hW3⟩ : ∃ W, W = w2.alloc (.cells (adr false z16) 24) := ⟨_, rfl⟩
  have hB3 : Blk W3 w2.heap.size 24 (adr false z16) := hW3 ▸ Blk.new w2 _ _
  have hb3 : Below w2.heap.size w2 W3 := hW3 ▸ (Below.refl _ _).alloc (Nat.le_refl _) _
  have HW3 : Hid (w2.alloc (.cells #[.bool false, .int .u8 0, .int .u8 0, .int .u8 0, .int .u8 0, .int .u8 0, .int .u8 0, .int .u8 0, .int .u8 0, .int .u8 0, .int .u8 0, .int .u8 0, .int .u8 0, .int .u8 0, .int .u8 0, .int .u8 0, .int .u8 0] 24) = W3) := Lib.hid hW3.symm
  have HB3 := Lib.hid hB3
  obtain ⟨V, hV⟩ : ∃ V, V = W3.setRow w2.heap.size (adr sa ab) := ⟨_, rfl⟩
  have HV := Lib.hid hV.symm
  have hsz : w.heap.size < w2.heap.size := HB2.out.lt
  have HBV : Hid (Blk V w2.heap.size 24 (adr sa ab)) := Lib.hid (hV ▸ hB3.row _)
  have HBR : Hid (Blk V w.heap.size 48 (cid false z16 0)) := Lib.hid (hV ▸ (HB2.out.kept hb3).rowOther (by omega) _)
  have HbV : Hid (Below w.heap.size w V) := Lib.hid (hV ▸ below_setRow (bel2 Hb2.out hb3) (by omega) _)
  clear hb2 hW3 hB3 hb3 hV
  go_wp2_with ((try rw [HW3.out]); refine wpl_store 24 _ _ rfl w2.heap.size (adr sa ab) rfl rfl _ _ HB3.out 17 Tryz.infoAddr L17.out rfl (adr_one _ _) rfl ?_; rw [HV.out])
  refine (CF.out V (HE.out.kept HbV.out)).mono ?_
  rintro e w4 ⟨rfl, hb4⟩
  have Hb4 := Lib.hid (bel2 HbV.out hb4)
  have HBA := Lib.hid (HBV.out.kept hb4)
  have HBR4 := Lib.hid (HBR.out.kept hb4)
  clear hb4
  go_wp2_with (refine wpl_load 24 _ rfl w2.heap.size rfl _ _ _ HBA.out Tryz.underlying24 rfl 17 Tryz.infoAddr L17.out rfl ?_)
  refine (CO.out w4 (HE3.out.kept Hb4.out)).mono ?_
  rintro e w5 ⟨rfl, hb5⟩
  have Hb5 := Lib.hid (bel2 Hb4.out hb5)
  have HBA5 := Lib.hid (HBA.out.kept hb5)
  have HBR5 := Lib.hid (HBR4.out.kept hb5)
  obtain ⟨W6, hW6⟩ : ∃ W, W = w5.alloc (.cells (cid false z16 0) 48) := ⟨_, rfl⟩
  have hB6 : Blk W6 w5.heap.size 48 (cid false z16 0) := hW6 ▸ Blk.new w5 _ _
  have hb6 : Below w5.heap.size w5 W6 := hW6 ▸ (Below.refl _ _).alloc (Nat.le_refl _) _
  have HW6 : Hid (w5.alloc (.cells #[.bool false, .int .u8 0, .int .u8 0, .int .u8 0, .int .u8 0, .int .u8 0, .int .u8 0, .int .u8 0, .int .u8 0, .int .u8 0, .int .u8 0, .int .u8 0, .int .u8 0, .int .u8 0, .int .u8 0, .int .u8 0, .int .u8 0, .int .i64 0] 48) = W6) := Lib.hid hW6.symm
  have HB6 := Lib.hid hB6
  obtain ⟨V7, hV7⟩ : ∃ V, V = W6.setRow w5.heap.size (cid false z16 0) := ⟨_, rfl⟩
  have HV7 := Lib.hid hV7.symm
  have hsz5 : w2.heap.size < w5.heap.size := HBA5.out.lt
  have HBR7 : Hid (Blk V7 w.heap.size 48 (cid false z16 0)) := Lib.hid (hV7 ▸ (HBR5.out.kept hb6).rowOther (by omega) _)
  have Hb7 : Hid (Below w.heap.size w V7) := Lib.hid (hV7 ▸ below_setRow (bel2 Hb5.out hb6) (by omega) _)
  clear hb5 hW6 hB6 hb6 hV7
  go_wp2_with ((try rw [HW6.out]); first | (refine wpl_store 48 _ _ rfl w5.heap.size (cid false z16 0) rfl rfl _ _ HB6.out 18 Tryz.infoCidr L18.out rfl (cid_one _ _ _) rfl ?_; rw [HV7.out]) | (refine wpl_store 48 _ _ rfl w.heap.size (cid false z16 0) rfl rfl _ _ HBR7.out 18 Tryz.infoCidr L18.out rfl (cid_one _ _ _) rfl ?_))
  exact retA2 rfl w.heap.size rfl _ _ _ (HBR7.out.row _) Tryz.underlying48 rfl 18 Tryz.infoCidr L18.out rfl _ rfl ⟨rfl, below_setRow Hb7.out (Nat.le_refl _) _⟩

set_option maxRecDepth 100000 in
set_option maxHeartbeats 4000000 in
theorem cparse_adr (s hd tl : ByteArray) (sa : Bool) (ab : List Int) (hl : ab.length = 16) (n : Int) (ob : List Int) (E EA ER : Value) (w : World) (hE : Env E w) (hE3 : Env3 EA ER w)
    (cC : ∀ w, Env E w → Calls Tryz.prog 58 #[.string s, .string ⟨#[47]⟩] w fun e w' => e = .returned (.tuple #[.string hd, .string tl, .bool true]) ∧ Below w.heap.size w w')
    (cP : ∀ w, Env E w → Calls Tryz.prog 48 #[.string hd] w fun e w' => e = .returned (.tuple #[.agg (adr sa ab), .nilIface]) ∧ Below w.heap.size w w')
    (cF : ∀ w, Env E w → Calls Tryz.prog 59 #[.string tl] w fun e w' => e = .returned (.tuple #[.int .i64 n, .bool true]) ∧ Below w.heap.size w w')
    (cO : ∀ w, Env3 EA ER w → Calls Tryz.prog 36 #[.agg (adr sa ab), .int .i64 n] w fun e w' => e = .returned (.tuple #[.agg (cid sa ob n), .nilIface]) ∧ Below w.heap.size w w')
    (hlo : ob.length = 16) (hne : (ob == ab) = false) :
    Calls Tryz.prog 24 #[.string s] w fun e w' => e = .returned (.tuple #[.agg (cid false z16 0), EA]) ∧ Below w.heap.size w w' := by
  obtain ⟨W0, hW0⟩ : ∃ W, W = w.alloc (.cells (cid false z16 0) 48) := ⟨_, rfl⟩
  have hB0 : Blk W0 w.heap.size 48 (cid false z16 0) := hW0 ▸ Blk.new w _ _
  have hb0 : Below w.heap.size w W0 := hW0 ▸ (Below.refl _ _).alloc (Nat.le_refl _) _
  have HW0 : Hid (w.alloc (.cells #[.bool false, .int .u8 0, .int .u8 0, .int .u8 0, .int .u8 0, .int .u8 0, .int .u8 0, .int .u8 0, .int .u8 0, .int .u8 0, .int .u8 0, .int .u8 0, .int .u8 0, .int .u8 0, .int .u8 0, .int .u8 0, .int .u8 0, .int .i64 0] 48) = W0) := Lib.hid hW0.symm
  have HB0 := Lib.hid hB0
  have Hb0 := Lib.hid hb0
  have HE := Lib.hid hE
  have HE3 := Lib.hid hE3
  have CC := Lib.hid cC
  have CP := Lib.hid cP
  have CF := Lib.hid cF
  have CO := Lib.hid cO
  have L17 : Hid (17 = (adr sa ab).size) := Lib.hid (by rw [adr_size, hl])
  have L18 : Hid (18 = (cid sa ob n).size) := Lib.hid (by rw [cid_size, hlo])
  have HLo := Lib.hid hlo
  have HF : Hid (w.cell? ⟨7, 0, none⟩ = some EA) := Lib.hid hE3.adr
  have hq : ∀ w, (binOp .neq 24 (.agg (adr sa ob)) (.agg (adr sa ab))).run Tryz.prog w = .ok (.bool true) w := fun w => by
    rw [run_neq_struct, equalIn_adr 9997 sa sa ob ab hlo hl, show ((sa == sa) && (ob == ab)) = false by simp only [hne, Bool.and_false]]
    rfl
  clear hW0 hB0 hb0 hE hE3 cC cP cF cO hl hlo hne
  go_enter Tryz.func24, Tryz.ntmps24
  go_wp2_with fail
  rw [HW0.out]
  refine (CC.out W0 (HE.out.kept Hb0.out)).mono ?_
  rintro e w1 ⟨rfl, hb1⟩
  have Hb1 := Lib.hid (bel2 Hb0.out hb1)
  have HB1 := Lib.hid (HB0.out.kept hb1)
  clear hb1
  go_wp2_with fail
  refine (CP.out w1 (HE.out.kept Hb1.out)).mono ?_
  rintro e w2 ⟨rfl, hb2⟩
  have Hb2 := Lib.hid (bel2 Hb1.out hb2)
  have HB2 := Lib.hid (HB1.out.kept hb2)
  obtain ⟨W3, hW3⟩ : ∃ W, W = w2.alloc (.cells (adr false z16) 24) := ⟨_, rfl⟩
  have hB3 : Blk W3 w2.heap.size 24 (adr false z16) := hW3 ▸ Blk.new w2 _ _
  have hb3 : Below w2.heap.size w2 W3 := hW3 ▸ (Below.refl _ _).alloc (Nat.le_refl _) _
  have HW3 : Hid (w2.alloc (.cells #[.bool false, .int .u8 0, .int .u8 0, .int .u8 0, .int .u8 0, .int .u8 0, .int .u8 0, .int .u8 0, .int .u8 0, .int .u8 0, .int .u8 0, .int .u8 0, .int .u8 0, .int .u8 0, .int .u8 0, .int .u8 0, .int .u8 0] 24) = W3) := Lib.hid hW3.symm
  have HB3 := Lib.hid hB3
  obtain ⟨V, hV⟩ : ∃ V, V = W3.setRow w2.heap.size (adr sa ab) := ⟨_, rfl⟩
  have HV := Lib.hid hV.symm
  have hsz : w.heap.size < w2.heap.size := HB2.out.lt
  have HBV : Hid (Blk V w2.heap.size 24 (adr sa ab)) := Lib.hid (hV ▸ hB3.row _)
  have HBR : Hid (Blk V w.heap.size 48 (cid false z16 0)) := Lib.hid (hV ▸ (HB2.out.kept hb3).rowOther (by omega) _)
  have HbV : Hid (Below w.heap.size w V) := Lib.hid (hV ▸ below_setRow (bel2 Hb2.out hb3) (by omega) _)
  clear hb2 hW3 hB3 hb3 hV
  go_wp2_with ((try rw [HW3.out]); refine wpl_store 24 _ _ rfl w2.heap.size (adr sa ab) rfl rfl _ _ HB3.out 17 Tryz.infoAddr L17.out rfl (adr_one _ _) rfl ?_; rw [HV.out])
  refine (CF.out V (HE.out.kept HbV.out)).mono ?_
  rintro e w4 ⟨rfl, hb4⟩
  have Hb4 := Lib.hid (bel2 HbV.out hb4)
  have HBA := Lib.hid (HBV.out.kept hb4)
  have HBR4 := Lib.hid (HBR.out.kept hb4)
  clear hb4
  go_wp2_with (refine wpl_load 24 _ rfl w2.heap.size rfl _ _ _ HBA.out Tryz.underlying24 rfl 17 Tryz.infoAddr L17.out rfl ?_)
  refine (CO.out w4 (HE3.out.kept Hb4.out)).mono ?_
  rintro e w5 ⟨rfl, hb5⟩
  have Hb5 := Lib.hid (bel2 Hb4.out hb5)
  have HBA5 := Lib.hid (HBA.out.kept hb5)
  have HBR5 := Lib.hid (HBR4.out.kept hb5)
  obtain ⟨W6, hW6⟩ : ∃ W, W = w5.alloc (.cells (cid false z16 0) 48) := ⟨_, rfl⟩
  have hB6 : Blk W6 w5.heap.size 48 (cid false z16 0) := hW6 ▸ Blk.new w5 _ _
  have hb6 : Below w5.heap.size w5 W6 := hW6 ▸ (Below.refl _ _).alloc (Nat.le_refl _) _
  have HW6 : Hid (w5.alloc (.cells #[.bool false, .int .u8 0, .int .u8 0, .int .u8 0, .int .u8 0, .int .u8 0, .int .u8 0, .int .u8 0, .int .u8 0, .int .u8 0, .int .u8 0, .int .u8 0, .int .u8 0, .int .u8 0, .int .u8 0, .int .u8 0, .int .u8 0, .int .i64 0] 48) = W6) := Lib.hid hW6.symm
  have HB6 := Lib.hid hB6
  obtain ⟨V7, hV7⟩ : ∃ V, V = W6.setRow w5.heap.size (cid sa ob n) := ⟨_, rfl⟩
  have HV7 := Lib.hid hV7.symm
  have hsz5 : w2.heap.size < w5.heap.size := HBA5.out.lt
  have HBC : Hid (Blk V7 w5.heap.size 48 (cid sa ob n)) := Lib.hid (hV7 ▸ hB6.row _)
  have HBA7 : Hid (Blk V7 w2.heap.size 24 (adr sa ab)) := Lib.hid (hV7 ▸ (HBA5.out.kept hb6).rowOther (by omega) _)
  have HBR7 : Hid (Blk V7 w.heap.size 48 (cid false z16 0)) := Lib.hid (hV7 ▸ (HBR5.out.kept hb6).rowOther (by omega) _)
  have Hb7 : Hid (Below w.heap.size w V7) := Lib.hid (hV7 ▸ below_setRow (bel2 Hb5.out hb6) (by omega) _)
  clear hb5 hW6 hB6 hb6 hV7
  go_wp2_with ((try rw [HW6.out]); first | (refine wpl_store 48 _ _ rfl w5.heap.size (cid sa ob n) rfl rfl _ _ HB6.out 18 Tryz.infoCidr L18.out rfl (cid_one _ _ _) rfl ?_; rw [HV7.out]) | (refine wpl_load_addr _ rfl w5.heap.size rfl sa ob n HBC.out HLo.out rfl ?_) | (refine wpl_load 24 _ rfl w2.heap.size rfl _ _ _ HBA7.out Tryz.underlying24 rfl 17 Tryz.infoAddr L17.out rfl ?_))
  obtain ⟨wx, hwx⟩ : ∃ wx, wx = V7 := ⟨_, rfl⟩
  have HBx : Hid (Blk wx w.heap.size 48 (cid false z16 0)) := Lib.hid (hwx ▸ HBR7.out)
  have Hbx : Hid (Below w.heap.size w wx) := Lib.hid (hwx ▸ Hb7.out)
  rw [← hwx]
  clear hwx
  obtain ⟨V9, hV9⟩ : ∃ V, V = wx := ⟨_, rfl⟩
  have hB5d : Blk V9.drew w.heap.size 48 (cid false z16 0) := hV9 ▸ HBx.out.kept (below_drewN wx 1)
  have HB5d := Lib.hid hB5d
  have HbQ : Hid (Below w.heap.size w V9) := Lib.hid (hV9 ▸ Hbx.out)
  have hform : V9.cell? ⟨7, 0, none⟩ = some EA := cell_kept HF.out HbQ.out
  have hform2 : (V9.drew.setRow w.heap.size (cid false z16 0)).cell? ⟨7, 0, none⟩ = some EA := cell_kept HF.out (below_setRow (bel2 HbQ.out (below_drewN V9 1)) (Nat.le_refl _) _)
  rw [← hV9]
  clear hV9 hB5d
  refine wp_region_any (by kernel_rfl) ?_
  change wpAny _ _ _ _ _ _ _ (World.drew _)
  refine wpAny_take (i := 0) (v := .agg (cid false z16 0)) rfl (by kernel_rfl) (by kernel_rfl) (by kernel_rfl) (fun _ _ _ h => h) (Or.inl ⟨by rfl, fun w => by kernel_rfl⟩) ?_
  refine wpAny_ready (rs := [1, 2]) (by kernel_rfl) (by simp) ?_
  refine AllReady.cons rfl (fun K hK => ?_) (AllReady.cons rfl (fun K hK => ?_) AllReady.nil)
  · refine step_run EA V9.drew (by go_simp) rfl (hK _ _ ?_)
    refine wpAny_ready (rs := [2]) (by kernel_rfl) (by simp) ?_
    refine AllReady.cons rfl (fun K hK => ?_) AllReady.nil
    refine step_store 48 (.tmp 2) (.tmp 54) rfl w.heap.size (cid false z16 0) rfl rfl 48 (cid false z16 0) HB5d.out 18 Tryz.infoCidr rfl rfl (cid_one _ _ _) rfl (hK _ _ ?_)
    refine wpAny_ready (rs := [3]) (by kernel_rfl) (by simp) ?_
    refine AllReady.cons rfl (fun K hK => ?_) AllReady.nil
    refine step_run EA _ rfl rfl (hK _ _ ?_)
    refine wpAny_done (by kernel_rfl) ?_ _
    go_wp2
    exact retA2 rfl w.heap.size rfl _ _ _ (HB5d.out.row _) Tryz.underlying48 rfl 18 Tryz.infoCidr rfl rfl _ rfl ⟨rfl, below_setRow (bel2 HbQ.out (below_drewN V9 1)) (Nat.le_refl _) _⟩
  · refine step_store 48 (.tmp 2) (.tmp 54) rfl w.heap.size (cid false z16 0) rfl rfl 48 (cid false z16 0) HB5d.out 18 Tryz.infoCidr rfl rfl (cid_one _ _ _) rfl (hK _ _ ?_)
    refine wpAny_ready (rs := [1]) (by kernel_rfl) (by simp) ?_
    refine AllReady.cons rfl (fun K hK => ?_) AllReady.nil
    refine step_run EA (V9.drew.setRow w.heap.size (cid false z16 0)) (by go_simp) rfl (hK _ _ ?_)
    refine wpAny_ready (rs := [3]) (by kernel_rfl) (by simp) ?_
    refine AllReady.cons rfl (fun K hK => ?_) AllReady.nil
    refine step_run EA _ rfl rfl (hK _ _ ?_)
    refine wpAny_done (by kernel_rfl) ?_ _
    go_wp2
    exact retA2 rfl w.heap.size rfl _ _ _ (HB5d.out.row _) Tryz.underlying48 rfl 18 Tryz.infoCidr rfl rfl _ rfl ⟨rfl, below_setRow (bel2 HbQ.out (below_drewN V9 1)) (Nat.le_refl _) _⟩
end Go.Proofs.YtambnnahgbegfaaGreatDoor
namespace Go.Proofs.YtambnnahgbegfaaGreatDoor
open Go.RowKit

/-- The bits that a text tells. -/
def fig8 (l : List UInt8) : Option Nat := if 1 ≤ l.length ∧ l.length ≤ 3 ∧ figs 10 l = true ∧ numb 10 0 l ≤ 128 ∧ ¬ (1 < l.length ∧ l.head? = some 48) then some (numb 10 0 l) else none

/-- What a text is: a cidr, or an error's number. -/
def cres (l : List UInt8) : (Bool × List Int × Int) × Int :=
  if (Lib.cut l [47]).2.2 = true then
    match parsed (Lib.cut l [47]).1, fig8 (Lib.cut l [47]).2.1 with
    | some (s, b), some n => if wid s < n then ((false, z16, 0), 1) else if zeroB b n (wid s) = true then ((s, b, (n : Int)), 0) else ((false, z16, 0), 8)
    | _, _ => ((false, z16, 0), 4)
  else ((false, z16, 0), 4)

def RcEnd (l : List UInt8) (w : World) (e : Ending) (w' : World) : Prop := e = .returned (.tuple #[.agg (cid (cres l).1.1 (cres l).1.2.1 (cres l).1.2.2), .int .i64 (cres l).2]) ∧ Below w.heap.size w w'

theorem cut1_at (l : List UInt8) (c : Nat) (hc : l[c]? = some 47) (hn : (47 : UInt8) ∉ l.take c) : Lib.cut l [47] = (l.take c, l.drop (c + 1), true) := by
  have hcl : c < l.length := (List.getElem?_eq_some_iff.1 hc).1
  have ho : ∀ j, j < l.length → (Lib.occAt l [47] j = true ↔ l[j]? = some 47) := fun j hj => by
    rw [occ1 l 47 j hj, beq_iff_eq, List.getElem?_eq_getElem hj]
    constructor
    · intro h; rw [h]
    · intro h; exact (Option.some.inj h).symm
  have hno : ∀ j, j < c → l[j]? ≠ some 47 := fun j hj h => hn (List.mem_of_getElem? (by rw [List.getElem?_take, if_pos hj]; exact h))
  have hi : Lib.index l [47] = (c : Int) := by
    rcases Lib.index_spec l [47] with ⟨_, h2⟩ | ⟨i, h1, h2, h3, h4⟩
    · have := h2 c (by omega)
      rw [(ho c hcl).2 hc] at this
      cases this
    · rw [h1]
      congr 1
      have hroom := Lib.occAt_room h3
      simp only [List.length_singleton, List.cons_ne_nil, or_false] at hroom
      rcases Nat.lt_trichotomy i c with h | h | h
      · exact absurd ((ho i (by omega)).1 h3) (hno i h)
      · exact h
      · have := h4 c h
        rw [(ho c hcl).2 hc] at this
        cases this
  unfold Lib.cut
  rw [hi, if_pos (by omega)]
  rfl
theorem cut1_no (l : List UInt8) (hn : (47 : UInt8) ∉ l) : Lib.cut l [47] = (l, [], false) := by
  have hi : Lib.index l [47] = -1 := by
    rcases Lib.index_spec l [47] with ⟨h1, _⟩ | ⟨i, h1, h2, h3, h4⟩
    · exact h1
    · have hroom := Lib.occAt_room h3
      simp only [List.length_singleton, List.cons_ne_nil, or_false] at hroom
      rw [occ1 l 47 i (by omega), beq_iff_eq] at h3
      exact absurd (h3 ▸ List.getElem_mem (by omega)) hn
  unfold Lib.cut
  rw [hi, if_neg (by omega)]

theorem parsed_ints {l : List UInt8} {s : Bool} {b : List Int} (h : parsed l = some (s, b)) : ∃ A : List Nat, b = ints A ∧ A.length = 16 ∧ (∀ x ∈ A, x < 256) ∧ (s || flat (ints A)) = true := by
  unfold parsed at h
  split at h
  · cases e : six l with
    | none => rw [e] at h; cases h
    | some g =>
      rw [e] at h
      cases h
      have hl : g.length = 8 ∧ ∀ n ∈ g, n < 65536 := by
        unfold six at e
        split at e
        · rename_i a b ea eb
          split at e
          · rename_i hn
            cases e
            refine ⟨by simp; omega, fun n hn => ?_⟩
            simp only [List.mem_append, List.mem_replicate] at hn
            rcases hn with h | ⟨_, rfl⟩ | h
            · exact groups_lt ea n h
            · omega
            · exact groups_lt eb n h
          · cases e
        · cases e
      refine ⟨by2 g, rfl, by rw [by2_length, hl.1], fun x hx => ?_, rfl⟩
      simp only [by2, List.mem_flatMap, List.mem_cons, List.not_mem_nil, or_false] at hx
      obtain ⟨n, hn, rfl | rfl⟩ := hx
      · have := hl.2 n hn; omega
      · omega
  · unfold four at h
    split at h
    · rename_i h4
      cases e : allOf num10 (pieces 46 l) with
      | none => rw [e] at h; cases h
      | some ns =>
        rw [e] at h
        cases h
        have hl := allOf_length num10 _ _ e
        have hm := allOf_mem num10 _ _ e
        have hi : rowOf ns 16 = ints (ns ++ List.replicate (16 - ns.length) 0) := by
          unfold rowOf ints
          rw [List.map_append, List.map_replicate]
          rfl
        refine ⟨ns ++ List.replicate (16 - ns.length) 0, hi, by simp; omega, fun x hx => ?_, ?_⟩
        · rcases List.mem_append.1 hx with h' | h'
          · obtain ⟨y, _, hy⟩ := hm x h'
            have := num10_le hy
            omega
          · have := (List.mem_replicate.1 h').2
            omega
        · rw [← hi]
          refine flat_of _ (rowOf_length _ _ (by omega)) (fun j h4' h16 => ?_)
          unfold nth rowOf
          simp only [List.getD]
          rw [List.getElem?_append_right (by simp; omega), List.getElem?_replicate]
          split <;> rfl
    · cases h

set_option maxRecDepth 100000 in
set_option maxHeartbeats 8000000 in
theorem rcparse_any (s : ByteArray) (hs : s.size ≤ 1000) (w : World) : Calls Tryz.prog 25 #[.string s] w (RcEnd s.data.toList w) := by
  obtain ⟨W0, hW0⟩ : ∃ W, W = w.alloc (.cells (cid false z16 0) 48) := ⟨_, rfl⟩
  have hB0 : Blk W0 w.heap.size 48 (cid false z16 0) := hW0 ▸ Blk.new w _ _
  have hb0 : Below w.heap.size w W0 := hW0 ▸ (Below.refl _ _).alloc (Nat.le_refl _) _
  have HW0 : Hid (w.alloc (.cells #[.bool false, .int .u8 0, .int .u8 0, .int .u8 0, .int .u8 0, .int .u8 0, .int .u8 0, .int .u8 0, .int .u8 0, .int .u8 0, .int .u8 0, .int .u8 0, .int .u8 0, .int .u8 0, .int .u8 0, .int .u8 0, .int .u8 0, .int .i64 0] 48) = W0) := Lib.hid hW0.symm
  have HB0 := Lib.hid hB0
  have Hb0 := Lib.hid hb0
  obtain ⟨l, hl⟩ : ∃ l, l = s.data.toList := ⟨_, rfl⟩
  have HL := Lib.hid hl
  have HAt : Hid (∀ k, ∀ h : k < s.size, l[k]? = some s[k]) := Lib.hid fun k h => by rw [hl]; exact list_at s k h
  have HSz : Hid (l.length = s.size) := Lib.hid (by rw [hl, Lib.size_eq])
  rw [← hl]
  clear hW0 hB0 hb0 hl
  go_enter Tryz.func25, Tryz.ntmps25
  go_wp2
  rw [HW0.out]
  go_loop [4] (fun i => ∃ k : Nat, k ≤ s.size ∧ i = .int .i64 k ∧ Hid ((47 : UInt8) ∉ l.take k)) (fun i => s.size - (intOf i).toNat)
  case atStart => exact ⟨0, Nat.zero_le _, rfl, fun h => by simp at h⟩
  case round =>
    obtain ⟨k, hk, rfl, hh⟩ := hrel
    by_cases hlt : k < s.size
    · by_cases hc : s[k] = 47
      · have qc : ((s[k].toNat : Int) != 47) = false := by rw [hc]; rfl
        have hcut := cut1_at l k (by rw [HAt.out k hlt, hc]) hh.out
        have hex1 := extract_take s k
        have hex2 := extract_drop s (k + 1)
        rw [← HL.out] at hex1 hex2
        obtain ⟨k1, hk1⟩ : ∃ k1, k1 = k + 1 := ⟨_, rfl⟩
        rw [← hk1] at hex2 hcut
        have hsz1 : (s.extract 0 k).size ≤ 1000 := by rw [Lib.size_eq, hex1, List.length_take, HSz.out]; omega
        have hsz2 : (s.extract k1 s.size).size ≤ 1000 := by rw [Lib.size_eq, hex2, List.length_drop, HSz.out]; omega
        rw [← hex1, ← hex2] at hcut
        have CP : Hid (∀ w, Calls Tryz.prog 60 #[.string (s.extract 0 k)] w (ROpt (parsed (s.extract 0 k).data.toList) w)) := Lib.hid (rparse_any _ hsz1)
        have e1 : IntKind.i64.wrap ((k : Int) + 1) = (k1 : Int) := by simp only [IntKind.wrap, IntKind.signed, IntKind.bits]; simp; omega
        have b1 : (0 : Int) ≤ (k : Int) := by omega
        have b2 : (k : Int) ≤ (s.size : Int) := by omega
        have b3 : (0 : Int) ≤ (k1 : Int) := by omega
        have b4 : (k1 : Int) ≤ (s.size : Int) := by omega
        have qk : ((k : Int) == (s.size : Int)) = false := by rw [beq_eq_false_iff_ne]; omega
        have HCut := Lib.hid hcut
        clear hcut hex1 hex2 hk1 hc hh hsz1
        have HSz2 := Lib.hid hsz2
        go_wp2_with fail
        refine (CP.out W0).mono ?_
        rintro e w1 ⟨he, hb1⟩
        obtain ⟨ok, sa, ab, rfl, hab, hokf, hokt⟩ : ∃ (ok : Bool) (sa : Bool) (ab : List Int), e = .returned (.tuple #[.agg (adr sa ab), .bool ok]) ∧ ab.length = 16 ∧ (ok = false → parsed (s.extract 0 k).data.toList = none) ∧ (ok = true → parsed (s.extract 0 k).data.toList = some (sa, ab)) := by
          cases hp : parsed (s.extract 0 k).data.toList with
          | none =>
            rw [hp] at he
            exact ⟨false, false, z16, he, rfl, fun _ => rfl, fun h => by cases h⟩
          | some x =>
            obtain ⟨sx, bx⟩ := x
            rw [hp] at he
            obtain ⟨A, rfl, hA, _⟩ := parsed_ints hp
            exact ⟨true, sx, ints A, he, by rw [ints_length, hA], (fun h => by cases h), fun _ => rfl⟩
        have HOf := Lib.hid hokf
        have HOt := Lib.hid hokt
        have HB1 := Lib.hid (HB0.out.kept hb1)
        have Hb1 := Lib.hid (bel2 Hb0.out hb1)
        have L17 : Hid (17 = (adr sa ab).size) := Lib.hid (by rw [adr_size, hab])
        have HLab := Lib.hid hab
        obtain ⟨W3, hW3⟩ : ∃ W, W = w1.alloc (.cells (adr false z16) 24) := ⟨_, rfl⟩
        have hB3 : Blk W3 w1.heap.size 24 (adr false z16) := hW3 ▸ Blk.new w1 _ _
        have hb3 : Below w1.heap.size w1 W3 := hW3 ▸ (Below.refl _ _).alloc (Nat.le_refl _) _
        have HW3 : Hid (w1.alloc (.cells #[.bool false, .int .u8 0, .int .u8 0, .int .u8 0, .int .u8 0, .int .u8 0, .int .u8 0, .int .u8 0, .int .u8 0, .int .u8 0, .int .u8 0, .int .u8 0, .int .u8 0, .int .u8 0, .int .u8 0, .int .u8 0, .int .u8 0] 24) = W3) := Lib.hid hW3.symm
        have HB3 := Lib.hid hB3
        obtain ⟨V, hV⟩ : ∃ V, V = W3.setRow w1.heap.size (adr sa ab) := ⟨_, rfl⟩
        have HV := Lib.hid hV.symm
        have hsz : w.heap.size < w1.heap.size := HB1.out.lt
        have HBA : Hid (Blk V w1.heap.size 24 (adr sa ab)) := Lib.hid (hV ▸ hB3.row _)
        have HBR : Hid (Blk V w.heap.size 48 (cid false z16 0)) := Lib.hid (hV ▸ (HB1.out.kept hb3).rowOther (by omega) _)
        have HbV : Hid (Below w.heap.size w V) := Lib.hid (hV ▸ below_setRow (bel2 Hb1.out hb3) (by omega) _)
        obtain ⟨t, ht⟩ : ∃ t, t = s.extract k1 s.size := ⟨_, rfl⟩
        have HT := Lib.hid ht
        have hts : t.size ≤ 1000 := by rw [ht]; exact HSz2.out
        have HSl : Hid (∀ w, (Instr.sliceAt 9 (.string s) (some (.int .i64 (k1 : Int))) none none).run Tryz.prog w = .ok (.string t) w) := Lib.hid fun w => by
          rw [ht]
          simp [Instr.sliceAt, run_underlying Tryz.underlying9, Instr.sliceBounds, go_sem, b3, b4]
        have hsl := HSl.out
        obtain ⟨tl, htl⟩ : ∃ tl, tl = t.data.toList := ⟨_, rfl⟩
        have HTl := Lib.hid htl
        have HTa : Hid (∀ j, ∀ h : j < t.size, tl[j]? = some t[j]) := Lib.hid fun j h => by rw [htl]; exact list_at t j h
        have HTs : Hid (tl.length = t.size) := Lib.hid (by rw [htl, Lib.size_eq])
        have HRes : Hid (cres l = match (if ok = true then some (sa, ab) else none), fig8 tl with
            | some (s, b), some n => if wid s < n then ((false, z16, 0), 1) else if zeroB b n (wid s) = true then ((s, b, (n : Int)), 0) else ((false, z16, 0), 8)
            | _, _ => ((false, z16, 0), 4)) := Lib.hid (by
          unfold cres
          rw [HCut.out, ← ht, ← htl]
          simp only [if_true]
          cases ok with
          | false => rw [HOf.out rfl]; rfl
          | true => rw [HOt.out rfl]; rfl)
        have HBad : Hid (fig8 tl = none → cres l = ((false, z16, 0), 4)) := Lib.hid fun h => by
          rw [HRes.out, h]
          cases ok <;> rfl
        clear he hb1 hokf hokt hW3 hB3 hb3 hV ht htl hsz2 CP HCut HB1 HB0 Hb0 hab
        go_wp2_with ((try rw [HW3.out]); refine wpl_store 24 _ _ rfl w1.heap.size (adr sa ab) rfl rfl _ _ HB3.out 17 Tryz.infoAddr L17.out rfl (adr_one _ _) rfl ?_; rw [HV.out])
        go_loop [8, 9] (fun n i => ∃ j v : Nat, j ≤ t.size ∧ j ≤ 3 ∧ i = .int .i64 j ∧ n = .int .i64 v ∧ v < 1000 ∧ Hid (figs 10 (tl.take j) = true ∧ v = numb 10 0 (tl.take j))) (fun _ i => t.size - (intOf i).toNat)
        case atStart => exact ⟨0, 0, Nat.zero_le _, by omega, rfl, rfl, by omega, rfl, rfl⟩
        case round =>
          obtain ⟨j, v, hj, hj3, rfl, rfl, hv, hh⟩ := hrel
          by_cases hjt : j < t.size
          · have hat := HTa.out j hjt
            have htk : tl.take (j + 1) = tl.take j ++ [t[j]] := by rw [List.take_add_one, hat]; rfl
            have h256 : t[j].toNat < 256 := t[j].toNat_lt
            by_cases hd1 : t[j].toNat < 48
            · have HN : Hid (fig8 tl = none) := Lib.hid (by
                unfold fig8
                rw [if_neg]
                rintro ⟨_, _, hf, _⟩
                have := List.all_eq_true.1 hf _ (List.mem_of_getElem? hat)
                have := (fig10 t[j]).1 (by simpa using this)
                omega)
              have HR : Hid (cres l = ((false, z16, 0), 4)) := Lib.hid (HBad.out HN.out)
              clear hh hat htk
              go_wp2_with (refine wpl_store 48 _ _ rfl w.heap.size (cid false z16 0) rfl rfl _ _ HBR.out 18 Tryz.infoCidr rfl rfl (cid_one _ _ _) rfl ?_)
              exact retA2 rfl w.heap.size rfl _ _ _ (HBR.out.row _) Tryz.underlying48 rfl 18 Tryz.infoCidr rfl rfl _ rfl (by unfold RcEnd; rw [HR.out]; exact ⟨rfl, below_setRow HbV.out (Nat.le_refl _) _⟩)
            · by_cases hd2 : 57 < t[j].toNat
              · have HN : Hid (fig8 tl = none) := Lib.hid (by
                  unfold fig8
                  rw [if_neg]
                  rintro ⟨_, _, hf, _⟩
                  have := List.all_eq_true.1 hf _ (List.mem_of_getElem? hat)
                  have := (fig10 t[j]).1 (by simpa using this)
                  omega)
                have HR : Hid (cres l = ((false, z16, 0), 4)) := Lib.hid (HBad.out HN.out)
                clear hh hat htk
                go_wp2_with (refine wpl_store 48 _ _ rfl w.heap.size (cid false z16 0) rfl rfl _ _ HBR.out 18 Tryz.infoCidr rfl rfl (cid_one _ _ _) rfl ?_)
                exact retA2 rfl w.heap.size rfl _ _ _ (HBR.out.row _) Tryz.underlying48 rfl 18 Tryz.infoCidr rfl rfl _ rfl (by unfold RcEnd; rw [HR.out]; exact ⟨rfl, below_setRow HbV.out (Nat.le_refl _) _⟩)
              · by_cases h3 : 2 < j
                · have HN : Hid (fig8 tl = none) := Lib.hid (by
                    unfold fig8
                    rw [if_neg]
                    rintro ⟨_, h, _⟩
                    rw [HTs.out] at h
                    omega)
                  have HR : Hid (cres l = ((false, z16, 0), 4)) := Lib.hid (HBad.out HN.out)
                  clear hh hat htk
                  go_wp2_with (refine wpl_store 48 _ _ rfl w.heap.size (cid false z16 0) rfl rfl _ _ HBR.out 18 Tryz.infoCidr rfl rfl (cid_one _ _ _) rfl ?_)
                  exact retA2 rfl w.heap.size rfl _ _ _ (HBR.out.row _) Tryz.underlying48 rfl 18 Tryz.infoCidr rfl rfl _ rfl (by unfold RcEnd; rw [HR.out]; exact ⟨rfl, below_setRow HbV.out (Nat.le_refl _) _⟩)
                · obtain ⟨x, hx⟩ : ∃ x, x = t[j].toNat := ⟨_, rfl⟩
                  have hfx : fig t[j] = x - 48 := by unfold fig; rw [if_pos ⟨by omega, by omega⟩, hx]
                  have hv10 : v < 10 ^ j := by
                    have := numb_lt 10 (tl.take j) hh.out.1 0
                    rw [List.length_take, Nat.min_eq_left (by rw [HTs.out]; omega), ← hh.out.2] at this
                    simpa using this
                  have hvj : v < 100 := by
                    have : (10 : Nat) ^ j ≤ 10 ^ 2 := Nat.pow_le_pow_right (by decide) (by omega)
                    omega
                  have HX : Hid (figs 10 (tl.take (j + 1)) = true ∧ v * 10 + (x - 48) = numb 10 0 (tl.take (j + 1))) := Lib.hid (by
                    rw [htk, numb_snoc, ← hh.out.2, hfx]
                    refine ⟨?_, rfl⟩
                    have := hh.out.1
                    unfold figs at this ⊢
                    rw [List.all_append, this]
                    simp [hfx]
                    omega)
                  rw [← hx] at hd1 hd2 h256
                  obtain ⟨y, hy⟩ : ∃ y : Nat, y = v * 10 + (x - 48) := ⟨_, rfl⟩
                  rw [← hy] at HX
                  have ea : IntKind.i64.wrap ((v : Int) * 10) = (v : Int) * 10 := by simp only [IntKind.wrap, IntKind.signed, IntKind.bits]; simp; omega
                  have eb : IntKind.i64.wrap (x : Int) = (x : Int) := by simp only [IntKind.wrap, IntKind.signed, IntKind.bits]; simp; omega
                  have ec : IntKind.i64.wrap ((v : Int) * 10 + (x : Int)) = (v : Int) * 10 + (x : Int) := by simp only [IntKind.wrap, IntKind.signed, IntKind.bits]; simp; omega
                  have ed : IntKind.i64.wrap ((v : Int) * 10 + (x : Int) - 48) = (y : Int) := by simp only [IntKind.wrap, IntKind.signed, IntKind.bits]; simp; omega
                  have hy1 : y < 1000 := by omega
                  have q1 : decide ((t[j].toNat : Int) < 48) = false := decide_eq_false (by rw [← hx]; omega)
                  have q2 : decide ((t[j].toNat : Int) > 57) = false := decide_eq_false (by rw [← hx]; omega)
                  have q3 : decide ((j : Int) > 2) = false := decide_eq_false (by omega)
                  have hxe : (t[j].toNat : Int) = (x : Int) := by rw [hx]
                  have HY := Lib.hid hy
                  clear hh hat htk hfx hv10 hx hy
                  go_wp2
                  go_round
                  case rel => exact ⟨j + 1, y, by omega, by omega, by go_num, rfl, hy1, HX.out⟩
                  case measure => simp [intOf]; omega
          · obtain rfl : j = t.size := by omega
            have htk : tl.take t.size = tl := List.take_of_length_le (by rw [HTs.out]; exact Nat.le_refl _)
            rw [htk] at hh
            have hf := hh.out.1
            have hve := hh.out.2
            have hnone : (128 < v ∨ t.size = 0 ∨ (1 < tl.length ∧ tl.head? = some 48)) → fig8 tl = none := fun h => by
              unfold fig8
              rw [if_neg]
              rintro ⟨h1, _, _, h2, h3⟩
              rw [HTs.out] at h1
              rcases h with h | h | h
              · omega
              · omega
              · exact h3 h
            have HNone := Lib.hid hnone
            have HF1 := Lib.hid hf
            have HVe := Lib.hid hve
            clear hh htk hnone hf hve
            cases ok with
            | false =>
              have HR : Hid (cres l = ((false, z16, 0), 4)) := Lib.hid (by rw [HRes.out]; rfl)
              go_wp2_with (refine wpl_store 48 _ _ rfl w.heap.size (cid false z16 0) rfl rfl _ _ HBR.out 18 Tryz.infoCidr rfl rfl (cid_one _ _ _) rfl ?_)
              exact retA2 rfl w.heap.size rfl _ _ _ (HBR.out.row _) Tryz.underlying48 rfl 18 Tryz.infoCidr rfl rfl _ rfl (by unfold RcEnd; rw [HR.out]; exact ⟨rfl, below_setRow HbV.out (Nat.le_refl _) _⟩)
            | true =>
              by_cases h0 : t.size = 0
              · have HR : Hid (cres l = ((false, z16, 0), 4)) := Lib.hid (HBad.out (HNone.out (.inr (.inl h0))))
                have q0 : ((t.size : Int) == 0) = true := by rw [h0]; rfl
                go_wp2_with (refine wpl_store 48 _ _ rfl w.heap.size (cid false z16 0) rfl rfl _ _ HBR.out 18 Tryz.infoCidr rfl rfl (cid_one _ _ _) rfl ?_)
                exact retA2 rfl w.heap.size rfl _ _ _ (HBR.out.row _) Tryz.underlying48 rfl 18 Tryz.infoCidr rfl rfl _ rfl (by unfold RcEnd; rw [HR.out]; exact ⟨rfl, below_setRow HbV.out (Nat.le_refl _) _⟩)
              · have q0 : ((t.size : Int) == 0) = false := by rw [beq_eq_false_iff_ne]; omega
                by_cases h128 : 128 < v
                · have HR : Hid (cres l = ((false, z16, 0), 4)) := Lib.hid (HBad.out (HNone.out (.inl h128)))
                  have q1 : decide ((v : Int) > 128) = true := decide_eq_true (by omega)
                  go_wp2_with (refine wpl_store 48 _ _ rfl w.heap.size (cid false z16 0) rfl rfl _ _ HBR.out 18 Tryz.infoCidr rfl rfl (cid_one _ _ _) rfl ?_)
                  exact retA2 rfl w.heap.size rfl _ _ _ (HBR.out.row _) Tryz.underlying48 rfl 18 Tryz.infoCidr rfl rfl _ rfl (by unfold RcEnd; rw [HR.out]; exact ⟨rfl, below_setRow HbV.out (Nat.le_refl _) _⟩)
                · have q1 : decide ((v : Int) > 128) = false := decide_eq_false (by omega)
                  by_cases h1 : 1 < t.size
                  · have hhd : tl.head? = some (t[0]'(Nat.lt_trans Nat.zero_lt_one h1)) := by rw [HTl.out]; exact head_at t h1
                    have q2 : decide ((t.size : Int) > 1) = true := decide_eq_true (by omega)
                    by_cases h48 : t[0] = 48
                    · have q48 : ((t[0].toNat : Int) == 48) = true := by rw [h48]; rfl
                      have HR : Hid (cres l = ((false, z16, 0), 4)) := Lib.hid (HBad.out (HNone.out (.inr (.inr ⟨by rw [HTs.out]; exact h1, by rw [hhd, h48]⟩))))
                      clear hhd h48
                      go_wp2_with (refine wpl_store 48 _ _ rfl w.heap.size (cid false z16 0) rfl rfl _ _ HBR.out 18 Tryz.infoCidr rfl rfl (cid_one _ _ _) rfl ?_)
                      exact retA2 rfl w.heap.size rfl _ _ _ (HBR.out.row _) Tryz.underlying48 rfl 18 Tryz.infoCidr rfl rfl _ rfl (by unfold RcEnd; rw [HR.out]; exact ⟨rfl, below_setRow HbV.out (Nat.le_refl _) _⟩)
                    · have q48 : ((t[0].toNat : Int) == 48) = false := by
                        rw [beq_eq_false_iff_ne]
                        intro e
                        exact h48 (UInt8.toNat_inj.1 (by simpa using (Int.ofNat.inj e)))
                      have hfig : fig8 tl = some v := by
                        unfold fig8
                        rw [if_pos ⟨by rw [HTs.out]; omega, by rw [HTs.out]; omega, HF1.out, by rw [← HVe.out]; omega, fun h => h48 (Option.some.inj (hhd.symm.trans h.2))⟩, HVe.out]
                      clear hhd h48
                      obtain ⟨A, hAi, hAl, hAb, -⟩ := parsed_ints (HOt.out rfl)
                      have HR0 : Hid (cres l = if wid sa < v then ((false, z16, 0), 1) else if zeroB ab v (wid sa) = true then ((sa, ab, (v : Int)), 0) else ((false, z16, 0), 8)) := Lib.hid (by rw [HRes.out, hfig]; rfl)
                      have CW := Lib.hid (width_any sa ab)
                      have CZ : Hid (v ≤ wid sa → ∀ w, Calls Tryz.prog 61 #[.agg (adr sa ab), .int .i64 (v : Int)] w fun e w' => e = .returned (.bool (zeroB ab v (wid sa))) ∧ Below w.heap.size w w') := Lib.hid fun h w => by rw [hAi]; exact zero_any sa A hAl hAb v h w
                      obtain ⟨m, hm⟩ : ∃ m, m = wid sa := ⟨_, rfl⟩
                      rw [← hm] at CW CZ HR0
                      obtain ⟨z, hz⟩ : ∃ z, z = zeroB ab v m := ⟨_, rfl⟩
                      rw [← hz] at CZ HR0
                      clear hfig hAi hAl hAb hm hz A
                      go_wp2_with (refine wpl_load 24 _ rfl w1.heap.size rfl _ _ _ HBA.out Tryz.underlying24 rfl 17 Tryz.infoAddr L17.out rfl ?_)
                      refine (CW.out V).mono ?_
                      rintro e w4 ⟨rfl, hb4⟩
                      have HBA4 := Lib.hid (HBA.out.kept hb4)
                      have HBR4 := Lib.hid (HBR.out.kept hb4)
                      have Hb4 := Lib.hid (bel2 HbV.out hb4)
                      clear hb4
                      by_cases hvm : m < v
                      · have q5 : decide ((v : Int) > (m : Int)) = true := decide_eq_true (by omega)
                        have HR : Hid (cres l = ((false, z16, 0), 1)) := Lib.hid (by rw [HR0.out, if_pos hvm])
                        go_wp2_with (refine wpl_store 48 _ _ rfl w.heap.size (cid false z16 0) rfl rfl _ _ HBR4.out 18 Tryz.infoCidr rfl rfl (cid_one _ _ _) rfl ?_)
                        exact retA2 rfl w.heap.size rfl _ _ _ (HBR4.out.row _) Tryz.underlying48 rfl 18 Tryz.infoCidr rfl rfl _ rfl (by unfold RcEnd; rw [HR.out]; exact ⟨rfl, below_setRow Hb4.out (Nat.le_refl _) _⟩)
                      · have q5 : decide ((v : Int) > (m : Int)) = false := decide_eq_false (by omega)
                        go_wp2_with (refine wpl_load 24 _ rfl w1.heap.size rfl _ _ _ HBA4.out Tryz.underlying24 rfl 17 Tryz.infoAddr L17.out rfl ?_)
                        refine (CZ.out (by omega) w4).mono ?_
                        rintro e w5 ⟨rfl, hb5⟩
                        have HBA5 := Lib.hid (HBA4.out.kept hb5)
                        have HBR5 := Lib.hid (HBR4.out.kept hb5)
                        have Hb5 := Lib.hid (bel2 Hb4.out hb5)
                        clear hb5
                        cases z with
                        | false =>
                          have HR : Hid (cres l = ((false, z16, 0), 8)) := Lib.hid (by rw [HR0.out, if_neg hvm, if_neg (by simp)])
                          go_wp2_with (refine wpl_store 48 _ _ rfl w.heap.size (cid false z16 0) rfl rfl _ _ HBR5.out 18 Tryz.infoCidr rfl rfl (cid_one _ _ _) rfl ?_)
                          exact retA2 rfl w.heap.size rfl _ _ _ (HBR5.out.row _) Tryz.underlying48 rfl 18 Tryz.infoCidr rfl rfl _ rfl (by unfold RcEnd; rw [HR.out]; exact ⟨rfl, below_setRow Hb5.out (Nat.le_refl _) _⟩)
                        | true =>
                          have HR : Hid (cres l = ((sa, ab, (v : Int)), 0)) := Lib.hid (by rw [HR0.out, if_neg hvm, if_pos rfl])
                          have L18 : Hid (18 = (cid sa ab v).size) := Lib.hid (by rw [cid_size, HLab.out])
                          go_wp2_with (first | (refine wpl_load 24 _ rfl w1.heap.size rfl _ _ _ HBA5.out Tryz.underlying24 rfl 17 Tryz.infoAddr L17.out rfl ?_) | (refine wpl_run (.agg (cid sa ab v)) _ (exec_build_cid (.tmp 99) (.tmp 100) rfl sa ab HLab.out v rfl rfl _) rfl ?_) | (refine wpl_store 48 _ _ rfl w.heap.size (cid sa ab v) rfl rfl _ _ HBR5.out 18 Tryz.infoCidr L18.out rfl (cid_one _ _ _) rfl ?_))
                          exact retA2 rfl w.heap.size rfl _ _ _ (HBR5.out.row _) Tryz.underlying48 rfl 18 Tryz.infoCidr L18.out rfl _ rfl (by unfold RcEnd; rw [HR.out]; exact ⟨rfl, below_setRow Hb5.out (Nat.le_refl _) _⟩)
                  · have q2 : decide ((t.size : Int) > 1) = false := decide_eq_false (by omega)
                    have hfig : fig8 tl = some v := by
                      unfold fig8
                      rw [if_pos ⟨by rw [HTs.out]; omega, by rw [HTs.out]; omega, HF1.out, by rw [← HVe.out]; omega, fun h => h1 (by rw [← HTs.out]; exact h.1)⟩, HVe.out]
                    obtain ⟨A, hAi, hAl, hAb, -⟩ := parsed_ints (HOt.out rfl)
                    have HR0 : Hid (cres l = if wid sa < v then ((false, z16, 0), 1) else if zeroB ab v (wid sa) = true then ((sa, ab, (v : Int)), 0) else ((false, z16, 0), 8)) := Lib.hid (by rw [HRes.out, hfig]; rfl)
                    have CW := Lib.hid (width_any sa ab)
                    have CZ : Hid (v ≤ wid sa → ∀ w, Calls Tryz.prog 61 #[.agg (adr sa ab), .int .i64 (v : Int)] w fun e w' => e = .returned (.bool (zeroB ab v (wid sa))) ∧ Below w.heap.size w w') := Lib.hid fun h w => by rw [hAi]; exact zero_any sa A hAl hAb v h w
                    obtain ⟨m, hm⟩ : ∃ m, m = wid sa := ⟨_, rfl⟩
                    rw [← hm] at CW CZ HR0
                    obtain ⟨z, hz⟩ : ∃ z, z = zeroB ab v m := ⟨_, rfl⟩
                    rw [← hz] at CZ HR0
                    clear hfig hAi hAl hAb hm hz A
                    go_wp2_with (refine wpl_load 24 _ rfl w1.heap.size rfl _ _ _ HBA.out Tryz.underlying24 rfl 17 Tryz.infoAddr L17.out rfl ?_)
                    refine (CW.out V).mono ?_
                    rintro e w4 ⟨rfl, hb4⟩
                    have HBA4 := Lib.hid (HBA.out.kept hb4)
                    have HBR4 := Lib.hid (HBR.out.kept hb4)
                    have Hb4 := Lib.hid (bel2 HbV.out hb4)
                    clear hb4
                    by_cases hvm : m < v
                    · have q5 : decide ((v : Int) > (m : Int)) = true := decide_eq_true (by omega)
                      have HR : Hid (cres l = ((false, z16, 0), 1)) := Lib.hid (by rw [HR0.out, if_pos hvm])
                      go_wp2_with (refine wpl_store 48 _ _ rfl w.heap.size (cid false z16 0) rfl rfl _ _ HBR4.out 18 Tryz.infoCidr rfl rfl (cid_one _ _ _) rfl ?_)
                      exact retA2 rfl w.heap.size rfl _ _ _ (HBR4.out.row _) Tryz.underlying48 rfl 18 Tryz.infoCidr rfl rfl _ rfl (by unfold RcEnd; rw [HR.out]; exact ⟨rfl, below_setRow Hb4.out (Nat.le_refl _) _⟩)
                    · have q5 : decide ((v : Int) > (m : Int)) = false := decide_eq_false (by omega)
                      go_wp2_with (refine wpl_load 24 _ rfl w1.heap.size rfl _ _ _ HBA4.out Tryz.underlying24 rfl 17 Tryz.infoAddr L17.out rfl ?_)
                      refine (CZ.out (by omega) w4).mono ?_
                      rintro e w5 ⟨rfl, hb5⟩
                      have HBA5 := Lib.hid (HBA4.out.kept hb5)
                      have HBR5 := Lib.hid (HBR4.out.kept hb5)
                      have Hb5 := Lib.hid (bel2 Hb4.out hb5)
                      clear hb5
                      cases z with
                      | false =>
                        have HR : Hid (cres l = ((false, z16, 0), 8)) := Lib.hid (by rw [HR0.out, if_neg hvm, if_neg (by simp)])
                        go_wp2_with (refine wpl_store 48 _ _ rfl w.heap.size (cid false z16 0) rfl rfl _ _ HBR5.out 18 Tryz.infoCidr rfl rfl (cid_one _ _ _) rfl ?_)
                        exact retA2 rfl w.heap.size rfl _ _ _ (HBR5.out.row _) Tryz.underlying48 rfl 18 Tryz.infoCidr rfl rfl _ rfl (by unfold RcEnd; rw [HR.out]; exact ⟨rfl, below_setRow Hb5.out (Nat.le_refl _) _⟩)
                      | true =>
                        have HR : Hid (cres l = ((sa, ab, (v : Int)), 0)) := Lib.hid (by rw [HR0.out, if_neg hvm, if_pos rfl])
                        have L18 : Hid (18 = (cid sa ab v).size) := Lib.hid (by rw [cid_size, HLab.out])
                        go_wp2_with (first | (refine wpl_load 24 _ rfl w1.heap.size rfl _ _ _ HBA5.out Tryz.underlying24 rfl 17 Tryz.infoAddr L17.out rfl ?_) | (refine wpl_run (.agg (cid sa ab v)) _ (exec_build_cid (.tmp 99) (.tmp 100) rfl sa ab HLab.out v rfl rfl _) rfl ?_) | (refine wpl_store 48 _ _ rfl w.heap.size (cid sa ab v) rfl rfl _ _ HBR5.out 18 Tryz.infoCidr L18.out rfl (cid_one _ _ _) rfl ?_))
                        exact retA2 rfl w.heap.size rfl _ _ _ (HBR5.out.row _) Tryz.underlying48 rfl 18 Tryz.infoCidr L18.out rfl _ rfl (by unfold RcEnd; rw [HR.out]; exact ⟨rfl, below_setRow Hb5.out (Nat.le_refl _) _⟩)
      · have qc : ((s[k].toNat : Int) != 47) = true := by
          rw [bne_iff_ne]
          intro e
          exact hc (UInt8.toNat_inj.1 (by simpa using Int.ofNat.inj e))
        have HX : Hid ((47 : UInt8) ∉ l.take (k + 1)) := Lib.hid (by
          rw [List.take_add_one, HAt.out k hlt, List.mem_append]
          rintro (h | h)
          · exact hh.out h
          · simp at h
            exact hc h.symm)
        clear hh hc
        go_wp2
        go_round
        case rel => exact ⟨k + 1, by omega, by go_num, HX.out⟩
        case measure => simp [intOf]; omega
    · obtain rfl : k = s.size := by omega
      have hcut := cut1_no l (by have := hh.out; rw [List.take_of_length_le (by rw [HSz.out]; exact Nat.le_refl _)] at this; exact this)
      have HR : Hid (cres l = ((false, z16, 0), 4)) := Lib.hid (by unfold cres; rw [hcut]; rfl)
      clear hcut hh
      go_wp2_with (refine wpl_store 48 _ _ rfl w.heap.size (cid false z16 0) rfl rfl _ _ HB0.out 18 Tryz.infoCidr rfl rfl (cid_one _ _ _) rfl ?_)
      exact retA2 rfl w.heap.size rfl _ _ _ (HB0.out.row _) Tryz.underlying48 rfl 18 Tryz.infoCidr rfl rfl _ rfl (by unfold RcEnd; rw [HR.out]; exact ⟨rfl, below_setRow Hb0.out (Nat.le_refl _) _⟩)
end Go.Proofs.YtambnnahgbegfaaGreatDoor
namespace Go.Proofs.YtambnnahgbegfaaGreatDoor
open Go.RowKit

def figsT : ByteArray := ⟨#[48, 49, 50, 51, 52, 53, 54, 55, 56, 57]⟩
theorem figsT_at : ∀ d : Fin 10, figsT.extract d.val (d.val + 1) = ⟨#[dg d.val]⟩ := by decide +kernel
theorem run_figT (d : Nat) (h : d < 10) (i j : Int) (hi : i = (d : Int)) (hj : j = (d : Int) + 1) (w : World) :
    (Instr.sliceAt 9 (.string ⟨#[48, 49, 50, 51, 52, 53, 54, 55, 56, 57]⟩) (some (.int .i64 i)) (some (.int .i64 j)) none).run Tryz.prog w = .ok (.string ⟨#[dg d]⟩) w := by
  subst hi hj
  have h0 : (0 : Int) ≤ (d : Int) := by omega
  have h2 : (d : Int) + 1 ≤ 10 := by omega
  have h3 : (d : Int) ≤ (d : Int) + 1 := by omega
  have := figsT_at ⟨d, h⟩
  unfold figsT at this
  simp only at this
  simp [Instr.sliceAt, run_underlying Tryz.underlying9, Instr.sliceBounds, go_sem, h0, h2, h3, this]

theorem dec3 : ∀ n : Fin 129, Lib.decDigits n.val = if n.val < 10 then [dg (n.val % 10)] else if n.val < 100 then [dg (n.val / 10 % 10), dg (n.val % 10)] else [dg (n.val / 100 % 10), dg (n.val / 10 % 10), dg (n.val % 10)] := by decide +kernel

set_option maxRecDepth 100000 in
set_option maxHeartbeats 4000000 in
theorem rnumeral_any (n : Nat) (hn : n ≤ 128) (w : World) : Calls Tryz.prog 64 #[.int .i64 (n : Int)] w fun e w' => e = .returned (.string (decb n)) ∧ Below w.heap.size w w' := by
  have hd := dec3 ⟨n, by omega⟩
  simp only at hd
  have HD : Hid (decb n = ⟨(Lib.decDigits n).toArray⟩) := Lib.hid rfl
  rw [hd] at HD
  obtain ⟨a, ha⟩ : ∃ a, a = n % 10 := ⟨_, rfl⟩
  obtain ⟨b, hb⟩ : ∃ b, b = n / 10 % 10 := ⟨_, rfl⟩
  obtain ⟨c, hc⟩ : ∃ c, c = n / 100 % 10 := ⟨_, rfl⟩
  obtain ⟨q, hq⟩ : ∃ q, q = n / 10 := ⟨_, rfl⟩
  obtain ⟨p, hp⟩ : ∃ p, p = n / 100 := ⟨_, rfl⟩
  rw [← ha, ← hb, ← hc] at HD
  have ea : (n : Int).tmod 10 = (a : Int) := by rw [Int.tmod_eq_emod_of_nonneg (by omega)]; omega
  have ea' : (n : Int) % 10 = (a : Int) := by omega
  have eq : IntKind.i64.wrap ((n : Int) / 10) = (q : Int) := by simp only [IntKind.wrap, IntKind.signed, IntKind.bits]; simp; omega
  have eq' : IntKind.i64.wrap ((n : Int).tdiv 10) = (q : Int) := by rw [Int.tdiv_eq_ediv_of_nonneg (by omega)]; exact eq
  have ep : IntKind.i64.wrap ((n : Int) / 100) = (p : Int) := by simp only [IntKind.wrap, IntKind.signed, IntKind.bits]; simp; omega
  have ep' : IntKind.i64.wrap ((n : Int).tdiv 100) = (p : Int) := by rw [Int.tdiv_eq_ediv_of_nonneg (by omega)]; exact ep
  have eb : (q : Int).tmod 10 = (b : Int) := by rw [Int.tmod_eq_emod_of_nonneg (by omega)]; omega
  have eb' : (q : Int) % 10 = (b : Int) := by omega
  have ec : (p : Int).tmod 10 = (c : Int) := by rw [Int.tmod_eq_emod_of_nonneg (by omega)]; omega
  have ec' : (p : Int) % 10 = (c : Int) := by omega
  have wa : IntKind.i64.wrap ((a : Int) + 1) = (a : Int) + 1 := by simp only [IntKind.wrap, IntKind.signed, IntKind.bits]; simp; omega
  have wb : IntKind.i64.wrap ((b : Int) + 1) = (b : Int) + 1 := by simp only [IntKind.wrap, IntKind.signed, IntKind.bits]; simp; omega
  have wc : IntKind.i64.wrap ((c : Int) + 1) = (c : Int) + 1 := by simp only [IntKind.wrap, IntKind.signed, IntKind.bits]; simp; omega
  have sa := run_figT a (by omega) (a : Int) ((a : Int) + 1) rfl rfl
  have sb := run_figT b (by omega) (b : Int) ((b : Int) + 1) rfl rfl
  have sc := run_figT c (by omega) (c : Int) ((c : Int) + 1) rfl rfl
  have ab : ∀ w', (Op.stringOp .add ⟨#[dg b]⟩ ⟨#[dg a]⟩).run Tryz.prog w' = .ok (.string ⟨#[dg b, dg a]⟩) w' := fun w' => run_string_add_lists w' [dg b] [dg a] (by simp) (by simp)
  have ac : ∀ w', (Op.stringOp .add ⟨#[dg c]⟩ ⟨#[dg b, dg a]⟩).run Tryz.prog w' = .ok (.string ⟨#[dg c, dg b, dg a]⟩) w' := fun w' => run_string_add_lists w' [dg c] [dg b, dg a] (by simp) (by simp)
  obtain ⟨ta, hta⟩ : ∃ t : ByteArray, t = ⟨#[dg a]⟩ := ⟨_, rfl⟩
  obtain ⟨tb, htb⟩ : ∃ t : ByteArray, t = ⟨#[dg b]⟩ := ⟨_, rfl⟩
  obtain ⟨tc, htc⟩ : ∃ t : ByteArray, t = ⟨#[dg c]⟩ := ⟨_, rfl⟩
  obtain ⟨t2, ht2⟩ : ∃ t : ByteArray, t = ⟨#[dg b, dg a]⟩ := ⟨_, rfl⟩
  obtain ⟨t3, ht3⟩ : ∃ t : ByteArray, t = ⟨#[dg c, dg b, dg a]⟩ := ⟨_, rfl⟩
  rw [← hta] at sa ab
  rw [← htb] at sb ab
  rw [← htc] at sc ac
  rw [← ht2] at ab ac
  rw [← ht3] at ac
  have HT := Lib.hid (⟨hta, ht2, ht3⟩ : ta = ⟨#[dg a]⟩ ∧ t2 = ⟨#[dg b, dg a]⟩ ∧ t3 = ⟨#[dg c, dg b, dg a]⟩)
  generalize decb n = R at *
  clear hd ha hb hc hq hp hta htb htc ht2 ht3
  by_cases h1 : n < 10
  · have q1 : decide ((n : Int) > 9) = false := decide_eq_false (by omega)
    have q2 : decide ((n : Int) > 99) = false := decide_eq_false (by omega)
    have HR : Hid (ta = R) := Lib.hid (by rw [HD.out, if_pos h1, HT.out.1])
    go_enter Tryz.func64, Tryz.ntmps64
    go_wp2
    go_ret
    exact ⟨by rw [← HR.out]; rfl, Below.refl _ _⟩
  · have q1 : decide ((n : Int) > 9) = true := decide_eq_true (by omega)
    by_cases h2 : n < 100
    · have q2 : decide ((n : Int) > 99) = false := decide_eq_false (by omega)
      have HR : Hid (t2 = R) := Lib.hid (by rw [HD.out, if_neg h1, if_pos h2, HT.out.2.1])
      go_enter Tryz.func64, Tryz.ntmps64
      go_wp2
      go_ret
      exact ⟨by rw [← HR.out]; rfl, Below.refl _ _⟩
    · have q2 : decide ((n : Int) > 99) = true := decide_eq_true (by omega)
      have HR : Hid (t3 = R) := Lib.hid (by rw [HD.out, if_neg h1, if_neg h2, HT.out.2.2])
      go_enter Tryz.func64, Tryz.ntmps64
      go_wp2
      go_ret
      exact ⟨by rw [← HR.out]; rfl, Below.refl _ _⟩

set_option linter.unusedSimpArgs false in
set_option maxRecDepth 100000 in
set_option maxHeartbeats 4000000 in
theorem rcformat_good (s : Bool) (b : List Int) (hl : b.length = 16) (n : Int) (T T1 D T2 : ByteArray) (w : World)
    (cR : ∀ w, Calls Tryz.prog 27 #[.agg (cid s b n)] w fun e w' => e = .returned (.bool true) ∧ Below w.heap.size w w')
    (cF : ∀ w, Calls Tryz.prog 63 #[.agg (adr s b)] w fun e w' => e = .returned (.string T) ∧ Below w.heap.size w w')
    (cI : ∀ w, Calls Tryz.prog 64 #[.int .i64 n] w fun e w' => e = .returned (.string D) ∧ Below w.heap.size w w')
    (h1 : ∀ w', (Op.stringOp .add T ⟨#[47]⟩).run Tryz.prog w' = .ok (.string T1) w') (h2 : ∀ w', (Op.stringOp .add T1 D).run Tryz.prog w' = .ok (.string T2) w') :
    Calls Tryz.prog 29 #[.agg (cid s b n)] w fun e w' => e = .returned (.string T2) ∧ Below w.heap.size w w' := by
  obtain ⟨W0, hW0⟩ : ∃ W, W = w.alloc (.cells (cid s b n) 48) := ⟨_, rfl⟩
  have hB0 : Blk W0 w.heap.size 48 (cid s b n) := hW0 ▸ Blk.new w _ _
  have hb0 : Below w.heap.size w W0 := hW0 ▸ (Below.refl _ _).alloc (Nat.le_refl _) _
  have HW0 := Lib.hid hW0.symm
  have HB0 := Lib.hid hB0
  have Hb0 := Lib.hid hb0
  have LB := Lib.hid hl
  have L18 : Hid (18 = (cid s b n).size) := Lib.hid (by rw [cid_size, hl])
  have CR := Lib.hid cR
  have CF := Lib.hid cF
  have CI := Lib.hid cI
  clear hW0 hB0 hb0 hl cR cF cI
  go_enter Tryz.func29, Tryz.ntmps29
  go_upto_region 1 with fail
  rw [HW0.out]
  go_wp2_with (refine wpl_load 48 _ rfl w.heap.size rfl _ _ _ HB0.out Tryz.underlying48 rfl 18 Tryz.infoCidr L18.out rfl ?_)
  refine (CR.out W0).mono ?_
  rintro e w1 ⟨rfl, hb1⟩
  have hS0 : Blk w1.drew (w.heap.size) 48 (cid s b n) ∧ Below w.heap.size w w1.drew := ⟨(HB0.out.kept hb1).kept (below_drewN w1 1), bel2 (bel2 Hb0.out hb1) (below_drewN w1 1)⟩
  clear hb1
  go_wp2_with fail
  refine wp_region_held_drew (S := fun w' => Blk w' (w.heap.size) 48 (cid s b n) ∧ Below w.heap.size w w') (by kernel_rfl) hS0 (fun hS => ?_)
  change wpAnyH _ _ _ _ _ 9 #[false, false, false, false, false, false, false, false, false] _ _
  refine wpAnyH_take (i := 0) (v := .pointer (some ⟨w.heap.size, 0, none⟩)) rfl (by kernel_rfl) (by kernel_rfl) (by kernel_rfl) (fun _ _ _ h => h) (.inl ⟨by kernel_rfl, fun w _ => by kernel_rfl⟩) hS ?_
  simp only [List.getElem_toArray, List.getElem_cons_zero, List.getElem_cons_succ, Act.put, List.setIfInBounds_toArray, List.set_cons_zero, List.set_cons_succ]
  refine wpAnyH_take (i := 1) (v := .agg (adr s b)) rfl (by kernel_rfl) (by kernel_rfl) (by kernel_rfl) (fun _ _ _ h => h) (yields_addr (.tmp 6) rfl (w.heap.size) (by kernel_rfl) s b n (fun w h => h.1) LB.out (by kernel_rfl)) hS ?_
  simp only [List.getElem_toArray, List.getElem_cons_zero, List.getElem_cons_succ, Act.put, List.setIfInBounds_toArray, List.set_cons_zero, List.set_cons_succ]
  refine wpAnyH_take (i := 4) (v := .pointer (some ⟨w.heap.size, 17, none⟩)) rfl (by kernel_rfl) (by kernel_rfl) (by kernel_rfl) (fun _ _ _ h => h) (.inl ⟨by kernel_rfl, fun w _ => by kernel_rfl⟩) hS ?_
  simp only [List.getElem_toArray, List.getElem_cons_zero, List.getElem_cons_succ, Act.put, List.setIfInBounds_toArray, List.set_cons_zero, List.set_cons_succ]
  refine wpAnyH_take (i := 5) (v := .int .i64 n) rfl (by kernel_rfl) (by kernel_rfl) (by kernel_rfl) (fun _ _ _ h => h) (yields_cell (.tmp 10) rfl (w.heap.size) 17 (by kernel_rfl) n (fun w h => cid_bitsCell h.1 LB.out) (by kernel_rfl)) hS ?_
  simp only [List.getElem_toArray, List.getElem_cons_zero, List.getElem_cons_succ, Act.put, List.setIfInBounds_toArray, List.set_cons_zero, List.set_cons_succ]
  refine wpAnyH_ready (rs := [2]) (by kernel_rfl) (by simp) ?_
  refine AllReadyH.cons rfl (fun K' hK => ?_) AllReadyH.nil
  refine step_call 63 #[.agg (adr s b)] (by kernel_rfl) (by kernel_rfl) (.string T) (CF.out _) (fun w2 hb2 => hK.out _ _ (⟨hS.1.kept hb2, bel2 hS.2 hb2⟩) (fun hS => ?_))
  simp only [List.getElem_toArray, List.getElem_cons_zero, List.getElem_cons_succ, Act.put, List.setIfInBounds_toArray, List.set_cons_zero, List.set_cons_succ]
  refine wpAnyH_take (i := 3) (v := .string T1) rfl (by kernel_rfl) (by kernel_rfl) (by kernel_rfl) (fun _ _ _ h => h) (.inl ⟨by kernel_rfl, fun w _ => exec_sadd 9 9 (.tmp 8) (.const (.string ⟨#[47]⟩)) rfl T ⟨#[47]⟩ T1 (by kernel_rfl) (by kernel_rfl) (h1 w)⟩) hS ?_
  simp only [List.getElem_toArray, List.getElem_cons_zero, List.getElem_cons_succ, Act.put, List.setIfInBounds_toArray, List.set_cons_zero, List.set_cons_succ]
  refine wpAnyH_ready (rs := [6]) (by kernel_rfl) (by simp) ?_
  refine AllReadyH.cons rfl (fun K' hK => ?_) AllReadyH.nil
  refine step_call 64 #[.int .i64 n] (by kernel_rfl) (by kernel_rfl) (.string D) (CI.out _) (fun w3 hb3 => hK.out _ _ (⟨hS.1.kept hb3, bel2 hS.2 hb3⟩) (fun hS => ?_))
  simp only [List.getElem_toArray, List.getElem_cons_zero, List.getElem_cons_succ, Act.put, List.setIfInBounds_toArray, List.set_cons_zero, List.set_cons_succ]
  refine wpAnyH_take (i := 7) (v := .string T2) rfl (by kernel_rfl) (by kernel_rfl) (by kernel_rfl) (fun _ _ _ h => h) (.inl ⟨by kernel_rfl, fun w _ => exec_sadd 9 9 (.tmp 9) (.tmp 12) rfl T1 D T2 (by kernel_rfl) (by kernel_rfl) (h2 w)⟩) hS ?_
  simp only [List.getElem_toArray, List.getElem_cons_zero, List.getElem_cons_succ, Act.put, List.setIfInBounds_toArray, List.set_cons_zero, List.set_cons_succ]
  refine wpAnyH_take (i := 8) (v := .string T2) rfl (by kernel_rfl) (by kernel_rfl) (by kernel_rfl) (fun _ _ _ h => h) (.inl ⟨by kernel_rfl, fun w _ => by kernel_rfl⟩) hS ?_
  simp only [List.getElem_toArray, List.getElem_cons_zero, List.getElem_cons_succ, Act.put, List.setIfInBounds_toArray, List.set_cons_zero, List.set_cons_succ]
  refine wpAnyH_done (by kernel_rfl) ?_ _
  obtain ⟨_, hbE⟩ := hS
  go_wp2
  go_ret
  exact ⟨rfl, hbE⟩

set_option maxRecDepth 100000 in
set_option maxHeartbeats 1000000 in
theorem rcformat_bad (s : Bool) (b : List Int) (hl : b.length = 16) (n : Int) (w : World)
    (cR : ∀ w, Calls Tryz.prog 27 #[.agg (cid s b n)] w fun e w' => e = .returned (.bool false) ∧ Below w.heap.size w w') :
    Calls Tryz.prog 29 #[.agg (cid s b n)] w fun e w' => e = .returned (.string ⟨#[]⟩) ∧ Below w.heap.size w w' := by
  obtain ⟨W0, hW0⟩ : ∃ W, W = w.alloc (.cells (cid s b n) 48) := ⟨_, rfl⟩
  have hB0 : Blk W0 w.heap.size 48 (cid s b n) := hW0 ▸ Blk.new w _ _
  have hb0 : Below w.heap.size w W0 := hW0 ▸ (Below.refl _ _).alloc (Nat.le_refl _) _
  have HW0 := Lib.hid hW0.symm
  have HB0 := Lib.hid hB0
  have Hb0 := Lib.hid hb0
  have L18 : Hid (18 = (cid s b n).size) := Lib.hid (by rw [cid_size, hl])
  have CR := Lib.hid (cR W0)
  clear hW0 hB0 hb0 hl cR
  go_enter Tryz.func29, Tryz.ntmps29
  go_upto_region 1 with fail
  rw [HW0.out]
  go_wp2_with (refine wpl_load 48 _ rfl w.heap.size rfl _ _ _ HB0.out Tryz.underlying48 rfl 18 Tryz.infoCidr L18.out rfl ?_)
  refine CR.out.mono ?_
  rintro e w1 ⟨rfl, hb1⟩
  go_wp2
  go_ret
  exact ⟨rfl, bel2 Hb0.out hb1⟩

set_option maxRecDepth 100000 in
set_option maxHeartbeats 1000000 in
theorem ccformat_bad (s : Bool) (b : List Int) (hl : b.length = 16) (n : Int) (EA ER : Value) (w : World) (hE3 : Env3 EA ER w)
    (cR : ∀ w, Env3 EA ER w → Calls Tryz.prog 26 #[.agg (cid s b n)] w fun e w' => e = .returned (.bool false) ∧ Below w.heap.size w w') :
    Calls Tryz.prog 28 #[.agg (cid s b n)] w fun e w' => e = .returned (.string ⟨#[]⟩) ∧ Below w.heap.size w w' := by
  obtain ⟨W0, hW0⟩ : ∃ W, W = w.alloc (.cells (cid s b n) 48) := ⟨_, rfl⟩
  have hB0 : Blk W0 w.heap.size 48 (cid s b n) := hW0 ▸ Blk.new w _ _
  have hb0 : Below w.heap.size w W0 := hW0 ▸ (Below.refl _ _).alloc (Nat.le_refl _) _
  have HW0 := Lib.hid hW0.symm
  have HB0 := Lib.hid hB0
  have Hb0 := Lib.hid hb0
  have L18 : Hid (18 = (cid s b n).size) := Lib.hid (by rw [cid_size, hl])
  have CR := Lib.hid (cR W0 (hE3.kept hb0))
  clear hW0 hB0 hb0 hl hE3 cR
  go_enter Tryz.func28, Tryz.ntmps28
  go_upto_region 1 with fail
  rw [HW0.out]
  go_wp2_with (refine wpl_load 48 _ rfl w.heap.size rfl _ _ _ HB0.out Tryz.underlying48 rfl 18 Tryz.infoCidr L18.out rfl ?_)
  refine CR.out.mono ?_
  rintro e w1 ⟨rfl, hb1⟩
  go_wp2
  go_ret
  exact ⟨rfl, bel2 Hb0.out hb1⟩

end Go.Proofs.YtambnnahgbegfaaGreatDoor
namespace Go.Proofs.YtambnnahgbegfaaGreatDoor
open Go.RowKit

theorem fig8_num10 (l : List UInt8) : fig8 l = match num10 l with | some u => if u ≤ 128 then some u else none | none => none := by
  unfold fig8 num10
  by_cases h : 1 ≤ l.length ∧ l.length ≤ 3 ∧ figs 10 l = true ∧ numb 10 0 l ≤ 255 ∧ ¬ (1 < l.length ∧ l.head? = some 48)
  · rw [if_pos h]
    by_cases h2 : numb 10 0 l ≤ 128
    · rw [if_pos ⟨h.1, h.2.1, h.2.2.1, h2, h.2.2.2.2⟩]
      simp [h2]
    · rw [if_neg (fun x => h2 x.2.2.2.1)]
      simp [h2]
  · rw [if_neg h, if_neg (fun x => h ⟨x.1, x.2.1, x.2.2.1, by have := x.2.2.2.1; omega, x.2.2.2.2⟩)]

theorem pu8_le {l : List UInt8} {u : Nat} (h : Lib.parseUintB 8 l = .ok u) : u ≤ 255 := by
  unfold Lib.parseUintB at h
  split at h
  · cases h
  · obtain ⟨_, h2, h3⟩ := parseM_ok l 0 u (by omega) h
    omega

theorem figures_any (s : ByteArray) (hs : s.size ≤ 1000) (E : Value) (w : World) (hE : Env E w) :
    Calls Tryz.prog 59 #[.string s] w fun e w' => e = .returned (.tuple #[.int .i64 (((fig8 s.data.toList).getD 0 : Nat) : Int), .bool (fig8 s.data.toList).isSome]) ∧ Below w.heap.size w w' := by
  by_cases hok : ∃ u, Lib.parseUintB 8 s.data.toList = .ok u
  · obtain ⟨u, hu⟩ := hok
    have h255 := pu8_le hu
    by_cases hz : 1 < s.data.toList.length ∧ s.data.toList.head? = some 48
    · rw [fig8_num10, num10_zero _ hz]
      exact figures_bad s hs E w hE (.inr ⟨u, hu, h255, .inr hz⟩)
    · rw [fig8_num10, num10_ok _ u hu hz]
      by_cases h128 : u ≤ 128
      · simp only [if_pos h128]
        exact figures_good s hs u hu h128 hz w
      · simp only [if_neg h128]
        exact figures_bad s hs E w hE (.inr ⟨u, hu, h255, .inl (by omega)⟩)
  · have hno : ∀ u, Lib.parseUintB 8 s.data.toList ≠ .ok u := fun u hu => hok ⟨u, hu⟩
    rw [fig8_num10, num10_bad _ hno]
    exact figures_bad s hs E w hE (.inl hno)

/-- The error of a number. -/
def errOf (E EA ER : Value) (k : Int) : Value := if k = 0 then .nilIface else if k = 1 then ER else if k = 4 then E else EA

theorem zero_iff (s : Bool) (A : List Nat) (hl : A.length = 16) (hA : ∀ x ∈ A, x < 256) (N : Nat) (hN : N ≤ wid s) (hr : (s || flat (ints A)) = true) : (ints (cutTo A N 16) == ints A) = zeroB (ints A) N (wid s) := by
  rw [cont_iff s A A hl hA N hN hr, agree_self, Bool.and_true]
  unfold rightC
  rw [hr, decide_eq_true (show (0 : Int) ≤ (N : Int) by omega), decide_eq_true (show (N : Int) ≤ (wid s : Int) by omega), Int.toNat_natCast]
  simp

theorem cparse_any (s : ByteArray) (hs : s.size ≤ 1000) (ue u u' : TypeId) (pe p p' : Value) (w : World) (hE : Env (.iface ue pe) w) (hE3 : Env3 (.iface u p) (.iface u' p') w) :
    Calls Tryz.prog 24 #[.string s] w fun e w' => e = .returned (.tuple #[.agg (cid (cres s.data.toList).1.1 (cres s.data.toList).1.2.1 (cres s.data.toList).1.2.2), errOf (.iface ue pe) (.iface u p) (.iface u' p') (cres s.data.toList).2]) ∧ Below w.heap.size w w' := by
  have hle := cut_le s.data.toList [47]
  rw [← Lib.size_eq] at hle
  have cC := fun w hE => cut_slash s hs (.iface ue pe) w hE
  have cP := fun w hE => parse_any ⟨(Lib.cut s.data.toList [47]).1.toArray⟩ (by rw [Lib.size_eq]; simp only; omega) (.iface ue pe) w hE
  have cF := fun w hE => figures_any ⟨(Lib.cut s.data.toList [47]).2.1.toArray⟩ (by rw [Lib.size_eq]; simp only; omega) (.iface ue pe) w hE
  simp only at cP cF
  unfold cres
  cases hf : (Lib.cut s.data.toList [47]).2.2 with
  | false =>
    rw [if_neg (by simp)]
    rw [hf] at cC
    cases hp : parsed (Lib.cut s.data.toList [47]).1 with
    | none =>
      rw [hp] at cP
      exact cparse_cut s _ _ false z16 rfl _ _ (.iface ue pe) (.iface ue pe) w hE cC cP cF
    | some x =>
      obtain ⟨sx, bx⟩ := x
      rw [hp] at cP
      exact cparse_cut s _ _ sx bx (by obtain ⟨A, rfl, hA, _⟩ := parsed_ints hp; rw [ints_length, hA]) _ _ (.iface ue pe) .nilIface w hE cC cP cF
  | true =>
    rw [if_pos rfl]
    rw [hf] at cC
    cases hp : parsed (Lib.cut s.data.toList [47]).1 with
    | none =>
      rw [hp] at cP
      exact cparse_ad s _ _ false z16 rfl _ _ ue pe (.iface ue pe) w hE cC cP cF
    | some x =>
      obtain ⟨sx, bx⟩ := x
      rw [hp] at cP
      obtain ⟨A, rfl, hA, hB, hr⟩ := parsed_ints hp
      have hli : (ints A).length = 16 := by rw [ints_length, hA]
      cases hg : fig8 (Lib.cut s.data.toList [47]).2.1 with
      | none =>
        rw [hg] at cF
        exact cparse_fig s _ _ sx (ints A) hli _ (.iface ue pe) w hE cC cP cF
      | some n =>
        rw [hg] at cF
        simp only [Option.getD_some, Option.isSome_some] at cF
        have cO := fun w hE3 => of_any sx A hA hB n (.iface u p) (.iface u' p') w hE3
        unfold ofC at cO
        rw [if_pos hr] at cO
        simp only
        by_cases hw : wid sx < n
        · rw [if_neg (by omega)] at cO
          rw [if_pos hw]
          exact cparse_of s _ _ sx (ints A) hli n u' p' (.iface ue pe) _ _ w hE hE3 cC cP cF cO
        · rw [if_pos ⟨by omega, by omega⟩] at cO
          rw [if_neg hw]
          have hzi := zero_iff sx A hA hB n (by omega) hr
          cases hz : zeroB (ints A) n (wid sx) with
          | true =>
            rw [hz] at hzi
            rw [beq_iff_eq.1 hzi] at cO
            rw [if_pos rfl]
            exact cparse_good s _ _ sx (ints A) hli n (.iface ue pe) _ _ w hE hE3 cC cP cF cO
          | false =>
            rw [hz] at hzi
            rw [if_neg (by simp)]
            exact cparse_adr s _ _ sx (ints A) hli n (ints (cutTo A n 16)) (.iface ue pe) _ _ w hE hE3 cC cP cF cO (by rw [ints_length, cutTo_length]) hzi

theorem mem_pieces (c x : UInt8) (hx : x ≠ c) : ∀ l : List UInt8, x ∈ l → ∃ p ∈ pieces c l, x ∈ p
  | [], h => by cases h
  | y :: l, h => by
    rcases List.mem_cons.1 h with rfl | h
    · unfold pieces
      rw [if_neg hx]
      split
      · exact ⟨[x], by simp, by simp⟩
      · rename_i p ps _
        exact ⟨x :: p, by simp, by simp⟩
    · obtain ⟨p, hp, hxp⟩ := mem_pieces c x hx l h
      unfold pieces
      split
      · exact ⟨p, List.mem_cons_of_mem _ hp, hxp⟩
      · split
        · rename_i e
          exact absurd e (pieces_ne c l)
        · rename_i q qs e
          rw [e] at hp
          rcases List.mem_cons.1 hp with rfl | hp
          · exact ⟨y :: p, by simp, by simp [hxp]⟩
          · exact ⟨p, by simp [hp], hxp⟩

theorem figs_slash (b : Nat) (hb : b ≤ 16) (p : List UInt8) (h : figs b p = true) : (47 : UInt8) ∉ p := fun hm => by
  have := List.all_eq_true.1 h 47 hm
  have h99 : fig 47 = 99 := by decide
  simp [h99] at this
  omega

theorem allOf_each (f : List UInt8 → Option Nat) {l : List (List UInt8)} {ns : List Nat} (h : allOf f l = some ns) {p : List UInt8} (hp : p ∈ l) : f p ≠ none := fun hn => by
  obtain ⟨j, hj, e⟩ := List.getElem_of_mem hp
  have := allOf_none f l j p (by rw [List.getElem?_eq_getElem hj, e]) hn
  rw [this] at h
  cases h

theorem groups_slash {l : List UInt8} {ns : List Nat} (h : groups l = some ns) : (47 : UInt8) ∉ l := fun hm => by
  unfold groups at h
  split at h
  · rename_i e
    rw [e] at hm
    cases hm
  · obtain ⟨p, hp, hxp⟩ := mem_pieces 58 47 (by decide) l hm
    have := allOf_each grp h hp
    unfold grp at this
    split at this
    · rename_i hh
      exact figs_slash 16 (by omega) p hh.2.2 hxp
    · exact this rfl

theorem parsed_slash {l : List UInt8} {x : Bool × List Int} (h : parsed l = some x) : (47 : UInt8) ∉ l := fun hm => by
  unfold parsed at h
  split at h
  · cases e : six l with
    | none => rw [e] at h; cases h
    | some g =>
      unfold six at e
      split at e
      · rename_i a b ea eb
        have h1 := groups_slash ea
        have h2 := groups_slash eb
        unfold Lib.cut at h1 h2
        split at h1
        · rename_i hi
          rw [if_pos hi] at h2
          rcases Lib.index_spec l [58, 58] with ⟨h3, _⟩ | ⟨i, h3, _, ho, _⟩
          · omega
          · rw [h3] at h1 h2
            simp only [Int.toNat_natCast] at h1 h2
            have hpr := (occ2 l i).1 ho
            obtain ⟨j, hj, ej⟩ := List.getElem_of_mem hm
            have hjj : l[j]? = some 47 := by rw [List.getElem?_eq_getElem hj, ej]
            rcases Nat.lt_or_ge j i with hji | hji
            · exact h1 (List.mem_of_getElem? (by rw [List.getElem?_take, if_pos hji]; exact hjj))
            · rcases Nat.lt_or_ge j (i + 2) with hj2 | hj2
              · have hj3 : j = i ∨ j = i + 1 := by omega
                rcases hj3 with rfl | rfl
                · have := hpr.1.symm.trans hjj
                  simp at this
                · have := hpr.2.symm.trans hjj
                  simp at this
              · exact h2 (List.mem_of_getElem? (i := j - (i + 2)) (by
                  rw [List.getElem?_drop]
                  have e : i + 2 + (j - (i + 2)) = j := by omega
                  show l[i + 2 + (j - (i + 2))]? = some 47
                  rw [e]
                  exact hjj))
        · exact h1 hm
      · cases e
  · unfold four at h
    split at h
    · cases e : allOf num10 (pieces 46 l) with
      | none => rw [e] at h; cases h
      | some ns =>
        obtain ⟨p, hp, hxp⟩ := mem_pieces 46 47 (by decide) l hm
        have := allOf_each num10 e hp
        unfold num10 at this
        split at this
        · rename_i hh
          exact figs_slash 10 (by omega) p hh.2.2.1 hxp
        · exact this rfl
    · cases h

theorem fig8_dec : ∀ n : Fin 129, fig8 (Lib.decDigits n.val) = some n.val := by decide +kernel

theorem cres_text (T : List UInt8) (s : Bool) (b : List Int) (hp : parsed T = some (s, b)) (N : Nat) (h128 : N ≤ 128) (hN : N ≤ wid s) (hz : zeroB b N (wid s) = true) : cres (T ++ ([47] ++ Lib.decDigits N)) = ((s, b, (N : Int)), 0) := by
  have hs := parsed_slash hp
  have hc := cut1_at (T ++ ([47] ++ Lib.decDigits N)) T.length (by simp) (by rw [List.take_left]; exact hs)
  have hd : (T ++ ([47] ++ Lib.decDigits N)).drop (T.length + 1) = Lib.decDigits N := by
    rw [← List.drop_drop, List.drop_left]
    rfl
  rw [List.take_left, hd] at hc
  unfold cres
  rw [hc]
  simp only [if_true, hp, fig8_dec ⟨N, by omega⟩]
  rw [if_neg (by omega), if_pos hz]
end Go.Proofs.YtambnnahgbegfaaGreatDoor
namespace Go.Proofs.YtambnnahgbegfaaGreatDoor
open Go.RowKit

theorem exec_sneq2 {P : Program} {a : Act} {w : World} {o : Oper} (t t' : TypeId) (x y : Operand) (ho : o.op = .binOp .neq t x y t') (s : ByteArray) (hx : a.eval x = .string s) (hy : a.eval y = .string s) :
    (execOp a.eval o).run P w = .ok (.value (.bool false)) w := by
  unfold execOp
  simp only [ho, hx, hy, eqGuard, binOp]
  simp [Op.stringOp, go_sem]
theorem exec_neq_cid {a : Act} {o : Oper} (x y : Operand) (ho : o.op = .binOp .neq 48 x y 48) (s : Bool) (b : List Int) (hl : b.length = 16) (n : Int) (hx : a.eval x = .agg (cid s b n)) (hy : a.eval y = .agg (cid s b n)) (w : World) :
    (execOp a.eval o).run Tryz.prog w = .ok (.value (.bool false)) w := by
  have h : (binOp .neq 48 (.agg (cid s b n)) (.agg (cid s b n))).run Tryz.prog w = .ok (.bool false) w := by
    rw [run_neq_struct, equalIn_cid 9996 s s b b n n hl hl, show ((s == s && b == b) && n == n) = true by simp]
    rfl
  unfold execOp
  simp only [ho, hx, hy]
  simp [go_sem] at h ⊢
  first | exact h | simp [h]

set_option maxRecDepth 100000 in
set_option maxHeartbeats 1000000 in
theorem cps_long (s : ByteArray) (hs : 200 < s.size) (cs : Bool) (cb : List Int) (n : Int) (E EA ER : Value) (w : World) (hE : Env E w) (hE3 : Env3 EA ER w)
    (c0 : ∀ w, Env E w → Env3 EA ER w → Calls Tryz.prog 23 #[] w fun e w' => e = .returned (.bool true) ∧ Below w.heap.size w w') :
    Calls Tryz.prog 4 #[.string s, .agg (cid cs cb n)] w fun e w' => e = .returned (.bool true) ∧ Below w.heap.size w w' := by
  obtain ⟨W0, hW0⟩ : ∃ W, W = w.alloc (.cells (cid cs cb n) 48) := ⟨_, rfl⟩
  have hb0 : Below w.heap.size w W0 := hW0 ▸ (Below.refl _ _).alloc (Nat.le_refl _) _
  have HW0 := Lib.hid hW0.symm
  have C0 := Lib.hid (c0 W0 (hE.kept hb0) (hE3.kept hb0))
  clear hW0 hE hE3 c0
  go_enter Tryz.func4, Tryz.ntmps4
  go_upto_region 1 with fail
  rw [HW0.out]
  go_wp2_with fail
  refine C0.out.mono ?_
  rintro e w1 ⟨rfl, hb1⟩
  go_wp2
  go_ret
  exact ⟨rfl, bel2 hb0 hb1⟩

set_option linter.unusedSimpArgs false in
set_option maxRecDepth 100000 in
set_option maxHeartbeats 8000000 in
theorem cps_walk (s : ByteArray) (hs : s.size ≤ 200) (cs : Bool) (cb : List Int) (hlc : cb.length = 16) (n : Int) (xs : Bool) (xb : List Int) (hlx : xb.length = 16) (xn : Int) (er : Value) (k : Int) (R : Bool) (T : ByteArray) (E EA ER : Value) (w : World) (hE : Env E w) (hE3 : Env3 EA ER w)
    (c0 : ∀ w, Env E w → Env3 EA ER w → Calls Tryz.prog 23 #[] w fun e w' => e = .returned (.bool true) ∧ Below w.heap.size w w')
    (cA : ∀ w, Env E w → Env3 EA ER w → Calls Tryz.prog 24 #[.string s] w fun e w' => e = .returned (.tuple #[.agg (cid xs xb xn), er]) ∧ Below w.heap.size w w')
    (cB : ∀ w, Calls Tryz.prog 25 #[.string s] w fun e w' => e = .returned (.tuple #[.agg (cid xs xb xn), .int .i64 k]) ∧ Below w.heap.size w w')
    (cN : ∀ w', Below w.heap.size w w' → Calls Tryz.prog 15 #[er] w' fun e w2 => e = .returned (.int .i64 k) ∧ Below w'.heap.size w' w2)
    (c1 : ∀ w, Env3 EA ER w → Calls Tryz.prog 26 #[.agg (cid cs cb n)] w fun e w' => e = .returned (.bool R) ∧ Below w.heap.size w w')
    (c2 : ∀ w, Calls Tryz.prog 27 #[.agg (cid cs cb n)] w fun e w' => e = .returned (.bool R) ∧ Below w.heap.size w w')
    (c3 : ∀ w, Env E w → Env3 EA ER w → Calls Tryz.prog 28 #[.agg (cid cs cb n)] w fun e w' => e = .returned (.string T) ∧ Below w.heap.size w w')
    (c4 : ∀ w, Calls Tryz.prog 29 #[.agg (cid cs cb n)] w fun e w' => e = .returned (.string T) ∧ Below w.heap.size w w')
    (c5 : R = true → ∀ w, Env E w → Env3 EA ER w → Calls Tryz.prog 24 #[.string T] w fun e w' => e = .returned (.tuple #[.agg (cid cs cb n), .nilIface]) ∧ Below w.heap.size w w') :
    Calls Tryz.prog 4 #[.string s, .agg (cid cs cb n)] w fun e w' => e = .returned (.bool true) ∧ Below w.heap.size w w' := by
  obtain ⟨W0, hW0⟩ : ∃ W, W = w.alloc (.cells (cid cs cb n) 48) := ⟨_, rfl⟩
  have hB0 : Blk W0 w.heap.size 48 (cid cs cb n) := hW0 ▸ Blk.new w _ _
  have hb0 : Below w.heap.size w W0 := hW0 ▸ (Below.refl _ _).alloc (Nat.le_refl _) _
  have HW0 := Lib.hid hW0.symm
  have HB0 := Lib.hid hB0
  have Hb0 := Lib.hid hb0
  have HE := Lib.hid hE
  have HE3 := Lib.hid hE3
  have LX := Lib.hid hlx
  have L18c : Hid (18 = (cid cs cb n).size) := Lib.hid (by rw [cid_size, hlc])
  have L18x : Hid (18 = (cid xs xb xn).size) := Lib.hid (by rw [cid_size, hlx])
  have C0 := Lib.hid c0
  have CA := Lib.hid cA
  have CB := Lib.hid cB
  have CN := Lib.hid cN
  have C1 := Lib.hid c1
  have C2 := Lib.hid c2
  have C3 := Lib.hid c3
  have C4 := Lib.hid c4
  have C5 := Lib.hid c5
  have HQ := Lib.hid (eql_cid cs cs cb cb n n hlc hlc)
  clear hW0 hB0 hb0 hE hE3 hlc hlx c0 cA cB cN c1 c2 c3 c4 c5
  go_enter Tryz.func4, Tryz.ntmps4
  go_upto_region 1 with fail
  rw [HW0.out]
  go_wp2_with fail
  refine (C0.out W0 (HE.out.kept Hb0.out) (HE3.out.kept Hb0.out)).mono ?_
  rintro e w1 ⟨rfl, hb1⟩
  have HB1 := Lib.hid (HB0.out.kept hb1)
  have Hb1 := Lib.hid (bel2 Hb0.out hb1)
  clear hb1
  go_wp2_with fail
  refine (CA.out w1 (HE.out.kept Hb1.out) (HE3.out.kept Hb1.out)).mono ?_
  rintro e w2 ⟨rfl, hb2⟩
  have HB2 := Lib.hid (HB1.out.kept hb2)
  have Hb2 := Lib.hid (bel2 Hb1.out hb2)
  clear hb2
  obtain ⟨W3, hW3⟩ : ∃ W, W = w2.alloc (.cells (cid false z16 0) 48) := ⟨_, rfl⟩
  have hBW3 : Blk W3 w2.heap.size 48 (cid false z16 0) := hW3 ▸ Blk.new w2 _ _
  have hbW3 : Below w2.heap.size w2 W3 := hW3 ▸ (Below.refl _ _).alloc (Nat.le_refl _) _
  have HW3 : Hid (w2.alloc (.cells #[.bool false, .int .u8 0, .int .u8 0, .int .u8 0, .int .u8 0, .int .u8 0, .int .u8 0, .int .u8 0, .int .u8 0, .int .u8 0, .int .u8 0, .int .u8 0, .int .u8 0, .int .u8 0, .int .u8 0, .int .u8 0, .int .u8 0, .int .i64 0] 48) = W3) := Lib.hid hW3.symm
  have HBW3 := Lib.hid hBW3
  obtain ⟨V3, hV3⟩ : ∃ V, V = W3.setRow w2.heap.size (cid xs xb xn) := ⟨_, rfl⟩
  have HV3 := Lib.hid hV3.symm
  have hblV3 : Below w2.heap.size w2 V3 := hV3 ▸ below_setRow hbW3 (Nat.le_refl _) _
  have HNV3 : Hid (Blk V3 w2.heap.size 48 (cid xs xb xn)) := Lib.hid (hV3 ▸ hBW3.row _)
  have hsz2 : w.heap.size < w2.heap.size := HB2.out.lt
  have HB3 := Lib.hid (HB2.out.kept hblV3)
  have Hb3 : Hid (Below w.heap.size w V3) := Lib.hid (bel2 Hb2.out hblV3)
  clear hW3 hBW3 hbW3 hV3 hblV3
  go_wp2_with ((try rw [HW3.out]); refine wpl_store 48 _ _ rfl w2.heap.size (cid xs xb xn) rfl rfl _ _ HBW3.out 18 Tryz.infoCidr L18x.out rfl (cid_one _ _ _) rfl ?_; rw [HV3.out])
  refine (CB.out V3).mono ?_
  rintro e w4 ⟨rfl, hb4⟩
  have HB4 := Lib.hid (HB3.out.kept hb4)
  have HX4 := Lib.hid (HNV3.out.kept hb4)
  have Hb4 := Lib.hid (bel2 Hb3.out hb4)
  clear hb4
  obtain ⟨W5, hW5⟩ : ∃ W, W = w4.alloc (.cells (cid false z16 0) 48) := ⟨_, rfl⟩
  have hBW5 : Blk W5 w4.heap.size 48 (cid false z16 0) := hW5 ▸ Blk.new w4 _ _
  have hbW5 : Below w4.heap.size w4 W5 := hW5 ▸ (Below.refl _ _).alloc (Nat.le_refl _) _
  have HW5 : Hid (w4.alloc (.cells #[.bool false, .int .u8 0, .int .u8 0, .int .u8 0, .int .u8 0, .int .u8 0, .int .u8 0, .int .u8 0, .int .u8 0, .int .u8 0, .int .u8 0, .int .u8 0, .int .u8 0, .int .u8 0, .int .u8 0, .int .u8 0, .int .u8 0, .int .i64 0] 48) = W5) := Lib.hid hW5.symm
  have HBW5 := Lib.hid hBW5
  obtain ⟨V5, hV5⟩ : ∃ V, V = W5.setRow w4.heap.size (cid xs xb xn) := ⟨_, rfl⟩
  have HV5 := Lib.hid hV5.symm
  have hblV5 : Below w4.heap.size w4 V5 := hV5 ▸ below_setRow hbW5 (Nat.le_refl _) _
  have HNV5 : Hid (Blk V5 w4.heap.size 48 (cid xs xb xn)) := Lib.hid (hV5 ▸ hBW5.row _)
  have hS0 : Blk V5.drew (w.heap.size) 48 (cid cs cb n) ∧ Blk V5.drew (w2.heap.size) 48 (cid xs xb xn) ∧ Blk V5.drew (w4.heap.size) 48 (cid xs xb xn) ∧ Env E V5.drew ∧ Env3 EA ER V5.drew ∧ Below w.heap.size w V5.drew := by
    have hbd := bel2 hblV5 (below_drewN V5 1)
    exact ⟨HB4.out.kept hbd, HX4.out.kept hbd, HNV5.out.kept (below_drewN V5 1), HE.out.kept (bel2 Hb4.out hbd), HE3.out.kept (bel2 Hb4.out hbd), bel2 Hb4.out hbd⟩
  clear hW5 hBW5 hbW5 hV5 hblV5
  go_wp2_with ((try rw [HW5.out]); refine wpl_store 48 _ _ rfl w4.heap.size (cid xs xb xn) rfl rfl _ _ HBW5.out 18 Tryz.infoCidr L18x.out rfl (cid_one _ _ _) rfl ?_; rw [HV5.out])
  refine wp_region_held_drew (S := fun w' => Blk w' (w.heap.size) 48 (cid cs cb n) ∧ Blk w' (w2.heap.size) 48 (cid xs xb xn) ∧ Blk w' (w4.heap.size) 48 (cid xs xb xn) ∧ Env E w' ∧ Env3 EA ER w' ∧ Below w.heap.size w w') (by kernel_rfl) hS0 (fun hS => ?_)
  change wpAnyH _ _ _ _ _ 23 #[false, false, false, false, false, false, false, false, false, false, false, false, false, false, false, false, false, false, false, false, false, false, false] _ _
  refine wpAnyH_take (i := 0) (v := .agg (cid xs xb xn)) rfl (by kernel_rfl) (by kernel_rfl) (by kernel_rfl) (fun _ _ _ h => h) (yields_load 48 (.tmp 5) rfl (w2.heap.size) (by kernel_rfl) _ _ _ (fun w h => h.2.1) Tryz.underlying48 rfl 18 Tryz.infoCidr L18x.out (by kernel_rfl)) hS ?_
  simp only [List.getElem_toArray, List.getElem_cons_zero, List.getElem_cons_succ, Act.put, List.setIfInBounds_toArray, List.set_cons_zero, List.set_cons_succ]
  refine wpAnyH_take (i := 1) (v := .agg (cid xs xb xn)) rfl (by kernel_rfl) (by kernel_rfl) (by kernel_rfl) (fun _ _ _ h => h) (yields_load 48 (.tmp 7) rfl (w4.heap.size) (by kernel_rfl) _ _ _ (fun w h => h.2.2.1) Tryz.underlying48 rfl 18 Tryz.infoCidr L18x.out (by kernel_rfl)) hS ?_
  simp only [List.getElem_toArray, List.getElem_cons_zero, List.getElem_cons_succ, Act.put, List.setIfInBounds_toArray, List.set_cons_zero, List.set_cons_succ]
  refine wpAnyH_take (i := 2) (v := .bool false) rfl (by kernel_rfl) (by kernel_rfl) (by kernel_rfl) (fun _ _ _ h => h) (.inl ⟨by kernel_rfl, fun w _ => exec_neq_cid (.tmp 25) (.tmp 26) rfl xs xb LX.out xn (by kernel_rfl) (by kernel_rfl) w⟩) hS ?_
  simp only [List.getElem_toArray, List.getElem_cons_zero, List.getElem_cons_succ, Act.put, List.setIfInBounds_toArray, List.set_cons_zero, List.set_cons_succ]
  refine wpAnyH_take (i := 3) (v := .bool false) rfl (by kernel_rfl) (by kernel_rfl) (by kernel_rfl) (fun _ _ _ h => h) (.inl ⟨by kernel_rfl, fun w _ => by kernel_rfl⟩) hS ?_
  simp only [List.getElem_toArray, List.getElem_cons_zero, List.getElem_cons_succ, Act.put, List.setIfInBounds_toArray, List.set_cons_zero, List.set_cons_succ]
  refine wpAnyH_take (i := 4) (v := er) rfl (by kernel_rfl) (by kernel_rfl) (by kernel_rfl) (fun _ _ _ h => h) (.inl ⟨by kernel_rfl, fun w _ => by kernel_rfl⟩) hS ?_
  simp only [List.getElem_toArray, List.getElem_cons_zero, List.getElem_cons_succ, Act.put, List.setIfInBounds_toArray, List.set_cons_zero, List.set_cons_succ]
  refine wpAnyH_take (i := 6) (v := .int .i64 k) rfl (by kernel_rfl) (by kernel_rfl) (by kernel_rfl) (fun _ _ _ h => h) (.inl ⟨by kernel_rfl, fun w _ => by kernel_rfl⟩) hS ?_
  simp only [List.getElem_toArray, List.getElem_cons_zero, List.getElem_cons_succ, Act.put, List.setIfInBounds_toArray, List.set_cons_zero, List.set_cons_succ]
  refine wpAnyH_ready (rs := [5]) (by kernel_rfl) (by simp) ?_
  refine AllReadyH.cons rfl (fun K' hK => ?_) AllReadyH.nil
  rw [if_pos (by kernel_rfl)]
  refine op_call2 15 #[er] (by kernel_rfl) (.int .i64 k) (CN.out _ hS.2.2.2.2.2) (fun v1 hv1 => hK.out _ _ (⟨hS.1.kept hv1, hS.2.1.kept hv1, hS.2.2.1.kept hv1, hS.2.2.2.1.kept hv1, hS.2.2.2.2.1.kept hv1, bel2 hS.2.2.2.2.2 hv1⟩) (fun hS => ?_))
  simp only [List.getElem_toArray, List.getElem_cons_zero, List.getElem_cons_succ, Act.put, List.setIfInBounds_toArray, List.set_cons_zero, List.set_cons_succ]
  refine wpAnyH_take (i := 7) (v := .bool false) rfl (by kernel_rfl) (by kernel_rfl) (by kernel_rfl) (fun _ _ _ h => h) (.inl ⟨by kernel_rfl, fun w _ => exec_neq_self 3 3 (.tmp 30) (.tmp 31) rfl k (by kernel_rfl) (by kernel_rfl)⟩) hS ?_
  simp only [List.getElem_toArray, List.getElem_cons_zero, List.getElem_cons_succ, Act.put, List.setIfInBounds_toArray, List.set_cons_zero, List.set_cons_succ]
  refine wpAnyH_take (i := 8) (v := .bool false) rfl (by kernel_rfl) (by kernel_rfl) (by kernel_rfl) (fun _ _ _ h => h) (.inl ⟨by kernel_rfl, fun w _ => by kernel_rfl⟩) hS ?_
  simp only [List.getElem_toArray, List.getElem_cons_zero, List.getElem_cons_succ, Act.put, List.setIfInBounds_toArray, List.set_cons_zero, List.set_cons_succ]
  refine wpAnyH_take (i := 9) (v := .bool false) rfl (by kernel_rfl) (by kernel_rfl) (by kernel_rfl) (fun _ _ _ h => h) (.inl ⟨by kernel_rfl, fun w _ => by kernel_rfl⟩) hS ?_
  simp only [List.getElem_toArray, List.getElem_cons_zero, List.getElem_cons_succ, Act.put, List.setIfInBounds_toArray, List.set_cons_zero, List.set_cons_succ]
  refine wpAnyH_take (i := 10) (v := .agg (cid cs cb n)) rfl (by kernel_rfl) (by kernel_rfl) (by kernel_rfl) (fun _ _ _ h => h) (yields_load 48 (.tmp 3) rfl (w.heap.size) (by kernel_rfl) _ _ _ (fun w h => h.1) Tryz.underlying48 rfl 18 Tryz.infoCidr L18c.out (by kernel_rfl)) hS ?_
  simp only [List.getElem_toArray, List.getElem_cons_zero, List.getElem_cons_succ, Act.put, List.setIfInBounds_toArray, List.set_cons_zero, List.set_cons_succ]
  refine wpAnyH_take (i := 12) (v := .agg (cid cs cb n)) rfl (by kernel_rfl) (by kernel_rfl) (by kernel_rfl) (fun _ _ _ h => h) (yields_load 48 (.tmp 3) rfl (w.heap.size) (by kernel_rfl) _ _ _ (fun w h => h.1) Tryz.underlying48 rfl 18 Tryz.infoCidr L18c.out (by kernel_rfl)) hS ?_
  simp only [List.getElem_toArray, List.getElem_cons_zero, List.getElem_cons_succ, Act.put, List.setIfInBounds_toArray, List.set_cons_zero, List.set_cons_succ]
  refine wpAnyH_ready (rs := [11]) (by kernel_rfl) (by simp) ?_
  refine AllReadyH.cons rfl (fun K' hK => ?_) AllReadyH.nil
  rw [if_pos (by kernel_rfl)]
  refine op_call2 26 #[.agg (cid cs cb n)] (by kernel_rfl) (.bool R) (C1.out _ hS.2.2.2.2.1) (fun v2 hv2 => hK.out _ _ (⟨hS.1.kept hv2, hS.2.1.kept hv2, hS.2.2.1.kept hv2, hS.2.2.2.1.kept hv2, hS.2.2.2.2.1.kept hv2, bel2 hS.2.2.2.2.2 hv2⟩) (fun hS => ?_))
  simp only [List.getElem_toArray, List.getElem_cons_zero, List.getElem_cons_succ, Act.put, List.setIfInBounds_toArray, List.set_cons_zero, List.set_cons_succ]
  refine wpAnyH_ready (rs := [13]) (by kernel_rfl) (by simp) ?_
  refine AllReadyH.cons rfl (fun K' hK => ?_) AllReadyH.nil
  rw [if_pos (by kernel_rfl)]
  refine op_call2 27 #[.agg (cid cs cb n)] (by kernel_rfl) (.bool R) (C2.out _) (fun v3 hv3 => hK.out _ _ (⟨hS.1.kept hv3, hS.2.1.kept hv3, hS.2.2.1.kept hv3, hS.2.2.2.1.kept hv3, hS.2.2.2.2.1.kept hv3, bel2 hS.2.2.2.2.2 hv3⟩) (fun hS => ?_))
  simp only [List.getElem_toArray, List.getElem_cons_zero, List.getElem_cons_succ, Act.put, List.setIfInBounds_toArray, List.set_cons_zero, List.set_cons_succ]
  refine wpAnyH_take (i := 14) (v := .bool false) rfl (by kernel_rfl) (by kernel_rfl) (by kernel_rfl) (fun _ _ _ h => h) (.inl ⟨by kernel_rfl, fun w _ => by cases R <;> kernel_rfl⟩) hS ?_
  simp only [List.getElem_toArray, List.getElem_cons_zero, List.getElem_cons_succ, Act.put, List.setIfInBounds_toArray, List.set_cons_zero, List.set_cons_succ]
  refine wpAnyH_take (i := 15) (v := .bool false) rfl (by kernel_rfl) (by kernel_rfl) (by kernel_rfl) (fun _ _ _ h => h) (.inl ⟨by kernel_rfl, fun w _ => by kernel_rfl⟩) hS ?_
  simp only [List.getElem_toArray, List.getElem_cons_zero, List.getElem_cons_succ, Act.put, List.setIfInBounds_toArray, List.set_cons_zero, List.set_cons_succ]
  refine wpAnyH_take (i := 16) (v := .bool false) rfl (by kernel_rfl) (by kernel_rfl) (by kernel_rfl) (fun _ _ _ h => h) (.inl ⟨by kernel_rfl, fun w _ => by kernel_rfl⟩) hS ?_
  simp only [List.getElem_toArray, List.getElem_cons_zero, List.getElem_cons_succ, Act.put, List.setIfInBounds_toArray, List.set_cons_zero, List.set_cons_succ]
  refine wpAnyH_take (i := 17) (v := .agg (cid cs cb n)) rfl (by kernel_rfl) (by kernel_rfl) (by kernel_rfl) (fun _ _ _ h => h) (yields_load 48 (.tmp 3) rfl (w.heap.size) (by kernel_rfl) _ _ _ (fun w h => h.1) Tryz.underlying48 rfl 18 Tryz.infoCidr L18c.out (by kernel_rfl)) hS ?_
  simp only [List.getElem_toArray, List.getElem_cons_zero, List.getElem_cons_succ, Act.put, List.setIfInBounds_toArray, List.set_cons_zero, List.set_cons_succ]
  refine wpAnyH_take (i := 19) (v := .agg (cid cs cb n)) rfl (by kernel_rfl) (by kernel_rfl) (by kernel_rfl) (fun _ _ _ h => h) (yields_load 48 (.tmp 3) rfl (w.heap.size) (by kernel_rfl) _ _ _ (fun w h => h.1) Tryz.underlying48 rfl 18 Tryz.infoCidr L18c.out (by kernel_rfl)) hS ?_
  simp only [List.getElem_toArray, List.getElem_cons_zero, List.getElem_cons_succ, Act.put, List.setIfInBounds_toArray, List.set_cons_zero, List.set_cons_succ]
  refine wpAnyH_ready (rs := [18]) (by kernel_rfl) (by simp) ?_
  refine AllReadyH.cons rfl (fun K' hK => ?_) AllReadyH.nil
  rw [if_pos (by kernel_rfl)]
  refine op_call2 28 #[.agg (cid cs cb n)] (by kernel_rfl) (.string T) (C3.out _ hS.2.2.2.1 hS.2.2.2.2.1) (fun v4 hv4 => hK.out _ _ (⟨hS.1.kept hv4, hS.2.1.kept hv4, hS.2.2.1.kept hv4, hS.2.2.2.1.kept hv4, hS.2.2.2.2.1.kept hv4, bel2 hS.2.2.2.2.2 hv4⟩) (fun hS => ?_))
  simp only [List.getElem_toArray, List.getElem_cons_zero, List.getElem_cons_succ, Act.put, List.setIfInBounds_toArray, List.set_cons_zero, List.set_cons_succ]
  refine wpAnyH_ready (rs := [20]) (by kernel_rfl) (by simp) ?_
  refine AllReadyH.cons rfl (fun K' hK => ?_) AllReadyH.nil
  rw [if_pos (by kernel_rfl)]
  refine op_call2 29 #[.agg (cid cs cb n)] (by kernel_rfl) (.string T) (C4.out _) (fun v5 hv5 => hK.out _ _ (⟨hS.1.kept hv5, hS.2.1.kept hv5, hS.2.2.1.kept hv5, hS.2.2.2.1.kept hv5, hS.2.2.2.2.1.kept hv5, bel2 hS.2.2.2.2.2 hv5⟩) (fun hS => ?_))
  simp only [List.getElem_toArray, List.getElem_cons_zero, List.getElem_cons_succ, Act.put, List.setIfInBounds_toArray, List.set_cons_zero, List.set_cons_succ]
  refine wpAnyH_take (i := 21) (v := .bool false) rfl (by kernel_rfl) (by kernel_rfl) (by kernel_rfl) (fun _ _ _ h => h) (.inl ⟨by kernel_rfl, fun w _ => exec_sneq2 9 9 (.tmp 43) (.tmp 45) rfl T (by kernel_rfl) (by kernel_rfl)⟩) hS ?_
  simp only [List.getElem_toArray, List.getElem_cons_zero, List.getElem_cons_succ, Act.put, List.setIfInBounds_toArray, List.set_cons_zero, List.set_cons_succ]
  refine wpAnyH_take (i := 22) (v := .bool false) rfl (by kernel_rfl) (by kernel_rfl) (by kernel_rfl) (fun _ _ _ h => h) (.inl ⟨by kernel_rfl, fun w _ => by kernel_rfl⟩) hS ?_
  simp only [List.getElem_toArray, List.getElem_cons_zero, List.getElem_cons_succ, Act.put, List.setIfInBounds_toArray, List.set_cons_zero, List.set_cons_succ]
  refine wpAnyH_done (by kernel_rfl) ?_ _
  have HS := Lib.hid hS
  clear hS
  have HBc : Hid (Blk v5 (w.heap.size) 48 (cid cs cb n)) := Lib.hid HS.out.1
  go_wp2_with (refine wpl_load 48 _ rfl w.heap.size rfl _ _ _ HBc.out Tryz.underlying48 rfl 18 Tryz.infoCidr L18c.out rfl ?_)
  refine (C2.out v5).mono ?_
  rintro e v6 ⟨rfl, hb6⟩
  have HBc6 := Lib.hid (HBc.out.kept hb6)
  have HE6 : Hid (Env E v6 ∧ Env3 EA ER v6 ∧ Below w.heap.size w v6) := Lib.hid ⟨HS.out.2.2.2.1.kept hb6, HS.out.2.2.2.2.1.kept hb6, bel2 HS.out.2.2.2.2.2 hb6⟩
  clear hb6 HS HBc
  cases R with
  | false =>
    go_wp2
    go_ret
    exact ⟨rfl, HE6.out.2.2⟩
  | true =>
    go_wp2_with (refine wpl_load 48 _ rfl w.heap.size rfl _ _ _ HBc6.out Tryz.underlying48 rfl 18 Tryz.infoCidr L18c.out rfl ?_)
    refine (C3.out v6 HE6.out.1 HE6.out.2.1).mono ?_
    rintro e v7 ⟨rfl, hb7⟩
    have HBc7 := Lib.hid (HBc6.out.kept hb7)
    have HE7 : Hid (Env E v7 ∧ Env3 EA ER v7 ∧ Below w.heap.size w v7) := Lib.hid ⟨HE6.out.1.kept hb7, HE6.out.2.1.kept hb7, bel2 HE6.out.2.2 hb7⟩
    clear hb7
    go_wp2_with fail
    refine (C5.out (by simp) v7 HE7.out.1 HE7.out.2.1).mono ?_
    rintro e v8 ⟨rfl, hb8⟩
    have HBc8 := Lib.hid (HBc7.out.kept hb8)
    have Hb8 := Lib.hid (bel2 HE7.out.2.2 hb8)
    clear hb8
    obtain ⟨W9, hW9⟩ : ∃ W, W = v8.alloc (.cells (cid false z16 0) 48) := ⟨_, rfl⟩
    have hBW9 : Blk W9 v8.heap.size 48 (cid false z16 0) := hW9 ▸ Blk.new v8 _ _
    have hbW9 : Below v8.heap.size v8 W9 := hW9 ▸ (Below.refl _ _).alloc (Nat.le_refl _) _
    have HW9 : Hid (v8.alloc (.cells #[.bool false, .int .u8 0, .int .u8 0, .int .u8 0, .int .u8 0, .int .u8 0, .int .u8 0, .int .u8 0, .int .u8 0, .int .u8 0, .int .u8 0, .int .u8 0, .int .u8 0, .int .u8 0, .int .u8 0, .int .u8 0, .int .u8 0, .int .i64 0] 48) = W9) := Lib.hid hW9.symm
    have HBW9 := Lib.hid hBW9
    obtain ⟨V9, hV9⟩ : ∃ V, V = W9.setRow v8.heap.size (cid cs cb n) := ⟨_, rfl⟩
    have HV9 := Lib.hid hV9.symm
    have hblV9 : Below v8.heap.size v8 V9 := hV9 ▸ below_setRow hbW9 (Nat.le_refl _) _
    have HNV9 : Hid (Blk V9 v8.heap.size 48 (cid cs cb n)) := Lib.hid (hV9 ▸ hBW9.row _)
    have HBc9 := Lib.hid (HBc8.out.kept hblV9)
    have Hb9 : Hid (Below w.heap.size w V9) := Lib.hid (bel2 Hb8.out hblV9)
    have hq : ∀ w, (binOp .eql 48 (.agg (cid cs cb n)) (.agg (cid cs cb n))).run Tryz.prog w = .ok (.bool true) w := fun w => by
      have := HQ.out w
      rw [show ((cs == cs && cb == cb) && n == n) = true by simp] at this
      exact this
    clear hW9 hBW9 hbW9 hV9 hblV9
    go_wp2_with ((try rw [HW9.out]); first | (refine wpl_store 48 _ _ rfl v8.heap.size (cid cs cb n) rfl rfl _ _ HBW9.out 18 Tryz.infoCidr L18c.out rfl (cid_one _ _ _) rfl ?_; rw [HV9.out]) | (refine wpl_load 48 _ rfl v8.heap.size rfl _ _ _ HNV9.out Tryz.underlying48 rfl 18 Tryz.infoCidr L18c.out rfl ?_) | (refine wpl_load 48 _ rfl w.heap.size rfl _ _ _ HBc9.out Tryz.underlying48 rfl 18 Tryz.infoCidr L18c.out rfl ?_))
    go_ret
    exact ⟨rfl, Hb9.out⟩
end Go.Proofs.YtambnnahgbegfaaGreatDoor
namespace Go.Proofs.YtambnnahgbegfaaGreatDoor
open Go.RowKit

/-- An address's text, if it is right. -/
def textA (s : Bool) (B : List Nat) : List UInt8 := if s then text6 (gr B) else text4 B

theorem gr_lt (B : List Nat) (hl : B.length = 16) (hB : ∀ x ∈ B, x < 256) : ∀ n ∈ gr B, n < 65536 := by
  intro n hn
  simp only [gr, List.mem_map, List.mem_range] at hn
  obtain ⟨i, hi, rfl⟩ := hn
  have h1 : B.getD (2 * i) 0 < 256 := by apply hB; simp [List.getD, List.getElem?_eq_getElem (show 2 * i < B.length by omega)]
  have h2 : B.getD (2 * i + 1) 0 < 256 := by apply hB; simp [List.getD, List.getElem?_eq_getElem (show 2 * i + 1 < B.length by omega)]
  omega

theorem textA_le (s : Bool) (B : List Nat) (hB : ∀ x ∈ B, x < 256) : (textA s B).length ≤ 900 := by
  cases s with
  | true =>
    show (text6 (gr B)).length ≤ 900
    have := t6_le (gr B) (gr_length B) (if (nzB (zeros (gr B)) 8).2.1 = (nzB (zeros (gr B)) 8).2.2 then 8 else (nzB (zeros (gr B)) 8).2.1) (nzB (zeros (gr B)) 8).2.2 8
    rw [t6_end (gr B) (gr_length B)] at this
    omega
  | false =>
    have := j4_le B hB 4 (by omega)
    show (j4 B 4).length ≤ 900
    omega

theorem parsed_textA (s : Bool) (B : List Nat) (hl : B.length = 16) (hB : ∀ x ∈ B, x < 256) (hr : (s || flat (ints B)) = true) : parsed (textA s B) = some (s, ints B) := by
  cases s with
  | true => exact parsed_text6 B hl hB (gr_lt B hl hB)
  | false => exact parsed_text4 B hl hB (by simpa using hr)

theorem formatA (s : Bool) (B : List Nat) (hl : B.length = 16) (hB : ∀ x ∈ B, x < 256) (hr : (s || flat (ints B)) = true) (E : Value) (w : World) (hE : Env E w) :
    Calls Tryz.prog 49 #[.agg (adr s (ints B))] w fun e w' => e = .returned (.string ⟨(textA s B).toArray⟩) ∧ Below w.heap.size w w' := by
  cases s with
  | true => exact format_six B hl hB E w hE
  | false => exact format_four B hl hB (by simpa using hr) E w hE

theorem rformatA (s : Bool) (B : List Nat) (hl : B.length = 16) (hB : ∀ x ∈ B, x < 256) (hr : (s || flat (ints B)) = true) (w : World) :
    Calls Tryz.prog 63 #[.agg (adr s (ints B))] w fun e w' => e = .returned (.string ⟨(textA s B).toArray⟩) ∧ Below w.heap.size w w' := by
  cases s with
  | true => exact rformat_six B hl hB w
  | false => exact rformat_four B hl hB (by simpa using hr) w

theorem cres_code (l : List UInt8) : ((cres l).2 = 0 ∨ (cres l).2 = 1 ∨ (cres l).2 = 4 ∨ (cres l).2 = 8) ∧ (cres l).1.2.1.length = 16 := by
  unfold cres
  split
  · split
    · rename_i s b n hp hf
      have hl : b.length = 16 := by obtain ⟨A, rfl, hA, _⟩ := parsed_ints hp; rw [ints_length, hA]
      split
      · simp
      · split
        · simp [hl]
        · simp
    · simp
  · simp

theorem cparses_any (s : ByteArray) (cs : Bool) (C : List Nat) (hlc : C.length = 16) (hC : ∀ x ∈ C, x < 256) (n : Int) (a : Nat → Addr) (w : World) (hE : Env (.iface 201 (.pointer (some (a 3)))) w) (hErr : Errs 18 a w) :
    Calls Tryz.prog 4 #[.string s, .agg (cid cs (ints C) n)] w fun e w' => e = .returned (.bool true) ∧ Below w.heap.size w w' := by
  have hE3 := env3_of hErr
  have c0 := fun w hE hE3 => alive3_any (.iface 201 (.pointer (some (a 3)))) 201 201 (.pointer (some (a 7))) (.pointer (some (a 0))) w hE hE3
  by_cases hs : 200 < s.size
  · exact cps_long s hs cs (ints C) n _ _ _ w hE hE3 c0
  · have lc : (ints C).length = 16 := by rw [ints_length, hlc]
    have hcode := cres_code s.data.toList
    have cA := fun w hE hE3 => cparse_any s (by omega) 201 201 201 (.pointer (some (a 3))) (.pointer (some (a 7))) (.pointer (some (a 0))) w hE hE3
    have cB := rcparse_any s (by omega)
    unfold RcEnd at cB
    have cN : ∀ w', Below w.heap.size w w' → Calls Tryz.prog 15 #[errOf (.iface 201 (.pointer (some (a 3)))) (.iface 201 (.pointer (some (a 7)))) (.iface 201 (.pointer (some (a 0)))) (cres s.data.toList).2] w' fun e w2 => e = .returned (.int .i64 (cres s.data.toList).2) ∧ Below w'.heap.size w' w2 := fun w' hb => by
      rcases hcode.1 with h | h | h | h
      · rw [h]
        exact (num_nil w').mono fun e w2 hh => ⟨hh.1, by rw [← hh.2]; exact Below.refl _ _⟩
      · rw [h]
        exact num_err a 0 (by decide) w' (hErr.below hb)
      · rw [h]
        exact num_err a 3 (by decide) w' (hErr.below hb)
      · rw [h]
        exact num_err a 7 (by decide) w' (hErr.below hb)
    have c1 := fun w hE3 => cright_any cs C hlc hC n 201 201 (.pointer (some (a 7))) (.pointer (some (a 0))) w hE3
    simp only [right_eq cs C hlc hC n] at c1
    have c2 := rright_any cs C hlc hC n
    cases hr : rightC cs (ints C) n with
    | false =>
      rw [hr] at c2
      simp only [hr] at c1
      exact cps_walk s (by omega) cs (ints C) lc n _ _ hcode.2 _ _ _ false ⟨#[]⟩ _ _ _ w hE hE3 c0 cA cB cN c1 c2 (fun w _ hE3 => ccformat_bad cs (ints C) lc n _ _ w hE3 c1) (fun w => rcformat_bad cs (ints C) lc n w c2) (fun h => by cases h)
    | true =>
      rw [hr] at c2
      simp only [hr] at c1
      have hr' := hr
      unfold rightC at hr'
      simp only [Bool.and_eq_true, decide_eq_true_eq] at hr'
      obtain ⟨hf, h0, hw, hz⟩ := hr'
      obtain ⟨N, rfl⟩ : ∃ N : Nat, n = N := ⟨n.toNat, by omega⟩
      rw [Int.toNat_natCast] at hz
      have hw8 := wid_le cs
      have hN : N ≤ 128 := by omega
      have hle := textA_le cs C hC
      have hd4 := dec_le N (by omega)
      have h1 : ∀ w', (Op.stringOp .add ⟨(textA cs C).toArray⟩ ⟨#[47]⟩).run Tryz.prog w' = .ok (.string ⟨(textA cs C ++ [47]).toArray⟩) w' := fun w' => run_string_add_lists w' (textA cs C) [47] (by omega) (by simp)
      have h2 : ∀ w', (Op.stringOp .add ⟨(textA cs C ++ [47]).toArray⟩ (decb N)).run Tryz.prog w' = .ok (.string ⟨((textA cs C ++ [47]) ++ Lib.decDigits N).toArray⟩) w' := fun w' => run_string_add_lists w' (textA cs C ++ [47]) (Lib.decDigits N) (by simp; omega) (by omega)
      have c3 := fun w hE hE3 => cformat_good cs (ints C) lc N ⟨(textA cs C).toArray⟩ ⟨(textA cs C ++ [47]).toArray⟩ (decb N) ⟨((textA cs C ++ [47]) ++ Lib.decDigits N).toArray⟩ (.iface 201 (.pointer (some (a 3)))) _ _ w hE hE3 c1 (fun w hE => formatA cs C hlc hC hf _ w hE) (fun w hE => itoa_any N (by omega) _ w hE) h1 h2
      have c4 := fun w => rcformat_good cs (ints C) lc N ⟨(textA cs C).toArray⟩ ⟨(textA cs C ++ [47]).toArray⟩ (decb N) ⟨((textA cs C ++ [47]) ++ Lib.decDigits N).toArray⟩ w c2 (fun w => rformatA cs C hlc hC hf w) (fun w => rnumeral_any N hN w) h1 h2
      refine cps_walk s (by omega) cs (ints C) lc N _ _ hcode.2 _ _ _ true _ _ _ _ w hE hE3 c0 cA cB cN c1 c2 c3 c4 (fun _ w hE hE3 => ?_)
      have hsz : (⟨((textA cs C ++ [47]) ++ Lib.decDigits N).toArray⟩ : ByteArray).size ≤ 1000 := by
        rw [Lib.size_eq]
        simp
        omega
      have h := cparse_any ⟨((textA cs C ++ [47]) ++ Lib.decDigits N).toArray⟩ hsz 201 201 201 (.pointer (some (a 3))) (.pointer (some (a 7))) (.pointer (some (a 0))) w hE hE3
      have e := cres_text (textA cs C) cs (ints C) (parsed_textA cs C hlc hC hf) N hN (by omega) hz
      have e0 : cres (⟨((textA cs C ++ [47]) ++ Lib.decDigits N).toArray⟩ : ByteArray).data.toList = ((cs, ints C, (N : Int)), 0) := by
        show cres ((textA cs C ++ [47]) ++ Lib.decDigits N) = _
        rw [List.append_assoc]
        exact e
      rw [e0] at h
      exact h
end Go.Proofs.YtambnnahgbegfaaGreatDoor
