/-
  cidr.Read of a cursor.
-/
import Derived.Test.YtnfkgoeocebenaaGreatDoorKaddrb
import Derived.Test.YtnfkgoeocebenaaGreatDoorQb
namespace Go.Proofs.YtnfkgoeocebenaaGreatDoor
open Go.RowKit

/-- What a cidr is that is read of bytes from p on; the place behind it, and the error's number. -/
def readC (bs : List Int) (p : Nat) : ((Bool × List Int) × Nat) × Nat × Nat :=
  if (readA bs p).2.2 = 0 then
    (if (readA bs p).2.1 + 1 ≤ bs.length then
      (if rightC (readA bs p).1.1 (readA bs p).1.2 (accN bs (readA bs p).2.1 1 : Nat) = true then (((readA bs p).1, accN bs (readA bs p).2.1 1), (readA bs p).2.1 + 1, 0) else (((false, z16), 0), (readA bs p).2.1 + 1, 1))
    else (((false, z16), 0), (readA bs p).2.1, 2))
  else (((false, z16), 0), (readA bs p).2.1, (readA bs p).2.2)

/-- What Read of a cidr ends in. -/
def CreadEnd (t : TypeId) (s : Bool) (b : List Int) (n : Int) (c : Nat) (ad : Option Addr) (cap : Nat) (bs : List Int) (q : Nat) (y : Value) (w : World) (e : Ending) (w' : World) : Prop := e = .returned (.agg (cid s b n)) ∧ Cur w' t c ad cap bs q y ∧ Keep c w w'

theorem ErrC.env3 {a : Nat → Addr} {w : World} (h : ErrC a w) : Env3 (.iface 211 (.pointer (some (a 7)))) (.iface 211 (.pointer (some (a 0)))) w := ⟨h 7 (by decide), h.range⟩

section
variable {w : World} {c : Nat} {ad : Option Addr} {cap : Nat} {bs : List Int} {p : Nat}

set_option maxRecDepth 100000 in
set_option maxHeartbeats 2000000 in
theorem cread_good (a : Nat → Addr) (h : Cur w 79 c ad cap bs p .nilIface) (hE : ErrC a w) (s : Bool) (b : List Int) (hl : b.length = 16) (q : Nat)
    (cA : ∀ w', Cur w' 79 c ad cap bs p .nilIface → ErrC a w' → Calls Tryz.prog 19 #[.pointer (some ⟨c, 0, none⟩)] w' (AreadEnd 79 s b c ad cap bs q .nilIface w'))
    (hq : q + 1 ≤ bs.length) (n : Nat) (hn : accN bs q 1 = n)
    (cR : ∀ w, ErrC a w → Calls Tryz.prog 64 #[.agg (cid s b (n : Int))] w fun e w' => e = .returned (.bool true) ∧ Below w.heap.size w w') :
    Calls Tryz.prog 31 #[.pointer (some ⟨c, 0, none⟩)] w (CreadEnd 79 s b n c ad cap bs (q + 1) .nilIface w) := by
  obtain ⟨W0, hW0⟩ : ∃ W, W = w.alloc (.cells (cid false z16 0) 50) := ⟨_, rfl⟩
  have hB0 : Blk W0 w.heap.size 50 (cid false z16 0) := hW0 ▸ Blk.new w _ _
  have hb0 : Below w.heap.size w W0 := hW0 ▸ (Below.refl _ _).alloc (Nat.le_refl _) _
  have HW0 : Hid (w.alloc (.cells #[.bool false, .int .u8 0, .int .u8 0, .int .u8 0, .int .u8 0, .int .u8 0, .int .u8 0, .int .u8 0, .int .u8 0, .int .u8 0, .int .u8 0, .int .u8 0, .int .u8 0, .int .u8 0, .int .u8 0, .int .u8 0, .int .u8 0, .int .i64 0] 50) = W0) := Lib.hid hW0.symm
  have hlt := h.obj.lt
  have hne : w.heap.size ≠ c := by omega
  have h0 : Cur W0 79 c ad cap bs p .nilIface := h.kept hb0
  have hE0 : ErrC a W0 := hE.kept hb0
  have hk0 : Keep c w W0 := Keep.of hb0 (Nat.le_of_lt hlt)
  have CA := Lib.hid (cA W0 h0 hE0)
  have CN : Hid (∀ w', Cur w' 79 c ad cap bs q .nilIface → Calls Tryz.prog 51 #[.pointer (some ⟨c, 0, none⟩), .int .i64 1] w' (CurEnd (.int .i64 (n : Int)) 79 c ad cap bs (q + 1) .nilIface w')) := Lib.hid fun w' hC => by
    have := num_ok hC 1 (by decide) (by decide) hq
    rw [hn] at this
    exact this
  have CR := Lib.hid cR
  have HH0 := Lib.hid h0
  have HE0 := Lib.hid hE0
  have HB0 := Lib.hid hB0
  have H := Lib.hid h
  have HLb := Lib.hid hl
  have L18 : Hid (18 = (cid s b (n : Int)).size) := Lib.hid (by rw [cid_size, hl])
  have HWo := Lib.hid hW0
  clear hW0 hB0 hb0 h hE h0 hE0 cA cR hn hl hk0
  go_enter Tryz.func31, Tryz.ntmps31
  go_wp2_with fail
  rw [HW0.out]
  refine CA.out.mono ?_
  rintro e w1 ⟨rfl, hC1, hK1⟩
  have CN1 := Lib.hid (CN.out w1 hC1)
  have HK1 := Lib.hid hK1
  clear hC1 hK1
  go_wp2_with fail
  refine CN1.out.mono ?_
  rintro e w2 ⟨rfl, hC2, hK2⟩
  obtain ⟨W3, hW3⟩ : ∃ W, W = w2.alloc (.cells (cid false z16 0) 50) := ⟨_, rfl⟩
  have hB3 : Blk W3 w2.heap.size 50 (cid false z16 0) := hW3 ▸ Blk.new w2 _ _
  have hb3 : Below w2.heap.size w2 W3 := hW3 ▸ (Below.refl _ _).alloc (Nat.le_refl _) _
  have HW3 : Hid (w2.alloc (.cells #[.bool false, .int .u8 0, .int .u8 0, .int .u8 0, .int .u8 0, .int .u8 0, .int .u8 0, .int .u8 0, .int .u8 0, .int .u8 0, .int .u8 0, .int .u8 0, .int .u8 0, .int .u8 0, .int .u8 0, .int .u8 0, .int .u8 0, .int .i64 0] 50) = W3) := Lib.hid hW3.symm
  obtain ⟨V, hV⟩ : ∃ V, V = W3.setRow w2.heap.size (cid s b (n : Int)) := ⟨_, rfl⟩
  have HV := Lib.hid hV.symm
  have hbV : Below w2.heap.size w2 V := hV ▸ below_setRow hb3 (Nat.le_refl _) _
  have HB3 := Lib.hid hB3
  have HBV : Hid (Blk V w2.heap.size 50 (cid s b (n : Int))) := Lib.hid (hV ▸ hB3.row _)
  have hcp : V.cell? ⟨w2.heap.size, 17, none⟩ = some (.int .i64 (n : Int)) := cid_bitsCell HBV.out HLb.out
  have hkx : Keep c W0 w2 := HK1.out.trans hK2
  have HF : Hid (∀ V2, Below V.heap.size V V2 → ∀ cs, Cur (V2.setRow w.heap.size cs) 79 c ad cap bs (q + 1) .nilIface ∧ Keep c w (V2.setRow w.heap.size cs)) := Lib.hid fun V2 hV2 cs => by
    rw [HWo.out] at hkx
    exact aread_fin H.out hC2 hkx (bel2 hbV hV2) cs
  have HBR : Hid (Blk V w.heap.size 50 (cid false z16 0)) := Lib.hid ((hkx.blk HB0.out hne).kept hbV)
  have hEV : ErrC a V := (HE0.out.keep HH0.out hkx).kept hbV
  have CRV := Lib.hid (CR.out V hEV)
  have HCV := Lib.hid (hC2.kept hbV)
  clear hC2 hK2 hW3 hB3 hb3 hV hbV hkx hEV hcp
  go_wp2_with ((try rw [HW3.out]); first | (refine wpl_run (.agg (cid s b (n : Int))) _ (exec_build_cid (.tmp 8) (.tmp 10) rfl s b HLb.out (n : Int) rfl rfl _) rfl ?_) | (refine wpl_store 50 _ _ rfl w2.heap.size (cid s b (n : Int)) rfl rfl _ _ HB3.out 18 Tryz.infoCidr L18.out rfl (cid_one _ _ _) rfl ?_; rw [HV.out]) | (refine wpl_load 50 _ rfl w2.heap.size rfl _ _ _ HBV.out Tryz.underlying50 rfl 18 Tryz.infoCidr L18.out rfl ?_))
  refine CRV.out.mono ?_
  rintro e w4 ⟨rfl, hb4⟩
  have CE := Lib.hid (err_any (HCV.out.kept hb4))
  have HBV4 := Lib.hid (HBV.out.kept hb4)
  have HBR4 := Lib.hid (HBR.out.kept hb4)
  have HF4 := Lib.hid (HF.out w4 hb4)
  clear hb4
  go_wp2_with fail
  refine CE.out.mono ?_
  rintro e w5 ⟨rfl, rfl⟩
  go_wp2_with (first | (refine wpl_load 50 _ rfl w2.heap.size rfl _ _ _ HBV4.out Tryz.underlying50 rfl 18 Tryz.infoCidr L18.out rfl ?_) | (refine wpl_store 50 _ _ rfl w.heap.size (cid s b (n : Int)) rfl rfl _ _ HBR4.out 18 Tryz.infoCidr L18.out rfl (cid_one _ _ _) rfl ?_))
  exact retA rfl w.heap.size rfl _ _ _ (HBR4.out.row _) Tryz.underlying50 rfl 18 Tryz.infoCidr L18.out rfl ⟨rfl, (HF4.out _).1, (HF4.out _).2⟩

set_option maxRecDepth 100000 in
set_option maxHeartbeats 2000000 in
theorem cread_sets (a : Nat → Addr) (h : Cur w 79 c ad cap bs p .nilIface) (hE : ErrC a w) (s : Bool) (b : List Int) (hl : b.length = 16) (q q2 : Nat) (x : Value) (n : Nat)
    (cA : ∀ w', Cur w' 79 c ad cap bs p .nilIface → ErrC a w' → Calls Tryz.prog 19 #[.pointer (some ⟨c, 0, none⟩)] w' (AreadEnd 79 s b c ad cap bs q x w'))
    (cN : ∀ w', Cur w' 79 c ad cap bs q x → ErrC a w' → Calls Tryz.prog 51 #[.pointer (some ⟨c, 0, none⟩), .int .i64 1] w' fun e w2 => e = .returned (.int .i64 (n : Int)) ∧ ∃ z, Cur w2 79 c ad cap bs q2 z ∧ (z = .nilIface) ∧ Keep c w' w2)
    (cR : ∀ w, ErrC a w → Calls Tryz.prog 64 #[.agg (cid s b (n : Int))] w fun e w' => e = .returned (.bool false) ∧ Below w.heap.size w w') :
    Calls Tryz.prog 31 #[.pointer (some ⟨c, 0, none⟩)] w (CreadEnd 79 false z16 0 c ad cap bs q2 (.iface 211 (.pointer (some (a 0)))) w) := by
  obtain ⟨W0, hW0⟩ : ∃ W, W = w.alloc (.cells (cid false z16 0) 50) := ⟨_, rfl⟩
  have hB0 : Blk W0 w.heap.size 50 (cid false z16 0) := hW0 ▸ Blk.new w _ _
  have hb0 : Below w.heap.size w W0 := hW0 ▸ (Below.refl _ _).alloc (Nat.le_refl _) _
  have HW0 : Hid (w.alloc (.cells #[.bool false, .int .u8 0, .int .u8 0, .int .u8 0, .int .u8 0, .int .u8 0, .int .u8 0, .int .u8 0, .int .u8 0, .int .u8 0, .int .u8 0, .int .u8 0, .int .u8 0, .int .u8 0, .int .u8 0, .int .u8 0, .int .u8 0, .int .i64 0] 50) = W0) := Lib.hid hW0.symm
  have hlt := h.obj.lt
  have hne : w.heap.size ≠ c := by omega
  have h0 : Cur W0 79 c ad cap bs p .nilIface := h.kept hb0
  have hE0 : ErrC a W0 := hE.kept hb0
  have hk0 : Keep c w W0 := Keep.of hb0 (Nat.le_of_lt hlt)
  have CA := Lib.hid (cA W0 h0 hE0)
  have CN := Lib.hid cN
  have CR := Lib.hid cR
  have HB0 := Lib.hid hB0
  have H := Lib.hid h
  have HH0 := Lib.hid h0
  have HE0 := Lib.hid hE0
  have HLb := Lib.hid hl
  have L18 : Hid (18 = (cid s b (n : Int)).size) := Lib.hid (by rw [cid_size, hl])
  have HWo := Lib.hid hW0
  clear hW0 hB0 hb0 h hE h0 hE0 cA cN cR hl hk0
  go_enter Tryz.func31, Tryz.ntmps31
  go_wp2_with fail
  rw [HW0.out]
  refine CA.out.mono ?_
  rintro e w1 ⟨rfl, hC1, hK1⟩
  have CN1 := Lib.hid (CN.out w1 hC1 (HE0.out.keep HH0.out hK1))
  have HK1 := Lib.hid hK1
  clear hC1 hK1
  go_wp2_with fail
  refine CN1.out.mono ?_
  rintro e w2 ⟨rfl, z, hC2, hz, hK2⟩
  obtain ⟨W3, hW3⟩ : ∃ W, W = w2.alloc (.cells (cid false z16 0) 50) := ⟨_, rfl⟩
  have hB3 : Blk W3 w2.heap.size 50 (cid false z16 0) := hW3 ▸ Blk.new w2 _ _
  have hb3 : Below w2.heap.size w2 W3 := hW3 ▸ (Below.refl _ _).alloc (Nat.le_refl _) _
  have HW3 : Hid (w2.alloc (.cells #[.bool false, .int .u8 0, .int .u8 0, .int .u8 0, .int .u8 0, .int .u8 0, .int .u8 0, .int .u8 0, .int .u8 0, .int .u8 0, .int .u8 0, .int .u8 0, .int .u8 0, .int .u8 0, .int .u8 0, .int .u8 0, .int .u8 0, .int .i64 0] 50) = W3) := Lib.hid hW3.symm
  obtain ⟨V, hV⟩ : ∃ V, V = W3.setRow w2.heap.size (cid s b (n : Int)) := ⟨_, rfl⟩
  have HV := Lib.hid hV.symm
  have hbV : Below w2.heap.size w2 V := hV ▸ below_setRow hb3 (Nat.le_refl _) _
  have HB3 := Lib.hid hB3
  have HBV : Hid (Blk V w2.heap.size 50 (cid s b (n : Int))) := Lib.hid (hV ▸ hB3.row _)
  have hcp : V.cell? ⟨w2.heap.size, 17, none⟩ = some (.int .i64 (n : Int)) := cid_bitsCell HBV.out HLb.out
  have hkx : Keep c W0 w2 := HK1.out.trans hK2
  have hEV : ErrC a V := (HE0.out.keep HH0.out hkx).kept hbV
  have CRV := Lib.hid (CR.out V hEV)
  have hCV := hC2.kept hbV
  have HCV := Lib.hid hCV
  have HEV := Lib.hid hEV
  have HZ := Lib.hid hz
  have HBR : Hid (Blk V w.heap.size 50 (cid false z16 0)) := Lib.hid ((hkx.blk HB0.out hne).kept hbV)
  have HkV : Hid (Keep c W0 V) := Lib.hid (hkx.trans (Keep.of hbV (Nat.le_of_lt hC2.obj.lt)))
  clear hC2 hK2 hW3 hB3 hb3 hV hbV hkx hz hEV hCV hcp
  go_wp2_with ((try rw [HW3.out]); first | (refine wpl_run (.agg (cid s b (n : Int))) _ (exec_build_cid (.tmp 8) (.tmp 10) rfl s b HLb.out (n : Int) rfl rfl _) rfl ?_) | (refine wpl_store 50 _ _ rfl w2.heap.size (cid s b (n : Int)) rfl rfl _ _ HB3.out 18 Tryz.infoCidr L18.out rfl (cid_one _ _ _) rfl ?_; rw [HV.out]) | (refine wpl_load 50 _ rfl w2.heap.size rfl _ _ _ HBV.out Tryz.underlying50 rfl 18 Tryz.infoCidr L18.out rfl ?_))
  refine CRV.out.mono ?_
  rintro e w4 ⟨rfl, hb4⟩
  have hC4 := HCV.out.kept hb4
  have hk4 : Keep c V w4 := Keep.of hb4 (Nat.le_of_lt HCV.out.obj.lt)
  have HBR4 := Lib.hid (HBR.out.kept hb4)
  have hE4 := HEV.out.kept hb4
  clear hb4
  obtain rfl := HZ.out
  have hrg := hE4.range
  have CF := Lib.hid (fail_set hC4 211 (.pointer (some (a 0))))
  clear hC4 hE4
  go_wp2_with fail
  refine CF.out.mono ?_
  rintro e w5 ⟨⟨r, rfl⟩, hC5, hK5⟩
  have CE := Lib.hid (err_any hC5)
  have HBR5 : Hid (Blk w5 w.heap.size 50 (cid false z16 0)) := Lib.hid (hK5.blk HBR4.out hne)
  have HF : Hid (Cur (w5.setRow w.heap.size (cid false z16 0)) 79 c ad cap bs q2 (.iface 211 (.pointer (some (a 0)))) ∧ Keep c w (w5.setRow w.heap.size (cid false z16 0))) := Lib.hid (by
    have hk := (HkV.out.trans hk4).trans hK5
    rw [HWo.out] at hk
    exact aread_fin H.out hC5 hk (Below.refl _ _) _)
  clear hC5 hK5 hk4
  go_wp2_with fail
  refine CE.out.mono ?_
  rintro e w6 ⟨rfl, rfl⟩
  go_wp2_with (refine wpl_store 50 _ _ rfl w.heap.size (cid false z16 0) rfl rfl _ _ HBR5.out 18 Tryz.infoCidr rfl rfl (cid_one _ _ _) rfl ?_)
  exact retA rfl w.heap.size rfl _ _ _ (HBR5.out.row _) Tryz.underlying50 rfl 18 Tryz.infoCidr rfl rfl ⟨rfl, HF.out.1, HF.out.2⟩

set_option maxRecDepth 100000 in
set_option maxHeartbeats 2000000 in
theorem cread_keeps (a : Nat → Addr) (h : Cur w 79 c ad cap bs p .nilIface) (hE : ErrC a w) (s : Bool) (b : List Int) (hl : b.length = 16) (q q2 : Nat) (x y : Value) (u : TypeId) (v : Value) (hy : y = .iface u v) (n : Nat) (R : Bool)
    (cA : ∀ w', Cur w' 79 c ad cap bs p .nilIface → ErrC a w' → Calls Tryz.prog 19 #[.pointer (some ⟨c, 0, none⟩)] w' (AreadEnd 79 s b c ad cap bs q x w'))
    (cN : ∀ w', Cur w' 79 c ad cap bs q x → ErrC a w' → Calls Tryz.prog 51 #[.pointer (some ⟨c, 0, none⟩), .int .i64 1] w' fun e w2 => e = .returned (.int .i64 (n : Int)) ∧ ∃ z, Cur w2 79 c ad cap bs q2 z ∧ (z = y) ∧ Keep c w' w2)
    (cR : ∀ w, ErrC a w → Calls Tryz.prog 64 #[.agg (cid s b (n : Int))] w fun e w' => e = .returned (.bool R) ∧ Below w.heap.size w w') :
    Calls Tryz.prog 31 #[.pointer (some ⟨c, 0, none⟩)] w (CreadEnd 79 false z16 0 c ad cap bs q2 y w) := by
  obtain ⟨W0, hW0⟩ : ∃ W, W = w.alloc (.cells (cid false z16 0) 50) := ⟨_, rfl⟩
  have hB0 : Blk W0 w.heap.size 50 (cid false z16 0) := hW0 ▸ Blk.new w _ _
  have hb0 : Below w.heap.size w W0 := hW0 ▸ (Below.refl _ _).alloc (Nat.le_refl _) _
  have HW0 : Hid (w.alloc (.cells #[.bool false, .int .u8 0, .int .u8 0, .int .u8 0, .int .u8 0, .int .u8 0, .int .u8 0, .int .u8 0, .int .u8 0, .int .u8 0, .int .u8 0, .int .u8 0, .int .u8 0, .int .u8 0, .int .u8 0, .int .u8 0, .int .u8 0, .int .i64 0] 50) = W0) := Lib.hid hW0.symm
  have hlt := h.obj.lt
  have hne : w.heap.size ≠ c := by omega
  have h0 : Cur W0 79 c ad cap bs p .nilIface := h.kept hb0
  have hE0 : ErrC a W0 := hE.kept hb0
  have hk0 : Keep c w W0 := Keep.of hb0 (Nat.le_of_lt hlt)
  have CA := Lib.hid (cA W0 h0 hE0)
  have CN := Lib.hid cN
  have CR := Lib.hid cR
  have HB0 := Lib.hid hB0
  have H := Lib.hid h
  have HH0 := Lib.hid h0
  have HE0 := Lib.hid hE0
  have HLb := Lib.hid hl
  have L18 : Hid (18 = (cid s b (n : Int)).size) := Lib.hid (by rw [cid_size, hl])
  have HWo := Lib.hid hW0
  clear hW0 hB0 hb0 h hE h0 hE0 cA cN cR hl hk0
  go_enter Tryz.func31, Tryz.ntmps31
  go_wp2_with fail
  rw [HW0.out]
  refine CA.out.mono ?_
  rintro e w1 ⟨rfl, hC1, hK1⟩
  have CN1 := Lib.hid (CN.out w1 hC1 (HE0.out.keep HH0.out hK1))
  have HK1 := Lib.hid hK1
  clear hC1 hK1
  go_wp2_with fail
  refine CN1.out.mono ?_
  rintro e w2 ⟨rfl, z, hC2, hz, hK2⟩
  obtain ⟨W3, hW3⟩ : ∃ W, W = w2.alloc (.cells (cid false z16 0) 50) := ⟨_, rfl⟩
  have hB3 : Blk W3 w2.heap.size 50 (cid false z16 0) := hW3 ▸ Blk.new w2 _ _
  have hb3 : Below w2.heap.size w2 W3 := hW3 ▸ (Below.refl _ _).alloc (Nat.le_refl _) _
  have HW3 : Hid (w2.alloc (.cells #[.bool false, .int .u8 0, .int .u8 0, .int .u8 0, .int .u8 0, .int .u8 0, .int .u8 0, .int .u8 0, .int .u8 0, .int .u8 0, .int .u8 0, .int .u8 0, .int .u8 0, .int .u8 0, .int .u8 0, .int .u8 0, .int .u8 0, .int .i64 0] 50) = W3) := Lib.hid hW3.symm
  obtain ⟨V, hV⟩ : ∃ V, V = W3.setRow w2.heap.size (cid s b (n : Int)) := ⟨_, rfl⟩
  have HV := Lib.hid hV.symm
  have hbV : Below w2.heap.size w2 V := hV ▸ below_setRow hb3 (Nat.le_refl _) _
  have HB3 := Lib.hid hB3
  have HBV : Hid (Blk V w2.heap.size 50 (cid s b (n : Int))) := Lib.hid (hV ▸ hB3.row _)
  have hcp : V.cell? ⟨w2.heap.size, 17, none⟩ = some (.int .i64 (n : Int)) := cid_bitsCell HBV.out HLb.out
  have hkx : Keep c W0 w2 := HK1.out.trans hK2
  have hEV : ErrC a V := (HE0.out.keep HH0.out hkx).kept hbV
  have CRV := Lib.hid (CR.out V hEV)
  have hCV := hC2.kept hbV
  have HCV := Lib.hid hCV
  have HEV := Lib.hid hEV
  have HZ := Lib.hid hz
  have HBR : Hid (Blk V w.heap.size 50 (cid false z16 0)) := Lib.hid ((hkx.blk HB0.out hne).kept hbV)
  have HkV : Hid (Keep c W0 V) := Lib.hid (hkx.trans (Keep.of hbV (Nat.le_of_lt hC2.obj.lt)))
  clear hC2 hK2 hW3 hB3 hb3 hV hbV hkx hz hEV hCV hcp
  go_wp2_with ((try rw [HW3.out]); first | (refine wpl_run (.agg (cid s b (n : Int))) _ (exec_build_cid (.tmp 8) (.tmp 10) rfl s b HLb.out (n : Int) rfl rfl _) rfl ?_) | (refine wpl_store 50 _ _ rfl w2.heap.size (cid s b (n : Int)) rfl rfl _ _ HB3.out 18 Tryz.infoCidr L18.out rfl (cid_one _ _ _) rfl ?_; rw [HV.out]) | (refine wpl_load 50 _ rfl w2.heap.size rfl _ _ _ HBV.out Tryz.underlying50 rfl 18 Tryz.infoCidr L18.out rfl ?_))
  refine CRV.out.mono ?_
  rintro e w4 ⟨rfl, hb4⟩
  have hC4 := HCV.out.kept hb4
  have hk4 : Keep c V w4 := Keep.of hb4 (Nat.le_of_lt HCV.out.obj.lt)
  have HBR4 := Lib.hid (HBR.out.kept hb4)
  have hE4 := HEV.out.kept hb4
  clear hb4
  obtain rfl := HZ.out
  subst hy
  cases R with
  | true =>
    clear hE4
    have CE := Lib.hid (err_any hC4)
    have HBR5 : Hid (Blk w4 w.heap.size 50 (cid false z16 0)) := Lib.hid (HBR4.out)
    have HF : Hid (Cur (w4.setRow w.heap.size (cid false z16 0)) 79 c ad cap bs q2 (.iface u v) ∧ Keep c w (w4.setRow w.heap.size (cid false z16 0))) := Lib.hid (by
      have hk := HkV.out.trans hk4
      rw [HWo.out] at hk
      exact aread_fin H.out hC4 hk (Below.refl _ _) _)
    clear hC4 hk4
    go_wp2_with fail
    refine CE.out.mono ?_
    rintro e w6 ⟨rfl, rfl⟩
    go_wp2_with (refine wpl_store 50 _ _ rfl w.heap.size (cid false z16 0) rfl rfl _ _ HBR5.out 18 Tryz.infoCidr rfl rfl (cid_one _ _ _) rfl ?_)
    exact retA rfl w.heap.size rfl _ _ _ (HBR5.out.row _) Tryz.underlying50 rfl 18 Tryz.infoCidr rfl rfl ⟨rfl, HF.out.1, HF.out.2⟩

  | false =>
    have hrg := hE4.range
    have CF := Lib.hid (fail_skip hC4 (.iface 211 (.pointer (some (a 0)))))
    go_wp2_with fail
    refine CF.out.mono ?_
    rintro e w5 ⟨⟨r, rfl⟩, hw5⟩
    have hC5 : Cur w5 79 c ad cap bs q2 (.iface u v) := hw5 ▸ hC4
    have hK5 : Keep c w4 w5 := hw5 ▸ Keep.refl _ _
    clear hC4 hE4 hw5
    have CE := Lib.hid (err_any hC5)
    have HBR5 : Hid (Blk w5 w.heap.size 50 (cid false z16 0)) := Lib.hid (hK5.blk HBR4.out hne)
    have HF : Hid (Cur (w5.setRow w.heap.size (cid false z16 0)) 79 c ad cap bs q2 (.iface u v) ∧ Keep c w (w5.setRow w.heap.size (cid false z16 0))) := Lib.hid (by
      have hk := (HkV.out.trans hk4).trans hK5
      rw [HWo.out] at hk
      exact aread_fin H.out hC5 hk (Below.refl _ _) _)
    clear hC5 hK5 hk4
    go_wp2_with fail
    refine CE.out.mono ?_
    rintro e w6 ⟨rfl, rfl⟩
    go_wp2_with (refine wpl_store 50 _ _ rfl w.heap.size (cid false z16 0) rfl rfl _ _ HBR5.out 18 Tryz.infoCidr rfl rfl (cid_one _ _ _) rfl ?_)
    exact retA rfl w.heap.size rfl _ _ _ (HBR5.out.row _) Tryz.underlying50 rfl 18 Tryz.infoCidr rfl rfl ⟨rfl, HF.out.1, HF.out.2⟩

theorem errV_some3 (a : Nat → Addr) (k : Nat) (h : k ≠ 0) : errV a k = .iface 211 (.pointer (some (a (k - 1)))) := by unfold errV; rw [if_neg h]

/-- A row of bytes as numbers from nought on. -/
theorem nats_of (b : List Int) (h : ∀ x ∈ b, 0 ≤ x ∧ x ≤ 255) : ∃ C : List Nat, b = ints C ∧ ∀ x ∈ C, x < 256 := by
  refine ⟨b.map Int.toNat, ?_, fun x hx => ?_⟩
  · unfold ints
    rw [List.map_map]
    conv => lhs; rw [← List.map_id b]
    refine List.map_congr_left fun x hx => ?_
    have := h x hx
    show x = ((x.toNat : Nat) : Int)
    omega
  · obtain ⟨y, hy, rfl⟩ := List.mem_map.1 hx
    have := h y hy
    omega
theorem mem_getD (bs : List Int) (hb : ∀ j, 0 ≤ bs.getD j 0 ∧ bs.getD j 0 ≤ 255) : ∀ x ∈ bs, 0 ≤ x ∧ x ≤ 255 := fun x hx => by
  obtain ⟨j, hj, rfl⟩ := List.getElem_of_mem hx
  have := hb j
  rw [List.getD, List.getElem?_eq_getElem hj] at this
  exact this
theorem pad16_mem {l : List Int} (h : ∀ x ∈ l, 0 ≤ x ∧ x ≤ 255) : ∀ x ∈ pad16 l, 0 ≤ x ∧ x ≤ 255 := fun x hx => by
  rcases List.mem_append.1 hx with hx | hx
  · exact h x hx
  · obtain ⟨_, rfl⟩ := List.mem_replicate.1 hx
    omega
theorem readA_mem (bs : List Int) (p : Nat) (hb : ∀ j, 0 ≤ bs.getD j 0 ∧ bs.getD j 0 ≤ 255) : ∀ x ∈ (readA bs p).1.2, 0 ≤ x ∧ x ≤ 255 := by
  have hm := mem_getD bs hb
  have hz : ∀ x ∈ z16, (0 : Int) ≤ x ∧ x ≤ 255 := by decide
  unfold readA
  split
  · split
    · split
      · exact pad16_mem fun x hx => hm x (List.mem_of_mem_drop (List.mem_of_mem_take hx))
      · exact hz
    · split
      · split
        · exact pad16_mem fun x hx => hm x (List.mem_of_mem_drop (List.mem_of_mem_take hx))
        · exact hz
      · exact hz
  · exact hz

theorem cright3 (s : Bool) (b : List Int) (hl : b.length = 16) (hb : ∀ x ∈ b, 0 ≤ x ∧ x ≤ 255) (n : Int) (a : Nat → Addr) (w : World) (hE : ErrC a w) : Calls Tryz.prog 64 #[.agg (cid s b n)] w fun e w' => e = .returned (.bool (rightC s b n)) ∧ Below w.heap.size w w' := by
  obtain ⟨C, rfl, hC⟩ := nats_of b hb
  have lc : C.length = 16 := by rw [← ints_length, hl]
  have := cright_any s C lc hC n _ _ _ _ w hE.env3
  rw [right_eq s C lc hC n] at this
  exact this

theorem cread_any (a : Nat → Addr) (h : Cur w 79 c ad cap bs p .nilIface) (hE : ErrC a w) :
    Calls Tryz.prog 31 #[.pointer (some ⟨c, 0, none⟩)] w (CreadEnd 79 (readC bs p).1.1.1 (readC bs p).1.1.2 ((readC bs p).1.2 : Nat) c ad cap bs (readC bs p).2.1 (errV a (readC bs p).2.2) w) := by
  have cA : ∀ w', Cur w' 79 c ad cap bs p .nilIface → ErrC a w' → Calls Tryz.prog 19 #[.pointer (some ⟨c, 0, none⟩)] w' (AreadEnd 79 (readA bs p).1.1 (readA bs p).1.2 c ad cap bs (readA bs p).2.1 (errV a (readA bs p).2.2) w') := fun w' hC hE => aread_any a hC hE
  have hl := readA_len bs p
  have hmm := readA_mem bs p h.byte
  unfold readC
  generalize readA bs p = R at *
  obtain ⟨⟨s, b⟩, q, k⟩ := R
  simp only at cA hl hmm ⊢
  have cR := fun (n : Int) w hE => cright3 s b hl hmm n a w hE
  by_cases hk : k = 0
  · subst hk
    rw [if_pos rfl]
    have cA' : ∀ w', Cur w' 79 c ad cap bs p .nilIface → ErrC a w' → Calls Tryz.prog 19 #[.pointer (some ⟨c, 0, none⟩)] w' (AreadEnd 79 s b c ad cap bs q .nilIface w') := cA
    by_cases hq : q + 1 ≤ bs.length
    · rw [if_pos hq]
      cases hn : rightC s b (accN bs q 1 : Nat) with
      | false =>
        rw [if_neg (by simp)]
        refine cread_sets a h hE s b hl q (q + 1) .nilIface (accN bs q 1) cA' (fun w' hC hE' => ?_) (fun w hE => by
          have := cR (accN bs q 1 : Nat) w hE
          rw [hn] at this
          exact this)
        refine (num_ok hC 1 (by decide) (by decide) hq).mono ?_
        rintro e w2 ⟨rfl, hC2, hK2⟩
        exact ⟨rfl, .nilIface, hC2, rfl, hK2⟩
      | true =>
        rw [if_pos rfl]
        exact cread_good a h hE s b hl q cA' hq _ rfl (fun w hE => by
          have := cR (accN bs q 1 : Nat) w hE
          rw [hn] at this
          exact this)
    · rw [if_neg hq]
      refine cread_keeps a h hE s b hl q q .nilIface _ _ _ rfl 0 _ cA' (fun w' hC hE' => ?_) (cR 0)
      refine (num_short hC 1 (by decide) (by decide) (by omega) _ _ hE'.short).mono ?_
      rintro e w2 ⟨rfl, hC2, hK2⟩
      exact ⟨rfl, _, hC2, rfl, hK2⟩
  · rw [if_neg hk]
    simp only
    rw [errV_some3 a k hk] at cA ⊢
    refine cread_keeps a h hE s b hl q q _ _ _ _ rfl 0 _ cA (fun w' hC hE' => ?_) (cR 0)
    refine (num_bad hC 1 (by decide) (by decide) ⟨_, hE'.short⟩).mono ?_
    rintro e w2 ⟨rfl, n, rfl⟩
    exact ⟨rfl, _, hC.drewN n, rfl, keep_drewN c w' n⟩
end
end Go.Proofs.YtnfkgoeocebenaaGreatDoor
