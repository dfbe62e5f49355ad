/-
  The document's Read of an address: readA.
-/
import Derived.Test.YtnfkgoeocebenaaGreatDoorKaddrb
namespace Go.Proofs.YtnfkgoeocebenaaGreatDoor
open Go.RowKit

theorem out_six {w : World} {g : Nat} (h : Blk w g 24 (adr false z16)) (s : Bool) : Blk (w.setCell ⟨g, 0, none⟩ (.bool s)) g 24 (adr s z16) := by
  have := h.set 0 (.bool s)
  simpa [adr] using this

section
variable {w : World} {c : Nat} {ad : Option Addr} {cap : Nat} {bs : List Int} {p : Nat}

set_option maxRecDepth 100000 in
set_option maxHeartbeats 2000000 in
theorem rread_short (h : Cur w 41 c ad cap bs p (.int .i64 0)) (hp : bs.length ≤ p) :
    Calls Tryz.prog 20 #[.pointer (some ⟨c, 0, none⟩)] w (AreadEnd 41 false z16 c ad cap bs p (.int .i64 2) w) := by
  obtain ⟨W1, hW1⟩ : ∃ W, W = (w.alloc (.cells (adr false z16) 24)).alloc (.cells (adr false z16) 24) := ⟨_, rfl⟩
  have hz0 : (w.alloc (.cells (adr false z16) 24)).heap.size = w.heap.size + 1 := by simp
  have hB0 : Blk W1 w.heap.size 24 (adr false z16) := hW1 ▸ (Blk.new w _ _).alloc _
  have hB1 : Blk W1 (w.heap.size + 1) 24 (adr false z16) := by
    have := Blk.new (w.alloc (.cells (adr false z16) 24)) 24 (adr false z16)
    rw [hz0, ← hW1] at this
    exact this
  have hb1 : Below w.heap.size w W1 := hW1 ▸ ((Below.refl _ _).alloc (Nat.le_refl _) _).alloc (by omega) _
  have HW1 : Hid ((w.alloc (.cells #[.bool false, .int .u8 0, .int .u8 0, .int .u8 0, .int .u8 0, .int .u8 0, .int .u8 0, .int .u8 0, .int .u8 0, .int .u8 0, .int .u8 0, .int .u8 0, .int .u8 0, .int .u8 0, .int .u8 0, .int .u8 0, .int .u8 0] 24)).alloc (.cells #[.bool false, .int .u8 0, .int .u8 0, .int .u8 0, .int .u8 0, .int .u8 0, .int .u8 0, .int .u8 0, .int .u8 0, .int .u8 0, .int .u8 0, .int .u8 0, .int .u8 0, .int .u8 0, .int .u8 0, .int .u8 0, .int .u8 0] 24) = W1) := Lib.hid hW1.symm
  have hlt := h.obj.lt
  have h1 : Cur W1 41 c ad cap bs p (.int .i64 0) := h.kept hb1
  have hk1 : Keep c w W1 := Keep.of hb1 (Nat.le_of_lt hlt)
  have CN := Lib.hid (rnum_short h1 1 (by decide) (by decide) (by omega))
  clear hp
  have HB0 := Lib.hid hB0
  have HB1 := Lib.hid hB1
  have HK1 := Lib.hid hk1
  have H0 := Lib.hid h
  clear hW1 hB0 hB1 hb1 h1 hk1 hz0
  clear h
  go_enter Tryz.func20, Tryz.ntmps20
  go_wp2_with fail
  rw [HW1.out]
  refine CN.out.mono ?_
  rintro e w1 ⟨rfl, hC, hK⟩
  have c2 := hC.cell2
  have CB := Lib.hid (rbytes_bad hC (by decide) 4)
  have HC2 := Lib.hid hC
  have HK2 := Lib.hid hK
  clear hC hK
  go_wp2_with fail
  refine CB.out.mono ?_
  rintro e w2 ⟨rfl, rfl⟩
  have HX0 : Hid (Blk w2 w.heap.size 24 (adr false z16)) := Lib.hid (HK2.out.blk HB0.out (by omega))
  have HX1 : Hid (Blk w2 (w.heap.size + 1) 24 (adr false z16)) := Lib.hid (HK2.out.blk HB1.out (by omega))
  have HF : Hid (Cur (w2.setRow w.heap.size (adr false z16)) 41 c ad cap bs p (.int .i64 2) ∧ Keep c w (w2.setRow w.heap.size (adr false z16))) := Lib.hid ⟨Cur.setRow H0.out HC2.out (Nat.le_refl _) _, (HK1.out.trans HK2.out).setRow (Nat.le_of_lt hlt) (Nat.le_refl _) _⟩
  go_wp2_with (first | (refine wpl_load 24 _ rfl (w.heap.size + 1) rfl _ _ _ HX1.out Tryz.underlying24 rfl 17 Tryz.infoAddr rfl rfl ?_) | (refine wpl_store 24 _ _ rfl w.heap.size (adr false z16) rfl rfl _ _ HX0.out 17 Tryz.infoAddr rfl rfl (adr_one _ _) rfl ?_))
  exact retA rfl w.heap.size rfl _ _ _ (HX0.out.row _) Tryz.underlying24 rfl 17 Tryz.infoAddr rfl rfl ⟨rfl, HF.out.1, HF.out.2⟩

set_option maxRecDepth 100000 in
set_option maxHeartbeats 2000000 in
theorem rread_kind (h : Cur w 41 c ad cap bs p (.int .i64 0)) (hp : p < bs.length) (h4 : bs.getD p 0 ≠ 4) (h6 : bs.getD p 0 ≠ 6) :
    Calls Tryz.prog 20 #[.pointer (some ⟨c, 0, none⟩)] w (AreadEnd 41 false z16 c ad cap bs (p + 1) (.int .i64 7) w) := by
  obtain ⟨W1, hW1⟩ : ∃ W, W = (w.alloc (.cells (adr false z16) 24)).alloc (.cells (adr false z16) 24) := ⟨_, rfl⟩
  have hz0 : (w.alloc (.cells (adr false z16) 24)).heap.size = w.heap.size + 1 := by simp
  have hB0 : Blk W1 w.heap.size 24 (adr false z16) := hW1 ▸ (Blk.new w _ _).alloc _
  have hB1 : Blk W1 (w.heap.size + 1) 24 (adr false z16) := by
    have := Blk.new (w.alloc (.cells (adr false z16) 24)) 24 (adr false z16)
    rw [hz0, ← hW1] at this
    exact this
  have hb1 : Below w.heap.size w W1 := hW1 ▸ ((Below.refl _ _).alloc (Nat.le_refl _) _).alloc (by omega) _
  have HW1 : Hid ((w.alloc (.cells #[.bool false, .int .u8 0, .int .u8 0, .int .u8 0, .int .u8 0, .int .u8 0, .int .u8 0, .int .u8 0, .int .u8 0, .int .u8 0, .int .u8 0, .int .u8 0, .int .u8 0, .int .u8 0, .int .u8 0, .int .u8 0, .int .u8 0] 24)).alloc (.cells #[.bool false, .int .u8 0, .int .u8 0, .int .u8 0, .int .u8 0, .int .u8 0, .int .u8 0, .int .u8 0, .int .u8 0, .int .u8 0, .int .u8 0, .int .u8 0, .int .u8 0, .int .u8 0, .int .u8 0, .int .u8 0, .int .u8 0] 24) = W1) := Lib.hid hW1.symm
  have hlt := h.obj.lt
  have h1 : Cur W1 41 c ad cap bs p (.int .i64 0) := h.kept hb1
  have hk1 : Keep c w W1 := Keep.of hb1 (Nat.le_of_lt hlt)
  have CN := Lib.hid (rnum_ok h1 1 (by decide) (by decide) (by omega))
  rw [acc1 bs p h.byte] at CN
  obtain ⟨m, hm⟩ : ∃ m, m = bs.getD p 0 := ⟨_, rfl⟩
  rw [← hm] at CN h4 h6
  have d4 : (m != 4) = true := by rw [bne_iff_ne]; exact h4
  have d6 : (m != 6) = true := by rw [bne_iff_ne]; exact h6
  have e6 : (m == 6) = false := by rw [beq_eq_false_iff_ne]; exact h6
  clear hm h4 h6
  clear hp
  have HB0 := Lib.hid hB0
  have HB1 := Lib.hid hB1
  have HK1 := Lib.hid hk1
  have H0 := Lib.hid h
  clear hW1 hB0 hB1 hb1 h1 hk1 hz0
  clear h
  go_enter Tryz.func20, Tryz.ntmps20
  go_wp2_with fail
  rw [HW1.out]
  refine CN.out.mono ?_
  rintro e w1 ⟨rfl, hC, hK⟩
  have c2 := hC.cell2
  have hf := hC.free 2
  have hC2 := hC.fails (.int .i64 7)
  have hK2 : Keep c W1 (w1.setCell ⟨c, 2, none⟩ (.int .i64 7)) := hK.trans (Keep.set w1 c 2 _)
  have CB := Lib.hid (rbytes_bad hC2 (by decide) 4)
  have HC2 := Lib.hid hC2
  have HK2 := Lib.hid hK2
  have c22 := hC2.cell2
  clear hC hK hC2 hK2
  go_wp2_with fail
  refine CB.out.mono ?_
  rintro e w2 ⟨rfl, rfl⟩
  have HX0 : Hid (Blk (w1.setCell ⟨c, 2, none⟩ (.int .i64 7)) w.heap.size 24 (adr false z16)) := Lib.hid (HK2.out.blk HB0.out (by omega))
  have HX1 : Hid (Blk (w1.setCell ⟨c, 2, none⟩ (.int .i64 7)) (w.heap.size + 1) 24 (adr false z16)) := Lib.hid (HK2.out.blk HB1.out (by omega))
  have HF : Hid (Cur ((w1.setCell ⟨c, 2, none⟩ (.int .i64 7)).setRow w.heap.size (adr false z16)) 41 c ad cap bs (p + 1) (.int .i64 7) ∧ Keep c w ((w1.setCell ⟨c, 2, none⟩ (.int .i64 7)).setRow w.heap.size (adr false z16))) := Lib.hid ⟨Cur.setRow H0.out HC2.out (Nat.le_refl _) _, (HK1.out.trans HK2.out).setRow (Nat.le_of_lt hlt) (Nat.le_refl _) _⟩
  go_wp2_with (first | (refine wpl_load 24 _ rfl (w.heap.size + 1) rfl _ _ _ HX1.out Tryz.underlying24 rfl 17 Tryz.infoAddr rfl rfl ?_) | (refine wpl_store 24 _ _ rfl w.heap.size (adr false z16) rfl rfl _ _ HX0.out 17 Tryz.infoAddr rfl rfl (adr_one _ _) rfl ?_))
  exact retA rfl w.heap.size rfl _ _ _ (HX0.out.row _) Tryz.underlying24 rfl 17 Tryz.infoAddr rfl rfl ⟨rfl, HF.out.1, HF.out.2⟩

set_option maxRecDepth 100000 in
set_option maxHeartbeats 2000000 in
theorem rread_four_short (h : Cur w 41 c ad cap bs p (.int .i64 0)) (hp : p < bs.length) (hm : bs.getD p 0 = 4) (hgt : bs.length < p + 5) :
    Calls Tryz.prog 20 #[.pointer (some ⟨c, 0, none⟩)] w (AreadEnd 41 false z16 c ad cap bs (p + 1) (.int .i64 2) w) := by
  obtain ⟨W1, hW1⟩ : ∃ W, W = (w.alloc (.cells (adr false z16) 24)).alloc (.cells (adr false z16) 24) := ⟨_, rfl⟩
  have hz0 : (w.alloc (.cells (adr false z16) 24)).heap.size = w.heap.size + 1 := by simp
  have hB0 : Blk W1 w.heap.size 24 (adr false z16) := hW1 ▸ (Blk.new w _ _).alloc _
  have hB1 : Blk W1 (w.heap.size + 1) 24 (adr false z16) := by
    have := Blk.new (w.alloc (.cells (adr false z16) 24)) 24 (adr false z16)
    rw [hz0, ← hW1] at this
    exact this
  have hb1 : Below w.heap.size w W1 := hW1 ▸ ((Below.refl _ _).alloc (Nat.le_refl _) _).alloc (by omega) _
  have HW1 : Hid ((w.alloc (.cells #[.bool false, .int .u8 0, .int .u8 0, .int .u8 0, .int .u8 0, .int .u8 0, .int .u8 0, .int .u8 0, .int .u8 0, .int .u8 0, .int .u8 0, .int .u8 0, .int .u8 0, .int .u8 0, .int .u8 0, .int .u8 0, .int .u8 0] 24)).alloc (.cells #[.bool false, .int .u8 0, .int .u8 0, .int .u8 0, .int .u8 0, .int .u8 0, .int .u8 0, .int .u8 0, .int .u8 0, .int .u8 0, .int .u8 0, .int .u8 0, .int .u8 0, .int .u8 0, .int .u8 0, .int .u8 0, .int .u8 0] 24) = W1) := Lib.hid hW1.symm
  have hlt := h.obj.lt
  have h1 : Cur W1 41 c ad cap bs p (.int .i64 0) := h.kept hb1
  have hk1 : Keep c w W1 := Keep.of hb1 (Nat.le_of_lt hlt)
  have CN := Lib.hid (rnum_ok h1 1 (by decide) (by decide) (by omega))
  rw [acc1 bs p h.byte, hm] at CN
  clear hm hp
  have HB0 := Lib.hid hB0
  have HB1 := Lib.hid hB1
  have HK1 := Lib.hid hk1
  have H0 := Lib.hid h
  clear hW1 hB0 hB1 hb1 h1 hk1 hz0
  clear h
  go_enter Tryz.func20, Tryz.ntmps20
  go_wp2_with fail
  rw [HW1.out]
  refine CN.out.mono ?_
  rintro e w1 ⟨rfl, hC, hK⟩
  have c2 := hC.cell2
  have CB := Lib.hid (rbytes_short hC 4 (by omega))
  have HK := Lib.hid hK
  clear hC hK
  go_wp2_with fail
  refine CB.out.mono ?_
  rintro e w2 ⟨rfl, hC, hK⟩
  have c22 := hC.cell2
  have HC2 := Lib.hid hC
  have HK2 := Lib.hid (HK.out.trans hK)
  clear hC hK
  have HX0 : Hid (Blk w2 w.heap.size 24 (adr false z16)) := Lib.hid (HK2.out.blk HB0.out (by omega))
  have HX1 : Hid (Blk w2 (w.heap.size + 1) 24 (adr false z16)) := Lib.hid (HK2.out.blk HB1.out (by omega))
  have HF : Hid (Cur (w2.setRow w.heap.size (adr false z16)) 41 c ad cap bs (p + 1) (.int .i64 2) ∧ Keep c w (w2.setRow w.heap.size (adr false z16))) := Lib.hid ⟨Cur.setRow H0.out HC2.out (Nat.le_refl _) _, (HK1.out.trans HK2.out).setRow (Nat.le_of_lt hlt) (Nat.le_refl _) _⟩
  go_wp2_with (first | (refine wpl_load 24 _ rfl (w.heap.size + 1) rfl _ _ _ HX1.out Tryz.underlying24 rfl 17 Tryz.infoAddr rfl rfl ?_) | (refine wpl_store 24 _ _ rfl w.heap.size (adr false z16) rfl rfl _ _ HX0.out 17 Tryz.infoAddr rfl rfl (adr_one _ _) rfl ?_))
  exact retA rfl w.heap.size rfl _ _ _ (HX0.out.row _) Tryz.underlying24 rfl 17 Tryz.infoAddr rfl rfl ⟨rfl, HF.out.1, HF.out.2⟩

set_option maxRecDepth 100000 in
set_option maxHeartbeats 2000000 in
theorem rread_six_short (h : Cur w 41 c ad cap bs p (.int .i64 0)) (hp : p < bs.length) (hm : bs.getD p 0 = 6) (hgt : bs.length < p + 17) :
    Calls Tryz.prog 20 #[.pointer (some ⟨c, 0, none⟩)] w (AreadEnd 41 false z16 c ad cap bs (p + 1) (.int .i64 2) w) := by
  obtain ⟨W1, hW1⟩ : ∃ W, W = (w.alloc (.cells (adr false z16) 24)).alloc (.cells (adr false z16) 24) := ⟨_, rfl⟩
  have hz0 : (w.alloc (.cells (adr false z16) 24)).heap.size = w.heap.size + 1 := by simp
  have hB0 : Blk W1 w.heap.size 24 (adr false z16) := hW1 ▸ (Blk.new w _ _).alloc _
  have hB1 : Blk W1 (w.heap.size + 1) 24 (adr false z16) := by
    have := Blk.new (w.alloc (.cells (adr false z16) 24)) 24 (adr false z16)
    rw [hz0, ← hW1] at this
    exact this
  have hb1 : Below w.heap.size w W1 := hW1 ▸ ((Below.refl _ _).alloc (Nat.le_refl _) _).alloc (by omega) _
  have HW1 : Hid ((w.alloc (.cells #[.bool false, .int .u8 0, .int .u8 0, .int .u8 0, .int .u8 0, .int .u8 0, .int .u8 0, .int .u8 0, .int .u8 0, .int .u8 0, .int .u8 0, .int .u8 0, .int .u8 0, .int .u8 0, .int .u8 0, .int .u8 0, .int .u8 0] 24)).alloc (.cells #[.bool false, .int .u8 0, .int .u8 0, .int .u8 0, .int .u8 0, .int .u8 0, .int .u8 0, .int .u8 0, .int .u8 0, .int .u8 0, .int .u8 0, .int .u8 0, .int .u8 0, .int .u8 0, .int .u8 0, .int .u8 0, .int .u8 0] 24) = W1) := Lib.hid hW1.symm
  have hlt := h.obj.lt
  have h1 : Cur W1 41 c ad cap bs p (.int .i64 0) := h.kept hb1
  have hk1 : Keep c w W1 := Keep.of hb1 (Nat.le_of_lt hlt)
  have CN := Lib.hid (rnum_ok h1 1 (by decide) (by decide) (by omega))
  rw [acc1 bs p h.byte, hm] at CN
  clear hm hp
  have HB0 := Lib.hid hB0
  have HB1 := Lib.hid hB1
  have HK1 := Lib.hid hk1
  have H0 := Lib.hid h
  clear hW1 hB0 hB1 hb1 h1 hk1 hz0
  clear h
  go_enter Tryz.func20, Tryz.ntmps20
  go_wp2_with fail
  rw [HW1.out]
  refine CN.out.mono ?_
  rintro e w1 ⟨rfl, hC, hK⟩
  have c2 := hC.cell2
  have CB := Lib.hid (rbytes_short hC 16 (by omega))
  have HK := Lib.hid hK
  clear hC hK
  go_wp2_with fail
  refine CB.out.mono ?_
  rintro e w2 ⟨rfl, hC, hK⟩
  have c22 := hC.cell2
  have HC2 := Lib.hid hC
  have HK2 := Lib.hid (HK.out.trans hK)
  clear hC hK
  have HX0 : Hid (Blk w2 w.heap.size 24 (adr false z16)) := Lib.hid (HK2.out.blk HB0.out (by omega))
  have HX1 : Hid (Blk w2 (w.heap.size + 1) 24 (adr false z16)) := Lib.hid (HK2.out.blk HB1.out (by omega))
  have HF : Hid (Cur (w2.setRow w.heap.size (adr false z16)) 41 c ad cap bs (p + 1) (.int .i64 2) ∧ Keep c w (w2.setRow w.heap.size (adr false z16))) := Lib.hid ⟨Cur.setRow H0.out HC2.out (Nat.le_refl _) _, (HK1.out.trans HK2.out).setRow (Nat.le_of_lt hlt) (Nat.le_refl _) _⟩
  go_wp2_with (first | (refine wpl_load 24 _ rfl (w.heap.size + 1) rfl _ _ _ HX1.out Tryz.underlying24 rfl 17 Tryz.infoAddr rfl rfl ?_) | (refine wpl_store 24 _ _ rfl w.heap.size (adr false z16) rfl rfl _ _ HX0.out 17 Tryz.infoAddr rfl rfl (adr_one _ _) rfl ?_))
  exact retA rfl w.heap.size rfl _ _ _ (HX0.out.row _) Tryz.underlying24 rfl 17 Tryz.infoAddr rfl rfl ⟨rfl, HF.out.1, HF.out.2⟩

set_option maxRecDepth 100000 in
set_option maxHeartbeats 2000000 in
theorem rread_four_ok (h : Cur w 41 c ad cap bs p (.int .i64 0)) (hm : bs.getD p 0 = 4) (hle : p + 1 + 4 ≤ bs.length) :
    Calls Tryz.prog 20 #[.pointer (some ⟨c, 0, none⟩)] w (AreadEnd 41 false (pad16 ((bs.drop (p + 1)).take 4)) c ad cap bs (p + 1 + 4) (.int .i64 0) w) := by
  obtain ⟨W1, hW1⟩ : ∃ W, W = (w.alloc (.cells (adr false z16) 24)).alloc (.cells (adr false z16) 24) := ⟨_, rfl⟩
  have hz0 : (w.alloc (.cells (adr false z16) 24)).heap.size = w.heap.size + 1 := by simp
  have hB0 : Blk W1 w.heap.size 24 (adr false z16) := hW1 ▸ (Blk.new w _ _).alloc _
  have hB1 : Blk W1 (w.heap.size + 1) 24 (adr false z16) := by
    have := Blk.new (w.alloc (.cells (adr false z16) 24)) 24 (adr false z16)
    rw [hz0, ← hW1] at this
    exact this
  have hb1 : Below w.heap.size w W1 := hW1 ▸ ((Below.refl _ _).alloc (Nat.le_refl _) _).alloc (by omega) _
  have HW1 : Hid ((w.alloc (.cells #[.bool false, .int .u8 0, .int .u8 0, .int .u8 0, .int .u8 0, .int .u8 0, .int .u8 0, .int .u8 0, .int .u8 0, .int .u8 0, .int .u8 0, .int .u8 0, .int .u8 0, .int .u8 0, .int .u8 0, .int .u8 0, .int .u8 0] 24)).alloc (.cells #[.bool false, .int .u8 0, .int .u8 0, .int .u8 0, .int .u8 0, .int .u8 0, .int .u8 0, .int .u8 0, .int .u8 0, .int .u8 0, .int .u8 0, .int .u8 0, .int .u8 0, .int .u8 0, .int .u8 0, .int .u8 0, .int .u8 0] 24) = W1) := Lib.hid hW1.symm
  have hlt := h.obj.lt
  have h1 : Cur W1 41 c ad cap bs p (.int .i64 0) := h.kept hb1
  have hk1 : Keep c w W1 := Keep.of hb1 (Nat.le_of_lt hlt)
  obtain ⟨g, o, rfl, hgc, _⟩ := h.row 0 (by omega)
  obtain ⟨L, hL⟩ : ∃ L, L = (bs.drop (p + 1)).take 4 := ⟨_, rfl⟩
  have hLl : L.length = 4 := by rw [hL, List.length_take, List.length_drop]; omega
  have hLc : ∀ w' : World, Cur w' 41 c (some ⟨g, o, none⟩) cap bs (p + 1 + 4) (.int .i64 0) → ∀ w'' : World, (∀ j, j < 4 → w''.cell? ⟨g, o + (p + 1) + j, none⟩ = w'.cell? ⟨g, o + (p + 1) + j, none⟩) → ∃ a, some (⟨g, o + (p + 1), none⟩ : Addr) = some a ∧ ∀ j v, (L.map (Value.int .u8))[j]? = some v → w''.cell? (a.add j) = some v := fun w' hC w'' hw => row_cells (w := w'') (l := L) (fun j hj => by
    obtain ⟨g', o', e, _, hx⟩ := hC.row (p + 1 + j) (by omega)
    cases e
    refine ⟨_, _, rfl, ?_⟩
    rw [hw j (by omega), Nat.add_assoc, hx, hL]
    simp [List.getD, List.getElem?_drop, show j < 4 by omega]) (by omega)
  have hg : g < w.heap.size := by
    obtain ⟨g', o', e, _, hx⟩ := h.row 0 (by omega)
    cases e
    exact World.block_lt_of_cell? w _ hx
  rw [← hL]
  have CN := Lib.hid (rnum_ok h1 1 (by decide) (by decide) (by omega))
  rw [acc1 bs p h.byte, hm] at CN
  have HLc := Lib.hid hLc
  have HLl := Lib.hid hLl
  have HB0 := Lib.hid hB0
  have HB1 := Lib.hid hB1
  have HK1 := Lib.hid hk1
  have H0 := Lib.hid h
  have HSp : Hid (splice (adr false z16).toList 1 (L.map (Value.int .u8)) = (adr false (pad16 L)).toList) := Lib.hid (splice_adr false L (by omega))
  obtain ⟨cs, hcs⟩ : ∃ cs, cs = L.map (Value.int .u8) := ⟨_, rfl⟩
  have Hn : Hid (cs.length = Nat.min 4 16) := Lib.hid (by rw [hcs, List.length_map, hLl]; rfl)
  have H1 : Hid (∀ v ∈ cs, v.oneCell' = true) := Lib.hid (by rw [hcs]; exact bytes_one L)
  have L17 : Hid (17 = (adr false (pad16 L)).size) := Lib.hid (by rw [adr_size, pad16_length L (by omega)])
  rw [← hcs] at HLc HSp
  clear hW1 hB0 hB1 hb1 h1 hk1 hz0 h hm hLc hLl hL hcs
  go_enter Tryz.func20, Tryz.ntmps20
  go_wp2_with fail
  rw [HW1.out]
  refine CN.out.mono ?_
  rintro e w1 ⟨rfl, hC, hK⟩
  have c2 := hC.cell2
  have CB := Lib.hid (rbytes_ok hC 4 (by decide) (by omega))
  have HK := Lib.hid hK
  clear hC hK
  go_wp2_with fail
  refine CB.out.mono ?_
  rintro e w2 ⟨cap', rfl, hC, hK⟩
  have c22 := hC.cell2
  have hk2 := HK.out.trans hK
  have hX0 : Blk w2 w.heap.size 24 (adr false z16) := hk2.blk HB0.out (by omega)
  have hX1 : Blk w2 (w.heap.size + 1) 24 (adr false z16) := hk2.blk HB1.out (by omega)
  obtain ⟨w3, hw3⟩ : ∃ w3, w3 = w2.setCell ⟨w.heap.size + 1, 0, none⟩ (.bool false) := ⟨_, rfl⟩
  have hY1 : Blk w3 (w.heap.size + 1) 24 (adr false z16) := hw3 ▸ out_six hX1 false
  have hY0 : Blk w3 w.heap.size 24 (adr false z16) := hw3 ▸ hX0.setOther (by omega) _ _
  have hb3 : Below w.heap.size w2 w3 := hw3 ▸ (Below.refl _ _).setCell (p := ⟨w.heap.size + 1, 0, none⟩) (Nat.le_succ _) _
  have hf0 := hX1.frozen 0
  have hx0 : w2.cell? ⟨w.heap.size + 1, 0, none⟩ = some (.bool false) := by rw [hX1.cell]; rfl
  have HW3 := Lib.hid hw3.symm
  have Hg : Hid (w3.heap[w.heap.size + 1]? = some (.cells (adr false z16).toList.toArray 24 (0, 0))) := Lib.hid hY1
  have HS : Hid (∃ a, some (⟨g, o + (p + 1), none⟩ : Addr) = some a ∧ ∀ j v, cs[j]? = some v → w3.cell? (a.add j) = some v) := Lib.hid (HLc.out w2 hC w3 (fun j _ => hb3.cell hg))
  have HC := Lib.hid hC
  have HK2 := Lib.hid hk2
  have HY0 := Lib.hid hY0
  have Hb3 := Lib.hid hb3
  clear hC hK hk2 hX0 hX1 hw3 hY1 hY0 hb3
  go_upto_region 13 with ((try rw [HW3.out]); ((show wpList _ _ _ (⟨some 43, _, _, _, _, _⟩ :: _) _ _); go_must (refine wpList_copy_splice rfl (.tmp 41) (.tmp 42) 25 25 rfl 5 Tryz.underlying25 Tryz.oneU8x (some ⟨w.heap.size + 1, 1, none⟩) (some ⟨g, o + (p + 1), none⟩) 16 16 4 cap' rfl rfl (w.heap.size + 1) 1 (adr false z16).toList 24 Hg.out cs Hn.out (fun _ => ⟨rfl, HS.out⟩) (by rw [Hn.out]; decide) H1.out (w.heap.size + 1) w3 (Below.refl _ _) (Nat.le_refl _) ?_; intro w4 HG4 hB4)))
  have HB4 : Hid (Blk w4 (w.heap.size + 1) 24 (adr false (pad16 L))) := Lib.hid (by
    have := HG4.out
    rw [HSp.out] at this
    exact this)
  have HX4 : Hid (Blk w4 w.heap.size 24 (adr false z16)) := Lib.hid (HY0.out.below hB4 (by omega))
  have hlo : Below w.heap.size w2 w4 := Hb3.out.trans (hB4.mono (by omega))
  have HF : Hid (Cur (w4.setRow w.heap.size (adr false (pad16 L))) 41 c (some ⟨g, o, none⟩) cap bs (p + 1 + 4) (.int .i64 0) ∧ Keep c w (w4.setRow w.heap.size (adr false (pad16 L)))) := Lib.hid (by
    have hC4 : Cur w4 41 c (some ⟨g, o, none⟩) cap bs (p + 1 + 4) (.int .i64 0) := ⟨HC.out.obj.below hlo hlt, fun j hj => by
      obtain ⟨g', o', e, hne, hx⟩ := HC.out.row j hj
      cases e
      exact ⟨g, o, rfl, hne, (hlo.cell hg).trans hx⟩, HC.out.le, HC.out.room, HC.out.most, HC.out.byte⟩
    have hK4 : Keep c w w4 := by
      have h12 := HK1.out.trans HK2.out
      exact ⟨h12.low.trans (hlo.mono (Nat.le_of_lt hlt)), fun g hg hne => (hlo.block g hg).trans (h12.rest g hg hne)⟩
    exact ⟨Cur.setRow H0.out hC4 (Nat.le_refl _) _, hK4.setRow (Nat.le_of_lt hlt) (Nat.le_refl _) _⟩)
  clear HG4 hB4 hlo
  go_wp2_with (first | (refine wpl_load 24 _ rfl (w.heap.size + 1) rfl _ _ _ HB4.out Tryz.underlying24 rfl 17 Tryz.infoAddr L17.out rfl ?_) | (refine wpl_store 24 _ _ rfl w.heap.size (adr false (pad16 L)) rfl rfl _ _ HX4.out 17 Tryz.infoAddr L17.out rfl (adr_one _ _) rfl ?_))
  exact retA rfl w.heap.size rfl _ _ _ (HX4.out.row _) Tryz.underlying24 rfl 17 Tryz.infoAddr L17.out rfl ⟨rfl, HF.out.1, HF.out.2⟩

set_option maxRecDepth 100000 in
set_option maxHeartbeats 2000000 in
theorem rread_six_ok (h : Cur w 41 c ad cap bs p (.int .i64 0)) (hm : bs.getD p 0 = 6) (hle : p + 1 + 16 ≤ bs.length) :
    Calls Tryz.prog 20 #[.pointer (some ⟨c, 0, none⟩)] w (AreadEnd 41 true (pad16 ((bs.drop (p + 1)).take 16)) c ad cap bs (p + 1 + 16) (.int .i64 0) w) := by
  obtain ⟨W1, hW1⟩ : ∃ W, W = (w.alloc (.cells (adr false z16) 24)).alloc (.cells (adr false z16) 24) := ⟨_, rfl⟩
  have hz0 : (w.alloc (.cells (adr false z16) 24)).heap.size = w.heap.size + 1 := by simp
  have hB0 : Blk W1 w.heap.size 24 (adr false z16) := hW1 ▸ (Blk.new w _ _).alloc _
  have hB1 : Blk W1 (w.heap.size + 1) 24 (adr false z16) := by
    have := Blk.new (w.alloc (.cells (adr false z16) 24)) 24 (adr false z16)
    rw [hz0, ← hW1] at this
    exact this
  have hb1 : Below w.heap.size w W1 := hW1 ▸ ((Below.refl _ _).alloc (Nat.le_refl _) _).alloc (by omega) _
  have HW1 : Hid ((w.alloc (.cells #[.bool false, .int .u8 0, .int .u8 0, .int .u8 0, .int .u8 0, .int .u8 0, .int .u8 0, .int .u8 0, .int .u8 0, .int .u8 0, .int .u8 0, .int .u8 0, .int .u8 0, .int .u8 0, .int .u8 0, .int .u8 0, .int .u8 0] 24)).alloc (.cells #[.bool false, .int .u8 0, .int .u8 0, .int .u8 0, .int .u8 0, .int .u8 0, .int .u8 0, .int .u8 0, .int .u8 0, .int .u8 0, .int .u8 0, .int .u8 0, .int .u8 0, .int .u8 0, .int .u8 0, .int .u8 0, .int .u8 0] 24) = W1) := Lib.hid hW1.symm
  have hlt := h.obj.lt
  have h1 : Cur W1 41 c ad cap bs p (.int .i64 0) := h.kept hb1
  have hk1 : Keep c w W1 := Keep.of hb1 (Nat.le_of_lt hlt)
  obtain ⟨g, o, rfl, hgc, _⟩ := h.row 0 (by omega)
  obtain ⟨L, hL⟩ : ∃ L, L = (bs.drop (p + 1)).take 16 := ⟨_, rfl⟩
  have hLl : L.length = 16 := by rw [hL, List.length_take, List.length_drop]; omega
  have hLc : ∀ w' : World, Cur w' 41 c (some ⟨g, o, none⟩) cap bs (p + 1 + 16) (.int .i64 0) → ∀ w'' : World, (∀ j, j < 16 → w''.cell? ⟨g, o + (p + 1) + j, none⟩ = w'.cell? ⟨g, o + (p + 1) + j, none⟩) → ∃ a, some (⟨g, o + (p + 1), none⟩ : Addr) = some a ∧ ∀ j v, (L.map (Value.int .u8))[j]? = some v → w''.cell? (a.add j) = some v := fun w' hC w'' hw => row_cells (w := w'') (l := L) (fun j hj => by
    obtain ⟨g', o', e, _, hx⟩ := hC.row (p + 1 + j) (by omega)
    cases e
    refine ⟨_, _, rfl, ?_⟩
    rw [hw j (by omega), Nat.add_assoc, hx, hL]
    simp [List.getD, List.getElem?_drop, show j < 16 by omega]) (by omega)
  have hg : g < w.heap.size := by
    obtain ⟨g', o', e, _, hx⟩ := h.row 0 (by omega)
    cases e
    exact World.block_lt_of_cell? w _ hx
  rw [← hL]
  have CN := Lib.hid (rnum_ok h1 1 (by decide) (by decide) (by omega))
  rw [acc1 bs p h.byte, hm] at CN
  have HLc := Lib.hid hLc
  have HLl := Lib.hid hLl
  have HB0 := Lib.hid hB0
  have HB1 := Lib.hid hB1
  have HK1 := Lib.hid hk1
  have H0 := Lib.hid h
  have HSp : Hid (splice (adr true z16).toList 1 (L.map (Value.int .u8)) = (adr true (pad16 L)).toList) := Lib.hid (splice_adr true L (by omega))
  obtain ⟨cs, hcs⟩ : ∃ cs, cs = L.map (Value.int .u8) := ⟨_, rfl⟩
  have Hn : Hid (cs.length = Nat.min 16 16) := Lib.hid (by rw [hcs, List.length_map, hLl]; rfl)
  have H1 : Hid (∀ v ∈ cs, v.oneCell' = true) := Lib.hid (by rw [hcs]; exact bytes_one L)
  have L17 : Hid (17 = (adr true (pad16 L)).size) := Lib.hid (by rw [adr_size, pad16_length L (by omega)])
  rw [← hcs] at HLc HSp
  clear hW1 hB0 hB1 hb1 h1 hk1 hz0 h hm hLc hLl hL hcs
  go_enter Tryz.func20, Tryz.ntmps20
  go_wp2_with fail
  rw [HW1.out]
  refine CN.out.mono ?_
  rintro e w1 ⟨rfl, hC, hK⟩
  have c2 := hC.cell2
  have CB := Lib.hid (rbytes_ok hC 16 (by decide) (by omega))
  have HK := Lib.hid hK
  clear hC hK
  go_wp2_with fail
  refine CB.out.mono ?_
  rintro e w2 ⟨cap', rfl, hC, hK⟩
  have c22 := hC.cell2
  have hk2 := HK.out.trans hK
  have hX0 : Blk w2 w.heap.size 24 (adr false z16) := hk2.blk HB0.out (by omega)
  have hX1 : Blk w2 (w.heap.size + 1) 24 (adr false z16) := hk2.blk HB1.out (by omega)
  obtain ⟨w3, hw3⟩ : ∃ w3, w3 = w2.setCell ⟨w.heap.size + 1, 0, none⟩ (.bool true) := ⟨_, rfl⟩
  have hY1 : Blk w3 (w.heap.size + 1) 24 (adr true z16) := hw3 ▸ out_six hX1 true
  have hY0 : Blk w3 w.heap.size 24 (adr false z16) := hw3 ▸ hX0.setOther (by omega) _ _
  have hb3 : Below w.heap.size w2 w3 := hw3 ▸ (Below.refl _ _).setCell (p := ⟨w.heap.size + 1, 0, none⟩) (Nat.le_succ _) _
  have hf0 := hX1.frozen 0
  have hx0 : w2.cell? ⟨w.heap.size + 1, 0, none⟩ = some (.bool false) := by rw [hX1.cell]; rfl
  have HW3 := Lib.hid hw3.symm
  have Hg : Hid (w3.heap[w.heap.size + 1]? = some (.cells (adr true z16).toList.toArray 24 (0, 0))) := Lib.hid hY1
  have HS : Hid (∃ a, some (⟨g, o + (p + 1), none⟩ : Addr) = some a ∧ ∀ j v, cs[j]? = some v → w3.cell? (a.add j) = some v) := Lib.hid (HLc.out w2 hC w3 (fun j _ => hb3.cell hg))
  have HC := Lib.hid hC
  have HK2 := Lib.hid hk2
  have HY0 := Lib.hid hY0
  have Hb3 := Lib.hid hb3
  clear hC hK hk2 hX0 hX1 hw3 hY1 hY0 hb3
  go_upto_region 13 with ((try rw [HW3.out]); ((show wpList _ _ _ (⟨some 43, _, _, _, _, _⟩ :: _) _ _); go_must (refine wpList_copy_splice rfl (.tmp 41) (.tmp 42) 25 25 rfl 5 Tryz.underlying25 Tryz.oneU8x (some ⟨w.heap.size + 1, 1, none⟩) (some ⟨g, o + (p + 1), none⟩) 16 16 16 cap' rfl rfl (w.heap.size + 1) 1 (adr true z16).toList 24 Hg.out cs Hn.out (fun _ => ⟨rfl, HS.out⟩) (by rw [Hn.out]; decide) H1.out (w.heap.size + 1) w3 (Below.refl _ _) (Nat.le_refl _) ?_; intro w4 HG4 hB4)))
  have HB4 : Hid (Blk w4 (w.heap.size + 1) 24 (adr true (pad16 L))) := Lib.hid (by
    have := HG4.out
    rw [HSp.out] at this
    exact this)
  have HX4 : Hid (Blk w4 w.heap.size 24 (adr false z16)) := Lib.hid (HY0.out.below hB4 (by omega))
  have hlo : Below w.heap.size w2 w4 := Hb3.out.trans (hB4.mono (by omega))
  have HF : Hid (Cur (w4.setRow w.heap.size (adr true (pad16 L))) 41 c (some ⟨g, o, none⟩) cap bs (p + 1 + 16) (.int .i64 0) ∧ Keep c w (w4.setRow w.heap.size (adr true (pad16 L)))) := Lib.hid (by
    have hC4 : Cur w4 41 c (some ⟨g, o, none⟩) cap bs (p + 1 + 16) (.int .i64 0) := ⟨HC.out.obj.below hlo hlt, fun j hj => by
      obtain ⟨g', o', e, hne, hx⟩ := HC.out.row j hj
      cases e
      exact ⟨g, o, rfl, hne, (hlo.cell hg).trans hx⟩, HC.out.le, HC.out.room, HC.out.most, HC.out.byte⟩
    have hK4 : Keep c w w4 := by
      have h12 := HK1.out.trans HK2.out
      exact ⟨h12.low.trans (hlo.mono (Nat.le_of_lt hlt)), fun g hg hne => (hlo.block g hg).trans (h12.rest g hg hne)⟩
    exact ⟨Cur.setRow H0.out hC4 (Nat.le_refl _) _, hK4.setRow (Nat.le_of_lt hlt) (Nat.le_refl _) _⟩)
  clear HG4 hB4 hlo
  go_wp2_with (first | (refine wpl_load 24 _ rfl (w.heap.size + 1) rfl _ _ _ HB4.out Tryz.underlying24 rfl 17 Tryz.infoAddr L17.out rfl ?_) | (refine wpl_store 24 _ _ rfl w.heap.size (adr true (pad16 L)) rfl rfl _ _ HX4.out 17 Tryz.infoAddr L17.out rfl (adr_one _ _) rfl ?_))
  exact retA rfl w.heap.size rfl _ _ _ (HX4.out.row _) Tryz.underlying24 rfl 17 Tryz.infoAddr L17.out rfl ⟨rfl, HF.out.1, HF.out.2⟩

theorem rread_any (h : Cur w 41 c ad cap bs p (.int .i64 0)) :
    Calls Tryz.prog 20 #[.pointer (some ⟨c, 0, none⟩)] w (AreadEnd 41 (readA bs p).1.1 (readA bs p).1.2 c ad cap bs (readA bs p).2.1 (.int .i64 ((readA bs p).2.2 : Nat)) w) := by
  unfold readA
  by_cases hp : p < bs.length
  · rw [if_pos hp]
    by_cases h4 : bs.getD p 0 = 4
    · rw [if_pos h4]
      by_cases hl : p + 5 ≤ bs.length
      · rw [if_pos hl]
        exact rread_four_ok h h4 (by omega)
      · rw [if_neg hl]
        exact rread_four_short h hp h4 (by omega)
    · rw [if_neg h4]
      by_cases h6 : bs.getD p 0 = 6
      · rw [if_pos h6]
        by_cases hl : p + 17 ≤ bs.length
        · rw [if_pos hl]
          exact rread_six_ok h h6 (by omega)
        · rw [if_neg hl]
          exact rread_six_short h hp h6 (by omega)
      · rw [if_neg h6]
        exact rread_kind h hp h4 h6
  · rw [if_neg hp]
    exact rread_short h (Nat.le_of_not_lt hp)
end
end Go.Proofs.YtnfkgoeocebenaaGreatDoor
