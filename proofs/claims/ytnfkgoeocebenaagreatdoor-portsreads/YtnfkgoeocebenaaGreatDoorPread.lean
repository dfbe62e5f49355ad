/-
  ports.Read of a cursor.
-/
import Derived.Test.YtnfkgoeocebenaaGreatDoorKaddrb
import Derived.Test.YtnfkgoeocebenaaGreatDoorPparse
namespace Go.Proofs.YtnfkgoeocebenaaGreatDoor
open Go.RowKit

/-- What a point is that is read of bytes from p on; the place behind it, and the error's number. -/
def readP (bs : List Int) (p : Nat) : ((Bool × List Int) × Nat) × Nat × Nat :=
  if (readA bs p).2.2 = 0 then
    (if (readA bs p).2.1 + 2 ≤ bs.length then
      (if accN bs (readA bs p).2.1 2 = 0 then (((false, z16), 0), (readA bs p).2.1 + 2, 1) else (((readA bs p).1, accN bs (readA bs p).2.1 2), (readA bs p).2.1 + 2, 0))
    else (((false, z16), 0), (readA bs p).2.1, 2))
  else (((false, z16), 0), (readA bs p).2.1, (readA bs p).2.2)

/-- What Read of a point ends in. -/
def PreadEnd (t : TypeId) (s : Bool) (b : List Int) (n : Int) (c : Nat) (ad : Option Addr) (cap : Nat) (bs : List Int) (q : Nat) (y : Value) (w : World) (e : Ending) (w' : World) : Prop := e = .returned (.agg (pnt s b n)) ∧ Cur w' t c ad cap bs q y ∧ Keep c w w'

theorem acc2_lt (bs : List Int) (q : Nat) (hb : ∀ j, 0 ≤ bs.getD j 0 ∧ bs.getD j 0 ≤ 255) : accN bs q 2 < 65536 := accN_lt bs q hb 2

section
variable {w : World} {c : Nat} {ad : Option Addr} {cap : Nat} {bs : List Int} {p : Nat}

set_option maxRecDepth 100000 in
set_option maxHeartbeats 2000000 in
theorem pread_good (a : Nat → Addr) (h : Cur w 79 c ad cap bs p .nilIface) (hE : ErrC a w) (s : Bool) (b : List Int) (hl : b.length = 16) (q : Nat)
    (cA : ∀ w', Cur w' 79 c ad cap bs p .nilIface → ErrC a w' → Calls Tryz.prog 19 #[.pointer (some ⟨c, 0, none⟩)] w' (AreadEnd 79 s b c ad cap bs q .nilIface w'))
    (hq : q + 2 ≤ bs.length) (n : Nat) (hn : accN bs q 2 = n) (h0n : n ≠ 0) :
    Calls Tryz.prog 44 #[.pointer (some ⟨c, 0, none⟩)] w (PreadEnd 79 s b n c ad cap bs (q + 2) .nilIface w) := by
  obtain ⟨W0, hW0⟩ : ∃ W, W = w.alloc (.cells (pnt false z16 0) 60) := ⟨_, rfl⟩
  have hB0 : Blk W0 w.heap.size 60 (pnt false z16 0) := hW0 ▸ Blk.new w _ _
  have hb0 : Below w.heap.size w W0 := hW0 ▸ (Below.refl _ _).alloc (Nat.le_refl _) _
  have HW0 : Hid (w.alloc (.cells #[.bool false, .int .u8 0, .int .u8 0, .int .u8 0, .int .u8 0, .int .u8 0, .int .u8 0, .int .u8 0, .int .u8 0, .int .u8 0, .int .u8 0, .int .u8 0, .int .u8 0, .int .u8 0, .int .u8 0, .int .u8 0, .int .u8 0, .int .i64 0] 60) = W0) := Lib.hid hW0.symm
  have hlt := h.obj.lt
  have hne : w.heap.size ≠ c := by omega
  have h0 : Cur W0 79 c ad cap bs p .nilIface := h.kept hb0
  have hE0 : ErrC a W0 := hE.kept hb0
  have hk0 : Keep c w W0 := Keep.of hb0 (Nat.le_of_lt hlt)
  have hn6 : n < 65536 := by rw [← hn]; exact acc2_lt bs q h.byte
  have CA := Lib.hid (cA W0 h0 hE0)
  have CN : Hid (∀ w', Cur w' 79 c ad cap bs q .nilIface → Calls Tryz.prog 51 #[.pointer (some ⟨c, 0, none⟩), .int .i64 2] w' (CurEnd (.int .i64 (n : Int)) 79 c ad cap bs (q + 2) .nilIface w')) := Lib.hid fun w' hC => by
    have := num_ok hC 2 (by decide) (by decide) hq
    rw [hn] at this
    exact this
  have hrp : rp (n : Int) = true := by
    unfold rp
    rw [decide_eq_true (show (1 : Int) ≤ (n : Int) by omega), decide_eq_true (show (n : Int) ≤ 65535 by omega)]
    rfl
  have CR : Hid (∀ w, Calls Tryz.prog 81 #[.int .i64 (n : Int)] w fun e w' => e = .returned (.bool true) ∧ w = w') := Lib.hid fun w => by
    have := pright_any (n : Int) w
    rw [hrp] at this
    exact this
  have HB0 := Lib.hid hB0
  have H := Lib.hid h
  have HLb := Lib.hid hl
  have L18 : Hid (18 = (pnt s b (n : Int)).size) := Lib.hid (by rw [pnt_size, hl])
  have HWo := Lib.hid hW0
  clear hW0 hB0 hb0 h hE h0 hE0 cA hn hl hrp h0n hk0
  go_enter Tryz.func44, Tryz.ntmps44
  go_wp2_with fail
  rw [HW0.out]
  refine CA.out.mono ?_
  rintro e w1 ⟨rfl, hC1, hK1⟩
  have CN1 := Lib.hid (CN.out w1 hC1)
  have HK1 := Lib.hid hK1
  clear hC1 hK1
  go_wp2_with fail
  refine CN1.out.mono ?_
  rintro e w2 ⟨rfl, hC2, hK2⟩
  obtain ⟨W3, hW3⟩ : ∃ W, W = w2.alloc (.cells (pnt false z16 0) 60) := ⟨_, rfl⟩
  have hB3 : Blk W3 w2.heap.size 60 (pnt false z16 0) := hW3 ▸ Blk.new w2 _ _
  have hb3 : Below w2.heap.size w2 W3 := hW3 ▸ (Below.refl _ _).alloc (Nat.le_refl _) _
  have HW3 : Hid (w2.alloc (.cells #[.bool false, .int .u8 0, .int .u8 0, .int .u8 0, .int .u8 0, .int .u8 0, .int .u8 0, .int .u8 0, .int .u8 0, .int .u8 0, .int .u8 0, .int .u8 0, .int .u8 0, .int .u8 0, .int .u8 0, .int .u8 0, .int .u8 0, .int .i64 0] 60) = W3) := Lib.hid hW3.symm
  obtain ⟨V, hV⟩ : ∃ V, V = W3.setRow w2.heap.size (pnt s b (n : Int)) := ⟨_, rfl⟩
  have HV := Lib.hid hV.symm
  have hbV : Below w2.heap.size w2 V := hV ▸ below_setRow hb3 (Nat.le_refl _) _
  have HB3 := Lib.hid hB3
  have HBV : Hid (Blk V w2.heap.size 60 (pnt s b (n : Int))) := Lib.hid (hV ▸ hB3.row _)
  have hcp : V.cell? ⟨w2.heap.size, 17, none⟩ = some (.int .i64 (n : Int)) := pnt_portCell HBV.out HLb.out
  have hkx : Keep c W0 w2 := HK1.out.trans hK2
  have HF : Hid (∀ cs, Cur (V.setRow w.heap.size cs) 79 c ad cap bs (q + 2) .nilIface ∧ Keep c w (V.setRow w.heap.size cs)) := Lib.hid fun cs => by
    rw [HWo.out] at hkx
    exact aread_fin H.out hC2 hkx hbV cs
  have HBR : Hid (Blk V w.heap.size 60 (pnt false z16 0)) := Lib.hid ((hkx.blk HB0.out hne).kept hbV)
  have CE := Lib.hid (err_any (hC2.kept hbV))
  clear hC2 hK2 hW3 hB3 hb3 hV hbV hkx
  go_wp2_with ((try rw [HW3.out]); first | (refine wpl_run (.agg (pnt s b (n : Int))) _ (exec_build_pnt (.tmp 8) (.tmp 10) rfl s b HLb.out (n : Int) rfl rfl _) rfl ?_) | (refine wpl_store 60 _ _ rfl w2.heap.size (pnt s b (n : Int)) rfl rfl _ _ HB3.out 18 Tryz.infoPoint L18.out rfl (pnt_one _ _ _) rfl ?_; rw [HV.out]))
  refine (CR.out V).mono ?_
  rintro e w4 ⟨rfl, rfl⟩
  go_wp2_with fail
  refine CE.out.mono ?_
  rintro e w5 ⟨rfl, rfl⟩
  go_wp2_with (first | (refine wpl_load 60 _ rfl w2.heap.size rfl _ _ _ HBV.out Tryz.underlying60 rfl 18 Tryz.infoPoint L18.out rfl ?_) | (refine wpl_store 60 _ _ rfl w.heap.size (pnt s b (n : Int)) rfl rfl _ _ HBR.out 18 Tryz.infoPoint L18.out rfl (pnt_one _ _ _) rfl ?_))
  exact retA rfl w.heap.size rfl _ _ _ (HBR.out.row _) Tryz.underlying60 rfl 18 Tryz.infoPoint L18.out rfl ⟨rfl, (HF.out _).1, (HF.out _).2⟩

set_option maxRecDepth 100000 in
set_option maxHeartbeats 2000000 in
theorem pread_bad (a : Nat → Addr) (h : Cur w 79 c ad cap bs p .nilIface) (hE : ErrC a w) (s : Bool) (b : List Int) (hl : b.length = 16) (q q2 : Nat) (x y : Value) (u : TypeId) (v : Value) (hy : y = .iface u v)
    (cA : ∀ w', Cur w' 79 c ad cap bs p .nilIface → ErrC a w' → Calls Tryz.prog 19 #[.pointer (some ⟨c, 0, none⟩)] w' (AreadEnd 79 s b c ad cap bs q x w'))
    (cN : ∀ w', Cur w' 79 c ad cap bs q x → ErrC a w' → Calls Tryz.prog 51 #[.pointer (some ⟨c, 0, none⟩), .int .i64 2] w' fun e w2 => e = .returned (.int .i64 0) ∧ ∃ z, Cur w2 79 c ad cap bs q2 z ∧ (z = y ∨ z = .nilIface ∧ y = .iface 211 (.pointer (some (a 0)))) ∧ Keep c w' w2) :
    Calls Tryz.prog 44 #[.pointer (some ⟨c, 0, none⟩)] w (PreadEnd 79 false z16 0 c ad cap bs q2 y w) := by
  obtain ⟨W0, hW0⟩ : ∃ W, W = w.alloc (.cells (pnt false z16 0) 60) := ⟨_, rfl⟩
  have hB0 : Blk W0 w.heap.size 60 (pnt false z16 0) := hW0 ▸ Blk.new w _ _
  have hb0 : Below w.heap.size w W0 := hW0 ▸ (Below.refl _ _).alloc (Nat.le_refl _) _
  have HW0 : Hid (w.alloc (.cells #[.bool false, .int .u8 0, .int .u8 0, .int .u8 0, .int .u8 0, .int .u8 0, .int .u8 0, .int .u8 0, .int .u8 0, .int .u8 0, .int .u8 0, .int .u8 0, .int .u8 0, .int .u8 0, .int .u8 0, .int .u8 0, .int .u8 0, .int .i64 0] 60) = W0) := Lib.hid hW0.symm
  have hlt := h.obj.lt
  have hne : w.heap.size ≠ c := by omega
  have h0 : Cur W0 79 c ad cap bs p .nilIface := h.kept hb0
  have hE0 : ErrC a W0 := hE.kept hb0
  have hk0 : Keep c w W0 := Keep.of hb0 (Nat.le_of_lt hlt)
  have CA := Lib.hid (cA W0 h0 hE0)
  have CN := Lib.hid cN
  have CR : Hid (∀ w, Calls Tryz.prog 81 #[.int .i64 0] w fun e w' => e = .returned (.bool false) ∧ w = w') := Lib.hid fun w => pright_any 0 w
  have HB0 := Lib.hid hB0
  have H := Lib.hid h
  have HH0 := Lib.hid h0
  have HE0 := Lib.hid hE0
  have HLb := Lib.hid hl
  have L18 : Hid (18 = (pnt s b 0).size) := Lib.hid (by rw [pnt_size, hl])
  have HWo := Lib.hid hW0
  clear hW0 hB0 hb0 h hE h0 hE0 cA cN hl hk0
  go_enter Tryz.func44, Tryz.ntmps44
  go_wp2_with fail
  rw [HW0.out]
  refine CA.out.mono ?_
  rintro e w1 ⟨rfl, hC1, hK1⟩
  have CN1 := Lib.hid (CN.out w1 hC1 (HE0.out.keep HH0.out hK1))
  have HK1 := Lib.hid hK1
  clear hC1 hK1
  go_wp2_with fail
  refine CN1.out.mono ?_
  rintro e w2 ⟨rfl, z, hC2, hz, hK2⟩
  obtain ⟨W3, hW3⟩ : ∃ W, W = w2.alloc (.cells (pnt false z16 0) 60) := ⟨_, rfl⟩
  have hB3 : Blk W3 w2.heap.size 60 (pnt false z16 0) := hW3 ▸ Blk.new w2 _ _
  have hb3 : Below w2.heap.size w2 W3 := hW3 ▸ (Below.refl _ _).alloc (Nat.le_refl _) _
  have HW3 : Hid (w2.alloc (.cells #[.bool false, .int .u8 0, .int .u8 0, .int .u8 0, .int .u8 0, .int .u8 0, .int .u8 0, .int .u8 0, .int .u8 0, .int .u8 0, .int .u8 0, .int .u8 0, .int .u8 0, .int .u8 0, .int .u8 0, .int .u8 0, .int .u8 0, .int .i64 0] 60) = W3) := Lib.hid hW3.symm
  obtain ⟨V, hV⟩ : ∃ V, V = W3.setRow w2.heap.size (pnt s b 0) := ⟨_, rfl⟩
  have HV := Lib.hid hV.symm
  have hbV : Below w2.heap.size w2 V := hV ▸ below_setRow hb3 (Nat.le_refl _) _
  have HB3 := Lib.hid hB3
  have HBV : Hid (Blk V w2.heap.size 60 (pnt s b 0)) := Lib.hid (hV ▸ hB3.row _)
  have hcp : V.cell? ⟨w2.heap.size, 17, none⟩ = some (.int .i64 0) := pnt_portCell HBV.out HLb.out
  have hkx : Keep c W0 w2 := HK1.out.trans hK2
  have hEV : ErrC a V := (HE0.out.keep HH0.out hkx).kept hbV
  have hrg := hEV.range
  have hCV := hC2.kept hbV
  have CF : Hid (Calls Tryz.prog 52 #[.pointer (some ⟨c, 0, none⟩), .iface 211 (.pointer (some (a 0)))] V fun e w' => (∃ r, e = .returned r) ∧ Cur w' 79 c ad cap bs q2 y ∧ Keep c V w') := Lib.hid (by
    rcases hz with rfl | ⟨rfl, rfl⟩
    · subst hy
      refine (fail_skip hCV _).mono ?_
      rintro e w' ⟨hr, rfl⟩
      exact ⟨hr, hCV, Keep.refl _ _⟩
    · exact fail_set hCV _ _)
  have HBR : Hid (Blk V w.heap.size 60 (pnt false z16 0)) := Lib.hid ((hkx.blk HB0.out hne).kept hbV)
  have HkV : Hid (Keep c W0 V) := Lib.hid (hkx.trans (Keep.of hbV (Nat.le_of_lt hC2.obj.lt)))
  clear hC2 hK2 hW3 hB3 hb3 hV hbV hkx hz hEV hCV
  go_wp2_with ((try rw [HW3.out]); first | (refine wpl_run (.agg (pnt s b 0)) _ (exec_build_pnt (.tmp 8) (.tmp 10) rfl s b HLb.out 0 rfl rfl _) rfl ?_) | (refine wpl_store 60 _ _ rfl w2.heap.size (pnt s b 0) rfl rfl _ _ HB3.out 18 Tryz.infoPoint L18.out rfl (pnt_one _ _ _) rfl ?_; rw [HV.out]))
  refine (CR.out V).mono ?_
  rintro e w4 ⟨rfl, rfl⟩
  go_wp2_with fail
  refine CF.out.mono ?_
  rintro e w5 ⟨⟨r, rfl⟩, hC5, hK5⟩
  subst hy
  have CE := Lib.hid (err_any hC5)
  have HBR5 : Hid (Blk w5 w.heap.size 60 (pnt false z16 0)) := Lib.hid (hK5.blk HBR.out hne)
  have HF : Hid (Cur (w5.setRow w.heap.size (pnt false z16 0)) 79 c ad cap bs q2 (.iface u v) ∧ Keep c w (w5.setRow w.heap.size (pnt false z16 0))) := Lib.hid (by
    have hk := HkV.out.trans hK5
    rw [HWo.out] at hk
    exact aread_fin H.out hC5 hk (Below.refl _ _) _)
  clear hC5 hK5
  go_wp2_with fail
  refine CE.out.mono ?_
  rintro e w6 ⟨rfl, rfl⟩
  go_wp2_with (refine wpl_store 60 _ _ rfl w.heap.size (pnt false z16 0) rfl rfl _ _ HBR5.out 18 Tryz.infoPoint rfl rfl (pnt_one _ _ _) rfl ?_)
  exact retA rfl w.heap.size rfl _ _ _ (HBR5.out.row _) Tryz.underlying60 rfl 18 Tryz.infoPoint rfl rfl ⟨rfl, HF.out.1, HF.out.2⟩

theorem errV_some (a : Nat → Addr) (k : Nat) (h : k ≠ 0) : errV a k = .iface 211 (.pointer (some (a (k - 1)))) := by unfold errV; rw [if_neg h]

theorem pread_any (a : Nat → Addr) (h : Cur w 79 c ad cap bs p .nilIface) (hE : ErrC a w) :
    Calls Tryz.prog 44 #[.pointer (some ⟨c, 0, none⟩)] w (PreadEnd 79 (readP bs p).1.1.1 (readP bs p).1.1.2 ((readP bs p).1.2 : Nat) c ad cap bs (readP bs p).2.1 (errV a (readP bs p).2.2) w) := by
  have cA : ∀ w', Cur w' 79 c ad cap bs p .nilIface → ErrC a w' → Calls Tryz.prog 19 #[.pointer (some ⟨c, 0, none⟩)] w' (AreadEnd 79 (readA bs p).1.1 (readA bs p).1.2 c ad cap bs (readA bs p).2.1 (errV a (readA bs p).2.2) w') := fun w' hC hE => aread_any a hC hE
  have hl := readA_len bs p
  unfold readP
  generalize readA bs p = R at *
  obtain ⟨⟨s, b⟩, q, k⟩ := R
  simp only at cA hl ⊢
  by_cases hk : k = 0
  · subst hk
    rw [if_pos rfl]
    have cA' : ∀ w', Cur w' 79 c ad cap bs p .nilIface → ErrC a w' → Calls Tryz.prog 19 #[.pointer (some ⟨c, 0, none⟩)] w' (AreadEnd 79 s b c ad cap bs q .nilIface w') := cA
    by_cases hq : q + 2 ≤ bs.length
    · rw [if_pos hq]
      by_cases hn : accN bs q 2 = 0
      · rw [if_pos hn]
        refine pread_bad a h hE s b hl q (q + 2) .nilIface _ _ _ rfl cA' fun w' hC hE' => ?_
        have := num_ok hC 2 (by decide) (by decide) hq
        rw [hn] at this
        refine this.mono ?_
        rintro e w2 ⟨rfl, hC2, hK2⟩
        exact ⟨rfl, .nilIface, hC2, .inr ⟨rfl, rfl⟩, hK2⟩
      · rw [if_neg hn]
        exact pread_good a h hE s b hl q cA' hq _ rfl hn
    · rw [if_neg hq]
      refine pread_bad a h hE s b hl q q .nilIface _ _ _ rfl cA' fun w' hC hE' => ?_
      refine (num_short hC 2 (by decide) (by decide) (by omega) _ _ hE'.short).mono ?_
      rintro e w2 ⟨rfl, hC2, hK2⟩
      exact ⟨rfl, _, hC2, .inl rfl, hK2⟩
  · rw [if_neg hk]
    simp only
    rw [errV_some a k hk] at cA ⊢
    refine pread_bad a h hE s b hl q q _ _ _ _ rfl cA fun w' hC hE' => ?_
    refine (num_bad hC 2 (by decide) (by decide) ⟨_, hE'.short⟩).mono ?_
    rintro e w2 ⟨rfl, n, rfl⟩
    exact ⟨rfl, _, hC.drewN n, .inl rfl, keep_drewN c w' n⟩
end
end Go.Proofs.YtnfkgoeocebenaaGreatDoor
