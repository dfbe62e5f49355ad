/-
  The law FrameBytes.
-/
import Derived.Test.YtkpjdjenlmodnaaDoorEfb
import Derived.Test.YtkpjdjenlmodnaaDoorEsm
import Derived.Test.YtkpjdjenlmodnaaDoorNerr
namespace Go.Proofs.YtkpjdjenlmodnaaDoor
open Go.RowKit Go.Lib

section
variable {w W V : World} {k0 k1 : Int} {ad0 ad1 : Option Addr} {cap0 cap1 l0 l1 : Nat} {bs0 bs1 : List Int} {a : Nat → Addr}
/-- What the law holds while it runs: its two arguments in boxes, their bytes, the errors. -/
structure Boxed (w W : World) (k0 k1 : Int) (ad0 ad1 : Option Addr) (cap0 cap1 l0 l1 : Nat) (bs0 bs1 : List Int) (a : Nat → Addr) : Prop where
  low : Below w.heap.size w W
  le : w.heap.size + 2 ≤ W.heap.size
  f : Blk W w.heap.size 46 #[.int .i64 k0, .slice ad0 l0 cap0]
  g : Blk W (w.heap.size + 1) 46 #[.int .i64 k1, .slice ad1 l1 cap1]
  rf : Bys W.heap.size W ad0 bs0
  rg : Bys W.heap.size W ad1 bs1
  errs : Errs 18 a W
theorem Boxed.below (h : Boxed w W k0 k1 ad0 ad1 cap0 cap1 l0 l1 bs0 bs1 a) (hb : Below W.heap.size W V) : Boxed w V k0 k1 ad0 ad1 cap0 cap1 l0 l1 bs0 bs1 a :=
  ⟨h.low.trans (hb.mono h.low.size), Nat.le_trans h.le hb.size, h.f.kept hb, h.g.kept hb, (h.rf.below hb).mono hb.size, (h.rg.below hb).mono hb.size, h.errs.below hb⟩
theorem boxed_first (hI0 : Bys w.heap.size w ad0 bs0) (hI1 : Bys w.heap.size w ad1 bs1) (hE : Errs 18 a w) :
    Boxed w ((w.alloc (.cells #[.int .i64 k0, .slice ad0 l0 cap0] 46)).alloc (.cells #[.int .i64 k1, .slice ad1 l1 cap1] 46)) k0 k1 ad0 ad1 cap0 cap1 l0 l1 bs0 bs1 a := by
  obtain ⟨W0, hW0⟩ : ∃ W, W = w.alloc (.cells #[.int .i64 k0, .slice ad0 l0 cap0] 46) := ⟨_, rfl⟩
  rw [← hW0]
  obtain ⟨W1, hW1⟩ : ∃ W, W = W0.alloc (.cells #[.int .i64 k1, .slice ad1 l1 cap1] 46) := ⟨_, rfl⟩
  rw [← hW1]
  have s0 : W0.heap.size = w.heap.size + 1 := by rw [hW0]; simp
  have s1 : W1.heap.size = w.heap.size + 2 := by rw [hW1]; simp [s0]
  have b0 : Below w.heap.size w W0 := hW0 ▸ (Below.refl _ _).alloc (Nat.le_refl _) _
  have b1 : Below W0.heap.size W0 W1 := hW1 ▸ (Below.refl _ _).alloc (Nat.le_refl _) _
  have f0 : Blk W0 w.heap.size 46 #[.int .i64 k0, .slice ad0 l0 cap0] := hW0 ▸ Blk.new w _ _
  have g0 : Blk W1 W0.heap.size 46 #[.int .i64 k1, .slice ad1 l1 cap1] := hW1 ▸ Blk.new W0 _ _
  have hb := b0.trans (b1.mono b0.size)
  exact ⟨hb, by omega, f0.kept b1, by rw [s0] at g0; exact g0, (hI0.below hb).mono hb.size, (hI1.below hb).mono hb.size, hE.below hb⟩

set_option linter.unusedSimpArgs false in
set_option maxRecDepth 100000 in
set_option maxHeartbeats 8000000 in
theorem fby_long (hm : 2000 < bs0.length ∨ 2000 < bs1.length) (hI0 : Bys w.heap.size w ad0 bs0) (hI1 : Bys w.heap.size w ad1 bs1) (hE : Errs 18 a w) :
    Calls Tryd.prog 5 #[.agg #[.int .i64 k0, .slice ad0 bs0.length cap0], .agg #[.int .i64 k1, .slice ad1 bs1.length cap1]] w fun e w' => e = .returned (.bool true) ∧ Below w.heap.size w w' := by
  have HX : Hid (∀ l0 l1, Boxed w ((w.alloc (.cells #[.int .i64 k0, .slice ad0 l0 cap0] 46)).alloc (.cells #[.int .i64 k1, .slice ad1 l1 cap1] 46)) k0 k1 ad0 ad1 cap0 cap1 l0 l1 bs0 bs1 a) := hid fun l0 l1 => boxed_first hI0 hI1 hE
  clear hI0 hI1 hE
  obtain ⟨l0, hl0⟩ : ∃ l, l = bs0.length := ⟨_, rfl⟩
  obtain ⟨l1, hl1⟩ : ∃ l, l = bs1.length := ⟨_, rfl⟩
  rw [← hl0, ← hl1] at hm ⊢
  have HL0 := hid hl0
  have HL1 := hid hl1
  clear hl0 hl1
  obtain ⟨W1, hW1⟩ : ∃ W, W = (w.alloc (.cells #[.int .i64 k0, .slice ad0 l0 cap0] 46)).alloc (.cells #[.int .i64 k1, .slice ad1 l1 cap1] 46) := ⟨_, rfl⟩
  have HB1 := HX.out l0 l1
  rw [← hW1] at HB1
  have HB1 := hid HB1
  have HW1 := hid hW1.symm
  clear hW1 HX
  have HA := hid (alive_any (HB1.out.errs.cell 3 (by omega)))
  go_enter Tryd.func5, Tryd.ntmps5
  go_upto_region 1 with fail
  rw [HW1.out]
  go_wp2_with fail
  refine HA.out.mono ?_
  rintro e w2 ⟨rfl, hb2⟩
  have HB2 := hid (HB1.out.below hb2)
  clear hb2 HA HB1 HW1
  have c0 := HB2.out.f.cell 0
  have c1 := HB2.out.f.cell 1
  have d0 := HB2.out.g.cell 0
  have d1 := HB2.out.g.cell 1
  simp only [List.getElem?_toArray, List.getElem?_cons_zero, List.getElem?_cons_succ] at c0 c1 d0 d1
  by_cases h1 : 2000 < l0
  · go_wp2
    go_ret
    exact ⟨rfl, HB2.out.low⟩
  · have h2 : 2000 < l1 := by omega
    go_wp2
    go_ret
    exact ⟨rfl, HB2.out.low⟩

set_option linter.unusedSimpArgs false in
set_option maxRecDepth 100000 in
set_option maxHeartbeats 8000000 in
theorem fby_range (hm0 : bs0.length ≤ 2000) (hm1 : bs1.length ≤ 2000) (hk : k0 < 0 ∨ 255 < k0) (hI0 : Bys w.heap.size w ad0 bs0) (hI1 : Bys w.heap.size w ad1 bs1) (hE : Errs 18 a w) :
    Calls Tryd.prog 5 #[.agg #[.int .i64 k0, .slice ad0 bs0.length cap0], .agg #[.int .i64 k1, .slice ad1 bs1.length cap1]] w fun e w' => e = .returned (.bool true) ∧ Below w.heap.size w w' := by
  have HX : Hid (∀ l0 l1, Boxed w ((w.alloc (.cells #[.int .i64 k0, .slice ad0 l0 cap0] 46)).alloc (.cells #[.int .i64 k1, .slice ad1 l1 cap1] 46)) k0 k1 ad0 ad1 cap0 cap1 l0 l1 bs0 bs1 a) := hid fun l0 l1 => boxed_first hI0 hI1 hE
  clear hI0 hI1 hE
  obtain ⟨l0, hl0⟩ : ∃ l, l = bs0.length := ⟨_, rfl⟩
  obtain ⟨l1, hl1⟩ : ∃ l, l = bs1.length := ⟨_, rfl⟩
  rw [← hl0] at hm0 ⊢
  rw [← hl1] at hm1 ⊢
  have HL0 := hid hl0
  have HL1 := hid hl1
  clear hl0 hl1
  obtain ⟨W1, hW1⟩ : ∃ W, W = (w.alloc (.cells #[.int .i64 k0, .slice ad0 l0 cap0] 46)).alloc (.cells #[.int .i64 k1, .slice ad1 l1 cap1] 46) := ⟨_, rfl⟩
  have HB1 := HX.out l0 l1
  rw [← hW1] at HB1
  have HB1 := hid HB1
  have HW1 := hid hW1.symm
  clear hW1 HX
  have HA := hid (alive_any (HB1.out.errs.cell 3 (by omega)))
  go_enter Tryd.func5, Tryd.ntmps5
  go_upto_region 1 with fail
  rw [HW1.out]
  go_wp2_with fail
  refine HA.out.mono ?_
  rintro e w2 ⟨rfl, hb2⟩
  have HB2 := hid (HB1.out.below hb2)
  clear hb2 HA HB1 HW1
  have c0 := HB2.out.f.cell 0
  have c1 := HB2.out.f.cell 1
  have d0 := HB2.out.g.cell 0
  have d1 := HB2.out.g.cell 1
  simp only [List.getElem?_toArray, List.getElem?_cons_zero, List.getElem?_cons_succ] at c0 c1 d0 d1
  have HF2 := hid HB2.out.f
  have HFb : Hid (Calls Tryd.prog 19 #[.agg #[.int .i64 k0, .slice ad0 l0 cap0]] w2 fun e w' => e = .returned (.tuple #[.slice none 0 0, .iface 82 (.pointer (some (a 0)))]) ∧ Below w2.heap.size w2 w') := hid (by
    rw [HL0.out]
    exact fb_range hk (HB2.out.errs.cell 0 (by omega)))
  go_wp2_with (first
    | ((show wpList _ _ _ (⟨some 24, _, _, _, _, _⟩ :: _) _ _); go_must (refine wpl_load 46 (.tmp 2) rfl w.heap.size rfl 46 _ _ HF2.out Tryd.underlying46 rfl 2 Tryd.infoFrameN rfl rfl ?_))
    | fail)
  refine HFb.out.mono ?_
  rintro e w3 ⟨rfl, hb3⟩
  have HB3 := hid (HB2.out.below hb3)
  have HNm : Hid (Calls Tryd.prog 12 #[.iface 82 (.pointer (some (a 0)))] w3 fun e w' => e = .returned (.int .i64 1) ∧ Below w3.heap.size w3 w') := hid (num_err a 0 (by omega) _ HB3.out.errs)
  clear hb3 HFb HB2 HF2 c0 c1 d0 d1
  have c0 := HB3.out.f.cell 0
  have c1 := HB3.out.f.cell 1
  have d0 := HB3.out.g.cell 0
  have d1 := HB3.out.g.cell 1
  simp only [List.getElem?_toArray, List.getElem?_cons_zero, List.getElem?_cons_succ] at c0 c1 d0 d1
  by_cases h1 : k0 < 0
  · go_wp2_with fail
    refine HNm.out.mono ?_
    rintro e w4 ⟨rfl, hb4⟩
    have HB4 := hid (HB3.out.below hb4)
    clear hb4
    go_wp2
    go_ret
    exact ⟨rfl, HB4.out.low⟩
  · have h2 : 255 < k0 := by omega
    go_wp2_with fail
    refine HNm.out.mono ?_
    rintro e w4 ⟨rfl, hb4⟩
    have HB4 := hid (HB3.out.below hb4)
    clear hb4
    go_wp2
    go_ret
    exact ⟨rfl, HB4.out.low⟩

set_option linter.unusedSimpArgs false in
set_option maxRecDepth 100000 in
set_option maxHeartbeats 8000000 in
theorem fby_over (hm0 : bs0.length ≤ 2000) (hm1 : bs1.length ≤ 2000) (h1 : 0 ≤ k0) (h2 : k0 ≤ 255) (hl : 1199 < bs0.length) (hI0 : Bys w.heap.size w ad0 bs0) (hI1 : Bys w.heap.size w ad1 bs1) (hE : Errs 18 a w) :
    Calls Tryd.prog 5 #[.agg #[.int .i64 k0, .slice ad0 bs0.length cap0], .agg #[.int .i64 k1, .slice ad1 bs1.length cap1]] w fun e w' => e = .returned (.bool true) ∧ Below w.heap.size w w' := by
  have HX : Hid (∀ l0 l1, Boxed w ((w.alloc (.cells #[.int .i64 k0, .slice ad0 l0 cap0] 46)).alloc (.cells #[.int .i64 k1, .slice ad1 l1 cap1] 46)) k0 k1 ad0 ad1 cap0 cap1 l0 l1 bs0 bs1 a) := hid fun l0 l1 => boxed_first hI0 hI1 hE
  clear hI0 hI1 hE
  obtain ⟨l0, hl0⟩ : ∃ l, l = bs0.length := ⟨_, rfl⟩
  obtain ⟨l1, hl1⟩ : ∃ l, l = bs1.length := ⟨_, rfl⟩
  rw [← hl0] at hm0 hl ⊢
  rw [← hl1] at hm1 ⊢
  have HL0 := hid hl0
  have HL1 := hid hl1
  clear hl0 hl1
  obtain ⟨W1, hW1⟩ : ∃ W, W = (w.alloc (.cells #[.int .i64 k0, .slice ad0 l0 cap0] 46)).alloc (.cells #[.int .i64 k1, .slice ad1 l1 cap1] 46) := ⟨_, rfl⟩
  have HB1 := HX.out l0 l1
  rw [← hW1] at HB1
  have HB1 := hid HB1
  have HW1 := hid hW1.symm
  clear hW1 HX
  have HA := hid (alive_any (HB1.out.errs.cell 3 (by omega)))
  go_enter Tryd.func5, Tryd.ntmps5
  go_upto_region 1 with fail
  rw [HW1.out]
  go_wp2_with fail
  refine HA.out.mono ?_
  rintro e w2 ⟨rfl, hb2⟩
  have HB2 := hid (HB1.out.below hb2)
  clear hb2 HA HB1 HW1
  have c0 := HB2.out.f.cell 0
  have c1 := HB2.out.f.cell 1
  have d0 := HB2.out.g.cell 0
  have d1 := HB2.out.g.cell 1
  simp only [List.getElem?_toArray, List.getElem?_cons_zero, List.getElem?_cons_succ] at c0 c1 d0 d1
  have HF2 := hid HB2.out.f
  have HFb : Hid (Calls Tryd.prog 19 #[.agg #[.int .i64 k0, .slice ad0 l0 cap0]] w2 fun e w' => e = .returned (.tuple #[.slice none 0 0, .iface 82 (.pointer (some (a 2)))]) ∧ Below w2.heap.size w2 w') := hid (by
    rw [HL0.out] at hl hm0 ⊢
    exact fb_long h1 h2 hl (by omega) (HB2.out.errs.cell 2 (by omega)))
  go_wp2_with (first
    | ((show wpList _ _ _ (⟨some 24, _, _, _, _, _⟩ :: _) _ _); go_must (refine wpl_load 46 (.tmp 2) rfl w.heap.size rfl 46 _ _ HF2.out Tryd.underlying46 rfl 2 Tryd.infoFrameN rfl rfl ?_))
    | fail)
  refine HFb.out.mono ?_
  rintro e w3 ⟨rfl, hb3⟩
  have HB3 := hid (HB2.out.below hb3)
  have HNm : Hid (Calls Tryd.prog 12 #[.iface 82 (.pointer (some (a 2)))] w3 fun e w' => e = .returned (.int .i64 3) ∧ Below w3.heap.size w3 w') := hid (num_err a 2 (by omega) _ HB3.out.errs)
  clear hb3 HFb HB2 HF2 c0 c1 d0 d1
  have c0 := HB3.out.f.cell 0
  have c1 := HB3.out.f.cell 1
  have d0 := HB3.out.g.cell 0
  have d1 := HB3.out.g.cell 1
  simp only [List.getElem?_toArray, List.getElem?_cons_zero, List.getElem?_cons_succ] at c0 c1 d0 d1
  go_wp2_with fail
  refine HNm.out.mono ?_
  rintro e w4 ⟨rfl, hb4⟩
  have HB4 := hid (HB3.out.below hb4)
  clear hb4
  go_wp2
  go_ret
  exact ⟨rfl, HB4.out.low⟩
end
end Go.Proofs.YtkpjdjenlmodnaaDoor
