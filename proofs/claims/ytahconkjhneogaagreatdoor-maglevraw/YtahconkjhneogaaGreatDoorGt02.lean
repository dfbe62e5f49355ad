/-
  The law MaglevRaw within its bounds.
-/
import Derived.Test.YtahconkjhneogaaGreatDoorGt01
namespace Go.Proofs.YtahconkjhneogaaGreatDoor
open Go.RowKit Go.Lib

theorem rightT_no {m : Int} {bs : List PS} {L : List Int} (h : fillE bs m ≠ 0) : rightT m bs L = false := by
  unfold rightT
  rw [decide_eq_false h, Bool.false_and]
theorem rightT_yes {M : Nat} {bs : List PS} {L : List Int} (h : fillE bs M = 0) : rightT M bs L = (decide (psorted bs = bs) && decide (fillT (ordL M (psorted bs)) (psorted bs).length M M = L)) := by
  unfold rightT sameT tabT
  rw [decide_eq_true h, Bool.true_and, decide_eq_true rfl, Bool.true_and, Int.toNat_natCast]
  congr 1
  · exact decide_eq_decide.2 eq_comm
  · exact decide_eq_decide.2 eq_comm

theorem exec_neqP {a : Act} {w : World} {o : Oper} (t' : TypeId) (x y : Operand) (ho : o.op = .binOp .neq 41 x y t') (p q : Array Value) (b : Bool) (hx : a.eval x = .agg p) (hy : a.eval y = .agg q)
    (h : (binOp .neq 41 (.agg p) (.agg q)).run Tryz.prog w = .ok (.bool b) w) : (execOp a.eval o).run Tryz.prog w = .ok (.value (.bool b)) w := by
  have hg : (eqGuard .neq 41 x y (.agg p) (.agg q)).run Tryz.prog w = .ok () w := by
    apply run_eqGuard_agg
    kernel_rfl
  unfold execOp
  simp only [ho, hx, hy, Sem.run_bind, hg, Result.andThen_ok, h, Sem.run_pure]

theorem sized_of {m : Int} {bs : List PS} (h : fillE bs m = 0) : sizedB m = true := by
  unfold fillE at h
  cases hs : sizedB m
  · rw [if_pos hs] at h; cases h
  · rfl

/-- What the document's filling leaves in three variables. -/
def RawFill (W1 : World) (bs : List PS) (m : Int) (a b c : Value) (wx : World) : Prop := Below W1.heap.size W1 wx ∧
  ((fillE bs m ≠ 0 ∧ a = .slice none 0 0 ∧ b = .slice none 0 0 ∧ c = .int .i64 (fillE bs m)) ∨
   (fillE bs m = 0 ∧ ∃ (M : Nat) (ab : Option Addr) (cap S : Nat), m = (M : Int) ∧ a = .slice ab (psorted bs).length cap ∧ b = .slice (some ⟨S, 0, none⟩) M M ∧ c = .int .i64 0 ∧ Elems encP 18 wx.heap.size wx ab (psorted bs) ∧ SlotB wx S (fillT (ordL M (psorted bs)) (psorted bs).length M M)))

set_option linter.unusedSimpArgs false in
set_option maxRecDepth 100000 in
set_option maxHeartbeats 16000000 in
theorem raw_in (E : Nat → TypeId × Value) (m m2 : Int) (hm1 : -9223372036854775808 ≤ m) (hm2 : m ≤ 9223372036854775807) (bs bs2 : List PS) (L L2 : List Int) (ys : List Int) (ab ab2 as1 as2 ay : Option Addr) (cb cb2 cl cl2 cy : Nat)
    (hcb : bs.length ≤ cb) (hl1 : L.length ≤ 300) (hl2 : L2.length ≤ 300) (hb1 : bs.length ≤ 40) (hb2 : bs2.length ≤ 40) (hk : ys.length ≤ 200) (hay : ay = none → ys.length = 0 ∧ cy = 0) (w : World) (hE : MEnv E w) (hT : TabIn w.heap.size w ab as1 bs L) (hT2 : TabIn w.heap.size w ab2 as2 bs2 L2) (hby : Byt ys) (hY : Bys w.heap.size w ay ys) :
    Calls Tryz.prog 4 #[.agg #[.int .i64 m, .slice ab bs.length cb, .slice as1 L.length cl], .agg #[.int .i64 m2, .slice ab2 bs2.length cb2, .slice as2 L2.length cl2], .slice ay ys.length cy] w fun e w' => e = .returned (.bool true) ∧ Below w.heap.size w w' := by
  obtain ⟨W0, hW0⟩ : ∃ W, W = w.alloc (.cells #[.int .i64 m, .slice ab bs.length cb, .slice as1 L.length cl] 27) := ⟨_, rfl⟩
  obtain ⟨W1, hW1⟩ : ∃ W, W = W0.alloc (.cells #[.int .i64 m2, .slice ab2 bs2.length cb2, .slice as2 L2.length cl2] 27) := ⟨_, rfl⟩
  have s0 : W0.heap.size = w.heap.size + 1 := by rw [hW0]; simp
  have b0 : Below w.heap.size w W0 := hW0 ▸ (Below.refl _ _).alloc (Nat.le_refl _) _
  have b1 : Below W0.heap.size W0 W1 := hW1 ▸ (Below.refl _ _).alloc (Nat.le_refl _) _
  have HW0 := hid hW0.symm
  have HW1 := hid hW1.symm
  have Hb1 := hid (bel2 b0 b1)
  obtain ⟨nb, hnb⟩ : ∃ nb, nb = bs.length := ⟨_, rfl⟩
  obtain ⟨nb2, hnb2⟩ : ∃ nb, nb = bs2.length := ⟨_, rfl⟩
  obtain ⟨nl, hnl⟩ : ∃ nb, nb = L.length := ⟨_, rfl⟩
  obtain ⟨nl2, hnl2⟩ : ∃ nb, nb = L2.length := ⟨_, rfl⟩
  obtain ⟨k, hkk⟩ : ∃ nb, nb = ys.length := ⟨_, rfl⟩
  have K0 := hid ((hW0 ▸ Blk.new w _ _ : Blk W0 w.heap.size 27 #[.int .i64 m, .slice ab bs.length cb, .slice as1 L.length cl]).kept b1)
  have K1 : Hid (Blk W1 (w.heap.size + 1) 27 #[.int .i64 m2, .slice ab2 bs2.length cb2, .slice as2 L2.length cl2]) := hid (by rw [← s0]; exact (hW1 ▸ Blk.new W0 _ _ : Blk W1 W0.heap.size 27 _))
  have HT := hid (hT.kept (bel2 b0 b1))
  have HT2 := hid (hT2.kept (bel2 b0 b1))
  have HA := hid (malive_any E W1 (hE.kept (bel2 b0 b1)))
  have HRf : Hid (∀ V, Below W1.heap.size W1 V → Calls Tryz.prog 7 #[.slice ab bs.length cb, .int .i64 m] V (RFillEnd bs m V)) := hid (fun V hb => rfill_any ab cb bs hcb (by omega) m V (HT.out.kept hb).els)
  have HPt : Hid (∀ V, Below W1.heap.size W1 V → Calls Tryz.prog 9 #[.slice ab bs.length cb, .slice ab2 bs2.length cb2] V fun e w' => e = .returned (.bool (decide (bs = bs2))) ∧ Below V.heap.size V w') := hid (fun V hb => points_any bs bs2 ab ab2 cb cb2 (by omega) V (HT.out.kept hb).els (HT2.out.kept hb).els)
  have HSi : Hid (∀ V, Below W1.heap.size W1 V → Calls Tryz.prog 10 #[.slice as1 L.length cl, .slice as2 L2.length cl2] V fun e w' => e = .returned (.bool (decide (L = L2))) ∧ Below V.heap.size V w') := hid (fun V hb => sameI_any L L2 as1 as2 cl cl2 (by omega) V (HT.out.kept hb).ints (HT2.out.kept hb).ints)
  have HRg : Hid (∀ V, Below W1.heap.size W1 V → Calls Tryz.prog 12 #[.agg #[.int .i64 m, .slice ab bs.length cb, .slice as1 L.length cl]] V fun e w' => e = .returned (.bool (rightT m bs L)) ∧ Below V.heap.size V w') := hid (fun V hb => mright_any E m bs L ab as1 cb cl hcb (by omega) (by omega) V ((hE.kept (bel2 b0 b1)).kept hb) (HT.out.kept hb))
  have HSm : Hid (∀ V, Below W1.heap.size W1 V → Calls Tryz.prog 14 #[.agg #[.int .i64 m, .slice ab bs.length cb, .slice as1 L.length cl], .agg #[.int .i64 m2, .slice ab2 bs2.length cb2, .slice as2 L2.length cl2]] V fun e w' => e = .returned (.bool (sameT m m2 bs bs2 L L2)) ∧ Below V.heap.size V w') := hid (fun V hb => same_tabs m m2 bs bs2 L L2 ab ab2 as1 as2 cb cb2 cl cl2 (by omega) (by omega) V (HT.out.kept hb) (HT2.out.kept hb))
  have HOf : Hid (∀ V, Below W1.heap.size W1 V → Calls Tryz.prog 11 #[.agg #[.int .i64 m, .slice ab bs.length cb, .slice as1 L.length cl], .slice ay ys.length cy] V fun e w' => e = .returned (ansO (ownW m bs L (ofP m ys))) ∧ Below V.heap.size V w') := hid (fun V hb => tof_any m hm1 hm2 bs L ab as1 cb cl (by omega) (by omega) ay cy ys hby (by omega) V ((hE.kept (bel2 b0 b1)).kept hb).fenv (HT.out.kept hb) ((hY.below (bel2 (bel2 b0 b1) hb)).mono (bel2 (bel2 b0 b1) hb).size))
  have HAt : Hid (∀ (p : Int) V, Below W1.heap.size W1 V → Calls Tryz.prog 16 #[.agg #[.int .i64 m, .slice ab bs.length cb, .slice as1 L.length cl], .int .i64 p] V fun e w' => e = .returned (ansO (ownW m bs L p)) ∧ Below V.heap.size V w') := hid (fun p V hb => at_any m bs L ab as1 cb cl p (by omega) (by omega) V (HT.out.kept hb))
  have HMv : Hid (∀ V, Below W1.heap.size W1 V → Calls Tryz.prog 17 #[.agg #[.int .i64 m, .slice ab bs.length cb, .slice as1 L.length cl], .agg #[.int .i64 m2, .slice ab2 bs2.length cb2, .slice as2 L2.length cl2]] V fun e w' => e = .returned (.int .i64 (mov (fun p : Nat => ownW m bs L (p : Int)) (fun p : Nat => ownW m2 bs2 L2 (p : Int)) (min L.length L2.length) : Nat)) ∧ Below V.heap.size V w') := hid (fun V hb => moved_any m m2 bs bs2 L L2 ab ab2 as1 as2 cb cb2 cl cl2 (by omega) (by omega) (by omega) (by omega) V (HT.out.kept hb) (HT2.out.kept hb))
  have HCo : Hid (∀ V, Below W1.heap.size W1 V → Calls Tryz.prog 18 #[.agg #[.int .i64 m, .slice ab bs.length cb, .slice as1 L.length cl]] V fun e w' => ∃ C, e = .returned (.slice (some ⟨C, 0, none⟩) bs.length bs.length) ∧ V.heap.size ≤ C ∧ SlotB w' C (countsT bs.length L) ∧ Below V.heap.size V w') := hid (fun V hb => counts_any m bs L ab as1 cb cl (by omega) (by omega) V (HT.out.kept hb))
  have HPl : Hid (sizedB m = true → ∀ V, Below W1.heap.size W1 V → Calls Tryz.prog 13 #[.slice ay ys.length cy, .int .i64 m] V fun e w' => e = .returned (.int .i64 (plcN m ys)) ∧ Below V.heap.size V w') := hid (fun hs V hb => rplace_any m hs ay cy ys hby (by omega) V ((hY.below (bel2 (bel2 b0 b1) hb)).mono (bel2 (bel2 b0 b1) hb).size) hay)
  have HP2 : Hid (∀ (xs : List PS) a c V, Below W1.heap.size W1 V → xs.length ≤ 1000 → Elems encP 18 V.heap.size V a xs → Calls Tryz.prog 9 #[.slice a xs.length c, .slice ab bs.length cb] V fun e w' => e = .returned (.bool (decide (xs = bs))) ∧ Below V.heap.size V w') := hid (fun xs a c V hb hx he => points_any xs bs a ab c cb (by omega) V he (HT.out.kept hb).els)
  have HS2 : Hid (∀ (xs : List Int) a c V, Below W1.heap.size W1 V → xs.length ≤ 1000 → IntsIn V.heap.size V a xs → Calls Tryz.prog 10 #[.slice a xs.length c, .slice as1 L.length cl] V fun e w' => e = .returned (.bool (decide (xs = L))) ∧ Below V.heap.size V w') := hid (fun xs a c V hb hx he => sameI_any xs L a as1 c cl (by omega) V he (HT.out.kept hb).ints)
  have q1 : decide ((300 : Int) < (nl : Int)) = false := decide_eq_false (by omega)
  have q2 : decide ((300 : Int) < (nl2 : Int)) = false := decide_eq_false (by omega)
  have q3 : decide ((40 : Int) < (nb : Int)) = false := decide_eq_false (by omega)
  have q4 : decide ((40 : Int) < (nb2 : Int)) = false := decide_eq_false (by omega)
  have q5 : decide ((200 : Int) < (k : Int)) = false := decide_eq_false (by omega)
  rw [← hnb] at K0 HRf HPt HRg HSm HOf HAt HMv HCo HP2 HW0
  rw [← hnl] at K0 HSi HRg HSm HOf HAt HMv HCo HS2 HW0
  rw [← hnb2] at K1 HPt HSm HMv HW1
  rw [← hnl2] at K1 HSi HSm HMv HW1
  rw [← hkk] at HOf HPl
  rw [← hnb, ← hnb2, ← hnl, ← hnl2, ← hkk]
  have HNb : Hid (nb = bs.length ∧ nb ≤ 40) := hid ⟨hnb, by omega⟩
  have HNl : Hid (nl = L.length ∧ nl ≤ 300) := hid ⟨hnl, by omega⟩
  have HMx : Hid (sizedB m = true → m ≤ 251) := hid (fun h => (sized_range h).2.1)
  clear hW0 hW1 s0 b0 b1 hE hT hT2 hby hY hay hcb hl1 hl2 hb1 hb2 hk hm1 hm2 hnb hnb2 hnl hnl2 hkk
  go_enter Tryz.func4, Tryz.ntmps4
  go_upto_region 1 with fail
  rw [HW0.out, HW1.out]
  generalize w.heap.size + 1 = B at *
  go_wp2_with fail
  refine HA.out.mono ?_
  rintro e w2 ⟨rfl, hb⟩
  have HB2 := hid hb
  have c2 : w2.cell? ⟨w.heap.size, 2, none⟩ = some (.slice as1 nl cl) := (K0.out.kept hb).cell 2
  have d2 : w2.cell? ⟨B, 2, none⟩ = some (.slice as2 nl2 cl2) := (K1.out.kept hb).cell 2
  have c1 : w2.cell? ⟨w.heap.size, 1, none⟩ = some (.slice ab nb cb) := (K0.out.kept hb).cell 1
  have d1 : w2.cell? ⟨B, 1, none⟩ = some (.slice ab2 nb2 cb2) := (K1.out.kept hb).cell 1
  have c0 : w2.cell? ⟨w.heap.size, 0, none⟩ = some (.int .i64 m) := (K0.out.kept hb).cell 0
  clear hb HA HW0 HW1
  go_upto_region 5 with fail
  go_cut [7, 8, 9] from 29 (fun a b c wx => RawFill W1 bs m a b c wx)
  case first => as_aux_lemma =>
    go_wp2_with fail
    refine (HRf.out w2 HB2.out).mono ?_
    rintro e w3 ⟨hb, ⟨h0, rfl⟩ | ⟨h0, M, a', cap, S, hm, rfl, hcp, hel, hsl⟩⟩
    · have HJ : Hid (RawFill W1 bs m (.slice none 0 0) (.slice none 0 0) (.int .i64 (fillE bs m)) w3) := hid ⟨bel2 HB2.out hb, .inl ⟨h0, rfl, rfl, rfl⟩⟩
      clear hb h0
      go_wp2_with fail
      go_meet
      case rel => exact HJ.out
    · have HJ : Hid (RawFill W1 bs m (.slice a' (psorted bs).length cap) (.slice (some ⟨S, 0, none⟩) M M) (.int .i64 0) w3) := hid ⟨bel2 HB2.out hb, .inr ⟨h0, M, a', cap, S, hm, rfl, rfl, rfl, hel, hsl⟩⟩
      clear hb h0 hm hcp hel hsl
      go_wp2_with fail
      go_meet
      case rel => exact HJ.out
  case rest =>
    have HF := hid hcut
    clear hcut c0 c1 c2 d1 d2 HB2
    go_upto_region 6 with fail
    go_cut [10] from 29 (fun q wx => q = .bool (rightT m bs L) ∧ Below W1.heap.size W1 wx)
    case first => as_aux_lemma =>
      obtain ⟨hb, ⟨h0, rfl, rfl, rfl⟩ | ⟨h0, M, a', cap, S, rfl, rfl, rfl, rfl, hel, hsl⟩⟩ := HF.out
      · have HB3 := hid hb
        have HR := hid (rightT_no (L := L) h0)
        have hne : ((fillE bs m : Int) == 0) = false := by rw [beq_eq_false_iff_ne]; omega
        clear hb h0
        generalize fillE bs m = f at *
        go_wp2_with fail
        go_meet
        case rel => exact ⟨by rw [HR.out], HB3.out⟩
      · have HB3 := hid hb
        have HR := hid (rightT_yes (L := L) h0)
        have HLl : Hid ((fillT (ordL M (psorted bs)) (psorted bs).length M M).length = M) := hid (fillT_length _ _ _ _)
        have hpl : (psorted bs).length ≤ 40 := by have := compact_le (psort bs); rw [psort_length] at this; unfold psorted; have := HNb.out; omega
        have HP := hid (HP2.out (psorted bs) a' cap wc hb (by omega) hel)
        have HSl := hid hsl
        have HMl : Hid (M ≤ 1000) := hid (by have := HMx.out (sized_of h0); omega)
        have c1 : wc.cell? ⟨w.heap.size, 1, none⟩ = some (.slice ab nb cb) := (K0.out.kept hb).cell 1
        have HK := hid (K0.out.kept hb)
        clear hb h0 hel hsl hpl
        generalize fillT (ordL M (psorted bs)) (psorted bs).length M M = L3 at *
        generalize psorted bs = bs3 at *
        generalize bs3.length = n3 at *
        by_cases hpb : bs3 = bs
        · rw [decide_eq_true hpb] at HP HR
          clear hpb
          go_wp2_with fail
          refine HP.out.mono ?_
          rintro e w4 ⟨rfl, hb4⟩
          have HB4 := hid (bel2 HB3.out hb4)
          have HSI : Hid (Calls Tryz.prog 10 #[.slice (some ⟨S, 0, none⟩) M M, .slice as1 nl cl] w4 fun e w' => e = .returned (.bool (decide (L3 = L))) ∧ Below w4.heap.size w4 w') := hid (by
            have h := HS2.out L3 (some ⟨S, 0, none⟩) M w4 HB4.out (by rw [HLl.out]; exact HMl.out) (SlotB.ints (Blk.kept HSl.out hb4))
            rwa [HLl.out] at h)
          have c2 : w4.cell? ⟨w.heap.size, 2, none⟩ = some (.slice as1 nl cl) := (HK.out.kept hb4).cell 2
          clear hb4 c1 HP
          go_wp2_with fail
          refine HSI.out.mono ?_
          rintro e w5 ⟨rfl, hb5⟩
          have HB5 := hid (bel2 HB4.out hb5)
          clear hb5 c2 HSI
          go_wp2_with fail
          go_meet
          case rel => exact ⟨by rw [HR.out, Bool.true_and], HB5.out⟩
        · rw [decide_eq_false hpb] at HP HR
          clear hpb
          go_wp2_with fail
          refine HP.out.mono ?_
          rintro e w4 ⟨rfl, hb4⟩
          have HB4 := hid (bel2 HB3.out hb4)
          clear hb4 c1 HP
          go_wp2_with fail
          go_meet
          case rel => exact ⟨by rw [HR.out, Bool.false_and], HB4.out⟩
    case rest =>
      obtain ⟨rfl, hbc⟩ := hcut
      have HB3 := hid hbc
      clear HF hbc
      go_upto_region 7 with fail
      go_cut [11] from 29 (fun q wx => q = .bool (sameT m m2 bs bs2 L L2) ∧ Below W1.heap.size W1 wx)
      case first => as_aux_lemma =>
        have HR : Hid (sameT m m2 bs bs2 L L2 = (decide (m = m2) && decide (bs = bs2) && decide (L = L2))) := hid rfl
        have c0 : wc.cell? ⟨w.heap.size, 0, none⟩ = some (.int .i64 m) := (K0.out.kept HB3.out).cell 0
        have c1 : wc.cell? ⟨w.heap.size, 1, none⟩ = some (.slice ab nb cb) := (K0.out.kept HB3.out).cell 1
        have c2 : wc.cell? ⟨w.heap.size, 2, none⟩ = some (.slice as1 nl cl) := (K0.out.kept HB3.out).cell 2
        have d0 : wc.cell? ⟨B, 0, none⟩ = some (.int .i64 m2) := (K1.out.kept HB3.out).cell 0
        have d1 : wc.cell? ⟨B, 1, none⟩ = some (.slice ab2 nb2 cb2) := (K1.out.kept HB3.out).cell 1
        have d2 : wc.cell? ⟨B, 2, none⟩ = some (.slice as2 nl2 cl2) := (K1.out.kept HB3.out).cell 2
        have HP := hid (HPt.out wc HB3.out)
        by_cases hm : m = m2
        · have em : (m == m2) = true := by simp [hm]
          rw [decide_eq_true hm, Bool.true_and] at HR
          clear hm
          cases hd : decide (bs = bs2)
          · rw [hd] at HP HR
            clear hd
            go_wp2_with fail
            refine HP.out.mono ?_
            rintro e w4 ⟨rfl, hb4⟩
            have HB4 := hid (bel2 HB3.out hb4)
            clear hb4 c0 c1 c2 d0 d1 d2 HP
            go_wp2_with fail
            go_meet
            case rel => exact ⟨by rw [HR.out, Bool.false_and], HB4.out⟩
          · rw [hd, Bool.true_and] at HR
            rw [hd] at HP
            clear hd
            go_wp2_with fail
            refine HP.out.mono ?_
            rintro e w4 ⟨rfl, hb4⟩
            have HB4 := hid (bel2 HB3.out hb4)
            have HS := hid (HSi.out w4 HB4.out)
            clear hb4 c0 c1 c2 d0 d1 d2 HP
            have c2 : w4.cell? ⟨w.heap.size, 2, none⟩ = some (.slice as1 nl cl) := (K0.out.kept HB4.out).cell 2
            have d2 : w4.cell? ⟨B, 2, none⟩ = some (.slice as2 nl2 cl2) := (K1.out.kept HB4.out).cell 2
            go_wp2_with fail
            refine HS.out.mono ?_
            rintro e w5 ⟨rfl, hb5⟩
            have HB5 := hid (bel2 HB4.out hb5)
            clear hb5 c2 d2 HS
            go_wp2_with fail
            go_meet
            case rel => exact ⟨by rw [HR.out], HB5.out⟩
        · have em : (m == m2) = false := by simp [hm]
          rw [decide_eq_false hm, Bool.false_and, Bool.false_and] at HR
          clear hm HP
          go_wp2_with fail
          go_meet
          case rel => exact ⟨by rw [HR.out], HB3.out⟩
      case rest =>
        obtain ⟨rfl, hbc⟩ := hcut
        have HB7 := hid hbc
        clear hbc HB3
        generalize rightT m bs L = rq at *
        generalize sameT m m2 bs bs2 L L2 = sq at *
        have er : (rq != rq) = false := by simp
        have es : (sq != sq) = false := by simp
        have HK7 := hid (K0.out.kept HB7.out)
        have HM7 := hid (K1.out.kept HB7.out)
        go_wp2_with ((show wpList _ _ _ (⟨some 100, _, _, _, _, _⟩ :: _) _ _); go_must (refine wpl_load 27 (.tmp 3) rfl w.heap.size rfl 27 _ _ HK7.out Tryz.underlying27 rfl 3 Tryz.infoTable rfl rfl ?_))
        refine (HRg.out wc HB7.out).mono ?_
        rintro e w8 ⟨rfl, hb8⟩
        have HB8 := hid (bel2 HB7.out hb8)
        have HK8 := hid (HK7.out.kept hb8)
        have HM8 := hid (HM7.out.kept hb8)
        clear hb8 HK7 HM7 HRg
        go_wp2_with (first
          | ((show wpList _ _ _ (⟨some 105, _, _, _, _, _⟩ :: _) _ _); go_must (refine wpl_load 27 (.tmp 3) rfl w.heap.size rfl 27 _ _ HK8.out Tryz.underlying27 rfl 3 Tryz.infoTable rfl rfl ?_))
          | ((show wpList _ _ _ (⟨some 106, _, _, _, _, _⟩ :: _) _ _); go_must (refine wpl_load 27 (.tmp 4) rfl B rfl 27 _ _ HM8.out Tryz.underlying27 rfl 3 Tryz.infoTable rfl rfl ?_)))
        refine (HSm.out w8 HB8.out).mono ?_
        rintro e w9 ⟨rfl, hb9⟩
        have HB9 := hid (bel2 HB8.out hb9)
        have HK9 := hid (HK8.out.kept hb9)
        clear hb9 HK8 HM8 HSm
        obtain ⟨ow, how⟩ : ∃ ow, ow = ownW m bs L (ofP m ys) := ⟨_, rfl⟩
        have HOw := hid how
        have HO9 := hid (HOf.out w9 HB9.out)
        rw [← how, show ansO ow = .tuple #[.agg (encP (ow.getD pz)), .bool ow.isSome] from rfl] at HO9
        obtain ⟨x, hx⟩ : ∃ x, x = ow.getD pz := ⟨_, rfl⟩
        obtain ⟨oq, hoq⟩ : ∃ oq, oq = ow.isSome := ⟨_, rfl⟩
        rw [← hx, ← hoq] at HO9
        have HXx := hid hx
        have HOq := hid hoq
        clear how hx hoq HOf
        go_wp2_with ((show wpList _ _ _ (⟨some 112, _, _, _, _, _⟩ :: _) _ _); go_must (refine wpl_load 27 (.tmp 3) rfl w.heap.size rfl 27 _ _ HK9.out Tryz.underlying27 rfl 3 Tryz.infoTable rfl rfl ?_))
        refine HO9.out.mono ?_
        rintro e w10 ⟨rfl, hb10⟩
        have HB10 := hid (bel2 HB9.out hb10)
        clear hb10 HO9 HK9 er es
        obtain ⟨V0, hV0⟩ : ∃ W, W = w10.alloc (.cells (encP x) 41) := ⟨_, rfl⟩
        have HV0 := hid hV0.symm
        have HPx := hid (hV0 ▸ Blk.new w10 _ _ : Blk V0 w10.heap.size 41 (encP x))
        have HBV := hid (bel2 HB10.out (hV0 ▸ (Below.refl _ _).alloc (Nat.le_refl _) _ : Below w10.heap.size w10 V0))
        clear hV0
        go_upto_region 11 with ((show wpList _ _ _ (⟨none, _, _, _, _, _⟩ :: _) _ _); go_must (refine wpl_storeN (.tmp 12) (.tmp 115) rfl _ rfl rfl x rfl rfl ?_))
        rw [HV0.out]
        generalize w10.heap.size = X at *
        go_cut [14] from 29 (fun q wx => q = .bool (wholeT m L) ∧ Below V0.heap.size V0 wx)
        case first => as_aux_lemma =>
          have HR : Hid (wholeT m L = (sizedB m && decide ((L.length : Int) = m))) := hid rfl
          have HK := hid (K0.out.kept HBV.out)
          have c0 : V0.cell? ⟨w.heap.size, 0, none⟩ = some (.int .i64 m) := HK.out.cell 0
          have c2 : V0.cell? ⟨w.heap.size, 2, none⟩ = some (.slice as1 nl cl) := HK.out.cell 2
          have HSz := hid (rsized_any m V0)
          cases hz : sizedB m
          · rw [hz, Bool.false_and] at HR
            rw [hz] at HSz
            clear hz
            go_wp2_with fail
            refine HSz.out.mono ?_
            rintro e w11 ⟨rfl, rfl⟩
            clear HSz
            go_wp2_with fail
            go_meet
            case rel => exact ⟨by rw [HR.out], Below.refl _ _⟩
          · rw [hz, Bool.true_and, ← HNl.out.1] at HR
            rw [hz] at HSz
            clear hz
            have ed : ((nl : Int) == m) = decide ((nl : Int) = m) := rfl
            go_wp2_with fail
            refine HSz.out.mono ?_
            rintro e w11 ⟨rfl, rfl⟩
            clear HSz
            go_wp2_with fail
            go_meet
            case rel => exact ⟨by rw [HR.out], Below.refl _ _⟩
        case rest =>
          obtain ⟨rfl, hbc⟩ := hcut
          have HB11 := hid hbc
          clear hbc
          have HBc := hid (bel2 HBV.out HB11.out)
          have HPc := hid (HPx.out.kept HB11.out)
          clear HBV HB11 HPx HV0
          cases hw : wholeT m L
          · as_aux_lemma =>
              have hnone : ∀ p, ownW m bs L p = none := fun p => by
                unfold ownW
                rw [if_neg (by rw [hw]; decide)]
              obtain rfl : oq = false := by rw [HOq.out, HOw.out, hnone]; rfl
              have HA0 : Hid (∀ V, Below W1.heap.size W1 V → Calls Tryz.prog 16 #[.agg #[.int .i64 m, .slice ab nb cb, .slice as1 nl cl], .int .i64 0] V fun e w' => e = .returned (.tuple #[.agg (encP pz), .bool false]) ∧ Below V.heap.size V w') := hid (fun V hb => by
                have h := HAt.out 0 V hb
                rwa [hnone, show ansO none = .tuple #[.agg (encP pz), .bool false] from rfl] at h)
              have HM0 : Hid (∀ V, Below W1.heap.size W1 V → Calls Tryz.prog 17 #[.agg #[.int .i64 m, .slice ab nb cb, .slice as1 nl cl], .agg #[.int .i64 m2, .slice ab2 nb2 cb2, .slice as2 nl2 cl2]] V fun e w' => e = .returned (.int .i64 0) ∧ Below V.heap.size V w') := hid (fun V hb => by
                have h := HMv.out V hb
                rwa [mov_none_left _ _ (fun p => hnone p)] at h)
              have HKc := hid (K0.out.kept HBc.out)
              clear hnone hw HOw HOq HXx HPl HP2 HS2 HRf HPt HSi HCo HMv HAt HPc
              go_wp2_with ((show wpList _ _ _ (⟨some 131, _, _, _, _, _⟩ :: _) _ _); go_must (refine wpl_load 27 (.tmp 3) rfl w.heap.size rfl 27 _ _ HKc.out Tryz.underlying27 rfl 3 Tryz.infoTable rfl rfl ?_))
              refine (HA0.out wc HBc.out).mono ?_
              rintro e w12 ⟨rfl, hb12⟩
              have HB12 := hid (bel2 HBc.out hb12)
              clear hb12 HA0 HKc
              obtain ⟨V1, hV1⟩ : ∃ W, W = w12.alloc (.cells (encP pz) 41) := ⟨_, rfl⟩
              have HV1 := hid hV1.symm
              have HBV1 := hid (bel2 HB12.out (hV1 ▸ (Below.refl _ _).alloc (Nat.le_refl _) _ : Below w12.heap.size w12 V1))
              have HKc := hid (K0.out.kept HBV1.out)
              have HMc := hid (K1.out.kept HBV1.out)
              clear hV1 HB12 HBc
              go_wp2_with (first
                | ((show wpList _ _ _ (⟨none, _, _, _, _, _⟩ :: _) _ _); go_must (refine wpl_storeN (.tmp 15) (.tmp 133) rfl _ rfl rfl pz rfl rfl ?_); rw [HV1.out])
                | ((show wpList _ _ _ (⟨some 142, _, _, _, _, _⟩ :: _) _ _); go_must (refine wpl_load 27 (.tmp 3) rfl w.heap.size rfl 27 _ _ HKc.out Tryz.underlying27 rfl 3 Tryz.infoTable rfl rfl ?_))
                | ((show wpList _ _ _ (⟨some 143, _, _, _, _, _⟩ :: _) _ _); go_must (refine wpl_load 27 (.tmp 4) rfl B rfl 27 _ _ HMc.out Tryz.underlying27 rfl 3 Tryz.infoTable rfl rfl ?_)))
              refine (HM0.out V1 HBV1.out).mono ?_
              rintro e w13 ⟨rfl, hb13⟩
              have HB13 := hid (bel2 HBV1.out hb13)
              clear hb13 HM0 HKc HMc HBV1
              go_wp2
              go_ret
              exact ⟨rfl, bel2 Hb1.out HB13.out⟩
          · have hs : sizedB m = true := by
              unfold wholeT at hw
              rw [Bool.and_eq_true] at hw
              exact hw.1
            obtain rfl : m = (nl : Int) := by
              unfold wholeT at hw
              rw [Bool.and_eq_true, decide_eq_true_eq, ← HNl.out.1] at hw
              exact hw.2.symm
            obtain ⟨p, hpM, hp1, hp2⟩ := plcN_nat hs ys
            obtain ⟨xw, hxw⟩ : ∃ xw, xw = L.getD p 0 := ⟨_, rfl⟩
            have HOs : Hid (ow = if 0 ≤ xw ∧ xw < nb then some bs[xw.toNat]! else none) := hid (by
              rw [HOw.out, hp2]
              unfold ownW ownT
              rw [if_pos hw, Int.toNat_natCast, ← hxw, HNb.out.1]
              by_cases h : 0 ≤ xw ∧ xw < bs.length
              · rw [if_pos ⟨by omega, by omega, h.1, h.2⟩, if_pos h]
              · rw [if_neg (fun q => h ⟨q.2.2.1, q.2.2.2⟩), if_neg h])
            have HPp : Hid (∀ V, Below W1.heap.size W1 V → Calls Tryz.prog 13 #[.slice ay k cy, .int .i64 (nl : Int)] V fun e w' => e = .returned (.int .i64 (p : Int)) ∧ Below V.heap.size V w') := hid (fun V hb => by
              have h := HPl.out hs V hb
              rwa [hp1] at h)
            have HXw : Hid (xw = L.getD p 0) := hid hxw
            have HPM := hid hpM
            clear hp1 hp2 hxw hw hs HOw HPl HRf HPt HSi HP2 HS2
            have c0 : wc.cell? ⟨w.heap.size, 0, none⟩ = some (.int .i64 (nl : Int)) := (K0.out.kept HBc.out).cell 0
            go_wp2_with fail
            refine (HPp.out wc HBc.out).mono ?_
            rintro e w12 ⟨rfl, hb12⟩
            have HB12 := hid (bel2 HBc.out hb12)
            have HP12 := hid (HPc.out.kept hb12)
            clear hb12 HPp HPc HBc c0
            have c2 : w12.cell? ⟨w.heap.size, 2, none⟩ = some (.slice as1 nl cl) := (K0.out.kept HB12.out).cell 2
            obtain ⟨g, o, has1, hg, hcx⟩ := (HT.out.kept HB12.out).ints p (by rw [← HNl.out.1]; exact hpM)
            have d0 : w12.cell? ⟨g, o + p, none⟩ = some (.int .i64 xw) := by rw [HXw.out]; exact hcx
            rw [has1] at c2
            clear hcx hg
            go_upto_region 17 with fail
            obtain ⟨hq, hhq⟩ : ∃ hq, hq = (decide (0 ≤ xw) && decide (xw < (nb : Int))) := ⟨_, rfl⟩
            have HHq := hid hhq
            have HAs := hid has1
            clear hhq has1 c2 d0 hpM
            go_cut [19] from 29 (fun q wx => q = .bool hq ∧ Below w12.heap.size w12 wx)
            case first => as_aux_lemma =>
              have c1 : w12.cell? ⟨w.heap.size, 1, none⟩ = some (.slice ab nb cb) := (K0.out.kept HB12.out).cell 1
              by_cases h0 : 0 ≤ xw
              · have eh : decide (xw < (nb : Int)) = hq := by rw [HHq.out, decide_eq_true h0, Bool.true_and]
                have e0 : decide (0 ≤ xw) = true := decide_eq_true h0
                clear h0
                cases hq
                · go_wp2_with fail
                  go_meet
                  case rel => exact ⟨rfl, Below.refl _ _⟩
                · go_wp2_with fail
                  go_meet
                  case rel => exact ⟨rfl, Below.refl _ _⟩
              · have eh : false = hq := by rw [HHq.out, decide_eq_false h0, Bool.false_and]
                subst eh
                have e0 : decide (0 ≤ xw) = false := decide_eq_false h0
                clear h0
                go_wp2_with fail
                go_meet
                case rel => exact ⟨rfl, Below.refl _ _⟩
            case rest =>
              obtain ⟨rfl, hbc⟩ := hcut
              have HBd := hid (bel2 HB12.out hbc)
              have HPd := hid (HP12.out.kept hbc)
              clear hbc HB12 HP12
              go_upto_region 18 with fail
              go_cut [18, 179] from 29 (fun y q wx => y = .int .i64 xw ∧ q = .bool false ∧ Below W1.heap.size W1 wx)
              case first => as_aux_lemma =>
                cases hq with
                | false =>
                  have hn : ¬ (0 ≤ xw ∧ xw < (nb : Int)) := by
                    have h := HHq.out
                    rw [eq_comm, Bool.and_eq_false_iff, decide_eq_false_iff_not, decide_eq_false_iff_not] at h
                    omega
                  obtain rfl : oq = false := by rw [HOq.out, HOs.out, if_neg hn]; rfl
                  clear hn
                  refine wp_region_held_drew (S := fun V => Below wc.heap.size wc V) (by kernel_rfl) (Below.refl _ _).drew (fun hS => ?_)
                  change wpAnyH _ _ _ _ _ 15 #[false, false, false, false, false, false, false, false, false, false, false, false, false, false, false] _ _
                  refine wpAnyH_take (i := 0) (v := .bool false) rfl (by kernel_rfl) (by kernel_rfl) (by kernel_rfl) (fun _ _ _ h => h) (.inl ⟨by kernel_rfl, fun V hV => by unfold execOp; go_simp⟩) hS ?_
                  simp only [List.getElem_toArray, List.getElem_cons_zero, List.getElem_cons_succ, Act.put, List.setIfInBounds_toArray, List.set_cons_zero, List.set_cons_succ]
                  refine wpAnyH_take (i := 1) (v := .bool false) rfl (by kernel_rfl) (by kernel_rfl) (by kernel_rfl) (fun _ _ _ h => h) (.inl ⟨by kernel_rfl, fun V hV => by unfold execOp; go_simp⟩) hS ?_
                  simp only [List.getElem_toArray, List.getElem_cons_zero, List.getElem_cons_succ, Act.put, List.setIfInBounds_toArray, List.set_cons_zero, List.set_cons_succ]
                  refine wpAnyH_take (i := 2) (v := .bool false) rfl (by kernel_rfl) (by kernel_rfl) (by kernel_rfl) (fun _ _ _ h => h) (.inl ⟨by kernel_rfl, fun V hV => by unfold execOp; go_simp⟩) hS ?_
                  simp only [List.getElem_toArray, List.getElem_cons_zero, List.getElem_cons_succ, Act.put, List.setIfInBounds_toArray, List.set_cons_zero, List.set_cons_succ]
                  refine wpAnyH_take (i := 3) (v := .bool false) rfl (by kernel_rfl) (by kernel_rfl) (by kernel_rfl) (fun _ _ _ h => h) (.inl ⟨by kernel_rfl, fun V hV => by unfold execOp; go_simp⟩) hS ?_
                  simp only [List.getElem_toArray, List.getElem_cons_zero, List.getElem_cons_succ, Act.put, List.setIfInBounds_toArray, List.set_cons_zero, List.set_cons_succ]
                  refine wpAnyH_take (i := 4) (v := .bool false) rfl (by kernel_rfl) (by kernel_rfl) (by kernel_rfl) (fun _ _ _ h => h) (.inl ⟨by kernel_rfl, fun V hV => by unfold execOp; go_simp⟩) hS ?_
                  simp only [List.getElem_toArray, List.getElem_cons_zero, List.getElem_cons_succ, Act.put, List.setIfInBounds_toArray, List.set_cons_zero, List.set_cons_succ]
                  refine wpAnyH_take (i := 5) (v := .bool false) rfl (by kernel_rfl) (by kernel_rfl) (by kernel_rfl) (fun _ _ _ h => h) (.inl ⟨by kernel_rfl, fun V hV => by unfold execOp; go_simp⟩) hS ?_
                  simp only [List.getElem_toArray, List.getElem_cons_zero, List.getElem_cons_succ, Act.put, List.setIfInBounds_toArray, List.set_cons_zero, List.set_cons_succ]
                  refine wpAnyH_take (i := 6) (v := undef) rfl (by kernel_rfl) (by kernel_rfl) (by kernel_rfl) (fun _ _ _ h => h) (.inr ⟨by kernel_rfl, rfl⟩) hS ?_
                  simp only [List.getElem_toArray, List.getElem_cons_zero, List.getElem_cons_succ, Act.put, List.setIfInBounds_toArray, List.set_cons_zero, List.set_cons_succ]
                  refine wpAnyH_take (i := 7) (v := undef) rfl (by kernel_rfl) (by kernel_rfl) (by kernel_rfl) (fun _ _ _ h => h) (.inr ⟨by kernel_rfl, rfl⟩) hS ?_
                  simp only [List.getElem_toArray, List.getElem_cons_zero, List.getElem_cons_succ, Act.put, List.setIfInBounds_toArray, List.set_cons_zero, List.set_cons_succ]
                  refine wpAnyH_take (i := 8) (v := undef) rfl (by kernel_rfl) (by kernel_rfl) (by kernel_rfl) (fun _ _ _ h => h) (.inr ⟨by kernel_rfl, rfl⟩) hS ?_
                  simp only [List.getElem_toArray, List.getElem_cons_zero, List.getElem_cons_succ, Act.put, List.setIfInBounds_toArray, List.set_cons_zero, List.set_cons_succ]
                  refine wpAnyH_take (i := 9) (v := undef) rfl (by kernel_rfl) (by kernel_rfl) (by kernel_rfl) (fun _ _ _ h => h) (.inr ⟨by kernel_rfl, rfl⟩) hS ?_
                  simp only [List.getElem_toArray, List.getElem_cons_zero, List.getElem_cons_succ, Act.put, List.setIfInBounds_toArray, List.set_cons_zero, List.set_cons_succ]
                  refine wpAnyH_take (i := 10) (v := undef) rfl (by kernel_rfl) (by kernel_rfl) (by kernel_rfl) (fun _ _ _ h => h) (.inr ⟨by kernel_rfl, rfl⟩) hS ?_
                  simp only [List.getElem_toArray, List.getElem_cons_zero, List.getElem_cons_succ, Act.put, List.setIfInBounds_toArray, List.set_cons_zero, List.set_cons_succ]
                  refine wpAnyH_take (i := 11) (v := undef) rfl (by kernel_rfl) (by kernel_rfl) (by kernel_rfl) (fun _ _ _ h => h) (.inr ⟨by kernel_rfl, rfl⟩) hS ?_
                  simp only [List.getElem_toArray, List.getElem_cons_zero, List.getElem_cons_succ, Act.put, List.setIfInBounds_toArray, List.set_cons_zero, List.set_cons_succ]
                  refine wpAnyH_take (i := 12) (v := undef) rfl (by kernel_rfl) (by kernel_rfl) (by kernel_rfl) (fun _ _ _ h => h) (.inr ⟨by kernel_rfl, rfl⟩) hS ?_
                  simp only [List.getElem_toArray, List.getElem_cons_zero, List.getElem_cons_succ, Act.put, List.setIfInBounds_toArray, List.set_cons_zero, List.set_cons_succ]
                  refine wpAnyH_take (i := 13) (v := .bool false) rfl (by kernel_rfl) (by kernel_rfl) (by kernel_rfl) (fun _ _ _ h => h) (.inl ⟨by kernel_rfl, fun V hV => by unfold execOp; go_simp⟩) hS ?_
                  simp only [List.getElem_toArray, List.getElem_cons_zero, List.getElem_cons_succ, Act.put, List.setIfInBounds_toArray, List.set_cons_zero, List.set_cons_succ]
                  refine wpAnyH_take (i := 14) (v := .bool false) rfl (by kernel_rfl) (by kernel_rfl) (by kernel_rfl) (fun _ _ _ h => h) (.inl ⟨by kernel_rfl, fun V hV => by unfold execOp; go_simp⟩) hS ?_
                  simp only [List.getElem_toArray, List.getElem_cons_zero, List.getElem_cons_succ, Act.put, List.setIfInBounds_toArray, List.set_cons_zero, List.set_cons_succ]
                  refine wpAnyH_done (by kernel_rfl) ?_ _
                  have HBe := hid (bel2 HBd.out hS)
                  clear hS
                  go_wp2_with fail
                  go_meet
                  case rel => exact ⟨by first | rfl | rw [HXn.out], rfl, HBe.out⟩
                | true =>
                  have hn : 0 ≤ xw ∧ xw < (nb : Int) := by
                    have h := HHq.out
                    rw [eq_comm, Bool.and_eq_true, decide_eq_true_eq, decide_eq_true_eq] at h
                    exact h
                  have hwb : xw.toNat < bs.length := by have := HNb.out.1; omega
                  obtain rfl : oq = true := by rw [HOq.out, HOs.out, if_pos hn]; rfl
                  have hxe : x = bs[xw.toNat] := by rw [HXx.out, HOs.out, if_pos hn, getElem!_pos bs xw.toNat hwb]; rfl
                  obtain ⟨g2, o2, hab, hg2, hrg⟩ := (HT.out.kept HBd.out).els xw.toNat hwb
                  obtain ⟨who, hwho⟩ : ∃ who : Nat, who = xw.toNat := ⟨_, rfl⟩
                  have hxn : xw = (who : Int) := by omega
                  have HRa : Hid (∀ V, Below wc.heap.size wc V → V.rangeAt g2 (o2 + who * 18) (encPL x)) := hid (fun V hb => by rw [hwho, hxe]; exact rangeAt_below hb hg2 hrg)
                  have HWb : Hid (who < nb) := hid (by have := HNb.out.1; omega)
                  have HKd : Hid (Blk wc w.heap.size 27 #[.int .i64 (nl : Int), .slice (some ⟨g2, o2, none⟩) nb cb, .slice as1 nl cl]) := hid (hab ▸ K0.out.kept HBd.out)
                  have heq := neq_pt x x
                  rw [decide_eq_true rfl] at heq
                  have HHeq := hid heq
                  have HXs := hid (encP_size x)
                  clear hn hwb hxe hg2 hrg hwho hab heq
                  have HXn := hid hxn
                  rw [hxn]
                  clear hxn
                  refine wp_region_held_drew (S := fun V => Below wc.heap.size wc V) (by kernel_rfl) (Below.refl _ _).drew (fun hS => ?_)
                  change wpAnyH _ _ _ _ _ 15 #[false, false, false, false, false, false, false, false, false, false, false, false, false, false, false] _ _
                  refine wpAnyH_take (i := 0) (v := .bool true) rfl (by kernel_rfl) (by kernel_rfl) (by kernel_rfl) (fun _ _ _ h => h) (.inl ⟨by kernel_rfl, fun V hV => by unfold execOp; go_simp⟩) hS ?_
                  simp only [List.getElem_toArray, List.getElem_cons_zero, List.getElem_cons_succ, Act.put, List.setIfInBounds_toArray, List.set_cons_zero, List.set_cons_succ]
                  refine wpAnyH_take (i := 1) (v := .bool true) rfl (by kernel_rfl) (by kernel_rfl) (by kernel_rfl) (fun _ _ _ h => h) (.inl ⟨by kernel_rfl, fun V hV => by unfold execOp; go_simp⟩) hS ?_
                  simp only [List.getElem_toArray, List.getElem_cons_zero, List.getElem_cons_succ, Act.put, List.setIfInBounds_toArray, List.set_cons_zero, List.set_cons_succ]
                  refine wpAnyH_take (i := 2) (v := .bool false) rfl (by kernel_rfl) (by kernel_rfl) (by kernel_rfl) (fun _ _ _ h => h) (.inl ⟨by kernel_rfl, fun V hV => by unfold execOp; go_simp⟩) hS ?_
                  simp only [List.getElem_toArray, List.getElem_cons_zero, List.getElem_cons_succ, Act.put, List.setIfInBounds_toArray, List.set_cons_zero, List.set_cons_succ]
                  refine wpAnyH_take (i := 3) (v := .bool false) rfl (by kernel_rfl) (by kernel_rfl) (by kernel_rfl) (fun _ _ _ h => h) (.inl ⟨by kernel_rfl, fun V hV => by unfold execOp; go_simp⟩) hS ?_
                  simp only [List.getElem_toArray, List.getElem_cons_zero, List.getElem_cons_succ, Act.put, List.setIfInBounds_toArray, List.set_cons_zero, List.set_cons_succ]
                  refine wpAnyH_take (i := 4) (v := .bool true) rfl (by kernel_rfl) (by kernel_rfl) (by kernel_rfl) (fun _ _ _ h => h) (.inl ⟨by kernel_rfl, fun V hV => by unfold execOp; go_simp⟩) hS ?_
                  simp only [List.getElem_toArray, List.getElem_cons_zero, List.getElem_cons_succ, Act.put, List.setIfInBounds_toArray, List.set_cons_zero, List.set_cons_succ]
                  refine wpAnyH_take (i := 5) (v := .bool true) rfl (by kernel_rfl) (by kernel_rfl) (by kernel_rfl) (fun _ _ _ h => h) (.inl ⟨by kernel_rfl, fun V hV => by unfold execOp; go_simp⟩) hS ?_
                  simp only [List.getElem_toArray, List.getElem_cons_zero, List.getElem_cons_succ, Act.put, List.setIfInBounds_toArray, List.set_cons_zero, List.set_cons_succ]
                  refine wpAnyH_take (i := 6) (v := .agg (encP x)) rfl (by kernel_rfl) (by kernel_rfl) (by kernel_rfl) (fun _ _ _ h => h) (yields_load 41 (.tmp 12) rfl X rfl 41 _ _ (fun V h => HPd.out.kept h) Tryz.underlying41 rfl 18 Tryz.infoPoint HXs.out.symm (by kernel_rfl)) hS ?_
                  simp only [List.getElem_toArray, List.getElem_cons_zero, List.getElem_cons_succ, Act.put, List.setIfInBounds_toArray, List.set_cons_zero, List.set_cons_succ]
                  refine wpAnyH_take (i := 7) (v := .pointer (some ⟨w.heap.size, 1, none⟩)) rfl (by kernel_rfl) (by kernel_rfl) (by kernel_rfl) (fun _ _ _ h => h) (.inl ⟨by kernel_rfl, fun V hV => by unfold execOp; go_simp⟩) hS ?_
                  simp only [List.getElem_toArray, List.getElem_cons_zero, List.getElem_cons_succ, Act.put, List.setIfInBounds_toArray, List.set_cons_zero, List.set_cons_succ]
                  refine wpAnyH_take (i := 8) (v := .slice (some ⟨g2, o2, none⟩) nb cb) rfl (by kernel_rfl) (by kernel_rfl) (by kernel_rfl) (fun _ _ _ h => h) (.inl ⟨by kernel_rfl, fun V hV => by have c0 : V.cell? ⟨w.heap.size, 1, none⟩ = some (.slice (some ⟨g2, o2, none⟩) nb cb) := (HKd.out.kept hV).cell 1; unfold execOp; go_simp⟩) hS ?_
                  simp only [List.getElem_toArray, List.getElem_cons_zero, List.getElem_cons_succ, Act.put, List.setIfInBounds_toArray, List.set_cons_zero, List.set_cons_succ]
                  refine wpAnyH_take (i := 9) (v := .int .i64 (who : Int)) rfl (by kernel_rfl) (by kernel_rfl) (by kernel_rfl) (fun _ _ _ h => h) (.inl ⟨by kernel_rfl, fun V hV => by unfold execOp; go_simp⟩) hS ?_
                  simp only [List.getElem_toArray, List.getElem_cons_zero, List.getElem_cons_succ, Act.put, List.setIfInBounds_toArray, List.set_cons_zero, List.set_cons_succ]
                  refine wpAnyH_take (i := 10) (v := .pointer (some ⟨g2, o2 + who * 18, none⟩)) rfl (by kernel_rfl) (by kernel_rfl) (by kernel_rfl) (fun _ _ _ h => h) (.inl ⟨by kernel_rfl, fun V hV => by have hlt := HWb.out; unfold execOp; go_simp; try (intro h; omega)⟩) hS ?_
                  simp only [List.getElem_toArray, List.getElem_cons_zero, List.getElem_cons_succ, Act.put, List.setIfInBounds_toArray, List.set_cons_zero, List.set_cons_succ]
                  refine wpAnyH_take (i := 11) (v := .agg (encP x)) rfl (by kernel_rfl) (by kernel_rfl) (by kernel_rfl) (fun _ _ _ h => h) (yieldsIf_load_mid (by kernel_rfl) 41 (.tmp 175) rfl g2 (o2 + who * 18) rfl (encPL x) _ (fun V hV => HRa.out V hV) Tryz.underlying41 rfl (encPL_info0 x)) hS ?_
                  simp only [List.getElem_toArray, List.getElem_cons_zero, List.getElem_cons_succ, Act.put, List.setIfInBounds_toArray, List.set_cons_zero, List.set_cons_succ]
                  refine wpAnyH_take (i := 12) (v := .bool false) rfl (by kernel_rfl) (by kernel_rfl) (by kernel_rfl) (fun _ _ _ h => h) (.inl ⟨by kernel_rfl, fun V hV => exec_neqP 41 (.tmp 171) (.tmp 176) rfl (encP x) (encP x) false rfl rfl (HHeq.out V)⟩) hS ?_
                  simp only [List.getElem_toArray, List.getElem_cons_zero, List.getElem_cons_succ, Act.put, List.setIfInBounds_toArray, List.set_cons_zero, List.set_cons_succ]
                  refine wpAnyH_take (i := 13) (v := .bool false) rfl (by kernel_rfl) (by kernel_rfl) (by kernel_rfl) (fun _ _ _ h => h) (.inl ⟨by kernel_rfl, fun V hV => by unfold execOp; go_simp⟩) hS ?_
                  simp only [List.getElem_toArray, List.getElem_cons_zero, List.getElem_cons_succ, Act.put, List.setIfInBounds_toArray, List.set_cons_zero, List.set_cons_succ]
                  refine wpAnyH_take (i := 14) (v := .bool false) rfl (by kernel_rfl) (by kernel_rfl) (by kernel_rfl) (fun _ _ _ h => h) (.inl ⟨by kernel_rfl, fun V hV => by unfold execOp; go_simp⟩) hS ?_
                  simp only [List.getElem_toArray, List.getElem_cons_zero, List.getElem_cons_succ, Act.put, List.setIfInBounds_toArray, List.set_cons_zero, List.set_cons_succ]
                  refine wpAnyH_done (by kernel_rfl) ?_ _
                  have HBe := hid (bel2 HBd.out hS)
                  clear hS
                  go_wp2_with fail
                  go_meet
                  case rel => exact ⟨by first | rfl | rw [HXn.out], rfl, HBe.out⟩
              case rest =>
                obtain ⟨rfl, rfl, hbc⟩ := hcut
                have HBe := hid hbc
                clear hbc HBd HPd HOs HXx HOq HHq
                have HKe := hid (K0.out.kept HBe.out)
                go_wp2_with ((show wpList _ _ _ (⟨some 180, _, _, _, _, _⟩ :: _) _ _); go_must (refine wpl_load 27 (.tmp 3) rfl w.heap.size rfl 27 _ _ HKe.out Tryz.underlying27 rfl 3 Tryz.infoTable rfl rfl ?_))
                refine (HCo.out wc HBe.out).mono ?_
                rintro e w20 ⟨C, rfl, hC, hsl, hb20⟩
                have HB20 := hid (bel2 HBe.out hb20)
                have HSC := hid hsl
                clear hb20 HKe HCo hC hsl HBe
                have HK20 := hid (K0.out.kept HB20.out)
                have HT20 := hid (HT.out.kept HB20.out)
                have c1 : w20.cell? ⟨w.heap.size, 1, none⟩ = some (.slice ab nb cb) := HK20.out.cell 1
                go_upto_region 21 with fail
                have has := HAs.out
                clear HAs
                subst has
                have HIn : Hid (∀ j, j < nl → ∀ V, Below w20.heap.size w20 V → V.cell? ⟨g, o + j, none⟩ = some (.int .i64 (L.getD j 0))) := hid (fun j hj V hb => by
                  obtain ⟨g', o', he, hg', hc'⟩ := (HT20.out.kept hb).ints j (by rw [← HNl.out.1]; exact hj)
                  cases he
                  exact hc')
                have HCn : Hid (∀ i, i < nb → ∀ V, Below w20.heap.size w20 V → V.cell? ⟨C, i, none⟩ = some (.int .i64 ((L.count (i : Int) : Nat) : Int))) := hid (fun i hi V hb => by
                  have h := SlotB.cell (Blk.kept HSC.out hb : SlotB V C (countsT nb L)) (show i < (countsT nb L).length by rw [countsT_length]; exact hi)
                  rwa [countsT_get nb L hi] at h)
                have HCl := hid (fun (i : Int) => List.count_le_length (a := i) (l := L))
                have HAn : Hid (∀ (p : Int), ¬ (0 ≤ p ∧ p < nl) → ∀ V, Below W1.heap.size W1 V → Calls Tryz.prog 16 #[.agg #[.int .i64 (nl : Int), .slice ab nb cb, .slice (some ⟨g, o, none⟩) nl cl], .int .i64 p] V fun e w' => e = .returned (.tuple #[.agg (encP pz), .bool false]) ∧ Below V.heap.size V w') := hid (fun p hp V hb => by
                  have h := HAt.out p V hb
                  have hn : ownW (nl : Int) bs L p = none := by
                    unfold ownW ownT
                    split
                    · rw [if_neg (fun q => hp ⟨q.1, q.2.1⟩)]
                    · rfl
                  rwa [hn, show ansO none = .tuple #[.agg (encP pz), .bool false] from rfl] at h)
                have hnl300 : nl ≤ 300 := HNl.out.2
                have hnb40 : nb ≤ 40 := HNb.out.2
                clear HAt HSC HT20
                go_wp2
                go_loopg [185] nb (fun gh t wr => ∃ i : Nat, i ≤ nb ∧ gh = nb - i ∧ t = .int .i64 (i : Int) ∧ Hid (Below w20.heap.size w20 wr))
                case atStart => exact ⟨0, by omega, by omega, rfl, hid (Below.refl _ _)⟩
                case round => as_aux_lemma =>
                  obtain ⟨i, hi, rfl, rfl, HBi⟩ := hrel
                  by_cases hlt : i < nb
                  · have c2 : wr.cell? ⟨w.heap.size, 2, none⟩ = some (.slice (some ⟨g, o, none⟩) nl cl) := (HK20.out.kept HBi.out).cell 2
                    clear c1
                    go_wp2
                    clear c2
                    go_loopg [22, 191] nl (fun gh s t wr => ∃ j : Nat, j ≤ nl ∧ gh = nl - j ∧ t = .int .i64 (j : Int) ∧ s = .int .i64 (((L.take j).count (i : Int) : Nat) : Int) ∧ Hid (Below w20.heap.size w20 wr))
                    case atStart => exact ⟨0, by omega, by omega, rfl, by simp, HBi⟩
                    case round =>
                      obtain ⟨j, hj, rfl, rfl, rfl, HBj⟩ := hrel
                      by_cases hlj : j < nl
                      · have d0 : wr.cell? ⟨g, o + j, none⟩ = some (.int .i64 (L.getD j 0)) := HIn.out j hlj wr HBj.out
                        have hjl : j < L.length := by rw [← HNl.out.1]; exact hlj
                        have HS : Hid ((L.take (j + 1)).count (i : Int) = (L.take j).count (i : Int) + (if L.getD j 0 = (i : Int) then 1 else 0)) := hid (by
                          rw [List.take_succ_eq_append_getElem hjl, List.count_append, List.count_singleton, List.getD_eq_getElem?_getD, List.getElem?_eq_getElem hjl]
                          simp)
                        have hcb := List.count_le_length (a := (i : Int)) (l := L.take j)
                        rw [List.length_take] at hcb
                        have hcb2 : (L.take j).count (i : Int) ≤ 300 := by omega
                        clear hcb hjl
                        generalize (L.take j).count (i : Int) = n0 at *
                        generalize L.getD j 0 = xj at *
                        by_cases he : xj = (i : Int)
                        · rw [if_pos he] at HS
                          subst he
                          go_wp2
                          go_roundg (nl - (j + 1))
                          case measure => omega
                          case rel => exact ⟨j + 1, by omega, rfl, by go_num, by rw [HS.out]; go_num, HBj⟩
                        · rw [if_neg he] at HS
                          have hee : (xj == (i : Int)) = false := by simp [he]
                          go_wp2
                          go_roundg (nl - (j + 1))
                          case measure => omega
                          case rel => exact ⟨j + 1, by omega, rfl, by go_num, by rw [HS.out]; rfl, HBj⟩
                      · obtain rfl : j = nl := by omega
                        have d1 : wr.cell? ⟨C, i, none⟩ = some (.int .i64 ((L.count (i : Int) : Nat) : Int)) := HCn.out i hlt wr HBj.out
                        have ht : (L.take j).count (i : Int) = L.count (i : Int) := by rw [HNl.out.1, List.take_length]
                        rw [ht]
                        have hne : (((L.count (i : Int) : Nat) : Int) != ((L.count (i : Int) : Nat) : Int)) = false := by simp
                        generalize L.count (i : Int) = n0 at *
                        clear ht
                        go_wp2
                        go_roundg (nb - (i + 1))
                        case measure => omega
                        case rel => exact ⟨i + 1, by omega, rfl, by go_num, HBj⟩
                  · obtain rfl : i = nb := by omega
                    have HBf := hid (bel2 HB20.out HBi.out)
                    have HKf := hid (K0.out.kept HBf.out)
                    have HA1 := hid (HAn.out (-1) (by omega))
                    have HA2 := hid (HAn.out (nl : Int) (by omega))
                    clear HAn HIn HCn HCl HK20 HBi c1
                    go_wp2_with ((show wpList _ _ _ (⟨some 215, _, _, _, _, _⟩ :: _) _ _); go_must (refine wpl_load 27 (.tmp 3) rfl w.heap.size rfl 27 _ _ HKf.out Tryz.underlying27 rfl 3 Tryz.infoTable rfl rfl ?_))
                    refine (HA1.out wr HBf.out).mono ?_
                    rintro e w30 ⟨rfl, hb30⟩
                    have HB30 := hid (bel2 HBf.out hb30)
                    clear hb30 HKf HBf HA1
                    obtain ⟨V1, hV1⟩ : ∃ W, W = w30.alloc (.cells (encP pz) 41) := ⟨_, rfl⟩
                    have HV1 := hid hV1.symm
                    have HBV1 := hid (bel2 HB30.out (hV1 ▸ (Below.refl _ _).alloc (Nat.le_refl _) _ : Below w30.heap.size w30 V1))
                    have HKc := hid (K0.out.kept HBV1.out)
                    have c0 : V1.cell? ⟨w.heap.size, 0, none⟩ = some (.int .i64 (nl : Int)) := HKc.out.cell 0
                    clear hV1 HB30
                    go_wp2_with (first
                      | ((show wpList _ _ _ (⟨none, _, _, _, _, _⟩ :: _) _ _); go_must (refine wpl_storeN (.tmp 25) (.tmp 217) rfl _ rfl rfl pz rfl rfl ?_); rw [HV1.out])
                      | ((show wpList _ _ _ (⟨some 220, _, _, _, _, _⟩ :: _) _ _); go_must (refine wpl_load 27 (.tmp 3) rfl w.heap.size rfl 27 _ _ HKc.out Tryz.underlying27 rfl 3 Tryz.infoTable rfl rfl ?_)))
                    refine (HA2.out V1 HBV1.out).mono ?_
                    rintro e w31 ⟨rfl, hb31⟩
                    have HB31 := hid (bel2 HBV1.out hb31)
                    clear hb31 HA2 HKc HBV1 c0
                    obtain ⟨V2, hV2⟩ : ∃ W, W = w31.alloc (.cells (encP pz) 41) := ⟨_, rfl⟩
                    have HV2 := hid hV2.symm
                    have HBV2 := hid (bel2 HB31.out (hV2 ▸ (Below.refl _ _).alloc (Nat.le_refl _) _ : Below w31.heap.size w31 V2))
                    have c1 : V2.cell? ⟨w.heap.size, 1, none⟩ = some (.slice ab i cb) := (K0.out.kept HBV2.out).cell 1
                    clear hV2 HB31
                    go_wp2_with ((show wpList _ _ _ (⟨none, _, _, _, _, _⟩ :: _) _ _); go_must (refine wpl_storeN (.tmp 27) (.tmp 224) rfl _ rfl rfl pz rfl rfl ?_); rw [HV2.out])
                    go_ret
                    exact ⟨rfl, bel2 Hb1.out HBV2.out⟩
end Go.Proofs.YtahconkjhneogaaGreatDoor
