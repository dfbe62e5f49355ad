/-
  The law FrameFeeds.
-/
import Derived.Test.YtkpjdjenlmodnaaDoorFfa
namespace Go.Proofs.YtkpjdjenlmodnaaDoor
open Go.RowKit Go.Lib

section
variable {w wr : World} {c : Nat} {al : List Int} {va vg : Value} {L : List Fr} {xs : List Value} {n : Nat} {b : Bool} {a : Nat → Addr}
/-- What holds before each part. -/
structure FeedsI (a : Nat → Addr) (w wr : World) (c : Nat) (al : List Int) (va vg : Value) (L : List Fr) (xs : List Value) (n : Nat) (b : Bool) : Prop where
  mid : FeedsM w wr c al va vg (.slice none 0 0) L [] xs []
  cuts : Cuts al L n b
  str : Str wr c (al.drop (al.length - n)) L.length b
  byt : Byt al
  errs : Errs 18 a wr
theorem FeedsI.below {V : World} (h : FeedsI a w wr c al va vg L xs n b) (hb : Below wr.heap.size wr V) : FeedsI a w V c al va vg L xs n b :=
  ⟨h.mid.below hb, h.cuts, h.str.kept hb, h.byt, h.errs.below hb⟩
theorem byt_app {x y : List Int} (hx : Byt x) (hy : Byt y) : Byt (x ++ y) := fun j => by
  by_cases h : j < x.length
  · rw [getD_app h]; exact hx j
  · have := hy (j - x.length)
    simpa [List.getD, List.getElem?_append_right (show x.length ≤ j by omega)] using this
theorem gi_ne {i : Nat} {V : World} (h : Errs 18 a V) (hi : i < 18) : gi i < V.heap.size := World.block_lt_of_cell? V _ (h.cell i hi)

set_option linter.unusedSimpArgs false in
set_option maxRecDepth 100000 in
set_option maxHeartbeats 8000000 in
theorem feeds_any (bss : List (List Int)) (ad : Option Addr) (cap : Nat) (hP : Parts w ad bss) (hE : Errs 18 a w) :
    Calls Tryd.prog 4 #[.slice ad bss.length cap] w fun e w' => e = .returned (.bool true) ∧ Below w.heap.size w w' := by
  obtain ⟨iB, hiB, hzB, hB1, hB2⟩ := info_parts Tryd.infoByteS
  have HB1' := hid hB1
  have HB2' := hid hB2
  obtain ⟨iR, hiR, hzR, hR1, hR2⟩ := info_parts Tryd.infoRFrame
  have HR1' := hid hR1
  have HR2' := hid hR2
  clear hB1 hB2 hR1 hR2
  have HA := hid (alive_any (hE.cell 3 (by omega)))
  have HP := hid hP
  have HE := hid hE
  clear hP hE
  obtain ⟨N, hN⟩ : ∃ N, N = bss.length := ⟨_, rfl⟩
  rw [← hN]
  have HN := hid hN
  clear hN
  go_enter Tryd.func4, Tryd.ntmps4
  go_wp2_with fail
  refine HA.out.mono ?_
  rintro e w1 ⟨rfl, hb1⟩
  have HB1 := hid hb1
  clear hb1 HA
  by_cases h30 : 30 < N
  · go_wp2
    go_ret
    exact ⟨rfl, HB1.out⟩
  go_wp2_with fail
  refine (new_any w1).mono ?_
  rintro e w2 ⟨rfl, hs, hb2⟩
  have HI0 : Hid (FeedsI a w ((w2.alloc (.cells #[] 5)).alloc (.cells #[] 50)) w1.heap.size [] (.slice (some ⟨w2.heap.size, 0, none⟩) 0 0) (.slice (some ⟨w2.heap.size + 1, 0, none⟩) 0 0) [] [] 0 false) := hid (by
    have hb := HB1.out.trans (hb2.mono HB1.out.size)
    have hM := FeedsM.first w2 HB1.out.size hs.lt hb
    have hb3 : Below w2.heap.size w2 ((w2.alloc (.cells #[] 5)).alloc (.cells #[] 50)) := ((Below.refl _ _).alloc (Nat.le_refl _) _).alloc (by simp) _
    exact ⟨hM, .short (bs := []) (by simp), hs.kept hb3, fun j => by simp, HE.out.below hM.low⟩)
  clear hs hb2 HB1
  go_wp2
  generalize w1.heap.size = c at *
  go_loopg [4, 5, 28] N (fun g va vg i wr => ∃ k : Nat, ∃ al L xs n b, k ≤ N ∧ g = N - k ∧ i = .int .i64 k ∧ Hid (FeedsI a w wr c al va vg L xs n b) ∧ Hid (al.length ≤ 1500 * k))
  case atStart => exact ⟨0, [], [], [], 0, false, by omega, by omega, rfl, HI0, hid (by simp)⟩
  case round =>
    obtain ⟨k, al, L, xs, n, b, hk, rfl, rfl, HI, HL⟩ := hrel
    by_cases hlt : k < N
    · obtain ⟨g, o, adj, capj, rfl, hcell, hcap, hnil, hrow, hbyt⟩ := HP.out k (by rw [← HN.out]; exact hlt)
      have hlow := HI.out.mid.low
      have c0 : wr.cell? ⟨g, o + k, none⟩ = some (.slice adj (bss.getD k []).length capj) := (hlow.cell (World.block_lt_of_cell? w _ hcell)).trans hcell
      have HQ : Hid (∀ V, Below wr.heap.size wr V → RowA (fun g => g ≠ c) V adj (bss.getD k [])) := hid fun V hV => ((hrow.mono (A' := fun g => g < w.heap.size) fun g _ h => h).kept fun g h _ => (hlow.trans (hV.mono hlow.size)).block g h).mono fun g h _ => by have := HI.out.mid.le; omega
      have HQb := hid hbyt
      have HQc := hid hcap
      have HQn := hid hnil
      clear hlow hcell hcap hnil hrow hbyt
      generalize bss.getD k [] = q at *
      have hal : al.length ≤ 45000 := by have := HL.out; omega
      have HAl := hid hal
      obtain ⟨adA, capA, rfl, hcA, hrA⟩ := HI.out.mid.row
      have HR := hid (rcut_any al hrA hcA HI.out.byt (by omega))
      clear hcA hrA hal
      by_cases h15 : 1500 < q.length
      · go_wp2
        go_ret
        exact ⟨rfl, HI.out.mid.low⟩
      cases b with
      | true =>
        go_wp2_with fail
        refine HR.out.mono ?_
        rintro e w3 ⟨v1, F1, xs1, n1, b1, rfl, hcu1, -, -, hb1⟩
        obtain ⟨rfl, rfl, rfl⟩ := HI.out.cuts.unique hcu1
        have HI3 := hid (HI.out.below hb1)
        have HD := hid (feed_dead (HI3.out.errs.cell 14 (by omega)) HI3.out.str (.slice adj q.length capj))
        clear hcu1 hb1 HI HR HQ HQb HQc HQn
        go_wp2_with fail
        refine HD.out.mono ?_
        rintro e w4 ⟨rfl, m, rfl⟩
        have HI4 := hid (HI3.out.below (sbelow_drewN w3 m))
        have HNm : Hid (Calls Tryd.prog 12 #[.iface 82 (.pointer (some (a 14)))] (w3.drewN m) fun e w' => e = .returned (.int .i64 15) ∧ Below (w3.drewN m).heap.size (w3.drewN m) w') := hid (num_err a 14 (by omega) _ HI4.out.errs)
        clear HI3 HD
        go_wp2_with fail
        refine HNm.out.mono ?_
        rintro e w5 ⟨rfl, hb5⟩
        have HI5 := hid (HI4.out.below hb5)
        have HBr := hid (broken_any HI5.out.str)
        clear HI4 HNm hb5
        go_wp2_with fail
        refine HBr.out.mono ?_
        rintro e w6 ⟨rfl, rfl⟩
        go_wp2
        go_roundg (N - (k + 1))
        case measure => omega
        case rel => exact ⟨k + 1, al, L, xs, n, true, by omega, rfl, by go_num, HI5, hid (by have := HL.out; omega)⟩
      | false =>
        go_wp2_with fail
        refine HR.out.mono ?_
        rintro e w3 ⟨v1, F1, xs1, n1, b1, rfl, hcu1, -, -, hb1⟩
        obtain ⟨rfl, rfl, rfl⟩ := HI.out.cuts.unique hcu1
        have HI3 := hid (HI.out.below hb1)
        have hnl := HI.out.cuts.le
        have hpl : (al.drop (al.length - n)).length = n := by rw [List.length_drop]; omega
        have hce : c ≠ 3 := by
          have h1 : 3 < w.heap.size := gi_ne HE.out (i := 3) (by omega)
          have h2 := HI.out.mid.le
          omega
        have hLf : L.length ≤ 1000000 := by have := HI.out.cuts.few; have := HAl.out; omega
        have HF : Hid (Calls Tryd.prog 15 #[.pointer (some ⟨c, 0, none⟩), .slice adj q.length capj] w3 (FeedEnd w3 c L.length (al.drop (al.length - n) ++ q) (a 3))) :=
          hid (feed_any hce (HI3.out.errs.cell 3 (by omega)) HI3.out.str (by rw [hpl]; exact HI3.out.cuts.rest rfl) q (HQ.out _ hb1) HQc.out HQn.out HQb.out (by omega) hLf)
        have HQ3 := hid (HQ.out _ hb1)
        have HIb := hid HI.out.byt
        have HNl := hid hnl
        have HPl := hid hpl
        clear hnl hpl hce hLf hcu1 hb1 HI HR HQ
        go_wp2_with fail
        refine HF.out.mono ?_
        rintro e w4 ⟨v, p', F, ys, b', rfl, hcu, hp', hs, ho, hf, hk⟩
        have HCu : Hid (Cuts (al ++ q) (L ++ F) p'.length b') := hid (HI3.out.cuts.app rfl hcu)
        have HRe : Hid (p' = (al ++ q).drop ((al ++ q).length - p'.length)) := hid (hp'.trans (tail_app HNl.out (by have := hcu.le; rw [List.length_append, HPl.out] at this; exact this)))
        have HM4 := hid (HI3.out.mid.fed hk hk.low.size ho hf)
        have HS4 := hid hs
        have HQ4 := hid (HQ3.out.kept (w' := w4) fun g h1 h2 => hk.rest g h2 h1)
        obtain ⟨adv, capv, rfl⟩ := own_shapeG ho
        have HFl : Hid (L.length + F.length ≤ 100000) := hid (by have := HCu.out.few; rw [List.length_append, List.length_append] at this; have := HAl.out; omega)
        obtain ⟨ev, hev⟩ : ∃ ev, ev = errV (a 3) b' := ⟨_, rfl⟩
        rw [← hev]
        have HEv := hid hev
        clear hev hcu hp' hs ho hf hk HF HQ3 HI3 HNl HPl
        have HN4 : Hid (∀ ad, adj = some ad → ∀ j u, (q.map (Value.int .u8))[j]? = some u → w4.cell? (ad.add j) = some u) := hid fun ad e j u hu => by
          rw [List.getElem?_map] at hu
          obtain ⟨y, hy, rfl⟩ := Option.map_eq_some_iff.1 hu
          have hj := (List.getElem?_eq_some_iff.1 hy).1
          obtain ⟨g, of, e', _, hc⟩ := HQ4.out j hj
          rw [e] at e'
          cases e'
          rw [add_plain, hc, List.getD, hy]
          rfl
        have HQz : Hid (adj = none → q.length = 0 ∧ capj = 0) := hid fun e => ⟨by have := HQc.out; have := HQn.out e; omega, HQn.out e⟩
        have HQm : Hid ((q.map (Value.int .u8)).length = q.length * 1) := hid (by rw [List.length_map, Nat.mul_one])
        have HAq : Hid (al.length + q.length ≤ 1000000) := hid (by have := HAl.out; omega)
        go_wp2_with (first
          | ((show wpList _ _ _ (⟨some 63, _, _, _, _, _⟩ :: _) _ _); go_must (refine wpl_appG (.tmp 61) (.tmp 62) rfl Tryd.underlying22 hiB hzB HB1'.out HB2'.out rfl (by decide) (by decide) w.heap.size _ al.length (al.map (Value.int .u8)) rfl HM4.out.ownA adj q.length capj (q.map (Value.int .u8)) rfl HQm.out HN4.out (u8_one q) HQz.out HAq.out HM4.out.low.size rfl ?_; intro va' w5 hownA hgrA hfrA))
          | fail)
        have HM5 := hid (HM4.out.bytes hownA hgrA hfrA)
        have HS5 := hid (HS4.out.grown hgrA HM4.out.ca)
        have HV5 := hid (src_own HM5.out.ownV)
        have HOf := hid (of_any (cap := capv) HM5.out.frsF HV5.out.1 (fun e => (HV5.out.2 e).1) (by have := HFl.out; omega))
        clear hownA hgrA hfrA HM4 HS4 HN4 HQ4 HQz HQm HV5 HQn HQc
        refine HOf.out.mono ?_
        rintro e w6 ⟨v4, rfl, hown4, hb6⟩
        obtain ⟨ad4, cap4, rfl⟩ := own_shapeG hown4
        have HM6 := hid (HM5.out.below hb6)
        have HS6 := hid (HS5.out.kept hb6)
        have HYl : Hid (ys.length = F.length * 2) := hid HM6.out.frsF.len
        have HY1 := hid HM6.out.frsF.one
        have HV6 := hid (src_own hown4)
        have HYz : Hid (ad4 = none → F.length = 0 ∧ cap4 = 0) := hid HV6.out.2
        have HN6 : Hid (∀ ad, ad4 = some ad → ∀ j u, ys[j]? = some u → w6.cell? (ad.add j) = some u) := hid fun ad e j u hu => by
          obtain ⟨g, of, rfl, h⟩ := HV6.out.1 ad e
          rw [add_plain]
          exact h j u hu
        have HFm : Hid (L.length + F.length ≤ 1000000) := hid (by have := HFl.out; omega)
        clear hown4 hb6 HM5 HS5 HOf HV6
        go_wp2_with (first
          | ((show wpList _ _ _ (⟨some 67, _, _, _, _, _⟩ :: _) _ _); go_must (refine wpl_appG (.tmp 64) (.tmp 66) rfl Tryd.underlying30 hiR hzR HR1'.out HR2'.out rfl (by decide) (by decide) w.heap.size _ L.length xs rfl HM6.out.ownG ad4 F.length cap4 ys rfl HYl.out HN6.out HY1.out HYz.out HFm.out HM6.out.low.size rfl ?_; intro vg' w7 hownG hgrG hfrG))
          | fail)
        have HM7 := hid (HM6.out.frames hownG hgrG hfrG)
        have HS7 := hid (HS6.out.grown hgrG HM6.out.cg)
        clear hownG hgrG hfrG HM6 HS6 HYl HY1 HYz HN6
        obtain ⟨adA', capA', rfl, hcA', hrA'⟩ := HM7.out.row
        have HBq : Hid (Byt (al ++ q)) := hid (byt_app HIb.out HQb.out)
        have HAQ : Hid ((al ++ q).length ≤ 46500) := hid (by rw [List.length_append]; have := HAl.out; omega)
        have HR7 := hid (rcut_any (al ++ q) hrA' hcA' HBq.out (by have := HAQ.out; omega))
        clear hcA' hrA'
        refine HR7.out.mono ?_
        rintro e w8 ⟨v8, F8, xs8, n8, b8, rfl, hcu8, ho8, hf8, hb8⟩
        obtain ⟨rfl, rfl, rfl⟩ := HCu.out.unique hcu8
        obtain ⟨ad8, cap8, rfl⟩ := own_shapeG ho8
        obtain ⟨adG, capG, rfl⟩ := own_shapeG HM7.out.ownG
        have HM8 := hid (HM7.out.below hb8)
        have HS8 : Hid (Str w8 c p' (L ++ F).length b') := hid (by rw [List.length_append]; exact HS7.out.kept hb8)
        have HVG := hid (src_own HM8.out.ownG)
        have HV8 := hid (src_own ho8)
        have HSm := hid (same_any (cap := capG) (capb := cap8) HM8.out.frsL HVG.out.1 (fun e => (HVG.out.2 e).1) hf8 HV8.out.1 (fun e => (HV8.out.2 e).1) (by rw [List.length_append]; exact HFm.out))
        clear hcu8 ho8 hf8 hb8 HM7 HS7 HR7 HVG HV8
        have HAm : Hid ((al ++ q).length ≤ 1500 * (k + 1)) := hid (by rw [List.length_append]; have := HL.out; omega)
        obtain ⟨fl, hfl⟩ : ∃ fl, fl = (L ++ F).length := ⟨_, rfl⟩
        have hFm2 : fl ≤ 1000000 := by rw [hfl, List.length_append]; exact HFm.out
        obtain ⟨pl, hpl⟩ : ∃ pl, pl = p'.length := ⟨_, rfl⟩
        have hPm2 : pl ≤ 1202 := by rw [hpl]; exact HS8.out.le
        obtain ⟨aq, haq⟩ : ∃ aq, aq = (al ++ q).length := ⟨_, rfl⟩
        rw [← hfl] at HSm
        have HFl2 := hid hfl
        have HPl2 := hid hpl
        have HAq2 := hid haq
        rw [← hfl, ← hpl, ← haq]
        clear hfl hpl haq
        have hpp : ((pl : Int) != (pl : Int)) = false := by simp
        have hff : ((fl : Int) != (fl : Int)) = false := by simp
        go_wp2_with fail
        refine HSm.out.mono ?_
        rintro e w9 ⟨rfl, hb9⟩
        have HM9 := hid (HM8.out.below hb9)
        have HS9 : Hid (Str w9 c p' fl b') := hid (by have := HS8.out.kept hb9; rw [← HFl2.out] at this; exact this)
        have HWt := hid (waits_any HS9.out)
        rw [← HPl2.out] at HWt
        have HCn := hid (count_any HS9.out)
        clear hb9 HM8 HS8 HSm
        have HBr := hid (broken_any HS9.out)
        have HE9 := hid (HE.out.below HM9.out.low)
        go_wp2_with fail
        refine HWt.out.mono ?_
        rintro e w10 ⟨rfl, rfl⟩
        go_wp2_with fail
        refine HBr.out.mono ?_
        rintro e w10 ⟨rfl, rfl⟩
        have HI9 : Hid (FeedsI a w w9 c (al ++ q) (.slice adA' aq capA') (.slice adG fl capG) (L ++ F) (xs ++ ys) pl b') := hid (by
          rw [HFl2.out, HPl2.out, HAq2.out]
          refine ⟨HM9.out, HCu.out, ?_, HBq.out, HE9.out⟩
          have := HS9.out
          rw [HFl2.out] at this
          have hr := HRe.out
          rw [← hr]
          exact this)
        have HAm2 := HAm
        clear HM9 HS9 HCu HRe HBq HAm
        cases b' with
        | true =>
          obtain rfl : ev = .iface 82 (.pointer (some (a 3))) := HEv.out
          have HNm : Hid (Calls Tryd.prog 12 #[.iface 82 (.pointer (some (a 3)))] w9 fun e w' => e = .returned (.int .i64 4) ∧ Below w9.heap.size w9 w') := hid (num_err a 3 (by omega) _ HE9.out)
          clear HEv
          go_wp2_with fail
          refine HCn.out.mono ?_
          rintro e w10 ⟨rfl, rfl⟩
          go_wp2_with fail
          refine HNm.out.mono ?_
          rintro e w10 ⟨rfl, hb10⟩
          have HI10 := hid (HI9.out.below hb10)
          clear hb10 HI9 HNm
          go_wp2
          go_roundg (N - (k + 1))
          case measure => omega
          case rel => exact ⟨k + 1, al ++ q, L ++ F, xs ++ ys, pl, true, by omega, rfl, by go_num, HI10, HAm2⟩
        | false =>
          obtain rfl : ev = .nilIface := HEv.out
          clear HEv
          go_wp2_with fail
          refine HCn.out.mono ?_
          rintro e w10 ⟨rfl, rfl⟩
          go_wp2_with fail
          refine (num_nil _).mono ?_
          rintro e w10 ⟨rfl, rfl⟩
          go_wp2
          go_roundg (N - (k + 1))
          case measure => omega
          case rel => exact ⟨k + 1, al ++ q, L ++ F, xs ++ ys, pl, false, by omega, rfl, by go_num, HI9, HAm2⟩
    · obtain rfl : k = N := by omega
      go_wp2
      go_ret
      exact ⟨rfl, HI.out.mid.low⟩
end
end Go.Proofs.YtkpjdjenlmodnaaDoor
