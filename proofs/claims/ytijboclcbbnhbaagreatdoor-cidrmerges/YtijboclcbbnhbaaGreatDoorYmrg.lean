/-
  cidr.Merge.
-/
import Derived.Test.YtijboclcbbnhbaaGreatDoorYcov
import Derived.Test.YtijboclcbbnhbaaGreatDoorYsrt
namespace Go.Proofs.YtijboclcbbnhbaaGreatDoor
open Go.RowKit Go.Shelf Go.Lib Go.Sort

/-- What stays while cidr.Merge goes through the sorted ones: all but the block of the list that grows. -/
structure MK (n3 Bm : Nat) (w w3 wr : World) : Prop where
  low : Below w.heap.size w wr
  rest : ∀ i, i < n3 → i ≠ Bm → wr.heap[i]? = w3.heap[i]?
  size : n3 ≤ wr.heap.size
theorem MK.step {n3 Bm : Nat} {w w3 wr wr' : World} (h : MK n3 Bm w w3 wr) (hb : Below wr.heap.size wr wr') : MK n3 Bm w w3 wr' :=
  ⟨bel2 h.low hb, fun i h1 h2 => (hb.block i (Nat.lt_of_lt_of_le h1 h.size)).trans (h.rest i h1 h2), Nat.le_trans h.size hb.size⟩
theorem MK.grown {n3 Bm : Nat} {w w3 wr wr' : World} {row : Option Nat} (h : MK n3 Bm w w3 wr) (hg : wr.grownBy wr' row) (hr : ∀ k, row = some k → n3 ≤ k) (hn : w.heap.size ≤ n3) : MK n3 Bm w w3 wr' :=
  ⟨h.low.grown hg h.low.size (fun k e => Nat.le_trans hn (hr k e)), fun i h1 h2 => (hg.block i (Nat.lt_of_lt_of_le h1 h.size) (fun e => by have := hr i e.symm; omega)).trans (h.rest i h1 h2), Nat.le_trans h.size hg.size⟩
theorem MK.set {n3 Bm : Nat} {w w3 wr : World} (h : MK n3 Bm w w3 wr) (hB : w.heap.size ≤ Bm) (v : Value) : MK n3 Bm w w3 (wr.setCell ⟨Bm, 0, none⟩ v) :=
  ⟨h.low.setCell (p := ⟨Bm, 0, none⟩) hB v, fun i h1 h2 => (Below.heap_setCell wr ⟨Bm, 0, none⟩ v i (fun e => h2 e)).trans (h.rest i h1 h2), by simpa [World.setCell] using h.size⟩

/-- The list that grows: its variable, and its own row. -/
structure MS (n3 Bm : Nat) (wr : World) (ad : Option Addr) (cap : Nat) (m : List CS) : Prop where
  var : Blk wr Bm 22 #[.slice ad m.length cap]
  row : wr.ownsRow n3 29 18 (.slice ad m.length cap) m.length (flatY encA m)
theorem MS.step {n3 Bm : Nat} {wr wr' : World} {ad : Option Addr} {cap : Nat} {m : List CS} (h : MS n3 Bm wr ad cap m) (hb : Below wr.heap.size wr wr') : MS n3 Bm wr' ad cap m := ⟨h.var.kept hb, ownsRow_below h.row hb⟩
theorem MS.cell {n3 Bm : Nat} {wr : World} {ad : Option Addr} {cap : Nat} {m : List CS} (h : MS n3 Bm wr ad cap m) : wr.cell? ⟨Bm, 0, none⟩ = some (.slice ad m.length cap) := h.var.cell 0
theorem MS.frozen {n3 Bm : Nat} {wr : World} {ad : Option Addr} {cap : Nat} {m : List CS} (h : MS n3 Bm wr ad cap m) : wr.frozen? ⟨Bm, 0, none⟩ = false := h.var.frozen 0

def kept (xs : List CS) : List CS := xs.foldl (keepStep covS rightS) []
theorem keep_def (m : List CS) (x : CS) : keepStep covS rightS m x = if rightS x && !lastCov m x then m ++ [x] else m := by
  unfold keepStep lastCov
  cases m.getLast? <;> rfl
theorem keep_len (m : List CS) (x : CS) : (keepStep covS rightS m x).length ≤ m.length + 1 := by
  rw [keep_def]
  split
  · simp
  · omega
theorem kept_len : ∀ (xs m : List CS), (xs.foldl (keepStep covS rightS) m).length ≤ m.length + xs.length
  | [], m => by simp
  | x :: xs, m => by
    have h1 := kept_len xs (keepStep covS rightS m x)
    have h2 := keep_len m x
    rw [List.foldl_cons, List.length_cons]
    omega
theorem kept_take (xs : List CS) (k : Nat) (hk : k < xs.length) : kept (xs.take (k + 1)) = keepStep covS rightS (kept (xs.take k)) xs[k] := by
  unfold kept
  rw [List.take_succ_eq_append_getElem hk, List.foldl_append]
  rfl
theorem keep_no {m : List CS} {x : CS} (h : rightS x = false) : keepStep covS rightS m x = m := by rw [keep_def, h]; rfl
theorem keep_cov {m : List CS} {x : CS} (h : lastCov m x = true) : keepStep covS rightS m x = m := by rw [keep_def, h]; simp
theorem keep_yes {m : List CS} {x : CS} (h1 : rightS x = true) (h : lastCov m x = false) : keepStep covS rightS m x = m ++ [x] := by rw [keep_def, h, h1]; rfl
theorem MS.var_grown {n3 Bm : Nat} {wr wr' : World} {ad : Option Addr} {cap : Nat} {m : List CS} (h : MS n3 Bm wr ad cap m) (hn : Bm < n3) (hg : wr.grownBy wr' (Value.slice ad m.length cap).ownBlock) : Blk wr' Bm 22 #[.slice ad m.length cap] := by
  unfold Blk
  rw [hg.block Bm h.var.lt (fun e => by have := own_block_le h.row e.symm; omega)]
  exact h.var


set_option maxRecDepth 100000 in
set_option maxHeartbeats 8000000 in
theorem cmerge_any (ad : Option Addr) (cap : Nat) (xs : List CS) (hcap : xs.length ≤ cap) (hm : xs.length ≤ 1000) (w : World) (hE : CEnv w) (hI : Elems encA 18 w.heap.size w ad xs) :
    Calls Tryz.prog 5 #[.slice ad xs.length cap] w (CollEnd (kept (csort xs)) encA w) := by
  obtain ⟨W1, hW1⟩ : ∃ W, W = w.alloc (.cells #[.slice none 0 0] 22) := ⟨_, rfl⟩
  obtain ⟨W2, hW2⟩ : ∃ W, W = W1.alloc (.cells #[.slice ad xs.length cap] 22) := ⟨_, rfl⟩
  have hb1 : Below w.heap.size w W1 := hW1 ▸ (Below.refl _ _).alloc (Nat.le_refl _) _
  have hs1 : W1.heap.size = w.heap.size + 1 := by rw [hW1]; exact World.size_alloc _ _
  have hB1 : Blk W1 w.heap.size 22 #[.slice none 0 0] := hW1 ▸ Blk.new w _ _
  have hb2 : Below W1.heap.size W1 W2 := hW2 ▸ (Below.refl _ _).alloc (Nat.le_refl _) _
  have hs2 : W2.heap.size = w.heap.size + 2 := by rw [hW2, World.size_alloc, hs1]
  have hB2 : Blk W2 w.heap.size 22 #[.slice none 0 0] := hB1.kept hb2
  have hc2 : W2.cell? ⟨W1.heap.size, 0, none⟩ = some (.slice ad xs.length cap) := by rw [hW2]; exact (Blk.new W1 _ _).cell 0
  have hbw2 : Below w.heap.size w W2 := bel2 hb1 hb2
  have HV := hid (values_any ad xs.length cap W1)
  have HS := hid (sorted_any W1.heap.size cap ad xs hcap (by omega) W2 (by omega) hc2 ((hI.below hbw2).mono hbw2.size))
  have HW1 := hid hW1.symm
  have HW2 := hid hW2.symm
  have HB2 := hid hB2
  have Hbw2 := hid hbw2
  have Hs2 := hid hs2
  have HE := hid hE
  have Hlen : Hid ((csort xs).length = xs.length) := hid (csort_length xs)
  have Hm := hid hm
  rw [show W1.heap.size = w.heap.size + 1 from hs1] at HS HV
  clear hW1 hW2 hb1 hs1 hB1 hb2 hs2 hB2 hc2 hbw2 hE hI hcap hm
  go_enter Tryz.func5, Tryz.ntmps5
  go_upto_region 3 with fail
  rw [HW1.out]
  go_wp2_with fail
  refine HV.out.mono ?_
  rintro e w2 ⟨rfl, rfl⟩
  rw [HW2.out]
  go_wp2_with fail
  refine HS.out.mono ?_
  rintro e w3 ⟨v, rfl, ho, hb⟩
  obtain ⟨hlS, adS, capS, rfl, hkS, _, hnS, hES⟩ := own_elems ho
  have hgS : ∀ g o, adS = some ⟨g, o, none⟩ → w.heap.size + 2 ≤ g := fun g o e => by
    have := own_block_le ho (g := g) (by rw [e]; rfl)
    have := Hs2.out
    omega
  obtain ⟨srt, hsrt⟩ : ∃ srt, srt = csort xs := ⟨_, rfl⟩
  obtain ⟨n, hn⟩ : ∃ n, n = srt.length := ⟨_, rfl⟩
  rw [← hsrt] at hlS hkS hnS hES ho ⊢
  rw [← hn] at hlS hkS hnS ho ⊢
  have hn1 : n ≤ 1000 := by have := Hlen.out; have := Hm.out; rw [hn, hsrt]; omega
  have Hn := hid hn
  have HSr := hid hsrt
  have HES := hid hES
  have HgS := hid hgS
  have H3 : Hid (w.heap.size < w3.heap.size ∧ w.heap.size + 2 ≤ w3.heap.size ∧ Blk w3 w.heap.size 22 #[.slice none 0 0]) := hid ⟨by have := hb.size; have := Hs2.out; omega, by have := hb.size; have := Hs2.out; omega, HB2.out.kept hb⟩
  have Hb3 : Hid (Below w.heap.size w w3) := hid (bel2 Hbw2.out hb)
  clear ho hb HS HV HW1 HW2 HB2 Hbw2 Hs2 hn hsrt hES hgS hlS Hlen Hm hnS
  go_wp2
  go_loopg [12] n (fun g s12 wr => ∃ (p cm : Nat) (am : Option Addr) (m : List CS), s12 = .int .i64 (p : Int) ∧ p ≤ n ∧ n - p ≤ g ∧ Hid (MK w3.heap.size w.heap.size w w3 wr) ∧ Hid (MS w3.heap.size w.heap.size wr am cm m) ∧ Hid (m = kept (srt.take p) ∧ m.length ≤ p))
  case atStart => exact ⟨0, 0, none, [], rfl, by omega, by omega, hid ⟨Hb3.out, fun _ _ _ => rfl, Nat.le_refl _⟩, hid ⟨H3.out.2.2, World.ownsRow_nil _ _ _ _⟩, hid ⟨rfl, Nat.zero_le _⟩⟩
  case round =>
    obtain ⟨p, cm, am, m, rfl, hp, hgp, HK, HM, HF⟩ := hrel
    by_cases hlt : p < n
    · have hpx : p < srt.length := by have := Hn.out; omega
      obtain ⟨g0, o0, rfl, hg0, hr0⟩ := HES.out p hpx
      obtain ⟨x, hx⟩ : ∃ x, x = srt[p] := ⟨_, rfl⟩
      have HX : Hid (wr.rangeAt g0 (o0 + p * 18) (encC x)) := hid (fun j v hj => (World.cell?_of_block (a := ⟨g0, o0 + p * 18 + j, none⟩) (HK.out.rest g0 hg0 (by have := HgS.out g0 o0 rfl; omega))).trans (by rw [hx] at hj; exact hr0 j v hj))
      have HT : Hid (kept (srt.take (p + 1)) = keepStep covS rightS m x) := hid (by rw [kept_take srt p hpx, HF.out.1, hx])
      obtain ⟨V, hV⟩ : ∃ V, V = wr.alloc (.cells (encA x) 29) := ⟨_, rfl⟩
      have hbV : Below wr.heap.size wr V := hV ▸ (Below.refl _ _).alloc (Nat.le_refl _) _
      have HV := hid hV.symm
      have HKV := hid (HK.out.step hbV)
      have HMV := hid (HM.out.step hbV)
      have HBV : Hid (Blk V wr.heap.size 29 (encA x)) := hid (hV ▸ Blk.new wr _ _)
      have HR : Hid (Calls Tryz.prog 18 #[.agg (encA x)] V fun e w' => e = .returned (.bool (rightS x)) ∧ Below V.heap.size V w') := hid (cright_s x V (HE.out.kept HKV.out.low))
      obtain ⟨g6, hg6⟩ : ∃ g6, g6 = wr.heap.size := ⟨_, rfl⟩
      rw [← hg6] at HBV
      clear hx hr0 hV hbV
      have L : Hid (wr.heap.size = g6) := hid hg6.symm
      clear hg6
      by_cases hr : rightS x = true
      · rw [hr] at HR
        have Hr := hid hr
        clear hr
        go_wp2_with (first
          | ((show wpList _ _ _ (⟨some 15, _, _, _, _, _⟩ :: _) _ _); go_must (refine wpl_loadC (.tmp 14) rfl g0 (o0 + p * 18) rfl x HX.out rfl ?_))
          | ((show wpList _ _ _ (⟨none, _, _, _, _, _⟩ :: _) _ _); go_must (refine wpl_storeN (.tmp 6) (.tmp 15) rfl _ rfl rfl x rfl rfl ?_; rw [HV.out, L.out]))
          | ((show wpList _ _ _ (⟨some 16, _, _, _, _, _⟩ :: _) _ _); go_must (refine wpl_loadB (.tmp 6) rfl g6 rfl x HBV.out rfl ?_)))
        refine HR.out.mono ?_
        rintro e w4 ⟨rfl, hb4⟩
        have HK4 := hid (HKV.out.step hb4)
        have HM4 := hid (HMV.out.step hb4)
        have HB4 := hid (HBV.out.kept hb4)
        clear hb4
        have HC : Hid (Calls Tryz.prog 13 #[.agg (encA x), .pointer (some ⟨w.heap.size, 0, none⟩)] w4 fun e w' => e = .returned (.bool (lastCov m x)) ∧ Below w4.heap.size w4 w') := hid (by
          obtain ⟨_, adm', capm', e1, hk1, _, _, hE1⟩ := own_elems HM4.out.row
          cases e1
          exact covered_any w.heap.size am cm m hk1 (by have := HF.out.2; omega) x w4 (HE.out.kept HK4.out.low) HM4.out.cell HM4.out.var.lt hE1)
        by_cases hc : lastCov m x = true
        · rw [hc] at HC
          have HF2 : Hid (m = kept (srt.take (p + 1)) ∧ m.length ≤ p + 1) := hid ⟨by rw [HT.out, keep_cov hc], by have := HF.out.2; omega⟩
          clear hc
          go_wp2_with ((show wpList _ _ _ (⟨some 20, _, _, _, _, _⟩ :: _) _ _); go_must (refine wpl_loadB (.tmp 6) rfl g6 rfl x HB4.out rfl ?_))
          refine HC.out.mono ?_
          rintro e w5 ⟨rfl, hb5⟩
          have HK5 := hid (HK4.out.step hb5)
          have HM5 := hid (HM4.out.step hb5)
          clear hb5
          go_wp2
          go_roundg (n - (p + 1))
          case measure => omega
          case rel => exact ⟨p + 1, cm, am, m, by go_num, by omega, Nat.le_refl _, HK5, HM5, HF2⟩
        · have hc : lastCov m x = false := by simpa using hc
          rw [hc] at HC
          have HF2 : Hid (m ++ [x] = kept (srt.take (p + 1)) ∧ (m ++ [x]).length ≤ p + 1) := hid ⟨by rw [HT.out, keep_yes Hr.out hc], by have := HF.out.2; simp; omega⟩
          clear hc
          go_wp2_with ((show wpList _ _ _ (⟨some 20, _, _, _, _, _⟩ :: _) _ _); go_must (refine wpl_loadB (.tmp 6) rfl g6 rfl x HB4.out rfl ?_))
          refine HC.out.mono ?_
          rintro e w5 ⟨rfl, hb5⟩
          have HK5 := hid (HK4.out.step hb5)
          have HM5 := hid (HM4.out.step hb5)
          have HB5 := hid (HB4.out.kept hb5)
          obtain ⟨V5, hV5⟩ : ∃ V, V = w5.alloc (.cells (encA x) 29) := ⟨_, rfl⟩
          have hb6 : Below w5.heap.size w5 V5 := hV5 ▸ (Below.refl _ _).alloc (Nat.le_refl _) _
          have HK6 := hid (HK5.out.step hb6)
          have HM6 := hid (HM5.out.step hb6)
          have HEx : Hid (Elems encA 18 (w5.heap.size + 1) V5 (some ⟨w5.heap.size, 0, none⟩) [x]) := hid (hV5 ▸ elems_one w5 x _)
          have HV5 := hid hV5.symm
          have hcell := HM5.out.cell
          have hl1 : m.length ≤ 1000 := by have := HF.out.2; omega
          clear hb5 hb6 hV5
          go_wp2_with (first
            | ((show wpList _ _ _ (⟨some 25, _, _, _, _, _⟩ :: _) _ _); go_must (refine wpl_loadB (.tmp 6) rfl g6 rfl x HB5.out rfl ?_))
            | ((show wpList _ _ _ (⟨some 26, _, _, _, _, _⟩ :: _) _ _); go_must (refine wpl_lit1 (.tmp 25) rfl x rfl rfl ?_; rw [HV5.out]))
            | ((show wpList _ _ _ (⟨some 27, _, _, _, _, _⟩ :: _) _ _); go_must (refine wpl_appY (.tmp 24) (.tmp 26) rfl w3.heap.size _ m.length _ rfl HM6.out.row (some ⟨w5.heap.size, 0, none⟩) 1 1 [x] rfl rfl _ HEx.out (fun h => by cases h) (by omega) HK6.out.size rfl ?_; intro v7 w7 ho7 hg7; obtain ⟨g7, c7, rfl⟩ := ownsRow_succ ho7; have hB7 := HM6.out.var_grown H3.out.1 hg7; have hc7 := hB7.cell 0; have hf7 := hB7.frozen 0)))
          have HF7 : Hid (MK w3.heap.size w.heap.size w w3 (w7.setCell ⟨w.heap.size, 0, none⟩ (.slice (some ⟨g7, 0, none⟩) (m.length + 1) c7)) ∧ MS w3.heap.size w.heap.size (w7.setCell ⟨w.heap.size, 0, none⟩ (.slice (some ⟨g7, 0, none⟩) (m.length + 1) c7)) (some ⟨g7, 0, none⟩) c7 (m ++ [x])) := hid ⟨(HK6.out.grown hg7 (fun k e => own_block_le HM6.out.row e) (Nat.le_of_lt H3.out.1)).set (Nat.le_refl _) _, by
              have := hB7.set 0 (.slice (some ⟨g7, 0, none⟩) (m.length + 1) c7)
              rw [List.length_append]
              exact this, by
              rw [List.length_append, flat_append]
              exact ownsRow_setCell_below ho7 H3.out.1 _⟩
          clear ho7 hg7 hB7
          go_wp2
          go_roundg (n - (p + 1))
          case measure => omega
          case rel => exact ⟨p + 1, c7, some ⟨g7, 0, none⟩, m ++ [x], by go_num, by omega, Nat.le_refl _, hid HF7.out.1, hid HF7.out.2, HF2⟩
      · have hr : rightS x = false := by simpa using hr
        rw [hr] at HR
        have HF2 : Hid (m = kept (srt.take (p + 1)) ∧ m.length ≤ p + 1) := hid ⟨by rw [HT.out, keep_no hr], by have := HF.out.2; omega⟩
        clear hr
        go_wp2_with (first
          | ((show wpList _ _ _ (⟨some 15, _, _, _, _, _⟩ :: _) _ _); go_must (refine wpl_loadC (.tmp 14) rfl g0 (o0 + p * 18) rfl x HX.out rfl ?_))
          | ((show wpList _ _ _ (⟨none, _, _, _, _, _⟩ :: _) _ _); go_must (refine wpl_storeN (.tmp 6) (.tmp 15) rfl _ rfl rfl x rfl rfl ?_; rw [HV.out, L.out]))
          | ((show wpList _ _ _ (⟨some 16, _, _, _, _, _⟩ :: _) _ _); go_must (refine wpl_loadB (.tmp 6) rfl g6 rfl x HBV.out rfl ?_)))
        refine HR.out.mono ?_
        rintro e w4 ⟨rfl, hb4⟩
        have HK4 := hid (HKV.out.step hb4)
        have HM4 := hid (HMV.out.step hb4)
        have HB4 := hid (HBV.out.kept hb4)
        clear hb4
        go_wp2
        go_roundg (n - (p + 1))
        case measure => omega
        case rel => exact ⟨p + 1, cm, am, m, by go_num, by omega, Nat.le_refl _, HK4, HM4, HF2⟩
    · obtain rfl : p = n := by omega
      have F : Hid (CollEnd (kept (csort xs)) encA w (.returned (.slice am m.length cm)) wr) := hid (by
        rw [← HSr.out]
        have e : kept srt = m := by rw [HF.out.1, List.take_of_length_le (by have := Hn.out; omega)]
        rw [e]
        exact ⟨_, rfl, ownsRow_mono HM.out.row (Nat.le_of_lt H3.out.1), HK.out.low⟩)
      have hcell := HM.out.cell
      go_wp2
      go_ret
      exact F.out
end Go.Proofs.YtijboclcbbnhbaaGreatDoor
