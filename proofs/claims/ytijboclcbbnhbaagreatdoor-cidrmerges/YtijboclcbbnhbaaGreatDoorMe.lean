/-
  cidr.Merge.
  The document's Merge of cidrs.
-/
import Derived.Test.YtijboclcbbnhbaaGreatDoorMd
import Derived.Test.YtijboclcbbnhbaaGreatDoorMc
namespace Go.Proofs.YtijboclcbbnhbaaGreatDoor
open Go.RowKit Go.Shelf Go.Lib Go.Sort

/-- What stays while cidr.Merge goes through the sorted ones: all but the block of the list that grows. -/
structure MK (n3 Bm : Nat) (w w3 wr : World) : Prop where
  low : Below w.heap.size w wr
  rest : ∀ i, i < n3 → i ≠ Bm → wr.heap[i]? = w3.heap[i]?
  size : n3 ≤ wr.heap.size
theorem MK.step {n3 Bm : Nat} {w w3 wr wr' : World} (h : MK n3 Bm w w3 wr) (hb : Below wr.heap.size wr wr') : MK n3 Bm w w3 wr' :=
  ⟨bel2 h.low hb, fun i h1 h2 => (hb.block i (Nat.lt_of_lt_of_le h1 h.size)).trans (h.rest i h1 h2), Nat.le_trans h.size hb.size⟩
theorem MK.grown {n3 Bm : Nat} {w w3 wr wr' : World} {row : Option Nat} (h : MK n3 Bm w w3 wr) (hg : wr.grownBy wr' row) (hr : ∀ k, row = some k → n3 ≤ k) (hn : w.heap.size ≤ n3) : MK n3 Bm w w3 wr' :=
  ⟨h.low.grown hg h.low.size (fun k e => Nat.le_trans hn (hr k e)), fun i h1 h2 => (hg.block i (Nat.lt_of_lt_of_le h1 h.size) (fun e => by have := hr i e.symm; omega)).trans (h.rest i h1 h2), Nat.le_trans h.size hg.size⟩
theorem MK.set {n3 Bm : Nat} {w w3 wr : World} (h : MK n3 Bm w w3 wr) (hB : w.heap.size ≤ Bm) (v : Value) : MK n3 Bm w w3 (wr.setCell ⟨Bm, 0, none⟩ v) :=
  ⟨h.low.setCell (p := ⟨Bm, 0, none⟩) hB v, fun i h1 h2 => (Below.heap_setCell wr ⟨Bm, 0, none⟩ v i (fun e => h2 e)).trans (h.rest i h1 h2), by simpa [World.setCell] using h.size⟩

/-- The list that grows: its variable, and its own row. -/
structure MS (n3 Bm : Nat) (wr : World) (ad : Option Addr) (cap : Nat) (m : List CS) : Prop where
  var : Blk wr Bm 22 #[.slice ad m.length cap]
  row : wr.ownsRow n3 29 18 (.slice ad m.length cap) m.length (flatY encA m)
theorem MS.step {n3 Bm : Nat} {wr wr' : World} {ad : Option Addr} {cap : Nat} {m : List CS} (h : MS n3 Bm wr ad cap m) (hb : Below wr.heap.size wr wr') : MS n3 Bm wr' ad cap m := ⟨h.var.kept hb, ownsRow_below h.row hb⟩
theorem MS.cell {n3 Bm : Nat} {wr : World} {ad : Option Addr} {cap : Nat} {m : List CS} (h : MS n3 Bm wr ad cap m) : wr.cell? ⟨Bm, 0, none⟩ = some (.slice ad m.length cap) := h.var.cell 0
theorem MS.frozen {n3 Bm : Nat} {wr : World} {ad : Option Addr} {cap : Nat} {m : List CS} (h : MS n3 Bm wr ad cap m) : wr.frozen? ⟨Bm, 0, none⟩ = false := h.var.frozen 0

def kept (xs : List CS) : List CS := xs.foldl (keepStep covS rightS) []
theorem keep_def (m : List CS) (x : CS) : keepStep covS rightS m x = if rightS x && !lastCov m x then m ++ [x] else m := by
  unfold keepStep lastCov
  cases m.getLast? <;> rfl
theorem keep_len (m : List CS) (x : CS) : (keepStep covS rightS m x).length ≤ m.length + 1 := by
  rw [keep_def]
  split
  · simp
  · omega
theorem kept_len : ∀ (xs m : List CS), (xs.foldl (keepStep covS rightS) m).length ≤ m.length + xs.length
  | [], m => by simp
  | x :: xs, m => by
    have h1 := kept_len xs (keepStep covS rightS m x)
    have h2 := keep_len m x
    rw [List.foldl_cons, List.length_cons]
    omega
theorem kept_take (xs : List CS) (k : Nat) (hk : k < xs.length) : kept (xs.take (k + 1)) = keepStep covS rightS (kept (xs.take k)) xs[k] := by
  unfold kept
  rw [List.take_succ_eq_append_getElem hk, List.foldl_append]
  rfl
theorem keep_no {m : List CS} {x : CS} (h : rightS x = false) : keepStep covS rightS m x = m := by rw [keep_def, h]; rfl
theorem keep_cov {m : List CS} {x : CS} (h : lastCov m x = true) : keepStep covS rightS m x = m := by rw [keep_def, h]; simp
theorem keep_yes {m : List CS} {x : CS} (h1 : rightS x = true) (h : lastCov m x = false) : keepStep covS rightS m x = m ++ [x] := by rw [keep_def, h, h1]; rfl
theorem MS.var_grown {n3 Bm : Nat} {wr wr' : World} {ad : Option Addr} {cap : Nat} {m : List CS} (h : MS n3 Bm wr ad cap m) (hn : Bm < n3) (hg : wr.grownBy wr' (Value.slice ad m.length cap).ownBlock) : Blk wr' Bm 22 #[.slice ad m.length cap] := by
  unfold Blk
  rw [hg.block Bm h.var.lt (fun e => by have := own_block_le h.row e.symm; omega)]
  exact h.var


set_option maxRecDepth 100000 in
set_option maxHeartbeats 8000000 in
theorem cmerge_any (ad : Option Addr) (cap : Nat) (xs : List CS) (hcap : xs.length ≤ cap) (hm : xs.length ≤ 1000) (w : World) (hE : CEnv w) (hI : Elems encA 18 w.heap.size w ad xs) :
    Calls Tryz.prog 5 #[.slice ad xs.length cap] w (CollEnd (kept (csort xs)) encA w) := by
  obtain ⟨W1, hW1⟩ : ∃ W, W = w.alloc (.cells #[.slice none 0 0] 22) := ⟨_, rfl⟩
  obtain ⟨W2, hW2⟩ : ∃ W, W = W1.alloc (.cells #[.slice ad xs.length cap] 22) := ⟨_, rfl⟩
  have hb1 : Below w.heap.size w W1 := hW1 ▸ (Below.refl _ _).alloc (Nat.le_refl _) _
  have hs1 : W1.heap.size = w.heap.size + 1 := by rw [hW1]; exact World.size_alloc _ _
  have hB1 : Blk W1 w.heap.size 22 #[.slice none 0 0] := hW1 ▸ Blk.new w _ _
  have hb2 : Below W1.heap.size W1 W2 := hW2 ▸ (Below.refl _ _).alloc (Nat.le_refl _) _
  have hs2 : W2.heap.size = w.heap.size + 2 := by rw [hW2, World.size_alloc, hs1]
  have hB2 : Blk W2 w.heap.size 22 #[.slice none 0 0] := hB1.kept hb2
  have hc2 : W2.cell? ⟨W1.heap.size, 0, none⟩ = some (.slice ad xs.length cap) := by rw [hW2]; exact (Blk.new W1 _ _).cell 0
  have hbw2 : Below w.heap.size w W2 := bel2 hb1 hb2
  have HV := hid (values_any ad xs.length cap W1)
  have HS := hid (sorted_any W1.heap.size cap ad xs hcap (by omega) W2 (by omega) hc2 ((hI.below hbw2).mono hbw2.size))
  have HW1 := hid hW1.symm
  have HW2 := hid hW2.symm
  have HB2 := hid hB2
  have Hbw2 := hid hbw2
  have Hs2 := hid hs2
  have HE := hid hE
  have Hlen : Hid ((csort xs).length = xs.length) := hid (csort_length xs)
  have Hm := hid hm
  rw [show W1.heap.size = w.heap.size + 1 from hs1] at HS HV
  clear hW1 hW2 hb1 hs1 hB1 hb2 hs2 hB2 hc2 hbw2 hE hI hcap hm
  go_enter Tryz.func5, Tryz.ntmps5
  go_upto_region 3 with fail
  rw [HW1.out]
  go_wp2_with fail
  refine HV.out.mono ?_
  rintro e w2 ⟨rfl, rfl⟩
  rw [HW2.out]
  go_wp2_with fail
  refine HS.out.mono ?_
  rintro e w3 ⟨v, rfl, ho, hb⟩
  obtain ⟨hlS, adS, capS, rfl, hkS, _, hnS, hES⟩ := own_elems ho
  have hgS : ∀ g o, adS = some ⟨g, o, none⟩ → w.heap.size + 2 ≤ g := fun g o e => by
    have := own_block_le ho (g := g) (by rw [e]; rfl)
    have := Hs2.out
    omega
  obtain ⟨srt, hsrt⟩ : ∃ srt, srt = csort xs := ⟨_, rfl⟩
  obtain ⟨n, hn⟩ : ∃ n, n = srt.length := ⟨_, rfl⟩
  rw [← hsrt] at hlS hkS hnS hES ho ⊢
  rw [← hn] at hlS hkS hnS ho ⊢
  have hn1 : n ≤ 1000 := by have := Hlen.out; have := Hm.out; rw [hn, hsrt]; omega
  have Hn := hid hn
  have HSr := hid hsrt
  have HES := hid hES
  have HgS := hid hgS
  have H3 : Hid (w.heap.size < w3.heap.size ∧ w.heap.size + 2 ≤ w3.heap.size ∧ Blk w3 w.heap.size 22 #[.slice none 0 0]) := hid ⟨by have := hb.size; have := Hs2.out; omega, by have := hb.size; have := Hs2.out; omega, HB2.out.kept hb⟩
  have Hb3 : Hid (Below w.heap.size w w3) := hid (bel2 Hbw2.out hb)
  clear ho hb HS HV HW1 HW2 HB2 Hbw2 Hs2 hn hsrt hES hgS hlS Hlen Hm hnS
  go_wp2
  go_loopg [12] n (fun g s12 wr => ∃ (p cm : Nat) (am : Option Addr) (m : List CS), s12 = .int .i64 (p : Int) ∧ p ≤ n ∧ n - p ≤ g ∧ Hid (MK w3.heap.size w.heap.size w w3 wr) ∧ Hid (MS w3.heap.size w.heap.size wr am cm m) ∧ Hid (m = kept (srt.take p) ∧ m.length ≤ p))
  case atStart => exact ⟨0, 0, none, [], rfl, by omega, by omega, hid ⟨Hb3.out, fun _ _ _ => rfl, Nat.le_refl _⟩, hid ⟨H3.out.2.2, World.ownsRow_nil _ _ _ _⟩, hid ⟨rfl, Nat.zero_le _⟩⟩
  case round =>
    obtain ⟨p, cm, am, m, rfl, hp, hgp, HK, HM, HF⟩ := hrel
    by_cases hlt : p < n
    · have hpx : p < srt.length := by have := Hn.out; omega
      obtain ⟨g0, o0, rfl, hg0, hr0⟩ := HES.out p hpx
      obtain ⟨x, hx⟩ : ∃ x, x = srt[p] := ⟨_, rfl⟩
      have HX : Hid (wr.rangeAt g0 (o0 + p * 18) (encC x)) := hid (fun j v hj => (World.cell?_of_block (a := ⟨g0, o0 + p * 18 + j, none⟩) (HK.out.rest g0 hg0 (by have := HgS.out g0 o0 rfl; omega))).trans (by rw [hx] at hj; exact hr0 j v hj))
      have HT : Hid (kept (srt.take (p + 1)) = keepStep covS rightS m x) := hid (by rw [kept_take srt p hpx, HF.out.1, hx])
      obtain ⟨V, hV⟩ : ∃ V, V = wr.alloc (.cells (encA x) 29) := ⟨_, rfl⟩
      have hbV : Below wr.heap.size wr V := hV ▸ (Below.refl _ _).alloc (Nat.le_refl _) _
      have HV := hid hV.symm
      have HKV := hid (HK.out.step hbV)
      have HMV := hid (HM.out.step hbV)
      have HBV : Hid (Blk V wr.heap.size 29 (encA x)) := hid (hV ▸ Blk.new wr _ _)
      have HR : Hid (Calls Tryz.prog 18 #[.agg (encA x)] V fun e w' => e = .returned (.bool (rightS x)) ∧ Below V.heap.size V w') := hid (cright_s x V (HE.out.kept HKV.out.low))
      obtain ⟨g6, hg6⟩ : ∃ g6, g6 = wr.heap.size := ⟨_, rfl⟩
      rw [← hg6] at HBV
      clear hx hr0 hV hbV
      have L : Hid (wr.heap.size = g6) := hid hg6.symm
      clear hg6
      by_cases hr : rightS x = true
      · rw [hr] at HR
        have Hr := hid hr
        clear hr
        go_wp2_with (first
          | ((show wpList _ _ _ (⟨some 15, _, _, _, _, _⟩ :: _) _ _); go_must (refine wpl_loadC (.tmp 14) rfl g0 (o0 + p * 18) rfl x HX.out rfl ?_))
          | ((show wpList _ _ _ (⟨none, _, _, _, _, _⟩ :: _) _ _); go_must (refine wpl_storeN (.tmp 6) (.tmp 15) rfl _ rfl rfl x rfl rfl ?_; rw [HV.out, L.out]))
          | ((show wpList _ _ _ (⟨some 16, _, _, _, _, _⟩ :: _) _ _); go_must (refine wpl_loadB (.tmp 6) rfl g6 rfl x HBV.out rfl ?_)))
        refine HR.out.mono ?_
        rintro e w4 ⟨rfl, hb4⟩
        have HK4 := hid (HKV.out.step hb4)
        have HM4 := hid (HMV.out.step hb4)
        have HB4 := hid (HBV.out.kept hb4)
        clear hb4
        have HC : Hid (Calls Tryz.prog 13 #[.agg (encA x), .pointer (some ⟨w.heap.size, 0, none⟩)] w4 fun e w' => e = .returned (.bool (lastCov m x)) ∧ Below w4.heap.size w4 w') := hid (by
          obtain ⟨_, adm', capm', e1, hk1, _, _, hE1⟩ := own_elems HM4.out.row
          cases e1
          exact covered_any w.heap.size am cm m hk1 (by have := HF.out.2; omega) x w4 (HE.out.kept HK4.out.low) HM4.out.cell HM4.out.var.lt hE1)
        by_cases hc : lastCov m x = true
        · rw [hc] at HC
          have HF2 : Hid (m = kept (srt.take (p + 1)) ∧ m.length ≤ p + 1) := hid ⟨by rw [HT.out, keep_cov hc], by have := HF.out.2; omega⟩
          clear hc
          go_wp2_with ((show wpList _ _ _ (⟨some 20, _, _, _, _, _⟩ :: _) _ _); go_must (refine wpl_loadB (.tmp 6) rfl g6 rfl x HB4.out rfl ?_))
          refine HC.out.mono ?_
          rintro e w5 ⟨rfl, hb5⟩
          have HK5 := hid (HK4.out.step hb5)
          have HM5 := hid (HM4.out.step hb5)
          clear hb5
          go_wp2
          go_roundg (n - (p + 1))
          case measure => omega
          case rel => exact ⟨p + 1, cm, am, m, by go_num, by omega, Nat.le_refl _, HK5, HM5, HF2⟩
        · have hc : lastCov m x = false := by simpa using hc
          rw [hc] at HC
          have HF2 : Hid (m ++ [x] = kept (srt.take (p + 1)) ∧ (m ++ [x]).length ≤ p + 1) := hid ⟨by rw [HT.out, keep_yes Hr.out hc], by have := HF.out.2; simp; omega⟩
          clear hc
          go_wp2_with ((show wpList _ _ _ (⟨some 20, _, _, _, _, _⟩ :: _) _ _); go_must (refine wpl_loadB (.tmp 6) rfl g6 rfl x HB4.out rfl ?_))
          refine HC.out.mono ?_
          rintro e w5 ⟨rfl, hb5⟩
          have HK5 := hid (HK4.out.step hb5)
          have HM5 := hid (HM4.out.step hb5)
          have HB5 := hid (HB4.out.kept hb5)
          obtain ⟨V5, hV5⟩ : ∃ V, V = w5.alloc (.cells (encA x) 29) := ⟨_, rfl⟩
          have hb6 : Below w5.heap.size w5 V5 := hV5 ▸ (Below.refl _ _).alloc (Nat.le_refl _) _
          have HK6 := hid (HK5.out.step hb6)
          have HM6 := hid (HM5.out.step hb6)
          have HEx : Hid (Elems encA 18 (w5.heap.size + 1) V5 (some ⟨w5.heap.size, 0, none⟩) [x]) := hid (hV5 ▸ elems_one w5 x _)
          have HV5 := hid hV5.symm
          have hcell := HM5.out.cell
          have hl1 : m.length ≤ 1000 := by have := HF.out.2; omega
          clear hb5 hb6 hV5
          go_wp2_with (first
            | ((show wpList _ _ _ (⟨some 25, _, _, _, _, _⟩ :: _) _ _); go_must (refine wpl_loadB (.tmp 6) rfl g6 rfl x HB5.out rfl ?_))
            | ((show wpList _ _ _ (⟨some 26, _, _, _, _, _⟩ :: _) _ _); go_must (refine wpl_lit1 (.tmp 25) rfl x rfl rfl ?_; rw [HV5.out]))
            | ((show wpList _ _ _ (⟨some 27, _, _, _, _, _⟩ :: _) _ _); go_must (refine wpl_appY (.tmp 24) (.tmp 26) rfl w3.heap.size _ m.length _ rfl HM6.out.row (some ⟨w5.heap.size, 0, none⟩) 1 1 [x] rfl rfl _ HEx.out (fun h => by cases h) (by omega) HK6.out.size rfl ?_; intro v7 w7 ho7 hg7; obtain ⟨g7, c7, rfl⟩ := ownsRow_succ ho7; have hB7 := HM6.out.var_grown H3.out.1 hg7; have hc7 := hB7.cell 0; have hf7 := hB7.frozen 0)))
          have HF7 : Hid (MK w3.heap.size w.heap.size w w3 (w7.setCell ⟨w.heap.size, 0, none⟩ (.slice (some ⟨g7, 0, none⟩) (m.length + 1) c7)) ∧ MS w3.heap.size w.heap.size (w7.setCell ⟨w.heap.size, 0, none⟩ (.slice (some ⟨g7, 0, none⟩) (m.length + 1) c7)) (some ⟨g7, 0, none⟩) c7 (m ++ [x])) := hid ⟨(HK6.out.grown hg7 (fun k e => own_block_le HM6.out.row e) (Nat.le_of_lt H3.out.1)).set (Nat.le_refl _) _, by
              have := hB7.set 0 (.slice (some ⟨g7, 0, none⟩) (m.length + 1) c7)
              rw [List.length_append]
              exact this, by
              rw [List.length_append, flat_append]
              exact ownsRow_setCell_below ho7 H3.out.1 _⟩
          clear ho7 hg7 hB7
          go_wp2
          go_roundg (n - (p + 1))
          case measure => omega
          case rel => exact ⟨p + 1, c7, some ⟨g7, 0, none⟩, m ++ [x], by go_num, by omega, Nat.le_refl _, hid HF7.out.1, hid HF7.out.2, HF2⟩
      · have hr : rightS x = false := by simpa using hr
        rw [hr] at HR
        have HF2 : Hid (m = kept (srt.take (p + 1)) ∧ m.length ≤ p + 1) := hid ⟨by rw [HT.out, keep_no hr], by have := HF.out.2; omega⟩
        clear hr
        go_wp2_with (first
          | ((show wpList _ _ _ (⟨some 15, _, _, _, _, _⟩ :: _) _ _); go_must (refine wpl_loadC (.tmp 14) rfl g0 (o0 + p * 18) rfl x HX.out rfl ?_))
          | ((show wpList _ _ _ (⟨none, _, _, _, _, _⟩ :: _) _ _); go_must (refine wpl_storeN (.tmp 6) (.tmp 15) rfl _ rfl rfl x rfl rfl ?_; rw [HV.out, L.out]))
          | ((show wpList _ _ _ (⟨some 16, _, _, _, _, _⟩ :: _) _ _); go_must (refine wpl_loadB (.tmp 6) rfl g6 rfl x HBV.out rfl ?_)))
        refine HR.out.mono ?_
        rintro e w4 ⟨rfl, hb4⟩
        have HK4 := hid (HKV.out.step hb4)
        have HM4 := hid (HMV.out.step hb4)
        have HB4 := hid (HBV.out.kept hb4)
        clear hb4
        go_wp2
        go_roundg (n - (p + 1))
        case measure => omega
        case rel => exact ⟨p + 1, cm, am, m, by go_num, by omega, Nat.le_refl _, HK4, HM4, HF2⟩
    · obtain rfl : p = n := by omega
      have F : Hid (CollEnd (kept (csort xs)) encA w (.returned (.slice am m.length cm)) wr) := hid (by
        rw [← HSr.out]
        have e : kept srt = m := by rw [HF.out.1, List.take_of_length_le (by have := Hn.out; omega)]
        rw [e]
        exact ⟨_, rfl, ownsRow_mono HM.out.row (Nat.le_of_lt H3.out.1), HK.out.low⟩)
      have hcell := HM.out.cell
      go_wp2
      go_ret
      exact F.out
end Go.Proofs.YtijboclcbbnhbaaGreatDoor

namespace Go.Proofs.YtijboclcbbnhbaaGreatDoor
open Go.RowKit Go.Shelf Go.Lib Go.Sort

theorem neqS (y x : CS) (w : World) : (binOp .neq 29 (.agg (encA y)) (.agg (encA x))).run Tryz.prog w = .ok (.bool (decide (y ≠ x))) w := by
  unfold encA
  rw [run_neq_struct, equalIn_cid 9996 y.1.1 x.1.1 (ints y.1.2.1) (ints x.1.2.1) y.1.2.2 x.1.2.2 (by rw [ints_length, y.2.1]) (by rw [ints_length, x.2.1])]
  have e : ((y.1.1 == x.1.1 && ints y.1.2.1 == ints x.1.2.1) && y.1.2.2 == x.1.2.2) = decide (y = x) := by
    rw [Bool.eq_iff_iff]
    simp only [Bool.and_eq_true, beq_iff_eq, decide_eq_true_eq]
    constructor
    · rintro ⟨⟨h1, h2⟩, h3⟩
      exact Subtype.ext (Prod.ext h1 (Prod.ext (ints_inj h2) h3))
    · rintro rfl
      exact ⟨⟨rfl, rfl⟩, rfl⟩
  rw [e]
  by_cases h : y = x
  · simp [h]
  · simp [h]

theorem ins_at (x : CS) (rs : List CS) (m2 : Nat) (hm : m2 ≤ rs.length) (hlo : ∀ m, m + 1 = m2 → ¬ cmpS x rs[m]! < 0) (hhi : ∀ j, m2 ≤ j → j < rs.length → cmpS x rs[j]! < 0) : rs.take m2 ++ (x :: rs.drop m2) = insIn cmpS x rs := by
  have key : ∀ k, m2 ≤ k → k ≤ rs.length → insPos cmpS x rs k = m2 := by
    intro k
    induction k with
    | zero => intro h _; rw [insPos]; omega
    | succ k ih =>
      intro h1 h2
      have hk : k < rs.length := by omega
      rw [insPos, List.getElem?_eq_getElem hk]
      simp only
      by_cases e : m2 = k + 1
      · have := hlo k e.symm
        rw [getElem!_pos rs k hk] at this
        rw [if_neg this, e]
      · have := hhi k (by omega) hk
        rw [getElem!_pos rs k hk] at this
        rw [if_pos this]
        exact ih (by omega) (by omega)
  unfold insIn
  rw [key rs.length hm (Nat.le_refl _)]

/-- What the document's inner loop has found out behind q rounds. -/
def StaysTo (xs : List CS) (p : Nat) (x : CS) (q : Nat) : Prop := rightS x = true ∧ ∀ j d, xs[j]? = some d → j < q → j ≠ p → ¬ (covS d x = true ∧ (d ≠ x ∨ j < p))
theorem stays_zero (xs : List CS) (p : Nat) (x : CS) : rightS x = true ↔ StaysTo xs p x 0 := ⟨fun h => ⟨h, fun j d _ h => by omega⟩, fun h => h.1⟩
theorem stays_no {xs : List CS} {p : Nat} {x : CS} {q : Nat} (hq : q < xs.length) (hne : q ≠ p) (h : covS xs[q] x = true ∧ (xs[q] ≠ x ∨ q < p)) : false = true ↔ StaysTo xs p x (q + 1) := ⟨fun e => (by cases e), fun hs => absurd h (hs.2 q xs[q] (List.getElem?_eq_getElem hq) (by omega) hne)⟩
theorem stays_yes {xs : List CS} {p : Nat} {x : CS} {q : Nat} (hq : q < xs.length) (h : q = p ∨ ¬ (covS xs[q] x = true ∧ (xs[q] ≠ x ∨ q < p))) {b : Bool} (hb : b = true ↔ StaysTo xs p x q) : b = true ↔ StaysTo xs p x (q + 1) := by
  rw [hb]
  constructor
  · rintro ⟨h1, h2⟩
    refine ⟨h1, fun j d hj hlt hne => ?_⟩
    by_cases e : j = q
    · subst e
      rw [List.getElem?_eq_getElem hq] at hj
      cases hj
      rcases h with h | h
      · exact absurd h hne
      · exact h
    · exact h2 j d hj (by omega) hne
  · rintro ⟨h1, h2⟩
    exact ⟨h1, fun j d hj hlt hne => h2 j d hj (by omega) hne⟩
theorem stays_end {xs : List CS} {p : Nat} {x : CS} : StaysTo xs p x xs.length ↔ Stays covS rightS xs p x :=
  ⟨fun h => ⟨h.1, fun j d hj hne => h.2 j d hj (List.getElem?_eq_some_iff.1 hj).1 hne⟩, fun h => ⟨h.1, fun j d hj _ hne => h.2 j d hj hne⟩⟩

set_option maxRecDepth 100000 in
set_option maxHeartbeats 8000000 in
theorem rmerge_some (cap0 g0 o0 : Nat) (xs : List CS) (hcap : xs.length ≤ cap0) (hm : xs.length ≤ 1000) (w : World) (hg0 : g0 < w.heap.size) (hI : ∀ j (hj : j < xs.length), w.rangeAt g0 (o0 + j * 18) (encC xs[j])) :
    Calls Tryz.prog 8 #[.slice (some ⟨g0, o0, none⟩) xs.length cap0] w fun e w' => ∃ v rs, e = .returned v ∧ w'.ownsRow w.heap.size 29 18 v rs.length (flatY encA rs) ∧ Below w.heap.size w w' ∧ DocOf cmpS covS rightS xs xs.length rs := by
  obtain ⟨n, hn⟩ : ∃ n, n = xs.length := ⟨_, rfl⟩
  rw [← hn] at hcap hm ⊢
  have Hn := hid hn
  have HI := hid hI
  clear hn hI
  obtain ⟨W0, hW0⟩ : ∃ W, W = w.alloc (.cells #[] 29) := ⟨_, rfl⟩
  have HW0 := hid hW0.symm
  have HB0 : Hid (Below w.heap.size w W0) := hid (hW0 ▸ (Below.refl _ _).alloc (Nat.le_refl _) _)
  have HO0 : Hid (W0.ownsRow w.heap.size 29 18 (.slice (some ⟨w.heap.size, 0, none⟩) 0 0) 0 (flatY encA [])) := hid (hW0 ▸ lit0_own w _ (Nat.le_refl _))
  clear hW0
  go_enter Tryz.func8, Tryz.ntmps8
  go_wp2
  rw [HW0.out]
  go_loopg [3, 13] n (fun g s3 s13 wr => ∃ (p len : Nat) (rs : List CS) (go cap : Nat), s13 = .int .i64 (p : Int) ∧ p ≤ n ∧ n - p ≤ g ∧ len ≤ p ∧ s3 = .slice (some ⟨go, 0, none⟩) len cap ∧ Hid (len = rs.length ∧ wr.ownsRow w.heap.size 29 18 (.slice (some ⟨go, 0, none⟩) len cap) len (flatY encA rs)) ∧ Hid (Below w.heap.size w wr) ∧ Hid (DocOf cmpS covS rightS xs p rs))
  case atStart => exact ⟨0, 0, [], w.heap.size, 0, rfl, by omega, by omega, by omega, rfl, hid ⟨rfl, HO0.out⟩, HB0, hid ⟨List.Pairwise.nil, fun a => by simp⟩⟩
  case round =>
    obtain ⟨p, len, rs, go, cap, rfl, hp, hgp, hlp, rfl, HR, HB, HF⟩ := hrel
    by_cases hlt : p < n
    · have hpx : p < xs.length := by have := Hn.out; omega
      obtain ⟨x, hx⟩ : ∃ x, x = xs[p] := ⟨_, rfl⟩
      have HX : Hid (wr.rangeAt g0 (o0 + p * 18) (encC x)) := hid (hx ▸ rangeAt_below HB.out hg0 (HI.out p hpx))
      have HXx := hid hx
      obtain ⟨V, hV⟩ : ∃ V, V = wr.alloc (.cells (encA x) 29) := ⟨_, rfl⟩
      have hbV : Below wr.heap.size wr V := hV ▸ (Below.refl _ _).alloc (Nat.le_refl _) _
      have HV := hid hV.symm
      have HBV : Hid (Below w.heap.size w V) := hid (bel2 HB.out hbV)
      have HRV : Hid (len = rs.length ∧ V.ownsRow w.heap.size 29 18 (.slice (some ⟨go, 0, none⟩) len cap) len (flatY encA rs)) := hid ⟨HR.out.1, ownsRow_below HR.out.2 hbV⟩
      obtain ⟨g5, hg5⟩ : ∃ g5, g5 = wr.heap.size := ⟨_, rfl⟩
      have HKV : Hid (Blk V g5 29 (encA x)) := hid (hV ▸ hg5 ▸ Blk.new wr _ _)
      have L : Hid (wr.heap.size = g5) := hid hg5.symm
      have HRt := hid (rright_s x V)
      have hcl : len ≤ cap := by
        obtain ⟨_, ⟨h, _⟩ | ⟨g', cap', cur', h, _, _, h4, _⟩⟩ := HR.out.2
        · cases h
        · cases h; exact h4
      clear hx hV hbV hg5
      go_wp2_with (first
        | ((show wpList _ _ _ (⟨some 17, _, _, _, _, _⟩ :: _) _ _); go_must (refine wpl_loadC (.tmp 16) rfl g0 (o0 + p * 18) rfl x HX.out rfl ?_))
        | ((show wpList _ _ _ (⟨none, _, _, _, _, _⟩ :: _) _ _); go_must (refine wpl_storeN (.tmp 5) (.tmp 17) rfl _ rfl rfl x rfl rfl ?_; rw [HV.out, L.out]))
        | ((show wpList _ _ _ (⟨some 18, _, _, _, _, _⟩ :: _) _ _); go_must (refine wpl_loadB (.tmp 5) rfl g5 rfl x HKV.out rfl ?_)))
      refine HRt.out.mono ?_
      rintro e V2 ⟨rfl, hb2⟩
      have HBW2 : Hid (Below w.heap.size w V2) := hid (bel2 HBV.out hb2)
      have HR2 : Hid (len = rs.length ∧ V2.ownsRow w.heap.size 29 18 (.slice (some ⟨go, 0, none⟩) len cap) len (flatY encA rs)) := hid ⟨HRV.out.1, ownsRow_below HRV.out.2 hb2⟩
      have HK2 : Hid (Blk V2 g5 29 (encA x)) := hid (HKV.out.kept hb2)
      have HE : Hid (go < V2.heap.size ∧ ∀ j, j < rs.length → V2.rangeAt go (j * 18) (encC rs[j]!)) := hid (by
        obtain ⟨_, ad', cap', h1, _, _, _, h5⟩ := own_elems HR2.out.2
        obtain ⟨_, ⟨h, _⟩ | ⟨g', cp', cur', h, _, hh, _⟩⟩ := HR2.out.2
        · cases h
        · cases h
          refine ⟨(Array.getElem?_eq_some_iff.1 hh).1, fun j hj => ?_⟩
          obtain ⟨g1, o1, e1, hg1, hr1⟩ := h5 j hj
          cases h1
          cases e1
          rw [Nat.zero_add] at hr1
          rw [getElem!_pos rs j hj]
          exact hr1)
      have HZ := hid (stays_zero xs p x)
      generalize hrb : rightS x = rb at *
      clear hb2 HRt HX HRV HKV HV
      go_wp2
      go_loopg [6, 22] n (fun g s6 s22 wr => ∃ (q : Nat) (b : Bool), s22 = .int .i64 (q : Int) ∧ q ≤ n ∧ n - q ≤ g ∧ s6 = .bool b ∧ Hid (Below V2.heap.size V2 wr) ∧ Hid (b = true ↔ StaysTo xs p x q))
      case atStart => exact ⟨0, rb, rfl, by omega, by omega, rfl, hid (Below.refl _ _), HZ⟩
      case round =>
        obtain ⟨q, b, rfl, hq, hgq, rfl, HB2, HS⟩ := hrel
        by_cases hlq : q < n
        · have hqx : q < xs.length := by have := Hn.out; omega
          obtain ⟨y, hy⟩ : ∃ y, y = xs[q] := ⟨_, rfl⟩
          have HY : Hid (wr.rangeAt g0 (o0 + q * 18) (encC y)) := hid (hy ▸ rangeAt_below (bel2 HBW2.out HB2.out) hg0 (HI.out q hqx))
          have HYy := hid hy
          obtain ⟨V3, hV3⟩ : ∃ V3, V3 = wr.alloc (.cells (encA y) 29) := ⟨_, rfl⟩
          have hbV3 : Below wr.heap.size wr V3 := hV3 ▸ (Below.refl _ _).alloc (Nat.le_refl _) _
          have HV3 := hid hV3.symm
          have HB3 : Hid (Below V2.heap.size V2 V3) := hid (bel2 HB2.out hbV3)
          obtain ⟨g8, hg8⟩ : ∃ g8, g8 = wr.heap.size := ⟨_, rfl⟩
          have HK8 : Hid (Blk V3 g8 29 (encA y)) := hid (hV3 ▸ hg8 ▸ Blk.new wr _ _)
          have HK5 : Hid (Blk V3 g5 29 (encA x)) := hid (HK2.out.kept HB3.out)
          have L8 : Hid (wr.heap.size = g8) := hid hg8.symm
          have HC := hid (fun W => rcov_s y x W)
          have hneq := neqS y x
          clear hy hV3 hbV3 hg8
          by_cases hqp : q = p
          · have HS2 : Hid (b = true ↔ StaysTo xs p x (q + 1)) := hid (stays_yes hqx (.inl hqp) HS.out)
            have d1 : ((q : Int) != (p : Int)) = false := by simp [hqp]
            clear hqp HC hneq HK8 HK5
            go_upto_region 9 with (first
              | ((show wpList _ _ _ (⟨some 26, _, _, _, _, _⟩ :: _) _ _); go_must (refine wpl_loadC (.tmp 25) rfl g0 (o0 + q * 18) rfl y HY.out rfl ?_))
              | ((show wpList _ _ _ (⟨none, _, _, _, _, _⟩ :: _) _ _); go_must (refine wpl_storeN (.tmp 8) (.tmp 26) rfl _ rfl rfl y rfl rfl ?_; rw [HV3.out, L8.out])))
            refine wp_region_lit ?_
            refine wpl_run (.int .i64 (q : Int)) V3 (by unfold execOp; go_simp) (by kernel_rfl) ?_
            simp only [Act.put, List.setIfInBounds_toArray, List.set_cons_zero, List.set_cons_succ]
            refine wpl_run (.int .i64 (p : Int)) V3 (by unfold execOp; go_simp) (by kernel_rfl) ?_
            simp only [Act.put, List.setIfInBounds_toArray, List.set_cons_zero, List.set_cons_succ]
            refine wpl_run (.bool false) V3 (by unfold execOp; go_simp) (by kernel_rfl) ?_
            simp only [Act.put, List.setIfInBounds_toArray, List.set_cons_zero, List.set_cons_succ]
            refine wpl_run (.bool false) V3 (by unfold execOp; go_simp) (by kernel_rfl) ?_
            simp only [Act.put, List.setIfInBounds_toArray, List.set_cons_zero, List.set_cons_succ]
            refine wpList_skip (by kernel_rfl) ?_
            simp only [Act.put, List.setIfInBounds_toArray, List.set_cons_zero, List.set_cons_succ]
            refine wpList_skip (by kernel_rfl) ?_
            simp only [Act.put, List.setIfInBounds_toArray, List.set_cons_zero, List.set_cons_succ]
            refine wpList_skip (by kernel_rfl) ?_
            simp only [Act.put, List.setIfInBounds_toArray, List.set_cons_zero, List.set_cons_succ]
            clear d1
            go_wp2
            go_roundg (n - (q + 1))
            case measure => omega
            case rel => exact ⟨q + 1, b, by go_num, by omega, Nat.le_refl _, rfl, HB3, HS2⟩
          · have d1 : ((q : Int) != (p : Int)) = true := by
              rw [bne_iff_ne]
              omega
            have Hqp := hid hqp
            clear hqp
            by_cases hc : covS y x = true
            · rw [hc] at HC
              by_cases hyx : y = x
              · have HYX := hid hyx
                have e0 : decide (y ≠ x) = false := by simp [hyx]
                rw [e0] at hneq
                clear hyx e0
                by_cases hqlt : q < p
                · have HS2 : Hid (false = true ↔ StaysTo xs p x (q + 1)) := hid (stays_no hqx Hqp.out ⟨by rw [← HYy.out]; exact hc, .inr hqlt⟩)
                  clear hc
                  go_wp2_with (first
                    | ((show wpList _ _ _ (⟨some 26, _, _, _, _, _⟩ :: _) _ _); go_must (refine wpl_loadC (.tmp 25) rfl g0 (o0 + q * 18) rfl y HY.out rfl ?_))
                    | ((show wpList _ _ _ (⟨none, _, _, _, _, _⟩ :: _) _ _); go_must (refine wpl_storeN (.tmp 8) (.tmp 26) rfl _ rfl rfl y rfl rfl ?_; rw [HV3.out, L8.out]))
                    | ((show wpList _ _ _ (⟨some 31, _, _, _, _, _⟩ :: _) _ _); go_must (refine wpl_loadB (.tmp 8) rfl g8 rfl y HK8.out rfl ?_))
                    | ((show wpList _ _ _ (⟨some 32, _, _, _, _, _⟩ :: _) _ _); go_must (refine wpl_loadB (.tmp 5) rfl g5 rfl x HK5.out rfl ?_)))
                  refine (HC.out _).mono ?_
                  rintro e V4 ⟨rfl, hb4⟩
                  have HB4 : Hid (Below V2.heap.size V2 V4) := hid (bel2 HB3.out hb4)
                  have HK84 := hid (HK8.out.kept hb4)
                  have HK54 := hid (HK5.out.kept hb4)
                  clear hb4
                  go_wp2_with (first
                    | ((show wpList _ _ _ (⟨some 36, _, _, _, _, _⟩ :: _) _ _); go_must (refine wpl_loadB (.tmp 8) rfl g8 rfl y HK84.out rfl ?_))
                    | ((show wpList _ _ _ (⟨some 37, _, _, _, _, _⟩ :: _) _ _); go_must (refine wpl_loadB (.tmp 5) rfl g5 rfl x HK54.out rfl ?_)))
                  go_roundg (n - (q + 1))
                  case measure => omega
                  case rel => exact ⟨q + 1, false, by go_num, by omega, Nat.le_refl _, rfl, HB4, HS2⟩
                · have HS2 : Hid (b = true ↔ StaysTo xs p x (q + 1)) := hid (stays_yes hqx (.inr (by rw [← HYy.out]; rintro ⟨_, h⟩; exact h.elim (fun h => h HYX.out) hqlt)) HS.out)
                  clear hc
                  go_wp2_with (first
                    | ((show wpList _ _ _ (⟨some 26, _, _, _, _, _⟩ :: _) _ _); go_must (refine wpl_loadC (.tmp 25) rfl g0 (o0 + q * 18) rfl y HY.out rfl ?_))
                    | ((show wpList _ _ _ (⟨none, _, _, _, _, _⟩ :: _) _ _); go_must (refine wpl_storeN (.tmp 8) (.tmp 26) rfl _ rfl rfl y rfl rfl ?_; rw [HV3.out, L8.out]))
                    | ((show wpList _ _ _ (⟨some 31, _, _, _, _, _⟩ :: _) _ _); go_must (refine wpl_loadB (.tmp 8) rfl g8 rfl y HK8.out rfl ?_))
                    | ((show wpList _ _ _ (⟨some 32, _, _, _, _, _⟩ :: _) _ _); go_must (refine wpl_loadB (.tmp 5) rfl g5 rfl x HK5.out rfl ?_)))
                  refine (HC.out _).mono ?_
                  rintro e V4 ⟨rfl, hb4⟩
                  have HB4 : Hid (Below V2.heap.size V2 V4) := hid (bel2 HB3.out hb4)
                  have HK84 := hid (HK8.out.kept hb4)
                  have HK54 := hid (HK5.out.kept hb4)
                  clear hb4
                  go_wp2_with (first
                    | ((show wpList _ _ _ (⟨some 36, _, _, _, _, _⟩ :: _) _ _); go_must (refine wpl_loadB (.tmp 8) rfl g8 rfl y HK84.out rfl ?_))
                    | ((show wpList _ _ _ (⟨some 37, _, _, _, _, _⟩ :: _) _ _); go_must (refine wpl_loadB (.tmp 5) rfl g5 rfl x HK54.out rfl ?_)))
                  go_roundg (n - (q + 1))
                  case measure => omega
                  case rel => exact ⟨q + 1, b, by go_num, by omega, Nat.le_refl _, rfl, HB4, HS2⟩
              · have HS2 : Hid (false = true ↔ StaysTo xs p x (q + 1)) := hid (stays_no hqx Hqp.out (by rw [← HYy.out]; exact ⟨hc, .inl hyx⟩))
                have e0 : decide (y ≠ x) = true := by simp [hyx]
                rw [e0] at hneq
                clear hyx e0 hc
                go_wp2_with (first
                  | ((show wpList _ _ _ (⟨some 26, _, _, _, _, _⟩ :: _) _ _); go_must (refine wpl_loadC (.tmp 25) rfl g0 (o0 + q * 18) rfl y HY.out rfl ?_))
                  | ((show wpList _ _ _ (⟨none, _, _, _, _, _⟩ :: _) _ _); go_must (refine wpl_storeN (.tmp 8) (.tmp 26) rfl _ rfl rfl y rfl rfl ?_; rw [HV3.out, L8.out]))
                  | ((show wpList _ _ _ (⟨some 31, _, _, _, _, _⟩ :: _) _ _); go_must (refine wpl_loadB (.tmp 8) rfl g8 rfl y HK8.out rfl ?_))
                  | ((show wpList _ _ _ (⟨some 32, _, _, _, _, _⟩ :: _) _ _); go_must (refine wpl_loadB (.tmp 5) rfl g5 rfl x HK5.out rfl ?_)))
                refine (HC.out _).mono ?_
                rintro e V4 ⟨rfl, hb4⟩
                have HB4 : Hid (Below V2.heap.size V2 V4) := hid (bel2 HB3.out hb4)
                have HK84 := hid (HK8.out.kept hb4)
                have HK54 := hid (HK5.out.kept hb4)
                clear hb4
                go_wp2_with (first
                  | ((show wpList _ _ _ (⟨some 36, _, _, _, _, _⟩ :: _) _ _); go_must (refine wpl_loadB (.tmp 8) rfl g8 rfl y HK84.out rfl ?_))
                  | ((show wpList _ _ _ (⟨some 37, _, _, _, _, _⟩ :: _) _ _); go_must (refine wpl_loadB (.tmp 5) rfl g5 rfl x HK54.out rfl ?_)))
                go_roundg (n - (q + 1))
                case measure => omega
                case rel => exact ⟨q + 1, false, by go_num, by omega, Nat.le_refl _, rfl, HB4, HS2⟩
            · have hc : covS y x = false := by simpa using hc
              have HS2 : Hid (b = true ↔ StaysTo xs p x (q + 1)) := hid (stays_yes hqx (.inr (by rw [← HYy.out, hc]; rintro ⟨h, _⟩; cases h)) HS.out)
              rw [hc] at HC
              clear hc
              go_wp2_with (first
                | ((show wpList _ _ _ (⟨some 26, _, _, _, _, _⟩ :: _) _ _); go_must (refine wpl_loadC (.tmp 25) rfl g0 (o0 + q * 18) rfl y HY.out rfl ?_))
                | ((show wpList _ _ _ (⟨none, _, _, _, _, _⟩ :: _) _ _); go_must (refine wpl_storeN (.tmp 8) (.tmp 26) rfl _ rfl rfl y rfl rfl ?_; rw [HV3.out, L8.out]))
                | ((show wpList _ _ _ (⟨some 31, _, _, _, _, _⟩ :: _) _ _); go_must (refine wpl_loadB (.tmp 8) rfl g8 rfl y HK8.out rfl ?_))
                | ((show wpList _ _ _ (⟨some 32, _, _, _, _, _⟩ :: _) _ _); go_must (refine wpl_loadB (.tmp 5) rfl g5 rfl x HK5.out rfl ?_)))
              refine (HC.out _).mono ?_
              rintro e V4 ⟨rfl, hb4⟩
              have HB4 : Hid (Below V2.heap.size V2 V4) := hid (bel2 HB3.out hb4)
              clear hb4
              go_wp2
              go_roundg (n - (q + 1))
              case measure => omega
              case rel => exact ⟨q + 1, b, by go_num, by omega, Nat.le_refl _, rfl, HB4, HS2⟩
        · obtain rfl : q = n := by omega
          have HS3 : Hid (b = true ↔ Stays covS rightS xs p x) := hid (by rw [← stays_end, ← Hn.out]; exact HS.out)
          have Hxp : Hid (xs[p]? = some x) := hid (by rw [List.getElem?_eq_getElem hpx, HXx.out])
          cases b
          · have HF2 : Hid (DocOf cmpS covS rightS xs (p + 1) rs) := hid (doc_skip cidrS_cov xs (fun _ _ => trivial) p x Hxp.out rs HF.out (fun h => by have := HS3.out.2 h; cases this))
            have HB4 : Hid (Below w.heap.size w wr) := hid (bel2 HBW2.out HB2.out)
            have HR4 : Hid (len = rs.length ∧ wr.ownsRow w.heap.size 29 18 (.slice (some ⟨go, 0, none⟩) len cap) len (flatY encA rs)) := hid ⟨HR2.out.1, ownsRow_below HR2.out.2 HB2.out⟩
            go_wp2
            go_roundg (q - (p + 1))
            case measure => omega
            case rel => exact ⟨p + 1, len, rs, go, cap, by go_num, by omega, Nat.le_refl _, by omega, rfl, HR4, HB4, HF2⟩
          · have HPut : Hid (DocOf cmpS covS rightS xs (p + 1) (insIn cmpS x rs)) := hid (doc_put cidrS_cov xs (fun _ _ => trivial) p x Hxp.out rs HF.out (HS3.out.1 rfl))
            go_wp2
            go_loopg [9] len (fun g s9 wr => ∃ m2 : Nat, m2 ≤ len ∧ m2 ≤ g ∧ s9 = .int .i64 (m2 : Int) ∧ Hid (Below V2.heap.size V2 wr) ∧ Hid (∀ j, m2 ≤ j → j < len → cmpS x rs[j]! < 0))
            case atStart => exact ⟨len, Nat.le_refl _, Nat.le_refl _, rfl, HB2, hid (fun j h1 h2 => by omega)⟩
            case round =>
              obtain ⟨m2, hm2, hgm, rfl, HB5, HG⟩ := hrel
              by_cases h0 : m2 = 0
              · have H0 := hid h0
                have HB3 : Hid (Below V2.heap.size V2 wr.drew.drew) := hid HB5.out.drew.drew
                have HINS := hid (ins_at x rs m2 (by omega) (fun q hq => by omega) (fun j h1 h2 => HG.out j h1 (by have := HR.out.1; omega)))
                clear h0
                go_wp2_with fail
                refine wp_region_held_drew (S := fun V => Below wr.heap.size wr.drew V) (by kernel_rfl) (Below.refl _ _) (fun hS => ?_)
                change wpAnyH _ _ _ _ _ 12 #[false, false, false, false, false, false, false, false, false, false, false, false] _ _
                refine wpAnyH_take (i := 0) (v := .int .i64 (m2 : Int)) rfl (by kernel_rfl) (by kernel_rfl) (by kernel_rfl) (fun _ _ _ h => h) (.inl ⟨by kernel_rfl, fun w' _ => by unfold execOp; go_simp⟩) hS ?_
                simp only [List.getElem_toArray, List.getElem_cons_zero, Act.put, List.setIfInBounds_toArray, List.set_cons_zero, List.set_cons_succ]
                refine wpAnyH_take (i := 1) (v := .bool false) rfl (by kernel_rfl) (by kernel_rfl) (by kernel_rfl) (fun _ _ _ h => h) (.inl ⟨by kernel_rfl, fun w' _ => by unfold execOp; go_simp; first | exact H0.out | (have := H0.out; omega)⟩) hS ?_
                simp only [List.getElem_toArray, List.getElem_cons_zero, List.getElem_cons_succ, Act.put, List.setIfInBounds_toArray, List.set_cons_zero, List.set_cons_succ]
                refine wpAnyH_take (i := 2) (v := .bool false) rfl (by kernel_rfl) (by kernel_rfl) (by kernel_rfl) (fun _ _ _ h => h) (.inl ⟨by kernel_rfl, fun w' _ => by unfold execOp; go_simp⟩) hS ?_
                simp only [List.getElem_toArray, List.getElem_cons_zero, List.getElem_cons_succ, Act.put, List.setIfInBounds_toArray, List.set_cons_zero, List.set_cons_succ]
                refine wpAnyH_take (i := 3) (v := undef) rfl (by kernel_rfl) (by kernel_rfl) (by kernel_rfl) (fun _ _ _ h => h) (.inr ⟨by kernel_rfl, rfl⟩) hS ?_
                simp only [List.getElem_toArray, List.getElem_cons_zero, List.getElem_cons_succ, Act.put, List.setIfInBounds_toArray, List.set_cons_zero, List.set_cons_succ]
                refine wpAnyH_take (i := 4) (v := undef) rfl (by kernel_rfl) (by kernel_rfl) (by kernel_rfl) (fun _ _ _ h => h) (.inr ⟨by kernel_rfl, rfl⟩) hS ?_
                simp only [List.getElem_toArray, List.getElem_cons_zero, List.getElem_cons_succ, Act.put, List.setIfInBounds_toArray, List.set_cons_zero, List.set_cons_succ]
                refine wpAnyH_take (i := 5) (v := undef) rfl (by kernel_rfl) (by kernel_rfl) (by kernel_rfl) (fun _ _ _ h => h) (.inr ⟨by kernel_rfl, rfl⟩) hS ?_
                simp only [List.getElem_toArray, List.getElem_cons_zero, List.getElem_cons_succ, Act.put, List.setIfInBounds_toArray, List.set_cons_zero, List.set_cons_succ]
                refine wpAnyH_take (i := 6) (v := undef) rfl (by kernel_rfl) (by kernel_rfl) (by kernel_rfl) (fun _ _ _ h => h) (.inr ⟨by kernel_rfl, rfl⟩) hS ?_
                simp only [List.getElem_toArray, List.getElem_cons_zero, List.getElem_cons_succ, Act.put, List.setIfInBounds_toArray, List.set_cons_zero, List.set_cons_succ]
                refine wpAnyH_take (i := 7) (v := undef) rfl (by kernel_rfl) (by kernel_rfl) (by kernel_rfl) (fun _ _ _ h => h) (.inr ⟨by kernel_rfl, rfl⟩) hS ?_
                simp only [List.getElem_toArray, List.getElem_cons_zero, List.getElem_cons_succ, Act.put, List.setIfInBounds_toArray, List.set_cons_zero, List.set_cons_succ]
                refine wpAnyH_take (i := 8) (v := undef) rfl (by kernel_rfl) (by kernel_rfl) (by kernel_rfl) (fun _ _ _ h => h) (.inr ⟨by kernel_rfl, rfl⟩) hS ?_
                simp only [List.getElem_toArray, List.getElem_cons_zero, List.getElem_cons_succ, Act.put, List.setIfInBounds_toArray, List.set_cons_zero, List.set_cons_succ]
                refine wpAnyH_take (i := 9) (v := undef) rfl (by kernel_rfl) (by kernel_rfl) (by kernel_rfl) (fun _ _ _ h => h) (.inr ⟨by kernel_rfl, rfl⟩) hS ?_
                simp only [List.getElem_toArray, List.getElem_cons_zero, List.getElem_cons_succ, Act.put, List.setIfInBounds_toArray, List.set_cons_zero, List.set_cons_succ]
                refine wpAnyH_take (i := 10) (v := undef) rfl (by kernel_rfl) (by kernel_rfl) (by kernel_rfl) (fun _ _ _ h => h) (.inr ⟨by kernel_rfl, rfl⟩) hS ?_
                simp only [List.getElem_toArray, List.getElem_cons_zero, List.getElem_cons_succ, Act.put, List.setIfInBounds_toArray, List.set_cons_zero, List.set_cons_succ]
                refine wpAnyH_take (i := 11) (v := .bool false) rfl (by kernel_rfl) (by kernel_rfl) (by kernel_rfl) (fun _ _ _ h => h) (.inl ⟨by kernel_rfl, fun w' _ => by unfold execOp; go_simp⟩) hS ?_
                simp only [List.getElem_toArray, List.getElem_cons_zero, List.getElem_cons_succ, Act.put, List.setIfInBounds_toArray, List.set_cons_zero, List.set_cons_succ]
                refine wpAnyH_done (by kernel_rfl) ?_ _
                clear hS
                go_wp2_with fail
                generalize wr.drew = U at HB3 ⊢
                have HBU : Hid (Below V2.heap.size V2 U.drew) := HB3
                have HBW : Hid (Below w.heap.size w U.drew) := hid (HBW2.out.trans (HBU.out.mono HBW2.out.size))
                have HEU : Hid (Elems encA 18 U.heap.size U.drew (some ⟨go, 0, none⟩) rs) := hid (fun j hj => ⟨go, 0, rfl, Nat.lt_of_lt_of_le HE.out.1 HBU.out.size, by
                  have := HE.out.2 j (by simpa using hj)
                  rw [getElem!_pos rs j hj] at this
                  rw [Nat.zero_add]
                  exact rangeAt_below HBU.out HE.out.1 this⟩)
                have H5U : Hid (U.drew.rangeAt g5 0 (encC x) ∧ g5 < U.heap.size) := hid ⟨rangeAt_below HBU.out HK2.out.lt (blk_range HK2.out), Nat.lt_of_lt_of_le HK2.out.lt HBU.out.size⟩
                refine wp_region_held_drew (S := fun W => Below U.heap.size U.drew W) (by kernel_rfl) (Below.refl _ _) (fun hS => ?_)
                change wpAnyH _ _ _ _ _ 13 #[false, false, false, false, false, false, false, false, false, false, false, false, false] _ _
                refine wpAnyH_take (i := 1) (v := .slice (some ⟨go, 0, none⟩) len cap) rfl (by kernel_rfl) (by kernel_rfl) (by kernel_rfl) (fun _ _ _ h => h) (.inl ⟨by kernel_rfl, fun w' _ => by unfold execOp; go_simp⟩) hS ?_
                simp only [List.getElem_toArray, List.getElem_cons_zero, List.getElem_cons_succ, Act.put, List.setIfInBounds_toArray, List.set_cons_zero, List.set_cons_succ]
                refine wpAnyH_take (i := 2) (v := .int .i64 (m2 : Int)) rfl (by kernel_rfl) (by kernel_rfl) (by kernel_rfl) (fun _ _ _ h => h) (.inl ⟨by kernel_rfl, fun w' _ => by unfold execOp; go_simp⟩) hS ?_
                simp only [List.getElem_toArray, List.getElem_cons_zero, List.getElem_cons_succ, Act.put, List.setIfInBounds_toArray, List.set_cons_zero, List.set_cons_succ]
                refine wpAnyH_take (i := 3) (v := .slice (some ⟨go, 0, none⟩) m2 cap) rfl (by kernel_rfl) (by kernel_rfl) (by kernel_rfl) (fun _ _ _ h => h) (.inl ⟨by kernel_rfl, fun w' _ => exec_cutHK (.tmp 65) (.tmp 66) rfl (some ⟨go, 0, none⟩) len cap m2 rfl rfl (by omega)⟩) hS ?_
                simp only [List.getElem_toArray, List.getElem_cons_zero, List.getElem_cons_succ, Act.put, List.setIfInBounds_toArray, List.set_cons_zero, List.set_cons_succ]
                refine wpAnyH_take (i := 5) (v := .agg (encA x)) rfl (by kernel_rfl) (by kernel_rfl) (by kernel_rfl) (fun _ _ _ h => h) (yieldsC (by kernel_rfl) (.tmp 5) rfl (g5) (0) rfl x (fun w' hw' => rangeAt_below hw' H5U.out.2 H5U.out.1)) hS ?_
                simp only [List.getElem_toArray, List.getElem_cons_zero, List.getElem_cons_succ, Act.put, List.setIfInBounds_toArray, List.set_cons_zero, List.set_cons_succ]
                refine wpAnyH_take (i := 8) (v := .slice (some ⟨go, 0, none⟩) len cap) rfl (by kernel_rfl) (by kernel_rfl) (by kernel_rfl) (fun _ _ _ h => h) (.inl ⟨by kernel_rfl, fun w' _ => by unfold execOp; go_simp⟩) hS ?_
                simp only [List.getElem_toArray, List.getElem_cons_zero, List.getElem_cons_succ, Act.put, List.setIfInBounds_toArray, List.set_cons_zero, List.set_cons_succ]
                refine wpAnyH_take (i := 9) (v := .int .i64 (m2 : Int)) rfl (by kernel_rfl) (by kernel_rfl) (by kernel_rfl) (fun _ _ _ h => h) (.inl ⟨by kernel_rfl, fun w' _ => by unfold execOp; go_simp⟩) hS ?_
                simp only [List.getElem_toArray, List.getElem_cons_zero, List.getElem_cons_succ, Act.put, List.setIfInBounds_toArray, List.set_cons_zero, List.set_cons_succ]
                refine wpAnyH_take (i := 10) (v := .slice (cutK (some ⟨go, 0, none⟩) cap m2) (len - m2) (cap - m2)) rfl (by kernel_rfl) (by kernel_rfl) (by kernel_rfl) (fun _ _ _ h => h) (.inl ⟨by kernel_rfl, fun w' _ => exec_cutLK (.tmp 72) (.tmp 73) rfl (some ⟨go, 0, none⟩) len cap m2 rfl rfl (by omega)⟩) hS ?_
                simp only [List.getElem_toArray, List.getElem_cons_zero, List.getElem_cons_succ, Act.put, List.setIfInBounds_toArray, List.set_cons_zero, List.set_cons_succ]
                have HT2 : Hid ((rs.take m2).length = m2) := hid (by rw [List.length_take]; have := HR.out.1; omega)
                have hln : len = rs.length := HR.out.1
                have HDL : Hid ((rs.drop m2).length = len - m2) := hid (by rw [List.length_drop, hln])
                have HD := elems_drop HEU.out (by omega : rs.length ≤ cap) (fun e => by cases e) m2 (by omega)
                refine wpAnyH_ready (rs := [0, 6]) (by kernel_rfl) (by simp) ?_
                refine AllReadyH.cons rfl (fun K' hK => ?_) (AllReadyH.cons rfl (fun K' hK => ?_) AllReadyH.nil)
                ·
                  refine r_lit0 rfl U.heap.size (by first | exact Nat.le_refl _ | exact hS.size) (by kernel_rfl) (fun A hoA hzA hgA => hK.out _ _ (hS.grown hgA (by first | exact Nat.le_refl _ | exact hS.size) (fun k e => by cases e)) (fun hS => ?_))
                  simp only [List.getElem_toArray, List.getElem_cons_zero, Act.put, List.setIfInBounds_toArray, List.set_cons_zero, List.set_cons_succ]
                  refine wpAnyH_ready (rs := [4, 6]) (by kernel_rfl) (by simp) ?_
                  refine AllReadyH.cons rfl (fun K' hK => ?_) (AllReadyH.cons rfl (fun K' hK => ?_) AllReadyH.nil)
                  ·
                    have own0 := hoA
                    refine r_appK (.tmp 64) (.tmp 67) rfl U.heap.size _ 0 (flatY encA []) rfl own0 (some ⟨go, 0, none⟩) m2 cap (rs.take m2) rfl HT2.out U.heap.size ((elems_take HEU.out m2).below hS) (fun e => by cases e) (by omega) hS.size (by kernel_rfl) (fun v1 w1 h1 q1 => hK.out _ _ (hS.grown q1 (by first | exact Nat.le_refl _ | exact hS.size) (fun k e => own_block_le own0 e)) (fun hS => ?_))
                    simp only [List.getElem_toArray, List.getElem_cons_zero, List.getElem_cons_succ, Act.put, List.setIfInBounds_toArray, List.set_cons_zero, List.set_cons_succ]
                    refine wpAnyH_ready (rs := [6]) (by kernel_rfl) (by simp) ?_
                    refine AllReadyH.cons rfl (fun K' hK => ?_) AllReadyH.nil
                    refine r_lit1 (.tmp 69) rfl x rfl (by kernel_rfl) (fun C hlC hzC hgC => hK.out _ _ (hS.grown hgC (by first | exact Nat.le_refl _ | exact hS.size) (fun k e => by cases e)) (fun hS => ?_))
                    simp only [List.getElem_toArray, List.getElem_cons_zero, List.getElem_cons_succ, Act.put, List.setIfInBounds_toArray, List.set_cons_zero, List.set_cons_succ]
                    have own1 := ownsRow_below h1 (grown_below hgC)
                    have lit1 := hlC
                    refine wpAnyH_ready (rs := [7]) (by kernel_rfl) (by simp) ?_
                    refine AllReadyH.cons rfl (fun K' hK => ?_) AllReadyH.nil
                    refine r_appK (.tmp 68) (.tmp 70) rfl U.heap.size v1 _ _ rfl own1 _ 1 1 [x] rfl rfl _ lit1 (fun e => by cases e) (by omega) hS.size (by kernel_rfl) (fun v2 w2 h2 q2 => hK.out _ _ (hS.grown q2 (by first | exact Nat.le_refl _ | exact hS.size) (fun k e => own_block_le own1 e)) (fun hS => ?_))
                    simp only [List.getElem_toArray, List.getElem_cons_zero, List.getElem_cons_succ, Act.put, List.setIfInBounds_toArray, List.set_cons_zero, List.set_cons_succ]
                    refine wpAnyH_ready (rs := [11]) (by kernel_rfl) (by simp) ?_
                    refine AllReadyH.cons rfl (fun K' hK => ?_) AllReadyH.nil
                    refine r_appK (.tmp 71) (.tmp 74) rfl U.heap.size v2 _ _ rfl h2 (cutK (some ⟨go, 0, none⟩) cap m2) (len - m2) (cap - m2) (rs.drop m2) rfl HDL.out U.heap.size (HD.1.below hS) (fun e => by have := HD.2 e; omega) (by omega) hS.size (by kernel_rfl) (fun v3 w3 h3 q3 => ?_)
                    have h4 := own_ins hln hm2 h3
                    have hbk := fun k (e : v2.ownBlock = some k) => own_block_le h2 e
                    obtain ⟨g', cap', rfl⟩ := ownsRow_succ h4
                    refine hK.out _ _ (hS.grown q3 (by first | exact Nat.le_refl _ | exact hS.size) (fun k e => hbk k e)) (fun hS => ?_)
                    simp only [List.getElem_toArray, List.getElem_cons_zero, List.getElem_cons_succ, Act.put, List.setIfInBounds_toArray, List.set_cons_zero, List.set_cons_succ]
                    refine wpAnyH_take (i := 12) (v := .slice (some ⟨g', 0, none⟩) (len + 1) cap') rfl (by kernel_rfl) (by kernel_rfl) (by kernel_rfl) (fun _ _ _ h => h) (.inl ⟨by kernel_rfl, fun w' _ => by unfold execOp; go_simp⟩) hS ?_
                    simp only [List.getElem_toArray, List.getElem_cons_zero, List.getElem_cons_succ, Act.put, List.setIfInBounds_toArray, List.set_cons_zero, List.set_cons_succ]
                    refine wpAnyH_done (by kernel_rfl) ?_ _
                    have HF9 : Hid ((len + 1 = (rs.take m2 ++ (x :: rs.drop m2)).length ∧ w3.ownsRow w.heap.size 29 18 (.slice (some ⟨g', 0, none⟩) (len + 1) cap') (len + 1) (flatY encA (rs.take m2 ++ (x :: rs.drop m2)))) ∧ Below w.heap.size w w3 ∧ DocOf cmpS covS rightS xs (p + 1) (rs.take m2 ++ (x :: rs.drop m2))) := hid ⟨⟨by rw [List.length_append, List.length_cons, HT2.out, HDL.out]; omega, ownsRow_mono h4 HBW.out.size⟩, HBW.out.trans (hS.mono HBW.out.size), by rw [HINS.out]; exact HPut.out⟩
                    clear hS h4 h3 h2 own1 lit1 HD HEU H5U hK hln
                    go_wp2
                    go_roundg (q - (p + 1))
                    case measure => omega
                    case rel => exact ⟨p + 1, len + 1, _, g', cap', by go_num, by omega, Nat.le_refl _, by omega, rfl, hid HF9.out.1, hid HF9.out.2.1, hid HF9.out.2.2⟩
                  ·
                    refine r_lit1 (.tmp 69) rfl x rfl (by kernel_rfl) (fun B hlB hzB hgB => hK.out _ _ (hS.grown hgB (by first | exact Nat.le_refl _ | exact hS.size) (fun k e => by cases e)) (fun hS => ?_))
                    simp only [List.getElem_toArray, List.getElem_cons_zero, List.getElem_cons_succ, Act.put, List.setIfInBounds_toArray, List.set_cons_zero, List.set_cons_succ]
                    refine wpAnyH_ready (rs := [4]) (by kernel_rfl) (by simp) ?_
                    refine AllReadyH.cons rfl (fun K' hK => ?_) AllReadyH.nil
                    have own0 := ownsRow_below hoA (grown_below hgB)
                    refine r_appK (.tmp 64) (.tmp 67) rfl U.heap.size _ 0 (flatY encA []) rfl own0 (some ⟨go, 0, none⟩) m2 cap (rs.take m2) rfl HT2.out U.heap.size ((elems_take HEU.out m2).below hS) (fun e => by cases e) (by omega) hS.size (by kernel_rfl) (fun v1 w1 h1 q1 => hK.out _ _ (hS.grown q1 (by first | exact Nat.le_refl _ | exact hS.size) (fun k e => own_block_le own0 e)) (fun hS => ?_))
                    simp only [List.getElem_toArray, List.getElem_cons_zero, List.getElem_cons_succ, Act.put, List.setIfInBounds_toArray, List.set_cons_zero, List.set_cons_succ]
                    have own1 := h1
                    have lit1 := elems_grown hlB (by omega) q1 (fun e => absurd (Option.some.inj (show some A.heap.size = some U.drew.heap.size from e)) (by omega))
                    refine wpAnyH_ready (rs := [7]) (by kernel_rfl) (by simp) ?_
                    refine AllReadyH.cons rfl (fun K' hK => ?_) AllReadyH.nil
                    refine r_appK (.tmp 68) (.tmp 70) rfl U.heap.size v1 _ _ rfl own1 _ 1 1 [x] rfl rfl _ lit1 (fun e => by cases e) (by omega) hS.size (by kernel_rfl) (fun v2 w2 h2 q2 => hK.out _ _ (hS.grown q2 (by first | exact Nat.le_refl _ | exact hS.size) (fun k e => own_block_le own1 e)) (fun hS => ?_))
                    simp only [List.getElem_toArray, List.getElem_cons_zero, List.getElem_cons_succ, Act.put, List.setIfInBounds_toArray, List.set_cons_zero, List.set_cons_succ]
                    refine wpAnyH_ready (rs := [11]) (by kernel_rfl) (by simp) ?_
                    refine AllReadyH.cons rfl (fun K' hK => ?_) AllReadyH.nil
                    refine r_appK (.tmp 71) (.tmp 74) rfl U.heap.size v2 _ _ rfl h2 (cutK (some ⟨go, 0, none⟩) cap m2) (len - m2) (cap - m2) (rs.drop m2) rfl HDL.out U.heap.size (HD.1.below hS) (fun e => by have := HD.2 e; omega) (by omega) hS.size (by kernel_rfl) (fun v3 w3 h3 q3 => ?_)
                    have h4 := own_ins hln hm2 h3
                    have hbk := fun k (e : v2.ownBlock = some k) => own_block_le h2 e
                    obtain ⟨g', cap', rfl⟩ := ownsRow_succ h4
                    refine hK.out _ _ (hS.grown q3 (by first | exact Nat.le_refl _ | exact hS.size) (fun k e => hbk k e)) (fun hS => ?_)
                    simp only [List.getElem_toArray, List.getElem_cons_zero, List.getElem_cons_succ, Act.put, List.setIfInBounds_toArray, List.set_cons_zero, List.set_cons_succ]
                    refine wpAnyH_take (i := 12) (v := .slice (some ⟨g', 0, none⟩) (len + 1) cap') rfl (by kernel_rfl) (by kernel_rfl) (by kernel_rfl) (fun _ _ _ h => h) (.inl ⟨by kernel_rfl, fun w' _ => by unfold execOp; go_simp⟩) hS ?_
                    simp only [List.getElem_toArray, List.getElem_cons_zero, List.getElem_cons_succ, Act.put, List.setIfInBounds_toArray, List.set_cons_zero, List.set_cons_succ]
                    refine wpAnyH_done (by kernel_rfl) ?_ _
                    have HF9 : Hid ((len + 1 = (rs.take m2 ++ (x :: rs.drop m2)).length ∧ w3.ownsRow w.heap.size 29 18 (.slice (some ⟨g', 0, none⟩) (len + 1) cap') (len + 1) (flatY encA (rs.take m2 ++ (x :: rs.drop m2)))) ∧ Below w.heap.size w w3 ∧ DocOf cmpS covS rightS xs (p + 1) (rs.take m2 ++ (x :: rs.drop m2))) := hid ⟨⟨by rw [List.length_append, List.length_cons, HT2.out, HDL.out]; omega, ownsRow_mono h4 HBW.out.size⟩, HBW.out.trans (hS.mono HBW.out.size), by rw [HINS.out]; exact HPut.out⟩
                    clear hS h4 h3 h2 own1 lit1 HD HEU H5U hK hln
                    go_wp2
                    go_roundg (q - (p + 1))
                    case measure => omega
                    case rel => exact ⟨p + 1, len + 1, _, g', cap', by go_num, by omega, Nat.le_refl _, by omega, rfl, hid HF9.out.1, hid HF9.out.2.1, hid HF9.out.2.2⟩
                ·
                  refine r_lit1 (.tmp 69) rfl x rfl (by kernel_rfl) (fun A hlA hzA hgA => hK.out _ _ (hS.grown hgA (by first | exact Nat.le_refl _ | exact hS.size) (fun k e => by cases e)) (fun hS => ?_))
                  simp only [List.getElem_toArray, List.getElem_cons_zero, List.getElem_cons_succ, Act.put, List.setIfInBounds_toArray, List.set_cons_zero, List.set_cons_succ]
                  refine wpAnyH_ready (rs := [0]) (by kernel_rfl) (by simp) ?_
                  refine AllReadyH.cons rfl (fun K' hK => ?_) AllReadyH.nil
                  refine r_lit0 rfl U.heap.size (by first | exact Nat.le_refl _ | exact hS.size) (by kernel_rfl) (fun B hoB hzB hgB => hK.out _ _ (hS.grown hgB (by first | exact Nat.le_refl _ | exact hS.size) (fun k e => by cases e)) (fun hS => ?_))
                  simp only [List.getElem_toArray, List.getElem_cons_zero, Act.put, List.setIfInBounds_toArray, List.set_cons_zero, List.set_cons_succ]
                  refine wpAnyH_ready (rs := [4]) (by kernel_rfl) (by simp) ?_
                  refine AllReadyH.cons rfl (fun K' hK => ?_) AllReadyH.nil
                  have own0 := hoB
                  refine r_appK (.tmp 64) (.tmp 67) rfl U.heap.size _ 0 (flatY encA []) rfl own0 (some ⟨go, 0, none⟩) m2 cap (rs.take m2) rfl HT2.out U.heap.size ((elems_take HEU.out m2).below hS) (fun e => by cases e) (by omega) hS.size (by kernel_rfl) (fun v1 w1 h1 q1 => hK.out _ _ (hS.grown q1 (by first | exact Nat.le_refl _ | exact hS.size) (fun k e => own_block_le own0 e)) (fun hS => ?_))
                  simp only [List.getElem_toArray, List.getElem_cons_zero, List.getElem_cons_succ, Act.put, List.setIfInBounds_toArray, List.set_cons_zero, List.set_cons_succ]
                  have own1 := h1
                  have lit1 := elems_grown (elems_grown hlA (by omega) hgB (fun e => by cases e)) (by omega) q1 (fun e => absurd (Option.some.inj (show some U.drew.heap.size = some A.heap.size from e)) (by omega))
                  refine wpAnyH_ready (rs := [7]) (by kernel_rfl) (by simp) ?_
                  refine AllReadyH.cons rfl (fun K' hK => ?_) AllReadyH.nil
                  refine r_appK (.tmp 68) (.tmp 70) rfl U.heap.size v1 _ _ rfl own1 _ 1 1 [x] rfl rfl _ lit1 (fun e => by cases e) (by omega) hS.size (by kernel_rfl) (fun v2 w2 h2 q2 => hK.out _ _ (hS.grown q2 (by first | exact Nat.le_refl _ | exact hS.size) (fun k e => own_block_le own1 e)) (fun hS => ?_))
                  simp only [List.getElem_toArray, List.getElem_cons_zero, List.getElem_cons_succ, Act.put, List.setIfInBounds_toArray, List.set_cons_zero, List.set_cons_succ]
                  refine wpAnyH_ready (rs := [11]) (by kernel_rfl) (by simp) ?_
                  refine AllReadyH.cons rfl (fun K' hK => ?_) AllReadyH.nil
                  refine r_appK (.tmp 71) (.tmp 74) rfl U.heap.size v2 _ _ rfl h2 (cutK (some ⟨go, 0, none⟩) cap m2) (len - m2) (cap - m2) (rs.drop m2) rfl HDL.out U.heap.size (HD.1.below hS) (fun e => by have := HD.2 e; omega) (by omega) hS.size (by kernel_rfl) (fun v3 w3 h3 q3 => ?_)
                  have h4 := own_ins hln hm2 h3
                  have hbk := fun k (e : v2.ownBlock = some k) => own_block_le h2 e
                  obtain ⟨g', cap', rfl⟩ := ownsRow_succ h4
                  refine hK.out _ _ (hS.grown q3 (by first | exact Nat.le_refl _ | exact hS.size) (fun k e => hbk k e)) (fun hS => ?_)
                  simp only [List.getElem_toArray, List.getElem_cons_zero, List.getElem_cons_succ, Act.put, List.setIfInBounds_toArray, List.set_cons_zero, List.set_cons_succ]
                  refine wpAnyH_take (i := 12) (v := .slice (some ⟨g', 0, none⟩) (len + 1) cap') rfl (by kernel_rfl) (by kernel_rfl) (by kernel_rfl) (fun _ _ _ h => h) (.inl ⟨by kernel_rfl, fun w' _ => by unfold execOp; go_simp⟩) hS ?_
                  simp only [List.getElem_toArray, List.getElem_cons_zero, List.getElem_cons_succ, Act.put, List.setIfInBounds_toArray, List.set_cons_zero, List.set_cons_succ]
                  refine wpAnyH_done (by kernel_rfl) ?_ _
                  have HF9 : Hid ((len + 1 = (rs.take m2 ++ (x :: rs.drop m2)).length ∧ w3.ownsRow w.heap.size 29 18 (.slice (some ⟨g', 0, none⟩) (len + 1) cap') (len + 1) (flatY encA (rs.take m2 ++ (x :: rs.drop m2)))) ∧ Below w.heap.size w w3 ∧ DocOf cmpS covS rightS xs (p + 1) (rs.take m2 ++ (x :: rs.drop m2))) := hid ⟨⟨by rw [List.length_append, List.length_cons, HT2.out, HDL.out]; omega, ownsRow_mono h4 HBW.out.size⟩, HBW.out.trans (hS.mono HBW.out.size), by rw [HINS.out]; exact HPut.out⟩
                  clear hS h4 h3 h2 own1 lit1 HD HEU H5U hK hln
                  go_wp2
                  go_roundg (q - (p + 1))
                  case measure => omega
                  case rel => exact ⟨p + 1, len + 1, _, g', cap', by go_num, by omega, Nat.le_refl _, by omega, rfl, hid HF9.out.1, hid HF9.out.2.1, hid HF9.out.2.2⟩
              · obtain ⟨m, hm, hm'⟩ : ∃ m, m < m2 ∧ m2 ≤ m + 1 := ⟨m2 - 1, by omega, by omega⟩
                obtain ⟨y, hy⟩ : ∃ y, y = rs[m]! := ⟨_, rfl⟩
                have HY : Hid (wr.drew.rangeAt go (m * 18) (encC y) ∧ go < wr.heap.size) := hid (by
                  have h1 := HE.out.2 m (by have := HR.out.1; omega)
                  have h2 := HB5.out.size
                  have h4 := HE.out.1
                  rw [hy]
                  exact ⟨rangeAt_below HB5.out (by omega) h1, by omega⟩)
                have H5' : Hid (wr.drew.rangeAt g5 0 (encC x) ∧ g5 < wr.heap.size) := hid ⟨rangeAt_below HB5.out HK2.out.lt (blk_range HK2.out), Nat.lt_of_lt_of_le HK2.out.lt HB5.out.size⟩
                have HC := hid (fun W => rcmp_s x y W)
                have HL : Hid (cmpS x y = cmpS x rs[m]!) := hid (by rw [hy])
                generalize cmpS x y = c at HC HL
                clear hy
                by_cases hc : c < 0
                · go_wp2_with fail
                  refine wp_region_held_drew (S := fun V => Below wr.heap.size wr.drew V) (by kernel_rfl) (Below.refl _ _) (fun hS => ?_)
                  change wpAnyH _ _ _ _ _ 12 #[false, false, false, false, false, false, false, false, false, false, false, false] _ _
                  refine wpAnyH_take (i := 0) (v := .int .i64 (m2 : Int)) rfl (by kernel_rfl) (by kernel_rfl) (by kernel_rfl) (fun _ _ _ h => h) (.inl ⟨by kernel_rfl, fun w' _ => by unfold execOp; go_simp⟩) hS ?_
                  simp only [List.getElem_toArray, List.getElem_cons_zero, Act.put, List.setIfInBounds_toArray, List.set_cons_zero, List.set_cons_succ]
                  refine wpAnyH_take (i := 1) (v := .bool true) rfl (by kernel_rfl) (by kernel_rfl) (by kernel_rfl) (fun _ _ _ h => h) (.inl ⟨by kernel_rfl, fun w' _ => by unfold execOp; go_simp; try omega⟩) hS ?_
                  simp only [List.getElem_toArray, List.getElem_cons_zero, List.getElem_cons_succ, Act.put, List.setIfInBounds_toArray, List.set_cons_zero, List.set_cons_succ]
                  refine wpAnyH_take (i := 2) (v := .bool true) rfl (by kernel_rfl) (by kernel_rfl) (by kernel_rfl) (fun _ _ _ h => h) (.inl ⟨by kernel_rfl, fun w' _ => by unfold execOp; go_simp⟩) hS ?_
                  simp only [List.getElem_toArray, List.getElem_cons_zero, List.getElem_cons_succ, Act.put, List.setIfInBounds_toArray, List.set_cons_zero, List.set_cons_succ]
                  refine wpAnyH_take (i := 3) (v := .agg (encA x)) rfl (by kernel_rfl) (by kernel_rfl) (by kernel_rfl) (fun _ _ _ h => h) (yieldsC (by kernel_rfl) (.tmp 5) rfl (g5) (0) rfl x (fun w' hw' => rangeAt_below hw' H5'.out.2 H5'.out.1)) hS ?_
                  simp only [List.getElem_toArray, List.getElem_cons_zero, List.getElem_cons_succ, Act.put, List.setIfInBounds_toArray, List.set_cons_zero, List.set_cons_succ]
                  refine wpAnyH_take (i := 4) (v := .slice (some ⟨go, 0, none⟩) len cap) rfl (by kernel_rfl) (by kernel_rfl) (by kernel_rfl) (fun _ _ _ h => h) (.inl ⟨by kernel_rfl, fun w' _ => by unfold execOp; go_simp⟩) hS ?_
                  simp only [List.getElem_toArray, List.getElem_cons_zero, List.getElem_cons_succ, Act.put, List.setIfInBounds_toArray, List.set_cons_zero, List.set_cons_succ]
                  refine wpAnyH_take (i := 5) (v := .int .i64 (m2 : Int)) rfl (by kernel_rfl) (by kernel_rfl) (by kernel_rfl) (fun _ _ _ h => h) (.inl ⟨by kernel_rfl, fun w' _ => by unfold execOp; go_simp⟩) hS ?_
                  simp only [List.getElem_toArray, List.getElem_cons_zero, List.getElem_cons_succ, Act.put, List.setIfInBounds_toArray, List.set_cons_zero, List.set_cons_succ]
                  refine wpAnyH_take (i := 6) (v := .int .i64 (m : Int)) rfl (by kernel_rfl) (by kernel_rfl) (by kernel_rfl) (fun _ _ _ h => h) (.inl ⟨by kernel_rfl, fun w' _ => by unfold execOp; go_simp; rw [show ((m2 : Int) - 1) = (m : Int) by omega]; exact Go.IntWalk.i64_in _ (by omega)⟩) hS ?_
                  simp only [List.getElem_toArray, List.getElem_cons_zero, List.getElem_cons_succ, Act.put, List.setIfInBounds_toArray, List.set_cons_zero, List.set_cons_succ]
                  refine wpAnyH_take (i := 7) (v := .pointer (some ⟨go, m * 18, none⟩)) rfl (by kernel_rfl) (by kernel_rfl) (by kernel_rfl) (fun _ _ _ h => h) (.inl ⟨by kernel_rfl, fun w' _ => by unfold execOp; go_simp; try (intro h; omega)⟩) hS ?_
                  simp only [List.getElem_toArray, List.getElem_cons_zero, List.getElem_cons_succ, Act.put, List.setIfInBounds_toArray, List.set_cons_zero, List.set_cons_succ]
                  refine wpAnyH_take (i := 8) (v := .agg (encA y)) rfl (by kernel_rfl) (by kernel_rfl) (by kernel_rfl) (fun _ _ _ h => h) (yieldsC (by kernel_rfl) (.tmp 57) rfl (go) (m * 18) rfl y (fun w' hw' => rangeAt_below hw' HY.out.2 HY.out.1)) hS ?_
                  simp only [List.getElem_toArray, List.getElem_cons_zero, List.getElem_cons_succ, Act.put, List.setIfInBounds_toArray, List.set_cons_zero, List.set_cons_succ]
                  refine wpAnyH_ready (rs := [9]) (by kernel_rfl) (by simp) ?_
                  refine AllReadyH.cons rfl (fun K' hK => ?_) AllReadyH.nil
                  refine r_call 23 #[.agg (encA x), .agg (encA y)] (by kernel_rfl) (by kernel_rfl) (.int .i64 c) (HC.out _) (fun V3 h => hK.out _ _ (hS.trans (h.mono hS.size)) (fun hS => ?_))
                  simp only [List.getElem_toArray, List.getElem_cons_zero, List.getElem_cons_succ, Act.put, List.setIfInBounds_toArray, List.set_cons_zero, List.set_cons_succ]
                  refine wpAnyH_take (i := 10) (v := .bool true) rfl (by kernel_rfl) (by kernel_rfl) (by kernel_rfl) (fun _ _ _ h => h) (.inl ⟨by kernel_rfl, fun w' _ => by unfold execOp; go_simp; try omega⟩) hS ?_
                  simp only [List.getElem_toArray, List.getElem_cons_zero, List.getElem_cons_succ, Act.put, List.setIfInBounds_toArray, List.set_cons_zero, List.set_cons_succ]
                  refine wpAnyH_take (i := 11) (v := .bool true) rfl (by kernel_rfl) (by kernel_rfl) (by kernel_rfl) (fun _ _ _ h => h) (.inl ⟨by kernel_rfl, fun w' _ => by unfold execOp; go_simp⟩) hS ?_
                  simp only [List.getElem_toArray, List.getElem_cons_zero, List.getElem_cons_succ, Act.put, List.setIfInBounds_toArray, List.set_cons_zero, List.set_cons_succ]
                  refine wpAnyH_done (by kernel_rfl) ?_ _
                  have HB3 : Hid (Below V2.heap.size V2 V3) := hid (HB5.out.drew.trans (hS.mono HB5.out.size))
                  clear hS HY H5' HB5
                  go_wp2
                  go_roundg m
                  case measure => omega
                  case rel => exact ⟨m, by omega, Nat.le_refl _, by go_num, HB3, hid (fun j h1 h2 => by
                      by_cases e : j = m
                      · subst e; rw [← HL.out]; exact hc
                      · exact HG.out j (by omega) h2)⟩
                · go_wp2_with fail
                  refine wp_region_held_drew (S := fun V => Below wr.heap.size wr.drew V) (by kernel_rfl) (Below.refl _ _) (fun hS => ?_)
                  change wpAnyH _ _ _ _ _ 12 #[false, false, false, false, false, false, false, false, false, false, false, false] _ _
                  refine wpAnyH_take (i := 0) (v := .int .i64 (m2 : Int)) rfl (by kernel_rfl) (by kernel_rfl) (by kernel_rfl) (fun _ _ _ h => h) (.inl ⟨by kernel_rfl, fun w' _ => by unfold execOp; go_simp⟩) hS ?_
                  simp only [List.getElem_toArray, List.getElem_cons_zero, Act.put, List.setIfInBounds_toArray, List.set_cons_zero, List.set_cons_succ]
                  refine wpAnyH_take (i := 1) (v := .bool true) rfl (by kernel_rfl) (by kernel_rfl) (by kernel_rfl) (fun _ _ _ h => h) (.inl ⟨by kernel_rfl, fun w' _ => by unfold execOp; go_simp; try omega⟩) hS ?_
                  simp only [List.getElem_toArray, List.getElem_cons_zero, List.getElem_cons_succ, Act.put, List.setIfInBounds_toArray, List.set_cons_zero, List.set_cons_succ]
                  refine wpAnyH_take (i := 2) (v := .bool true) rfl (by kernel_rfl) (by kernel_rfl) (by kernel_rfl) (fun _ _ _ h => h) (.inl ⟨by kernel_rfl, fun w' _ => by unfold execOp; go_simp⟩) hS ?_
                  simp only [List.getElem_toArray, List.getElem_cons_zero, List.getElem_cons_succ, Act.put, List.setIfInBounds_toArray, List.set_cons_zero, List.set_cons_succ]
                  refine wpAnyH_take (i := 3) (v := .agg (encA x)) rfl (by kernel_rfl) (by kernel_rfl) (by kernel_rfl) (fun _ _ _ h => h) (yieldsC (by kernel_rfl) (.tmp 5) rfl (g5) (0) rfl x (fun w' hw' => rangeAt_below hw' H5'.out.2 H5'.out.1)) hS ?_
                  simp only [List.getElem_toArray, List.getElem_cons_zero, List.getElem_cons_succ, Act.put, List.setIfInBounds_toArray, List.set_cons_zero, List.set_cons_succ]
                  refine wpAnyH_take (i := 4) (v := .slice (some ⟨go, 0, none⟩) len cap) rfl (by kernel_rfl) (by kernel_rfl) (by kernel_rfl) (fun _ _ _ h => h) (.inl ⟨by kernel_rfl, fun w' _ => by unfold execOp; go_simp⟩) hS ?_
                  simp only [List.getElem_toArray, List.getElem_cons_zero, List.getElem_cons_succ, Act.put, List.setIfInBounds_toArray, List.set_cons_zero, List.set_cons_succ]
                  refine wpAnyH_take (i := 5) (v := .int .i64 (m2 : Int)) rfl (by kernel_rfl) (by kernel_rfl) (by kernel_rfl) (fun _ _ _ h => h) (.inl ⟨by kernel_rfl, fun w' _ => by unfold execOp; go_simp⟩) hS ?_
                  simp only [List.getElem_toArray, List.getElem_cons_zero, List.getElem_cons_succ, Act.put, List.setIfInBounds_toArray, List.set_cons_zero, List.set_cons_succ]
                  refine wpAnyH_take (i := 6) (v := .int .i64 (m : Int)) rfl (by kernel_rfl) (by kernel_rfl) (by kernel_rfl) (fun _ _ _ h => h) (.inl ⟨by kernel_rfl, fun w' _ => by unfold execOp; go_simp; rw [show ((m2 : Int) - 1) = (m : Int) by omega]; exact Go.IntWalk.i64_in _ (by omega)⟩) hS ?_
                  simp only [List.getElem_toArray, List.getElem_cons_zero, List.getElem_cons_succ, Act.put, List.setIfInBounds_toArray, List.set_cons_zero, List.set_cons_succ]
                  refine wpAnyH_take (i := 7) (v := .pointer (some ⟨go, m * 18, none⟩)) rfl (by kernel_rfl) (by kernel_rfl) (by kernel_rfl) (fun _ _ _ h => h) (.inl ⟨by kernel_rfl, fun w' _ => by unfold execOp; go_simp; try (intro h; omega)⟩) hS ?_
                  simp only [List.getElem_toArray, List.getElem_cons_zero, List.getElem_cons_succ, Act.put, List.setIfInBounds_toArray, List.set_cons_zero, List.set_cons_succ]
                  refine wpAnyH_take (i := 8) (v := .agg (encA y)) rfl (by kernel_rfl) (by kernel_rfl) (by kernel_rfl) (fun _ _ _ h => h) (yieldsC (by kernel_rfl) (.tmp 57) rfl (go) (m * 18) rfl y (fun w' hw' => rangeAt_below hw' HY.out.2 HY.out.1)) hS ?_
                  simp only [List.getElem_toArray, List.getElem_cons_zero, List.getElem_cons_succ, Act.put, List.setIfInBounds_toArray, List.set_cons_zero, List.set_cons_succ]
                  refine wpAnyH_ready (rs := [9]) (by kernel_rfl) (by simp) ?_
                  refine AllReadyH.cons rfl (fun K' hK => ?_) AllReadyH.nil
                  refine r_call 23 #[.agg (encA x), .agg (encA y)] (by kernel_rfl) (by kernel_rfl) (.int .i64 c) (HC.out _) (fun V3 h => hK.out _ _ (hS.trans (h.mono hS.size)) (fun hS => ?_))
                  simp only [List.getElem_toArray, List.getElem_cons_zero, List.getElem_cons_succ, Act.put, List.setIfInBounds_toArray, List.set_cons_zero, List.set_cons_succ]
                  refine wpAnyH_take (i := 10) (v := .bool false) rfl (by kernel_rfl) (by kernel_rfl) (by kernel_rfl) (fun _ _ _ h => h) (.inl ⟨by kernel_rfl, fun w' _ => by unfold execOp; go_simp; try omega⟩) hS ?_
                  simp only [List.getElem_toArray, List.getElem_cons_zero, List.getElem_cons_succ, Act.put, List.setIfInBounds_toArray, List.set_cons_zero, List.set_cons_succ]
                  refine wpAnyH_take (i := 11) (v := .bool false) rfl (by kernel_rfl) (by kernel_rfl) (by kernel_rfl) (fun _ _ _ h => h) (.inl ⟨by kernel_rfl, fun w' _ => by unfold execOp; go_simp⟩) hS ?_
                  simp only [List.getElem_toArray, List.getElem_cons_zero, List.getElem_cons_succ, Act.put, List.setIfInBounds_toArray, List.set_cons_zero, List.set_cons_succ]
                  refine wpAnyH_done (by kernel_rfl) ?_ _
                  have HB3 : Hid (Below V2.heap.size V2 V3.drew) := hid (HB5.out.drew.trans (hS.mono HB5.out.size)).drew
                  have HINS := hid (ins_at x rs m2 (by have := HR.out.1; omega) (fun q hq => by
                    obtain rfl : q = m := by omega
                    rw [← HL.out]
                    omega) (fun j h1 h2 => HG.out j h1 (by have := HR.out.1; omega)))
                  clear hS HY H5' HB5
                  go_wp2_with fail
                  have HBU := HB3
                  clear HB3
                  generalize V3 = U at HBU ⊢
                  have HBW : Hid (Below w.heap.size w U.drew) := hid (HBW2.out.trans (HBU.out.mono HBW2.out.size))
                  have HEU : Hid (Elems encA 18 U.heap.size U.drew (some ⟨go, 0, none⟩) rs) := hid (fun j hj => ⟨go, 0, rfl, Nat.lt_of_lt_of_le HE.out.1 HBU.out.size, by
                    have := HE.out.2 j (by simpa using hj)
                    rw [getElem!_pos rs j hj] at this
                    rw [Nat.zero_add]
                    exact rangeAt_below HBU.out HE.out.1 this⟩)
                  have H5U : Hid (U.drew.rangeAt g5 0 (encC x) ∧ g5 < U.heap.size) := hid ⟨rangeAt_below HBU.out HK2.out.lt (blk_range HK2.out), Nat.lt_of_lt_of_le HK2.out.lt HBU.out.size⟩
                  refine wp_region_held_drew (S := fun W => Below U.heap.size U.drew W) (by kernel_rfl) (Below.refl _ _) (fun hS => ?_)
                  change wpAnyH _ _ _ _ _ 13 #[false, false, false, false, false, false, false, false, false, false, false, false, false] _ _
                  refine wpAnyH_take (i := 1) (v := .slice (some ⟨go, 0, none⟩) len cap) rfl (by kernel_rfl) (by kernel_rfl) (by kernel_rfl) (fun _ _ _ h => h) (.inl ⟨by kernel_rfl, fun w' _ => by unfold execOp; go_simp⟩) hS ?_
                  simp only [List.getElem_toArray, List.getElem_cons_zero, List.getElem_cons_succ, Act.put, List.setIfInBounds_toArray, List.set_cons_zero, List.set_cons_succ]
                  refine wpAnyH_take (i := 2) (v := .int .i64 (m2 : Int)) rfl (by kernel_rfl) (by kernel_rfl) (by kernel_rfl) (fun _ _ _ h => h) (.inl ⟨by kernel_rfl, fun w' _ => by unfold execOp; go_simp⟩) hS ?_
                  simp only [List.getElem_toArray, List.getElem_cons_zero, List.getElem_cons_succ, Act.put, List.setIfInBounds_toArray, List.set_cons_zero, List.set_cons_succ]
                  refine wpAnyH_take (i := 3) (v := .slice (some ⟨go, 0, none⟩) m2 cap) rfl (by kernel_rfl) (by kernel_rfl) (by kernel_rfl) (fun _ _ _ h => h) (.inl ⟨by kernel_rfl, fun w' _ => exec_cutHK (.tmp 65) (.tmp 66) rfl (some ⟨go, 0, none⟩) len cap m2 rfl rfl (by omega)⟩) hS ?_
                  simp only [List.getElem_toArray, List.getElem_cons_zero, List.getElem_cons_succ, Act.put, List.setIfInBounds_toArray, List.set_cons_zero, List.set_cons_succ]
                  refine wpAnyH_take (i := 5) (v := .agg (encA x)) rfl (by kernel_rfl) (by kernel_rfl) (by kernel_rfl) (fun _ _ _ h => h) (yieldsC (by kernel_rfl) (.tmp 5) rfl (g5) (0) rfl x (fun w' hw' => rangeAt_below hw' H5U.out.2 H5U.out.1)) hS ?_
                  simp only [List.getElem_toArray, List.getElem_cons_zero, List.getElem_cons_succ, Act.put, List.setIfInBounds_toArray, List.set_cons_zero, List.set_cons_succ]
                  refine wpAnyH_take (i := 8) (v := .slice (some ⟨go, 0, none⟩) len cap) rfl (by kernel_rfl) (by kernel_rfl) (by kernel_rfl) (fun _ _ _ h => h) (.inl ⟨by kernel_rfl, fun w' _ => by unfold execOp; go_simp⟩) hS ?_
                  simp only [List.getElem_toArray, List.getElem_cons_zero, List.getElem_cons_succ, Act.put, List.setIfInBounds_toArray, List.set_cons_zero, List.set_cons_succ]
                  refine wpAnyH_take (i := 9) (v := .int .i64 (m2 : Int)) rfl (by kernel_rfl) (by kernel_rfl) (by kernel_rfl) (fun _ _ _ h => h) (.inl ⟨by kernel_rfl, fun w' _ => by unfold execOp; go_simp⟩) hS ?_
                  simp only [List.getElem_toArray, List.getElem_cons_zero, List.getElem_cons_succ, Act.put, List.setIfInBounds_toArray, List.set_cons_zero, List.set_cons_succ]
                  refine wpAnyH_take (i := 10) (v := .slice (cutK (some ⟨go, 0, none⟩) cap m2) (len - m2) (cap - m2)) rfl (by kernel_rfl) (by kernel_rfl) (by kernel_rfl) (fun _ _ _ h => h) (.inl ⟨by kernel_rfl, fun w' _ => exec_cutLK (.tmp 72) (.tmp 73) rfl (some ⟨go, 0, none⟩) len cap m2 rfl rfl (by omega)⟩) hS ?_
                  simp only [List.getElem_toArray, List.getElem_cons_zero, List.getElem_cons_succ, Act.put, List.setIfInBounds_toArray, List.set_cons_zero, List.set_cons_succ]
                  have HT2 : Hid ((rs.take m2).length = m2) := hid (by rw [List.length_take]; have := HR.out.1; omega)
                  have hln : len = rs.length := HR.out.1
                  have HDL : Hid ((rs.drop m2).length = len - m2) := hid (by rw [List.length_drop, hln])
                  have HD := elems_drop HEU.out (by omega : rs.length ≤ cap) (fun e => by cases e) m2 (by omega)
                  refine wpAnyH_ready (rs := [0, 6]) (by kernel_rfl) (by simp) ?_
                  refine AllReadyH.cons rfl (fun K' hK => ?_) (AllReadyH.cons rfl (fun K' hK => ?_) AllReadyH.nil)
                  ·
                    refine r_lit0 rfl U.heap.size (by first | exact Nat.le_refl _ | exact hS.size) (by kernel_rfl) (fun A hoA hzA hgA => hK.out _ _ (hS.grown hgA (by first | exact Nat.le_refl _ | exact hS.size) (fun k e => by cases e)) (fun hS => ?_))
                    simp only [List.getElem_toArray, List.getElem_cons_zero, Act.put, List.setIfInBounds_toArray, List.set_cons_zero, List.set_cons_succ]
                    refine wpAnyH_ready (rs := [4, 6]) (by kernel_rfl) (by simp) ?_
                    refine AllReadyH.cons rfl (fun K' hK => ?_) (AllReadyH.cons rfl (fun K' hK => ?_) AllReadyH.nil)
                    ·
                      have own0 := hoA
                      refine r_appK (.tmp 64) (.tmp 67) rfl U.heap.size _ 0 (flatY encA []) rfl own0 (some ⟨go, 0, none⟩) m2 cap (rs.take m2) rfl HT2.out U.heap.size ((elems_take HEU.out m2).below hS) (fun e => by cases e) (by omega) hS.size (by kernel_rfl) (fun v1 w1 h1 q1 => hK.out _ _ (hS.grown q1 (by first | exact Nat.le_refl _ | exact hS.size) (fun k e => own_block_le own0 e)) (fun hS => ?_))
                      simp only [List.getElem_toArray, List.getElem_cons_zero, List.getElem_cons_succ, Act.put, List.setIfInBounds_toArray, List.set_cons_zero, List.set_cons_succ]
                      refine wpAnyH_ready (rs := [6]) (by kernel_rfl) (by simp) ?_
                      refine AllReadyH.cons rfl (fun K' hK => ?_) AllReadyH.nil
                      refine r_lit1 (.tmp 69) rfl x rfl (by kernel_rfl) (fun C hlC hzC hgC => hK.out _ _ (hS.grown hgC (by first | exact Nat.le_refl _ | exact hS.size) (fun k e => by cases e)) (fun hS => ?_))
                      simp only [List.getElem_toArray, List.getElem_cons_zero, List.getElem_cons_succ, Act.put, List.setIfInBounds_toArray, List.set_cons_zero, List.set_cons_succ]
                      have own1 := ownsRow_below h1 (grown_below hgC)
                      have lit1 := hlC
                      refine wpAnyH_ready (rs := [7]) (by kernel_rfl) (by simp) ?_
                      refine AllReadyH.cons rfl (fun K' hK => ?_) AllReadyH.nil
                      refine r_appK (.tmp 68) (.tmp 70) rfl U.heap.size v1 _ _ rfl own1 _ 1 1 [x] rfl rfl _ lit1 (fun e => by cases e) (by omega) hS.size (by kernel_rfl) (fun v2 w2 h2 q2 => hK.out _ _ (hS.grown q2 (by first | exact Nat.le_refl _ | exact hS.size) (fun k e => own_block_le own1 e)) (fun hS => ?_))
                      simp only [List.getElem_toArray, List.getElem_cons_zero, List.getElem_cons_succ, Act.put, List.setIfInBounds_toArray, List.set_cons_zero, List.set_cons_succ]
                      refine wpAnyH_ready (rs := [11]) (by kernel_rfl) (by simp) ?_
                      refine AllReadyH.cons rfl (fun K' hK => ?_) AllReadyH.nil
                      refine r_appK (.tmp 71) (.tmp 74) rfl U.heap.size v2 _ _ rfl h2 (cutK (some ⟨go, 0, none⟩) cap m2) (len - m2) (cap - m2) (rs.drop m2) rfl HDL.out U.heap.size (HD.1.below hS) (fun e => by have := HD.2 e; omega) (by omega) hS.size (by kernel_rfl) (fun v3 w3 h3 q3 => ?_)
                      have h4 := own_ins hln hm2 h3
                      have hbk := fun k (e : v2.ownBlock = some k) => own_block_le h2 e
                      obtain ⟨g', cap', rfl⟩ := ownsRow_succ h4
                      refine hK.out _ _ (hS.grown q3 (by first | exact Nat.le_refl _ | exact hS.size) (fun k e => hbk k e)) (fun hS => ?_)
                      simp only [List.getElem_toArray, List.getElem_cons_zero, List.getElem_cons_succ, Act.put, List.setIfInBounds_toArray, List.set_cons_zero, List.set_cons_succ]
                      refine wpAnyH_take (i := 12) (v := .slice (some ⟨g', 0, none⟩) (len + 1) cap') rfl (by kernel_rfl) (by kernel_rfl) (by kernel_rfl) (fun _ _ _ h => h) (.inl ⟨by kernel_rfl, fun w' _ => by unfold execOp; go_simp⟩) hS ?_
                      simp only [List.getElem_toArray, List.getElem_cons_zero, List.getElem_cons_succ, Act.put, List.setIfInBounds_toArray, List.set_cons_zero, List.set_cons_succ]
                      refine wpAnyH_done (by kernel_rfl) ?_ _
                      have HF9 : Hid ((len + 1 = (rs.take m2 ++ (x :: rs.drop m2)).length ∧ w3.ownsRow w.heap.size 29 18 (.slice (some ⟨g', 0, none⟩) (len + 1) cap') (len + 1) (flatY encA (rs.take m2 ++ (x :: rs.drop m2)))) ∧ Below w.heap.size w w3 ∧ DocOf cmpS covS rightS xs (p + 1) (rs.take m2 ++ (x :: rs.drop m2))) := hid ⟨⟨by rw [List.length_append, List.length_cons, HT2.out, HDL.out]; omega, ownsRow_mono h4 HBW.out.size⟩, HBW.out.trans (hS.mono HBW.out.size), by rw [HINS.out]; exact HPut.out⟩
                      clear hS h4 h3 h2 own1 lit1 HD HEU H5U hK hln
                      go_wp2
                      go_roundg (q - (p + 1))
                      case measure => omega
                      case rel => exact ⟨p + 1, len + 1, _, g', cap', by go_num, by omega, Nat.le_refl _, by omega, rfl, hid HF9.out.1, hid HF9.out.2.1, hid HF9.out.2.2⟩
                    ·
                      refine r_lit1 (.tmp 69) rfl x rfl (by kernel_rfl) (fun B hlB hzB hgB => hK.out _ _ (hS.grown hgB (by first | exact Nat.le_refl _ | exact hS.size) (fun k e => by cases e)) (fun hS => ?_))
                      simp only [List.getElem_toArray, List.getElem_cons_zero, List.getElem_cons_succ, Act.put, List.setIfInBounds_toArray, List.set_cons_zero, List.set_cons_succ]
                      refine wpAnyH_ready (rs := [4]) (by kernel_rfl) (by simp) ?_
                      refine AllReadyH.cons rfl (fun K' hK => ?_) AllReadyH.nil
                      have own0 := ownsRow_below hoA (grown_below hgB)
                      refine r_appK (.tmp 64) (.tmp 67) rfl U.heap.size _ 0 (flatY encA []) rfl own0 (some ⟨go, 0, none⟩) m2 cap (rs.take m2) rfl HT2.out U.heap.size ((elems_take HEU.out m2).below hS) (fun e => by cases e) (by omega) hS.size (by kernel_rfl) (fun v1 w1 h1 q1 => hK.out _ _ (hS.grown q1 (by first | exact Nat.le_refl _ | exact hS.size) (fun k e => own_block_le own0 e)) (fun hS => ?_))
                      simp only [List.getElem_toArray, List.getElem_cons_zero, List.getElem_cons_succ, Act.put, List.setIfInBounds_toArray, List.set_cons_zero, List.set_cons_succ]
                      have own1 := h1
                      have lit1 := elems_grown hlB (by omega) q1 (fun e => absurd (Option.some.inj (show some A.heap.size = some U.drew.heap.size from e)) (by omega))
                      refine wpAnyH_ready (rs := [7]) (by kernel_rfl) (by simp) ?_
                      refine AllReadyH.cons rfl (fun K' hK => ?_) AllReadyH.nil
                      refine r_appK (.tmp 68) (.tmp 70) rfl U.heap.size v1 _ _ rfl own1 _ 1 1 [x] rfl rfl _ lit1 (fun e => by cases e) (by omega) hS.size (by kernel_rfl) (fun v2 w2 h2 q2 => hK.out _ _ (hS.grown q2 (by first | exact Nat.le_refl _ | exact hS.size) (fun k e => own_block_le own1 e)) (fun hS => ?_))
                      simp only [List.getElem_toArray, List.getElem_cons_zero, List.getElem_cons_succ, Act.put, List.setIfInBounds_toArray, List.set_cons_zero, List.set_cons_succ]
                      refine wpAnyH_ready (rs := [11]) (by kernel_rfl) (by simp) ?_
                      refine AllReadyH.cons rfl (fun K' hK => ?_) AllReadyH.nil
                      refine r_appK (.tmp 71) (.tmp 74) rfl U.heap.size v2 _ _ rfl h2 (cutK (some ⟨go, 0, none⟩) cap m2) (len - m2) (cap - m2) (rs.drop m2) rfl HDL.out U.heap.size (HD.1.below hS) (fun e => by have := HD.2 e; omega) (by omega) hS.size (by kernel_rfl) (fun v3 w3 h3 q3 => ?_)
                      have h4 := own_ins hln hm2 h3
                      have hbk := fun k (e : v2.ownBlock = some k) => own_block_le h2 e
                      obtain ⟨g', cap', rfl⟩ := ownsRow_succ h4
                      refine hK.out _ _ (hS.grown q3 (by first | exact Nat.le_refl _ | exact hS.size) (fun k e => hbk k e)) (fun hS => ?_)
                      simp only [List.getElem_toArray, List.getElem_cons_zero, List.getElem_cons_succ, Act.put, List.setIfInBounds_toArray, List.set_cons_zero, List.set_cons_succ]
                      refine wpAnyH_take (i := 12) (v := .slice (some ⟨g', 0, none⟩) (len + 1) cap') rfl (by kernel_rfl) (by kernel_rfl) (by kernel_rfl) (fun _ _ _ h => h) (.inl ⟨by kernel_rfl, fun w' _ => by unfold execOp; go_simp⟩) hS ?_
                      simp only [List.getElem_toArray, List.getElem_cons_zero, List.getElem_cons_succ, Act.put, List.setIfInBounds_toArray, List.set_cons_zero, List.set_cons_succ]
                      refine wpAnyH_done (by kernel_rfl) ?_ _
                      have HF9 : Hid ((len + 1 = (rs.take m2 ++ (x :: rs.drop m2)).length ∧ w3.ownsRow w.heap.size 29 18 (.slice (some ⟨g', 0, none⟩) (len + 1) cap') (len + 1) (flatY encA (rs.take m2 ++ (x :: rs.drop m2)))) ∧ Below w.heap.size w w3 ∧ DocOf cmpS covS rightS xs (p + 1) (rs.take m2 ++ (x :: rs.drop m2))) := hid ⟨⟨by rw [List.length_append, List.length_cons, HT2.out, HDL.out]; omega, ownsRow_mono h4 HBW.out.size⟩, HBW.out.trans (hS.mono HBW.out.size), by rw [HINS.out]; exact HPut.out⟩
                      clear hS h4 h3 h2 own1 lit1 HD HEU H5U hK hln
                      go_wp2
                      go_roundg (q - (p + 1))
                      case measure => omega
                      case rel => exact ⟨p + 1, len + 1, _, g', cap', by go_num, by omega, Nat.le_refl _, by omega, rfl, hid HF9.out.1, hid HF9.out.2.1, hid HF9.out.2.2⟩
                  ·
                    refine r_lit1 (.tmp 69) rfl x rfl (by kernel_rfl) (fun A hlA hzA hgA => hK.out _ _ (hS.grown hgA (by first | exact Nat.le_refl _ | exact hS.size) (fun k e => by cases e)) (fun hS => ?_))
                    simp only [List.getElem_toArray, List.getElem_cons_zero, List.getElem_cons_succ, Act.put, List.setIfInBounds_toArray, List.set_cons_zero, List.set_cons_succ]
                    refine wpAnyH_ready (rs := [0]) (by kernel_rfl) (by simp) ?_
                    refine AllReadyH.cons rfl (fun K' hK => ?_) AllReadyH.nil
                    refine r_lit0 rfl U.heap.size (by first | exact Nat.le_refl _ | exact hS.size) (by kernel_rfl) (fun B hoB hzB hgB => hK.out _ _ (hS.grown hgB (by first | exact Nat.le_refl _ | exact hS.size) (fun k e => by cases e)) (fun hS => ?_))
                    simp only [List.getElem_toArray, List.getElem_cons_zero, Act.put, List.setIfInBounds_toArray, List.set_cons_zero, List.set_cons_succ]
                    refine wpAnyH_ready (rs := [4]) (by kernel_rfl) (by simp) ?_
                    refine AllReadyH.cons rfl (fun K' hK => ?_) AllReadyH.nil
                    have own0 := hoB
                    refine r_appK (.tmp 64) (.tmp 67) rfl U.heap.size _ 0 (flatY encA []) rfl own0 (some ⟨go, 0, none⟩) m2 cap (rs.take m2) rfl HT2.out U.heap.size ((elems_take HEU.out m2).below hS) (fun e => by cases e) (by omega) hS.size (by kernel_rfl) (fun v1 w1 h1 q1 => hK.out _ _ (hS.grown q1 (by first | exact Nat.le_refl _ | exact hS.size) (fun k e => own_block_le own0 e)) (fun hS => ?_))
                    simp only [List.getElem_toArray, List.getElem_cons_zero, List.getElem_cons_succ, Act.put, List.setIfInBounds_toArray, List.set_cons_zero, List.set_cons_succ]
                    have own1 := h1
                    have lit1 := elems_grown (elems_grown hlA (by omega) hgB (fun e => by cases e)) (by omega) q1 (fun e => absurd (Option.some.inj (show some U.drew.heap.size = some A.heap.size from e)) (by omega))
                    refine wpAnyH_ready (rs := [7]) (by kernel_rfl) (by simp) ?_
                    refine AllReadyH.cons rfl (fun K' hK => ?_) AllReadyH.nil
                    refine r_appK (.tmp 68) (.tmp 70) rfl U.heap.size v1 _ _ rfl own1 _ 1 1 [x] rfl rfl _ lit1 (fun e => by cases e) (by omega) hS.size (by kernel_rfl) (fun v2 w2 h2 q2 => hK.out _ _ (hS.grown q2 (by first | exact Nat.le_refl _ | exact hS.size) (fun k e => own_block_le own1 e)) (fun hS => ?_))
                    simp only [List.getElem_toArray, List.getElem_cons_zero, List.getElem_cons_succ, Act.put, List.setIfInBounds_toArray, List.set_cons_zero, List.set_cons_succ]
                    refine wpAnyH_ready (rs := [11]) (by kernel_rfl) (by simp) ?_
                    refine AllReadyH.cons rfl (fun K' hK => ?_) AllReadyH.nil
                    refine r_appK (.tmp 71) (.tmp 74) rfl U.heap.size v2 _ _ rfl h2 (cutK (some ⟨go, 0, none⟩) cap m2) (len - m2) (cap - m2) (rs.drop m2) rfl HDL.out U.heap.size (HD.1.below hS) (fun e => by have := HD.2 e; omega) (by omega) hS.size (by kernel_rfl) (fun v3 w3 h3 q3 => ?_)
                    have h4 := own_ins hln hm2 h3
                    have hbk := fun k (e : v2.ownBlock = some k) => own_block_le h2 e
                    obtain ⟨g', cap', rfl⟩ := ownsRow_succ h4
                    refine hK.out _ _ (hS.grown q3 (by first | exact Nat.le_refl _ | exact hS.size) (fun k e => hbk k e)) (fun hS => ?_)
                    simp only [List.getElem_toArray, List.getElem_cons_zero, List.getElem_cons_succ, Act.put, List.setIfInBounds_toArray, List.set_cons_zero, List.set_cons_succ]
                    refine wpAnyH_take (i := 12) (v := .slice (some ⟨g', 0, none⟩) (len + 1) cap') rfl (by kernel_rfl) (by kernel_rfl) (by kernel_rfl) (fun _ _ _ h => h) (.inl ⟨by kernel_rfl, fun w' _ => by unfold execOp; go_simp⟩) hS ?_
                    simp only [List.getElem_toArray, List.getElem_cons_zero, List.getElem_cons_succ, Act.put, List.setIfInBounds_toArray, List.set_cons_zero, List.set_cons_succ]
                    refine wpAnyH_done (by kernel_rfl) ?_ _
                    have HF9 : Hid ((len + 1 = (rs.take m2 ++ (x :: rs.drop m2)).length ∧ w3.ownsRow w.heap.size 29 18 (.slice (some ⟨g', 0, none⟩) (len + 1) cap') (len + 1) (flatY encA (rs.take m2 ++ (x :: rs.drop m2)))) ∧ Below w.heap.size w w3 ∧ DocOf cmpS covS rightS xs (p + 1) (rs.take m2 ++ (x :: rs.drop m2))) := hid ⟨⟨by rw [List.length_append, List.length_cons, HT2.out, HDL.out]; omega, ownsRow_mono h4 HBW.out.size⟩, HBW.out.trans (hS.mono HBW.out.size), by rw [HINS.out]; exact HPut.out⟩
                    clear hS h4 h3 h2 own1 lit1 HD HEU H5U hK hln
                    go_wp2
                    go_roundg (q - (p + 1))
                    case measure => omega
                    case rel => exact ⟨p + 1, len + 1, _, g', cap', by go_num, by omega, Nat.le_refl _, by omega, rfl, hid HF9.out.1, hid HF9.out.2.1, hid HF9.out.2.2⟩
    · obtain rfl : p = n := by omega
      have F : Hid (∃ v rs, Ending.returned (.slice (some ⟨go, 0, none⟩) len cap) = .returned v ∧ wr.ownsRow w.heap.size 29 18 v rs.length (flatY encA rs) ∧ Below w.heap.size w wr ∧ DocOf cmpS covS rightS xs p rs) := hid ⟨_, rs, rfl, by have h := HR.out; rw [← h.1]; exact h.2, HB.out, HF.out⟩
      clear HI
      go_wp2
      go_ret
      exact F.out
end Go.Proofs.YtijboclcbbnhbaaGreatDoor
