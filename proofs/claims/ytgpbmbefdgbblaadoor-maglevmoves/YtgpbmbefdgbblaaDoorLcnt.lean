/-
  maglev: Counts.
-/
import Derived.Test.YtgpbmbefdgbblaaDoorLsam
namespace Go.Proofs.YtgpbmbefdgbblaaDoor
open Go.RowKit Go.Lib

/-- How many places each backend has. -/
def countsT (n : Nat) (L : List Int) : List Int := (List.range n).map fun i : Nat => ((L.count (i : Int) : Nat) : Int)
theorem countsT_length (n : Nat) (L : List Int) : (countsT n L).length = n := by simp [countsT]
theorem countsT_get (n : Nat) (L : List Int) {i : Nat} (h : i < n) : (countsT n L).getD i 0 = ((L.count (i : Int) : Nat) : Int) := by
  simp [countsT, List.getD, h]
theorem countsT_nil (n : Nat) : countsT n [] = List.replicate n 0 := by
  apply List.ext_getElem
  · simp [countsT]
  · intro i h1 h2
    simp [countsT]
theorem countsT_in (n : Nat) (L : List Int) (k : Nat) (h : k < n) : countsT n (L ++ [(k : Int)]) = (countsT n L).set k ((countsT n L).getD k 0 + 1) := by
  obtain ⟨v, hv⟩ : ∃ v, v = (countsT n L).getD k 0 := ⟨_, rfl⟩
  rw [← hv]
  rw [countsT_get n L h] at hv
  subst hv
  apply List.ext_getElem
  · simp [countsT]
  · intro i h1 h2
    have hi : i < n := by simpa [countsT] using h1
    rw [List.getElem_set]
    simp only [countsT, List.getElem_map, List.getElem_range, List.count_append, List.count_singleton]
    by_cases e : k = i
    · subst e
      simp
    · rw [if_neg e]
      have : ¬ ((k : Int) == (i : Int)) = true := by simp; omega
      simp [this]
theorem countsT_out (n : Nat) (L : List Int) (x : Int) (h : ¬ (0 ≤ x ∧ x < n)) : countsT n (L ++ [x]) = countsT n L := by
  apply List.ext_getElem
  · simp [countsT]
  · intro i h1 h2
    have hi : i < n := by simpa [countsT] using h1
    simp only [countsT, List.getElem_map, List.getElem_range, List.count_append, List.count_singleton]
    have : ¬ (x == (i : Int)) = true := by simp; omega
    simp [this]
theorem slot_made (w : World) (n : Nat) : SlotB (w.alloc (.cells (madeCells #[.int .i64 0] n) 3)) w.heap.size (List.replicate n 0) := by
  obtain ⟨c, h1, h2, h3⟩ := World.rowIs_made w (.int .i64 0) n 3
  unfold SlotB Blk
  rw [h1]
  congr 2
  apply Array.ext_getElem?
  intro i
  rw [show ((List.replicate n (0 : Int)).map (Value.int .i64)).toArray[i]? = (List.replicate n (Value.int .i64 0))[i]? by rw [List.getElem?_toArray, List.map_replicate], List.getElem?_replicate]
  by_cases hi : i < n
  · rw [h3 i hi, if_pos hi]
  · rw [if_neg hi, Array.getElem?_eq_none (by omega)]

set_option linter.unusedSimpArgs false in
set_option maxRecDepth 100000 in
set_option maxHeartbeats 4000000 in
theorem counts_any (m : Int) (bs : List PS) (L : List Int) (ab as' : Option Addr) (cb cs : Nat) (hLm : L.length ≤ 100000) (hbm : bs.length ≤ 100000) (w : World) (hT : TabIn w.heap.size w ab as' bs L) :
    Calls Tryd.prog 9 #[.agg #[.int .i64 m, .slice ab bs.length cb, .slice as' L.length cs]] w fun e w' => ∃ C, e = .returned (.slice (some ⟨C, 0, none⟩) bs.length bs.length) ∧ w.heap.size ≤ C ∧ SlotB w' C (countsT bs.length L) ∧ Below w.heap.size w w' := by
  obtain ⟨W0, hW0⟩ : ∃ W, W = w.alloc (.cells #[.int .i64 m, .slice ab bs.length cb, .slice as' L.length cs] 26) := ⟨_, rfl⟩
  have s0 : W0.heap.size = w.heap.size + 1 := by rw [hW0]; simp
  have b0 : Below w.heap.size w W0 := hW0 ▸ (Below.refl _ _).alloc (Nat.le_refl _) _
  have k0 : Blk W0 w.heap.size 26 #[.int .i64 m, .slice ab bs.length cb, .slice as' L.length cs] := hW0 ▸ Blk.new w _ _
  obtain ⟨n, hn⟩ : ∃ n, n = bs.length := ⟨_, rfl⟩
  obtain ⟨l, hl⟩ : ∃ l, l = L.length := ⟨_, rfl⟩
  have HH := hid (fun (who : Int) W => has_any m who ab as' bs.length cb L.length cs W)
  rw [← hn] at hW0 k0 HH hbm ⊢
  rw [← hl] at hW0 k0 HH hLm ⊢
  obtain ⟨W1, hW1⟩ : ∃ W, W = W0.alloc (.cells (madeCells #[.int .i64 0] n) 3) := ⟨_, rfl⟩
  have b1 : Below W0.heap.size W0 W1 := hW1 ▸ (Below.refl _ _).alloc (Nat.le_refl _) _
  have hmk := run_make_row' (P := Tryd.prog) 24 3 (.int .i64 0) 8 Tryd.underlying24 Tryd.infoIntV rfl .i64 .i64 n (by omega) (by omega)
  have HW0 := hid hW0.symm
  have HW1 : Hid (W0.alloc (.cells (madeCells #[.int .i64 0] n) 3) = W1) := hid hW1.symm
  have HS0 : Hid (w.heap.size + 1 = W0.heap.size) := hid s0.symm
  have HB1 := hid (bel2 b0 b1)
  have HK1 := hid (k0.kept b1)
  have HT1 := hid (hT.ints.below (bel2 b0 b1))
  have HC1 : Hid (SlotB W1 W0.heap.size (countsT n (L.take 0))) := hid (by rw [List.take_zero, countsT_nil, hW1]; exact slot_made W0 n)
  have Hl := hid hl
  have c1 : W0.cell? ⟨w.heap.size, 1, none⟩ = some (.slice ab n cb) := k0.cell 1
  have c2 : W1.cell? ⟨w.heap.size, 2, none⟩ = some (.slice as' l cs) := HK1.out.cell 2
  clear hW0 hW1 s0 b0 b1 k0 hT hn hl
  go_enter Tryd.func9, Tryd.ntmps9
  go_upto_region 1 with fail
  rw [HW0.out]
  go_upto_region 2 with fail
  rw [HW1.out]
  go_wp2
  clear hmk
  generalize W0.heap.size = C at *
  go_loopg [13] l (fun g s13 wr => ∃ p : Nat, s13 = .int .i64 (p : Int) ∧ p ≤ l ∧ l - p ≤ g ∧ Hid (W1.grownBy wr (some C)) ∧ Hid (SlotB wr C (countsT n (L.take p))))
  case atStart => exact ⟨0, rfl, by omega, by omega, hid (World.grownBy.refl _ _), HC1⟩
  case round =>
    obtain ⟨p, rfl, hp, hgp, HG, HC⟩ := hrel
    have hC := HS0.out
    have k2 := HK1.out.grown HG.out (fun e => by have := Option.some.inj e; omega)
    by_cases hlt : p < l
    · have hpl : p < L.length := by have := Hl.out; omega
      obtain ⟨g, o, rfl, hg, hc⟩ := HT1.out p hpl
      obtain ⟨x, hx⟩ : ∃ x, x = L.getD p 0 := ⟨_, rfl⟩
      have d0 : wr.cell? ⟨g, o + p, none⟩ = some (.int .i64 x) := by
        rw [hx, ← hc]
        exact World.cell?_of_block (a := ⟨g, o + p, none⟩) (HG.out.block g (by have := HB1.out.size; omega) (fun e => by have := Option.some.inj e; omega))
      have d1 : wr.cell? ⟨w.heap.size, 0, none⟩ = some (.int .i64 m) := k2.cell 0
      have d2 : wr.cell? ⟨w.heap.size, 1, none⟩ = some (.slice ab n cb) := k2.cell 1
      have d3 : wr.cell? ⟨w.heap.size, 2, none⟩ = some (.slice (some ⟨g, o, none⟩) l cs) := k2.cell 2
      have HT : Hid (L.take (p + 1) = L.take p ++ [x]) := hid (by
        rw [hx, List.getD_eq_getElem?_getD, List.getElem?_eq_getElem hpl]
        exact List.take_succ_eq_append_getElem hpl)
      have HHx := hid (HH.out x wr)
      clear hc hx hpl hg c1 c2
      by_cases hin : 0 ≤ x ∧ x < n
      · obtain ⟨k, rfl⟩ : ∃ k : Nat, x = (k : Int) := ⟨x.toNat, by omega⟩
        have hk : k < n := by omega
        have hq : (decide (0 ≤ (k : Int)) && decide ((k : Int) < (n : Int))) = true := by rw [Bool.and_eq_true, decide_eq_true_eq, decide_eq_true_eq]; omega
        rw [hq] at HHx
        obtain ⟨v, hv⟩ : ∃ v, v = (countsT n (L.take p)).getD k 0 := ⟨_, rfl⟩
        have hv0 : 0 ≤ v ∧ v ≤ 100000 := by
          rw [hv, countsT_get n _ hk]
          have h1 := List.count_le_length (a := (k : Int)) (l := L.take p)
          rw [List.length_take] at h1
          omega
        have HE : Hid (countsT n (L.take (p + 1)) = (countsT n (L.take p)).set k (v + 1)) := hid (by rw [HT.out, countsT_in n _ k hk, hv])
        have HV := hid hv
        clear hq hv
        go_wp2_with fail
        refine HHx.out.mono ?_
        rintro e w2 ⟨rfl, hb⟩
        have hc2 : SlotB w2 C (countsT n (L.take p)) := Blk.kept HC.out hb
        have e1 : w2.cell? ⟨C, k, none⟩ = some (.int .i64 v) := by rw [HV.out]; exact hc2.cell (by rw [countsT_length]; exact hk)
        have e2 : w2.frozen? ⟨C, k, none⟩ = false := Blk.frozen hc2 k
        have HC2 : Hid (SlotB (w2.setCell ⟨C, k, none⟩ (.int .i64 (v + 1))) C (countsT n (L.take (p + 1)))) := hid (by rw [HE.out]; exact hc2.set k (v + 1))
        have HG2 : Hid (W1.grownBy (w2.setCell ⟨C, k, none⟩ (.int .i64 (v + 1))) (some C)) := hid (grown_trans (grown_below HG.out hb) (grown_set w2 C k _))
        clear hb hc2 k2 d0 d1 d2 d3
        go_wp2
        go_roundg (l - (p + 1))
        case measure => omega
        case rel => exact ⟨p + 1, by go_num, by omega, Nat.le_refl _, HG2, HC2⟩
      · have hq : (decide (0 ≤ x) && decide (x < (n : Int))) = false := by
          rw [Bool.and_eq_false_iff, decide_eq_false_iff_not, decide_eq_false_iff_not]
          omega
        rw [hq] at HHx
        have HE : Hid (countsT n (L.take (p + 1)) = countsT n (L.take p)) := hid (by rw [HT.out, countsT_out n _ x hin])
        clear hq hin
        go_wp2_with fail
        refine HHx.out.mono ?_
        rintro e w2 ⟨rfl, hb⟩
        have HC2 : Hid (SlotB w2 C (countsT n (L.take (p + 1)))) := hid (by rw [HE.out]; exact Blk.kept HC.out hb)
        have HG2 : Hid (W1.grownBy w2 (some C)) := hid (grown_below HG.out hb)
        clear hb k2 d0 d1 d2 d3
        go_wp2
        go_roundg (l - (p + 1))
        case measure => omega
        case rel => exact ⟨p + 1, by go_num, by omega, Nat.le_refl _, HG2, HC2⟩
    · obtain rfl : p = l := by omega
      have F : Hid (SlotB wr C (countsT n L)) := hid (by
        have := HC.out
        rwa [List.take_of_length_le (by have := Hl.out; omega)] at this)
      have FB : Hid (Below w.heap.size w wr) := hid (HB1.out.grown HG.out HB1.out.size (fun i hi => by cases hi; omega))
      clear k2 c1 c2
      go_wp2
      go_ret
      exact ⟨C, rfl, by omega, F.out, FB.out⟩
end Go.Proofs.YtgpbmbefdgbblaaDoor
