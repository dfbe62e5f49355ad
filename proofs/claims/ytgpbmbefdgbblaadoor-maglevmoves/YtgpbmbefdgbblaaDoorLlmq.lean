/-
  The law MaglevMoves, in parts.
-/
import Derived.Test.YtgpbmbefdgbblaaDoorLlmn
namespace Go.Proofs.YtgpbmbefdgbblaaDoor
open Go.RowKit Go.Lib

set_option linter.unusedSimpArgs false in
set_option linter.unusedVariables false in
set_option maxRecDepth 100000 in
set_option maxHeartbeats 8000000 in
theorem moves_eo (E : Nat → TypeId × Value) (ax ay : Option Addr) (cx cy : Nat) (xs ys : List PS) (hcx : xs.length ≤ cx) (hcy : ys.length ≤ cy) (m : Int) (h : xs.length ≤ 40) (h' : ys.length ≤ 40) (hf1 : fillE xs m ≠ 0) (hf2 : fillE ys m = 0) (w : World) (hE : MEnv E w) (hX : Elems encP 18 w.heap.size w ax xs) (hY : Elems encP 18 w.heap.size w ay ys) :
    Calls Tryd.prog 4 #[.slice ax xs.length cx, .slice ay ys.length cy, .int .i64 m] w fun e w' => e = .returned (.bool true) ∧ Below w.heap.size w w' := by
  have HA := hid (malive_any E w hE)
  have HF1 : Hid (∀ W, Below w.heap.size w W → Calls Tryd.prog 6 #[.slice ax xs.length cx, .int .i64 m] W (FillEnd E xs m W)) := hid (fun W hb => fill_any E ax cx xs hcx (by omega) m W (hE.kept hb) ((hX.below hb).mono hb.size))
  have HF2 : Hid (∀ W, Below w.heap.size w W → Calls Tryd.prog 6 #[.slice ay ys.length cy, .int .i64 m] W (FillEnd E ys m W)) := hid (fun W hb => fill_any E ay cy ys hcy (by omega) m W (hE.kept hb) ((hY.below hb).mono hb.size))
  have HL1 : Hid (xs.length ≤ 1000) := hid (by omega)
  have HL2 : Hid (ys.length ≤ 1000) := hid (by omega)
  clear hE hX hY hcx hcy
  go_enter Tryd.func4, Tryd.ntmps4
  go_wp2_with fail
  refine HA.out.mono ?_
  rintro e w1 ⟨rfl, hb⟩
  have Hb1 := hid hb
  clear hb
  go_wp2_with fail
  refine (HF1.out _ Hb1.out).mono ?_
  intro e w2 hf
  obtain ⟨hb2, hf⟩ := hf.tab
  have Hb2 := hid (bel2 Hb1.out hb2)
  have HF := hid hf
  clear hf hb2 HF1 HA
  rcases HF.out with ⟨_, rfl⟩ | ⟨h0, _⟩
  rotate_left
  · exact absurd h0 hf1
  have hT1 := tab_zero w2.heap.size w2
  clear HF
  obtain ⟨W2, hW2⟩ : ∃ W, W = w2.alloc (.cells #[.int .i64 0, .slice none 0 0, .slice none 0 0] 26) := ⟨_, rfl⟩
  have HW2 := hid hW2.symm
  have b2 : Below w2.heap.size w2 W2 := hW2 ▸ (Below.refl _ _).alloc (Nat.le_refl _) _
  have K2 : Hid (Blk W2 w2.heap.size 26 #[.int .i64 0, .slice none 0 0, .slice none 0 0]) := hid (hW2 ▸ Blk.new w2 _ _)
  have HB2 := hid (bel2 Hb2.out b2)
  have HT2 := hid (hT1.kept b2)
  clear hW2 b2 hT1
  go_wp2_with fail
  rw [HW2.out]
  refine (HF2.out _ HB2.out).mono ?_
  intro e w3 hf
  obtain ⟨hb3, hf⟩ := hf.tab
  have HT3 := hid (HT2.out.kept hb3)
  have K3 := hid (K2.out.kept hb3)
  have Hb3 := hid (bel2 HB2.out hb3)
  have HG := hid hf
  clear hf hb3 HF2 HW2 HT2 K2
  rcases HG.out with ⟨h0, _⟩ | ⟨_, M', ab', cap', S', hM', hs', hn0', hn24', hnM', rfl, hT2⟩
  · exact absurd hf2 h0
  clear HG
  obtain ⟨W4, hW4⟩ : ∃ W, W = w3.alloc (.cells #[.int .i64 (M' : Int), .slice ab' (psorted ys).length cap', .slice (some ⟨S', 0, none⟩) (fillT (ordL M' (psorted ys)) (psorted ys).length M' M').length M'] 26) := ⟨_, rfl⟩
  have HW4 := hid hW4.symm
  have b4 : Below w3.heap.size w3 W4 := hW4 ▸ (Below.refl _ _).alloc (Nat.le_refl _) _
  have K4 : Hid (Blk W4 w3.heap.size 26 #[.int .i64 (M' : Int), .slice ab' (psorted ys).length cap', .slice (some ⟨S', 0, none⟩) (fillT (ordL M' (psorted ys)) (psorted ys).length M' M').length M']) := hid (hW4 ▸ Blk.new w3 _ _)
  have J4 := hid (K3.out.kept b4)
  have HB4 := hid (bel2 Hb3.out b4)
  have HT4 := hid (HT3.out.kept b4)
  have HU4 := hid (hT2.kept b4)
  clear hW4 b4 hT2 K3 HT3
  have c0 : W4.cell? ⟨w2.heap.size, 0, none⟩ = some (.int .i64 0) := J4.out.cell 0
  have c1 : W4.cell? ⟨w2.heap.size, 1, none⟩ = some (.slice none 0 0) := J4.out.cell 1
  have c2 : W4.cell? ⟨w2.heap.size, 2, none⟩ = some (.slice none 0 0) := J4.out.cell 2
  have d0 : W4.cell? ⟨w3.heap.size, 0, none⟩ = some (.int .i64 (M' : Int)) := K4.out.cell 0
  have d1 : W4.cell? ⟨w3.heap.size, 1, none⟩ = some (.slice ab' (psorted ys).length cap') := K4.out.cell 1
  have d2 : W4.cell? ⟨w3.heap.size, 2, none⟩ = some (.slice (some ⟨S', 0, none⟩) (fillT (ordL M' (psorted ys)) (psorted ys).length M' M').length M') := K4.out.cell 2
  have HMv : Hid (Calls Tryd.prog 8 #[.agg #[.int .i64 0, .slice none 0 0, .slice none 0 0], .agg #[.int .i64 (M' : Int), .slice ab' (psorted ys).length cap', .slice (some ⟨S', 0, none⟩) (fillT (ordL M' (psorted ys)) (psorted ys).length M' M').length M']] W4 fun e w' => e = .returned (.int .i64 0) ∧ Below W4.heap.size W4 w') := hid (by
    have := moved_any 0 (M' : Int) [] (psorted ys) [] (fillT (ordL M' (psorted ys)) (psorted ys).length M' M') none ab' none (some ⟨S', 0, none⟩) 0 cap' 0 M' (by decide) (by rw [fillT_length]; have := (sized_range hs').2.1; omega) (by decide) (by omega) W4 HT4.out HU4.out
    rw [mov_none_left _ _ (fun p => own_zero p) _] at this
    exact this)
  go_upto_region 7 with fail
  rw [HW4.out]
  go_wp2_with fail
  refine HMv.out.mono ?_
  rintro e w5 ⟨rfl, hb⟩
  have Hb5 := hid (bel2 HB4.out hb)
  clear hb
  go_wp2
  go_ret
  exact ⟨rfl, Hb5.out⟩

end Go.Proofs.YtgpbmbefdgbblaaDoor
