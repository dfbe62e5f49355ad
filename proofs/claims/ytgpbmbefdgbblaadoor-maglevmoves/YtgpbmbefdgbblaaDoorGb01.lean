/-
  The law MaglevMoves. · The law MaglevMoves, in parts. · The law MaglevMoves, in parts. · The law MaglevMoves, in parts. · The law MaglevMoves, in parts. · The law MaglevMoves, in parts. · The law MaglevMoves, in parts.
-/
import Derived.Test.YtgpbmbefdgbblaaDoorGa09
namespace Go.Proofs.YtgpbmbefdgbblaaDoor
open Go.RowKit Go.Lib

/-- What a filling ends with, as a table in memory. -/
theorem FillEnd.tab {E : Nat → TypeId × Value} {xs : List PS} {m : Int} {w : World} {e : Ending} {w' : World} (h : FillEnd E xs m w e w') :
    Below w.heap.size w w' ∧ ((fillE xs m ≠ 0 ∧ e = .returned (.tuple #[.agg #[.int .i64 0, .slice none 0 0, .slice none 0 0], .iface (E (fillE xs m)).1 (E (fillE xs m)).2])) ∨
      (fillE xs m = 0 ∧ ∃ (M : Nat) (ab : Option Addr) (cap S : Nat), m = (M : Int) ∧ sizedB (M : Int) = true ∧ 0 < (psorted xs).length ∧ (psorted xs).length ≤ 24 ∧ (psorted xs).length ≤ M ∧ e = .returned (.tuple #[.agg #[.int .i64 (M : Int), .slice ab (psorted xs).length cap, .slice (some ⟨S, 0, none⟩) (fillT (ordL M (psorted xs)) (psorted xs).length M M).length M], .nilIface]) ∧
        TabIn w'.heap.size w' ab (some ⟨S, 0, none⟩) (psorted xs) (fillT (ordL M (psorted xs)) (psorted xs).length M M))) := by
  obtain ⟨hb, h | ⟨h0, M, ab, cap, S, hM, he, h1, h2, h3⟩⟩ := h
  · exact ⟨hb, .inl h⟩
  · refine ⟨hb, .inr ⟨h0, M, ab, cap, S, hM, ?_, ?_, ?_, ?_, by rw [fillT_length]; exact he, h2, h3.ints⟩⟩
    · unfold fillE at h0
      cases hs : sizedB m
      · rw [if_pos hs] at h0; cases h0
      · rw [← hM]; exact hs
    all_goals
      unfold fillE at h0
      cases hs : sizedB m
      · rw [if_pos hs] at h0; cases h0
      · rw [if_neg (by rw [hs]; decide)] at h0
        cases ha : anyNo xs
        · rw [if_neg (by rw [ha]; decide)] at h0
          by_cases h4 : (psorted xs).length = 0
          · rw [if_pos h4] at h0; cases h0
          · rw [if_neg h4] at h0
            by_cases h5 : min 24 m < (psorted xs).length
            · rw [if_pos h5] at h0; cases h0
            · omega
        · rw [if_pos ha] at h0; cases h0
theorem tab_zero (n₀ : Nat) (w : World) : TabIn n₀ w none none [] [] := ⟨fun j hj => by simp at hj, fun j hj => by simp at hj⟩
theorem whole_zero : wholeT 0 [] = false := by
  unfold wholeT
  cases hs : sizedB 0
  · rfl
  · have := (sized_range hs).1
    omega
theorem own_zero (p : Int) : ownW 0 [] [] p = none := by unfold ownW; rw [if_neg (by rw [whole_zero]; decide)]

end Go.Proofs.YtgpbmbefdgbblaaDoor

namespace Go.Proofs.YtgpbmbefdgbblaaDoor
open Go.RowKit Go.Lib

set_option linter.unusedSimpArgs false in
set_option linter.unusedVariables false in
set_option maxRecDepth 100000 in
set_option maxHeartbeats 8000000 in
theorem moves_long1 (E : Nat → TypeId × Value) (ax ay : Option Addr) (cx cy : Nat) (xs ys : List PS) (hcx : xs.length ≤ cx) (hcy : ys.length ≤ cy) (m : Int) (h : 40 < xs.length) (w : World) (hE : MEnv E w) (hX : Elems encP 18 w.heap.size w ax xs) (hY : Elems encP 18 w.heap.size w ay ys) :
    Calls Tryd.prog 4 #[.slice ax xs.length cx, .slice ay ys.length cy, .int .i64 m] w fun e w' => e = .returned (.bool true) ∧ Below w.heap.size w w' := by
  have HA := hid (malive_any E w hE)
  go_enter Tryd.func4, Tryd.ntmps4
  go_wp2_with fail
  refine HA.out.mono ?_
  rintro e w1 ⟨rfl, hb⟩
  have Hb1 := hid hb
  clear hb
  go_wp2
  go_ret
  exact ⟨rfl, Hb1.out⟩

set_option linter.unusedSimpArgs false in
set_option linter.unusedVariables false in
set_option maxRecDepth 100000 in
set_option maxHeartbeats 8000000 in
theorem moves_long2 (E : Nat → TypeId × Value) (ax ay : Option Addr) (cx cy : Nat) (xs ys : List PS) (hcx : xs.length ≤ cx) (hcy : ys.length ≤ cy) (m : Int) (h : xs.length ≤ 40) (h' : 40 < ys.length) (w : World) (hE : MEnv E w) (hX : Elems encP 18 w.heap.size w ax xs) (hY : Elems encP 18 w.heap.size w ay ys) :
    Calls Tryd.prog 4 #[.slice ax xs.length cx, .slice ay ys.length cy, .int .i64 m] w fun e w' => e = .returned (.bool true) ∧ Below w.heap.size w w' := by
  have HA := hid (malive_any E w hE)
  go_enter Tryd.func4, Tryd.ntmps4
  go_wp2_with fail
  refine HA.out.mono ?_
  rintro e w1 ⟨rfl, hb⟩
  have Hb1 := hid hb
  clear hb
  go_wp2
  go_ret
  exact ⟨rfl, Hb1.out⟩

end Go.Proofs.YtgpbmbefdgbblaaDoor

namespace Go.Proofs.YtgpbmbefdgbblaaDoor
open Go.RowKit Go.Lib

set_option linter.unusedSimpArgs false in
set_option linter.unusedVariables false in
set_option maxRecDepth 100000 in
set_option maxHeartbeats 8000000 in
theorem moves_ee (E : Nat → TypeId × Value) (ax ay : Option Addr) (cx cy : Nat) (xs ys : List PS) (hcx : xs.length ≤ cx) (hcy : ys.length ≤ cy) (m : Int) (h : xs.length ≤ 40) (h' : ys.length ≤ 40) (hf1 : fillE xs m ≠ 0) (hf2 : fillE ys m ≠ 0) (w : World) (hE : MEnv E w) (hX : Elems encP 18 w.heap.size w ax xs) (hY : Elems encP 18 w.heap.size w ay ys) :
    Calls Tryd.prog 4 #[.slice ax xs.length cx, .slice ay ys.length cy, .int .i64 m] w fun e w' => e = .returned (.bool true) ∧ Below w.heap.size w w' := by
  have HA := hid (malive_any E w hE)
  have HF1 : Hid (∀ W, Below w.heap.size w W → Calls Tryd.prog 6 #[.slice ax xs.length cx, .int .i64 m] W (FillEnd E xs m W)) := hid (fun W hb => fill_any E ax cx xs hcx (by omega) m W (hE.kept hb) ((hX.below hb).mono hb.size))
  have HF2 : Hid (∀ W, Below w.heap.size w W → Calls Tryd.prog 6 #[.slice ay ys.length cy, .int .i64 m] W (FillEnd E ys m W)) := hid (fun W hb => fill_any E ay cy ys hcy (by omega) m W (hE.kept hb) ((hY.below hb).mono hb.size))
  have HL1 : Hid (xs.length ≤ 1000) := hid (by omega)
  have HL2 : Hid (ys.length ≤ 1000) := hid (by omega)
  clear hE hX hY hcx hcy
  go_enter Tryd.func4, Tryd.ntmps4
  go_wp2_with fail
  refine HA.out.mono ?_
  rintro e w1 ⟨rfl, hb⟩
  have Hb1 := hid hb
  clear hb
  go_wp2_with fail
  refine (HF1.out _ Hb1.out).mono ?_
  intro e w2 hf
  obtain ⟨hb2, hf⟩ := hf.tab
  have Hb2 := hid (bel2 Hb1.out hb2)
  have HF := hid hf
  clear hf hb2 HF1 HA
  rcases HF.out with ⟨_, rfl⟩ | ⟨h0, _⟩
  rotate_left
  · exact absurd h0 hf1
  have hT1 := tab_zero w2.heap.size w2
  clear HF
  obtain ⟨W2, hW2⟩ : ∃ W, W = w2.alloc (.cells #[.int .i64 0, .slice none 0 0, .slice none 0 0] 26) := ⟨_, rfl⟩
  have HW2 := hid hW2.symm
  have b2 : Below w2.heap.size w2 W2 := hW2 ▸ (Below.refl _ _).alloc (Nat.le_refl _) _
  have K2 : Hid (Blk W2 w2.heap.size 26 #[.int .i64 0, .slice none 0 0, .slice none 0 0]) := hid (hW2 ▸ Blk.new w2 _ _)
  have HB2 := hid (bel2 Hb2.out b2)
  have HT2 := hid (hT1.kept b2)
  clear hW2 b2 hT1
  go_wp2_with fail
  rw [HW2.out]
  refine (HF2.out _ HB2.out).mono ?_
  intro e w3 hf
  obtain ⟨hb3, hf⟩ := hf.tab
  have HT3 := hid (HT2.out.kept hb3)
  have K3 := hid (K2.out.kept hb3)
  have Hb3 := hid (bel2 HB2.out hb3)
  have HG := hid hf
  clear hf hb3 HF2 HW2 HT2 K2
  rcases HG.out with ⟨_, rfl⟩ | ⟨h0, _⟩
  rotate_left
  · exact absurd h0 hf2
  have hT2 := tab_zero w3.heap.size w3
  clear HG
  obtain ⟨W4, hW4⟩ : ∃ W, W = w3.alloc (.cells #[.int .i64 0, .slice none 0 0, .slice none 0 0] 26) := ⟨_, rfl⟩
  have HW4 := hid hW4.symm
  have b4 : Below w3.heap.size w3 W4 := hW4 ▸ (Below.refl _ _).alloc (Nat.le_refl _) _
  have K4 : Hid (Blk W4 w3.heap.size 26 #[.int .i64 0, .slice none 0 0, .slice none 0 0]) := hid (hW4 ▸ Blk.new w3 _ _)
  have J4 := hid (K3.out.kept b4)
  have HB4 := hid (bel2 Hb3.out b4)
  have HT4 := hid (HT3.out.kept b4)
  have HU4 := hid (hT2.kept b4)
  clear hW4 b4 hT2 K3 HT3
  have c0 : W4.cell? ⟨w2.heap.size, 0, none⟩ = some (.int .i64 0) := J4.out.cell 0
  have c1 : W4.cell? ⟨w2.heap.size, 1, none⟩ = some (.slice none 0 0) := J4.out.cell 1
  have c2 : W4.cell? ⟨w2.heap.size, 2, none⟩ = some (.slice none 0 0) := J4.out.cell 2
  have d0 : W4.cell? ⟨w3.heap.size, 0, none⟩ = some (.int .i64 0) := K4.out.cell 0
  have d1 : W4.cell? ⟨w3.heap.size, 1, none⟩ = some (.slice none 0 0) := K4.out.cell 1
  have d2 : W4.cell? ⟨w3.heap.size, 2, none⟩ = some (.slice none 0 0) := K4.out.cell 2
  have HMv : Hid (Calls Tryd.prog 8 #[.agg #[.int .i64 0, .slice none 0 0, .slice none 0 0], .agg #[.int .i64 0, .slice none 0 0, .slice none 0 0]] W4 fun e w' => e = .returned (.int .i64 0) ∧ Below W4.heap.size W4 w') := hid (by
    have := moved_any 0 0 [] [] [] [] none none none none 0 0 0 0 (by decide) (by decide) (by decide) (by decide) W4 HT4.out HU4.out
    rw [mov_none_left _ _ (fun p => own_zero p) _] at this
    exact this)
  go_upto_region 7 with fail
  rw [HW4.out]
  go_wp2_with fail
  refine HMv.out.mono ?_
  rintro e w5 ⟨rfl, hb⟩
  have Hb5 := hid (bel2 HB4.out hb)
  clear hb
  go_wp2
  go_ret
  exact ⟨rfl, Hb5.out⟩

end Go.Proofs.YtgpbmbefdgbblaaDoor

namespace Go.Proofs.YtgpbmbefdgbblaaDoor
open Go.RowKit Go.Lib

set_option linter.unusedSimpArgs false in
set_option linter.unusedVariables false in
set_option maxRecDepth 100000 in
set_option maxHeartbeats 8000000 in
theorem moves_eo (E : Nat → TypeId × Value) (ax ay : Option Addr) (cx cy : Nat) (xs ys : List PS) (hcx : xs.length ≤ cx) (hcy : ys.length ≤ cy) (m : Int) (h : xs.length ≤ 40) (h' : ys.length ≤ 40) (hf1 : fillE xs m ≠ 0) (hf2 : fillE ys m = 0) (w : World) (hE : MEnv E w) (hX : Elems encP 18 w.heap.size w ax xs) (hY : Elems encP 18 w.heap.size w ay ys) :
    Calls Tryd.prog 4 #[.slice ax xs.length cx, .slice ay ys.length cy, .int .i64 m] w fun e w' => e = .returned (.bool true) ∧ Below w.heap.size w w' := by
  have HA := hid (malive_any E w hE)
  have HF1 : Hid (∀ W, Below w.heap.size w W → Calls Tryd.prog 6 #[.slice ax xs.length cx, .int .i64 m] W (FillEnd E xs m W)) := hid (fun W hb => fill_any E ax cx xs hcx (by omega) m W (hE.kept hb) ((hX.below hb).mono hb.size))
  have HF2 : Hid (∀ W, Below w.heap.size w W → Calls Tryd.prog 6 #[.slice ay ys.length cy, .int .i64 m] W (FillEnd E ys m W)) := hid (fun W hb => fill_any E ay cy ys hcy (by omega) m W (hE.kept hb) ((hY.below hb).mono hb.size))
  have HL1 : Hid (xs.length ≤ 1000) := hid (by omega)
  have HL2 : Hid (ys.length ≤ 1000) := hid (by omega)
  clear hE hX hY hcx hcy
  go_enter Tryd.func4, Tryd.ntmps4
  go_wp2_with fail
  refine HA.out.mono ?_
  rintro e w1 ⟨rfl, hb⟩
  have Hb1 := hid hb
  clear hb
  go_wp2_with fail
  refine (HF1.out _ Hb1.out).mono ?_
  intro e w2 hf
  obtain ⟨hb2, hf⟩ := hf.tab
  have Hb2 := hid (bel2 Hb1.out hb2)
  have HF := hid hf
  clear hf hb2 HF1 HA
  rcases HF.out with ⟨_, rfl⟩ | ⟨h0, _⟩
  rotate_left
  · exact absurd h0 hf1
  have hT1 := tab_zero w2.heap.size w2
  clear HF
  obtain ⟨W2, hW2⟩ : ∃ W, W = w2.alloc (.cells #[.int .i64 0, .slice none 0 0, .slice none 0 0] 26) := ⟨_, rfl⟩
  have HW2 := hid hW2.symm
  have b2 : Below w2.heap.size w2 W2 := hW2 ▸ (Below.refl _ _).alloc (Nat.le_refl _) _
  have K2 : Hid (Blk W2 w2.heap.size 26 #[.int .i64 0, .slice none 0 0, .slice none 0 0]) := hid (hW2 ▸ Blk.new w2 _ _)
  have HB2 := hid (bel2 Hb2.out b2)
  have HT2 := hid (hT1.kept b2)
  clear hW2 b2 hT1
  go_wp2_with fail
  rw [HW2.out]
  refine (HF2.out _ HB2.out).mono ?_
  intro e w3 hf
  obtain ⟨hb3, hf⟩ := hf.tab
  have HT3 := hid (HT2.out.kept hb3)
  have K3 := hid (K2.out.kept hb3)
  have Hb3 := hid (bel2 HB2.out hb3)
  have HG := hid hf
  clear hf hb3 HF2 HW2 HT2 K2
  rcases HG.out with ⟨h0, _⟩ | ⟨_, M', ab', cap', S', hM', hs', hn0', hn24', hnM', rfl, hT2⟩
  · exact absurd hf2 h0
  clear HG
  obtain ⟨W4, hW4⟩ : ∃ W, W = w3.alloc (.cells #[.int .i64 (M' : Int), .slice ab' (psorted ys).length cap', .slice (some ⟨S', 0, none⟩) (fillT (ordL M' (psorted ys)) (psorted ys).length M' M').length M'] 26) := ⟨_, rfl⟩
  have HW4 := hid hW4.symm
  have b4 : Below w3.heap.size w3 W4 := hW4 ▸ (Below.refl _ _).alloc (Nat.le_refl _) _
  have K4 : Hid (Blk W4 w3.heap.size 26 #[.int .i64 (M' : Int), .slice ab' (psorted ys).length cap', .slice (some ⟨S', 0, none⟩) (fillT (ordL M' (psorted ys)) (psorted ys).length M' M').length M']) := hid (hW4 ▸ Blk.new w3 _ _)
  have J4 := hid (K3.out.kept b4)
  have HB4 := hid (bel2 Hb3.out b4)
  have HT4 := hid (HT3.out.kept b4)
  have HU4 := hid (hT2.kept b4)
  clear hW4 b4 hT2 K3 HT3
  have c0 : W4.cell? ⟨w2.heap.size, 0, none⟩ = some (.int .i64 0) := J4.out.cell 0
  have c1 : W4.cell? ⟨w2.heap.size, 1, none⟩ = some (.slice none 0 0) := J4.out.cell 1
  have c2 : W4.cell? ⟨w2.heap.size, 2, none⟩ = some (.slice none 0 0) := J4.out.cell 2
  have d0 : W4.cell? ⟨w3.heap.size, 0, none⟩ = some (.int .i64 (M' : Int)) := K4.out.cell 0
  have d1 : W4.cell? ⟨w3.heap.size, 1, none⟩ = some (.slice ab' (psorted ys).length cap') := K4.out.cell 1
  have d2 : W4.cell? ⟨w3.heap.size, 2, none⟩ = some (.slice (some ⟨S', 0, none⟩) (fillT (ordL M' (psorted ys)) (psorted ys).length M' M').length M') := K4.out.cell 2
  have HMv : Hid (Calls Tryd.prog 8 #[.agg #[.int .i64 0, .slice none 0 0, .slice none 0 0], .agg #[.int .i64 (M' : Int), .slice ab' (psorted ys).length cap', .slice (some ⟨S', 0, none⟩) (fillT (ordL M' (psorted ys)) (psorted ys).length M' M').length M']] W4 fun e w' => e = .returned (.int .i64 0) ∧ Below W4.heap.size W4 w') := hid (by
    have := moved_any 0 (M' : Int) [] (psorted ys) [] (fillT (ordL M' (psorted ys)) (psorted ys).length M' M') none ab' none (some ⟨S', 0, none⟩) 0 cap' 0 M' (by decide) (by rw [fillT_length]; have := (sized_range hs').2.1; omega) (by decide) (by omega) W4 HT4.out HU4.out
    rw [mov_none_left _ _ (fun p => own_zero p) _] at this
    exact this)
  go_upto_region 7 with fail
  rw [HW4.out]
  go_wp2_with fail
  refine HMv.out.mono ?_
  rintro e w5 ⟨rfl, hb⟩
  have Hb5 := hid (bel2 HB4.out hb)
  clear hb
  go_wp2
  go_ret
  exact ⟨rfl, Hb5.out⟩

end Go.Proofs.YtgpbmbefdgbblaaDoor

namespace Go.Proofs.YtgpbmbefdgbblaaDoor
open Go.RowKit Go.Lib

set_option linter.unusedSimpArgs false in
set_option linter.unusedVariables false in
set_option maxRecDepth 100000 in
set_option maxHeartbeats 8000000 in
theorem moves_oe (E : Nat → TypeId × Value) (ax ay : Option Addr) (cx cy : Nat) (xs ys : List PS) (hcx : xs.length ≤ cx) (hcy : ys.length ≤ cy) (m : Int) (h : xs.length ≤ 40) (h' : ys.length ≤ 40) (hf1 : fillE xs m = 0) (hf2 : fillE ys m ≠ 0) (w : World) (hE : MEnv E w) (hX : Elems encP 18 w.heap.size w ax xs) (hY : Elems encP 18 w.heap.size w ay ys) :
    Calls Tryd.prog 4 #[.slice ax xs.length cx, .slice ay ys.length cy, .int .i64 m] w fun e w' => e = .returned (.bool true) ∧ Below w.heap.size w w' := by
  have HA := hid (malive_any E w hE)
  have HF1 : Hid (∀ W, Below w.heap.size w W → Calls Tryd.prog 6 #[.slice ax xs.length cx, .int .i64 m] W (FillEnd E xs m W)) := hid (fun W hb => fill_any E ax cx xs hcx (by omega) m W (hE.kept hb) ((hX.below hb).mono hb.size))
  have HF2 : Hid (∀ W, Below w.heap.size w W → Calls Tryd.prog 6 #[.slice ay ys.length cy, .int .i64 m] W (FillEnd E ys m W)) := hid (fun W hb => fill_any E ay cy ys hcy (by omega) m W (hE.kept hb) ((hY.below hb).mono hb.size))
  have HL1 : Hid (xs.length ≤ 1000) := hid (by omega)
  have HL2 : Hid (ys.length ≤ 1000) := hid (by omega)
  clear hE hX hY hcx hcy
  go_enter Tryd.func4, Tryd.ntmps4
  go_wp2_with fail
  refine HA.out.mono ?_
  rintro e w1 ⟨rfl, hb⟩
  have Hb1 := hid hb
  clear hb
  go_wp2_with fail
  refine (HF1.out _ Hb1.out).mono ?_
  intro e w2 hf
  obtain ⟨hb2, hf⟩ := hf.tab
  have Hb2 := hid (bel2 Hb1.out hb2)
  have HF := hid hf
  clear hf hb2 HF1 HA
  rcases HF.out with ⟨h0, _⟩ | ⟨_, M, ab, cap, S, hM, hs, hn0, hn24, hnM, rfl, hT1⟩
  · exact absurd hf1 h0
  subst hM
  clear HF
  obtain ⟨W2, hW2⟩ : ∃ W, W = w2.alloc (.cells #[.int .i64 (M : Int), .slice ab (psorted xs).length cap, .slice (some ⟨S, 0, none⟩) (fillT (ordL M (psorted xs)) (psorted xs).length M M).length M] 26) := ⟨_, rfl⟩
  have HW2 := hid hW2.symm
  have b2 : Below w2.heap.size w2 W2 := hW2 ▸ (Below.refl _ _).alloc (Nat.le_refl _) _
  have K2 : Hid (Blk W2 w2.heap.size 26 #[.int .i64 (M : Int), .slice ab (psorted xs).length cap, .slice (some ⟨S, 0, none⟩) (fillT (ordL M (psorted xs)) (psorted xs).length M M).length M]) := hid (hW2 ▸ Blk.new w2 _ _)
  have HB2 := hid (bel2 Hb2.out b2)
  have HT2 := hid (hT1.kept b2)
  clear hW2 b2 hT1
  go_wp2_with fail
  rw [HW2.out]
  refine (HF2.out _ HB2.out).mono ?_
  intro e w3 hf
  obtain ⟨hb3, hf⟩ := hf.tab
  have HT3 := hid (HT2.out.kept hb3)
  have K3 := hid (K2.out.kept hb3)
  have Hb3 := hid (bel2 HB2.out hb3)
  have HG := hid hf
  clear hf hb3 HF2 HW2 HT2 K2
  rcases HG.out with ⟨_, rfl⟩ | ⟨h0, _⟩
  rotate_left
  · exact absurd h0 hf2
  have hT2 := tab_zero w3.heap.size w3
  clear HG
  obtain ⟨W4, hW4⟩ : ∃ W, W = w3.alloc (.cells #[.int .i64 0, .slice none 0 0, .slice none 0 0] 26) := ⟨_, rfl⟩
  have HW4 := hid hW4.symm
  have b4 : Below w3.heap.size w3 W4 := hW4 ▸ (Below.refl _ _).alloc (Nat.le_refl _) _
  have K4 : Hid (Blk W4 w3.heap.size 26 #[.int .i64 0, .slice none 0 0, .slice none 0 0]) := hid (hW4 ▸ Blk.new w3 _ _)
  have J4 := hid (K3.out.kept b4)
  have HB4 := hid (bel2 Hb3.out b4)
  have HT4 := hid (HT3.out.kept b4)
  have HU4 := hid (hT2.kept b4)
  clear hW4 b4 hT2 K3 HT3
  have c0 : W4.cell? ⟨w2.heap.size, 0, none⟩ = some (.int .i64 (M : Int)) := J4.out.cell 0
  have c1 : W4.cell? ⟨w2.heap.size, 1, none⟩ = some (.slice ab (psorted xs).length cap) := J4.out.cell 1
  have c2 : W4.cell? ⟨w2.heap.size, 2, none⟩ = some (.slice (some ⟨S, 0, none⟩) (fillT (ordL M (psorted xs)) (psorted xs).length M M).length M) := J4.out.cell 2
  have d0 : W4.cell? ⟨w3.heap.size, 0, none⟩ = some (.int .i64 0) := K4.out.cell 0
  have d1 : W4.cell? ⟨w3.heap.size, 1, none⟩ = some (.slice none 0 0) := K4.out.cell 1
  have d2 : W4.cell? ⟨w3.heap.size, 2, none⟩ = some (.slice none 0 0) := K4.out.cell 2
  have HMv : Hid (Calls Tryd.prog 8 #[.agg #[.int .i64 (M : Int), .slice ab (psorted xs).length cap, .slice (some ⟨S, 0, none⟩) (fillT (ordL M (psorted xs)) (psorted xs).length M M).length M], .agg #[.int .i64 0, .slice none 0 0, .slice none 0 0]] W4 fun e w' => e = .returned (.int .i64 0) ∧ Below W4.heap.size W4 w') := hid (by
    have := moved_any (M : Int) 0 (psorted xs) [] (fillT (ordL M (psorted xs)) (psorted xs).length M M) [] ab none (some ⟨S, 0, none⟩) none cap 0 M 0 (by rw [fillT_length]; have := (sized_range hs).2.1; omega) (by decide) (by omega) (by decide) W4 HT4.out HU4.out
    rw [mov_none_right _ _ (fun p => own_zero p) _] at this
    exact this)
  go_upto_region 7 with fail
  rw [HW4.out]
  go_wp2_with fail
  refine HMv.out.mono ?_
  rintro e w5 ⟨rfl, hb⟩
  have Hb5 := hid (bel2 HB4.out hb)
  clear hb
  go_wp2
  go_ret
  exact ⟨rfl, Hb5.out⟩

end Go.Proofs.YtgpbmbefdgbblaaDoor

namespace Go.Proofs.YtgpbmbefdgbblaaDoor
open Go.RowKit Go.Lib

set_option linter.unusedSimpArgs false in
set_option linter.unusedVariables false in
set_option maxRecDepth 100000 in
set_option maxHeartbeats 8000000 in
theorem moves_oo (E : Nat → TypeId × Value) (ax ay : Option Addr) (cx cy : Nat) (xs ys : List PS) (hcx : xs.length ≤ cx) (hcy : ys.length ≤ cy) (m : Int) (h : xs.length ≤ 40) (h' : ys.length ≤ 40) (hf1 : fillE xs m = 0) (hf2 : fillE ys m = 0) (w : World) (hE : MEnv E w) (hX : Elems encP 18 w.heap.size w ax xs) (hY : Elems encP 18 w.heap.size w ay ys) :
    Calls Tryd.prog 4 #[.slice ax xs.length cx, .slice ay ys.length cy, .int .i64 m] w fun e w' => e = .returned (.bool true) ∧ Below w.heap.size w w' := by
  have HA := hid (malive_any E w hE)
  have HF1 : Hid (∀ W, Below w.heap.size w W → Calls Tryd.prog 6 #[.slice ax xs.length cx, .int .i64 m] W (FillEnd E xs m W)) := hid (fun W hb => fill_any E ax cx xs hcx (by omega) m W (hE.kept hb) ((hX.below hb).mono hb.size))
  have HF2 : Hid (∀ W, Below w.heap.size w W → Calls Tryd.prog 6 #[.slice ay ys.length cy, .int .i64 m] W (FillEnd E ys m W)) := hid (fun W hb => fill_any E ay cy ys hcy (by omega) m W (hE.kept hb) ((hY.below hb).mono hb.size))
  have HL1 : Hid (xs.length ≤ 1000) := hid (by omega)
  have HL2 : Hid (ys.length ≤ 1000) := hid (by omega)
  clear hE hX hY hcx hcy
  go_enter Tryd.func4, Tryd.ntmps4
  go_wp2_with fail
  refine HA.out.mono ?_
  rintro e w1 ⟨rfl, hb⟩
  have Hb1 := hid hb
  clear hb
  go_wp2_with fail
  refine (HF1.out _ Hb1.out).mono ?_
  intro e w2 hf
  obtain ⟨hb2, hf⟩ := hf.tab
  have Hb2 := hid (bel2 Hb1.out hb2)
  have HF := hid hf
  clear hf hb2 HF1 HA
  rcases HF.out with ⟨h0, _⟩ | ⟨_, M, ab, cap, S, hM, hs, hn0, hn24, hnM, he1, hT1⟩
  · exact absurd hf1 h0
  subst hM
  have HO1 : Hid (∀ p : Nat, p < M → (ownW M (psorted xs) (fillT (ordL M (psorted xs)) (psorted xs).length M M) p).isSome = true) := hid (fun p hp => by rw [(own_filled hs (psorted xs) hn0 hp).2]; rfl)
  have HLM1 : Hid ((fillT (ordL M (psorted xs)) (psorted xs).length M M).length = M) := hid (fillT_length _ _ _ _)
  generalize fillT (ordL M (psorted xs)) (psorted xs).length M M = L at *
  generalize psorted xs = bs at *
  subst he1
  have HS1 := hid (And.intro hs (And.intro hn24 hnM))
  clear HF hs hn0 hn24 hnM
  obtain ⟨W2, hW2⟩ : ∃ W, W = w2.alloc (.cells #[.int .i64 (M : Int), .slice ab bs.length cap, .slice (some ⟨S, 0, none⟩) L.length M] 26) := ⟨_, rfl⟩
  have HW2 := hid hW2.symm
  have b2 : Below w2.heap.size w2 W2 := hW2 ▸ (Below.refl _ _).alloc (Nat.le_refl _) _
  have K2 : Hid (Blk W2 w2.heap.size 26 #[.int .i64 (M : Int), .slice ab bs.length cap, .slice (some ⟨S, 0, none⟩) L.length M]) := hid (hW2 ▸ Blk.new w2 _ _)
  have HB2 := hid (bel2 Hb2.out b2)
  have HT2 := hid (hT1.kept b2)
  clear hW2 b2 hT1
  go_wp2_with fail
  rw [HW2.out]
  refine (HF2.out _ HB2.out).mono ?_
  intro e w3 hf
  obtain ⟨hb3, hf⟩ := hf.tab
  have HT3 := hid (HT2.out.kept hb3)
  have K3 := hid (K2.out.kept hb3)
  have Hb3 := hid (bel2 HB2.out hb3)
  have HG := hid hf
  clear hf hb3 HF2 HW2 HT2 K2
  rcases HG.out with ⟨h0, _⟩ | ⟨_, M', ab', cap', S', hM', hs', hn0', hn24', hnM', he2, hT2⟩
  · exact absurd hf2 h0
  obtain rfl : M = M' := by omega
  have HO2 : Hid (∀ p : Nat, p < M → (ownW M (psorted ys) (fillT (ordL M (psorted ys)) (psorted ys).length M M) p).isSome = true) := hid (fun p hp => by rw [(own_filled hs' (psorted ys) hn0' hp).2]; rfl)
  have HLM2 : Hid ((fillT (ordL M (psorted ys)) (psorted ys).length M M).length = M) := hid (fillT_length _ _ _ _)
  generalize fillT (ordL M (psorted ys)) (psorted ys).length M M = L' at *
  generalize psorted ys = bs' at *
  subst he2
  have HS2 := hid (And.intro hs' (And.intro hn24' hnM'))
  clear HG hs' hn0' hn24' hnM' hM'
  obtain ⟨W4, hW4⟩ : ∃ W, W = w3.alloc (.cells #[.int .i64 (M : Int), .slice ab' bs'.length cap', .slice (some ⟨S', 0, none⟩) L'.length M] 26) := ⟨_, rfl⟩
  have HW4 := hid hW4.symm
  have b4 : Below w3.heap.size w3 W4 := hW4 ▸ (Below.refl _ _).alloc (Nat.le_refl _) _
  have K4 : Hid (Blk W4 w3.heap.size 26 #[.int .i64 (M : Int), .slice ab' bs'.length cap', .slice (some ⟨S', 0, none⟩) L'.length M]) := hid (hW4 ▸ Blk.new w3 _ _)
  have J4 := hid (K3.out.kept b4)
  have HB4 := hid (bel2 Hb3.out b4)
  have HT4 := hid (HT3.out.kept b4)
  have HU4 := hid (hT2.kept b4)
  clear hW4 b4 hT2 K3 HT3
  have hM251 := (sized_range HS1.out.1).2.1
  have hM2 := (sized_range HS1.out.1).1
  obtain ⟨f, hf⟩ : ∃ f : Nat → Option PS, f = fun p : Nat => ownW M bs L (p : Int) := ⟨_, rfl⟩
  obtain ⟨g, hg⟩ : ∃ g : Nat → Option PS, g = fun p : Nat => ownW M bs' L' (p : Int) := ⟨_, rfl⟩
  have HA1 : Hid (∀ (p : Nat) W, Below W4.heap.size W4 W → Calls Tryd.prog 10 #[.agg #[.int .i64 (M : Int), .slice ab bs.length cap, .slice (some ⟨S, 0, none⟩) L.length M], .int .i64 p] W fun e w' => e = .returned (.tuple #[.agg (encP ((f p).getD pz)), .bool (f p).isSome]) ∧ Below W.heap.size W w') := hid (fun p W hb => by
    rw [hf]
    exact at_any M bs L ab (some ⟨S, 0, none⟩) cap M p (by rw [HLM1.out]; omega) (by have := HS1.out.2.1; omega) W (HT4.out.kept hb))
  have HA2 : Hid (∀ (p : Nat) W, Below W4.heap.size W4 W → Calls Tryd.prog 10 #[.agg #[.int .i64 (M : Int), .slice ab' bs'.length cap', .slice (some ⟨S', 0, none⟩) L'.length M], .int .i64 p] W fun e w' => e = .returned (.tuple #[.agg (encP ((g p).getD pz)), .bool (g p).isSome]) ∧ Below W.heap.size W w') := hid (fun p W hb => by
    rw [hg]
    exact at_any M bs' L' ab' (some ⟨S', 0, none⟩) cap' M p (by rw [HLM2.out]; omega) (by have := HS2.out.2.1; omega) W (HU4.out.kept hb))
  have HM1 : Hid (∀ W, Below W4.heap.size W4 W → Calls Tryd.prog 8 #[.agg #[.int .i64 (M : Int), .slice ab bs.length cap, .slice (some ⟨S, 0, none⟩) L.length M], .agg #[.int .i64 (M : Int), .slice ab' bs'.length cap', .slice (some ⟨S', 0, none⟩) L'.length M]] W fun e w' => e = .returned (.int .i64 (mov f g M : Nat)) ∧ Below W.heap.size W w') := hid (fun W hb => by
    have := moved_any M M bs bs' L L' ab ab' (some ⟨S, 0, none⟩) (some ⟨S', 0, none⟩) cap cap' M M (by rw [HLM1.out]; omega) (by rw [HLM2.out]; omega) (by have := HS1.out.2.1; omega) (by have := HS2.out.2.1; omega) W (HT4.out.kept hb) (HU4.out.kept hb)
    rw [show min L.length L'.length = M by rw [HLM1.out, HLM2.out]; exact Nat.min_self _, ← hf, ← hg] at this
    exact this)
  have HM2 : Hid (∀ W, Below W4.heap.size W4 W → Calls Tryd.prog 8 #[.agg #[.int .i64 (M : Int), .slice ab' bs'.length cap', .slice (some ⟨S', 0, none⟩) L'.length M], .agg #[.int .i64 (M : Int), .slice ab bs.length cap, .slice (some ⟨S, 0, none⟩) L.length M]] W fun e w' => e = .returned (.int .i64 (mov f g M : Nat)) ∧ Below W.heap.size W w') := hid (fun W hb => by
    have := moved_any M M bs' bs L' L ab' ab (some ⟨S', 0, none⟩) (some ⟨S, 0, none⟩) cap' cap M M (by rw [HLM2.out]; omega) (by rw [HLM1.out]; omega) (by have := HS2.out.2.1; omega) (by have := HS1.out.2.1; omega) W (HU4.out.kept hb) (HT4.out.kept hb)
    rw [show min L'.length L.length = M by rw [HLM1.out, HLM2.out]; exact Nat.min_self _, ← hf, ← hg, mov_comm] at this
    exact this)
  have HSo : Hid (∀ p : Nat, p < M → (f p).isSome = true ∧ (g p).isSome = true) := hid (fun p hp => by rw [hf, hg]; exact ⟨HO1.out p hp, HO2.out p hp⟩)
  clear hf hg HT4 HU4 HO1 HO2 HLM1 HLM2 HS1 HS2
  go_upto_region 7 with fail
  rw [HW4.out]
  go_wp2_with fail
  go_loopg [11, 50] M (fun gg s11 s50 wr => ∃ p : Nat, s50 = .int .i64 (p : Int) ∧ s11 = .int .i64 (mov f g p : Nat) ∧ p ≤ M ∧ M - p ≤ gg ∧ Hid (Below W4.heap.size W4 wr))
  case atStart => exact ⟨0, rfl, rfl, by omega, by omega, hid (Below.refl _ _)⟩
  case round =>
    obtain ⟨p, rfl, rfl, hp, hgp, HBe⟩ := hrel
    have hml := mov_le f g p
    have c0 : wr.cell? ⟨w2.heap.size, 0, none⟩ = some (.int .i64 (M : Int)) := (J4.out.kept HBe.out).cell 0
    have c1 : wr.cell? ⟨w2.heap.size, 1, none⟩ = some (.slice ab bs.length cap) := (J4.out.kept HBe.out).cell 1
    have c2 : wr.cell? ⟨w2.heap.size, 2, none⟩ = some (.slice (some ⟨S, 0, none⟩) L.length M) := (J4.out.kept HBe.out).cell 2
    have d0 : wr.cell? ⟨w3.heap.size, 0, none⟩ = some (.int .i64 (M : Int)) := (K4.out.kept HBe.out).cell 0
    have d1 : wr.cell? ⟨w3.heap.size, 1, none⟩ = some (.slice ab' bs'.length cap') := (K4.out.kept HBe.out).cell 1
    have d2 : wr.cell? ⟨w3.heap.size, 2, none⟩ = some (.slice (some ⟨S', 0, none⟩) L'.length M) := (K4.out.kept HBe.out).cell 2
    by_cases hlt : p < M
    · have HA := hid (HA1.out p wr HBe.out)
      have HBp := hid (HA2.out p)
      obtain ⟨so1, so2⟩ := HSo.out p hlt
      have HM : Hid (mov f g (p + 1) = mov f g p + if ((f p).isSome && ((g p).isSome && !decide ((f p).getD pz = (g p).getD pz))) = true then 1 else 0) := hid rfl
      rw [so1] at HA HM
      rw [so2] at HBp HM
      clear so1 so2
      generalize hM0 : mov f g p = M0 at *
      clear hM0
      generalize (f p).getD pz = x at *
      generalize (g p).getD pz = y at *
      have heq := neq_pt x y
      obtain ⟨qe, hqe⟩ : ∃ qe, qe = !decide (x = y) := ⟨_, rfl⟩
      rw [← hqe] at heq HM
      clear hqe
      have HE := hid heq
      clear heq
      cases qe
      all_goals
        simp only [Bool.and_true, Bool.and_false, Bool.true_and, Bool.false_and, if_true, Bool.false_eq_true, if_false, Nat.add_zero] at HM
        have heq := HE.out
        go_wp2_with fail
        refine HA.out.mono ?_
        rintro e w5 ⟨rfl, hb⟩
        have hbv : Below W4.heap.size W4 (w5.alloc (.cells (encP x) 36)) := (HBe.out.trans (hb.mono HBe.out.size)).alloc (Nat.le_trans HBe.out.size hb.size) _
        have HBv := hid hbv
        have HCv := hid (HBp.out _ hbv)
        have HKv := hid (Blk.new w5 36 (encP x))
        have g0 : (w5.alloc (.cells (encP x) 36)).cell? ⟨w3.heap.size, 0, none⟩ = some (.int .i64 (M : Int)) := (K4.out.kept hbv).cell 0
        have g1 : (w5.alloc (.cells (encP x) 36)).cell? ⟨w3.heap.size, 1, none⟩ = some (.slice ab' bs'.length cap') := (K4.out.kept hbv).cell 1
        have g2 : (w5.alloc (.cells (encP x) 36)).cell? ⟨w3.heap.size, 2, none⟩ = some (.slice (some ⟨S', 0, none⟩) L'.length M) := (K4.out.kept hbv).cell 2
        obtain ⟨W5, hW5⟩ : ∃ W, W = w5.alloc (.cells (encP x) 36) := ⟨_, rfl⟩
        rw [← hW5] at g0 g1 g2 HBv HCv HKv
        have HW5 := hid hW5.symm
        clear hb hbv hW5
        go_upto_region 14 with ((show wpList _ _ _ (⟨none, _, _, _, _, _⟩ :: _) _ _); go_must (refine wpl_storeN (.tmp 13) (.tmp 57) rfl _ rfl rfl x rfl rfl ?_))
        rw [HW5.out]
        go_wp2_with fail
        refine HCv.out.mono ?_
        rintro e w6 ⟨rfl, hb⟩
        have HK3 := hid ((HKv.out.kept hb).alloc (.cells (encP y) 36))
        have HB3 : Hid (Below W4.heap.size W4 (w6.alloc (.cells (encP y) 36))) := hid ((HBv.out.trans (hb.mono HBv.out.size)).alloc (Nat.le_trans HBv.out.size hb.size) _)
        have HK4 := hid (Blk.new w6 36 (encP y))
        clear hb g0 g1 g2 c0 c1 c2 d0 d1 d2
        go_wp2_with (first
          | ((show wpList _ _ _ (⟨none, _, _, _, _, _⟩ :: _) _ _); go_must (refine wpl_storeN (.tmp 15) (.tmp 63) rfl _ rfl rfl y rfl rfl ?_))
          | ((show wpList _ _ _ (⟨some 65, _, _, _, _, _⟩ :: _) _ _); go_must (refine wpl_loadB (.tmp 13) rfl w5.heap.size rfl x HK3.out rfl ?_))
          | ((show wpList _ _ _ (⟨some 66, _, _, _, _, _⟩ :: _) _ _); go_must (refine wpl_loadB (.tmp 15) rfl w6.heap.size rfl y HK4.out rfl ?_)))
        go_roundg (M - (p + 1))
        case measure => omega
        case rel => exact ⟨p + 1, by go_num, by rw [HM.out]; try go_num, by omega, Nat.le_refl _, HB3⟩
    · obtain rfl : p = M := by omega
      have HC1 := hid (HM1.out wr HBe.out)
      have hq : ((mov f g p : Nat) : Int) = ((mov f g p : Nat) : Int) := rfl
      generalize mov f g p = M0 at *
      go_wp2_with fail
      refine HC1.out.mono ?_
      rintro e w5 ⟨rfl, hb⟩
      have HB5 := hid (HBe.out.trans (hb.mono HBe.out.size))
      have HC2 := hid (HM2.out w5 HB5.out)
      have g0 : w5.cell? ⟨w2.heap.size, 0, none⟩ = some (.int .i64 (p : Int)) := (J4.out.kept HB5.out).cell 0
      have g1 : w5.cell? ⟨w2.heap.size, 1, none⟩ = some (.slice ab bs.length cap) := (J4.out.kept HB5.out).cell 1
      have g2 : w5.cell? ⟨w2.heap.size, 2, none⟩ = some (.slice (some ⟨S, 0, none⟩) L.length p) := (J4.out.kept HB5.out).cell 2
      have h0 : w5.cell? ⟨w3.heap.size, 0, none⟩ = some (.int .i64 (p : Int)) := (K4.out.kept HB5.out).cell 0
      have h1 : w5.cell? ⟨w3.heap.size, 1, none⟩ = some (.slice ab' bs'.length cap') := (K4.out.kept HB5.out).cell 1
      have h2 : w5.cell? ⟨w3.heap.size, 2, none⟩ = some (.slice (some ⟨S', 0, none⟩) L'.length p) := (K4.out.kept HB5.out).cell 2
      clear hb c0 c1 c2 d0 d1 d2
      go_wp2_with fail
      refine HC2.out.mono ?_
      rintro e w6 ⟨rfl, hb⟩
      have HB6 := hid (bel2 HB4.out (HB5.out.trans (hb.mono HB5.out.size)))
      clear hb
      go_wp2
      go_ret
      exact ⟨rfl, HB6.out⟩

end Go.Proofs.YtgpbmbefdgbblaaDoor

namespace Go.Proofs.YtgpbmbefdgbblaaDoor
open Go.RowKit Go.Lib

theorem lmoves_any (E : Nat → TypeId × Value) (ax ay : Option Addr) (cx cy : Nat) (xs ys : List PS) (hcx : xs.length ≤ cx) (hcy : ys.length ≤ cy) (m : Int) (w : World) (hE : MEnv E w) (hX : Elems encP 18 w.heap.size w ax xs) (hY : Elems encP 18 w.heap.size w ay ys) :
    Calls Tryd.prog 4 #[.slice ax xs.length cx, .slice ay ys.length cy, .int .i64 m] w fun e w' => e = .returned (.bool true) ∧ Below w.heap.size w w' := by
  by_cases h : xs.length ≤ 40
  · by_cases h' : ys.length ≤ 40
    · by_cases f1 : fillE xs m = 0 <;> by_cases f2 : fillE ys m = 0
      · exact moves_oo E ax ay cx cy xs ys hcx hcy m h h' f1 f2 w hE hX hY
      · exact moves_oe E ax ay cx cy xs ys hcx hcy m h h' f1 f2 w hE hX hY
      · exact moves_eo E ax ay cx cy xs ys hcx hcy m h h' f1 f2 w hE hX hY
      · exact moves_ee E ax ay cx cy xs ys hcx hcy m h h' f1 f2 w hE hX hY
    · exact moves_long2 E ax ay cx cy xs ys hcx hcy m h (by omega) w hE hX hY
  · exact moves_long1 E ax ay cx cy xs ys hcx hcy m (by omega) w hE hX hY
end Go.Proofs.YtgpbmbefdgbblaaDoor
