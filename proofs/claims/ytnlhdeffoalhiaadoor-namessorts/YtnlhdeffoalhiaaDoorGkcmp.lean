/-
  names.Compare, as a sort takes it: the world behind it is the one before it, grown.
-/
import Derived.Test.YtnlhdeffoalhiaaDoorNcmp
import Derived.Test.YtnlhdeffoalhiaaDoorRnd
import Derived.Sort.Grow
import Derived.Deep.Cut
namespace Go.Proofs.YtnlhdeffoalhiaaDoor
open Go Go.Lib Go.RowKit

/-- What was stays; no draw is taken back. -/
def Grw (w w' : World) : Prop := Below w.heap.size w w' ∧ w.drawn ≤ w'.drawn
theorem Grw.refl (w : World) : Grw w w := ⟨Below.refl _ _, Nat.le_refl _⟩
theorem Grw.then {a b c : World} (h : Grw a b) (k : Grw b c) : Grw a c := ⟨bel2 h.1 k.1, Nat.le_trans h.2 k.2⟩
theorem Grw.alloc (w : World) (o : Obj) : Grw w (w.alloc o) := ⟨(Below.refl _ _).alloc (Nat.le_refl _) _, Nat.le_refl _⟩
theorem Grw.drewN (w : World) (n : Nat) : Grw w (w.drewN n) := ⟨below_drewN w n, Nat.le_add_right _ _⟩

theorem Grw.grown {w w' : World} (h : Grw w w') : ∃ q os, w' = Sort.grow (w.drewN q) os := by
  refine ⟨w'.drawn - w.drawn, w'.heap.extract w.heap.size w'.heap.size, ?_⟩
  have e1 : w.drawn + (w'.drawn - w.drawn) = w'.drawn := by have := h.2; omega
  have e2 : w.heap ++ w'.heap.extract w.heap.size w'.heap.size = w'.heap := by
    apply Array.ext_getElem?
    intro i
    have hz := h.1.size
    by_cases hi : i < w.heap.size
    · rw [Array.getElem?_append_left hi, h.1.block i hi]
    · rw [Array.getElem?_append_right (by omega)]
      by_cases hj : i < w'.heap.size
      · rw [Array.getElem?_eq_getElem (by simp; omega), Array.getElem?_eq_getElem hj, Array.getElem_extract]
        congr 2
        omega
      · rw [Array.getElem?_eq_none (by simp; omega), Array.getElem?_eq_none (by omega)]
  obtain ⟨b1, b2, b3, _, _⟩ := h.1
  show w' = { w with heap := w.heap ++ w'.heap.extract w.heap.size w'.heap.size, drawn := w.drawn + (w'.drawn - w.drawn) }
  rw [e1, e2, ← b1, ← b2, ← b3]

/-- The first that isn't nought. -/
def orI (x y : Int) : Int := if x = 0 then y else x

set_option maxHeartbeats 2000000 in
theorem or_any (g : Nat) (x y : Int) (w : World) (hB : Blk w g 3 #[.int .i64 x, .int .i64 y]) : Calls Tryd.prog 17 #[.slice (some ⟨g, 0, none⟩) 2 2] w fun e w' => e = .returned (.int .i64 (orI x y)) ∧ w = w' := by
  have c0 : w.cell? ⟨g, 0, none⟩ = some (.int .i64 x) := hB.cell 0
  have c1 : w.cell? ⟨g, 1, none⟩ = some (.int .i64 y) := hB.cell 1
  clear hB
  have HO : Hid ((x = 0 → orI x y = y) ∧ (x ≠ 0 → orI x y = x)) := hid ⟨fun h => if_pos h, fun h => if_neg h⟩
  by_cases hx : x = 0
  · have HE := hid (HO.out.1 hx)
    subst hx
    clear HO
    by_cases hy : y = 0
    · subst hy
      go_enter Tryd.func17, Tryd.ntmps17
      go_wp2
      go_loop [8] (fun i => i = .int .i64 0 ∨ i = .int .i64 1 ∨ i = .int .i64 2) (fun i => 2 - (intOf i).toNat)
      case atStart => exact .inl rfl
      case round =>
        rcases hrel with rfl | rfl | rfl
        · go_wp2
          go_round
          case rel => exact .inr (.inl rfl)
          case measure => simp [intOf]
        · go_wp2
          go_round
          case rel => exact .inr (.inr rfl)
          case measure => simp [intOf]
        · go_wp2
          go_ret
          rw [HE.out]
          exact ⟨rfl, rfl⟩
    · have d1 : (y != 0) = true := by simp [hy]
      clear hy
      go_enter Tryd.func17, Tryd.ntmps17
      go_wp2
      go_loop [8] (fun i => i = .int .i64 0 ∨ i = .int .i64 1) (fun i => 2 - (intOf i).toNat)
      case atStart => exact .inl rfl
      case round =>
        rcases hrel with rfl | rfl
        · go_wp2
          go_round
          case rel => exact .inr rfl
          case measure => simp [intOf]
        · go_wp2
          go_ret
          rw [HE.out]
          exact ⟨rfl, rfl⟩
  · have HE := hid (HO.out.2 hx)
    have d1 : (x != 0) = true := by simp [hx]
    clear HO hx
    go_enter Tryd.func17, Tryd.ntmps17
    go_wp2
    go_loop [8] (fun i => i = .int .i64 0) (fun i => 2 - (intOf i).toNat)
    case atStart => rfl
    case round =>
      subst hrel
      go_wp2
      go_ret
      rw [HE.out]
      exact ⟨rfl, rfl⟩

theorem kcmp_or (a b c d : ByteArray) : orI (scmp a c) (scmp b d) = kcmp a b c d := by
  unfold orI scmp kcmp
  cases Op.bytesLess a.toList c.toList <;> cases (a.toList == c.toList) <;> cases Op.bytesLess b.toList d.toList <;> cases (b.toList == d.toList) <;> simp

set_option maxRecDepth 100000 in
set_option maxHeartbeats 4000000 in
theorem kcompare_any (a b c d : ByteArray) (w : World) : Calls Tryd.prog 8 #[.agg #[.string a, .string b], .agg #[.string c, .string d]] w fun e w' => e = .returned (.int .i64 (kcmp a b c d)) ∧ Grw w w' := by
  obtain ⟨W0, hW0⟩ : ∃ W, W = (w.alloc (.cells #[.string a, .string b] 25)).alloc (.cells #[.string c, .string d] 25) := ⟨_, rfl⟩
  have hB1 : Blk W0 w.heap.size 25 #[.string a, .string b] := hW0 ▸ (Blk.new w _ _).alloc _
  have hB2 : Blk W0 (w.heap.size + 1) 25 #[.string c, .string d] := by have := Blk.new (w.alloc (.cells #[.string a, .string b] 25)) 25 #[.string c, .string d]; rw [World.size_alloc] at this; exact hW0 ▸ this
  have hb0 : Grw w W0 := hW0 ▸ (Grw.alloc w _).then (Grw.alloc _ _)
  have HW0 := hid hW0.symm
  have HB1 := hid hB1
  have HB2 := hid hB2
  have Hb0 := hid hb0
  have HC1 := hid (scompare_any a c)
  have HC2 := hid (scompare_any b d)
  have HE := hid (kcmp_or a b c d)
  clear hW0 hB1 hB2 hb0
  generalize scmp a c = x at HC1 HE
  generalize scmp b d = y at HC2 HE
  go_enter Tryd.func8, Tryd.ntmps8
  go_upto_region 1 with fail
  rw [HW0.out]
  have hS0 : Blk W0.drew w.heap.size 25 #[.string a, .string b] ∧ Blk W0.drew (w.heap.size + 1) 25 #[.string c, .string d] := ⟨HB1.out, HB2.out⟩
  refine wp_region_held_drew (S := fun V => Blk V w.heap.size 25 #[.string a, .string b] ∧ Blk V (w.heap.size + 1) 25 #[.string c, .string d]) (by kernel_rfl) hS0 (fun hS => ?_)
  change wpAnyH _ _ _ _ _ 13 #[false, false, false, false, false, false, false, false, false, false, false, false, false] _ _
  refine wpAnyH_take (i := 0) (v := .pointer (some ⟨w.heap.size, 0, none⟩)) rfl (by kernel_rfl) (by kernel_rfl) (by kernel_rfl) (fun _ _ _ h => h) (.inl ⟨by kernel_rfl, fun w' _ => by unfold execOp; go_simp⟩) hS ?_
  simp only [List.getElem_toArray, List.getElem_cons_zero, Act.put, List.setIfInBounds_toArray, List.set_cons_zero, List.set_cons_succ]
  refine wpAnyH_take (i := 1) (v := .string a) rfl (by kernel_rfl) (by kernel_rfl) (by kernel_rfl) (fun _ _ _ h => h) (.inl ⟨by kernel_rfl, fun w' hw' => by have hc : w'.cell? _ = _ := Blk.cell hw'.1 0; unfold execOp; simp [go_sem, hc]⟩) hS ?_
  simp only [List.getElem_toArray, List.getElem_cons_zero, List.getElem_cons_succ, Act.put, List.setIfInBounds_toArray, List.set_cons_zero, List.set_cons_succ]
  refine wpAnyH_take (i := 2) (v := .pointer (some ⟨w.heap.size + 1, 0, none⟩)) rfl (by kernel_rfl) (by kernel_rfl) (by kernel_rfl) (fun _ _ _ h => h) (.inl ⟨by kernel_rfl, fun w' _ => by unfold execOp; go_simp⟩) hS ?_
  simp only [List.getElem_toArray, List.getElem_cons_zero, List.getElem_cons_succ, Act.put, List.setIfInBounds_toArray, List.set_cons_zero, List.set_cons_succ]
  refine wpAnyH_take (i := 3) (v := .string c) rfl (by kernel_rfl) (by kernel_rfl) (by kernel_rfl) (fun _ _ _ h => h) (.inl ⟨by kernel_rfl, fun w' hw' => by have hc : w'.cell? _ = _ := Blk.cell hw'.2 0; unfold execOp; simp [go_sem, hc]⟩) hS ?_
  simp only [List.getElem_toArray, List.getElem_cons_zero, List.getElem_cons_succ, Act.put, List.setIfInBounds_toArray, List.set_cons_zero, List.set_cons_succ]
  refine wpAnyH_take (i := 5) (v := .pointer (some ⟨w.heap.size, 1, none⟩)) rfl (by kernel_rfl) (by kernel_rfl) (by kernel_rfl) (fun _ _ _ h => h) (.inl ⟨by kernel_rfl, fun w' _ => by unfold execOp; go_simp⟩) hS ?_
  simp only [List.getElem_toArray, List.getElem_cons_zero, List.getElem_cons_succ, Act.put, List.setIfInBounds_toArray, List.set_cons_zero, List.set_cons_succ]
  refine wpAnyH_take (i := 6) (v := .string b) rfl (by kernel_rfl) (by kernel_rfl) (by kernel_rfl) (fun _ _ _ h => h) (.inl ⟨by kernel_rfl, fun w' hw' => by have hc : w'.cell? _ = _ := Blk.cell hw'.1 1; unfold execOp; simp [go_sem, hc]⟩) hS ?_
  simp only [List.getElem_toArray, List.getElem_cons_zero, List.getElem_cons_succ, Act.put, List.setIfInBounds_toArray, List.set_cons_zero, List.set_cons_succ]
  refine wpAnyH_take (i := 7) (v := .pointer (some ⟨w.heap.size + 1, 1, none⟩)) rfl (by kernel_rfl) (by kernel_rfl) (by kernel_rfl) (fun _ _ _ h => h) (.inl ⟨by kernel_rfl, fun w' _ => by unfold execOp; go_simp⟩) hS ?_
  simp only [List.getElem_toArray, List.getElem_cons_zero, List.getElem_cons_succ, Act.put, List.setIfInBounds_toArray, List.set_cons_zero, List.set_cons_succ]
  refine wpAnyH_take (i := 8) (v := .string d) rfl (by kernel_rfl) (by kernel_rfl) (by kernel_rfl) (fun _ _ _ h => h) (.inl ⟨by kernel_rfl, fun w' hw' => by have hc : w'.cell? _ = _ := Blk.cell hw'.2 1; unfold execOp; simp [go_sem, hc]⟩) hS ?_
  simp only [List.getElem_toArray, List.getElem_cons_zero, List.getElem_cons_succ, Act.put, List.setIfInBounds_toArray, List.set_cons_zero, List.set_cons_succ]
  refine wpAnyH_ready (rs := [4]) (by kernel_rfl) (by simp) ?_
  refine AllReadyH.cons rfl (fun K' hK => ?_) AllReadyH.nil
  refine r_call 18 #[.string a, .string c] (by kernel_rfl) (by kernel_rfl) (.int .i64 x) (HC1.out _) (fun V h => hK.out _ _ (h ▸ hS) (fun hS => ?_))
  subst h
  simp only [List.getElem_toArray, List.getElem_cons_zero, List.getElem_cons_succ, Act.put, List.setIfInBounds_toArray, List.set_cons_zero, List.set_cons_succ]
  refine wpAnyH_ready (rs := [9]) (by kernel_rfl) (by simp) ?_
  refine AllReadyH.cons rfl (fun K' hK => ?_) AllReadyH.nil
  refine r_call 18 #[.string b, .string d] (by kernel_rfl) (by kernel_rfl) (.int .i64 y) (HC2.out _) (fun V h => hK.out _ _ (h ▸ hS) (fun hS => ?_))
  subst h
  simp only [List.getElem_toArray, List.getElem_cons_zero, List.getElem_cons_succ, Act.put, List.setIfInBounds_toArray, List.set_cons_zero, List.set_cons_succ]
  refine wpAnyH_ready (rs := [10]) (by kernel_rfl) (by simp) ?_
  refine AllReadyH.cons rfl (fun K' hK => ?_) AllReadyH.nil
  refine r_run (.slice (some ⟨W0.heap.size, 0, none⟩) 2 2) (W0.drew.alloc (.cells #[.int .i64 x, .int .i64 y] 3)) (by unfold execOp; go_simp) (by kernel_rfl) (hK.out _ _ ⟨hS.1.alloc _, hS.2.alloc _⟩ (fun hS => ?_))
  simp only [List.getElem_toArray, List.getElem_cons_zero, List.getElem_cons_succ, Act.put, List.setIfInBounds_toArray, List.set_cons_zero, List.set_cons_succ]
  refine wpAnyH_ready (rs := [11]) (by kernel_rfl) (by simp) ?_
  refine AllReadyH.cons rfl (fun K' hK => ?_) AllReadyH.nil
  refine r_call 17 #[.slice (some ⟨W0.heap.size, 0, none⟩) 2 2] (by kernel_rfl) (by kernel_rfl) (.int .i64 (orI x y)) (or_any W0.heap.size x y _ (Blk.new W0.drew _ _)) (fun V h => hK.out _ _ (h ▸ hS) (fun hS => ?_))
  subst h
  simp only [List.getElem_toArray, List.getElem_cons_zero, List.getElem_cons_succ, Act.put, List.setIfInBounds_toArray, List.set_cons_zero, List.set_cons_succ]
  refine wpAnyH_take (i := 12) (v := .int .i64 (orI x y)) rfl (by kernel_rfl) (by kernel_rfl) (by kernel_rfl) (fun _ _ _ h => h) (.inl ⟨by kernel_rfl, fun _ _ => by kernel_rfl⟩) hS ?_
  simp only [List.getElem_toArray, List.getElem_cons_zero, List.getElem_cons_succ, Act.put, List.setIfInBounds_toArray, List.set_cons_zero, List.set_cons_succ]
  refine wpAnyH_done (by kernel_rfl) ?_ _
  have F : Hid (Grw w (W0.drew.alloc (.cells #[.int .i64 x, .int .i64 y] 3))) := hid ((Hb0.out.then (Grw.drewN W0 1)).then (Grw.alloc _ _))
  clear hS hS0
  go_wp2
  go_ret
  rw [HE.out]
  exact ⟨rfl, F.out⟩
end Go.Proofs.YtnlhdeffoalhiaaDoor
