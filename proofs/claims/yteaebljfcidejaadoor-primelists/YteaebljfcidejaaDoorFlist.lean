/-
  prime.List: all primes up to a number, in a slice of its own.
-/
import Derived.Test.YteaebljfcidejaaDoorFnext
import Derived.Maps.AppendAt
import Derived.Deep.DeepMust
import Derived.Laws.AppendOwnNone
namespace Go.Proofs.YteaebljfcidejaaDoor
open Go.RowKit Go.Shelf Go.Lib
attribute [local go_sem] Oper.semAt_some

/-- The primes that prime.List lists. -/
def listOf (most : Int) : List Int := pls 2 (min most 10000 + 1 - 2).toNat
theorem fr_two : fr 2 = 2 := rfl
theorem ints_size (xs : List Pn) : (xs.map (fun x : Pn => Value.int .i64 x.1)).length = xs.length := List.length_map _
theorem Tryd.infoInt : (Tryd.prog.info? 3).map (fun i => (i.zero, i.size, i.bytes)) = some (some (.int .i64 0), 1, 8) := by kernel_rfl
theorem row_base {W : World} {a b : Nat} {e : TypeId} {v : Value} {n : Nat} {xs : List Value} (h : W.ownsRow a e 1 v n xs) (hab : b ≤ a) : W.ownsRow b e 1 v n xs := by
  refine ⟨h.1, ?_⟩
  rcases h.2 with h | ⟨g, cap, cur, h1, h2, h3⟩
  · exact .inl h
  · exact .inr ⟨g, cap, cur, h1, Nat.le_trans hab h2, h3⟩
theorem row_block {W : World} {a : Nat} {e : TypeId} {v : Value} {n : Nat} {xs : List Value} (h : W.ownsRow a e 1 v n xs) {k : Nat} (hk : k < a) : some k ≠ v.ownBlock := by
  rcases h.2 with ⟨rfl, _⟩ | ⟨g, cap, cur, rfl, h2, _⟩
  · simp [Value.ownBlock]
  · simp [Value.ownBlock]
    omega

set_option maxRecDepth 100000 in
set_option maxHeartbeats 4000000 in
theorem list_low (F : Fence) (n : Nat) (h14 : F.fn 14) (h20 : F.fn 20) (h25 : F.fn 25) (h8 : F.fn 8) (h11 : F.fn 11) (h19 : F.fn 19) (h24 : F.fn 24) (hro : F.round = none) (hn : 6 ≤ n) (most : Int) (hm : most ≤ 10000) (w : World) :
    CallsIn F n Tryd.prog 14 #[.int .i64 most] w fun e W' => ∃ v, e = .returned v ∧ W'.ownsRow w.heap.size 3 1 v (listOf most).length ((listOf most).map (Value.int .i64)) ∧ Below w.heap.size w W' := by
  have h1 : 1 ≤ n := by omega
  obtain ⟨i0, hi, hz0, hz1, hz2⟩ := info_parts Tryd.infoInt
  have HL : Hid (listOf most = pls (fr 2) (most + 1 - fr 2).toNat ∧ (most : Int) ≤ 10000) := hid ⟨by unfold listOf; rw [show min most 10000 = most by omega, fr_two], by omega⟩
  refine callsIn_of_wp_marks Tryd.func14 rfl h14 ?_ hro
  simp only [Tryd.ntmps14, List.size_toArray, List.length_cons, List.length_nil, Nat.reduceAdd, Nat.reduceSub, Array.replicate_succ, Array.replicate_zero, List.push_toArray, List.append_toArray, List.nil_append, List.cons_append]
  gi_wp2_with (gi_at_call 20; refine (between_in F (n - 1) h20 hro _ _ _).mono ?_; rintro e w' ⟨rfl, rfl⟩)
  have bO := Boxed.new w 30 (.slice none 0 0)
  have bA := Boxed.new (w.alloc (.cells #[.slice none 0 0] 30)) 3 (.int .i64 2)
  have bB := Boxed.new ((w.alloc (.cells #[.slice none 0 0] 30)).alloc (.cells #[.int .i64 2] 3)) 3 (.int .i64 most)
  simp only [World.size_alloc] at bA bB
  have hB0 : Below w.heap.size w (((w.alloc (.cells #[.slice none 0 0] 30)).alloc (.cells #[.int .i64 2] 3)).alloc (.cells #[.int .i64 most] 3)) := (((Below.refl _ w).alloc (Nat.le_refl _) _).alloc (by simp) _).alloc (by simp; omega) _
  refine wpIn_rangeFunc_ownG hro h1 (gf := 25) (lb := #[.pointer (some ⟨w.heap.size + 1, 0, none⟩), .pointer (some ⟨w.heap.size + 1 + 1, 0, none⟩)]) rfl h25 (enters_of Tryd.func25 (by kernel_rfl) rfl)
    (between_stops F (n - 1) h25 h8 h11 h19 h24 hro (by omega) (w.heap.size + 1) (w.heap.size + 1 + 1) w.heap.size 2 most (by omega) (by have := HL.out.2; omega) _ (by simp; omega) (by simp) (by simp) (bA.alloc _).cell bB.cell) KB.trans (KB.put (by simp; omega) (by simp)) (Below.refl _ _) (fun _ => rfl)
    (fun pre W => (∃ v, Boxed W w.heap.size 30 v ∧ W.ownsRow (w.heap.size + 3) 3 1 v pre.length (pre.map fun x : Pn => Value.int .i64 x.1) ∧ True) ∧ Below w.heap.size w W ∧ w.heap.size + 3 ≤ W.heap.size)
    (fun _ _ _ => False)
    (OwnFrom.and (Own.from (holdsRow_own (w.heap.size + 3) w.heap.size 30 3 1 (fun pre : List Pn => pre.length) (fun pre => pre.map fun x : Pn => Value.int .i64 x.1) (fun _ _ => True)) _) (OwnFrom.and (ownFrom_below (Nat.le_refl _) (by simp; omega)) (fun s A B row hs hg _ => Nat.le_trans hs hg.size)))
    (fun _ _ _ _ _ hs _ _ => hs)
    ⟨⟨_, (bO.alloc _).alloc _, World.ownsRow_nil _ _ _ _, trivial⟩, hB0, by simp⟩
    (fun x => { tmps := #[.int .i64 most, undef, .slice none 0 0, .pointer (some ⟨w.heap.size, 0, none⟩), .int .i64 x.1, .int .i64 most, .int .i64 most, .func (.func 25) #[] #[.pointer (some ⟨w.heap.size + 1, 0, none⟩), .pointer (some ⟨w.heap.size + 1 + 1, 0, none⟩)], .int .i64 x.1, undef, undef, undef, undef, undef], defers := [] }) ?assign ?body ?done ?stop
  case assign =>
    intro l x W K hK
    gi_wp2
    exact hK
  case body =>
    rintro l pre x W ⟨⟨v, hv, hrow, _⟩, hB, hsz⟩ hlt
    have hc := hv.cell
    have hq1 : pre.length + 1 ≤ maxLen := by unfold maxLen; omega
    have hq2 : (pre.length + 1) * 8 ≤ 140737488355328 := by omega
    gi_wp2_with (gi_at_builtin; go_must (refine wpListIn_append_own _ rfl _ _ 30 rfl (w.heap.size + 3) 3 i0 (.int .i64 0) 1 8 Tryd.underlying30 hi hz0 hz1 hz2 rfl (by decide) _ _ _ rfl (hrow.alloc _) ⟨W.heap.size, 0, none⟩ 1 1 [.int .i64 x.1] rfl rfl (cell_one_new _ _ _) (by simp [Value.oneCell']) hq1 hq2 (by simp; omega) ?_; intro v' w1 hown' hgrow _; obtain ⟨g', cap', rfl⟩ := ownsRow_succ hown'; obtain ⟨hv1, hv2, hr2, hk2, hb2⟩ := hv.appended (by decide) (row_base hrow (Nat.le_add_right _ 3)) hB.size (Nat.le_refl _) (row_base hown' (Nat.le_add_right _ 3)) hgrow; have hc1 := hv1.cell; have hf1 := hv1.frozen))
    have hbx : (w1.setCell ⟨w.heap.size, 0, none⟩ (.slice (some ⟨g', 0, none⟩) (pre.length + 1) cap')).heap[w.heap.size + 1 + 1]? = W.heap[w.heap.size + 1 + 1]? :=
      (Below.heap_setCell w1 ⟨w.heap.size, 0, none⟩ _ (w.heap.size + 1 + 1) (by simp; omega)).trans ((hgrow.block (w.heap.size + 1 + 1) (by simp; omega) (row_block hrow (by omega))).trans (Below.heap_alloc W _ _ (by omega)))
    have hr3 := hown'.kept (grownBy_setCell' w1 w.heap.size (.slice (some ⟨g', 0, none⟩) (pre.length + 1) cap')) (.inr (hv1.not_row (by decide) hown').symm)
    exact ⟨hk2.from _, ⟨hb2, hbx⟩, ⟨_, hv2, by simpa using hr3, trivial⟩, hB.trans hb2, Nat.le_trans hsz hb2.size⟩
  case done =>
    rintro D ys W hD hys ⟨⟨v, hv, hrow, _⟩, hB, _⟩ hK
    have hc := hv.cell
    gi_wp2
    refine ⟨by simp, .inl ⟨_, _, rfl, run_takeDeferred hK, ?_⟩⟩
    have e1 : (listOf most).length = ys.length := by rw [HL.out.1, ← hys, List.length_map]
    have e2 : (listOf most).map (Value.int .i64) = ys.map fun x : Pn => Value.int .i64 x.1 := by rw [HL.out.1, ← hys, List.map_map]; rfl
    exact ⟨_, results_tmp rfl _ _ _, v, rfl, by rw [e1, e2]; exact ownsRow_putObj (row_base hrow (Nat.le_add_right _ 3)) _ hK rfl, hB.trans (belowK_b (w := w) (Nat.le_refl _) W D _ _ (by simp at hD; omega) hK rfl rfl)⟩
  case stop =>
    rintro D c pre W _ _ h _
    exact h.elim

set_option maxRecDepth 100000 in
set_option maxHeartbeats 4000000 in
theorem list_high (F : Fence) (n : Nat) (h14 : F.fn 14) (h20 : F.fn 20) (h25 : F.fn 25) (h8 : F.fn 8) (h11 : F.fn 11) (h19 : F.fn 19) (h24 : F.fn 24) (hro : F.round = none) (hn : 6 ≤ n) (most : Int) (hm : 10000 < most) (w : World) :
    CallsIn F n Tryd.prog 14 #[.int .i64 most] w fun e W' => ∃ v, e = .returned v ∧ W'.ownsRow w.heap.size 3 1 v (listOf most).length ((listOf most).map (Value.int .i64)) ∧ Below w.heap.size w W' := by
  have h1 : 1 ≤ n := by omega
  obtain ⟨i0, hi, hz0, hz1, hz2⟩ := info_parts Tryd.infoInt
  have HL : Hid (listOf most = pls (fr 2) (10000 + 1 - fr 2).toNat ∧ (10000 : Int) ≤ 10000) := hid ⟨by unfold listOf; rw [show min most 10000 = 10000 by omega, fr_two], by omega⟩
  refine callsIn_of_wp_marks Tryd.func14 rfl h14 ?_ hro
  simp only [Tryd.ntmps14, List.size_toArray, List.length_cons, List.length_nil, Nat.reduceAdd, Nat.reduceSub, Array.replicate_succ, Array.replicate_zero, List.push_toArray, List.append_toArray, List.nil_append, List.cons_append]
  gi_wp2_with (gi_at_call 20; refine (between_in F (n - 1) h20 hro _ _ _).mono ?_; rintro e w' ⟨rfl, rfl⟩)
  have bO := Boxed.new w 30 (.slice none 0 0)
  have bA := Boxed.new (w.alloc (.cells #[.slice none 0 0] 30)) 3 (.int .i64 2)
  have bB := Boxed.new ((w.alloc (.cells #[.slice none 0 0] 30)).alloc (.cells #[.int .i64 2] 3)) 3 (.int .i64 10000)
  simp only [World.size_alloc] at bA bB
  have hB0 : Below w.heap.size w (((w.alloc (.cells #[.slice none 0 0] 30)).alloc (.cells #[.int .i64 2] 3)).alloc (.cells #[.int .i64 10000] 3)) := (((Below.refl _ w).alloc (Nat.le_refl _) _).alloc (by simp) _).alloc (by simp; omega) _
  refine wpIn_rangeFunc_ownG hro h1 (gf := 25) (lb := #[.pointer (some ⟨w.heap.size + 1, 0, none⟩), .pointer (some ⟨w.heap.size + 1 + 1, 0, none⟩)]) rfl h25 (enters_of Tryd.func25 (by kernel_rfl) rfl)
    (between_stops F (n - 1) h25 h8 h11 h19 h24 hro (by omega) (w.heap.size + 1) (w.heap.size + 1 + 1) w.heap.size 2 10000 (by omega) (by have := HL.out.2; omega) _ (by simp; omega) (by simp) (by simp) (bA.alloc _).cell bB.cell) KB.trans (KB.put (by simp; omega) (by simp)) (Below.refl _ _) (fun _ => rfl)
    (fun pre W => (∃ v, Boxed W w.heap.size 30 v ∧ W.ownsRow (w.heap.size + 3) 3 1 v pre.length (pre.map fun x : Pn => Value.int .i64 x.1) ∧ True) ∧ Below w.heap.size w W ∧ w.heap.size + 3 ≤ W.heap.size)
    (fun _ _ _ => False)
    (OwnFrom.and (Own.from (holdsRow_own (w.heap.size + 3) w.heap.size 30 3 1 (fun pre : List Pn => pre.length) (fun pre => pre.map fun x : Pn => Value.int .i64 x.1) (fun _ _ => True)) _) (OwnFrom.and (ownFrom_below (Nat.le_refl _) (by simp; omega)) (fun s A B row hs hg _ => Nat.le_trans hs hg.size)))
    (fun _ _ _ _ _ hs _ _ => hs)
    ⟨⟨_, (bO.alloc _).alloc _, World.ownsRow_nil _ _ _ _, trivial⟩, hB0, by simp⟩
    (fun x => { tmps := #[.int .i64 most, undef, .slice none 0 0, .pointer (some ⟨w.heap.size, 0, none⟩), .int .i64 x.1, .int .i64 most, .int .i64 10000, .func (.func 25) #[] #[.pointer (some ⟨w.heap.size + 1, 0, none⟩), .pointer (some ⟨w.heap.size + 1 + 1, 0, none⟩)], .int .i64 x.1, undef, undef, undef, undef, undef], defers := [] }) ?assign ?body ?done ?stop
  case assign =>
    intro l x W K hK
    gi_wp2
    exact hK
  case body =>
    rintro l pre x W ⟨⟨v, hv, hrow, _⟩, hB, hsz⟩ hlt
    have hc := hv.cell
    have hq1 : pre.length + 1 ≤ maxLen := by unfold maxLen; omega
    have hq2 : (pre.length + 1) * 8 ≤ 140737488355328 := by omega
    gi_wp2_with (gi_at_builtin; go_must (refine wpListIn_append_own _ rfl _ _ 30 rfl (w.heap.size + 3) 3 i0 (.int .i64 0) 1 8 Tryd.underlying30 hi hz0 hz1 hz2 rfl (by decide) _ _ _ rfl (hrow.alloc _) ⟨W.heap.size, 0, none⟩ 1 1 [.int .i64 x.1] rfl rfl (cell_one_new _ _ _) (by simp [Value.oneCell']) hq1 hq2 (by simp; omega) ?_; intro v' w1 hown' hgrow _; obtain ⟨g', cap', rfl⟩ := ownsRow_succ hown'; obtain ⟨hv1, hv2, hr2, hk2, hb2⟩ := hv.appended (by decide) (row_base hrow (Nat.le_add_right _ 3)) hB.size (Nat.le_refl _) (row_base hown' (Nat.le_add_right _ 3)) hgrow; have hc1 := hv1.cell; have hf1 := hv1.frozen))
    have hbx : (w1.setCell ⟨w.heap.size, 0, none⟩ (.slice (some ⟨g', 0, none⟩) (pre.length + 1) cap')).heap[w.heap.size + 1 + 1]? = W.heap[w.heap.size + 1 + 1]? :=
      (Below.heap_setCell w1 ⟨w.heap.size, 0, none⟩ _ (w.heap.size + 1 + 1) (by simp; omega)).trans ((hgrow.block (w.heap.size + 1 + 1) (by simp; omega) (row_block hrow (by omega))).trans (Below.heap_alloc W _ _ (by omega)))
    have hr3 := hown'.kept (grownBy_setCell' w1 w.heap.size (.slice (some ⟨g', 0, none⟩) (pre.length + 1) cap')) (.inr (hv1.not_row (by decide) hown').symm)
    exact ⟨hk2.from _, ⟨hb2, hbx⟩, ⟨_, hv2, by simpa using hr3, trivial⟩, hB.trans hb2, Nat.le_trans hsz hb2.size⟩
  case done =>
    rintro D ys W hD hys ⟨⟨v, hv, hrow, _⟩, hB, _⟩ hK
    have hc := hv.cell
    gi_wp2
    refine ⟨by simp, .inl ⟨_, _, rfl, run_takeDeferred hK, ?_⟩⟩
    have e1 : (listOf most).length = ys.length := by rw [HL.out.1, ← hys, List.length_map]
    have e2 : (listOf most).map (Value.int .i64) = ys.map fun x : Pn => Value.int .i64 x.1 := by rw [HL.out.1, ← hys, List.map_map]; rfl
    exact ⟨_, results_tmp rfl _ _ _, v, rfl, by rw [e1, e2]; exact ownsRow_putObj (row_base hrow (Nat.le_add_right _ 3)) _ hK rfl, hB.trans (belowK_b (w := w) (Nat.le_refl _) W D _ _ (by simp at hD; omega) hK rfl rfl)⟩
  case stop =>
    rintro D c pre W _ _ h _
    exact h.elim


theorem list_any (most : Int) (w : World) :
    Calls Tryd.prog 14 #[.int .i64 most] w fun e W' => ∃ v, e = .returned v ∧ W'.ownsRow w.heap.size 3 1 v (listOf most).length ((listOf most).map (Value.int .i64)) ∧ Below w.heap.size w W' := by
  by_cases h : most ≤ 10000
  · exact callsIn_wide.1 (list_low Fence.wide 6 trivial trivial trivial trivial trivial trivial trivial rfl (by omega) most h w)
  · exact callsIn_wide.1 (list_high Fence.wide 6 trivial trivial trivial trivial trivial trivial trivial rfl (by omega) most (by omega) w)
end Go.Proofs.YteaebljfcidejaaDoor
