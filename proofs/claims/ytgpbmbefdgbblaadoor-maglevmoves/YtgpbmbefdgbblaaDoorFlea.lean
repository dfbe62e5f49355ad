/-
  prime.Least and prime.Is, inside a fence and outside.
-/
import Derived.Test.YtgpbmbefdgbblaaDoorFtri
namespace Go.Proofs.YtgpbmbefdgbblaaDoor
open Go.RowKit Go.Shelf Go.Lib
attribute [local go_sem] Oper.semAt_some

/-- The last one that came. -/
def lastD (pre : List Tr) : Int := (pre.getLast?.map (·.1)).getD 0
theorem lastD_app (q : List Tr) (x : Tr) : lastD (q ++ [x]) = x.1 := by simp [lastD]

/-- The last one divides, none ahead of it does. -/
def Found (N : Int) (pre : List Tr) : Prop := ∃ q x, pre = q ++ [x] ∧ (∀ y ∈ q, N % y.1 ≠ 0) ∧ N % x.1 = 0

theorem ret_i {v : Value} {x y : Int} (hv : v = .int .i64 x) (h : x = y) : Ending.returned v = .returned (.int .i64 y) := by rw [hv, h]
theorem ret_b {v : Value} {x y : Bool} (hv : v = .bool x) (h : x = y) : Ending.returned v = .returned (.bool y) := by rw [hv, h]

set_option maxRecDepth 100000 in
set_option maxHeartbeats 4000000 in
theorem least_no (F : Fence) (n : Nat) (h11 : F.fn 34) (hro : F.round = none) (N : Int) (hN : N < 2 ∨ 2147483648 < N) (w : World) :
    CallsIn F n Tryd.prog 34 #[.int .i64 N] w fun e W' => e = .returned (.int .i64 0) ∧ Below w.heap.size w W' := by
  rcases hN with h | h
  all_goals
    refine callsIn_of_wp Tryd.func34 rfl h11 ?_ hro
    simp only [Tryd.ntmps34, List.size_toArray, List.length_cons, List.length_nil, Nat.reduceAdd, Nat.reduceSub, Array.replicate_succ, Array.replicate_zero, List.push_toArray, List.append_toArray, List.nil_append, List.cons_append]
    have hB : Below w.heap.size w ((w.alloc (.cells #[.int .i64 N] 3)).alloc (.cells #[.int .i64 0] 3)) := ((Below.refl _ w).alloc (Nat.le_refl _) _).alloc (by simp) _
    have bR := (Boxed.new (w.alloc (.cells #[.int .i64 N] 3)) 3 (.int .i64 0)).cell
    simp only [World.size_alloc] at bR
    gi_wp2
    refine bodyPost_ret (v := .int .i64 0) ?_ rfl ⟨rfl, hB⟩
    simp [results, Tryd.f34, go_sem, bR]

set_option maxRecDepth 100000 in
set_option maxHeartbeats 4000000 in
theorem least_yes (F : Fence) (n : Nat) (h11 : F.fn 34) (h19 : F.fn 48) (h24 : F.fn 61) (hro : F.round = none) (hn : 3 ≤ n) (N : Int) (hN : 2 ≤ N ∧ N ≤ 2147483648) (w : World) :
    CallsIn F n Tryd.prog 34 #[.int .i64 N] w fun e W' => e = .returned (.int .i64 (lst N.toNat)) ∧ Below w.heap.size w W' := by
  have h1 : 1 ≤ n := by omega
  have HN := hid hN
  refine callsIn_of_wp_marks Tryd.func34 rfl h11 ?_ hro
  simp only [Tryd.ntmps34, List.size_toArray, List.length_cons, List.length_nil, Nat.reduceAdd, Nat.reduceSub, Array.replicate_succ, Array.replicate_zero, List.push_toArray, List.append_toArray, List.nil_append, List.cons_append]
  gi_wp2_with (gi_at_call 48; refine (trials_in F (n - 1) h19 hro _ _).mono ?_; rintro e w' ⟨rfl, rfl⟩)
  have bN := Boxed.new w 3 (.int .i64 N)
  have bR := Boxed.new (w.alloc (.cells #[.int .i64 N] 3)) 3 (.int .i64 0)
  have bB := Boxed.new ((w.alloc (.cells #[.int .i64 N] 3)).alloc (.cells #[.int .i64 0] 3)) 3 (.int .i64 N)
  simp only [World.size_alloc] at bR bB
  have hB1 : Below w.heap.size w (((w.alloc (.cells #[.int .i64 N] 3)).alloc (.cells #[.int .i64 0] 3)).alloc (.cells #[.int .i64 N] 3)) := (((Below.refl _ w).alloc (Nat.le_refl _) _).alloc (by simp) _).alloc (by simp; omega) _
  refine wpIn_rangeFunc_ownG hro h1 (gf := 61) (lb := #[.pointer (some ⟨w.heap.size + 1 + 1, 0, none⟩)]) rfl h24 (enters_of Tryd.func61 (by kernel_rfl) rfl)
    (trials_stops F (n - 1) h24 hro (by omega) (w.heap.size + 1 + 1) w.heap.size N HN.out _ (by simp) bB.cell) KB.trans (KB.put (by simp; omega) (by simp)) (Below.refl _ _) (fun _ => rfl)
    (fun pre W => ((∀ y ∈ pre, N % y.1 ≠ 0) ∧ W.cell? ⟨w.heap.size, 0, none⟩ = some (.int .i64 N) ∧ W.cell? ⟨w.heap.size + 1, 0, none⟩ = some (.int .i64 0) ∧ W.frozen? ⟨w.heap.size + 1, 0, none⟩ = false) ∧ Below w.heap.size w W)
    (fun c pre W => (c = .ret ∧ Found N pre ∧ W.cell? ⟨w.heap.size + 1, 0, none⟩ = some (.int .i64 (lastD pre))) ∧ Below w.heap.size w W)
    (OwnFrom.and (Own.from (fun s A B row hs hg hr => ⟨hs.1, cell_kept hs.2.1 hg hr, cell_kept hs.2.2.1 hg hr, (frozen_kept hs.2.2.1 hg hr).trans hs.2.2.2⟩) _) (ownFrom_below (Nat.le_refl _) (by simp; omega)))
    (fun c => OwnFrom.and (Own.from (fun s A B row hs hg hr => ⟨hs.1, hs.2.1, cell_kept hs.2.2 hg hr⟩) _) (ownFrom_below (Nat.le_refl _) (by simp; omega)))
    ⟨⟨by simp, ((bN.alloc _).alloc _).cell, (bR.alloc _).cell, (bR.alloc _).frozen⟩, hB1⟩
    (fun x => { tmps := #[.int .i64 N, .pointer (some ⟨w.heap.size, 0, none⟩), .pointer (some ⟨w.heap.size + 1, 0, none⟩), .int .i64 x.1, .int .i64 N, .bool (decide (N < 2)), .bool (decide (N < 2)), .int .i64 N, .bool (decide (2147483648 < N)), .bool (decide (N < 2) || decide (2147483648 < N)), .int .i64 N, .func (.func 61) #[] #[.pointer (some ⟨w.heap.size + 1 + 1, 0, none⟩)], .int .i64 x.1, undef, undef, undef, undef, undef, undef], defers := [] }) ?assign ?body ?done ?stop
  case assign =>
    intro l x W K hK
    gi_wp2
    exact hK
  case body =>
    rintro l pre x W ⟨⟨hp, hcn, hcr, hfr⟩, hB⟩ _
    obtain ⟨x, hx1, hx2⟩ := x
    have HP := hid hp
    clear hp
    by_cases hm : N % x = 0
    · gi_wp2
      exact ⟨(KeepsOthers.setCell _ _ _).from _, ⟨rfl, ⟨pre, ⟨x, hx1, hx2⟩, rfl, HP.out, hm⟩, by rw [lastD_app]; exact World.cell?_setCell_same' _ _ _ (by rw [hcr]; rfl)⟩, hB.setCell (p := ⟨w.heap.size + 1, 0, none⟩) (by simp) _⟩
    · gi_wp2
      exact ⟨(KeepsOthers.refl _).from _, KB.refl _ _ _, ⟨fun y hy => (List.mem_append.1 hy).elim (HP.out y) (fun e => by simp at e; subst e; exact hm), hcn, hcr, hfr⟩, hB⟩
  case done =>
    rintro D ys W hD ⟨k, hk, hys, hs⟩ ⟨⟨hne, hcn, hcr, hfr⟩, hB⟩ hK
    have HE : Hid (N = ((lst N.toNat : Nat) : Int)) := hid (by
      have e : ((N.toNat : Nat) : Int) = N := by have := HN.out; omega
      rw [trl_done (n := N.toNat) (k := k) (by have := HN.out; omega) hk (by rw [e]; exact hs) (fun x hx => by rw [← hys] at hx; obtain ⟨y, hy, rfl⟩ := List.mem_map.1 hx; rw [e]; exact hne y hy)]
      exact e.symm)
    clear hne hys hs
    gi_wp2
    have hK' := (KeepsOthers.setCell W ⟨w.heap.size + 1, 0, none⟩ (.int .i64 N)).same D _ hK rfl
    refine ⟨by simp, .inl ⟨_, _, rfl, run_takeDeferred hK', ?_⟩⟩
    have hc5 := cell_kept (World.cell?_setCell_same' W ⟨w.heap.size + 1, 0, none⟩ (.int .i64 N) (by rw [hcr]; rfl)) (grownBy_putObj' _ D (.deferred none)) (fun r e => by cases e; exact ⟨_, hK', rfl⟩)
    refine ⟨.int .i64 N, ?_, ret_i rfl HE.out, (hB.setCell (p := ⟨w.heap.size + 1, 0, none⟩) (by simp) _).trans (belowK_b (w := w) (Nat.le_refl _) _ D _ _ (by simp at hD; omega) hK' rfl rfl)⟩
    simp [results, Tryd.f34, go_sem, hc5]
  case stop =>
    rintro D c pre W hD ⟨k, hpre⟩ ⟨⟨rfl, ⟨q, x, rfl, hne, hx⟩, hcr⟩, hB⟩ hK
    rw [lastD_app] at hcr
    have HE : Hid (x.1 = ((lst N.toNat : Nat) : Int)) := hid (by
      have e : ((N.toNat : Nat) : Int) = N := by have := HN.out; omega
      rw [List.map_append, trl_succ] at hpre
      obtain ⟨e1, e2⟩ := List.append_inj' hpre rfl
      have e3 : x.1 = tri k := by simpa using e2
      rw [trl_found (n := N.toNat) (k := k) (by have := HN.out; omega) (by rw [e, ← e3]; exact hx) (fun z hz => by rw [← e1] at hz; obtain ⟨y, hy, rfl⟩ := List.mem_map.1 hz; rw [e]; exact hne y hy)]
      exact e3)
    gi_wp2
    refine ⟨by simp, .inl ⟨_, _, rfl, run_takeDeferred hK, ?_⟩⟩
    have hc5 := cell_kept hcr (grownBy_putObj' _ D (.deferred none)) (fun r e => by cases e; exact ⟨_, hK, rfl⟩)
    refine ⟨.int .i64 x.1, ?_, ret_i rfl HE.out, hB.trans (belowK_b (w := w) (Nat.le_refl _) W D _ _ (by simp at hD; omega) hK rfl rfl)⟩
    simp [results, Tryd.f34, go_sem, hc5]

/-- prime.Least of every number. -/
theorem least_in (F : Fence) (n : Nat) (h11 : F.fn 34) (h19 : F.fn 48) (h24 : F.fn 61) (hro : F.round = none) (hn : 3 ≤ n) (N : Int) (w : World) :
    CallsIn F n Tryd.prog 34 #[.int .i64 N] w fun e W' => e = .returned (.int .i64 (leastOf N)) ∧ Below w.heap.size w W' := by
  by_cases h : N < 2 ∨ 2147483648 < N
  · rw [leastOf, if_pos h]
    exact least_no F n h11 hro N h w
  · rw [leastOf, if_neg h]
    exact least_yes F n h11 h19 h24 hro hn N (by omega) w

set_option maxRecDepth 100000 in
set_option maxHeartbeats 4000000 in
theorem is_in (F : Fence) (n : Nat) (h8 : F.fn 22) (h11 : F.fn 34) (h19 : F.fn 48) (h24 : F.fn 61) (hro : F.round = none) (hn : 4 ≤ n) (N : Int) (w : World) :
    CallsIn F n Tryd.prog 22 #[.int .i64 N] w fun e W' => e = .returned (.bool (isP N)) ∧ Below w.heap.size w W' := by
  have HL := hid (least_in F (n - 1) h11 h19 h24 hro (by omega) N w)
  have HP : Hid (isP N = (decide (2 ≤ N) && (leastOf N == N))) := hid rfl
  have h1 : 1 ≤ n := by omega
  generalize leastOf N = m at HL HP
  generalize isP N = b at HP ⊢
  by_cases h : 2 ≤ N
  · have HQ : Hid ((m == N) = b) := hid (by rw [HP.out, decide_eq_true h, Bool.true_and])
    clear HP
    refine callsIn_of_wp Tryd.func22 rfl h8 ?_ hro
    simp only [Tryd.ntmps22, List.size_toArray, List.length_cons, List.length_nil, Nat.reduceAdd, Nat.reduceSub, Array.replicate_succ, Array.replicate_zero, List.push_toArray, List.append_toArray, List.nil_append, List.cons_append]
    gi_wp2_with (gi_at_call 34; refine HL.out.mono ?_; rintro e w' ⟨rfl, hb⟩; have Hb := hid hb; clear hb)
    go_ret
    exact ⟨ret_b rfl HQ.out, Hb.out⟩
  · have HQ : Hid (false = b) := hid (by rw [HP.out, decide_eq_false h, Bool.false_and])
    clear HP
    refine callsIn_of_wp Tryd.func22 rfl h8 ?_ hro
    simp only [Tryd.ntmps22, List.size_toArray, List.length_cons, List.length_nil, Nat.reduceAdd, Nat.reduceSub, Array.replicate_succ, Array.replicate_zero, List.push_toArray, List.append_toArray, List.nil_append, List.cons_append]
    gi_wp2
    go_ret
    exact ⟨ret_b rfl HQ.out, Below.refl _ _⟩

theorem least_any (N : Int) (w : World) : Calls Tryd.prog 34 #[.int .i64 N] w fun e W' => e = .returned (.int .i64 (leastOf N)) ∧ Below w.heap.size w W' :=
  callsIn_wide.1 (least_in Fence.wide 3 trivial trivial trivial rfl (by omega) N w)
theorem is_any (N : Int) (w : World) : Calls Tryd.prog 22 #[.int .i64 N] w fun e W' => e = .returned (.bool (isP N)) ∧ Below w.heap.size w W' :=
  callsIn_wide.1 (is_in Fence.wide 4 trivial trivial trivial trivial rfl (by omega) N w)
end Go.Proofs.YtgpbmbefdgbblaaDoor
