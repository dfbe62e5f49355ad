/-
  Sums: Add.
-/
import Derived.Test.YtnlhdeffoalhiaaDoorSwb
namespace Go.Proofs.YtnlhdeffoalhiaaDoor
open Go.RowKit Go.Shelf Go.Lib
attribute [local go_sem] Oper.semAt_some

def from40 (s : Int) : Int := if s < 0 then 0 else if 1099511627776 < s then 1099511627776 else s

theorem wsum_wlist (bs : List Int) (k : Nat) (s : Int) (xs : List (Int × Int)) (h : xs = wlist bs k) : s + (xs.map (·.2)).sum = s + wsum bs k := by
  subst h
  congr 1
  induction k with
  | zero => rfl
  | succ k ih => rw [wlist_succ, List.map_append, List.sum_append, ih, wsum]; simp

set_option maxRecDepth 100000 in
set_option maxHeartbeats 4000000 in
theorem sadd_in (F : Fence) (n : Nat) (h10 : F.fn 31) (h21 : F.fn 40) (h25 : F.fn 53) (h23 : F.fn 54) (hro : F.round = none) (hn : 4 ≤ n) (s : Int) (cap : Nat) (ad : Option Addr) (bs : List Int) (hby : Byt bs) (hcap : bs.length ≤ cap) (hm : bs.length ≤ 1000000) (w : World) (hI : Bys w.heap.size w ad bs) :
    CallsIn F n Tryd.prog 31 #[.int .i64 s, .slice ad bs.length cap] w fun e W' => e = .returned (.int .i64 (from40 s + total bs)) ∧ Below w.heap.size w W' := by
  have h1 : 1 ≤ n := by omega
  have h1' : 1 ≤ n - 1 := by omega
  obtain ⟨len, hlen⟩ : ∃ len, bs.length = len := ⟨_, rfl⟩
  rw [hlen] at hcap hm ⊢
  have HL := hid hlen
  clear hlen
  have GF : Hid ((s < 0 → from40 s = 0) ∧ (s = 0 → from40 s = 0) ∧ (0 < s → s ≤ 1099511627776 → from40 s = s) ∧ (1099511627776 < s → from40 s = 1099511627776)) := hid (by unfold from40; refine ⟨fun h => ?_, fun h => ?_, fun h h' => ?_, fun h => ?_⟩ <;> repeat' split <;> omega)
  rcases Int.lt_trichotomy s 0 with h | h | h
  · have hfr : from40 s = 0 := GF.out.1 h
    have HF := hid hfr
    clear GF hfr
    refine callsIn_of_wp_marks Tryd.func31 rfl h10 ?_ hro
    simp only [Tryd.ntmps31, List.size_toArray, List.length_cons, List.length_nil, Nat.reduceAdd, Nat.reduceSub, Array.replicate_succ, Array.replicate_zero, List.push_toArray, List.append_toArray, List.nil_append, List.cons_append]
    gi_wp2_with (gi_at_call 40; refine (words_in F (n - 1) h21 hro _ _ _ _).mono ?_; rintro e w' ⟨rfl, rfl⟩)
    have bS := Boxed.new w 3 (.int .i64 0)
    have bN := Boxed.new (w.alloc (.cells #[.int .i64 0] 3)) 33 (.slice ad len cap)
    rw [World.size_alloc] at bN
    have hB1 : Below w.heap.size w ((w.alloc (.cells #[.int .i64 0] 3)).alloc (.cells #[.slice ad len cap] 33)) := ((Below.refl _ w).alloc (Nat.le_refl _) _).alloc (by simp) _
    refine wpIn_rangeFunc_ownG hro h1 (gf := 53) (lb := #[.pointer (some ⟨w.heap.size + 1, 0, none⟩)]) rfl h25 (enters_of Tryd.func53 (by kernel_rfl) rfl)
      (words_stops F (n - 1) h25 h23 hro (by omega) (w.heap.size + 1) w.heap.size cap ad bs hby (by rw [HL.out]; exact hcap) (by rw [HL.out]; exact hm) _ (by simp) (by simp; omega) (by rw [HL.out]; exact bN.cell) (hI.below hB1)) KB.trans (KB.put (by simp; omega) (by simp)) (Below.refl _ _) (fun _ => rfl)
      (fun pre W => (W.cell? ⟨w.heap.size, 0, none⟩ = some (.int .i64 (wrap64 (0 + (pre.map (·.2)).sum))) ∧ W.frozen? ⟨w.heap.size, 0, none⟩ = false) ∧ Below w.heap.size w W)
      (fun _ _ _ => False)
      (OwnFrom.and (Own.from (fun s A B row hs hg hr => ⟨cell_kept hs.1 hg hr, (frozen_kept hs.1 hg hr).trans hs.2⟩) _) (ownFrom_below (Nat.le_refl _) (by simp; omega)))
      (fun _ _ _ _ _ hs _ _ => hs)
      ⟨⟨by rw [show wrap64 (0 + (([] : List (Int × Int)).map (·.2)).sum) = 0 by simp only [List.map_nil, List.sum_nil, wrap64]; omega]; exact (bS.alloc _).cell, (bS.alloc _).frozen⟩, hB1⟩
      (fun x => { tmps := #[.int .i64 s, .slice ad len cap, .pointer (some ⟨w.heap.size, 0, none⟩), undef, .int .i64 0, undef, .int .i64 x.2, .int .i64 s, .int .i64 0, .int .i64 0, .slice ad len cap, .func (.func 53) #[] #[.pointer (some ⟨w.heap.size + 1, 0, none⟩)], .int .i64 x.1, .int .i64 x.2, undef, undef, undef, undef], defers := [] }) ?assign ?body ?done ?stop
    case assign =>
      intro l x W K hK
      gi_wp2
      exact hK
    case body =>
      rintro l pre x W ⟨⟨hc, hf⟩, hB⟩ _
      obtain ⟨T, hT⟩ : ∃ T, wrap64 (0 + (pre.map (·.2)).sum) = T := ⟨_, rfl⟩
      rw [hT] at hc
      have HT := hid hT
      clear hT
      obtain ⟨x1, x2⟩ := x
      gi_wp2
      refine ⟨(KeepsOthers.setCell _ _ _).from _, KB.set W (Nat.le_refl _) (by omega) 0 _, ⟨?_, by rw [World.frozen?_setCell]; exact hf⟩, hB.setCell (p := ⟨w.heap.size, 0, none⟩) (Nat.le_refl _) _⟩
      rw [show wrap64 (0 + ((pre ++ [(x1, x2)]).map (·.2)).sum) = wrap64 (T + x2) by
        rw [← HT.out]
        simp only [List.map_append, List.sum_append, List.map_cons, List.map_nil, List.sum_cons, List.sum_nil]
        unfold wrap64
        omega]
      exact World.cell?_setCell_same' _ _ _ (by rw [hc]; rfl)
    case done =>
      rintro D ys W hD rfl ⟨⟨hc, _⟩, hB⟩ hK
      rw [wsum_wlist bs _ _ _ rfl] at hc
      have ht := wsum_range hby (nw bs.length)
      have hq : (nw bs.length : Int) ≤ 1000001 := by
        have := HL.out
        unfold nw
        omega
      have HT : Hid (wrap64 (0 + wsum bs (nw bs.length)) = from40 s + total bs) := hid (by
        rw [HF.out]
        unfold wrap64 total
        omega)
      generalize wrap64 (0 + wsum bs (nw bs.length)) = T at hc HT
      gi_wp2
      refine ⟨by simp, .inl ⟨_, _, rfl, run_takeDeferred hK, ?_⟩⟩
      exact ⟨_, results_tmp rfl _ _ _, ret_i rfl HT.out, hB.trans (belowK_b (w := w) (Nat.le_refl _) W D _ _ (by simp at hD; omega) hK rfl rfl)⟩
    case stop =>
      rintro D c pre W _ _ h _
      exact h.elim
  · subst h
    have hfr : from40 0 = 0 := GF.out.2.1 rfl
    have HF := hid hfr
    clear GF hfr
    refine callsIn_of_wp_marks Tryd.func31 rfl h10 ?_ hro
    simp only [Tryd.ntmps31, List.size_toArray, List.length_cons, List.length_nil, Nat.reduceAdd, Nat.reduceSub, Array.replicate_succ, Array.replicate_zero, List.push_toArray, List.append_toArray, List.nil_append, List.cons_append]
    gi_wp2_with (gi_at_call 40; refine (words_in F (n - 1) h21 hro _ _ _ _).mono ?_; rintro e w' ⟨rfl, rfl⟩)
    have bS := Boxed.new w 3 (.int .i64 0)
    have bN := Boxed.new (w.alloc (.cells #[.int .i64 0] 3)) 33 (.slice ad len cap)
    rw [World.size_alloc] at bN
    have hB1 : Below w.heap.size w ((w.alloc (.cells #[.int .i64 0] 3)).alloc (.cells #[.slice ad len cap] 33)) := ((Below.refl _ w).alloc (Nat.le_refl _) _).alloc (by simp) _
    refine wpIn_rangeFunc_ownG hro h1 (gf := 53) (lb := #[.pointer (some ⟨w.heap.size + 1, 0, none⟩)]) rfl h25 (enters_of Tryd.func53 (by kernel_rfl) rfl)
      (words_stops F (n - 1) h25 h23 hro (by omega) (w.heap.size + 1) w.heap.size cap ad bs hby (by rw [HL.out]; exact hcap) (by rw [HL.out]; exact hm) _ (by simp) (by simp; omega) (by rw [HL.out]; exact bN.cell) (hI.below hB1)) KB.trans (KB.put (by simp; omega) (by simp)) (Below.refl _ _) (fun _ => rfl)
      (fun pre W => (W.cell? ⟨w.heap.size, 0, none⟩ = some (.int .i64 (wrap64 (0 + (pre.map (·.2)).sum))) ∧ W.frozen? ⟨w.heap.size, 0, none⟩ = false) ∧ Below w.heap.size w W)
      (fun _ _ _ => False)
      (OwnFrom.and (Own.from (fun s A B row hs hg hr => ⟨cell_kept hs.1 hg hr, (frozen_kept hs.1 hg hr).trans hs.2⟩) _) (ownFrom_below (Nat.le_refl _) (by simp; omega)))
      (fun _ _ _ _ _ hs _ _ => hs)
      ⟨⟨by rw [show wrap64 (0 + (([] : List (Int × Int)).map (·.2)).sum) = 0 by simp only [List.map_nil, List.sum_nil, wrap64]; omega]; exact (bS.alloc _).cell, (bS.alloc _).frozen⟩, hB1⟩
      (fun x => { tmps := #[.int .i64 0, .slice ad len cap, .pointer (some ⟨w.heap.size, 0, none⟩), undef, .int .i64 0, undef, .int .i64 x.2, .int .i64 0, .int .i64 0, .int .i64 0, .slice ad len cap, .func (.func 53) #[] #[.pointer (some ⟨w.heap.size + 1, 0, none⟩)], .int .i64 x.1, .int .i64 x.2, undef, undef, undef, undef], defers := [] }) ?assign ?body ?done ?stop
    case assign =>
      intro l x W K hK
      gi_wp2
      exact hK
    case body =>
      rintro l pre x W ⟨⟨hc, hf⟩, hB⟩ _
      obtain ⟨T, hT⟩ : ∃ T, wrap64 (0 + (pre.map (·.2)).sum) = T := ⟨_, rfl⟩
      rw [hT] at hc
      have HT := hid hT
      clear hT
      obtain ⟨x1, x2⟩ := x
      gi_wp2
      refine ⟨(KeepsOthers.setCell _ _ _).from _, KB.set W (Nat.le_refl _) (by omega) 0 _, ⟨?_, by rw [World.frozen?_setCell]; exact hf⟩, hB.setCell (p := ⟨w.heap.size, 0, none⟩) (Nat.le_refl _) _⟩
      rw [show wrap64 (0 + ((pre ++ [(x1, x2)]).map (·.2)).sum) = wrap64 (T + x2) by
        rw [← HT.out]
        simp only [List.map_append, List.sum_append, List.map_cons, List.map_nil, List.sum_cons, List.sum_nil]
        unfold wrap64
        omega]
      exact World.cell?_setCell_same' _ _ _ (by rw [hc]; rfl)
    case done =>
      rintro D ys W hD rfl ⟨⟨hc, _⟩, hB⟩ hK
      rw [wsum_wlist bs _ _ _ rfl] at hc
      have ht := wsum_range hby (nw bs.length)
      have hq : (nw bs.length : Int) ≤ 1000001 := by
        have := HL.out
        unfold nw
        omega
      have HT : Hid (wrap64 (0 + wsum bs (nw bs.length)) = from40 0 + total bs) := hid (by
        rw [HF.out]
        unfold wrap64 total
        omega)
      generalize wrap64 (0 + wsum bs (nw bs.length)) = T at hc HT
      gi_wp2
      refine ⟨by simp, .inl ⟨_, _, rfl, run_takeDeferred hK, ?_⟩⟩
      exact ⟨_, results_tmp rfl _ _ _, ret_i rfl HT.out, hB.trans (belowK_b (w := w) (Nat.le_refl _) W D _ _ (by simp at hD; omega) hK rfl rfl)⟩
    case stop =>
      rintro D c pre W _ _ h _
      exact h.elim
  · by_cases h' : s ≤ 1099511627776
    · have hfr : from40 s = s := GF.out.2.2.1 h h'
      have HF := hid hfr
      clear GF hfr
      refine callsIn_of_wp_marks Tryd.func31 rfl h10 ?_ hro
      simp only [Tryd.ntmps31, List.size_toArray, List.length_cons, List.length_nil, Nat.reduceAdd, Nat.reduceSub, Array.replicate_succ, Array.replicate_zero, List.push_toArray, List.append_toArray, List.nil_append, List.cons_append]
      gi_wp2_with (gi_at_call 40; refine (words_in F (n - 1) h21 hro _ _ _ _).mono ?_; rintro e w' ⟨rfl, rfl⟩)
      have bS := Boxed.new w 3 (.int .i64 s)
      have bN := Boxed.new (w.alloc (.cells #[.int .i64 s] 3)) 33 (.slice ad len cap)
      rw [World.size_alloc] at bN
      have hB1 : Below w.heap.size w ((w.alloc (.cells #[.int .i64 s] 3)).alloc (.cells #[.slice ad len cap] 33)) := ((Below.refl _ w).alloc (Nat.le_refl _) _).alloc (by simp) _
      refine wpIn_rangeFunc_ownG hro h1 (gf := 53) (lb := #[.pointer (some ⟨w.heap.size + 1, 0, none⟩)]) rfl h25 (enters_of Tryd.func53 (by kernel_rfl) rfl)
        (words_stops F (n - 1) h25 h23 hro (by omega) (w.heap.size + 1) w.heap.size cap ad bs hby (by rw [HL.out]; exact hcap) (by rw [HL.out]; exact hm) _ (by simp) (by simp; omega) (by rw [HL.out]; exact bN.cell) (hI.below hB1)) KB.trans (KB.put (by simp; omega) (by simp)) (Below.refl _ _) (fun _ => rfl)
        (fun pre W => (W.cell? ⟨w.heap.size, 0, none⟩ = some (.int .i64 (wrap64 (s + (pre.map (·.2)).sum))) ∧ W.frozen? ⟨w.heap.size, 0, none⟩ = false) ∧ Below w.heap.size w W)
        (fun _ _ _ => False)
        (OwnFrom.and (Own.from (fun s A B row hs hg hr => ⟨cell_kept hs.1 hg hr, (frozen_kept hs.1 hg hr).trans hs.2⟩) _) (ownFrom_below (Nat.le_refl _) (by simp; omega)))
        (fun _ _ _ _ _ hs _ _ => hs)
        ⟨⟨by rw [show wrap64 (s + (([] : List (Int × Int)).map (·.2)).sum) = s by simp only [List.map_nil, List.sum_nil, wrap64]; omega]; exact (bS.alloc _).cell, (bS.alloc _).frozen⟩, hB1⟩
        (fun x => { tmps := #[.int .i64 s, .slice ad len cap, .pointer (some ⟨w.heap.size, 0, none⟩), undef, .int .i64 0, undef, .int .i64 x.2, .int .i64 s, .int .i64 s, .int .i64 s, .slice ad len cap, .func (.func 53) #[] #[.pointer (some ⟨w.heap.size + 1, 0, none⟩)], .int .i64 x.1, .int .i64 x.2, undef, undef, undef, undef], defers := [] }) ?assign ?body ?done ?stop
      case assign =>
        intro l x W K hK
        gi_wp2
        exact hK
      case body =>
        rintro l pre x W ⟨⟨hc, hf⟩, hB⟩ _
        obtain ⟨T, hT⟩ : ∃ T, wrap64 (s + (pre.map (·.2)).sum) = T := ⟨_, rfl⟩
        rw [hT] at hc
        have HT := hid hT
        clear hT
        obtain ⟨x1, x2⟩ := x
        gi_wp2
        refine ⟨(KeepsOthers.setCell _ _ _).from _, KB.set W (Nat.le_refl _) (by omega) 0 _, ⟨?_, by rw [World.frozen?_setCell]; exact hf⟩, hB.setCell (p := ⟨w.heap.size, 0, none⟩) (Nat.le_refl _) _⟩
        rw [show wrap64 (s + ((pre ++ [(x1, x2)]).map (·.2)).sum) = wrap64 (T + x2) by
          rw [← HT.out]
          simp only [List.map_append, List.sum_append, List.map_cons, List.map_nil, List.sum_cons, List.sum_nil]
          unfold wrap64
          omega]
        exact World.cell?_setCell_same' _ _ _ (by rw [hc]; rfl)
      case done =>
        rintro D ys W hD rfl ⟨⟨hc, _⟩, hB⟩ hK
        rw [wsum_wlist bs _ _ _ rfl] at hc
        have ht := wsum_range hby (nw bs.length)
        have hq : (nw bs.length : Int) ≤ 1000001 := by
          have := HL.out
          unfold nw
          omega
        have HT : Hid (wrap64 (s + wsum bs (nw bs.length)) = from40 s + total bs) := hid (by
          rw [HF.out]
          unfold wrap64 total
          omega)
        generalize wrap64 (s + wsum bs (nw bs.length)) = T at hc HT
        gi_wp2
        refine ⟨by simp, .inl ⟨_, _, rfl, run_takeDeferred hK, ?_⟩⟩
        exact ⟨_, results_tmp rfl _ _ _, ret_i rfl HT.out, hB.trans (belowK_b (w := w) (Nat.le_refl _) W D _ _ (by simp at hD; omega) hK rfl rfl)⟩
      case stop =>
        rintro D c pre W _ _ h _
        exact h.elim
    · have h'' : 1099511627776 < s := by omega
      have hfr : from40 s = 1099511627776 := GF.out.2.2.2 h''
      have HF := hid hfr
      clear GF hfr
      refine callsIn_of_wp_marks Tryd.func31 rfl h10 ?_ hro
      simp only [Tryd.ntmps31, List.size_toArray, List.length_cons, List.length_nil, Nat.reduceAdd, Nat.reduceSub, Array.replicate_succ, Array.replicate_zero, List.push_toArray, List.append_toArray, List.nil_append, List.cons_append]
      gi_wp2_with (gi_at_call 40; refine (words_in F (n - 1) h21 hro _ _ _ _).mono ?_; rintro e w' ⟨rfl, rfl⟩)
      have bS := Boxed.new w 3 (.int .i64 1099511627776)
      have bN := Boxed.new (w.alloc (.cells #[.int .i64 1099511627776] 3)) 33 (.slice ad len cap)
      rw [World.size_alloc] at bN
      have hB1 : Below w.heap.size w ((w.alloc (.cells #[.int .i64 1099511627776] 3)).alloc (.cells #[.slice ad len cap] 33)) := ((Below.refl _ w).alloc (Nat.le_refl _) _).alloc (by simp) _
      refine wpIn_rangeFunc_ownG hro h1 (gf := 53) (lb := #[.pointer (some ⟨w.heap.size + 1, 0, none⟩)]) rfl h25 (enters_of Tryd.func53 (by kernel_rfl) rfl)
        (words_stops F (n - 1) h25 h23 hro (by omega) (w.heap.size + 1) w.heap.size cap ad bs hby (by rw [HL.out]; exact hcap) (by rw [HL.out]; exact hm) _ (by simp) (by simp; omega) (by rw [HL.out]; exact bN.cell) (hI.below hB1)) KB.trans (KB.put (by simp; omega) (by simp)) (Below.refl _ _) (fun _ => rfl)
        (fun pre W => (W.cell? ⟨w.heap.size, 0, none⟩ = some (.int .i64 (wrap64 (1099511627776 + (pre.map (·.2)).sum))) ∧ W.frozen? ⟨w.heap.size, 0, none⟩ = false) ∧ Below w.heap.size w W)
        (fun _ _ _ => False)
        (OwnFrom.and (Own.from (fun s A B row hs hg hr => ⟨cell_kept hs.1 hg hr, (frozen_kept hs.1 hg hr).trans hs.2⟩) _) (ownFrom_below (Nat.le_refl _) (by simp; omega)))
        (fun _ _ _ _ _ hs _ _ => hs)
        ⟨⟨by rw [show wrap64 (1099511627776 + (([] : List (Int × Int)).map (·.2)).sum) = 1099511627776 by simp only [List.map_nil, List.sum_nil, wrap64]; omega]; exact (bS.alloc _).cell, (bS.alloc _).frozen⟩, hB1⟩
        (fun x => { tmps := #[.int .i64 s, .slice ad len cap, .pointer (some ⟨w.heap.size, 0, none⟩), undef, .int .i64 0, undef, .int .i64 x.2, .int .i64 s, .int .i64 s, .int .i64 1099511627776, .slice ad len cap, .func (.func 53) #[] #[.pointer (some ⟨w.heap.size + 1, 0, none⟩)], .int .i64 x.1, .int .i64 x.2, undef, undef, undef, undef], defers := [] }) ?assign ?body ?done ?stop
      case assign =>
        intro l x W K hK
        gi_wp2
        exact hK
      case body =>
        rintro l pre x W ⟨⟨hc, hf⟩, hB⟩ _
        obtain ⟨T, hT⟩ : ∃ T, wrap64 (1099511627776 + (pre.map (·.2)).sum) = T := ⟨_, rfl⟩
        rw [hT] at hc
        have HT := hid hT
        clear hT
        obtain ⟨x1, x2⟩ := x
        gi_wp2
        refine ⟨(KeepsOthers.setCell _ _ _).from _, KB.set W (Nat.le_refl _) (by omega) 0 _, ⟨?_, by rw [World.frozen?_setCell]; exact hf⟩, hB.setCell (p := ⟨w.heap.size, 0, none⟩) (Nat.le_refl _) _⟩
        rw [show wrap64 (1099511627776 + ((pre ++ [(x1, x2)]).map (·.2)).sum) = wrap64 (T + x2) by
          rw [← HT.out]
          simp only [List.map_append, List.sum_append, List.map_cons, List.map_nil, List.sum_cons, List.sum_nil]
          unfold wrap64
          omega]
        exact World.cell?_setCell_same' _ _ _ (by rw [hc]; rfl)
      case done =>
        rintro D ys W hD rfl ⟨⟨hc, _⟩, hB⟩ hK
        rw [wsum_wlist bs _ _ _ rfl] at hc
        have ht := wsum_range hby (nw bs.length)
        have hq : (nw bs.length : Int) ≤ 1000001 := by
          have := HL.out
          unfold nw
          omega
        have HT : Hid (wrap64 (1099511627776 + wsum bs (nw bs.length)) = from40 s + total bs) := hid (by
          rw [HF.out]
          unfold wrap64 total
          omega)
        generalize wrap64 (1099511627776 + wsum bs (nw bs.length)) = T at hc HT
        gi_wp2
        refine ⟨by simp, .inl ⟨_, _, rfl, run_takeDeferred hK, ?_⟩⟩
        exact ⟨_, results_tmp rfl _ _ _, ret_i rfl HT.out, hB.trans (belowK_b (w := w) (Nat.le_refl _) W D _ _ (by simp at hD; omega) hK rfl rfl)⟩
      case stop =>
        rintro D c pre W _ _ h _
        exact h.elim
end Go.Proofs.YtnlhdeffoalhiaaDoor
