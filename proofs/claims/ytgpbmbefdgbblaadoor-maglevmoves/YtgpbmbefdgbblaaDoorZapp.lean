/-
  Slices of points cut and appended, nil ones too, as steps of a drawn region.
-/
import Derived.Test.YtgpbmbefdgbblaaDoorRnd
import Derived.Test.YtgpbmbefdgbblaaDoorZord
import Derived.Laws.OwnMore
import Derived.Laws.AppendOwnNone
namespace Go.Proofs.YtgpbmbefdgbblaaDoor
open Go.RowKit Go.Lib

/-- Where a cut slice of points begins. -/
def cutK (ad : Option Addr) (cap l : Nat) : Option Addr := if cap = l then ad else Option.map (fun x => x.add (l * 18)) ad

theorem elems_take {n₀ : Nat} {W : World} {ad : Option Addr} {ks : List PS} (h : Elems encP 18 n₀ W ad ks) (n : Nat) : Elems encP 18 n₀ W ad (ks.take n) := fun j hj => by
  have hj' : j < ks.length := by rw [List.length_take] at hj; omega
  obtain ⟨g, o, e, hg, hc⟩ := h j hj'
  exact ⟨g, o, e, hg, by rw [List.getElem_take]; exact hc⟩
theorem elems_drop {n₀ : Nat} {W : World} {ad : Option Addr} {ks : List PS} {cap : Nat} (h : Elems encP 18 n₀ W ad ks) (hc : ks.length ≤ cap) (hn : ad = none → ks.length = 0 ∧ cap = 0) (n : Nat) (hle : n ≤ ks.length) :
    Elems encP 18 n₀ W (cutK ad cap n) (ks.drop n) ∧ (cutK ad cap n = none → ks.length - n = 0 ∧ cap - n = 0) := by
  cases ad with
  | none =>
    obtain ⟨h1, h2⟩ := hn rfl
    exact ⟨fun j hj => by rw [List.length_drop] at hj; omega, fun _ => by omega⟩
  | some a =>
    unfold cutK
    by_cases e : cap = n
    · rw [if_pos e]
      exact ⟨fun j hj => by rw [List.length_drop] at hj; omega, fun h => by cases h⟩
    · rw [if_neg e]
      refine ⟨fun j hj => ?_, fun h => by cases h⟩
      have hj' : n + j < ks.length := by rw [List.length_drop] at hj; omega
      obtain ⟨g, o, e1, hg, hc1⟩ := h (n + j) hj'
      cases e1
      refine ⟨g, o + n * 18, ?_, hg, ?_⟩
      · simp only [Option.map_some]
        congr 1
        unfold Addr.add
        split <;> simp_all
      · rw [List.getElem_drop, show o + n * 18 + j * 18 = o + (n + j) * 18 by omega]
        exact hc1

theorem elems_one (w : World) (x : PS) (t : TypeId) : Elems encP 18 (w.heap.size + 1) (w.alloc (.cells (encP x) t)) (some ⟨w.heap.size, 0, none⟩) [x] := fun j hj => by
  have : j = 0 := by simp at hj; omega
  subst this
  refine ⟨w.heap.size, 0, rfl, Nat.lt_succ_self _, fun i v hv => ?_⟩
  have hi : i < (encP x).size := (List.getElem?_eq_some_iff.1 hv).1
  have hc := (Blk.new w t (encP x)).cell i
  rw [show 0 + 0 * 18 + i = i by omega, hc]
  rw [Array.getElem?_toList] at hv
  exact hv

section
variable {ops : Array Oper} {o : Oper} {a : Act} {w : World} {K : Act → World → Prop} {Q : Exit → Act → World → Prop} {E : Prop}
theorem exec_cutHK (x hi : Operand) (ho : o.op = .slice 22 x none (some hi) none) (ad : Option Addr) (len cap h : Nat) (hx : a.eval x = .slice ad len cap) (hhi : a.eval hi = .int .i64 h) (h2 : h ≤ cap) :
    (execOp a.eval o).run Tryd.prog w = .ok (.value (.slice ad h cap)) w := by
  unfold execOp
  simp only [ho, Option.map_some, Option.map_none, hx, hhi]
  clear hx hhi ho
  go_simp
theorem exec_cutLK (x lo : Operand) (ho : o.op = .slice 22 x (some lo) none none) (ad : Option Addr) (len cap l : Nat) (hx : a.eval x = .slice ad len cap) (hlo : a.eval lo = .int .i64 l) (h1 : l ≤ len) :
    (execOp a.eval o).run Tryd.prog w = .ok (.value (.slice (cutK ad cap l) (len - l) (cap - l))) w := by
  unfold execOp cutK
  simp only [ho, Option.map_some, Option.map_none, hx, hlo]
  clear hx hlo ho
  go_simp
theorem exec_lit0K (ho : o.op = .buildSlice 22 0 #[]) :
    (execOp a.eval o).run Tryd.prog w = .ok (.value (.slice (some ⟨w.heap.size, 0, none⟩) 0 0)) (w.alloc (.cells #[] 36)) := by
  unfold execOp
  simp only [ho]
  go_simp

/-- append, whatever is appended: a step of a drawn region. -/
theorem r_appK (s x : Operand) (ho : o.op = .call { callee := .builtin .append, args := #[s, x], argTypes := #[22, 22] }) (base : Nat) (v : Value) (n : Nat) (xs : List Value) (hs : a.eval s = v) (hown : w.ownsRow base 36 18 v n xs)
    (ao : Option Addr) (m c : Nat) (ks : List PS) (hx : a.eval x = .slice ao m c) (hl : ks.length = m) (n₀ : Nat) (hb : Elems encP 18 n₀ w ao ks) (hn : ao = none → m = 0 ∧ c = 0)
    (h63 : n + m ≤ 1000000) (hbase : base ≤ w.heap.size) (hw : Region.wanted o (yielded ops a.tmps) = true)
    (h : ∀ v' w', w'.ownsRow base 36 18 v' (n + m) (xs ++ flatY encP ks) → w.grownBy w' v.ownBlock → K (a.put o.dst v') w') : if Region.wanted o (yielded ops a.tmps) = true then Oper.wp Tryd.prog o a w K Q else E := by
  obtain ⟨i0, hi, h2⟩ := Option.map_eq_some_iff.1 Tryd.info3PntY
  simp only [Prod.mk.injEq] at h2
  obtain ⟨hz1, hz2⟩ := h2
  obtain ⟨z, hz0, hzs⟩ : ∃ z, i0.zero = some z ∧ z.cells.size = 18 := by
    have h5 := Tryd.info5PntY
    rw [hi] at h5
    simp only [Option.map_some, Option.some.injEq] at h5
    obtain ⟨z, hz, h6⟩ := Option.map_eq_some_iff.1 h5
    exact ⟨z, hz, h6⟩
  rw [if_pos hw]
  cases ao with
  | none =>
    obtain ⟨rfl, rfl⟩ := hn rfl
    obtain rfl : ks = [] := List.length_eq_zero_iff.1 hl
    have hrun := run_append_owned_none (P := Tryd.prog) (w := w) base 22 o.type 36 i0 18 Tryd.underlying22 hi v n xs hown
    unfold Oper.wp execOp
    simp only [ho, resolve, invoke, builtin, Sem.run_bind, Sem.run_pure, Result.andThen_ok, List.map_toArray, List.map_cons, List.map_nil, hs, hx, hrun]
    exact h _ _ (by simpa [flatY] using hown) (World.grownBy.refl _ _)
  | some ad =>
    have hfl : (flatY encP ks).length = m * 18 := by rw [flat_length 18 encP_size, hl]
    refine wp_append_own w s x 22 ho base 36 i0 z 18 32 Tryd.underlying22 hi hz0 hz1 hz2 hzs (by decide) v n xs hs hown ad m c (flatY encP ks) hx hfl ?_ ?_ (by unfold maxLen; omega) (by omega) hbase (fun v' w' h2 h3 _ => h v' w' h2 h3)
    · intro j u hu
      have hj : j < (flatY encP ks).length := (List.getElem?_eq_some_iff.1 hu).1
      have hj2 : j < ks.length * 18 := by omega
      have hq : j / 18 < ks.length := by omega
      have h1 := flat_get 18 encPL_length encP_list ks j hj2
      obtain ⟨g, of, e, hg, hc⟩ := hb (j / 18) hq
      cases e
      have h4 := hc (j % 18) u (by
        rw [encP_list]
        have h3 : j % 18 < (encPL ks[j / 18]).length := by rw [encPL_length]; omega
        rw [List.getElem?_eq_getElem hj] at hu
        rw [getElem!_pos (flatY encP ks) j hj, getElem!_pos ks (j / 18) hq, getElem!_pos (encPL ks[j / 18]) (j % 18) h3] at h1
        rw [List.getElem?_eq_getElem h3, ← h1]
        exact hu)
      rw [show of + j / 18 * 18 + j % 18 = of + j by omega] at h4
      rw [show (⟨g, of, none⟩ : Addr).add j = ⟨g, of + j, none⟩ by unfold Addr.add; split <;> simp_all]
      exact h4
    · intro u hu
      simp only [flatY, List.mem_flatMap] at hu
      obtain ⟨y, _, hy⟩ := hu
      exact encPL_one y u hy
end

/-- What is owned reads as points. -/
theorem own_elems {w : World} {base : Nat} {v : Value} {k : Nat} {ks : List PS} (h : w.ownsRow base 36 18 v k (flatY encP ks)) : ks.length = k ∧ ∃ ad cap, v = .slice ad k cap ∧ k ≤ cap ∧ cap ≤ maxLen ∧ (ad = none → k = 0 ∧ cap = 0) ∧ Elems encP 18 w.heap.size w ad ks := by
  have hl : ks.length = k := by have := h.1; rw [flat_length 18 encP_size] at this; omega
  refine ⟨hl, ?_⟩
  obtain ⟨_, ⟨h', h0⟩ | ⟨g, cap, cur, h', _, hg, hk, hcap, hcs, ht⟩⟩ := h
  · subst h0
    exact ⟨none, 0, h', Nat.le_refl _, Nat.zero_le _, fun _ => ⟨rfl, rfl⟩, fun j hj => by omega⟩
  · subst h'
    subst hl
    refine ⟨some ⟨g, 0, none⟩, cap, rfl, hk, hcap, fun e => (by cases e), fun j hj => ⟨g, 0, rfl, (Array.getElem?_eq_some_iff.1 hg).1, fun i v hv => ?_⟩⟩
    have hi : i < 18 := by
      have h1 := (List.getElem?_eq_some_iff.1 hv).1
      rw [encP_list, encPL_length] at h1
      exact h1
    have := (holds_own 18 encPL_length encP_list w g _ cur ks hg ht).cell (by simpa using hj) hi
    rw [this.1]
    congr 1
    obtain ⟨h1, h2⟩ := List.getElem?_eq_some_iff.1 hv
    rw [List.getElem!_toArray, getElem!_pos ks j hj, getElem!_pos _ i h1]
    exact h2

section
variable {ops : Array Oper} {o : Oper} {a : Act} {w : World} {K : Act → World → Prop} {Q : Exit → Act → World → Prop} {E : Prop}
theorem lit0_own (w : World) (base : Nat) (h : base ≤ w.heap.size) : (w.alloc (.cells #[] 36)).ownsRow base 36 18 (.slice (some ⟨w.heap.size, 0, none⟩) 0 0) 0 (flatY encP []) :=
  ⟨rfl, .inr ⟨w.heap.size, 0, #[], rfl, h, Blk.new w _ _, Nat.le_refl _, Nat.zero_le _, rfl, rfl⟩⟩
theorem r_lit0 (ho : o.op = .buildSlice 22 0 #[]) (base : Nat) (hb : base ≤ w.heap.size) (hw : Region.wanted o (yielded ops a.tmps) = true)
    (h : ∀ w', w'.ownsRow base 36 18 (.slice (some ⟨w.heap.size, 0, none⟩) 0 0) 0 (flatY encP []) → w'.heap.size = w.heap.size + 1 → w.grownBy w' none → K (a.put o.dst (.slice (some ⟨w.heap.size, 0, none⟩) 0 0)) w') : if Region.wanted o (yielded ops a.tmps) = true then Oper.wp Tryd.prog o a w K Q else E :=
  r_run _ _ (exec_lit0K ho) hw (h _ (lit0_own w base hb) (World.size_alloc _ _) (World.grownBy_alloc w _ none))
theorem r_lit1 (x : Operand) (ho : o.op = .buildSlice 22 1 #[(0, x)]) (k : PS) (hx : a.eval x = .agg (encP k)) (hw : Region.wanted o (yielded ops a.tmps) = true)
    (h : ∀ w', Elems encP 18 (w.heap.size + 1) w' (some ⟨w.heap.size, 0, none⟩) [k] → w'.heap.size = w.heap.size + 1 → w.grownBy w' none → K (a.put o.dst (.slice (some ⟨w.heap.size, 0, none⟩) 1 1)) w') : if Region.wanted o (yielded ops a.tmps) = true then Oper.wp Tryd.prog o a w K Q else E :=
  r_run _ _ (exec_lit1 x ho (encP k) hx (encP_size k)) hw (h _ (elems_one w k _) (World.size_alloc _ _) (World.grownBy_alloc w _ none))
end
theorem elems_grown {w w' : World} {n₀ g : Nat} {ks : List PS} {row : Option Nat} (h : Elems encP 18 n₀ w (some ⟨g, 0, none⟩) ks) (hn : n₀ ≤ w.heap.size) (hg : w.grownBy w' row) (hr : some g ≠ row) : Elems encP 18 n₀ w' (some ⟨g, 0, none⟩) ks := fun j hj => by
  obtain ⟨g1, o1, e, hg1, hc⟩ := h j hj
  cases e
  refine ⟨g, 0, rfl, hg1, fun i v hv => ?_⟩
  have := hc i v hv
  unfold World.cell? at this ⊢
  rw [show w'.heap[g]? = w.heap[g]? from hg.block g (Nat.lt_of_lt_of_le hg1 hn) hr]
  exact this
theorem ownsRow_below {w w' : World} {b : Nat} {e : TypeId} {k : Nat} {v : Value} {n : Nat} {xs : List Value} (h : w.ownsRow b e k v n xs) (hb : Below w.heap.size w w') : w'.ownsRow b e k v n xs := by
  obtain ⟨h0, h | ⟨g, cap, cur, h1, h2, h3, h4⟩⟩ := h
  · exact ⟨h0, .inl h⟩
  · exact ⟨h0, .inr ⟨g, cap, cur, h1, h2, by rw [hb.block g (Array.getElem?_eq_some_iff.1 h3).1]; exact h3, h4⟩⟩
theorem grown_belowP {w w' : World} (h : w.grownBy w' none) : Below w.heap.size w w' := (Below.refl _ _).grown h (Nat.le_refl _) (fun k e => by cases e)
theorem flat_append (xs ys : List PS) : flatY encP (xs ++ ys) = flatY encP xs ++ flatY encP ys := by simp [flatY]
theorem ownsRow_mono {w : World} {b b' : Nat} {e : TypeId} {k : Nat} {v : Value} {n : Nat} {xs : List Value} (h : w.ownsRow b e k v n xs) (hb : b' ≤ b) : w.ownsRow b' e k v n xs := by
  obtain ⟨h0, h | ⟨g, cap, cur, h1, h2, h3⟩⟩ := h
  · exact ⟨h0, .inl h⟩
  · exact ⟨h0, .inr ⟨g, cap, cur, h1, Nat.le_trans hb h2, h3⟩⟩
theorem own_block_le {w : World} {b : Nat} {e : TypeId} {k : Nat} {v : Value} {n : Nat} {xs : List Value} (h : w.ownsRow b e k v n xs) {g : Nat} (hg : v.ownBlock = some g) : b ≤ g := by
  obtain ⟨h0, ⟨rfl, h⟩ | ⟨g', cap, cur, rfl, h2, h3⟩⟩ := h
  · cases hg
  · cases hg
    exact h2
/-- What an insertion leaves. -/
theorem own_ins {w : World} {base : Nat} {v : Value} {len m : Nat} {rs : List PS} {x : PS} (hl : len = rs.length) (hm : m ≤ len)
    (h : w.ownsRow base 36 18 v (0 + m + 1 + (len - m)) (((flatY encP [] ++ flatY encP (rs.take m)) ++ flatY encP [x]) ++ flatY encP (rs.drop m))) :
    w.ownsRow base 36 18 v (len + 1) (flatY encP (rs.take m ++ (x :: rs.drop m))) := by
  have e : flatY encP (rs.take m ++ (x :: rs.drop m)) = ((flatY encP [] ++ flatY encP (rs.take m)) ++ flatY encP [x]) ++ flatY encP (rs.drop m) := by
    rw [← flat_append, ← flat_append, ← flat_append]
    simp
  rw [e, show len + 1 = 0 + m + 1 + (len - m) by omega]
  exact h
end Go.Proofs.YtgpbmbefdgbblaaDoor
