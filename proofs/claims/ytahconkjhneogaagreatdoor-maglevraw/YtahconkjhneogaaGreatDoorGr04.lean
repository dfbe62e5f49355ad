/-
  Points as a sort takes them: their cells, their order, which is total; equality of two. · Slices of points cut and appended, nil ones too, as steps of a drawn region. · ports.Point; slices.IndexFunc and slices.ContainsFunc with the closure that asks for what is no point. · maglev.taker, and the function that it makes: each call takes the first free place of one's own order. · What the taker does when it is called. · slices.Repeat of one number. · A family of takers in memory. · maglev.filled: the slots of all backends. · ports.Compare, as a sort takes it: the world behind it is the one before it, grown. · slices.SortFunc and slices.SortedFunc of points with ports.Compare. · A row of points of one's own, written in place: what slices.Compact leaves. No program. · slices.Compact of points. · ports.Sort.
-/
import Derived.Test.YtahconkjhneogaaGreatDoorGr03
import Derived.Shelf.SlSortCmp.WholeK
import Derived.Sort.LotA
import Derived.Laws.OwnMore
import Derived.Laws.AppendOwnNone
import Derived.Deep.LoopGhost
import Derived.Deep.DeepMust
import Derived.Deep.Cut
import Derived.Test.YtahconkjhneogaaGreatDoorShelf
import Derived.Laws.CopyOwn
import Derived.Sort.Grow
import Derived.Shelf.Lay
import Derived.Ground.SlsfProg
import Derived.Lib.SlicesCompact
import Derived.Lib.SliceRun
import Derived.Deep.MidRow
namespace Go.Proofs.YtahconkjhneogaaGreatDoor
open Go.RowKit Go.Shelf Go.Lib Go.Sort

theorem cmpN_zero : ∀ x y : List Nat, x.length = y.length → cmpN x y = 0 → x = y
  | [], [], _, _ => rfl
  | [], _ :: _, h, _ => by simp at h
  | _ :: _, [], h, _ => by simp at h
  | a :: x, b :: y, h, e => by
    rw [cmpN] at e
    by_cases h1 : a < b
    · rw [if_pos h1] at e; omega
    · rw [if_neg h1] at e
      by_cases h2 : b < a
      · rw [if_pos h2] at e; omega
      · rw [if_neg h2] at e
        rw [show a = b by omega, cmpN_zero x y (by simpa using h) e]

/-- An address and a port. -/
abbrev PT : Type := Bool × List Nat × Int
def DP (a : PT) : Prop := a.2.1.length = 16 ∧ ∀ x ∈ a.2.1, x < 256
/-- A point whose address is sixteen bytes. -/
abbrev PS : Type := { a : PT // DP a }
instance : Inhabited PS := ⟨⟨(false, List.replicate 16 0, 0), by
  refine ⟨rfl, fun x hx => ?_⟩
  have := (List.mem_replicate.1 hx).2
  omega⟩⟩
def cmpQ (a b : PS) : Int := cmpP a.1.1 b.1.1 a.1.2.1 b.1.2.1 a.1.2.2 b.1.2.2
def plt (a b : PS) : Prop := cmpQ a b < 0
instance (a b : PS) : Decidable (plt a b) := by unfold plt; infer_instance

theorem cmpQ_swap (a b : PS) : cmpQ b a = - cmpQ a b := by
  unfold cmpQ cmpP
  rw [cmpA_swap a.1.1 b.1.1 a.1.2.1 b.1.2.1]
  by_cases h : cmpA a.1.1 b.1.1 a.1.2.1 b.1.2.1 = 0
  · simp only [h]
    by_cases h1 : a.1.2.2 < b.1.2.2
    · simp [h1, show ¬ b.1.2.2 < a.1.2.2 by omega]
    · by_cases h2 : b.1.2.2 < a.1.2.2
      · simp [h1, h2]
      · simp [h1, h2]
  · rw [if_pos (by omega), if_pos h]

theorem cmpQ_zero (a b : PS) (h : cmpQ a b = 0) : a = b := by
  unfold cmpQ cmpP at h
  by_cases h0 : cmpA a.1.1 b.1.1 a.1.2.1 b.1.2.1 = 0
  · rw [if_neg (by omega)] at h
    have hn : a.1.2.2 = b.1.2.2 := by
      by_cases h1 : a.1.2.2 < b.1.2.2
      · rw [if_pos h1] at h; omega
      · rw [if_neg h1] at h
        by_cases h2 : b.1.2.2 < a.1.2.2
        · rw [if_pos h2] at h; omega
        · omega
    unfold cmpA at h0
    by_cases hs : a.1.1 = b.1.1
    · rw [if_pos hs] at h0
      exact Subtype.ext (Prod.ext hs (Prod.ext (cmpN_zero _ _ (by rw [a.2.1, b.2.1]) h0) hn))
    · rw [if_neg hs] at h0
      split at h0 <;> omega
  · rw [if_pos h0] at h; omega

theorem cmpQ_self (a : PS) : cmpQ a a = 0 := by
  have := cmpQ_swap a a
  omega

theorem cmpQ_trans (a b c : PS) (h1 : cmpQ a b ≤ 0) (h2 : cmpQ b c ≤ 0) : cmpQ a c ≤ 0 := by
  unfold cmpQ cmpP at *
  have k1 : cmpA a.1.1 b.1.1 a.1.2.1 b.1.2.1 ≤ 0 := by split at h1 <;> omega
  have k2 : cmpA b.1.1 c.1.1 b.1.2.1 c.1.2.1 ≤ 0 := by split at h2 <;> omega
  have k3 := cmpA_trans _ _ _ _ _ _ k1 k2
  by_cases h : cmpA a.1.1 c.1.1 a.1.2.1 c.1.2.1 = 0
  · have s1 := cmpA_swap a.1.1 c.1.1 a.1.2.1 c.1.2.1
    have k4 := cmpA_trans c.1.1 a.1.1 b.1.1 c.1.2.1 a.1.2.1 b.1.2.1 (by omega) k1
    have s2 := cmpA_swap b.1.1 c.1.1 b.1.2.1 c.1.2.1
    have k5 := cmpA_trans b.1.1 c.1.1 a.1.1 b.1.2.1 c.1.2.1 a.1.2.1 k2 (by omega)
    have s3 := cmpA_swap a.1.1 b.1.1 a.1.2.1 b.1.2.1
    rw [if_neg (by omega)] at h1 h2 ⊢
    by_cases q1 : a.1.2.2 < b.1.2.2
    · rw [if_pos q1] at h1
      by_cases q2 : b.1.2.2 < c.1.2.2
      · rw [if_pos (by omega)]; omega
      · rw [if_neg q2] at h2
        by_cases q3 : c.1.2.2 < b.1.2.2
        · rw [if_pos q3] at h2; omega
        · rw [if_pos (by omega)]; omega
    · rw [if_neg q1] at h1
      by_cases q4 : b.1.2.2 < a.1.2.2
      · rw [if_pos q4] at h1; omega
      · by_cases q2 : b.1.2.2 < c.1.2.2
        · rw [if_pos (by omega)]; omega
        · rw [if_neg q2] at h2
          by_cases q3 : c.1.2.2 < b.1.2.2
          · rw [if_pos q3] at h2; omega
          · rw [if_neg (by omega), if_neg (by omega)]; omega
  · rw [if_pos h]; omega

theorem plt_irrefl (a : PS) : ¬ plt a a := fun h => by
  unfold plt at h
  rw [cmpQ_self] at h
  omega
theorem plt_trans {a b c : PS} (h : plt a b) (k : plt b c) : plt a c := by
  unfold plt at *
  have h3 := cmpQ_trans a b c (by omega) (by omega)
  by_cases h0 : cmpQ a c = 0
  · have e := cmpQ_zero a c h0
    subst e
    have := cmpQ_swap a b
    omega
  · omega
theorem plt_total {a b : PS} (h : ¬ plt a b) (k : ¬ plt b a) : a = b := by
  unfold plt at *
  have := cmpQ_swap a b
  exact cmpQ_zero a b (by omega)

theorem lt_true (a b : PS) : ltOf cmpQ a b = true ↔ plt a b := decide_eq_true_iff
theorem lt_false (a b : PS) : ltOf cmpQ a b = false ↔ ¬ plt a b := decide_eq_false_iff_not
theorem cmpQ_swo : SWO (ltOf cmpQ) where
  irrefl x := (lt_false x x).2 (plt_irrefl x)
  trans x y z h1 h2 := (lt_true x z).2 (plt_trans ((lt_true x y).1 h1) ((lt_true y z).1 h2))
  ntrans x y z h1 h2 := by
    rw [lt_false] at *
    intro h3
    by_cases h4 : plt z y
    · exact h1 (plt_trans h3 h4)
    · have := plt_total h2 h4
      subst this
      exact h1 h3
theorem cmpQ_total (x y : PS) (h1 : ltOf cmpQ x y = false) (h2 : ltOf cmpQ y x = false) : x = y := plt_total ((lt_false x y).1 h1) ((lt_false y x).1 h2)

/-- The points in their order. -/
def psort (xs : List PS) : List PS := xs.mergeSort fun x y => !(ltOf cmpQ) y x
theorem psort_perm (xs : List PS) : (psort xs).Perm xs := List.mergeSort_perm _ _
theorem psort_length (xs : List PS) : (psort xs).length = xs.length := (psort_perm xs).length_eq
theorem psort_sorted (xs : List PS) : (psort xs).Pairwise fun a b => ¬ plt b a := by
  have h := List.pairwise_mergeSort (le := fun x y => !(ltOf cmpQ) y x) (fun a b c h1 h2 => by
    simp only [Bool.not_eq_true'] at *
    exact cmpQ_swo.ntrans c b a h2 h1) (fun a b => by
    cases h1 : ltOf cmpQ b a
    · rfl
    · have h2 : ltOf cmpQ a b = false := by
        cases h3 : ltOf cmpQ a b
        · rfl
        · have := cmpQ_swo.trans a b a h3 h1
          rw [cmpQ_swo.irrefl a] at this
          cases this
      simp [h2]) xs
  refine h.imp fun {a b} h => ?_
  simp only [Bool.not_eq_true'] at h
  exact (lt_false b a).1 h

/-- A point's 18 cells. -/
def encP (a : PS) : Array Value := pnt a.1.1 (ints a.1.2.1) a.1.2.2
def encPL (a : PS) : List Value := (encP a).toList
theorem encP_size (x : PS) : (encP x).size = 18 := by
  unfold encP
  rw [pnt_size, ints_length, x.2.1]
theorem encPL_length (x : PS) : (encPL x).length = 18 := encP_size x
theorem encP_list (x : PS) : (encP x).toList = encPL x := rfl
theorem encP_one (x : PS) : (encP x).all (·.oneCell') = true := pnt_one _ _ _
theorem encPL_one (x : PS) : ∀ v ∈ encPL x, v.oneCell' = true := fun v hv => by
  have h := encP_one x
  rw [Array.all_eq_true_iff_forall_mem] at h
  exact h v (by simpa [encPL] using hv)
theorem encP_back (x : PS) : (encPL x).toArray = encP x := by simp [encPL]

theorem ints_inj {x y : List Nat} (h : ints x = ints y) : x = y := by
  unfold ints at h
  exact (List.map_inj_right (fun a b e => by omega)).1 h
theorem pt_eq (a b : PS) : ((a.1.1 == b.1.1 && ints a.1.2.1 == ints b.1.2.1) && a.1.2.2 == b.1.2.2) = decide (a = b) := by
  by_cases h : a = b
  · subst h; simp
  · rw [decide_eq_false h, Bool.and_eq_false_iff, Bool.and_eq_false_iff]
    by_cases h1 : a.1.1 = b.1.1
    · by_cases h2 : a.1.2.1 = b.1.2.1
      · refine .inr (beq_eq_false_iff_ne.2 fun h3 => h (Subtype.ext (Prod.ext h1 (Prod.ext h2 h3))))
      · exact .inl (.inr (beq_eq_false_iff_ne.2 fun h3 => h2 (ints_inj h3)))
    · exact .inl (.inl (beq_eq_false_iff_ne.2 h1))
theorem eql_pt (a b : PS) (w : World) : (binOp .eql 41 (.agg (encP a)) (.agg (encP b))).run Tryz.prog w = .ok (.bool (decide (a = b))) w := by
  have h := eql_pnt a.1.1 b.1.1 (ints a.1.2.1) (ints b.1.2.1) a.1.2.2 b.1.2.2 (by rw [ints_length, a.2.1]) (by rw [ints_length, b.2.1]) w
  rw [pt_eq] at h
  exact h
theorem neq_pt (a b : PS) (w : World) : (binOp .neq 41 (.agg (encP a)) (.agg (encP b))).run Tryz.prog w = .ok (.bool (!decide (a = b))) w := by
  have hE := equalIn_pnt 9996 a.1.1 b.1.1 (ints a.1.2.1) (ints b.1.2.1) a.1.2.2 b.1.2.2 (by rw [ints_length, a.2.1]) (by rw [ints_length, b.2.1]) w
  rw [pt_eq] at hE
  rw [run_neq_struct]
  simp only [encP]
  rw [hE]
  rfl
end Go.Proofs.YtahconkjhneogaaGreatDoor

namespace Go.Proofs.YtahconkjhneogaaGreatDoor
open Go.RowKit Go.Lib

/-- Where a cut slice of points begins. -/
def cutK (ad : Option Addr) (cap l : Nat) : Option Addr := if cap = l then ad else Option.map (fun x => x.add (l * 18)) ad

theorem elems_take {n₀ : Nat} {W : World} {ad : Option Addr} {ks : List PS} (h : Elems encP 18 n₀ W ad ks) (n : Nat) : Elems encP 18 n₀ W ad (ks.take n) := fun j hj => by
  have hj' : j < ks.length := by rw [List.length_take] at hj; omega
  obtain ⟨g, o, e, hg, hc⟩ := h j hj'
  exact ⟨g, o, e, hg, by rw [List.getElem_take]; exact hc⟩
theorem elems_drop {n₀ : Nat} {W : World} {ad : Option Addr} {ks : List PS} {cap : Nat} (h : Elems encP 18 n₀ W ad ks) (hc : ks.length ≤ cap) (hn : ad = none → ks.length = 0 ∧ cap = 0) (n : Nat) (hle : n ≤ ks.length) :
    Elems encP 18 n₀ W (cutK ad cap n) (ks.drop n) ∧ (cutK ad cap n = none → ks.length - n = 0 ∧ cap - n = 0) := by
  cases ad with
  | none =>
    obtain ⟨h1, h2⟩ := hn rfl
    exact ⟨fun j hj => by rw [List.length_drop] at hj; omega, fun _ => by omega⟩
  | some a =>
    unfold cutK
    by_cases e : cap = n
    · rw [if_pos e]
      exact ⟨fun j hj => by rw [List.length_drop] at hj; omega, fun h => by cases h⟩
    · rw [if_neg e]
      refine ⟨fun j hj => ?_, fun h => by cases h⟩
      have hj' : n + j < ks.length := by rw [List.length_drop] at hj; omega
      obtain ⟨g, o, e1, hg, hc1⟩ := h (n + j) hj'
      cases e1
      refine ⟨g, o + n * 18, ?_, hg, ?_⟩
      · simp only [Option.map_some]
        congr 1
        unfold Addr.add
        split <;> simp_all
      · rw [List.getElem_drop, show o + n * 18 + j * 18 = o + (n + j) * 18 by omega]
        exact hc1

theorem elems_one (w : World) (x : PS) (t : TypeId) : Elems encP 18 (w.heap.size + 1) (w.alloc (.cells (encP x) t)) (some ⟨w.heap.size, 0, none⟩) [x] := fun j hj => by
  have : j = 0 := by simp at hj; omega
  subst this
  refine ⟨w.heap.size, 0, rfl, Nat.lt_succ_self _, fun i v hv => ?_⟩
  have hi : i < (encP x).size := (List.getElem?_eq_some_iff.1 hv).1
  have hc := (Blk.new w t (encP x)).cell i
  rw [show 0 + 0 * 18 + i = i by omega, hc]
  rw [Array.getElem?_toList] at hv
  exact hv

section
variable {ops : Array Oper} {o : Oper} {a : Act} {w : World} {K : Act → World → Prop} {Q : Exit → Act → World → Prop} {E : Prop}
theorem exec_cutHK (x hi : Operand) (ho : o.op = .slice 22 x none (some hi) none) (ad : Option Addr) (len cap h : Nat) (hx : a.eval x = .slice ad len cap) (hhi : a.eval hi = .int .i64 h) (h2 : h ≤ cap) :
    (execOp a.eval o).run Tryz.prog w = .ok (.value (.slice ad h cap)) w := by
  unfold execOp
  simp only [ho, Option.map_some, Option.map_none, hx, hhi]
  clear hx hhi ho
  go_simp
theorem exec_cutLK (x lo : Operand) (ho : o.op = .slice 22 x (some lo) none none) (ad : Option Addr) (len cap l : Nat) (hx : a.eval x = .slice ad len cap) (hlo : a.eval lo = .int .i64 l) (h1 : l ≤ len) :
    (execOp a.eval o).run Tryz.prog w = .ok (.value (.slice (cutK ad cap l) (len - l) (cap - l))) w := by
  unfold execOp cutK
  simp only [ho, Option.map_some, Option.map_none, hx, hlo]
  clear hx hlo ho
  go_simp
theorem exec_lit0K (ho : o.op = .buildSlice 22 0 #[]) :
    (execOp a.eval o).run Tryz.prog w = .ok (.value (.slice (some ⟨w.heap.size, 0, none⟩) 0 0)) (w.alloc (.cells #[] 41)) := by
  unfold execOp
  simp only [ho]
  go_simp

/-- append, whatever is appended: a step of a drawn region. -/
theorem r_appK (s x : Operand) (ho : o.op = .call { callee := .builtin .append, args := #[s, x], argTypes := #[22, 22] }) (base : Nat) (v : Value) (n : Nat) (xs : List Value) (hs : a.eval s = v) (hown : w.ownsRow base 41 18 v n xs)
    (ao : Option Addr) (m c : Nat) (ks : List PS) (hx : a.eval x = .slice ao m c) (hl : ks.length = m) (n₀ : Nat) (hb : Elems encP 18 n₀ w ao ks) (hn : ao = none → m = 0 ∧ c = 0)
    (h63 : n + m ≤ 1000000) (hbase : base ≤ w.heap.size) (hw : Region.wanted o (yielded ops a.tmps) = true)
    (h : ∀ v' w', w'.ownsRow base 41 18 v' (n + m) (xs ++ flatY encP ks) → w.grownBy w' v.ownBlock → K (a.put o.dst v') w') : if Region.wanted o (yielded ops a.tmps) = true then Oper.wp Tryz.prog o a w K Q else E := by
  obtain ⟨i0, hi, h2⟩ := Option.map_eq_some_iff.1 Tryz.info3PntY
  simp only [Prod.mk.injEq] at h2
  obtain ⟨hz1, hz2⟩ := h2
  obtain ⟨z, hz0, hzs⟩ : ∃ z, i0.zero = some z ∧ z.cells.size = 18 := by
    have h5 := Tryz.info5PntY
    rw [hi] at h5
    simp only [Option.map_some, Option.some.injEq] at h5
    obtain ⟨z, hz, h6⟩ := Option.map_eq_some_iff.1 h5
    exact ⟨z, hz, h6⟩
  rw [if_pos hw]
  cases ao with
  | none =>
    obtain ⟨rfl, rfl⟩ := hn rfl
    obtain rfl : ks = [] := List.length_eq_zero_iff.1 hl
    have hrun := run_append_owned_none (P := Tryz.prog) (w := w) base 22 o.type 41 i0 18 Tryz.underlying22 hi v n xs hown
    unfold Oper.wp execOp
    simp only [ho, resolve, invoke, builtin, Sem.run_bind, Sem.run_pure, Result.andThen_ok, List.map_toArray, List.map_cons, List.map_nil, hs, hx, hrun]
    exact h _ _ (by simpa [flatY] using hown) (World.grownBy.refl _ _)
  | some ad =>
    have hfl : (flatY encP ks).length = m * 18 := by rw [flat_length 18 encP_size, hl]
    refine wp_append_own w s x 22 ho base 41 i0 z 18 32 Tryz.underlying22 hi hz0 hz1 hz2 hzs (by decide) v n xs hs hown ad m c (flatY encP ks) hx hfl ?_ ?_ (by unfold maxLen; omega) (by omega) hbase (fun v' w' h2 h3 _ => h v' w' h2 h3)
    · intro j u hu
      have hj : j < (flatY encP ks).length := (List.getElem?_eq_some_iff.1 hu).1
      have hj2 : j < ks.length * 18 := by omega
      have hq : j / 18 < ks.length := by omega
      have h1 := flat_get 18 encPL_length encP_list ks j hj2
      obtain ⟨g, of, e, hg, hc⟩ := hb (j / 18) hq
      cases e
      have h4 := hc (j % 18) u (by
        rw [encP_list]
        have h3 : j % 18 < (encPL ks[j / 18]).length := by rw [encPL_length]; omega
        rw [List.getElem?_eq_getElem hj] at hu
        rw [getElem!_pos (flatY encP ks) j hj, getElem!_pos ks (j / 18) hq, getElem!_pos (encPL ks[j / 18]) (j % 18) h3] at h1
        rw [List.getElem?_eq_getElem h3, ← h1]
        exact hu)
      rw [show of + j / 18 * 18 + j % 18 = of + j by omega] at h4
      rw [show (⟨g, of, none⟩ : Addr).add j = ⟨g, of + j, none⟩ by unfold Addr.add; split <;> simp_all]
      exact h4
    · intro u hu
      simp only [flatY, List.mem_flatMap] at hu
      obtain ⟨y, _, hy⟩ := hu
      exact encPL_one y u hy
end

/-- What is owned reads as points. -/
theorem own_elems {w : World} {base : Nat} {v : Value} {k : Nat} {ks : List PS} (h : w.ownsRow base 41 18 v k (flatY encP ks)) : ks.length = k ∧ ∃ ad cap, v = .slice ad k cap ∧ k ≤ cap ∧ cap ≤ maxLen ∧ (ad = none → k = 0 ∧ cap = 0) ∧ Elems encP 18 w.heap.size w ad ks := by
  have hl : ks.length = k := by have := h.1; rw [flat_length 18 encP_size] at this; omega
  refine ⟨hl, ?_⟩
  obtain ⟨_, ⟨h', h0⟩ | ⟨g, cap, cur, h', _, hg, hk, hcap, hcs, ht⟩⟩ := h
  · subst h0
    exact ⟨none, 0, h', Nat.le_refl _, Nat.zero_le _, fun _ => ⟨rfl, rfl⟩, fun j hj => by omega⟩
  · subst h'
    subst hl
    refine ⟨some ⟨g, 0, none⟩, cap, rfl, hk, hcap, fun e => (by cases e), fun j hj => ⟨g, 0, rfl, (Array.getElem?_eq_some_iff.1 hg).1, fun i v hv => ?_⟩⟩
    have hi : i < 18 := by
      have h1 := (List.getElem?_eq_some_iff.1 hv).1
      rw [encP_list, encPL_length] at h1
      exact h1
    have := (holds_own 18 encPL_length encP_list w g _ cur ks hg ht).cell (by simpa using hj) hi
    rw [this.1]
    congr 1
    obtain ⟨h1, h2⟩ := List.getElem?_eq_some_iff.1 hv
    rw [List.getElem!_toArray, getElem!_pos ks j hj, getElem!_pos _ i h1]
    exact h2

section
variable {ops : Array Oper} {o : Oper} {a : Act} {w : World} {K : Act → World → Prop} {Q : Exit → Act → World → Prop} {E : Prop}
theorem lit0_own (w : World) (base : Nat) (h : base ≤ w.heap.size) : (w.alloc (.cells #[] 41)).ownsRow base 41 18 (.slice (some ⟨w.heap.size, 0, none⟩) 0 0) 0 (flatY encP []) :=
  ⟨rfl, .inr ⟨w.heap.size, 0, #[], rfl, h, Blk.new w _ _, Nat.le_refl _, Nat.zero_le _, rfl, rfl⟩⟩
theorem r_lit0 (ho : o.op = .buildSlice 22 0 #[]) (base : Nat) (hb : base ≤ w.heap.size) (hw : Region.wanted o (yielded ops a.tmps) = true)
    (h : ∀ w', w'.ownsRow base 41 18 (.slice (some ⟨w.heap.size, 0, none⟩) 0 0) 0 (flatY encP []) → w'.heap.size = w.heap.size + 1 → w.grownBy w' none → K (a.put o.dst (.slice (some ⟨w.heap.size, 0, none⟩) 0 0)) w') : if Region.wanted o (yielded ops a.tmps) = true then Oper.wp Tryz.prog o a w K Q else E :=
  r_run _ _ (exec_lit0K ho) hw (h _ (lit0_own w base hb) (World.size_alloc _ _) (World.grownBy_alloc w _ none))
theorem r_lit1 (x : Operand) (ho : o.op = .buildSlice 22 1 #[(0, x)]) (k : PS) (hx : a.eval x = .agg (encP k)) (hw : Region.wanted o (yielded ops a.tmps) = true)
    (h : ∀ w', Elems encP 18 (w.heap.size + 1) w' (some ⟨w.heap.size, 0, none⟩) [k] → w'.heap.size = w.heap.size + 1 → w.grownBy w' none → K (a.put o.dst (.slice (some ⟨w.heap.size, 0, none⟩) 1 1)) w') : if Region.wanted o (yielded ops a.tmps) = true then Oper.wp Tryz.prog o a w K Q else E :=
  r_run _ _ (exec_lit1 x ho (encP k) hx (encP_size k)) hw (h _ (elems_one w k _) (World.size_alloc _ _) (World.grownBy_alloc w _ none))
end
theorem elems_grown {w w' : World} {n₀ g : Nat} {ks : List PS} {row : Option Nat} (h : Elems encP 18 n₀ w (some ⟨g, 0, none⟩) ks) (hn : n₀ ≤ w.heap.size) (hg : w.grownBy w' row) (hr : some g ≠ row) : Elems encP 18 n₀ w' (some ⟨g, 0, none⟩) ks := fun j hj => by
  obtain ⟨g1, o1, e, hg1, hc⟩ := h j hj
  cases e
  refine ⟨g, 0, rfl, hg1, fun i v hv => ?_⟩
  have := hc i v hv
  unfold World.cell? at this ⊢
  rw [show w'.heap[g]? = w.heap[g]? from hg.block g (Nat.lt_of_lt_of_le hg1 hn) hr]
  exact this
theorem ownsRow_below {w w' : World} {b : Nat} {e : TypeId} {k : Nat} {v : Value} {n : Nat} {xs : List Value} (h : w.ownsRow b e k v n xs) (hb : Below w.heap.size w w') : w'.ownsRow b e k v n xs := by
  obtain ⟨h0, h | ⟨g, cap, cur, h1, h2, h3, h4⟩⟩ := h
  · exact ⟨h0, .inl h⟩
  · exact ⟨h0, .inr ⟨g, cap, cur, h1, h2, by rw [hb.block g (Array.getElem?_eq_some_iff.1 h3).1]; exact h3, h4⟩⟩
theorem grown_belowP {w w' : World} (h : w.grownBy w' none) : Below w.heap.size w w' := (Below.refl _ _).grown h (Nat.le_refl _) (fun k e => by cases e)
theorem flat_append (xs ys : List PS) : flatY encP (xs ++ ys) = flatY encP xs ++ flatY encP ys := by simp [flatY]
theorem ownsRow_mono {w : World} {b b' : Nat} {e : TypeId} {k : Nat} {v : Value} {n : Nat} {xs : List Value} (h : w.ownsRow b e k v n xs) (hb : b' ≤ b) : w.ownsRow b' e k v n xs := by
  obtain ⟨h0, h | ⟨g, cap, cur, h1, h2, h3⟩⟩ := h
  · exact ⟨h0, .inl h⟩
  · exact ⟨h0, .inr ⟨g, cap, cur, h1, Nat.le_trans hb h2, h3⟩⟩
theorem own_block_le {w : World} {b : Nat} {e : TypeId} {k : Nat} {v : Value} {n : Nat} {xs : List Value} (h : w.ownsRow b e k v n xs) {g : Nat} (hg : v.ownBlock = some g) : b ≤ g := by
  obtain ⟨h0, ⟨rfl, h⟩ | ⟨g', cap, cur, rfl, h2, h3⟩⟩ := h
  · cases hg
  · cases hg
    exact h2
/-- What an insertion leaves. -/
theorem own_ins {w : World} {base : Nat} {v : Value} {len m : Nat} {rs : List PS} {x : PS} (hl : len = rs.length) (hm : m ≤ len)
    (h : w.ownsRow base 41 18 v (0 + m + 1 + (len - m)) (((flatY encP [] ++ flatY encP (rs.take m)) ++ flatY encP [x]) ++ flatY encP (rs.drop m))) :
    w.ownsRow base 41 18 v (len + 1) (flatY encP (rs.take m ++ (x :: rs.drop m))) := by
  have e : flatY encP (rs.take m ++ (x :: rs.drop m)) = ((flatY encP [] ++ flatY encP (rs.take m)) ++ flatY encP [x]) ++ flatY encP (rs.drop m) := by
    rw [← flat_append, ← flat_append, ← flat_append]
    simp
  rw [e, show len + 1 = 0 + m + 1 + (len - m) by omega]
  exact h
end Go.Proofs.YtahconkjhneogaaGreatDoor

namespace Go.Proofs.YtahconkjhneogaaGreatDoor
open Go.RowKit Go.Shelf Go.Lib Go.Sort

/-- Is it a point? -/
def isPt (x : PS) : Bool := (x.1.1 || flat (ints x.1.2.1)) && rp x.1.2.2

theorem aright_any (s : Bool) (b : List Int) (hl : b.length = 16) (w : World) : Calls Tryz.prog 41 #[.agg (adr s b)] w fun e w' => e = .returned (.bool (s || flat b)) ∧ Below w.heap.size w w' := by
  cases s
  · exact (right_four b hl w).mono fun e w' ⟨h1, h2⟩ => ⟨by rw [h1, Bool.false_or], h2⟩
  · exact (right_six b w).mono fun e w' ⟨h1, h2⟩ => ⟨by rw [h1, Bool.true_or], h2⟩

set_option maxRecDepth 100000 in
set_option maxHeartbeats 4000000 in
theorem ppoint_any (x : PS) (w : World) : Calls Tryz.prog 22 #[.agg (encP x)] w fun e w' => e = .returned (.bool (isPt x)) ∧ Below w.heap.size w w' := by
  have hl : (ints x.1.2.1).length = 16 := by rw [ints_length, x.2.1]
  have HE : Hid (isPt x = ((x.1.1 || flat (ints x.1.2.1)) && rp x.1.2.2)) := hid rfl
  have ex : encP x = pnt x.1.1 (ints x.1.2.1) x.1.2.2 := rfl
  rw [ex]
  generalize x.1.1 = s at *
  generalize ints x.1.2.1 = b at *
  generalize x.1.2.2 = n at *
  generalize isPt x = R at *
  obtain ⟨W0, hW0⟩ : ∃ W, W = w.alloc (.cells (pnt s b n) 41) := ⟨_, rfl⟩
  have hB0 : Blk W0 w.heap.size 41 (pnt s b n) := hW0 ▸ Blk.new w _ _
  have HW0 := hid hW0.symm
  have Hb0 : Hid (Below w.heap.size w W0) := hid (hW0 ▸ (Below.refl _ _).alloc (Nat.le_refl _) _)
  have HB0 := hid hB0
  have HL := hid hl
  have HA := hid (fun W => aright_any s b hl W)
  have HP := hid (fun W => pright_any n W)
  clear hW0 hB0 hl ex
  generalize (s || flat b) = a at *
  generalize rp n = q at *
  cases a
  · go_enter Tryz.func22, Tryz.ntmps22
    go_upto_region 1 with fail
    rw [HW0.out]
    go_wp2_with ((show wpList _ _ _ (⟨some 4, _, _, _, _, _⟩ :: _) _ _); go_must (refine wpl_load_padr (.tmp 3) rfl w.heap.size rfl s b n HB0.out HL.out rfl ?_))
    refine (HA.out _).mono ?_
    rintro e w2 ⟨rfl, hb⟩
    have Hb := hid (bel2 Hb0.out hb)
    clear hb
    go_wp2
    go_ret
    exact ⟨congrArg (fun z => Ending.returned (.bool z)) (by rw [HE.out]; rfl), Hb.out⟩
  · go_enter Tryz.func22, Tryz.ntmps22
    go_upto_region 1 with fail
    rw [HW0.out]
    go_wp2_with ((show wpList _ _ _ (⟨some 4, _, _, _, _, _⟩ :: _) _ _); go_must (refine wpl_load_padr (.tmp 3) rfl w.heap.size rfl s b n HB0.out HL.out rfl ?_))
    refine (HA.out _).mono ?_
    rintro e w2 ⟨rfl, hb⟩
    have hp : w2.cell? ⟨w.heap.size, 17, none⟩ = some (.int .i64 n) := pnt_portCell (HB0.out.kept hb) HL.out
    have Hb := hid (bel2 Hb0.out hb)
    clear hb
    go_wp2_with fail
    refine (HP.out _).mono ?_
    rintro e w3 ⟨rfl, rfl⟩
    go_wp2
    go_ret
    exact ⟨congrArg (fun z => Ending.returned (.bool z)) (by rw [HE.out]; rfl), Hb.out⟩

set_option maxRecDepth 100000 in
set_option maxHeartbeats 4000000 in
theorem nopt_any (x : PS) (w : World) : Calls Tryz.prog 21 #[.agg (encP x)] w fun e w' => e = .returned (.bool (!isPt x)) ∧ Below w.heap.size w w' := by
  obtain ⟨W0, hW0⟩ : ∃ W, W = w.alloc (.cells (encP x) 41) := ⟨_, rfl⟩
  have hB0 : Blk W0 w.heap.size 41 (encP x) := hW0 ▸ Blk.new w _ _
  have HW0 := hid hW0.symm
  have Hb0 : Hid (Below w.heap.size w W0) := hid (hW0 ▸ (Below.refl _ _).alloc (Nat.le_refl _) _)
  have HB0 := hid hB0
  have HP := hid (fun W => ppoint_any x W)
  have HS := hid (encP_size x)
  generalize isPt x = q at *
  clear hW0 hB0
  go_enter Tryz.func21, Tryz.ntmps21
  go_upto_region 1 with fail
  rw [HW0.out]
  go_wp2_with ((show wpList _ _ _ (⟨some 3, _, _, _, _, _⟩ :: _) _ _); go_must (refine wpl_load 41 (.tmp 1) rfl w.heap.size rfl _ _ _ HB0.out Tryz.underlying41 rfl 18 Tryz.infoPoint HS.out.symm rfl ?_))
  refine (HP.out _).mono ?_
  rintro e w2 ⟨rfl, hb⟩
  have Hb := hid (bel2 Hb0.out hb)
  clear hb
  go_wp2
  go_ret
  exact ⟨rfl, Hb.out⟩

def anyNo (xs : List PS) : Bool := xs.any fun c => !isPt c

section
variable {ops : Array Oper} {rest : List Oper} {o : Oper} {a : Act} {w : World} {Q : Exit → Act → World → Prop}
theorem encPL_info0 (c : PS) : (Tryz.prog.info? 41).map (·.size) = some (encPL c).length := by rw [encPL_length]; exact Tryz.infoPoint
/-- A point out of a row. -/
theorem wpl_loadP (x : Operand) (ho : o.op = .load 41 x) (b off : Nat) (hx : a.eval x = .pointer (some ⟨b, off, none⟩)) (c : PS) (hc : w.rangeAt b off (encPL c))
    (hw : Region.wanted o (yielded ops a.tmps) = true) (h : wpList Tryz.prog ops Q rest (a.put o.dst (.agg (encP c))) w) : wpList Tryz.prog ops Q (o :: rest) a w :=
  BigFrame.wpList_want hw fun _ hK => wp_load_mid 41 x ho b off hx (encPL c) _ hc Tryz.underlying41 rfl (encPL_info0 c) (hK _ _ (by rw [encP_back]; exact h))
/-- A point out of a block of its own. -/
theorem wpl_loadB (x : Operand) (ho : o.op = .load 41 x) (g : Nat) (hx : a.eval x = .pointer (some ⟨g, 0, none⟩)) (c : PS) (hg : Blk w g 41 (encP c))
    (hw : Region.wanted o (yielded ops a.tmps) = true) (h : wpList Tryz.prog ops Q rest (a.put o.dst (.agg (encP c))) w) : wpList Tryz.prog ops Q (o :: rest) a w :=
  wpl_load 41 x ho g hx _ _ _ hg Tryz.underlying41 rfl 18 Tryz.infoPoint (encP_size c).symm hw h
/-- A point put into a block just made. -/
theorem wpl_storeN {W : World} (x y : Operand) (ho : o.op = .store 41 x y) (z : Array Value) (hz : z.size = 18) (hx : a.eval x = .pointer (some ⟨W.heap.size, 0, none⟩)) (c : PS) (hy : a.eval y = .agg (encP c))
    (hw : Region.wanted o (yielded ops a.tmps) = true) (h : wpList Tryz.prog ops Q rest (a.put o.dst undef) (W.alloc (.cells (encP c) 41))) : wpList Tryz.prog ops Q (o :: rest) a (W.alloc (.cells z 41)) :=
  wpl_store 41 x y ho W.heap.size (encP c) hx hy 41 z (Blk.new W _ _) 18 Tryz.infoPoint (encP_size c).symm hz (encP_one c) hw (by rw [setRow_new]; exact h)
end

set_option maxRecDepth 100000 in
set_option maxHeartbeats 4000000 in
theorem index_any (ad : Option Addr) (cap : Nat) (xs : List PS) (hcap : xs.length ≤ cap) (hm : xs.length ≤ 100000) (w : World) (hI : Elems encP 18 w.heap.size w ad xs) :
    Calls Tryz.prog 40 #[.slice ad xs.length cap, .func (.func 21) #[] #[]] w fun e w' => ∃ r : Int, e = .returned (.int .i64 r) ∧ (decide (r ≥ 0) = anyNo xs ∧ Below w.heap.size w w') := by
  obtain ⟨n, hn⟩ : ∃ n, n = xs.length := ⟨_, rfl⟩
  rw [← hn] at hcap hm ⊢
  have Hn := hid hn
  have HI := hid hI
  have HC := hid (fun x W => nopt_any x W)
  have HN : Hid ((∀ j (hj : j < xs.length), (!isPt xs[j]) = false) → false = anyNo xs) := hid (fun h => by
    symm
    unfold anyNo
    rw [List.any_eq_false]
    intro c hc
    obtain ⟨j, hj, rfl⟩ := List.getElem_of_mem hc
    simp [h j hj])
  have HY : Hid (∀ j (hj : j < xs.length), (!isPt xs[j]) = true → true = anyNo xs) := hid (fun j hj h => by
    symm
    unfold anyNo
    rw [List.any_eq_true]
    exact ⟨xs[j], List.getElem_mem hj, h⟩)
  clear hn hI
  go_enter Tryz.func40, Tryz.ntmps40
  go_wp2
  go_loopg [8] n (fun g s8 wr => ∃ p : Nat, s8 = .int .i64 (p : Int) ∧ p ≤ n ∧ n - p ≤ g ∧ Hid (Below w.heap.size w wr) ∧ Hid (∀ j (hj : j < xs.length), j < p → (!isPt xs[j]) = false))
  case atStart => exact ⟨0, rfl, by omega, by omega, hid (Below.refl _ _), hid (fun j _ h => by omega)⟩
  case round =>
    obtain ⟨p, rfl, hp, hgp, HB, HF⟩ := hrel
    by_cases hlt : p < n
    · have hpx : p < xs.length := by have := Hn.out; omega
      obtain ⟨g0, o0, rfl, hg0, hr0⟩ := HI.out p hpx
      obtain ⟨x, hx⟩ : ∃ x, x = xs[p] := ⟨_, rfl⟩
      have HX : Hid (wr.rangeAt g0 (o0 + p * 18) (encPL x)) := hid (hx ▸ rangeAt_below HB.out hg0 hr0)
      have HCx := hid (HC.out x wr)
      have HXx := hid hx
      clear hx hr0
      by_cases hc : (!isPt x) = true
      · rw [hc] at HCx
        have HR : Hid (true = anyNo xs) := hid (HY.out p hpx (by rw [← HXx.out]; exact hc))
        clear hc
        go_wp2_with ((show wpList _ _ _ (⟨some 15, _, _, _, _, _⟩ :: _) _ _); go_must (refine wpl_loadP (.tmp 14) rfl g0 (o0 + p * 18) rfl x HX.out rfl ?_))
        refine HCx.out.mono ?_
        rintro e w2 ⟨rfl, hb⟩
        have Hb := hid (HB.out.trans (hb.mono HB.out.size))
        clear hb
        go_wp2
        go_ret
        exact ⟨_, rfl, by rw [← HR.out]; exact decide_eq_true (by omega), Hb.out⟩
      · have hc : (!isPt x) = false := by simpa using hc
        rw [hc] at HCx
        have HF2 : Hid (∀ j (hj : j < xs.length), j < p + 1 → (!isPt xs[j]) = false) := hid (fun j hj h => by
          by_cases e : j = p
          · subst e; rw [← HXx.out]; exact hc
          · exact HF.out j hj (by omega))
        clear hc
        go_wp2_with ((show wpList _ _ _ (⟨some 15, _, _, _, _, _⟩ :: _) _ _); go_must (refine wpl_loadP (.tmp 14) rfl g0 (o0 + p * 18) rfl x HX.out rfl ?_))
        refine HCx.out.mono ?_
        rintro e w2 ⟨rfl, hb⟩
        have Hb := hid (HB.out.trans (hb.mono HB.out.size))
        clear hb
        go_wp2
        go_roundg (n - (p + 1))
        case measure => omega
        case rel => exact ⟨p + 1, by go_num, by omega, Nat.le_refl _, Hb, HF2⟩
    · obtain rfl : p = n := by omega
      have HR : Hid (false = anyNo xs) := hid (HN.out (fun j hj => HF.out j hj (by have := Hn.out; omega)))
      go_wp2
      go_ret
      exact ⟨_, rfl, by rw [← HR.out]; exact decide_eq_false (by omega), HB.out⟩

set_option maxRecDepth 100000 in
set_option maxHeartbeats 4000000 in
theorem contains_any (ad : Option Addr) (cap : Nat) (xs : List PS) (hcap : xs.length ≤ cap) (hm : xs.length ≤ 100000) (w : World) (hI : Elems encP 18 w.heap.size w ad xs) :
    Calls Tryz.prog 20 #[.slice ad xs.length cap, .func (.func 21) #[] #[]] w fun e w' => e = .returned (.bool (anyNo xs)) ∧ Below w.heap.size w w' := by
  have H := hid (index_any ad cap xs hcap hm w hI)
  clear hcap hm hI
  go_enter Tryz.func20, Tryz.ntmps20
  go_wp2_with fail
  refine H.out.mono ?_
  rintro e w2 ⟨r, rfl, hr, hb⟩
  have Hr := hid hr
  have Hb := hid hb
  clear hr hb
  go_wp2
  go_ret
  exact ⟨by rw [← Hr.out]; rfl, Hb.out⟩
end Go.Proofs.YtahconkjhneogaaGreatDoor

namespace Go.Proofs.YtahconkjhneogaaGreatDoor
open Go.RowKit Go.Lib

/-- A point's bytes; the offset and the skip of its stride. -/
def putQ (x : PS) : List Int := putP x.1.1 (ints x.1.2.1) x.1.2.2
def oOf (m : Int) (x : PS) : Int := offN m (putQ x)
def kOf (m : Int) (x : PS) : Int := skpN m (putQ x)
/-- The place number j of a point. -/
def ordP (M : Nat) (x : PS) (j : Nat) : Nat := (plc M (oOf M x) (kOf M x) j).toNat
theorem right_of (M : Nat) (hM : sizedB (M : Int) = true) (x : PS) : rightS M (oOf M x) (kOf M x) = true := of_right (putQ x) hM
theorem ordP_lt (M : Nat) (hM : sizedB (M : Int) = true) (x : PS) (j : Nat) : ordP M x j < M := by
  obtain ⟨a, b, _⟩ := sized_range hM
  have := plc_range (m := (M : Int)) (oOf M x) (kOf M x) j (by omega)
  unfold ordP
  omega
theorem ordP_cast (M : Nat) (hM : sizedB (M : Int) = true) (x : PS) (j : Nat) : plc M (oOf M x) (kOf M x) j = (ordP M x j : Int) := by
  obtain ⟨a, b, _⟩ := sized_range hM
  have := plc_range (m := (M : Int)) (oOf M x) (kOf M x) j (by omega)
  unfold ordP
  omega
theorem ordP_onto (M : Nat) (hM : sizedB (M : Int) = true) (x : PS) (p : Nat) (hp : p < M) : ∃ j, j < M ∧ ordP M x j = p := by
  obtain ⟨a, b, _⟩ := sized_range hM
  have h1 := whn_range (m := (M : Int)) (oOf M x) (kOf M x) p (by omega)
  have h2 := plc_whn (right_of M hM x) (show (0 : Int) ≤ p by omega) (show (p : Int) < M by omega)
  refine ⟨(whn M (oOf M x) (kOf M x) p).toNat, by omega, ?_⟩
  unfold ordP
  rw [Int.toNat_of_nonneg h1.1, h2]
  rfl

theorem putQ_byt (x : PS) : Byt (putQ x) := fun j => by
  have hb : ∀ v ∈ putQ x, 0 ≤ v ∧ v ≤ 255 := fun v hv => by
    unfold putQ putP at hv
    rw [List.mem_append] at hv
    rcases hv with hv | hv
    · unfold putA at hv
      have hi : ∀ n, v ∈ (ints x.1.2.1).take n → 0 ≤ v ∧ v ≤ 255 := fun n h => by
        have h := List.mem_of_mem_take h
        unfold ints at h
        obtain ⟨k, hk, rfl⟩ := List.mem_map.1 h
        have := x.2.2 k hk
        omega
      split at hv
      · rcases List.mem_cons.1 hv with rfl | h
        · omega
        · exact hi _ h
      · rcases List.mem_cons.1 hv with rfl | h
        · omega
        · exact hi _ h
    · simp only [List.mem_cons, List.not_mem_nil, or_false] at hv
      rcases hv with rfl | rfl <;> omega
  rw [List.getD_eq_getElem?_getD]
  by_cases h : j < (putQ x).length
  · rw [List.getElem?_eq_getElem h]
    exact hb _ (List.getElem_mem h)
  · rw [List.getElem?_eq_none (by omega)]
    exact ⟨by decide, by decide⟩
theorem putQ_len (x : PS) : (putQ x).length ≤ 19 := by
  unfold putQ putP
  rw [List.length_append, putA_len _ _ (by rw [ints_length, x.2.1])]
  simp only [List.length_cons, List.length_nil]
  split <;> omega
theorem bys_own {w : World} {base : Nat} {v : Value} {l : List Int} (h : w.ownsRow base 5 1 v l.length (l.map (Value.int .u8))) (hl : 0 < l.length) : ∃ g cap, v = .slice (some ⟨g, 0, none⟩) l.length cap ∧ Bys w.heap.size w (some ⟨g, 0, none⟩) l := by
  obtain ⟨_, ⟨_, h0⟩ | ⟨g, cap, cur, rfl, hg, hblk, hn, hcap, hcs, htk⟩⟩ := h
  · omega
  · refine ⟨g, cap, rfl, fun j hj => ⟨g, 0, rfl, (Array.getElem?_eq_some_iff.1 hblk).1, ?_⟩⟩
    unfold World.cell?
    rw [hblk]
    have h1 : cur.toList[j]? = some (.int .u8 (l.getD j 0)) := by
      have h2 : (cur.toList.take (l.length * 1))[j]? = (l.map (Value.int .u8))[j]? := by rw [htk]
      rw [List.getElem?_take_of_lt (by omega)] at h2
      rw [h2, List.getElem?_map, List.getElem?_eq_getElem hj, List.getD_eq_getElem?_getD, List.getElem?_eq_getElem hj]
      rfl
    rw [Array.getElem?_toList] at h1
    simpa using h1
theorem putQ_pos (x : PS) : 0 < (putQ x).length := by
  unfold putQ putP
  rw [List.length_append]
  simp only [List.length_cons, List.length_nil]
  omega

/-- The taker of a point in memory, within the blocks from lo to hi: it asked for d places. -/
def TakeAt (W : World) (f : Value) (lo hi S M : Nat) (x : PS) (who : Nat) (d : Nat) : Prop := ∃ p q r c b,
  f = .func (.func 74) #[] #[.pointer (some ⟨p, 0, none⟩), .pointer (some ⟨q, 0, none⟩), .pointer (some ⟨r, 0, none⟩)] ∧
  (lo ≤ p ∧ lo ≤ q ∧ lo ≤ r ∧ lo ≤ c ∧ lo ≤ b) ∧ (p < hi ∧ q < hi ∧ r < hi ∧ c < hi ∧ b < hi) ∧ (p ≠ c ∧ q ≠ c ∧ r ≠ c) ∧
  Blk W p 103 #[.pointer (some ⟨c, 0, none⟩)] ∧ Blk W q 25 #[.slice (some ⟨S, 0, none⟩) M M] ∧ Blk W r 3 #[.int .i64 who] ∧
  CurYes W c b M (oOf M x) (kOf M x) d
theorem blk_same {W W' : World} {g : Nat} {t : TypeId} {cs : Array Value} (h : Blk W g t cs) (hs : W'.heap[g]? = W.heap[g]?) : Blk W' g t cs := by
  unfold Blk at *
  rw [hs, h]
theorem TakeAt.same {W W' : World} {f : Value} {lo hi S M : Nat} {x : PS} {who d : Nat} (h : TakeAt W f lo hi S M x who d) (hs : ∀ g, lo ≤ g → g < hi → W'.heap[g]? = W.heap[g]?) : TakeAt W' f lo hi S M x who d := by
  obtain ⟨p, q, r, c, b, e, ⟨l1, l2, l3, l4, l5⟩, ⟨h1, h2, h3, h4, h5⟩, n, b1, b2, b3, b4, b5, b6⟩ := h
  exact ⟨p, q, r, c, b, e, ⟨l1, l2, l3, l4, l5⟩, ⟨h1, h2, h3, h4, h5⟩, n, blk_same b1 (hs p l1 h1), blk_same b2 (hs q l2 h2), blk_same b3 (hs r l3 h3), blk_same b4 (hs c l4 h4), b5, blk_same b6 (hs b l5 h5)⟩

set_option linter.unusedSimpArgs false in
set_option maxRecDepth 100000 in
set_option maxHeartbeats 8000000 in
theorem taker_any (M : Nat) (hM : sizedB (M : Int) = true) (S : Nat) (x : PS) (who : Nat) (w : World) (hE : FEnv w) :
    Calls Tryz.prog 48 #[.slice (some ⟨S, 0, none⟩) M M, .agg (encP x), .int .i64 who] w fun e w' => ∃ f, e = .returned (.tuple #[f, .nilIface]) ∧ TakeAt w' f w.heap.size w'.heap.size S M x who 0 ∧ Below w.heap.size w w' := by
  obtain ⟨W1, hW1⟩ : ∃ W, W = w.alloc (.cells #[.slice (some ⟨S, 0, none⟩) M M] 25) := ⟨_, rfl⟩
  obtain ⟨W2, hW2⟩ : ∃ W, W = W1.alloc (.cells (encP x) 41) := ⟨_, rfl⟩
  obtain ⟨W3, hW3⟩ : ∃ W, W = W2.alloc (.cells #[.int .i64 who] 3) := ⟨_, rfl⟩
  have s1 : W1.heap.size = w.heap.size + 1 := by rw [hW1]; simp
  have s2 : W2.heap.size = w.heap.size + 2 := by rw [hW2]; simp [s1]
  have s3 : W3.heap.size = w.heap.size + 3 := by rw [hW3]; simp [s2]
  have b1 : Below w.heap.size w W1 := hW1 ▸ (Below.refl _ _).alloc (Nat.le_refl _) _
  have b2 : Below W1.heap.size W1 W2 := hW2 ▸ (Below.refl _ _).alloc (Nat.le_refl _) _
  have b3 : Below W2.heap.size W2 W3 := hW3 ▸ (Below.refl _ _).alloc (Nat.le_refl _) _
  have k1 : Blk W3 w.heap.size 25 #[.slice (some ⟨S, 0, none⟩) M M] := (((hW1 ▸ Blk.new w _ _ : Blk W1 w.heap.size 25 _)).kept b2).kept b3
  have k2 : Blk W3 (w.heap.size + 1) 41 (encP x) := by rw [← s1]; exact (hW2 ▸ Blk.new W1 _ _ : Blk W2 W1.heap.size 41 (encP x)).kept b3
  have k3 : Blk W3 (w.heap.size + 2) 3 #[.int .i64 who] := by rw [← s2]; exact (hW3 ▸ Blk.new W2 _ _ : Blk W3 W2.heap.size 3 _)
  have HW1 := hid hW1.symm
  have HW2 := hid hW2.symm
  have HW3 := hid hW3.symm
  have Hb3 := hid (bel2 (bel2 b1 b2) b3)
  have K1 := hid k1
  have K2 := hid k2
  have K3 := hid k3
  have Hs3 := hid s3
  have HE3 : Hid (FEnv W3) := hid (hE.kept Hb3.out)
  have HP : Hid (∀ W, Calls Tryz.prog 72 #[.agg (encP x)] W (OwnEnd (putQ x) W)) := hid (fun W => pput_any x.1.1 (ints x.1.2.1) (by rw [ints_length, x.2.1]) x.1.2.2 W)
  have HO : Hid (∀ ad cap W, FEnv W → Bys W.heap.size W ad (putQ x) → Calls Tryz.prog 71 #[.slice ad (putQ x).length cap, .int .i64 M] W fun e w' => e = .returned (.tuple #[.agg #[.int .i64 M, .int .i64 (oOf M x), .int .i64 (kOf M x)], .nilIface]) ∧ Below W.heap.size W w') := hid (fun ad cap W h1 h2 => sof_yes M hM ad cap (putQ x) (putQ_byt x) (by have := putQ_len x; omega) W h1 h2)
  have HC : Hid (∀ W, Calls Tryz.prog 73 #[.agg #[.int .i64 M, .int .i64 (oOf M x), .int .i64 (kOf M x)]] W fun e w' => ∃ c b, e = .returned (.pointer (some ⟨c, 0, none⟩)) ∧ W.heap.size ≤ c ∧ W.heap.size ≤ b ∧ CurYes w' c b M (oOf M x) (kOf M x) 0 ∧ Below W.heap.size W w') := hid (fun W => cursor_yes M _ _ (right_of M hM x) W)
  have HL := hid (putQ_pos x)
  have HX := hid (encP_size x)
  have HT : Hid (∀ W p c b, W3.heap.size ≤ p → W3.heap.size ≤ c → W3.heap.size ≤ b → p ≠ c → c < W.heap.size → b < W.heap.size → Below W3.heap.size W3 W → Blk W p 103 #[.pointer (some ⟨c, 0, none⟩)] → CurYes W c b M (oOf M x) (kOf M x) 0 →
      TakeAt W (.func (.func 74) #[] #[.pointer (some ⟨p, 0, none⟩), .pointer (some ⟨w.heap.size, 0, none⟩), .pointer (some ⟨w.heap.size + 2, 0, none⟩)]) w.heap.size W.heap.size S M x who 0) := hid (fun W p c b h1 h2 h3 h4 h5 h6 hb hk hc =>
    ⟨p, w.heap.size, w.heap.size + 2, c, b, rfl, by have := Hs3.out; omega, by have := Hs3.out; have := hk.lt; omega, by have := Hs3.out; omega, hk, K1.out.kept hb, K3.out.kept hb, hc⟩)
  clear hW1 hW2 hW3 s1 s2 s3 b1 b2 b3 k1 k2 k3 hE
  generalize oOf M x = O at *
  generalize kOf M x = K at *
  go_enter Tryz.func48, Tryz.ntmps48
  go_upto_region 1 with fail
  rw [HW1.out]
  rw [HW2.out]
  rw [HW3.out]
  have hS0 : Below W3.heap.size W3 W3.drew := below_drewN W3 1
  refine wp_region_held_drew (S := fun W => Below W3.heap.size W3 W) (by kernel_rfl) hS0 (fun hS => ?_)
  change wpAnyH _ _ _ _ _ 11 #[false, false, false, false, false, false, false, false, false, false, false] _ _
  refine wpAnyH_take (i := 0) (v := .agg (encP x)) rfl (by kernel_rfl) (by kernel_rfl) (by kernel_rfl) (fun _ _ _ h => h) (yields_load 41 (.tmp 4) rfl (w.heap.size + 1) rfl 41 _ _ (fun W h => K2.out.kept h) Tryz.underlying41 rfl 18 Tryz.infoPoint HX.out.symm (by kernel_rfl)) hS ?_
  simp only [List.getElem_toArray, List.getElem_cons_zero, List.getElem_cons_succ, Act.put, List.setIfInBounds_toArray, List.set_cons_zero, List.set_cons_succ]
  refine wpAnyH_take (i := 2) (v := .slice (some ⟨S, 0, none⟩) M M) rfl (by kernel_rfl) (by kernel_rfl) (by kernel_rfl) (fun _ _ _ h => h) (.inl ⟨by kernel_rfl, fun W h => by unfold execOp; have c := (K1.out.kept h).cell 0; go_simp⟩) hS ?_
  simp only [List.getElem_toArray, List.getElem_cons_zero, List.getElem_cons_succ, Act.put, List.setIfInBounds_toArray, List.set_cons_zero, List.set_cons_succ]
  refine wpAnyH_take (i := 3) (v := .int .i64 M) rfl (by kernel_rfl) (by kernel_rfl) (by kernel_rfl) (fun _ _ _ h => h) (.inl ⟨by kernel_rfl, fun w _ => by kernel_rfl⟩) hS ?_
  simp only [List.getElem_toArray, List.getElem_cons_zero, List.getElem_cons_succ, Act.put, List.setIfInBounds_toArray, List.set_cons_zero, List.set_cons_succ]
  refine wpAnyH_ready (rs := [1, 8]) (by kernel_rfl) (by simp) ?_
  refine AllReadyH.cons rfl (fun K' hK => ?_) (AllReadyH.cons rfl (fun K' hK => ?_) AllReadyH.nil)
  ·
    refine step_callE 72 #[.agg (encP x)] (by kernel_rfl) (by kernel_rfl) (HP.out _) (fun v A hv => ?_)
    obtain ⟨hown, hbA⟩ := hv
    obtain ⟨g13, cap13, rfl, hby⟩ := bys_own hown HL.out
    refine hK.out _ _ (hS.trans (hbA.mono hS.size)) (fun hS => ?_)
    simp only [List.getElem_toArray, List.getElem_cons_zero, List.getElem_cons_succ, Act.put, List.setIfInBounds_toArray, List.set_cons_zero, List.set_cons_succ]
    refine wpAnyH_ready (rs := [4, 8]) (by kernel_rfl) (by simp) ?_
    refine AllReadyH.cons rfl (fun K' hK => ?_) (AllReadyH.cons rfl (fun K' hK => ?_) AllReadyH.nil)
    ·
      refine step_call 71 #[.slice (some ⟨g13, 0, none⟩) (putQ x).length cap13, .int .i64 M] (by kernel_rfl) (by kernel_rfl) (.tuple #[.agg #[.int .i64 M, .int .i64 O, .int .i64 K], .nilIface]) (HO.out _ _ _ (HE3.out.kept hS) hby) (fun B hbB => hK.out _ _ (hS.trans (hbB.mono hS.size)) (fun hS => ?_))
      simp only [List.getElem_toArray, List.getElem_cons_zero, List.getElem_cons_succ, Act.put, List.setIfInBounds_toArray, List.set_cons_zero, List.set_cons_succ]
      refine wpAnyH_take (i := 5) (v := .tuple #[.agg #[.int .i64 M, .int .i64 O, .int .i64 K], .nilIface]) rfl (by kernel_rfl) (by kernel_rfl) (by kernel_rfl) (fun _ _ _ h => h) (.inl ⟨by kernel_rfl, fun w _ => by kernel_rfl⟩) hS ?_
      simp only [List.getElem_toArray, List.getElem_cons_zero, List.getElem_cons_succ, Act.put, List.setIfInBounds_toArray, List.set_cons_zero, List.set_cons_succ]
      refine wpAnyH_take (i := 6) (v := .agg #[.int .i64 M, .int .i64 O, .int .i64 K]) rfl (by kernel_rfl) (by kernel_rfl) (by kernel_rfl) (fun _ _ _ h => h) (.inl ⟨by kernel_rfl, fun w _ => by kernel_rfl⟩) hS ?_
      simp only [List.getElem_toArray, List.getElem_cons_zero, List.getElem_cons_succ, Act.put, List.setIfInBounds_toArray, List.set_cons_zero, List.set_cons_succ]
      refine wpAnyH_take (i := 7) (v := .nilIface) rfl (by kernel_rfl) (by kernel_rfl) (by kernel_rfl) (fun _ _ _ h => h) (.inl ⟨by kernel_rfl, fun w _ => by kernel_rfl⟩) hS ?_
      simp only [List.getElem_toArray, List.getElem_cons_zero, List.getElem_cons_succ, Act.put, List.setIfInBounds_toArray, List.set_cons_zero, List.set_cons_succ]
      refine wpAnyH_ready (rs := [8]) (by kernel_rfl) (by simp) ?_
      refine AllReadyH.cons rfl (fun K' hK => ?_) AllReadyH.nil
      obtain ⟨C, hC⟩ : ∃ W, W = World.alloc B (.cells #[.int .i64 0, .int .i64 0, .int .i64 0] 100) := ⟨_, rfl⟩
      have hbC : Below (World.heap B).size B C := hC ▸ (Below.refl _ _).alloc (Nat.le_refl _) _
      have hk8 : Blk C (World.heap B).size 100 #[.int .i64 0, .int .i64 0, .int .i64 0] := hC ▸ Blk.new B _ _
      have h8 : W3.heap.size ≤ (World.heap B).size := hS.size
      refine step_run (.pointer (some ⟨(World.heap B).size, 0, none⟩)) C (by rw [hC]; kernel_rfl) (by kernel_rfl) (hK.out _ _ (hS.trans (hbC.mono hS.size)) (fun hS => ?_))
      simp only [List.getElem_toArray, List.getElem_cons_zero, List.getElem_cons_succ, Act.put, List.setIfInBounds_toArray, List.set_cons_zero, List.set_cons_succ]
      refine wpAnyH_ready (rs := [9]) (by kernel_rfl) (by simp) ?_
      refine AllReadyH.cons rfl (fun K' hK => ?_) AllReadyH.nil
      refine step_store 100 _ _ rfl B.heap.size #[.int .i64 M, .int .i64 O, .int .i64 K] rfl rfl 100 #[.int .i64 0, .int .i64 0, .int .i64 0] hk8 3 (by kernel_rfl) rfl rfl (by simp [Value.oneCell']) (by kernel_rfl) (hK.out _ _ (below_setRow hS h8 _) (fun hS => ?_))
      simp only [List.getElem_toArray, List.getElem_cons_zero, List.getElem_cons_succ, Act.put, List.setIfInBounds_toArray, List.set_cons_zero, List.set_cons_succ]
      refine wpAnyH_take (i := 10) (v := .nilIface) rfl (by kernel_rfl) (by kernel_rfl) (by kernel_rfl) (fun _ _ _ h => h) (.inl ⟨by kernel_rfl, fun w _ => by kernel_rfl⟩) hS ?_
      simp only [List.getElem_toArray, List.getElem_cons_zero, List.getElem_cons_succ, Act.put, List.setIfInBounds_toArray, List.set_cons_zero, List.set_cons_succ]
      refine wpAnyH_done (by kernel_rfl) ?_ _
      have hk9 := Blk.row hk8 (#[.int .i64 M, .int .i64 O, .int .i64 K] : Array Value)
      generalize World.setRow C (B.heap.size) #[.int .i64 M, .int .i64 O, .int .i64 K] = U at hS hk9 ⊢
      have HU := hid hS
      have c0 : U.cell? ⟨B.heap.size, 0, none⟩ = some (.int .i64 M) := hk9.cell 0
      have c1 : U.cell? ⟨B.heap.size, 1, none⟩ = some (.int .i64 O) := hk9.cell 1
      have c2 : U.cell? ⟨B.heap.size, 2, none⟩ = some (.int .i64 K) := hk9.cell 2
      clear hS hk9 hk8 h8 hby
      generalize B.heap.size = g8 at c0 c1 c2 ⊢
      go_wp2_with fail
      refine (HC.out _).mono ?_
      rintro e w5 ⟨c, b, rfl, hc1, hb1, hcy, hb5⟩
      have hu := HU.out.size
      have hcl := hcy.1.lt
      have hbl := hcy.2.2.lt
      have F := hid (HT.out (w5.alloc (.cells #[.pointer (some ⟨c, 0, none⟩)] 103)) w5.heap.size c b (by have := hb5.size; omega) (by omega) (by omega) (by omega) (by rw [World.size_alloc]; omega) (by rw [World.size_alloc]; omega) ((HU.out.trans (hb5.mono hu)).alloc (by have := hb5.size; omega) _) (Blk.new w5 _ _) ⟨hcy.1.alloc _, hcy.2.1, hcy.2.2.alloc _⟩)
      have Hb9 : Hid (Below w.heap.size w (w5.alloc (.cells #[.pointer (some ⟨c, 0, none⟩)] 103))) := hid ((bel2 Hb3.out (HU.out.trans (hb5.mono hu))).alloc (by have := hb5.size; have := Hs3.out; omega) _)
      clear hc1 hb1 hcy hb5 hu hcl hbl
      go_wp2
      go_ret2
      exact ⟨_, rfl, F.out, Hb9.out⟩
    ·
      obtain ⟨B, hB⟩ : ∃ W, W = World.alloc A (.cells #[.int .i64 0, .int .i64 0, .int .i64 0] 100) := ⟨_, rfl⟩
      have hbB : Below (World.heap A).size A B := hB ▸ (Below.refl _ _).alloc (Nat.le_refl _) _
      have hk8 : Blk B (World.heap A).size 100 #[.int .i64 0, .int .i64 0, .int .i64 0] := hB ▸ Blk.new A _ _
      have h8 : W3.heap.size ≤ (World.heap A).size := hS.size
      refine step_run (.pointer (some ⟨(World.heap A).size, 0, none⟩)) B (by rw [hB]; kernel_rfl) (by kernel_rfl) (hK.out _ _ (hS.trans (hbB.mono hS.size)) (fun hS => ?_))
      simp only [List.getElem_toArray, List.getElem_cons_zero, List.getElem_cons_succ, Act.put, List.setIfInBounds_toArray, List.set_cons_zero, List.set_cons_succ]
      have hby : Bys B.heap.size B (some ⟨g13, 0, none⟩) (putQ x) := (hby.below hbB).mono hbB.size
      refine wpAnyH_ready (rs := [4]) (by kernel_rfl) (by simp) ?_
      refine AllReadyH.cons rfl (fun K' hK => ?_) AllReadyH.nil
      refine step_call 71 #[.slice (some ⟨g13, 0, none⟩) (putQ x).length cap13, .int .i64 M] (by kernel_rfl) (by kernel_rfl) (.tuple #[.agg #[.int .i64 M, .int .i64 O, .int .i64 K], .nilIface]) (HO.out _ _ _ (HE3.out.kept hS) hby) (fun C hbC => hK.out _ _ (hS.trans (hbC.mono hS.size)) (fun hS => ?_))
      simp only [List.getElem_toArray, List.getElem_cons_zero, List.getElem_cons_succ, Act.put, List.setIfInBounds_toArray, List.set_cons_zero, List.set_cons_succ]
      refine wpAnyH_take (i := 5) (v := .tuple #[.agg #[.int .i64 M, .int .i64 O, .int .i64 K], .nilIface]) rfl (by kernel_rfl) (by kernel_rfl) (by kernel_rfl) (fun _ _ _ h => h) (.inl ⟨by kernel_rfl, fun w _ => by kernel_rfl⟩) hS ?_
      simp only [List.getElem_toArray, List.getElem_cons_zero, List.getElem_cons_succ, Act.put, List.setIfInBounds_toArray, List.set_cons_zero, List.set_cons_succ]
      refine wpAnyH_take (i := 6) (v := .agg #[.int .i64 M, .int .i64 O, .int .i64 K]) rfl (by kernel_rfl) (by kernel_rfl) (by kernel_rfl) (fun _ _ _ h => h) (.inl ⟨by kernel_rfl, fun w _ => by kernel_rfl⟩) hS ?_
      simp only [List.getElem_toArray, List.getElem_cons_zero, List.getElem_cons_succ, Act.put, List.setIfInBounds_toArray, List.set_cons_zero, List.set_cons_succ]
      refine wpAnyH_take (i := 7) (v := .nilIface) rfl (by kernel_rfl) (by kernel_rfl) (by kernel_rfl) (fun _ _ _ h => h) (.inl ⟨by kernel_rfl, fun w _ => by kernel_rfl⟩) hS ?_
      simp only [List.getElem_toArray, List.getElem_cons_zero, List.getElem_cons_succ, Act.put, List.setIfInBounds_toArray, List.set_cons_zero, List.set_cons_succ]
      have hk8 := hk8.kept hbC
      refine wpAnyH_ready (rs := [9]) (by kernel_rfl) (by simp) ?_
      refine AllReadyH.cons rfl (fun K' hK => ?_) AllReadyH.nil
      refine step_store 100 _ _ rfl A.heap.size #[.int .i64 M, .int .i64 O, .int .i64 K] rfl rfl 100 #[.int .i64 0, .int .i64 0, .int .i64 0] hk8 3 (by kernel_rfl) rfl rfl (by simp [Value.oneCell']) (by kernel_rfl) (hK.out _ _ (below_setRow hS h8 _) (fun hS => ?_))
      simp only [List.getElem_toArray, List.getElem_cons_zero, List.getElem_cons_succ, Act.put, List.setIfInBounds_toArray, List.set_cons_zero, List.set_cons_succ]
      refine wpAnyH_take (i := 10) (v := .nilIface) rfl (by kernel_rfl) (by kernel_rfl) (by kernel_rfl) (fun _ _ _ h => h) (.inl ⟨by kernel_rfl, fun w _ => by kernel_rfl⟩) hS ?_
      simp only [List.getElem_toArray, List.getElem_cons_zero, List.getElem_cons_succ, Act.put, List.setIfInBounds_toArray, List.set_cons_zero, List.set_cons_succ]
      refine wpAnyH_done (by kernel_rfl) ?_ _
      have hk9 := Blk.row hk8 (#[.int .i64 M, .int .i64 O, .int .i64 K] : Array Value)
      generalize World.setRow C (A.heap.size) #[.int .i64 M, .int .i64 O, .int .i64 K] = U at hS hk9 ⊢
      have HU := hid hS
      have c0 : U.cell? ⟨A.heap.size, 0, none⟩ = some (.int .i64 M) := hk9.cell 0
      have c1 : U.cell? ⟨A.heap.size, 1, none⟩ = some (.int .i64 O) := hk9.cell 1
      have c2 : U.cell? ⟨A.heap.size, 2, none⟩ = some (.int .i64 K) := hk9.cell 2
      clear hS hk9 hk8 h8 hby
      generalize A.heap.size = g8 at c0 c1 c2 ⊢
      go_wp2_with fail
      refine (HC.out _).mono ?_
      rintro e w5 ⟨c, b, rfl, hc1, hb1, hcy, hb5⟩
      have hu := HU.out.size
      have hcl := hcy.1.lt
      have hbl := hcy.2.2.lt
      have F := hid (HT.out (w5.alloc (.cells #[.pointer (some ⟨c, 0, none⟩)] 103)) w5.heap.size c b (by have := hb5.size; omega) (by omega) (by omega) (by omega) (by rw [World.size_alloc]; omega) (by rw [World.size_alloc]; omega) ((HU.out.trans (hb5.mono hu)).alloc (by have := hb5.size; omega) _) (Blk.new w5 _ _) ⟨hcy.1.alloc _, hcy.2.1, hcy.2.2.alloc _⟩)
      have Hb9 : Hid (Below w.heap.size w (w5.alloc (.cells #[.pointer (some ⟨c, 0, none⟩)] 103))) := hid ((bel2 Hb3.out (HU.out.trans (hb5.mono hu))).alloc (by have := hb5.size; have := Hs3.out; omega) _)
      clear hc1 hb1 hcy hb5 hu hcl hbl
      go_wp2
      go_ret2
      exact ⟨_, rfl, F.out, Hb9.out⟩
  ·
    obtain ⟨A, hA⟩ : ∃ W, W = World.alloc W3.drew (.cells #[.int .i64 0, .int .i64 0, .int .i64 0] 100) := ⟨_, rfl⟩
    have hbA : Below (World.heap W3.drew).size W3.drew A := hA ▸ (Below.refl _ _).alloc (Nat.le_refl _) _
    have hk8 : Blk A (World.heap W3.drew).size 100 #[.int .i64 0, .int .i64 0, .int .i64 0] := hA ▸ Blk.new W3.drew _ _
    have h8 : W3.heap.size ≤ (World.heap W3.drew).size := hS.size
    refine step_run (.pointer (some ⟨(World.heap W3.drew).size, 0, none⟩)) A (by rw [hA]; kernel_rfl) (by kernel_rfl) (hK.out _ _ (hS.trans (hbA.mono hS.size)) (fun hS => ?_))
    simp only [List.getElem_toArray, List.getElem_cons_zero, List.getElem_cons_succ, Act.put, List.setIfInBounds_toArray, List.set_cons_zero, List.set_cons_succ]
    refine wpAnyH_ready (rs := [1]) (by kernel_rfl) (by simp) ?_
    refine AllReadyH.cons rfl (fun K' hK => ?_) AllReadyH.nil
    refine step_callE 72 #[.agg (encP x)] (by kernel_rfl) (by kernel_rfl) (HP.out _) (fun v B hv => ?_)
    obtain ⟨hown, hbB⟩ := hv
    obtain ⟨g13, cap13, rfl, hby⟩ := bys_own hown HL.out
    refine hK.out _ _ (hS.trans (hbB.mono hS.size)) (fun hS => ?_)
    simp only [List.getElem_toArray, List.getElem_cons_zero, List.getElem_cons_succ, Act.put, List.setIfInBounds_toArray, List.set_cons_zero, List.set_cons_succ]
    have hk8 := hk8.kept hbB
    refine wpAnyH_ready (rs := [4]) (by kernel_rfl) (by simp) ?_
    refine AllReadyH.cons rfl (fun K' hK => ?_) AllReadyH.nil
    refine step_call 71 #[.slice (some ⟨g13, 0, none⟩) (putQ x).length cap13, .int .i64 M] (by kernel_rfl) (by kernel_rfl) (.tuple #[.agg #[.int .i64 M, .int .i64 O, .int .i64 K], .nilIface]) (HO.out _ _ _ (HE3.out.kept hS) hby) (fun C hbC => hK.out _ _ (hS.trans (hbC.mono hS.size)) (fun hS => ?_))
    simp only [List.getElem_toArray, List.getElem_cons_zero, List.getElem_cons_succ, Act.put, List.setIfInBounds_toArray, List.set_cons_zero, List.set_cons_succ]
    refine wpAnyH_take (i := 5) (v := .tuple #[.agg #[.int .i64 M, .int .i64 O, .int .i64 K], .nilIface]) rfl (by kernel_rfl) (by kernel_rfl) (by kernel_rfl) (fun _ _ _ h => h) (.inl ⟨by kernel_rfl, fun w _ => by kernel_rfl⟩) hS ?_
    simp only [List.getElem_toArray, List.getElem_cons_zero, List.getElem_cons_succ, Act.put, List.setIfInBounds_toArray, List.set_cons_zero, List.set_cons_succ]
    refine wpAnyH_take (i := 6) (v := .agg #[.int .i64 M, .int .i64 O, .int .i64 K]) rfl (by kernel_rfl) (by kernel_rfl) (by kernel_rfl) (fun _ _ _ h => h) (.inl ⟨by kernel_rfl, fun w _ => by kernel_rfl⟩) hS ?_
    simp only [List.getElem_toArray, List.getElem_cons_zero, List.getElem_cons_succ, Act.put, List.setIfInBounds_toArray, List.set_cons_zero, List.set_cons_succ]
    refine wpAnyH_take (i := 7) (v := .nilIface) rfl (by kernel_rfl) (by kernel_rfl) (by kernel_rfl) (fun _ _ _ h => h) (.inl ⟨by kernel_rfl, fun w _ => by kernel_rfl⟩) hS ?_
    simp only [List.getElem_toArray, List.getElem_cons_zero, List.getElem_cons_succ, Act.put, List.setIfInBounds_toArray, List.set_cons_zero, List.set_cons_succ]
    have hk8 := hk8.kept hbC
    refine wpAnyH_ready (rs := [9]) (by kernel_rfl) (by simp) ?_
    refine AllReadyH.cons rfl (fun K' hK => ?_) AllReadyH.nil
    refine step_store 100 _ _ rfl W3.drew.heap.size #[.int .i64 M, .int .i64 O, .int .i64 K] rfl rfl 100 #[.int .i64 0, .int .i64 0, .int .i64 0] hk8 3 (by kernel_rfl) rfl rfl (by simp [Value.oneCell']) (by kernel_rfl) (hK.out _ _ (below_setRow hS h8 _) (fun hS => ?_))
    simp only [List.getElem_toArray, List.getElem_cons_zero, List.getElem_cons_succ, Act.put, List.setIfInBounds_toArray, List.set_cons_zero, List.set_cons_succ]
    refine wpAnyH_take (i := 10) (v := .nilIface) rfl (by kernel_rfl) (by kernel_rfl) (by kernel_rfl) (fun _ _ _ h => h) (.inl ⟨by kernel_rfl, fun w _ => by kernel_rfl⟩) hS ?_
    simp only [List.getElem_toArray, List.getElem_cons_zero, List.getElem_cons_succ, Act.put, List.setIfInBounds_toArray, List.set_cons_zero, List.set_cons_succ]
    refine wpAnyH_done (by kernel_rfl) ?_ _
    have hk9 := Blk.row hk8 (#[.int .i64 M, .int .i64 O, .int .i64 K] : Array Value)
    generalize World.setRow C (W3.drew.heap.size) #[.int .i64 M, .int .i64 O, .int .i64 K] = U at hS hk9 ⊢
    have HU := hid hS
    have c0 : U.cell? ⟨W3.drew.heap.size, 0, none⟩ = some (.int .i64 M) := hk9.cell 0
    have c1 : U.cell? ⟨W3.drew.heap.size, 1, none⟩ = some (.int .i64 O) := hk9.cell 1
    have c2 : U.cell? ⟨W3.drew.heap.size, 2, none⟩ = some (.int .i64 K) := hk9.cell 2
    clear hS hk9 hk8 h8 hby
    generalize W3.drew.heap.size = g8 at c0 c1 c2 ⊢
    go_wp2_with fail
    refine (HC.out _).mono ?_
    rintro e w5 ⟨c, b, rfl, hc1, hb1, hcy, hb5⟩
    have hu := HU.out.size
    have hcl := hcy.1.lt
    have hbl := hcy.2.2.lt
    have F := hid (HT.out (w5.alloc (.cells #[.pointer (some ⟨c, 0, none⟩)] 103)) w5.heap.size c b (by have := hb5.size; omega) (by omega) (by omega) (by omega) (by rw [World.size_alloc]; omega) (by rw [World.size_alloc]; omega) ((HU.out.trans (hb5.mono hu)).alloc (by have := hb5.size; omega) _) (Blk.new w5 _ _) ⟨hcy.1.alloc _, hcy.2.1, hcy.2.2.alloc _⟩)
    have Hb9 : Hid (Below w.heap.size w (w5.alloc (.cells #[.pointer (some ⟨c, 0, none⟩)] 103))) := hid ((bel2 Hb3.out (HU.out.trans (hb5.mono hu))).alloc (by have := hb5.size; have := Hs3.out; omega) _)
    clear hc1 hb1 hcy hb5 hu hcl hbl
    go_wp2
    go_ret2
    exact ⟨_, rfl, F.out, Hb9.out⟩
end Go.Proofs.YtahconkjhneogaaGreatDoor

namespace Go.Proofs.YtahconkjhneogaaGreatDoor
open Go.RowKit Go.Lib

/-- All but two blocks stay. -/
structure Two (w w' : World) (c S : Nat) : Prop where
  os : w'.os = w.os
  tape : w'.tape = w.tape
  output : w'.output = w.output
  size : w.heap.size ≤ w'.heap.size
  block : ∀ k, k < w.heap.size → k ≠ c → k ≠ S → w'.heap[k]? = w.heap[k]?

/-- A row of numbers that is a block. -/
def SlotB (W : World) (S : Nat) (L : List Int) : Prop := Blk W S 3 (L.map (Value.int .i64)).toArray
theorem SlotB.cell {W : World} {S : Nat} {L : List Int} (h : SlotB W S L) {i : Nat} (hi : i < L.length) : W.cell? ⟨S, i, none⟩ = some (.int .i64 (L.getD i 0)) := by
  rw [Blk.cell h i]
  simp [List.getD, List.getElem?_eq_getElem hi]
theorem SlotB.set {W : World} {S : Nat} {L : List Int} (h : SlotB W S L) (i : Nat) (v : Int) : SlotB (W.setCell ⟨S, i, none⟩ (.int .i64 v)) S (L.set i v) := by
  have := Blk.set h i (.int .i64 v)
  unfold SlotB
  rw [List.map_set]
  simpa using this
theorem grown_trans {a b c : World} {o : Option Nat} (h : a.grownBy b o) (k : b.grownBy c o) : a.grownBy c o :=
  ⟨k.os.trans h.os, k.tape.trans h.tape, k.output.trans h.output, Nat.le_trans h.size k.size, fun i hi hne => (k.block i (Nat.lt_of_lt_of_le hi h.size) hne).trans (h.block i hi hne)⟩
theorem grown_drew (w : World) (o : Option Nat) : w.grownBy w.drew o := ⟨rfl, rfl, rfl, Nat.le_refl _, fun _ _ _ => rfl⟩

set_option maxRecDepth 100000 in
set_option maxHeartbeats 8000000 in
theorem take_any (M : Nat) (hM : sizedB (M : Int) = true) (S p q r c b : Nat) (x : PS) (who d J : Nat) (L : List Int) (hl : L.length = M) (w : World)
    (hne : p ≠ c ∧ q ≠ c ∧ r ≠ c) (hSc : S ≠ c) (hSb : S ≠ b) (kp : Blk w p 103 #[.pointer (some ⟨c, 0, none⟩)]) (kq : Blk w q 25 #[.slice (some ⟨S, 0, none⟩) M M]) (kr : Blk w r 3 #[.int .i64 who])
    (hC : CurYes w c b M (oOf M x) (kOf M x) d) (hS : SlotB w S L) (hJ : d ≤ J) (hJM : J ≤ 100000) (hf : L.getD (ordP M x J) 0 = -1) (hb : ∀ i, d ≤ i → i < J → L.getD (ordP M x i) 0 ≠ -1) :
    Calls Tryz.prog 74 #[.pointer (some ⟨p, 0, none⟩), .pointer (some ⟨q, 0, none⟩), .pointer (some ⟨r, 0, none⟩)] w fun e w' =>
      e = .returned (.tuple #[]) ∧ CurYes w' c b M (oOf M x) (kOf M x) (J + 1 : Nat) ∧ SlotB w' S (L.set (ordP M x J) who) ∧ Two w w' c S := by
  have HN : Hid (∀ (j : Nat) W, j ≤ 100000 → CurYes W c b M (oOf M x) (kOf M x) j → Calls Tryz.prog 75 #[.pointer (some ⟨c, 0, none⟩)] W fun e w' => e = .returned (.int .i64 (ordP M x j : Nat)) ∧ CurYes w' c b M (oOf M x) (kOf M x) (j + 1 : Nat) ∧ W.grownBy w' (some c)) := hid fun j W hj h => by
    rw [← ordP_cast M hM x j]
    exact next_yes c b M (oOf M x) (kOf M x) j (right_of M hM x) (by omega) W h
  have HO : Hid (∀ j, ordP M x j < M) := hid (ordP_lt M hM x)
  have cp := kp.cell 0
  have cq := kq.cell 0
  have cr := kr.cell 0
  simp only [List.getElem?_toArray, List.getElem?_cons_zero] at cp cq cr
  have HK : Hid (∀ W, w.grownBy W (some c) → W.cell? ⟨p, 0, none⟩ = some (.pointer (some ⟨c, 0, none⟩)) ∧ W.cell? ⟨q, 0, none⟩ = some (.slice (some ⟨S, 0, none⟩) M M) ∧ W.cell? ⟨r, 0, none⟩ = some (.int .i64 who) ∧ SlotB W S L) := hid fun W h => by
    have z1 := (kp.grown h (fun e => hne.1 (Option.some.inj e).symm)).cell 0
    have z2 := (kq.grown h (fun e => hne.2.1 (Option.some.inj e).symm)).cell 0
    have z3 := (kr.grown h (fun e => hne.2.2 (Option.some.inj e).symm)).cell 0
    exact ⟨z1, z2, z3, Blk.grown hS h (fun e => hSc (Option.some.inj e).symm)⟩
  have HL := hid hl
  have HB := hid hb
  have HF := hid hf
  have HSS := hid (And.intro hSc hSb)
  have M251 := (sized_range hM).2.1
  have HC0 := hid hC
  clear hne kp kq kr hl hb hf hS hSc hSb hM hC
  go_enter Tryz.func74, Tryz.ntmps74
  go_wp2_with fail
  refine (HN.out d _ (by omega) HC0.out).mono ?_
  rintro e w1 ⟨rfl, hc1, hg1⟩
  have HC1 := hid hc1
  have HG1 := hid hg1
  clear hc1 hg1 cp cq cr HC0
  go_wp2_with fail
  go_loopg [3] (J + 1) (fun g s3 wr => ∃ j y : Nat, d ≤ j ∧ j ≤ J ∧ J - j ≤ g ∧ s3 = .int .i64 (y : Int) ∧ y = ordP M x j ∧ Hid (CurYes wr c b M (oOf M x) (kOf M x) (j + 1 : Nat)) ∧ Hid (w.grownBy wr (some c)))
  case atStart => exact ⟨d, _, Nat.le_refl _, hJ, by omega, rfl, rfl, HC1, HG1⟩
  case round =>
    obtain ⟨j, y, hdj, hjJ, hgj, rfl, hy, HCj, HGj⟩ := hrel
    obtain ⟨z1, z2, z3, z4⟩ := HK.out _ HGj.out
    have hyM : y < M := by rw [hy]; exact HO.out j
    obtain ⟨v, hv⟩ : ∃ v, v = L.getD y 0 := ⟨_, rfl⟩
    have z5 : wr.cell? ⟨S, y, none⟩ = some (.int .i64 v) := hv ▸ z4.cell (by rw [HL.out]; exact hyM)
    have z6 : wr.frozen? ⟨S, y, none⟩ = false := Blk.frozen z4 y
    have Z4 := hid z4
    have HY := hid hy
    clear z4
    by_cases hjj : j = J
    · subst hjj
      have hv1 : (v != -1) = false := by rw [hv, hy, HF.out]; rfl
      have F : Hid (SlotB (wr.setCell ⟨S, y, none⟩ (.int .i64 who)) S (L.set (ordP M x j) who)) := hid (by rw [← HY.out]; exact Z4.out.set y who)
      have F2 : Hid (CurYes (wr.setCell ⟨S, y, none⟩ (.int .i64 who)) c b M (oOf M x) (kOf M x) (j + 1 : Nat)) := hid ⟨Blk.setOther HCj.out.1 (Ne.symm HSS.out.1) _ _, HCj.out.2.1, Blk.setOther HCj.out.2.2 (Ne.symm HSS.out.2) _ _⟩
      have F3 : Hid (Two w (wr.setCell ⟨S, y, none⟩ (.int .i64 who)) c S) := hid (by
        have g2 := grown_set wr S y (.int .i64 who)
        have g1 := HGj.out
        exact ⟨g2.os.trans g1.os, g2.tape.trans g1.tape, g2.output.trans g1.output, Nat.le_trans g1.size g2.size, fun k hk h1 h2 => (g2.block k (Nat.lt_of_lt_of_le hk g1.size) (fun e => h2 (Option.some.inj e))).trans (g1.block k hk (fun e => h1 (Option.some.inj e)))⟩)
      clear hv hy HCj HGj Z4
      go_wp2
      go_end0
      exact ⟨rfl, F2.out, F.out, F3.out⟩
    · have hv1 : (v != -1) = true := by rw [hv, hy, bne_iff_ne]; exact HB.out j hdj (by omega)
      have HNj := hid (HN.out (j + 1) wr (by omega) HCj.out)
      clear hv hy
      go_wp2_with fail
      refine HNj.out.mono ?_
      rintro e w2 ⟨rfl, hc2, hg2⟩
      have HC2 := hid hc2
      have HG2 := hid (grown_trans HGj.out hg2)
      clear hc2 hg2
      go_wp2
      go_roundg (J - (j + 1))
      case measure => omega
      case rel => exact ⟨j + 1, _, by omega, by omega, Nat.le_refl _, rfl, rfl, HC2, HG2⟩
end Go.Proofs.YtahconkjhneogaaGreatDoor

namespace Go.Proofs.YtahconkjhneogaaGreatDoor
open Go.RowKit Go.Lib

theorem splice_row {c : Array Value} {M n k : Nat} {v z : Value} (hs : c.size = M) (h : ∀ i, i < M → c[i]? = some (if i < n then v else z)) (hk : n + k ≤ M) :
    (splice c.toList n (List.replicate k v)).toArray.size = M ∧ ∀ i, i < M → (splice c.toList n (List.replicate k v)).toArray[i]? = some (if i < n + k then v else z) := by
  refine ⟨by rw [List.size_toArray, length_splice _ _ _ (by simp; omega)]; exact hs, fun i hi => ?_⟩
  rw [List.getElem?_toArray]
  unfold splice
  by_cases h1 : i < n
  · rw [List.getElem?_append_left (by simp; omega), List.getElem?_take_of_lt h1, Array.getElem?_toList, h i hi, if_pos h1, if_pos (by omega)]
  · rw [List.getElem?_append_right (by simp; omega)]
    have e : (List.take n c.toList).length = n := by rw [List.length_take, Array.length_toList]; omega
    rw [e]
    by_cases h2 : i < n + k
    · rw [List.getElem?_append_left (by simp; omega), List.getElem?_replicate, if_pos (by omega), if_pos h2]
    · rw [List.getElem?_append_right (by simp; omega), List.length_replicate, List.getElem?_drop, show n + k + (i - n - k) = i by omega, Array.getElem?_toList, h i hi, if_neg h1, if_neg h2]

def filledF (n : Nat) (j : Nat) : Value := if j < n then .int .i64 (-1) else .int .i64 0
theorem row_cur {w : World} {g M n : Nat} (h : w.rowIs g 3 M (filledF n)) : ∃ cur : List Value, w.heap[g]? = some (.cells cur.toArray 3 (0, 0)) ∧ cur.length = M ∧ ∀ k, n + k ≤ M → ∀ w' : World, w'.heap[g]? = some (.cells (splice cur n (List.replicate k (.int .i64 (-1)))).toArray 3 (0, 0)) → w'.rowIs g 3 M (filledF (n + k)) := by
  obtain ⟨c, h1, h2, h3⟩ := h
  refine ⟨c.toList, by simpa using h1, h2, fun k hk w' h4 => ⟨_, h4, (splice_row h2 h3 hk).1, (splice_row h2 h3 hk).2⟩⟩

theorem Tryz.infoInt1 : (Tryz.prog.info? 3).map (·.size) = some 1 := by kernel_rfl
section
variable {o : Oper} {a : Act} {w : World}
theorem exec_cutLI (x lo : Operand) (ho : o.op = .slice 25 x (some lo) none none) (g M n : Nat) (hx : a.eval x = .slice (some ⟨g, 0, none⟩) M M) (hlo : a.eval lo = .int .i64 n) (h : n < M) :
    (execOp a.eval o).run Tryz.prog w = .ok (.value (.slice (some ⟨g, n, none⟩) (M - n) (M - n))) w := by
  unfold execOp
  simp only [ho, Option.map_some, Option.map_none, hx, hlo]
  clear hx hlo ho
  go_simp
  rw [if_pos (by omega), if_neg (by omega)]
theorem exec_cutHI (x hi : Operand) (ho : o.op = .slice 25 x none (some hi) none) (g M n : Nat) (hx : a.eval x = .slice (some ⟨g, 0, none⟩) M M) (hhi : a.eval hi = .int .i64 n) (h : n < M) :
    (execOp a.eval o).run Tryz.prog w = .ok (.value (.slice (some ⟨g, 0, none⟩) n M)) w := by
  unfold execOp
  simp only [ho, Option.map_some, Option.map_none, hx, hhi]
  clear hx hhi ho
  go_simp
  intro h
  omega
end

set_option linter.unusedSimpArgs false in
set_option maxRecDepth 100000 in
set_option maxHeartbeats 8000000 in
theorem repeat_any (M : Nat) (h0 : 1 ≤ M) (h1 : M ≤ 1000) (g : Nat) (w : World) (hg : Blk w g 3 #[.int .i64 (-1)]) :
    Calls Tryz.prog 47 #[.slice (some ⟨g, 0, none⟩) 1 1, .int .i64 M] w fun e w' => ∃ S, e = .returned (.slice (some ⟨S, 0, none⟩) M M) ∧ w.heap.size ≤ S ∧ SlotB w' S (List.replicate M (-1)) ∧ Below w.heap.size w w' := by
  have HM := hid (Tryz.bits_Mul 1 M (by omega) (by omega))
  have e1 : 1 * M / 18446744073709551616 = 0 := by omega
  have e2 : 1 * M % 18446744073709551616 = M := by omega
  rw [e1, e2] at HM
  have q1 : IntKind.u64.wrap (M : Int) = M := by rw [IntKind.wrap_u64]; omega
  have q2 : IntKind.i64.wrap (M : Int) = M := IntWalk.i64_in _ (by omega)
  have hmk := run_make_row' (P := Tryz.prog) 25 3 (.int .i64 0) 8 Tryz.underlying25 Tryz.infoIntV rfl .i64 .i64 M (by omega) (by omega)
  have HG : Hid ((w.alloc (.cells (madeCells #[.int .i64 0] M) 3)).cell? ⟨g, 0, none⟩ = some (.int .i64 (-1))) := hid ((hg.alloc _).cell 0)
  have HRow : Hid ((w.alloc (.cells (madeCells #[.int .i64 0] M) 3)).rowIs w.heap.size 3 M (filledF 0)) := hid ((World.rowIs_made w (.int .i64 0) M 3).congr fun j _ => by simp [filledF])
  have HBel : Hid (Below w.heap.size w (w.alloc (.cells (madeCells #[.int .i64 0] M) 3))) := hid ((Below.refl _ w).alloc (Nat.le_refl _) _)
  clear hg e1 e2
  go_enter Tryz.func47, Tryz.ntmps47
  go_wp2_with fail
  refine (HM.out _).mono ?_
  rintro e w1 ⟨rfl, hw⟩
  rw [hw]
  clear hw
  obtain ⟨cur, k1, k2, k3⟩ := row_cur HRow.out
  have K1 := hid k1
  have K2 := hid k2
  have K3 := hid k3
  clear k1 k2 k3
  go_wp2_with ((show wpList _ _ _ (⟨some 33, _, _, _, _, _⟩ :: _) _ _); go_must (refine wpList_copy_splice rfl (.tmp 31) (.tmp 32) 25 25 rfl 3 Tryz.underlying25 Tryz.infoInt1 (some ⟨w.heap.size, 0, none⟩) (some ⟨g, 0, none⟩) M M 1 1 rfl rfl w.heap.size 0 cur 3 K1.out [.int .i64 (-1)] (Nat.min_eq_left h0).symm (fun _ => ⟨rfl, _, rfl, fun j v hj => ?_⟩) (by rw [K2.out]; simp; omega) (by simp [Value.oneCell']) w.heap.size w HBel.out (Nat.le_refl _) (fun w3 hw3 hb3 => ?_)))
  · rcases j with _ | j
    · simp only [List.getElem?_cons_zero, Option.some.injEq] at hj
      subst hj
      exact HG.out
    · simp at hj
  have HR1 : Hid (w3.rowIs w.heap.size 3 M (filledF 1)) := hid (by have := K3.out 1 (by omega) w3 hw3.out; simpa using this)
  have HB1 := hid hb3
  clear hw3 hb3 hmk HG HRow HBel K1 K2 K3 HM
  go_wp2
  go_loopg [8] M (fun gg s8 wr => ∃ n : Nat, 1 ≤ n ∧ n ≤ M ∧ M - n ≤ gg ∧ s8 = .int .i64 n ∧ Hid (wr.rowIs w.heap.size 3 M (filledF n)) ∧ Hid (Below w.heap.size w wr))
  case atStart => exact ⟨1, by omega, h0, by omega, rfl, HR1, HB1⟩
  case round =>
    obtain ⟨n, hn1, hnM, hgn, rfl, HR, HB⟩ := hrel
    by_cases hlt : n < M
    · obtain ⟨cur, k1, k2, k3⟩ := row_cur (show wr.drew.rowIs w.heap.size 3 M (filledF n) from HR.out.of_block rfl)
      obtain ⟨k, hk⟩ : ∃ k, k = min n (M - n) := ⟨_, rfl⟩
      have hk1 : n + k ≤ M := by omega
      have hk0 : 1 ≤ k := by omega
      have K1 := hid k1
      have K2 := hid k2
      have K3 := hid (k3 k hk1)
      have HK := hid hk
      have HW : Hid (IntKind.i64.wrap ((n : Int) + (k : Int)) = ((n + k : Nat) : Int)) := hid (by rw [IntWalk.i64_in _ (by omega)]; omega)
      have HSrc : Hid (∀ j v, (List.replicate k (Value.int .i64 (-1)))[j]? = some v → wr.drew.cell? ((⟨w.heap.size, 0, none⟩ : Addr).add j) = some v) := hid fun j v hj => by
        rw [add_plain, Nat.zero_add]
        rw [List.getElem?_replicate] at hj
        by_cases hjk : j < k
        · rw [if_pos hjk] at hj
          have hjn : j < n := by omega
          have := (show wr.drew.rowIs w.heap.size 3 M (filledF n) from HR.out.of_block rfl).cell (show j < M by omega)
          rw [this, ← hj]
          simp [filledF, hjn]
        · rw [if_neg hjk] at hj; cases hj
      have hS0 : Below w.heap.size w wr.drew := HB.out.drew
      clear hk k1 k2 k3
      go_wp2_with fail
      refine wp_region_held_drew (S := fun V => Below w.heap.size w V) (by kernel_rfl) hS0 (fun hS => ?_)
      change wpAnyH _ _ _ _ _ 10 #[false, false, false, false, false, false, false, false, false, false] _ _
      refine wpAnyH_take (i := 0) (v := .int .i64 n) rfl (by kernel_rfl) (by kernel_rfl) (by kernel_rfl) (fun _ _ _ h => h) (.inl ⟨by kernel_rfl, fun w' _ => by unfold execOp; go_simp⟩) hS ?_
      simp only [List.getElem_toArray, List.getElem_cons_zero, List.getElem_cons_succ, Act.put, List.setIfInBounds_toArray, List.set_cons_zero, List.set_cons_succ]
      refine wpAnyH_take (i := 1) (v := .slice (some ⟨w.heap.size, 0, none⟩) M M) rfl (by kernel_rfl) (by kernel_rfl) (by kernel_rfl) (fun _ _ _ h => h) (.inl ⟨by kernel_rfl, fun w' _ => by unfold execOp; go_simp⟩) hS ?_
      simp only [List.getElem_toArray, List.getElem_cons_zero, List.getElem_cons_succ, Act.put, List.setIfInBounds_toArray, List.set_cons_zero, List.set_cons_succ]
      refine wpAnyH_take (i := 2) (v := .int .i64 n) rfl (by kernel_rfl) (by kernel_rfl) (by kernel_rfl) (fun _ _ _ h => h) (.inl ⟨by kernel_rfl, fun w' _ => by unfold execOp; go_simp⟩) hS ?_
      simp only [List.getElem_toArray, List.getElem_cons_zero, List.getElem_cons_succ, Act.put, List.setIfInBounds_toArray, List.set_cons_zero, List.set_cons_succ]
      refine wpAnyH_take (i := 3) (v := .slice (some ⟨w.heap.size, n, none⟩) (M - n) (M - n)) rfl (by kernel_rfl) (by kernel_rfl) (by kernel_rfl) (fun _ _ _ h => h) (.inl ⟨by kernel_rfl, fun w' _ => exec_cutLI (.tmp 39) (.tmp 40) rfl w.heap.size M n rfl rfl hlt⟩) hS ?_
      simp only [List.getElem_toArray, List.getElem_cons_zero, List.getElem_cons_succ, Act.put, List.setIfInBounds_toArray, List.set_cons_zero, List.set_cons_succ]
      refine wpAnyH_take (i := 4) (v := .slice (some ⟨w.heap.size, 0, none⟩) M M) rfl (by kernel_rfl) (by kernel_rfl) (by kernel_rfl) (fun _ _ _ h => h) (.inl ⟨by kernel_rfl, fun w' _ => by unfold execOp; go_simp⟩) hS ?_
      simp only [List.getElem_toArray, List.getElem_cons_zero, List.getElem_cons_succ, Act.put, List.setIfInBounds_toArray, List.set_cons_zero, List.set_cons_succ]
      refine wpAnyH_take (i := 5) (v := .int .i64 n) rfl (by kernel_rfl) (by kernel_rfl) (by kernel_rfl) (fun _ _ _ h => h) (.inl ⟨by kernel_rfl, fun w' _ => by unfold execOp; go_simp⟩) hS ?_
      simp only [List.getElem_toArray, List.getElem_cons_zero, List.getElem_cons_succ, Act.put, List.setIfInBounds_toArray, List.set_cons_zero, List.set_cons_succ]
      refine wpAnyH_take (i := 6) (v := .slice (some ⟨w.heap.size, 0, none⟩) n M) rfl (by kernel_rfl) (by kernel_rfl) (by kernel_rfl) (fun _ _ _ h => h) (.inl ⟨by kernel_rfl, fun w' _ => exec_cutHI (.tmp 42) (.tmp 43) rfl w.heap.size M n rfl rfl hlt⟩) hS ?_
      simp only [List.getElem_toArray, List.getElem_cons_zero, List.getElem_cons_succ, Act.put, List.setIfInBounds_toArray, List.set_cons_zero, List.set_cons_succ]
      refine wpAnyH_ready (rs := [7]) (by kernel_rfl) (by simp) ?_
      refine AllReadyH.cons rfl (fun K' hK => ?_) AllReadyH.nil
      refine step_copy_splice rfl (.tmp 41) (.tmp 44) 25 25 rfl 3 Tryz.underlying25 Tryz.infoInt1 (some ⟨w.heap.size, n, none⟩) (some ⟨w.heap.size, 0, none⟩) (M - n) (M - n) n M rfl rfl w.heap.size n cur 3 K1.out (List.replicate k (.int .i64 (-1))) (by rw [List.length_replicate]; exact HK.out) (fun _ => ⟨rfl, _, rfl, HSrc.out⟩) (by rw [K2.out, List.length_replicate]; omega) (by intro v hv; rw [(List.mem_replicate.1 hv).2]; rfl) w.heap.size w hS (Nat.le_refl _) (fun w3 hw3 hb3 => hK.out _ _ hb3 (fun hS => ?_))
      rw [List.length_replicate]
      simp only [List.getElem_toArray, List.getElem_cons_zero, List.getElem_cons_succ, Act.put, List.setIfInBounds_toArray, List.set_cons_zero, List.set_cons_succ]
      refine wpAnyH_take (i := 8) (v := .int .i64 ((n + k : Nat) : Int)) rfl (by kernel_rfl) (by kernel_rfl) (by kernel_rfl) (fun _ _ _ h => h) (.inl ⟨by kernel_rfl, fun w' _ => by unfold execOp; go_simp; exact HW.out⟩) hS ?_
      simp only [List.getElem_toArray, List.getElem_cons_zero, List.getElem_cons_succ, Act.put, List.setIfInBounds_toArray, List.set_cons_zero, List.set_cons_succ]
      refine wpAnyH_take (i := 9) (v := .int .i64 ((n + k : Nat) : Int)) rfl (by kernel_rfl) (by kernel_rfl) (by kernel_rfl) (fun _ _ _ h => h) (.inl ⟨by kernel_rfl, fun w' _ => by unfold execOp; go_simp⟩) hS ?_
      simp only [List.getElem_toArray, List.getElem_cons_zero, List.getElem_cons_succ, Act.put, List.setIfInBounds_toArray, List.set_cons_zero, List.set_cons_succ]
      refine wpAnyH_done (by kernel_rfl) ?_ _
      have HR3 := hid (K3.out w3 hw3.out)
      have HB3 := hid hb3
      clear hw3 hb3 hS
      go_wp2
      go_roundg (M - (n + k))
      case measure => omega
      case rel => exact ⟨n + k, by omega, hk1, Nat.le_refl _, rfl, HR3, HB3⟩
    · obtain rfl : n = M := by omega
      have F : Hid (SlotB wr w.heap.size (List.replicate n (-1))) := hid (by
        obtain ⟨c, h1, h2, h3⟩ := HR.out
        unfold SlotB Blk
        rw [h1]
        congr 2
        apply Array.ext_getElem?
        intro i
        rw [show ((List.replicate n (-1 : Int)).map (Value.int .i64)).toArray[i]? = (List.replicate n (Value.int .i64 (-1)))[i]? by rw [List.getElem?_toArray, List.map_replicate], List.getElem?_replicate]
        by_cases hi : i < n
        · rw [h3 i hi, if_pos hi]
          simp [filledF, hi]
        · rw [if_neg hi, Array.getElem?_eq_none (by omega)])
      go_wp2
      go_ret
      exact ⟨_, rfl, Nat.le_refl _, F.out, HB.out⟩
end Go.Proofs.YtahconkjhneogaaGreatDoor

namespace Go.Proofs.YtahconkjhneogaaGreatDoor
open Go.RowKit Go.Lib

/-- Place number j of backend i. -/
def ordL (M : Nat) (bs : List PS) (i j : Nat) : Nat := ordP M bs[i]! j
theorem ordL_onto (M : Nat) (hM : sizedB (M : Int) = true) (bs : List PS) : Onto (ordL M bs) bs.length M := fun _ _ =>
  ⟨fun j => ordP_lt M hM _ j, fun p hp => ordP_onto M hM _ p hp⟩

structure Fam (W : World) (lo : Nat → Nat) (S T M : Nat) (bs : List PS) (fs : List Value) (ds : Nat → Nat) : Prop where
  mono : ∀ i j, i ≤ j → j ≤ fs.length → lo i ≤ lo j
  base : S < lo 0 ∧ T < lo 0
  top : lo fs.length ≤ W.heap.size
  each : ∀ i (h : i < fs.length), TakeAt W fs[i] (lo i) (lo (i + 1)) S M bs[i]! i (ds i)

theorem TakeAt.wider {W : World} {f : Value} {lo lo' hi S M : Nat} {x : PS} {who d : Nat} (h : TakeAt W f lo hi S M x who d) (hl : lo' ≤ lo) : TakeAt W f lo' hi S M x who d := by
  obtain ⟨p, q, r, c, b, e, ⟨l1, l2, l3, l4, l5⟩, h2, h3⟩ := h
  exact ⟨p, q, r, c, b, e, ⟨by omega, by omega, by omega, by omega, by omega⟩, h2, h3⟩

theorem Fam.start (W : World) (S T M : Nat) (bs : List PS) (hS : S < W.heap.size) (hT : T < W.heap.size) : Fam W (fun _ => W.heap.size) S T M bs [] (fun _ => 0) :=
  ⟨fun _ _ _ _ => Nat.le_refl _, ⟨hS, hT⟩, Nat.le_refl _, fun i h => by simp at h⟩

/-- What lies below the family's end stays. -/
theorem Fam.kept {W W' : World} {lo : Nat → Nat} {S T M : Nat} {bs : List PS} {fs : List Value} {ds : Nat → Nat} (h : Fam W lo S T M bs fs ds) (hb : Below W.heap.size W W') : Fam W' lo S T M bs fs ds :=
  ⟨h.mono, h.base, Nat.le_trans h.top hb.size, fun i hi => (h.each i hi).same fun g _ hg => hb.block g (Nat.lt_of_lt_of_le hg (Nat.le_trans (h.mono (i + 1) fs.length hi (Nat.le_refl _)) h.top))⟩
theorem Fam.setCell {W : World} {lo : Nat → Nat} {S T M : Nat} {bs : List PS} {fs : List Value} {ds : Nat → Nat} (h : Fam W lo S T M bs fs ds) (i : Nat) (v : Value) : Fam (W.setCell ⟨T, i, none⟩ v) lo S T M bs fs ds :=
  ⟨h.mono, h.base, by have := h.top; simpa [World.setCell] using this, fun j hj => (h.each j hj).same fun g hg _ => Below.heap_setCell W _ v g (by
    have := h.mono 0 j (Nat.zero_le _) (Nat.le_of_lt hj)
    have := h.base.2
    show g ≠ T
    omega)⟩

theorem Fam.add {W W' : World} {lo : Nat → Nat} {S T M : Nat} {bs : List PS} {fs : List Value} {f : Value} (h : Fam W lo S T M bs fs (fun _ => 0)) (hb : Below W.heap.size W W') (hf : TakeAt W' f W.heap.size W'.heap.size S M bs[fs.length]! fs.length 0) :
    Fam W' (fun j => if j ≤ fs.length then lo j else W'.heap.size) S T M bs (fs ++ [f]) (fun _ => 0) where
  mono := fun i j hij hj => by
    rw [List.length_append] at hj
    simp only [List.length_cons, List.length_nil] at hj
    by_cases h1 : j ≤ fs.length
    · rw [if_pos h1, if_pos (by omega)]
      exact h.mono i j hij h1
    · rw [if_neg h1]
      by_cases h2 : i ≤ fs.length
      · rw [if_pos h2]
        exact Nat.le_trans (h.mono i fs.length h2 (Nat.le_refl _)) (Nat.le_trans h.top hb.size)
      · rw [if_neg h2]
        exact Nat.le_refl _
  base := by rw [if_pos (Nat.zero_le _)]; exact h.base
  top := by
    rw [List.length_append, List.length_cons, List.length_nil, if_neg (by omega)]
    exact Nat.le_refl _
  each := fun i hi => by
    rw [List.length_append] at hi
    simp only [List.length_cons, List.length_nil] at hi
    by_cases h1 : i < fs.length
    · rw [List.getElem_append_left h1, if_pos (by omega), if_pos (by omega)]
      exact (h.kept hb).each i h1
    · obtain rfl : i = fs.length := by omega
      rw [List.getElem_append_right (Nat.le_refl _), if_pos (Nat.le_refl _), if_neg (by omega)]
      simp only [Nat.sub_self, List.getElem_cons_zero]
      exact hf.wider h.top

/-- One takes: the others stay. -/
theorem Fam.take {W W' : World} {lo : Nat → Nat} {S T M : Nat} {bs : List PS} {fs : List Value} {ds : Nat → Nat} (h : Fam W lo S T M bs fs ds) {who : Nat} (hw : who < fs.length) {p q r c b : Nat}
    (e : fs[who] = .func (.func 74) #[] #[.pointer (some ⟨p, 0, none⟩), .pointer (some ⟨q, 0, none⟩), .pointer (some ⟨r, 0, none⟩)])
    (hl : lo who ≤ p ∧ lo who ≤ q ∧ lo who ≤ r ∧ lo who ≤ c ∧ lo who ≤ b) (hh : p < lo (who + 1) ∧ q < lo (who + 1) ∧ r < lo (who + 1) ∧ c < lo (who + 1) ∧ b < lo (who + 1)) (hn : p ≠ c ∧ q ≠ c ∧ r ≠ c)
    (kp : Blk W p 103 #[.pointer (some ⟨c, 0, none⟩)]) (kq : Blk W q 25 #[.slice (some ⟨S, 0, none⟩) M M]) (kr : Blk W r 3 #[.int .i64 who])
    (J : Nat) (hC : CurYes W' c b M (oOf M bs[who]!) (kOf M bs[who]!) (J + 1 : Nat)) (hT : Two W W' c S) : Fam W' lo S T M bs fs (fun i => if i = who then J + 1 else ds i) where
  mono := h.mono
  base := h.base
  top := Nat.le_trans h.top hT.size
  each := fun i hi => by
    have hsz : ∀ g, g < lo (i + 1) → g < W.heap.size := fun g hg => Nat.lt_of_lt_of_le hg (Nat.le_trans (h.mono (i + 1) fs.length hi (Nat.le_refl _)) h.top)
    have h0 := h.mono 0 i (Nat.zero_le _) (Nat.le_of_lt hi)
    have hb := h.base
    by_cases hi2 : i = who
    · subst hi2
      rw [if_pos rfl]
      have s : ∀ g, lo i ≤ g → g < lo (i + 1) → g ≠ c → W'.heap[g]? = W.heap[g]? := fun g h1 h2 h3 => hT.block g (hsz g h2) h3 (by omega)
      exact ⟨p, q, r, c, b, e, hl, hh, hn, blk_same kp (s p hl.1 hh.1 hn.1), blk_same kq (s q hl.2.1 hh.2.1 hn.2.1), blk_same kr (s r hl.2.2.1 hh.2.2.1 hn.2.2), hC⟩
    · rw [if_neg hi2]
      refine (h.each i hi).same fun g h1 h2 => hT.block g (hsz g h2) ?_ (by omega)
      rcases Nat.lt_or_ge i who with h3 | h3
      · have := h.mono (i + 1) who h3 (Nat.le_of_lt hw)
        omega
      · have := h.mono (who + 1) i (by omega) (Nat.le_of_lt hi)
        omega

/-- The functions in their row. -/
def FunR (W : World) (T n : Nat) (fs : List Value) : Prop := W.rowIs T 1 n (fun j => fs.getD j .nilFunc)
theorem Tryz.infoFn : (Tryz.prog.info? 1).map (fun i => (i.zero, i.size, i.bytes)) = some (some .nilFunc, 1, 8) := by kernel_rfl
theorem FunR.push {W : World} {T n : Nat} {fs : List Value} (h : FunR W T n fs) (f : Value) : FunR (W.setCell ⟨T, fs.length, none⟩ f) T n (fs ++ [f]) :=
  (World.rowIs.set h fs.length f).congr fun j _ => by
    rw [List.getD_eq_getElem?_getD, List.getD_eq_getElem?_getD]
    by_cases h1 : j = fs.length
    · subst h1; simp
    · by_cases h2 : j < fs.length
      · simp [h1, List.getElem?_append_left h2]
      · rw [List.getElem?_eq_none (by omega), List.getElem?_eq_none (by simp; omega)]
        simp [h1]
theorem FunR.kept {W W' : World} {T n : Nat} {fs : List Value} (h : FunR W T n fs) (hs : W'.heap[T]? = W.heap[T]?) : FunR W' T n fs := World.rowIs.of_block h hs
end Go.Proofs.YtahconkjhneogaaGreatDoor

namespace Go.Proofs.YtahconkjhneogaaGreatDoor
open Go.RowKit Go.Lib

theorem set_taken {L : List Int} {p : Nat} (h : L.getD p 0 ≠ -1) (q v : Nat) : (L.set q (v : Int)).getD p 0 ≠ -1 := by
  rw [List.getD_eq_getElem?_getD, List.getElem?_set]
  by_cases e : q = p
  · subst e
    rw [if_pos rfl]
    by_cases hl : q < L.length
    · rw [if_pos hl]
      simp only [Option.getD_some]
      omega
    · rw [if_neg hl]
      simp
  · rw [if_neg e, ← List.getD_eq_getElem?_getD]
    exact h
theorem set_self {L : List Int} {p : Nat} (h : p < L.length) (v : Nat) : (L.set p (v : Int)).getD p 0 ≠ -1 := by
  rw [List.getD_eq_getElem?_getD, List.getElem?_set, if_pos rfl, if_pos h]
  simp only [Option.getD_some]
  omega

set_option maxRecDepth 100000 in
set_option maxHeartbeats 8000000 in
theorem filled_any (M : Nat) (hM : sizedB (M : Int) = true) (ad : Option Addr) (cap : Nat) (bs : List PS) (h0 : 0 < bs.length) (hm : bs.length ≤ 1000) (hcap : bs.length ≤ cap) (w : World) (hE : FEnv w) (hI : Elems encP 18 w.heap.size w ad bs) :
    Calls Tryz.prog 24 #[.slice ad bs.length cap, .int .i64 M] w fun e w' => ∃ S, e = .returned (.tuple #[.slice (some ⟨S, 0, none⟩) M M, .nilIface]) ∧ w.heap.size ≤ S ∧ SlotB w' S (fillT (ordL M bs) bs.length M M) ∧ Below w.heap.size w w' := by
  obtain ⟨M1, M2, _⟩ := sized_range hM
  obtain ⟨n, hn⟩ : ∃ n, n = bs.length := ⟨_, rfl⟩
  rw [← hn] at hcap hm h0 ⊢
  have Hn := hid hn
  have HI := hid hI
  have HE := hid hE
  have HRep : Hid (∀ g W, Blk W g 3 #[.int .i64 (-1)] → Calls Tryz.prog 47 #[.slice (some ⟨g, 0, none⟩) 1 1, .int .i64 M] W fun e w' => ∃ S, e = .returned (.slice (some ⟨S, 0, none⟩) M M) ∧ W.heap.size ≤ S ∧ SlotB w' S (List.replicate M (-1)) ∧ Below W.heap.size W w') := hid (fun g W => repeat_any M (by omega) (by omega) g W)
  have HTk : Hid (∀ S x (who : Nat) W, FEnv W → Calls Tryz.prog 48 #[.slice (some ⟨S, 0, none⟩) M M, .agg (encP x), .int .i64 who] W fun e w' => ∃ f, e = .returned (.tuple #[f, .nilIface]) ∧ TakeAt w' f W.heap.size w'.heap.size S M x who 0 ∧ Below W.heap.size W w') := hid (fun S x who W => taker_any M hM S x who W)
  have HOn : Hid (Onto (ordL M bs) n M) := hid (by rw [hn]; exact ordL_onto M hM bs)
  have HM := hid hM
  have hmk := run_make_row' (P := Tryz.prog) 78 1 .nilFunc 8 Tryz.underlying78 Tryz.infoFn rfl .i64 .i64 n (by omega) (by omega)
  have HB0 : Hid (Below w.heap.size w (w.alloc (.cells #[.int .i64 (-1)] 3))) := hid ((Below.refl _ _).alloc (Nat.le_refl _) _)
  have HG0 := hid (Blk.new w 3 #[.int .i64 (-1)])
  clear hn hI hE hM
  go_enter Tryz.func24, Tryz.ntmps24
  go_wp2_with fail
  refine (HRep.out _ _ HG0.out).mono ?_
  rintro e w1 ⟨S, rfl, hS1, hS2, hb1⟩
  have HS1 : Hid (w.heap.size ≤ S) := hid (by rw [World.size_alloc] at hS1; omega)
  have HB1 := hid (bel2 HB0.out hb1)
  obtain ⟨w2, hw2⟩ : ∃ W, W = w1.alloc (.cells (madeCells #[.nilFunc] n) 1) := ⟨_, rfl⟩
  have HW2 := hid hw2.symm
  have HS2 : Hid (SlotB w2 S (List.replicate M (-1))) := hid (hw2 ▸ Blk.alloc hS2 _)
  have HB2 : Hid (Below w.heap.size w w2) := hid (hw2 ▸ HB1.out.alloc HB1.out.size _)
  have HT2 : Hid (FunR w2 w1.heap.size n []) := hid (hw2 ▸ (World.rowIs_made w1 .nilFunc n 1).congr fun j _ => by simp)
  have HZ2 : Hid (S < w2.heap.size ∧ w1.heap.size < w2.heap.size ∧ S ≠ w1.heap.size ∧ w.heap.size ≤ w1.heap.size) := hid (by
    have h1 := hS2.lt
    have h2 : w2.heap.size = w1.heap.size + 1 := by rw [hw2]; exact World.size_alloc _ _
    have h3 := HB1.out.size
    omega)
  have HF2 : Hid (Fam w2 (fun _ => w2.heap.size) S w1.heap.size M bs [] (fun _ => 0)) := hid (Fam.start w2 S w1.heap.size M bs HZ2.out.1 HZ2.out.2.1)
  clear hS1 hS2 hb1 hw2 HRep HB0 HG0
  go_wp2
  rw [HW2.out]
  clear hmk
  generalize w1.heap.size = T at *
  go_loopg [20] n (fun g s20 wr => ∃ (i : Nat) (fs : List Value) (lo : Nat → Nat), s20 = .int .i64 (i : Int) ∧ i ≤ n ∧ n - i ≤ g ∧ Hid (i = fs.length) ∧ Hid (Fam wr lo S T M bs fs (fun _ => 0)) ∧ Hid (FunR wr T n fs) ∧ Hid (SlotB wr S (List.replicate M (-1))) ∧ Hid (Below w.heap.size w wr))
  case atStart => exact ⟨0, [], _, rfl, by omega, by omega, hid rfl, HF2, HT2, HS2, HB2⟩
  case round =>
    obtain ⟨i, fs, lo, rfl, hi, hgi, Hi, HF, HT, HS, HB⟩ := hrel
    by_cases hlt : i < n
    · have hpx : i < bs.length := by have := Hn.out; omega
      obtain ⟨g0, o0, rfl, hg0, hr0⟩ := HI.out i hpx
      obtain ⟨x, hx⟩ : ∃ x, x = bs[i] := ⟨_, rfl⟩
      have HX : Hid (wr.rangeAt g0 (o0 + i * 18) (encPL x)) := hid (hx ▸ rangeAt_below HB.out hg0 hr0)
      have HTk1 := hid (HTk.out S x i wr (HE.out.kept HB.out))
      have HXx : Hid (bs[fs.length]! = x) := hid (by rw [← Hi.out, getElem!_pos bs i hpx, hx])
      clear hx hr0
      go_wp2_with ((show wpList _ _ _ (⟨some 28, _, _, _, _, _⟩ :: _) _ _); go_must (refine wpl_loadP (.tmp 27) rfl g0 (o0 + i * 18) rfl x HX.out rfl ?_))
      refine HTk1.out.mono ?_
      rintro e w3 ⟨f0, rfl, hf, hb3⟩
      obtain ⟨fp, fq, fr, ef⟩ : ∃ p q r, f0 = .func (.func 74) #[] #[.pointer (some ⟨p, 0, none⟩), .pointer (some ⟨q, 0, none⟩), .pointer (some ⟨r, 0, none⟩)] := by
        obtain ⟨p, q, r, c, b, e, _⟩ := hf
        exact ⟨p, q, r, e⟩
      subst ef
      have hzT : T < wr.heap.size := HT.out.lt
      have hzS : S < wr.heap.size := HS.out.lt
      have HF3 : Hid (Fam w3 (fun j => if j ≤ fs.length then lo j else w3.heap.size) S T M bs (fs ++ [(Value.func (Fn.func 74) #[] #[.pointer (some ⟨fp, 0, none⟩), .pointer (some ⟨fq, 0, none⟩), .pointer (some ⟨fr, 0, none⟩)])]) (fun _ => 0)) := hid (HF.out.add hb3 (by rw [HXx.out, ← Hi.out]; exact hf))
      have HT3 : Hid (FunR w3 T n fs) := hid (HT.out.kept (hb3.block _ hzT))
      have HS3 : Hid (SlotB w3 S (List.replicate M (-1))) := hid (Blk.kept HS.out hb3)
      have HB3 : Hid (Below w.heap.size w w3) := hid (HB.out.trans (hb3.mono HB.out.size))
      have hc3 : w3.frozen? ⟨T, i, none⟩ = false := HT3.out.frozen i
      have hd3 : w3.cell? ⟨T, i, none⟩ = some .nilFunc := by
        have := HT3.out.cell hlt
        rw [this, List.getD_eq_getElem?_getD, List.getElem?_eq_none (by rw [← Hi.out]; exact Nat.le_refl _)]
        rfl
      have hst : (store ⟨T, i, none⟩ (Value.func (Fn.func 74) #[] #[.pointer (some ⟨fp, 0, none⟩), .pointer (some ⟨fq, 0, none⟩), .pointer (some ⟨fr, 0, none⟩)])).run Tryz.prog w3 = .ok () (w3.setCell ⟨T, i, none⟩ (Value.func (Fn.func 74) #[] #[.pointer (some ⟨fp, 0, none⟩), .pointer (some ⟨fq, 0, none⟩), .pointer (some ⟨fr, 0, none⟩)])) := by
        rw [run_store _ _ _ _ _ rfl]
        simp [hc3, hd3]
      have HF4 : Hid (Fam (w3.setCell ⟨T, i, none⟩ (Value.func (Fn.func 74) #[] #[.pointer (some ⟨fp, 0, none⟩), .pointer (some ⟨fq, 0, none⟩), .pointer (some ⟨fr, 0, none⟩)])) (fun j => if j ≤ fs.length then lo j else w3.heap.size) S T M bs (fs ++ [(Value.func (Fn.func 74) #[] #[.pointer (some ⟨fp, 0, none⟩), .pointer (some ⟨fq, 0, none⟩), .pointer (some ⟨fr, 0, none⟩)])]) (fun _ => 0)) := hid (HF3.out.setCell i (Value.func (Fn.func 74) #[] #[.pointer (some ⟨fp, 0, none⟩), .pointer (some ⟨fq, 0, none⟩), .pointer (some ⟨fr, 0, none⟩)]))
      have HT4 : Hid (FunR (w3.setCell ⟨T, i, none⟩ (Value.func (Fn.func 74) #[] #[.pointer (some ⟨fp, 0, none⟩), .pointer (some ⟨fq, 0, none⟩), .pointer (some ⟨fr, 0, none⟩)])) T n (fs ++ [(Value.func (Fn.func 74) #[] #[.pointer (some ⟨fp, 0, none⟩), .pointer (some ⟨fq, 0, none⟩), .pointer (some ⟨fr, 0, none⟩)])])) := hid (by have := HT3.out.push (Value.func (Fn.func 74) #[] #[.pointer (some ⟨fp, 0, none⟩), .pointer (some ⟨fq, 0, none⟩), .pointer (some ⟨fr, 0, none⟩)]); rwa [← Hi.out] at this)
      have HS4 : Hid (SlotB (w3.setCell ⟨T, i, none⟩ (Value.func (Fn.func 74) #[] #[.pointer (some ⟨fp, 0, none⟩), .pointer (some ⟨fq, 0, none⟩), .pointer (some ⟨fr, 0, none⟩)])) S (List.replicate M (-1))) := hid (Blk.setOther HS3.out HZ2.out.2.2.1 _ _)
      have HB4 : Hid (Below w.heap.size w (w3.setCell ⟨T, i, none⟩ (Value.func (Fn.func 74) #[] #[.pointer (some ⟨fp, 0, none⟩), .pointer (some ⟨fq, 0, none⟩), .pointer (some ⟨fr, 0, none⟩)]))) := hid (HB3.out.setCell (p := ⟨T, i, none⟩) HZ2.out.2.2.2 (Value.func (Fn.func 74) #[] #[.pointer (some ⟨fp, 0, none⟩), .pointer (some ⟨fq, 0, none⟩), .pointer (some ⟨fr, 0, none⟩)]))
      have HL4 : Hid (i + 1 = (fs ++ [(Value.func (Fn.func 74) #[] #[.pointer (some ⟨fp, 0, none⟩), .pointer (some ⟨fq, 0, none⟩), .pointer (some ⟨fr, 0, none⟩)])]).length) := hid (by rw [List.length_append, List.length_cons, List.length_nil, Hi.out])
      clear hf hb3 hzT hzS HF HT HS HB HF3 HT3 HS3 HB3
      go_wp2
      go_roundg (n - (i + 1))
      case measure => omega
      case rel => exact ⟨i + 1, fs ++ [(Value.func (Fn.func 74) #[] #[.pointer (some ⟨fp, 0, none⟩), .pointer (some ⟨fq, 0, none⟩), .pointer (some ⟨fr, 0, none⟩)])], _, by go_num, by omega, Nat.le_refl _, HL4, HF4, HT4, HS4, HB4⟩
    · obtain rfl : i = n := by omega
      have HStep : Hid (∀ t, t < M → ∃ J, J < M ∧ (fillT (ordL M bs) i M t).getD (ordL M bs (t % i) J) 0 = -1 ∧ (∀ j, j < J → (fillT (ordL M bs) i M t).getD (ordL M bs (t % i) j) 0 ≠ -1) ∧ fillT (ordL M bs) i M (t + 1) = (fillT (ordL M bs) i M t).set (ordL M bs (t % i) J) ((t % i : Nat) : Int)) := hid (fun t ht => fillT_step h0 HOn.out ht)
      have HLen : Hid (∀ t, (fillT (ordL M bs) i M t).length = M) := hid (fillT_length (ordL M bs) i M)
      have HTake : Hid (∀ (p q r c b : Nat) (x : PS) (who d J : Nat) (L : List Int), L.length = M → ∀ W, (p ≠ c ∧ q ≠ c ∧ r ≠ c) → S ≠ c → S ≠ b → Blk W p 103 #[.pointer (some ⟨c, 0, none⟩)] → Blk W q 25 #[.slice (some ⟨S, 0, none⟩) M M] → Blk W r 3 #[.int .i64 who] →
          CurYes W c b M (oOf M x) (kOf M x) d → SlotB W S L → d ≤ J → J ≤ 100000 → L.getD (ordP M x J) 0 = -1 → (∀ i, d ≤ i → i < J → L.getD (ordP M x i) 0 ≠ -1) →
          Calls Tryz.prog 74 #[.pointer (some ⟨p, 0, none⟩), .pointer (some ⟨q, 0, none⟩), .pointer (some ⟨r, 0, none⟩)] W fun e w' =>
            e = .returned (.tuple #[]) ∧ CurYes w' c b M (oOf M x) (kOf M x) (J + 1 : Nat) ∧ SlotB w' S (L.set (ordP M x J) who) ∧ Two W w' c S) := hid (fun p q r c b x who d J L hl W => take_any M HM.out S p q r c b x who d J L hl W)
      have HZero : Hid (SlotB wr S (fillT (ordL M bs) i M 0)) := hid HS.out
      have HD0 : Hid (∀ k, k < i → ∀ j, j < (fun _ : Nat => 0) k → (fillT (ordL M bs) i M 0).getD (ordL M bs k j) 0 ≠ -1) := hid (fun k _ j hj => by simp at hj)
      clear HI HTk HS HE HB1 HOn HS2 HB2 HT2 HF2
      go_wp2
      go_loopg [42] M (fun g s42 wr => ∃ (t : Nat) (ds : Nat → Nat), s42 = .int .i64 (t : Int) ∧ t ≤ M ∧ M - t ≤ g ∧ Hid (Fam wr lo S T M bs fs ds) ∧ Hid (FunR wr T i fs) ∧ Hid (SlotB wr S (fillT (ordL M bs) i M t)) ∧ Hid (∀ k, k < i → ∀ j, j < ds k → (fillT (ordL M bs) i M t).getD (ordL M bs k j) 0 ≠ -1) ∧ Hid (Below w.heap.size w wr))
      case atStart => exact ⟨0, fun _ => 0, rfl, by omega, by omega, HF, HT, HZero, HD0, HB⟩
      case round =>
        obtain ⟨t, ds, rfl, ht, hgt, HFt, HTt, HSt, HDt, HBt⟩ := hrel
        by_cases hlt2 : t < M
        · obtain ⟨k, hk⟩ : ∃ k, k = t % i := ⟨_, rfl⟩
          have hki : k < i := by rw [hk]; exact Nat.mod_lt _ h0
          have hkf : k < fs.length := by rw [← Hi.out]; exact hki
          obtain ⟨p, q, r, c, b, ef, hl, hh, hn, kp, kq, kr, kc⟩ := HFt.out.each k hkf
          obtain ⟨J, hJ, hfree, hbef, hset⟩ := HStep.out t hlt2
          rw [← hk] at hfree hbef hset
          have hdJ : ds k ≤ J := by
            rcases Nat.lt_or_ge J (ds k) with h | h
            · exact absurd hfree (HDt.out k hki J h)
            · exact h
          have hbase := HFt.out.base
          have hm0 := HFt.out.mono 0 k (Nat.zero_le _) (Nat.le_of_lt hkf)
          have HCall := hid (HTake.out p q r c b bs[k]! k (ds k) J _ (HLen.out t) wr hn (by omega) (by omega) kp kq kr kc HSt.out hdJ (by omega) hfree (fun i _ hi => hbef i hi))
          have HNext : Hid (∀ w', CurYes w' c b M (oOf M bs[k]!) (kOf M bs[k]!) (J + 1 : Nat) → SlotB w' S ((fillT (ordL M bs) i M t).set (ordP M bs[k]! J) k) → Two wr w' c S →
              ∃ ds', Hid (Fam w' lo S T M bs fs ds') ∧ Hid (FunR w' T i fs) ∧ Hid (SlotB w' S (fillT (ordL M bs) i M (t + 1))) ∧ Hid (∀ k, k < i → ∀ j, j < ds' k → (fillT (ordL M bs) i M (t + 1)).getD (ordL M bs k j) 0 ≠ -1) ∧ Hid (Below w.heap.size w w')) := hid (fun w' hC hS hT => by
            refine ⟨fun z => if z = k then J + 1 else ds z, hid (HFt.out.take hkf ef hl hh hn kp kq kr J hC hT), hid (HTt.out.kept (hT.block T HTt.out.lt (by omega) (Ne.symm HZ2.out.2.2.1))), hid (by rw [hset]; exact hS), hid (fun z hz j hj => ?_), hid ?_⟩
            · replace hj : j < if z = k then J + 1 else ds z := hj
              rw [hset]
              by_cases e : z = k
              · subst e
                rw [if_pos rfl] at hj
                by_cases ej : j = J
                · subst ej
                  exact set_self (by rw [HLen.out]; exact ordP_lt M HM.out _ _) _
                · exact set_taken (hbef j (by omega)) _ _
              · rw [if_neg e] at hj
                exact set_taken (HDt.out z hz j hj) _ _
            · have hb := HBt.out
              refine ⟨hT.os.trans hb.os, hT.tape.trans hb.tape, hT.output.trans hb.output, Nat.le_trans hb.size hT.size, fun g hg => (hT.block g (Nat.lt_of_lt_of_le hg hb.size) ?_ ?_).trans (hb.block g hg)⟩
              · have := HZ2.out.2.2.2
                omega
              · have := HS1.out
                omega)
          have cT : wr.cell? ⟨T, k, none⟩ = some (.func (.func 74) #[] #[.pointer (some ⟨p, 0, none⟩), .pointer (some ⟨q, 0, none⟩), .pointer (some ⟨r, 0, none⟩)]) := by
            have := HTt.out.cell hki
            rw [this, ← ef, List.getD_eq_getElem?_getD, List.getElem?_eq_getElem hkf]
            rfl
          have m1 : (t : Int).tmod (i : Int) = (k : Int) := by rw [hk]; rfl
          have m2 : (t : Int) % (i : Int) = (k : Int) := by rw [hk]; rfl
          have m3 : ¬ (i : Int) = 0 := by omega
          have m4 : ¬ i = 0 := by omega
          clear hk hkf ef hl hh hn kp kq kr kc hfree hbef hset hdJ hbase hm0 HFt HTt HSt HDt
          go_wp2_with fail
          refine HCall.out.mono ?_
          rintro e w5 ⟨rfl, hC, hS, hT⟩
          obtain ⟨ds', F1, F2, F3, F4, F5⟩ := HNext.out w5 hC hS hT
          clear hC hS hT HCall HNext cT
          go_wp2
          go_roundg (M - (t + 1))
          case measure => omega
          case rel => exact ⟨t + 1, ds', by go_num, by omega, Nat.le_refl _, F1, F2, F3, F4, F5⟩
        · obtain rfl : t = M := by omega
          go_wp2
          go_ret2
          exact ⟨S, rfl, HS1.out, HSt.out, HBt.out⟩
end Go.Proofs.YtahconkjhneogaaGreatDoor

namespace Go.Proofs.YtahconkjhneogaaGreatDoor
open Go Go.Lib Go.RowKit

/-- What was stays; no draw is taken back. -/
def Grw (w w' : World) : Prop := Below w.heap.size w w' ∧ w.drawn ≤ w'.drawn
theorem Grw.refl (w : World) : Grw w w := ⟨Below.refl _ _, Nat.le_refl _⟩
theorem Grw.then {a b c : World} (h : Grw a b) (k : Grw b c) : Grw a c := ⟨bel2 h.1 k.1, Nat.le_trans h.2 k.2⟩
theorem Grw.alloc (w : World) (o : Obj) : Grw w (w.alloc o) := ⟨(Below.refl _ _).alloc (Nat.le_refl _) _, Nat.le_refl _⟩
theorem Grw.drewN (w : World) (n : Nat) : Grw w (w.drewN n) := ⟨below_drewN w n, Nat.le_add_right _ _⟩
theorem Grw.grown {w w' : World} (h : Grw w w') : ∃ q os, w' = Sort.grow (w.drewN q) os := by
  refine ⟨w'.drawn - w.drawn, w'.heap.extract w.heap.size w'.heap.size, ?_⟩
  have e1 : w.drawn + (w'.drawn - w.drawn) = w'.drawn := by have := h.2; omega
  have e2 : w.heap ++ w'.heap.extract w.heap.size w'.heap.size = w'.heap := by
    apply Array.ext_getElem?
    intro i
    have hz := h.1.size
    by_cases hi : i < w.heap.size
    · rw [Array.getElem?_append_left hi, h.1.block i hi]
    · rw [Array.getElem?_append_right (by omega)]
      by_cases hj : i < w'.heap.size
      · rw [Array.getElem?_eq_getElem (by simp; omega), Array.getElem?_eq_getElem hj, Array.getElem_extract]
        congr 2
        omega
      · rw [Array.getElem?_eq_none (by simp; omega), Array.getElem?_eq_none (by omega)]
  obtain ⟨b1, b2, b3, _, _⟩ := h.1
  show w' = { w with heap := w.heap ++ w'.heap.extract w.heap.size w'.heap.size, drawn := w.drawn + (w'.drawn - w.drawn) }
  rw [e1, e2, ← b1, ← b2, ← b3]
set_option maxRecDepth 100000 in
set_option maxHeartbeats 4000000 in
theorem compare_grw (s t : Bool) (x y : List Nat) (hx : x.length = 16) (hy : y.length = 16) (lx : ∀ n ∈ x, n < 256) (ly : ∀ n ∈ y, n < 256) (w : World) :
    Calls Tryz.prog 68 #[.agg (adr s (ints x)), .agg (adr t (ints y))] w fun e w' => e = .returned (.int .i64 (cmpA s t x y)) ∧ Grw w w' := by
  obtain ⟨W0, hW0⟩ : ∃ W, W = w.alloc (.cells (adr s (ints x)) 39) := ⟨_, rfl⟩
  have hB0 : Blk W0 w.heap.size 39 (adr s (ints x)) := hW0 ▸ Blk.new w _ _
  have hb0 : Grw w W0 := hW0 ▸ Grw.alloc _ _
  have hs0 : W0.heap.size = w.heap.size + 1 := by rw [hW0]; simp
  obtain ⟨W1, hW1⟩ : ∃ W, W = W0.alloc (.cells (adr t (ints y)) 39) := ⟨_, rfl⟩
  have hB1 : Blk W1 (w.heap.size + 1) 39 (adr t (ints y)) := hs0 ▸ hW1 ▸ Blk.new W0 _ _
  have hb1 : Grw W0 W1 := hW1 ▸ Grw.alloc _ _
  have hB0' : Blk W1 w.heap.size 39 (adr s (ints x)) := hB0.kept hb1.1
  have HW : Hid ((w.alloc (.cells (adr s (ints x)) 39)).alloc (.cells (adr t (ints y)) 39) = W1) := Lib.hid (by rw [hW1, hW0])
  have h0 := adr_zero s (ints x)
  have h1 := adr_zero t (ints y)
  have Hb : Hid (Grw w W1) := Lib.hid (hb0.then hb1)
  have HC : Hid (∀ n, Calls Tryz.prog 82 #[.slice (some ⟨w.heap.size, 1, none⟩) 16 16, .slice (some ⟨w.heap.size + 1, 1, none⟩) 16 16] (W1.drewN n) fun e w' => e = .returned (.int .i64 (cmpN x y)) ∧ w' = W1.drewN n) := Lib.hid fun n =>
    bcmp (W1.drewN n) w.heap.size (w.heap.size + 1) x y hx hy lx ly
      (fun j hj => by have := hB0'.cell (1 + j); rw [adr_at _ _ _ (by rw [ints_length, hx]; exact hj), nth_ints] at this; exact this)
      (fun j hj => by have := hB1.cell (1 + j); rw [adr_at _ _ _ (by rw [ints_length, hy]; exact hj), nth_ints] at this; exact this)
  clear hB0 hB0' hB1 hb0 hb1 hs0 hW0 hW1 hx hy lx ly
  cases s <;> cases t
  · go_enter Tryz.func68, Tryz.ntmps68
    go_wp2
    rw [HW.out]
    go_quiet ((go_at_call 82; exact Calls.quiet_of_same (HC.out _)))
    go_wp2
    go_ret
    exact ⟨rfl, Hb.out.then (Grw.drewN _ _)⟩
  · go_enter Tryz.func68, Tryz.ntmps68
    go_wp2
    go_ret
    rw [HW.out]
    exact ⟨rfl, Hb.out⟩
  · go_enter Tryz.func68, Tryz.ntmps68
    go_wp2
    go_ret
    rw [HW.out]
    exact ⟨rfl, Hb.out⟩
  · go_enter Tryz.func68, Tryz.ntmps68
    go_wp2
    rw [HW.out]
    go_quiet ((go_at_call 82; exact Calls.quiet_of_same (HC.out _)))
    go_wp2
    go_ret
    exact ⟨rfl, Hb.out.then (Grw.drewN _ _)⟩
set_option maxHeartbeats 1000000 in
theorem cmpInt_grw (n m : Int) (w : World) : Calls Tryz.prog 69 #[.int .i64 n, .int .i64 m] w fun e w' => e = .returned (.int .i64 (cmpI n m)) ∧ Grw w w' := by
  have HC : Hid (cmpI n m = if n < m then -1 else if m < n then 1 else 0) := Lib.hid rfl
  generalize cmpI n m = R at *
  by_cases h1 : n < m
  · go_enter Tryz.func69, Tryz.ntmps69
    go_wp2_with fail
    refine (nan_any n w).mono ?_
    rintro e w1 ⟨rfl, rfl⟩
    go_wp2_with fail
    refine (nan_any m w).mono ?_
    rintro e w1 ⟨rfl, rfl⟩
    go_wp2
    go_ret
    exact ⟨ret_int (by rw [HC.out, if_pos (by omega)]), Grw.refl _⟩
  · by_cases h2 : m < n
    · go_enter Tryz.func69, Tryz.ntmps69
      go_wp2_with fail
      refine (nan_any n w).mono ?_
      rintro e w1 ⟨rfl, rfl⟩
      go_wp2_with fail
      refine (nan_any m w).mono ?_
      rintro e w1 ⟨rfl, rfl⟩
      go_wp2
      go_ret
      exact ⟨ret_int (by rw [HC.out, if_neg (by omega), if_pos (by omega)]), Grw.refl _⟩
    · go_enter Tryz.func69, Tryz.ntmps69
      go_wp2_with fail
      refine (nan_any n w).mono ?_
      rintro e w1 ⟨rfl, rfl⟩
      go_wp2_with fail
      refine (nan_any m w).mono ?_
      rintro e w1 ⟨rfl, rfl⟩
      go_wp2
      go_ret
      exact ⟨ret_int (by rw [HC.out, if_neg (by omega), if_neg (by omega)]), Grw.refl _⟩
set_option maxHeartbeats 1000000 in
theorem or_grw (c d : Int) (w : World) (g : Nat) (hB : Blk w g 3 #[.int .i64 c, .int .i64 d]) :
    Calls Tryz.prog 67 #[.slice (some ⟨g, 0, none⟩) 2 2] w fun e w' => e = .returned (.int .i64 (if c ≠ 0 then c else d)) ∧ Grw w w' := by
  have h0 : w.cell? ⟨g, 0, none⟩ = some (.int .i64 c) := by rw [hB.cell]; rfl
  have h1 : w.cell? ⟨g, 1, none⟩ = some (.int .i64 d) := by rw [hB.cell]; rfl
  have HC : Hid ((if c ≠ 0 then c else d) = if c = 0 then d else c) := Lib.hid (by by_cases h : c = 0 <;> simp [h])
  generalize (if c ≠ 0 then c else d) = R at *
  clear hB
  by_cases hc : c = 0
  · subst hc
    by_cases hd : d = 0
    · subst hd
      go_enter Tryz.func67, Tryz.ntmps67
      go_wp2
      refine wp_loop_rounds 3 ?_
      rw [rounds_succ]
      go_wp2
      rw [rounds_succ]
      go_wp2
      rw [rounds_succ]
      go_wp2
      go_ret
      exact ⟨ret_int (by rw [HC.out]; simp), Grw.refl _⟩
    · have q : (d != 0) = true := by rw [bne_iff_ne]; exact hd
      go_enter Tryz.func67, Tryz.ntmps67
      go_wp2
      refine wp_loop_rounds 2 ?_
      rw [rounds_succ]
      go_wp2
      rw [rounds_succ]
      go_wp2
      go_ret
      exact ⟨ret_int (by rw [HC.out]; simp), Grw.refl _⟩
  · have q : (c != 0) = true := by rw [bne_iff_ne]; exact hc
    go_enter Tryz.func67, Tryz.ntmps67
    go_wp2
    refine wp_loop_rounds 2 ?_
    rw [rounds_succ]
    go_wp2
    go_ret
    exact ⟨ret_int (by rw [HC.out, if_neg hc]), Grw.refl _⟩
set_option linter.unusedSimpArgs false in
set_option maxRecDepth 100000 in
set_option maxHeartbeats 4000000 in
theorem pcmp_grw (s t : Bool) (X Y : List Nat) (hx : X.length = 16) (hy : Y.length = 16) (lx : ∀ x ∈ X, x < 256) (ly : ∀ x ∈ Y, x < 256) (n m : Int) (w : World) :
    Calls Tryz.prog 46 #[.agg (pnt s (ints X) n), .agg (pnt t (ints Y) m)] w fun e w' => e = .returned (.int .i64 (cmpP s t X Y n m)) ∧ Grw w w' := by
  obtain ⟨W0, hW0⟩ : ∃ W, W = w.alloc (.cells (pnt s (ints X) n) 41) := ⟨_, rfl⟩
  obtain ⟨W1, hW1⟩ : ∃ W, W = W0.alloc (.cells (pnt t (ints Y) m) 41) := ⟨_, rfl⟩
  have hlx : (ints X).length = 16 := by rw [ints_length, hx]
  have hly : (ints Y).length = 16 := by rw [ints_length, hy]
  have hB0 : Blk W0 w.heap.size 41 (pnt s (ints X) n) := hW0 ▸ Blk.new w _ _
  have hb0 : Grw w W0 := hW0 ▸ Grw.alloc _ _
  have hs0 : W0.heap.size = w.heap.size + 1 := by rw [hW0]; simp
  have hb1 : Grw W0 W1 := hW1 ▸ Grw.alloc _ _
  have hB1 : Blk W1 (w.heap.size + 1) 41 (pnt t (ints Y) m) := by rw [← hs0]; exact hW1 ▸ Blk.new W0 _ _
  have HW0 := Lib.hid hW0.symm
  have HW1 := Lib.hid hW1.symm
  have LX := Lib.hid hlx
  have LY := Lib.hid hly
  have hS0 : Blk W1.drew (w.heap.size) 41 (pnt s (ints X) n) ∧ Blk W1.drew (w.heap.size + 1) 41 (pnt t (ints Y) m) ∧ Grw w W1.drew := ⟨(hB0.kept hb1.1).kept (below_drewN W1 1), hB1.kept (below_drewN W1 1), (hb0.then hb1).then (Grw.drewN W1 1)⟩
  obtain ⟨c, hc⟩ : ∃ c, c = cmpA s t X Y := ⟨_, rfl⟩
  obtain ⟨d, hd⟩ : ∃ d, d = cmpI n m := ⟨_, rfl⟩
  obtain ⟨r, hr⟩ : ∃ r, r = if c ≠ 0 then c else d := ⟨_, rfl⟩
  have CA : Hid (∀ w, Calls Tryz.prog 68 #[.agg (adr s (ints X)), .agg (adr t (ints Y))] w fun e w' => e = .returned (.int .i64 c) ∧ Grw w w') := Lib.hid (by rw [hc]; exact compare_grw s t X Y hx hy lx ly)
  have CC : Hid (∀ w, Calls Tryz.prog 69 #[.int .i64 n, .int .i64 m] w fun e w' => e = .returned (.int .i64 d) ∧ Grw w w') := Lib.hid (by rw [hd]; exact cmpInt_grw n m)
  have CO : Hid (∀ w g, Blk w g 3 #[.int .i64 c, .int .i64 d] → Calls Tryz.prog 67 #[.slice (some ⟨g, 0, none⟩) 2 2] w fun e w' => e = .returned (.int .i64 r) ∧ Grw w w') := Lib.hid (by rw [hr]; exact or_grw c d)
  have HR : Hid (r = cmpP s t X Y n m) := Lib.hid (by rw [hr, hc, hd]; rfl)
  clear hW0 hW1 hB0 hb0 hb1 hB1 hs0 hlx hly hx hy lx ly hc hd hr
  go_enter Tryz.func46, Tryz.ntmps46
  go_upto_region 1 with fail
  rw [HW0.out]
  rw [HW1.out]
  refine wp_region_held_drew (S := fun w' => Blk w' (w.heap.size) 41 (pnt s (ints X) n) ∧ Blk w' (w.heap.size + 1) 41 (pnt t (ints Y) m) ∧ Grw w w') (by kernel_rfl) hS0 (fun hS => ?_)
  change wpAnyH _ _ _ _ _ 13 #[false, false, false, false, false, false, false, false, false, false, false, false, false] _ _
  refine wpAnyH_take (i := 0) (v := .pointer (some ⟨w.heap.size, 0, none⟩)) rfl (by kernel_rfl) (by kernel_rfl) (by kernel_rfl) (fun _ _ _ h => h) (.inl ⟨by kernel_rfl, fun w _ => by kernel_rfl⟩) hS ?_
  simp only [List.getElem_toArray, List.getElem_cons_zero, List.getElem_cons_succ, Act.put, List.setIfInBounds_toArray, List.set_cons_zero, List.set_cons_succ]
  refine wpAnyH_take (i := 1) (v := .agg (adr s (ints X))) rfl (by kernel_rfl) (by kernel_rfl) (by kernel_rfl) (fun _ _ _ h => h) (yields_padr (.tmp 5) rfl (w.heap.size) (by kernel_rfl) s (ints X) n (fun w h => h.1) LX.out (by kernel_rfl)) hS ?_
  simp only [List.getElem_toArray, List.getElem_cons_zero, List.getElem_cons_succ, Act.put, List.setIfInBounds_toArray, List.set_cons_zero, List.set_cons_succ]
  refine wpAnyH_take (i := 2) (v := .pointer (some ⟨w.heap.size + 1, 0, none⟩)) rfl (by kernel_rfl) (by kernel_rfl) (by kernel_rfl) (fun _ _ _ h => h) (.inl ⟨by kernel_rfl, fun w _ => by kernel_rfl⟩) hS ?_
  simp only [List.getElem_toArray, List.getElem_cons_zero, List.getElem_cons_succ, Act.put, List.setIfInBounds_toArray, List.set_cons_zero, List.set_cons_succ]
  refine wpAnyH_take (i := 3) (v := .agg (adr t (ints Y))) rfl (by kernel_rfl) (by kernel_rfl) (by kernel_rfl) (fun _ _ _ h => h) (yields_padr (.tmp 7) rfl (w.heap.size + 1) (by kernel_rfl) t (ints Y) m (fun w h => h.2.1) LY.out (by kernel_rfl)) hS ?_
  simp only [List.getElem_toArray, List.getElem_cons_zero, List.getElem_cons_succ, Act.put, List.setIfInBounds_toArray, List.set_cons_zero, List.set_cons_succ]
  refine wpAnyH_take (i := 5) (v := .pointer (some ⟨w.heap.size, 17, none⟩)) rfl (by kernel_rfl) (by kernel_rfl) (by kernel_rfl) (fun _ _ _ h => h) (.inl ⟨by kernel_rfl, fun w _ => by kernel_rfl⟩) hS ?_
  simp only [List.getElem_toArray, List.getElem_cons_zero, List.getElem_cons_succ, Act.put, List.setIfInBounds_toArray, List.set_cons_zero, List.set_cons_succ]
  refine wpAnyH_take (i := 6) (v := .int .i64 n) rfl (by kernel_rfl) (by kernel_rfl) (by kernel_rfl) (fun _ _ _ h => h) (yields_cell (.tmp 10) rfl (w.heap.size) 17 (by kernel_rfl) n (fun w h => pnt_portCell h.1 LX.out) (by kernel_rfl)) hS ?_
  simp only [List.getElem_toArray, List.getElem_cons_zero, List.getElem_cons_succ, Act.put, List.setIfInBounds_toArray, List.set_cons_zero, List.set_cons_succ]
  refine wpAnyH_take (i := 7) (v := .pointer (some ⟨w.heap.size + 1, 17, none⟩)) rfl (by kernel_rfl) (by kernel_rfl) (by kernel_rfl) (fun _ _ _ h => h) (.inl ⟨by kernel_rfl, fun w _ => by kernel_rfl⟩) hS ?_
  simp only [List.getElem_toArray, List.getElem_cons_zero, List.getElem_cons_succ, Act.put, List.setIfInBounds_toArray, List.set_cons_zero, List.set_cons_succ]
  refine wpAnyH_take (i := 8) (v := .int .i64 m) rfl (by kernel_rfl) (by kernel_rfl) (by kernel_rfl) (fun _ _ _ h => h) (yields_cell (.tmp 12) rfl (w.heap.size + 1) 17 (by kernel_rfl) m (fun w h => pnt_portCell h.2.1 LY.out) (by kernel_rfl)) hS ?_
  simp only [List.getElem_toArray, List.getElem_cons_zero, List.getElem_cons_succ, Act.put, List.setIfInBounds_toArray, List.set_cons_zero, List.set_cons_succ]
  refine wpAnyH_ready (rs := [4]) (by kernel_rfl) (by simp) ?_
  refine AllReadyH.cons rfl (fun K' hK => ?_) AllReadyH.nil
  refine step_call 68 #[.agg (adr s (ints X)), .agg (adr t (ints Y))] (by kernel_rfl) (by kernel_rfl) (.int .i64 c) (CA.out _) (fun w1 hb1 => hK.out _ _ (⟨hS.1.kept hb1.1, hS.2.1.kept hb1.1, hS.2.2.then hb1⟩) (fun hS => ?_))
  simp only [List.getElem_toArray, List.getElem_cons_zero, List.getElem_cons_succ, Act.put, List.setIfInBounds_toArray, List.set_cons_zero, List.set_cons_succ]
  refine wpAnyH_ready (rs := [9]) (by kernel_rfl) (by simp) ?_
  refine AllReadyH.cons rfl (fun K' hK => ?_) AllReadyH.nil
  refine step_call 69 #[.int .i64 n, .int .i64 m] (by kernel_rfl) (by kernel_rfl) (.int .i64 d) (CC.out _) (fun w2 hb2 => hK.out _ _ (⟨hS.1.kept hb2.1, hS.2.1.kept hb2.1, hS.2.2.then hb2⟩) (fun hS => ?_))
  simp only [List.getElem_toArray, List.getElem_cons_zero, List.getElem_cons_succ, Act.put, List.setIfInBounds_toArray, List.set_cons_zero, List.set_cons_succ]
  refine wpAnyH_ready (rs := [10]) (by kernel_rfl) (by simp) ?_
  refine AllReadyH.cons rfl (fun K' hK => ?_) AllReadyH.nil
  obtain ⟨W3, hW3⟩ : ∃ W, W = w2.alloc (.cells #[.int .i64 c, .int .i64 d] 3) := ⟨_, rfl⟩
  have hb3 : Grw w2 W3 := hW3 ▸ Grw.alloc _ _
  have hB3 : Blk W3 w2.heap.size 3 #[.int .i64 c, .int .i64 d] := hW3 ▸ Blk.new w2 _ _
  refine step_run (.slice (some ⟨w2.heap.size, 0, none⟩) 2 2) W3 (by rw [hW3]; kernel_rfl) (by kernel_rfl) (hK.out _ _ (⟨hS.1.kept hb3.1, hS.2.1.kept hb3.1, hS.2.2.then hb3⟩) (fun hS => ?_))
  simp only [List.getElem_toArray, List.getElem_cons_zero, List.getElem_cons_succ, Act.put, List.setIfInBounds_toArray, List.set_cons_zero, List.set_cons_succ]
  refine wpAnyH_ready (rs := [11]) (by kernel_rfl) (by simp) ?_
  refine AllReadyH.cons rfl (fun K' hK => ?_) AllReadyH.nil
  refine step_call 67 #[.slice (some ⟨w2.heap.size, 0, none⟩) 2 2] (by kernel_rfl) (by kernel_rfl) (.int .i64 r) (CO.out _ _ hB3) (fun w4 hb4 => hK.out _ _ (⟨hS.1.kept hb4.1, hS.2.1.kept hb4.1, hS.2.2.then hb4⟩) (fun hS => ?_))
  simp only [List.getElem_toArray, List.getElem_cons_zero, List.getElem_cons_succ, Act.put, List.setIfInBounds_toArray, List.set_cons_zero, List.set_cons_succ]
  refine wpAnyH_take (i := 12) (v := .int .i64 r) rfl (by kernel_rfl) (by kernel_rfl) (by kernel_rfl) (fun _ _ _ h => h) (.inl ⟨by kernel_rfl, fun w _ => by kernel_rfl⟩) hS ?_
  simp only [List.getElem_toArray, List.getElem_cons_zero, List.getElem_cons_succ, Act.put, List.setIfInBounds_toArray, List.set_cons_zero, List.set_cons_succ]
  refine wpAnyH_done (by kernel_rfl) ?_ _
  obtain ⟨_, _, hbE⟩ := hS
  go_wp2
  go_ret
  exact ⟨ret_int HR.out, hbE⟩
end Go.Proofs.YtahconkjhneogaaGreatDoor

namespace Go.Proofs
open Go.Shelf Go.RowKit Go.Lib Go.Sort
shelf_lay_g SlLaysF0.n6 Slsf 6 at Tryz 65 as Tryz.sortP
end Go.Proofs
namespace Go.Proofs.YtahconkjhneogaaGreatDoor
open Go.Shelf Go.RowKit Go.Lib Go.Sort

theorem cmp_lays (blk off size : Nat) (w : World) : CmpLays Tryz.prog 46 #[] encPL 18 cmpQ blk off size w := fun _ _ _ _ x y => by
  have h := fun W => pcmp_grw x.1.1 y.1.1 x.1.2.1 y.1.2.1 x.2.1 y.2.1 x.2.2 y.2.2 x.1.2.2 y.1.2.2 W
  simp only [encPL, encP, Array.toArray_toList]
  refine (h _).mono ?_
  rintro e w' ⟨he, hg⟩
  exact ⟨he, hg.grown⟩

theorem sort_own (base : Nat) (v : Value) (xs : List PS) (hm : xs.length ≤ 100000) (w : World) (ho : w.ownsRow base 41 18 v xs.length (flatY encP xs)) :
    Calls Tryz.prog 65 #[v, .func (.func 46) #[] #[]] w fun e w' =>
      e = .returned (.tuple #[]) ∧ w'.ownsRow base 41 18 v xs.length (flatY encP (psort xs)) ∧ Below base w w' := by
  have eg : ∀ args w, (callFunc 46 args).run Tryz.prog w = .ok (.enter 46 args) w := enters_of Tryz.func46 (by kernel_rfl) rfl
  obtain ⟨hl, h⟩ := ho
  have hl' : (flatY encP (psort xs)).length = xs.length * 18 := (flat_length 18 encP_size _).trans (by rw [psort_length])
  rcases h with ⟨rfl, h0⟩ | ⟨g, cap, cur, rfl, hg, hblk, hn, hcap, hcs, htk⟩
  · have hx : xs = [] := List.length_eq_zero_iff.1 h0
    subst hx
    refine (AnyF.slices_SortFunc_none Tryz.sortP none 0 _ w).mono ?_
    rintro e w' ⟨rfl, rfl⟩
    exact ⟨rfl, ⟨hl', .inl ⟨rfl, rfl⟩⟩, Below.refl _ _⟩
  · have hz : g < w.heap.size := by
      rcases Nat.lt_or_ge g w.heap.size with h | h
      · exact h
      · rw [Array.getElem?_eq_none h] at hblk; exact absurd hblk (by simp)
    have hH := holds_own 18 encPL_length encP_list w g _ cur xs hblk htk
    have hcon := AnyQ.slices_SortFunc Tryz.sortP 18 Tryz.isAgg41 Tryz.sizeOf41 encPL encPL_length encPL_one cmpQ cmpQ_swo 46 #[] g 0 cap xs.toArray w eg (cmp_lays g 0 _ w) hH hz (by simp only [List.size_toArray]; omega)
    rw [List.size_toArray] at hcon
    refine hcon.mono ?_
    rintro e w' ⟨rfl, d', n, os, hp, hs, rfl⟩
    have hd : d' = (psort xs).toArray := Array.toList_inj.1 (sorted_unique_holds cmpQ_swo cmpQ_total xs.toArray d' hp hs)
    subst hd
    obtain ⟨⟨cur', k1, k2, k3, _⟩, k4⟩ := own_sorted 18 encPL_length encP_list w g _ cur (psort xs) n os hblk (by rw [psort_length]; have := Nat.mul_le_mul_right 18 hn; omega)
    rw [psort_length] at k3
    exact ⟨rfl, ⟨hl', .inr ⟨g, cap, cur', rfl, hg, k1, hn, hcap, k2.trans hcs, k3⟩⟩, k4 base hg⟩

set_option maxRecDepth 100000 in
set_option maxHeartbeats 1000000 in
theorem sorted_any (Bs cap : Nat) (ad : Option Addr) (xs : List PS) (hcap : xs.length ≤ cap) (hm : xs.length ≤ 100000) (w : World) (hBs : Bs < w.heap.size)
    (hc : w.cell? ⟨Bs, 0, none⟩ = some (.slice ad xs.length cap)) (hI : Elems encP 18 w.heap.size w ad xs) :
    Calls Tryz.prog 44 #[.func (.func 66) #[] #[.pointer (some ⟨Bs, 0, none⟩)], .func (.func 46) #[] #[]] w (CollEnd (psort xs) encP w) := by
  have H := hid (collect_any encP_size encP_one Bs cap ad xs hcap hm w hBs hc hI)
  have HS := hid (sort_own w.heap.size)
  have HL := hid (psort_length xs)
  have Hm := hid hm
  clear hc hI hm
  go_enter Tryz.func44, Tryz.ntmps44
  go_wp2_with fail
  refine H.out.mono ?_
  rintro e w1 ⟨v, rfl, ho, hb⟩
  have Ho := hid ho
  have Hb := hid hb
  clear ho hb H
  go_wp2_with fail
  refine (HS.out v xs Hm.out w1 Ho.out).mono ?_
  rintro e w2 ⟨rfl, ho2, hb2⟩
  have F : Hid (CollEnd (psort xs) encP w (.returned v) w2) := hid ⟨v, rfl, by rw [HL.out]; exact ho2, Hb.out.trans hb2⟩
  clear ho2 hb2 HS Ho Hb
  go_wp2
  go_ret
  exact F.out
end Go.Proofs.YtahconkjhneogaaGreatDoor

namespace Go.Proofs.YtahconkjhneogaaGreatDoor
open Go.RowKit Go.Shelf Go.Lib Go.Sort

structure RowAt (base blk cap : Nat) (w wr : World) (dk : Array PS) : Prop where
  shape : ∃ cur, wr.heap[blk]? = some (.cells cur 41 (0, 0)) ∧ cur.size = cap * 18
  elems : ∀ j, j < dk.size → wr.rangeAt blk (j * 18) (encPL dk[j]!)
  bel : Below base w wr

theorem setCells_shape (b : Nat) : ∀ (vs : List Value) (o : Nat) (w : World) (cur : Array Value) (e : TypeId) (f : Nat × Nat), w.heap[b]? = some (.cells cur e f) → ∃ cur', (w.setCells b o vs).heap[b]? = some (.cells cur' e f) ∧ cur'.size = cur.size
  | [], _, _, cur, _, _, h => ⟨cur, h, rfl⟩
  | v :: r, o, w, cur, e, f, h => by
    have h1 : (w.setCell ⟨b, o, none⟩ v).heap[b]? = some (.cells (cur.setIfInBounds o v) e f) := by
      unfold World.setCell
      show (w.heap.modify b _)[b]? = _
      rw [Array.getElem?_modify, if_pos rfl, h]
      rfl
    obtain ⟨cur', k1, k2⟩ := setCells_shape b r (o + 1) _ _ e f h1
    exact ⟨cur', k1, k2.trans (by simp)⟩
theorem setCells_below (base b : Nat) (hb : base ≤ b) : ∀ (vs : List Value) (o : Nat) (w : World), Below base w (w.setCells b o vs)
  | [], _, _ => Below.refl _ _
  | v :: r, o, w => ((Below.refl base w).setCell (p := ⟨b, o, none⟩) hb v).trans (setCells_below base b hb r (o + 1) _)

theorem RowAt.there {base blk cap : Nat} {w wr : World} {dk : Array PS} (h : RowAt base blk cap w wr dk) {o n : Nat} (ho : o + n ≤ cap * 18) : wr.there blk o n := fun j hj => by
  obtain ⟨cur, k1, k2⟩ := h.shape
  constructor
  · unfold World.cell?
    rw [k1]
    have : o + j < cur.size := by omega
    simp [this]
  · unfold World.frozen?
    rw [k1]
    simp
theorem RowAt.drew {base blk cap : Nat} {w wr : World} {dk : Array PS} (h : RowAt base blk cap w wr dk) : RowAt base blk cap w wr.drew dk := ⟨h.shape, h.elems, h.bel.drew⟩

theorem RowAt.set {base blk cap : Nat} {w wr : World} {dk : Array PS} (h : RowAt base blk cap w wr dk) (hb : base ≤ blk) {i : Nat} (hi : i < dk.size) (hc : dk.size ≤ cap) (u : PS) : RowAt base blk cap w (wr.setCells blk (i * 18) (encPL u)) (dk.setIfInBounds i u) where
  shape := by
    obtain ⟨cur, k1, k2⟩ := h.shape
    obtain ⟨cur', k3, k4⟩ := setCells_shape blk (encPL u) (i * 18) wr cur _ _ k1
    exact ⟨cur', k3, k4.trans k2⟩
  elems := fun j hj => by
    have hj' : j < dk.size := by simpa using hj
    by_cases e : j = i
    · subst e
      rw [getElem!_set_same dk j u hi]
      exact World.rangeAt_setCells_same wr blk (j * 18) (encPL u) (h.there (by rw [encPL_length]; omega))
    · rw [getElem!_set_other dk i j u e]
      exact World.rangeAt_setCells_apart (h.elems j hj') blk (i * 18) (encPL u) (by rw [encPL_length, encPL_length]; omega)
  bel := h.bel.trans (setCells_below base blk hb _ _ _)

/-- What lies behind place n is written: the first n stay. -/
theorem RowAt.cut {base blk cap : Nat} {w wr : World} {dk : Array PS} (h : RowAt base blk cap w wr dk) (hb : base ≤ blk) {n : Nat} (hn : n ≤ dk.size) (vs : List Value) : RowAt base blk cap w (wr.setCells blk (n * 18) vs) (dk.extract 0 n) where
  shape := by
    obtain ⟨cur, k1, k2⟩ := h.shape
    obtain ⟨cur', k3, k4⟩ := setCells_shape blk vs (n * 18) wr cur _ _ k1
    exact ⟨cur', k3, k4.trans k2⟩
  elems := fun j hj => by
    have hj' : j < n := by simp at hj; omega
    have e : (dk.extract 0 n)[j]! = dk[j]! := by
      rw [getElem!_pos _ j hj, getElem!_pos dk j (by omega)]
      simp
    rw [e]
    exact World.rangeAt_setCells_apart (h.elems j (by omega)) blk (n * 18) vs (by rw [encPL_length]; omega)
  bel := h.bel.trans (setCells_below base blk hb _ _ _)

/-- Out of a row of one's own. -/
theorem rowAt_of {base blk cap : Nat} {w : World} {cur : Array Value} {xs : List PS} (hblk : w.heap[blk]? = some (.cells cur 41 (0, 0))) (hcs : cur.size = cap * 18) (htk : cur.toList.take (xs.length * 18) = flatY encP xs) : RowAt base blk cap w w xs.toArray where
  shape := ⟨cur, hblk, hcs⟩
  elems := fun j hj i v hv => by
    have hi : i < 18 := by have h := (List.getElem?_eq_some_iff.1 hv).1; rwa [encPL_length] at h
    have := (holds_own 18 encPL_length encP_list w blk _ cur xs hblk htk).cell hj hi
    rw [Nat.zero_add] at this
    rw [this.1]
    congr 1
    obtain ⟨h1, h2⟩ := List.getElem?_eq_some_iff.1 hv
    rw [getElem!_pos _ i h1, h2]
  bel := Below.refl _ _

/-- .. and back. -/
theorem RowAt.own {base blk cap : Nat} {w wr : World} {dk : Array PS} (h : RowAt base blk cap w wr dk) (hb : base ≤ blk) (hc : dk.size ≤ cap) (hm : cap ≤ maxLen) : wr.ownsRow base 41 18 (.slice (some ⟨blk, 0, none⟩) dk.size cap) dk.toList.length (flatY encP dk.toList) := by
  have hl : (flatY encP dk.toList).length = dk.toList.length * 18 := flat_length 18 encP_size _
  refine ⟨hl, .inr ?_⟩
  obtain ⟨cur, k1, k2⟩ := h.shape
  refine ⟨blk, cap, cur, rfl, hb, k1, hc, hm, k2, ?_⟩
  apply List.ext_getElem?
  intro t
  have hl' : (flatY encP dk.toList).length = dk.size * 18 := hl
  by_cases ht : t < dk.size * 18
  · have h1 := flat_get 18 encPL_length encP_list dk.toList t ht
    have h2 : t < (flatY encP dk.toList).length := by omega
    rw [getElem!_pos _ t h2] at h1
    rw [List.getElem?_take_of_lt (show t < dk.toList.length * 18 from ht), List.getElem?_eq_getElem h2, h1]
    have h3 : t / 18 < dk.size := by omega
    have h4 := h.elems (t / 18) h3 (t % 18) ((encPL dk[t / 18]!)[t % 18]!) (by
      have : t % 18 < (encPL dk[t / 18]!).length := by rw [encPL_length]; omega
      rw [getElem!_pos (encPL dk[t / 18]!) (t % 18) this, List.getElem?_eq_getElem this])
    rw [show t / 18 * 18 + t % 18 = t by omega] at h4
    unfold World.cell? at h4
    rw [k1] at h4
    have e : dk.toList[t / 18]! = dk[t / 18]! := by rw [Array.getElem!_toList]
    rw [e, Array.getElem?_toList]
    simpa using h4
  · rw [List.getElem?_eq_none (by rw [List.length_take]; show _ ≤ t; have : dk.toList.length = dk.size := rfl; omega), List.getElem?_eq_none (by omega)]

/-- What Compact keeps, out of its second loop's end. -/
theorem comp_done {d dk : Array PS} {k : Nat} (h : CompInv d d.size k dk) : (dk.extract 0 k).toList = compactUpTo d d.size := by
  apply List.ext_getElem?
  intro j
  have hs := h.size
  have hk := h.lt
  by_cases hj : j < k
  · rw [h.low j hj, Array.getElem?_toList, Array.getElem?_extract, if_pos (by omega), Nat.zero_add, Array.getElem?_eq_getElem (by omega), getElem!_pos dk j (by omega)]
  · rw [List.getElem?_eq_none (by simp; omega), List.getElem?_eq_none (by rw [h.len]; omega)]
end Go.Proofs.YtahconkjhneogaaGreatDoor

namespace Go.Proofs.YtahconkjhneogaaGreatDoor
open Go.RowKit Go.Shelf Go.Lib Go.Sort

theorem wrap_small (k : Nat) (h : k ≤ 100000) : IntKind.i64.wrap (k : Int) = k := by
  rw [IntKind.wrap_i64]
  omega

theorem run_clear_keys (w : World) (b o n c : Nat) (hn : 0 < n) (ht : w.there b o (n * 18)) :
    ∃ vs, ∀ ty, (Builtin.clear_ #[22] ty #[.slice (some ⟨b, o, none⟩) n c]).run Tryz.prog w = .ok (.tuple #[]) (w.setCells b o vs) := by
  refine ⟨(Builtin.zeroCells #[.bool false, .int .u8 0, .int .u8 0, .int .u8 0, .int .u8 0, .int .u8 0, .int .u8 0, .int .u8 0, .int .u8 0, .int .u8 0, .int .u8 0, .int .u8 0, .int .u8 0, .int .u8 0, .int .u8 0, .int .u8 0, .int .u8 0, .int .i64 0] n).toList, fun ty => ?_⟩
  have hz : (Builtin.zeroCells #[.bool false, .int .u8 0, .int .u8 0, .int .u8 0, .int .u8 0, .int .u8 0, .int .u8 0, .int .u8 0, .int .u8 0, .int .u8 0, .int .u8 0, .int .u8 0, .int .u8 0, .int .u8 0, .int .u8 0, .int .u8 0, .int .u8 0, .int .i64 0] n).size = n * 18 := by simp [Builtin.zeroCells]
  have hst := run_storeCells_cells (P := Tryz.prog) b o (Builtin.zeroCells #[.bool false, .int .u8 0, .int .u8 0, .int .u8 0, .int .u8 0, .int .u8 0, .int .u8 0, .int .u8 0, .int .u8 0, .int .u8 0, .int .u8 0, .int .u8 0, .int .u8 0, .int .u8 0, .int .u8 0, .int .u8 0, .int .u8 0, .int .i64 0] n).toList 0 w
    (fun j hj => by simpa using (ht j (by simpa [hz] using hj)).1) (fun j hj => by simpa using (ht j (by simpa [hz] using hj)).2)
    (fun v hv => by
      simp only [Builtin.zeroCells, List.mem_map, Array.toList_map, Array.toList_range] at hv
      obtain ⟨i, _, rfl⟩ := hv
      have key : ∀ k, k < 18 → ((#[.bool false, .int .u8 0, .int .u8 0, .int .u8 0, .int .u8 0, .int .u8 0, .int .u8 0, .int .u8 0, .int .u8 0, .int .u8 0, .int .u8 0, .int .u8 0, .int .u8 0, .int .u8 0, .int .u8 0, .int .u8 0, .int .u8 0, .int .i64 0] : Array Value).getD k default).oneCell' = true := by decide
      have := key (i % 18) (Nat.mod_lt _ (by omega))
      simpa using this)
  simp only [Nat.add_zero] at hst
  obtain ⟨m, rfl⟩ : ∃ m, n = m + 1 := ⟨n - 1, by omega⟩
  have hv := Tryz.zeroValue41 w
  simp [Builtin.clear_, run_underlying Tryz.underlying22, hv, Value.cells, hst]

/-! ### The walk -/
theorem encPL_info (c : PS) : (Tryz.prog.info? 41).map (·.size) = some (encPL c).length := by rw [encPL_length]; exact Tryz.infoPoint
theorem encPL_infoA (c : PS) : (Tryz.prog.info? 41).map (·.size) = some (encPL c).toArray.size := by rw [List.size_toArray]; exact encPL_info c

set_option maxRecDepth 100000 in
set_option maxHeartbeats 4000000 in
theorem compact_blk (base blk cap : Nat) (hb : base ≤ blk) (d : Array PS) (hsz : d.size ≤ 100000) (hcap : d.size ≤ cap) (w : World) (hR : RowAt base blk cap w w d) :
    Calls Tryz.prog 43 #[.slice (some ⟨blk, 0, none⟩) d.size cap] w fun e w' => ∃ dk, dk.toList = compactUpTo d d.size ∧ e = .returned (.slice (some ⟨blk, 0, none⟩) dk.size cap) ∧ RowAt base blk cap w w' dk := by
  have same : (∀ j, j < d.size → keeps d j = true) → d.toList = compactUpTo d d.size := fun hall => by rw [compactUpTo_all d _ hall, range_map_get]
  have HS := hid same
  have HR := hid hR
  have Hb := hid hb
  clear same hR hb
  by_cases h2 : d.size < 2
  · go_enter Tryz.func43, Tryz.ntmps43
    go_wp2
    go_ret
    exact ⟨d, HS.out (fun j hj => keeps_lt_one d j (by omega)), rfl, HR.out⟩
  · go_enter Tryz.func43, Tryz.ntmps43
    go_wp2
    go_loopg [3] d.size (fun g s3 wr => ∃ k m : Nat, k < m ∧ m ≤ k + 1 ∧ k + 1 ≤ d.size ∧ d.size - k ≤ g ∧ s3 = .int .i64 (m : Int) ∧ Hid (RowAt base blk cap w wr d) ∧ Hid (∀ j, j < k + 1 → keeps d j = true))
    case atStart => exact ⟨0, 1, by omega, by omega, by omega, by omega, rfl, HR, hid (fun j hj => keeps_lt_one d j (by omega))⟩
    case round =>
      obtain ⟨k, m, hm, hm', hk, hg, rfl, HW, HA⟩ := hrel
      by_cases hlt : m < d.size
      · obtain ⟨x, hx⟩ : ∃ x, x = d[k + 1]! := ⟨_, rfl⟩
        obtain ⟨y, hy⟩ : ∃ y, y = d[k]! := ⟨_, rfl⟩
        have HX : Hid (wr.drew.rangeAt blk (m * 18) (encPL x)) := hid (by rw [show m = k + 1 by omega]; exact hx ▸ HW.out.elems (k + 1) (by omega))
        have HY : Hid (wr.drew.rangeAt blk (k * 18) (encPL y)) := hid (hy ▸ HW.out.elems k (by omega))
        have HXY : Hid (d[k + 1]! = x ∧ d[k]! = y) := hid ⟨hx.symm, hy.symm⟩
        clear hx hy
        have heq := eql_pt x y
        by_cases hdup : x = y
        · subst hdup
          have heqx := eql_pt x x
          have hxx : decide (x = x) = true := by simp
          rw [hxx] at heqx
          clear heq hxx
          go_wp2_with fail

          refine wp_region_held_drew (S := fun V => V = wr.drew) (by kernel_rfl) rfl (fun hS => ?_)
          change wpAnyH _ _ _ _ _ 10 #[false, false, false, false, false, false, false, false, false, false] _ _
          refine wpAnyH_take (i := 0) (v := .slice (some ⟨blk, 0, none⟩) d.size cap) rfl (by kernel_rfl) (by kernel_rfl) (by kernel_rfl) (fun _ _ _ h => h) (.inl ⟨by kernel_rfl, fun w' _ => by unfold execOp; go_simp⟩) hS ?_
          simp only [List.getElem_toArray, List.getElem_cons_zero, Act.put, List.setIfInBounds_toArray, List.set_cons_zero, List.set_cons_succ]
          refine wpAnyH_take (i := 1) (v := .int .i64 (m : Int)) rfl (by kernel_rfl) (by kernel_rfl) (by kernel_rfl) (fun _ _ _ h => h) (.inl ⟨by kernel_rfl, fun w' _ => by unfold execOp; go_simp⟩) hS ?_
          simp only [List.getElem_toArray, List.getElem_cons_zero, List.getElem_cons_succ, Act.put, List.setIfInBounds_toArray, List.set_cons_zero, List.set_cons_succ]
          refine wpAnyH_take (i := 2) (v := .pointer (some ⟨blk, m * 18, none⟩)) rfl (by kernel_rfl) (by kernel_rfl) (by kernel_rfl) (fun _ _ _ h => h) (.inl ⟨by kernel_rfl, fun w' _ => by unfold execOp; go_simp; try (intro h; omega)⟩) hS ?_
          simp only [List.getElem_toArray, List.getElem_cons_zero, List.getElem_cons_succ, Act.put, List.setIfInBounds_toArray, List.set_cons_zero, List.set_cons_succ]
          refine wpAnyH_take (i := 3) (v := .agg (encP x)) rfl (by kernel_rfl) (by kernel_rfl) (by kernel_rfl) (fun _ _ _ h => h) (yieldsIf_load_mid (by kernel_rfl) 41 (.tmp 18) rfl blk (m * 18) rfl (encPL x) _ (fun w' hw' => hw' ▸ HX.out) Tryz.underlying41 rfl (encPL_info _)) hS ?_
          simp only [List.getElem_toArray, List.getElem_cons_zero, List.getElem_cons_succ, Act.put, List.setIfInBounds_toArray, List.set_cons_zero, List.set_cons_succ]
          refine wpAnyH_take (i := 4) (v := .slice (some ⟨blk, 0, none⟩) d.size cap) rfl (by kernel_rfl) (by kernel_rfl) (by kernel_rfl) (fun _ _ _ h => h) (.inl ⟨by kernel_rfl, fun w' _ => by unfold execOp; go_simp⟩) hS ?_
          simp only [List.getElem_toArray, List.getElem_cons_zero, List.getElem_cons_succ, Act.put, List.setIfInBounds_toArray, List.set_cons_zero, List.set_cons_succ]
          refine wpAnyH_take (i := 5) (v := .int .i64 (m : Int)) rfl (by kernel_rfl) (by kernel_rfl) (by kernel_rfl) (fun _ _ _ h => h) (.inl ⟨by kernel_rfl, fun w' _ => by unfold execOp; go_simp⟩) hS ?_
          simp only [List.getElem_toArray, List.getElem_cons_zero, List.getElem_cons_succ, Act.put, List.setIfInBounds_toArray, List.set_cons_zero, List.set_cons_succ]
          refine wpAnyH_take (i := 6) (v := .int .i64 (k : Int)) rfl (by kernel_rfl) (by kernel_rfl) (by kernel_rfl) (fun _ _ _ h => h) (.inl ⟨by kernel_rfl, fun w' _ => by unfold execOp; go_simp; rw [show ((m : Int) - 1) = (k : Int) by omega]; exact wrap_small _ (by omega)⟩) hS ?_
          simp only [List.getElem_toArray, List.getElem_cons_zero, List.getElem_cons_succ, Act.put, List.setIfInBounds_toArray, List.set_cons_zero, List.set_cons_succ]
          refine wpAnyH_take (i := 7) (v := .pointer (some ⟨blk, k * 18, none⟩)) rfl (by kernel_rfl) (by kernel_rfl) (by kernel_rfl) (fun _ _ _ h => h) (.inl ⟨by kernel_rfl, fun w' _ => by unfold execOp; go_simp; try (intro h; omega)⟩) hS ?_
          simp only [List.getElem_toArray, List.getElem_cons_zero, List.getElem_cons_succ, Act.put, List.setIfInBounds_toArray, List.set_cons_zero, List.set_cons_succ]
          refine wpAnyH_take (i := 8) (v := .agg (encP x)) rfl (by kernel_rfl) (by kernel_rfl) (by kernel_rfl) (fun _ _ _ h => h) (yieldsIf_load_mid (by kernel_rfl) 41 (.tmp 23) rfl blk (k * 18) rfl (encPL x) _ (fun w' hw' => hw' ▸ HY.out) Tryz.underlying41 rfl (encPL_info _)) hS ?_
          simp only [List.getElem_toArray, List.getElem_cons_zero, List.getElem_cons_succ, Act.put, List.setIfInBounds_toArray, List.set_cons_zero, List.set_cons_succ]
          refine wpAnyH_take (i := 9) (v := .bool true) rfl (by kernel_rfl) (by kernel_rfl) (by kernel_rfl) (fun _ _ _ h => h) (.inl ⟨by kernel_rfl, fun w' _ => by unfold execOp; simp [go_sem, heqx]⟩) hS ?_
          simp only [List.getElem_toArray, List.getElem_cons_zero, List.getElem_cons_succ, Act.put, List.setIfInBounds_toArray, List.set_cons_zero, List.set_cons_succ]
          refine wpAnyH_done (by kernel_rfl) ?_ _
          clear hS heqx
          have HW1 := hid HW.out.drew
          clear HX HY HW
          go_wp2
          try simp only [show decide ((m : Int) < (d.size : Int)) = true from decide_eq_true (by omega)]
          go_loopg [3, 5] d.size (fun g s3 s5 wr => ∃ (kk k2 m2 : Nat) (dk : Array PS), k2 < m2 ∧ m2 ≤ k2 + 1 ∧ s3 = .int .i64 (kk : Int) ∧ s5 = .int .i64 (m2 : Int) ∧ k + 1 + (k2 + 1) ≤ d.size ∧ d.size - (k + 1 + k2) ≤ g ∧ kk < k + 1 + (k2 + 1) ∧ Hid (RowAt base blk cap w wr dk) ∧ Hid (CompInv d (k + 1 + (k2 + 1)) kk dk))
          case atStart => exact ⟨m, 0, 1, d, by omega, by omega, rfl, rfl, by omega, by omega, by omega, HW1, hid (by rw [show m = k + 1 by omega]; exact CompInv.start HA.out (keeps_neg (by omega) (by rw [HXY.out.1, show k + 1 - 1 = k from rfl, HXY.out.2])))⟩
          case round =>
            obtain ⟨kk, k2, m2, dk, hm2, hm2', rfl, rfl, h1, hg2, hkk, HR2, HI⟩ := hrel
            have hds := HI.out.size
            have Hds := hid hds
            by_cases hlt2 : k + 1 + (k2 + 1) < d.size
            · obtain ⟨u, hu⟩ : ∃ u, u = dk[k + 1 + (k2 + 1)]! := ⟨_, rfl⟩
              obtain ⟨v, hv⟩ : ∃ v, v = dk[k + 1 + k2]! := ⟨_, rfl⟩
              have HU : Hid (wr.drew.rangeAt blk (m * 18 + m2 * 18) (encPL u)) := hid (by
                have := hu ▸ HR2.out.elems (k + 1 + (k2 + 1)) (by omega)
                rwa [show (k + 1 + (k2 + 1)) * 18 = m * 18 + m2 * 18 by omega] at this)
              have HV : Hid (wr.drew.rangeAt blk (m * 18 + k2 * 18) (encPL v)) := hid (by
                have := hv ▸ HR2.out.elems (k + 1 + k2) (by omega)
                rwa [show (k + 1 + k2) * 18 = m * 18 + k2 * 18 by omega] at this)
              have HUV : Hid (d[k + 1 + (k2 + 1)]! = u ∧ d[k + 1 + k2]! = v) := hid ⟨by rw [hu, HI.out.high _ (by omega)], by rw [hv, HI.out.high _ (by omega)]⟩
              clear hu hv hds
              by_cases huv : u = v
              · subst huv
                have heqx := neq_pt u u
                have hxx : decide (u = u) = true := by simp
                rw [hxx] at heqx
                clear hxx
                go_wp2_with fail

                refine wp_region_held_drew (S := fun V => V = wr.drew) (by kernel_rfl) rfl (fun hS => ?_)
                change wpAnyH _ _ _ _ _ 10 #[false, false, false, false, false, false, false, false, false, false] _ _
                refine wpAnyH_take (i := 0) (v := .slice (some ⟨blk, m * 18, none⟩) (d.size - m) (cap - m)) rfl (by kernel_rfl) (by kernel_rfl) (by kernel_rfl) (fun _ _ _ h => h) (.inl ⟨by kernel_rfl, fun w' _ => by unfold execOp; go_simp⟩) hS ?_
                simp only [List.getElem_toArray, List.getElem_cons_zero, Act.put, List.setIfInBounds_toArray, List.set_cons_zero, List.set_cons_succ]
                refine wpAnyH_take (i := 1) (v := .int .i64 (m2 : Int)) rfl (by kernel_rfl) (by kernel_rfl) (by kernel_rfl) (fun _ _ _ h => h) (.inl ⟨by kernel_rfl, fun w' _ => by unfold execOp; go_simp⟩) hS ?_
                simp only [List.getElem_toArray, List.getElem_cons_zero, List.getElem_cons_succ, Act.put, List.setIfInBounds_toArray, List.set_cons_zero, List.set_cons_succ]
                refine wpAnyH_take (i := 2) (v := .pointer (some ⟨blk, m * 18 + m2 * 18, none⟩)) rfl (by kernel_rfl) (by kernel_rfl) (by kernel_rfl) (fun _ _ _ h => h) (.inl ⟨by kernel_rfl, fun w' _ => by unfold execOp; go_simp; try (intro h; omega)⟩) hS ?_
                simp only [List.getElem_toArray, List.getElem_cons_zero, List.getElem_cons_succ, Act.put, List.setIfInBounds_toArray, List.set_cons_zero, List.set_cons_succ]
                refine wpAnyH_take (i := 3) (v := .agg (encP u)) rfl (by kernel_rfl) (by kernel_rfl) (by kernel_rfl) (fun _ _ _ h => h) (yieldsIf_load_mid (by kernel_rfl) 41 (.tmp 37) rfl blk (m * 18 + m2 * 18) rfl (encPL u) _ (fun w' hw' => hw' ▸ HU.out) Tryz.underlying41 rfl (encPL_info _)) hS ?_
                simp only [List.getElem_toArray, List.getElem_cons_zero, List.getElem_cons_succ, Act.put, List.setIfInBounds_toArray, List.set_cons_zero, List.set_cons_succ]
                refine wpAnyH_take (i := 4) (v := .slice (some ⟨blk, m * 18, none⟩) (d.size - m) (cap - m)) rfl (by kernel_rfl) (by kernel_rfl) (by kernel_rfl) (fun _ _ _ h => h) (.inl ⟨by kernel_rfl, fun w' _ => by unfold execOp; go_simp⟩) hS ?_
                simp only [List.getElem_toArray, List.getElem_cons_zero, List.getElem_cons_succ, Act.put, List.setIfInBounds_toArray, List.set_cons_zero, List.set_cons_succ]
                refine wpAnyH_take (i := 5) (v := .int .i64 (m2 : Int)) rfl (by kernel_rfl) (by kernel_rfl) (by kernel_rfl) (fun _ _ _ h => h) (.inl ⟨by kernel_rfl, fun w' _ => by unfold execOp; go_simp⟩) hS ?_
                simp only [List.getElem_toArray, List.getElem_cons_zero, List.getElem_cons_succ, Act.put, List.setIfInBounds_toArray, List.set_cons_zero, List.set_cons_succ]
                refine wpAnyH_take (i := 6) (v := .int .i64 (k2 : Int)) rfl (by kernel_rfl) (by kernel_rfl) (by kernel_rfl) (fun _ _ _ h => h) (.inl ⟨by kernel_rfl, fun w' _ => by unfold execOp; go_simp; rw [show ((m2 : Int) - 1) = (k2 : Int) by omega]; exact wrap_small _ (by omega)⟩) hS ?_
                simp only [List.getElem_toArray, List.getElem_cons_zero, List.getElem_cons_succ, Act.put, List.setIfInBounds_toArray, List.set_cons_zero, List.set_cons_succ]
                refine wpAnyH_take (i := 7) (v := .pointer (some ⟨blk, m * 18 + k2 * 18, none⟩)) rfl (by kernel_rfl) (by kernel_rfl) (by kernel_rfl) (fun _ _ _ h => h) (.inl ⟨by kernel_rfl, fun w' _ => by unfold execOp; go_simp; try (intro h; omega)⟩) hS ?_
                simp only [List.getElem_toArray, List.getElem_cons_zero, List.getElem_cons_succ, Act.put, List.setIfInBounds_toArray, List.set_cons_zero, List.set_cons_succ]
                refine wpAnyH_take (i := 8) (v := .agg (encP u)) rfl (by kernel_rfl) (by kernel_rfl) (by kernel_rfl) (fun _ _ _ h => h) (yieldsIf_load_mid (by kernel_rfl) 41 (.tmp 42) rfl blk (m * 18 + k2 * 18) rfl (encPL u) _ (fun w' hw' => hw' ▸ HV.out) Tryz.underlying41 rfl (encPL_info _)) hS ?_
                simp only [List.getElem_toArray, List.getElem_cons_zero, List.getElem_cons_succ, Act.put, List.setIfInBounds_toArray, List.set_cons_zero, List.set_cons_succ]
                refine wpAnyH_take (i := 9) (v := .bool false) rfl (by kernel_rfl) (by kernel_rfl) (by kernel_rfl) (fun _ _ _ h => h) (.inl ⟨by kernel_rfl, fun w' _ => by unfold execOp; simp [go_sem, heqx]⟩) hS ?_
                simp only [List.getElem_toArray, List.getElem_cons_zero, List.getElem_cons_succ, Act.put, List.setIfInBounds_toArray, List.set_cons_zero, List.set_cons_succ]
                refine wpAnyH_done (by kernel_rfl) ?_ _
                clear hS heqx
                go_wp2
                go_roundg (d.size - (k + 1 + (k2 + 1)))
                case measure => omega
                case rel => exact ⟨kk, k2 + 1, m2 + 1, dk, by omega, by omega, rfl, by go_num, by omega, by omega, by omega, hid HR2.out.drew, hid (HI.out.skip (keeps_neg (by omega) (by rw [HUV.out.1, show k + 1 + (k2 + 1) - 1 = k + 1 + k2 from rfl, HUV.out.2])))⟩
              · have heqx := neq_pt u v
                have hne : decide (u = v) = false := decide_eq_false huv
                rw [hne] at heqx
                clear hne
                have HT : Hid (wr.drew.there blk (kk * 18) 18) := hid (HR2.out.drew.there (by omega))
                go_wp2_with fail

                refine wp_region_held_drew (S := fun V => V = wr.drew) (by kernel_rfl) rfl (fun hS => ?_)
                change wpAnyH _ _ _ _ _ 10 #[false, false, false, false, false, false, false, false, false, false] _ _
                refine wpAnyH_take (i := 0) (v := .slice (some ⟨blk, m * 18, none⟩) (d.size - m) (cap - m)) rfl (by kernel_rfl) (by kernel_rfl) (by kernel_rfl) (fun _ _ _ h => h) (.inl ⟨by kernel_rfl, fun w' _ => by unfold execOp; go_simp⟩) hS ?_
                simp only [List.getElem_toArray, List.getElem_cons_zero, Act.put, List.setIfInBounds_toArray, List.set_cons_zero, List.set_cons_succ]
                refine wpAnyH_take (i := 1) (v := .int .i64 (m2 : Int)) rfl (by kernel_rfl) (by kernel_rfl) (by kernel_rfl) (fun _ _ _ h => h) (.inl ⟨by kernel_rfl, fun w' _ => by unfold execOp; go_simp⟩) hS ?_
                simp only [List.getElem_toArray, List.getElem_cons_zero, List.getElem_cons_succ, Act.put, List.setIfInBounds_toArray, List.set_cons_zero, List.set_cons_succ]
                refine wpAnyH_take (i := 2) (v := .pointer (some ⟨blk, m * 18 + m2 * 18, none⟩)) rfl (by kernel_rfl) (by kernel_rfl) (by kernel_rfl) (fun _ _ _ h => h) (.inl ⟨by kernel_rfl, fun w' _ => by unfold execOp; go_simp; try (intro h; omega)⟩) hS ?_
                simp only [List.getElem_toArray, List.getElem_cons_zero, List.getElem_cons_succ, Act.put, List.setIfInBounds_toArray, List.set_cons_zero, List.set_cons_succ]
                refine wpAnyH_take (i := 3) (v := .agg (encP u)) rfl (by kernel_rfl) (by kernel_rfl) (by kernel_rfl) (fun _ _ _ h => h) (yieldsIf_load_mid (by kernel_rfl) 41 (.tmp 37) rfl blk (m * 18 + m2 * 18) rfl (encPL u) _ (fun w' hw' => hw' ▸ HU.out) Tryz.underlying41 rfl (encPL_info _)) hS ?_
                simp only [List.getElem_toArray, List.getElem_cons_zero, List.getElem_cons_succ, Act.put, List.setIfInBounds_toArray, List.set_cons_zero, List.set_cons_succ]
                refine wpAnyH_take (i := 4) (v := .slice (some ⟨blk, m * 18, none⟩) (d.size - m) (cap - m)) rfl (by kernel_rfl) (by kernel_rfl) (by kernel_rfl) (fun _ _ _ h => h) (.inl ⟨by kernel_rfl, fun w' _ => by unfold execOp; go_simp⟩) hS ?_
                simp only [List.getElem_toArray, List.getElem_cons_zero, List.getElem_cons_succ, Act.put, List.setIfInBounds_toArray, List.set_cons_zero, List.set_cons_succ]
                refine wpAnyH_take (i := 5) (v := .int .i64 (m2 : Int)) rfl (by kernel_rfl) (by kernel_rfl) (by kernel_rfl) (fun _ _ _ h => h) (.inl ⟨by kernel_rfl, fun w' _ => by unfold execOp; go_simp⟩) hS ?_
                simp only [List.getElem_toArray, List.getElem_cons_zero, List.getElem_cons_succ, Act.put, List.setIfInBounds_toArray, List.set_cons_zero, List.set_cons_succ]
                refine wpAnyH_take (i := 6) (v := .int .i64 (k2 : Int)) rfl (by kernel_rfl) (by kernel_rfl) (by kernel_rfl) (fun _ _ _ h => h) (.inl ⟨by kernel_rfl, fun w' _ => by unfold execOp; go_simp; rw [show ((m2 : Int) - 1) = (k2 : Int) by omega]; exact wrap_small _ (by omega)⟩) hS ?_
                simp only [List.getElem_toArray, List.getElem_cons_zero, List.getElem_cons_succ, Act.put, List.setIfInBounds_toArray, List.set_cons_zero, List.set_cons_succ]
                refine wpAnyH_take (i := 7) (v := .pointer (some ⟨blk, m * 18 + k2 * 18, none⟩)) rfl (by kernel_rfl) (by kernel_rfl) (by kernel_rfl) (fun _ _ _ h => h) (.inl ⟨by kernel_rfl, fun w' _ => by unfold execOp; go_simp; try (intro h; omega)⟩) hS ?_
                simp only [List.getElem_toArray, List.getElem_cons_zero, List.getElem_cons_succ, Act.put, List.setIfInBounds_toArray, List.set_cons_zero, List.set_cons_succ]
                refine wpAnyH_take (i := 8) (v := .agg (encP v)) rfl (by kernel_rfl) (by kernel_rfl) (by kernel_rfl) (fun _ _ _ h => h) (yieldsIf_load_mid (by kernel_rfl) 41 (.tmp 42) rfl blk (m * 18 + k2 * 18) rfl (encPL v) _ (fun w' hw' => hw' ▸ HV.out) Tryz.underlying41 rfl (encPL_info _)) hS ?_
                simp only [List.getElem_toArray, List.getElem_cons_zero, List.getElem_cons_succ, Act.put, List.setIfInBounds_toArray, List.set_cons_zero, List.set_cons_succ]
                refine wpAnyH_take (i := 9) (v := .bool true) rfl (by kernel_rfl) (by kernel_rfl) (by kernel_rfl) (fun _ _ _ h => h) (.inl ⟨by kernel_rfl, fun w' _ => by unfold execOp; simp [go_sem, heqx]⟩) hS ?_
                simp only [List.getElem_toArray, List.getElem_cons_zero, List.getElem_cons_succ, Act.put, List.setIfInBounds_toArray, List.set_cons_zero, List.set_cons_succ]
                refine wpAnyH_done (by kernel_rfl) ?_ _
                clear hS heqx
                go_wp2_with (first
                  | ((show wpList _ _ _ (⟨some 50, _, _, _, _, _⟩ :: _) _ _); go_must (refine wpList_load_mid rfl 41 (.tmp 49) rfl blk (m * 18 + m2 * 18) rfl (encPL u) _ HU.out Tryz.underlying41 rfl (encPL_info _) ?_))
                  | ((show wpList _ _ _ (⟨none, _, _, _, _, _⟩ :: _) _ _); go_must (refine wpList_store_mid rfl 41 (.tmp 51) (.tmp 50) rfl blk (kk * 18) (encPL u).toArray rfl rfl (by rw [List.size_toArray, encPL_length]; exact HT.out) (encPL_infoA _) (all_oneCell_toArray (encPL_one u)) ?_)))
                go_roundg (d.size - (k + 1 + (k2 + 1)))
                case measure => omega
                case rel => exact ⟨kk + 1, k2 + 1, m2 + 1, dk.setIfInBounds kk u, by omega, by omega, by go_num, by go_num, by omega, by omega, by omega, hid (HR2.out.drew.set Hb.out (by have := Hds.out; omega) (by have := Hds.out; omega) u), hid (by
                  have := HI.out.keep hlt2 (keeps_pos (by rw [HUV.out.1, show k + 1 + (k2 + 1) - 1 = k + 1 + k2 from rfl, HUV.out.2]; exact huv))
                  rwa [HUV.out.1] at this)⟩
            · have hke : k + 1 + (k2 + 1) = d.size := by omega
              obtain ⟨vs, hvs⟩ := run_clear_keys wr blk (kk * 18) (d.size - kk) (cap - kk) (by omega) (HR2.out.there (by omega))
              have HE : Hid ((dk.extract 0 kk).toList = compactUpTo d d.size) := hid (comp_done (by have := HI.out; rwa [hke] at this))
              have HZ : Hid ((dk.extract 0 kk).size = kk) := hid (by simp; omega)
              have HF : Hid (RowAt base blk cap w (wr.setCells blk (kk * 18) vs) (dk.extract 0 kk)) := hid (HR2.out.cut Hb.out (by omega) vs)
              clear hke hds
              go_wp2
              go_ret
              exact ⟨dk.extract 0 kk, HE.out, by rw [HZ.out]; rfl, HF.out⟩
        · have hne : decide (x = y) = false := decide_eq_false hdup
          rw [hne] at heq
          go_wp2_with fail
          refine wp_region_held_drew (S := fun V => V = wr.drew) (by kernel_rfl) rfl (fun hS => ?_)
          change wpAnyH _ _ _ _ _ 10 #[false, false, false, false, false, false, false, false, false, false] _ _
          refine wpAnyH_take (i := 0) (v := .slice (some ⟨blk, 0, none⟩) d.size cap) rfl (by kernel_rfl) (by kernel_rfl) (by kernel_rfl) (fun _ _ _ h => h) (.inl ⟨by kernel_rfl, fun w' _ => by unfold execOp; go_simp⟩) hS ?_
          simp only [List.getElem_toArray, List.getElem_cons_zero, Act.put, List.setIfInBounds_toArray, List.set_cons_zero, List.set_cons_succ]
          refine wpAnyH_take (i := 1) (v := .int .i64 (m : Int)) rfl (by kernel_rfl) (by kernel_rfl) (by kernel_rfl) (fun _ _ _ h => h) (.inl ⟨by kernel_rfl, fun w' _ => by unfold execOp; go_simp⟩) hS ?_
          simp only [List.getElem_toArray, List.getElem_cons_zero, List.getElem_cons_succ, Act.put, List.setIfInBounds_toArray, List.set_cons_zero, List.set_cons_succ]
          refine wpAnyH_take (i := 2) (v := .pointer (some ⟨blk, m * 18, none⟩)) rfl (by kernel_rfl) (by kernel_rfl) (by kernel_rfl) (fun _ _ _ h => h) (.inl ⟨by kernel_rfl, fun w' _ => by unfold execOp; go_simp; try (intro h; omega)⟩) hS ?_
          simp only [List.getElem_toArray, List.getElem_cons_zero, List.getElem_cons_succ, Act.put, List.setIfInBounds_toArray, List.set_cons_zero, List.set_cons_succ]
          refine wpAnyH_take (i := 3) (v := .agg (encP x)) rfl (by kernel_rfl) (by kernel_rfl) (by kernel_rfl) (fun _ _ _ h => h) (yieldsIf_load_mid (by kernel_rfl) 41 (.tmp 18) rfl blk (m * 18) rfl (encPL x) _ (fun w' hw' => hw' ▸ HX.out) Tryz.underlying41 rfl (encPL_info _)) hS ?_
          simp only [List.getElem_toArray, List.getElem_cons_zero, List.getElem_cons_succ, Act.put, List.setIfInBounds_toArray, List.set_cons_zero, List.set_cons_succ]
          refine wpAnyH_take (i := 4) (v := .slice (some ⟨blk, 0, none⟩) d.size cap) rfl (by kernel_rfl) (by kernel_rfl) (by kernel_rfl) (fun _ _ _ h => h) (.inl ⟨by kernel_rfl, fun w' _ => by unfold execOp; go_simp⟩) hS ?_
          simp only [List.getElem_toArray, List.getElem_cons_zero, List.getElem_cons_succ, Act.put, List.setIfInBounds_toArray, List.set_cons_zero, List.set_cons_succ]
          refine wpAnyH_take (i := 5) (v := .int .i64 (m : Int)) rfl (by kernel_rfl) (by kernel_rfl) (by kernel_rfl) (fun _ _ _ h => h) (.inl ⟨by kernel_rfl, fun w' _ => by unfold execOp; go_simp⟩) hS ?_
          simp only [List.getElem_toArray, List.getElem_cons_zero, List.getElem_cons_succ, Act.put, List.setIfInBounds_toArray, List.set_cons_zero, List.set_cons_succ]
          refine wpAnyH_take (i := 6) (v := .int .i64 (k : Int)) rfl (by kernel_rfl) (by kernel_rfl) (by kernel_rfl) (fun _ _ _ h => h) (.inl ⟨by kernel_rfl, fun w' _ => by unfold execOp; go_simp; rw [show ((m : Int) - 1) = (k : Int) by omega]; exact wrap_small _ (by omega)⟩) hS ?_
          simp only [List.getElem_toArray, List.getElem_cons_zero, List.getElem_cons_succ, Act.put, List.setIfInBounds_toArray, List.set_cons_zero, List.set_cons_succ]
          refine wpAnyH_take (i := 7) (v := .pointer (some ⟨blk, k * 18, none⟩)) rfl (by kernel_rfl) (by kernel_rfl) (by kernel_rfl) (fun _ _ _ h => h) (.inl ⟨by kernel_rfl, fun w' _ => by unfold execOp; go_simp; try (intro h; omega)⟩) hS ?_
          simp only [List.getElem_toArray, List.getElem_cons_zero, List.getElem_cons_succ, Act.put, List.setIfInBounds_toArray, List.set_cons_zero, List.set_cons_succ]
          refine wpAnyH_take (i := 8) (v := .agg (encP y)) rfl (by kernel_rfl) (by kernel_rfl) (by kernel_rfl) (fun _ _ _ h => h) (yieldsIf_load_mid (by kernel_rfl) 41 (.tmp 23) rfl blk (k * 18) rfl (encPL y) _ (fun w' hw' => hw' ▸ HY.out) Tryz.underlying41 rfl (encPL_info _)) hS ?_
          simp only [List.getElem_toArray, List.getElem_cons_zero, List.getElem_cons_succ, Act.put, List.setIfInBounds_toArray, List.set_cons_zero, List.set_cons_succ]
          refine wpAnyH_take (i := 9) (v := .bool false) rfl (by kernel_rfl) (by kernel_rfl) (by kernel_rfl) (fun _ _ _ h => h) (.inl ⟨by kernel_rfl, fun w' _ => by unfold execOp; simp [go_sem, heq]⟩) hS ?_
          simp only [List.getElem_toArray, List.getElem_cons_zero, List.getElem_cons_succ, Act.put, List.setIfInBounds_toArray, List.set_cons_zero, List.set_cons_succ]
          refine wpAnyH_done (by kernel_rfl) ?_ _
          clear hS
          go_wp2
          go_roundg (d.size - (k + 1))
          case measure => omega
          case rel => exact ⟨k + 1, m + 1, by omega, by omega, by omega, by omega, by go_num, hid HW.out.drew, hid (fun j hj => by
              by_cases e : j = k + 1
              · subst e
                exact keeps_pos (by rw [show k + 1 - 1 = k from rfl, HXY.out.1, HXY.out.2]; exact hdup)
              · exact HA.out j (by omega))⟩
      · have hke : k + 1 = d.size := by omega
        have HK := hid hke
        obtain rfl : m = d.size := by omega
        clear hke
        go_wp2
        go_ret
        exact ⟨d, HS.out (fun j hj => HA.out j (by have := HK.out; omega)), rfl, HW.out⟩
end Go.Proofs.YtahconkjhneogaaGreatDoor

namespace Go.Proofs.YtahconkjhneogaaGreatDoor
open Go.Shelf Go.RowKit Go.Lib Go.Sort

set_option maxHeartbeats 1000000 in
theorem compact_none (w : World) :
    Calls Tryz.prog 43 #[.slice none 0 0] w fun e w' => e = .returned (.slice none 0 0) ∧ w = w' := by
  go_enter Tryz.func43, Tryz.ntmps43
  go_wp2
  go_ret
  exact ⟨rfl, rfl⟩

theorem compact_le (xs : List PS) : (compact xs).length ≤ xs.length := by
  unfold compact compactUpTo
  rw [List.length_map]
  have := List.length_filter_le (keeps xs.toArray) (List.range xs.length)
  rwa [List.length_range] at this

theorem compact_own (base : Nat) (v : Value) (xs : List PS) (hm : xs.length ≤ 100000) (w : World) (ho : w.ownsRow base 41 18 v xs.length (flatY encP xs)) :
    Calls Tryz.prog 43 #[v] w fun e w' =>
      ∃ v', e = .returned v' ∧ w'.ownsRow base 41 18 v' (compact xs).length (flatY encP (compact xs)) ∧ Below base w w' := by
  obtain ⟨hl, ⟨rfl, h0⟩ | ⟨g, cap, cur, rfl, hg, hblk, hn, hcap, hcs, htk⟩⟩ := ho
  · have hx : xs = [] := List.length_eq_zero_iff.1 h0
    subst hx
    refine (compact_none w).mono ?_
    rintro e w' ⟨rfl, rfl⟩
    exact ⟨_, rfl, ⟨rfl, .inl ⟨rfl, rfl⟩⟩, Below.refl _ _⟩
  · have hR : RowAt base g cap w w xs.toArray := rowAt_of hblk hcs htk
    have h := compact_blk base g cap hg xs.toArray (by simpa using hm) (by simpa using hn) w hR
    rw [List.size_toArray] at h
    refine h.mono ?_
    rintro e w' ⟨dk, hdk, rfl, hR'⟩
    have hc : (compact xs).length ≤ xs.length := by
      unfold compact compactUpTo
      rw [List.length_map]
      have := List.length_filter_le (keeps xs.toArray) (List.range xs.length)
      rwa [List.length_range] at this
    have hdk' : dk.toList = compact xs := hdk
    have hz : dk.size = (compact xs).length := by rw [← hdk']; rfl
    have := hR'.own hg (by omega) hcap
    rw [hdk'] at this
    exact ⟨_, rfl, this, hR'.bel⟩

/-- The points, each once, in their order. -/
def psorted (xs : List PS) : List PS := compact (psort xs)

set_option maxRecDepth 100000 in
set_option maxHeartbeats 1000000 in
theorem psort_any (cap : Nat) (ad : Option Addr) (xs : List PS) (hcap : xs.length ≤ cap) (hm : xs.length ≤ 100000) (w : World) (hI : Elems encP 18 w.heap.size w ad xs) :
    Calls Tryz.prog 23 #[.slice ad xs.length cap] w (CollEnd (psorted xs) encP w) := by
  obtain ⟨w1, hw1⟩ : ∃ w1, w1 = w.alloc (.cells #[.slice ad xs.length cap] 22) := ⟨_, rfl⟩
  have hb1 : Below w.heap.size w w1 := hw1 ▸ (Below.refl _ _).alloc (Nat.le_refl _) _
  have hs1 : w1.heap.size = w.heap.size + 1 := by rw [hw1]; exact World.size_alloc _ _
  have hc1 : w1.cell? ⟨w.heap.size, 0, none⟩ = some (.slice ad xs.length cap) := hw1 ▸ (Blk.new w _ _).cell 0
  have HV := hid (values_any ad xs.length cap w)
  have HW := hid hw1.symm
  have HS := hid (sorted_any w.heap.size cap ad xs hcap hm w1 (by omega) hc1 ((hI.below hb1).mono (by omega)))
  have HC := hid (fun v W => compact_own w.heap.size v (psort xs) (by rw [psort_length]; exact hm) W)
  have Hs := hid hs1
  have HB := hid hb1
  clear hI hb1 hc1 hs1 hw1 hcap hm
  go_enter Tryz.func23, Tryz.ntmps23
  go_wp2_with fail
  refine HV.out.mono ?_
  rintro e w2 ⟨rfl, rfl⟩
  rw [HW.out]
  go_wp2_with fail
  refine HS.out.mono ?_
  rintro e w2 ⟨v, rfl, ho, hb⟩
  have Ho := hid (ownsRow_mono ho (by have := Hs.out; omega : w.heap.size ≤ w1.heap.size))
  have HB2 : Hid (Below w.heap.size w w2) := hid (HB.out.trans (hb.mono (by have := Hs.out; omega)))
  clear ho hb HS HB HV HW Hs
  go_wp2_with fail
  refine (HC.out v w2 Ho.out).mono ?_
  rintro e w3 ⟨v', rfl, ho3, hb3⟩
  have F : Hid (CollEnd (psorted xs) encP w (.returned v') w3) := hid ⟨v', rfl, ho3, HB2.out.trans hb3⟩
  clear ho3 hb3 HB2 HC Ho
  go_wp2
  go_ret
  exact F.out
end Go.Proofs.YtahconkjhneogaaGreatDoor
