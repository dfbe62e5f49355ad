/-
  Cidrs as a sort takes them: their cells, their order, which is total. No program.
  slices.SortFunc and slices.SortedFunc of cidrs with cidr.Compare.
  Slices of cidrs cut and appended, nil ones too, as steps of a drawn region.
-/
import Derived.Test.YtijboclcbbnhbaaGreatDoorMa
import Derived.Test.YtijboclcbbnhbaaGreatDoorMb
import Derived.Shelf.Lay
import Derived.Ground.SlsfProg
import Derived.Laws.OwnMore
import Derived.Laws.AppendOwnNone
namespace Go.Proofs.YtijboclcbbnhbaaGreatDoor
open Go.RowKit Go.Shelf Go.Lib Go.Sort

/-- A cidr's 18 cells. -/
def encA (a : CS) : Array Value := cid a.1.1 (ints a.1.2.1) a.1.2.2
def encC (a : CS) : List Value := (encA a).toList
theorem encA_size (x : CS) : (encA x).size = 18 := by
  unfold encA
  rw [cid_size, ints_length, x.2.1]
theorem encC_length (x : CS) : (encC x).length = 18 := encA_size x
theorem encA_list (x : CS) : (encA x).toList = encC x := rfl
theorem encA_one (x : CS) : (encA x).all (·.oneCell') = true := cid_one _ _ _
theorem encC_one (x : CS) : ∀ v ∈ encC x, v.oneCell' = true := fun v hv => by
  have h := encA_one x
  rw [Array.all_eq_true_iff_forall_mem] at h
  exact h v (by simpa [encC] using hv)
theorem encA_back (x : CS) : (encC x).toArray = encA x := by simp [encC]

theorem cmpS_total (x y : CS) (h1 : ltOf cmpS x y = false) (h2 : ltOf cmpS y x = false) : x = y := by
  rw [lt_false] at h1 h2
  have s := cidr_cov.swap x.1 y.1 x.2 y.2
  exact Subtype.ext (cidr_cov.anti x.1 y.1 x.2 y.2 (by omega))

/-- The cidrs in their order. -/
def csort (xs : List CS) : List CS := xs.mergeSort fun x y => !(ltOf cmpS) y x
theorem csort_perm (xs : List CS) : (csort xs).Perm xs := List.mergeSort_perm _ _
theorem csort_length (xs : List CS) : (csort xs).length = xs.length := (csort_perm xs).length_eq
theorem csort_sorted (xs : List CS) : ((csort xs).map (·.1)).Pairwise fun a b => cmpT a b ≤ 0 := by
  have h := List.pairwise_mergeSort (le := fun x y => !(ltOf cmpS) y x) (fun a b c h1 h2 => by
    simp only [Bool.not_eq_true'] at *
    exact cmpS_swo.ntrans c b a h2 h1) (fun a b => by
    cases h1 : ltOf cmpS b a
    · rfl
    · have h2 : ltOf cmpS a b = false := by
        cases h3 : ltOf cmpS a b
        · rfl
        · have := cmpS_swo.trans a b a h3 h1
          rw [cmpS_swo.irrefl a] at this
          cases this
      simp [h2]) xs
  rw [List.pairwise_map]
  refine h.imp fun {a b} h => ?_
  simp only [Bool.not_eq_true'] at h
  rw [lt_false] at h
  have s := cidr_cov.swap a.1 b.1 a.2 b.2
  omega
theorem csort_mem (xs : List CS) (a : CT) : a ∈ (csort xs).map (·.1) ↔ a ∈ xs.map (·.1) := ((csort_perm xs).map _).mem_iff
end Go.Proofs.YtijboclcbbnhbaaGreatDoor

namespace Go.Proofs
open Go.Shelf Go.RowKit Go.Lib Go.Sort
shelf_lay_g SlLaysF0.n6 Slsf 6 at Tryz 33 as Tryz.sortC
end Go.Proofs
namespace Go.Proofs.YtijboclcbbnhbaaGreatDoor
open Go.Shelf Go.RowKit Go.Lib Go.Sort

theorem cmp_lays (blk off size : Nat) (w : World) : CmpLays Tryz.prog 17 #[] encC 18 cmpS blk off size w := fun _ _ _ _ x y => by
  have h := fun W => ccmp_grw x.1.1 y.1.1 x.1.2.1 y.1.2.1 x.2.1 y.2.1 x.2.2 y.2.2 x.1.2.2 y.1.2.2 W
  simp only [encC, encA, Array.toArray_toList]
  refine (h _).mono ?_
  rintro e w' ⟨he, hg⟩
  exact ⟨he, hg.grown⟩

theorem sort_own (base : Nat) (v : Value) (xs : List CS) (hm : xs.length ≤ 100000) (w : World) (ho : w.ownsRow base 29 18 v xs.length (flatY encA xs)) :
    Calls Tryz.prog 33 #[v, .func (.func 17) #[] #[]] w fun e w' =>
      e = .returned (.tuple #[]) ∧ w'.ownsRow base 29 18 v xs.length (flatY encA (csort xs)) ∧ Below base w w' := by
  have eg : ∀ args w, (callFunc 17 args).run Tryz.prog w = .ok (.enter 17 args) w := enters_of Tryz.func17 (by kernel_rfl) rfl
  obtain ⟨hl, h⟩ := ho
  have hl' : (flatY encA (csort xs)).length = xs.length * 18 := (flat_length 18 encA_size _).trans (by rw [csort_length])
  rcases h with ⟨rfl, h0⟩ | ⟨g, cap, cur, rfl, hg, hblk, hn, hcap, hcs, htk⟩
  · have hx : xs = [] := List.length_eq_zero_iff.1 h0
    subst hx
    refine (AnyF.slices_SortFunc_none Tryz.sortC none 0 _ w).mono ?_
    rintro e w' ⟨rfl, rfl⟩
    exact ⟨rfl, ⟨hl', .inl ⟨rfl, rfl⟩⟩, Below.refl _ _⟩
  · have hz : g < w.heap.size := by
      rcases Nat.lt_or_ge g w.heap.size with h | h
      · exact h
      · rw [Array.getElem?_eq_none h] at hblk; exact absurd hblk (by simp)
    have hH := holds_own 18 encC_length encA_list w g _ cur xs hblk htk
    have hcon := AnyQ.slices_SortFunc Tryz.sortC 18 Tryz.isAgg29 Tryz.sizeOf29 encC encC_length encC_one cmpS cmpS_swo 17 #[] g 0 cap xs.toArray w eg (cmp_lays g 0 _ w) hH hz (by simp only [List.size_toArray]; omega)
    rw [List.size_toArray] at hcon
    refine hcon.mono ?_
    rintro e w' ⟨rfl, d', n, os, hp, hs, rfl⟩
    have hd : d' = (csort xs).toArray := Array.toList_inj.1 (sorted_unique_holds cmpS_swo cmpS_total xs.toArray d' hp hs)
    subst hd
    obtain ⟨⟨cur', k1, k2, k3, _⟩, k4⟩ := own_sorted 18 encC_length encA_list w g _ cur (csort xs) n os hblk (by rw [csort_length]; have := Nat.mul_le_mul_right 18 hn; omega)
    rw [csort_length] at k3
    exact ⟨rfl, ⟨hl', .inr ⟨g, cap, cur', rfl, hg, k1, hn, hcap, k2.trans hcs, k3⟩⟩, k4 base hg⟩

set_option maxRecDepth 100000 in
set_option maxHeartbeats 1000000 in
theorem sorted_any (Bs cap : Nat) (ad : Option Addr) (xs : List CS) (hcap : xs.length ≤ cap) (hm : xs.length ≤ 100000) (w : World) (hBs : Bs < w.heap.size)
    (hc : w.cell? ⟨Bs, 0, none⟩ = some (.slice ad xs.length cap)) (hI : Elems encA 18 w.heap.size w ad xs) :
    Calls Tryz.prog 15 #[.func (.func 34) #[] #[.pointer (some ⟨Bs, 0, none⟩)], .func (.func 17) #[] #[]] w (CollEnd (csort xs) encA w) := by
  have H := hid (collect_any encA_size encA_one Bs cap ad xs hcap hm w hBs hc hI)
  have HS := hid (sort_own w.heap.size)
  have HL := hid (csort_length xs)
  have Hm := hid hm
  clear hc hI hm
  go_enter Tryz.func15, Tryz.ntmps15
  go_wp2_with fail
  refine H.out.mono ?_
  rintro e w1 ⟨v, rfl, ho, hb⟩
  have Ho := hid ho
  have Hb := hid hb
  clear ho hb H
  go_wp2_with fail
  refine (HS.out v xs Hm.out w1 Ho.out).mono ?_
  rintro e w2 ⟨rfl, ho2, hb2⟩
  have F : Hid (CollEnd (csort xs) encA w (.returned v) w2) := hid ⟨v, rfl, by rw [HL.out]; exact ho2, Hb.out.trans hb2⟩
  clear ho2 hb2 HS Ho Hb
  go_wp2
  go_ret
  exact F.out
end Go.Proofs.YtijboclcbbnhbaaGreatDoor

namespace Go.Proofs.YtijboclcbbnhbaaGreatDoor
open Go.RowKit Go.Lib

/-- Where a cut slice of cidrs begins. -/
def cutK (ad : Option Addr) (cap l : Nat) : Option Addr := if cap = l then ad else Option.map (fun x => x.add (l * 18)) ad

theorem elems_take {n₀ : Nat} {W : World} {ad : Option Addr} {ks : List CS} (h : Elems encA 18 n₀ W ad ks) (n : Nat) : Elems encA 18 n₀ W ad (ks.take n) := fun j hj => by
  have hj' : j < ks.length := by rw [List.length_take] at hj; omega
  obtain ⟨g, o, e, hg, hc⟩ := h j hj'
  exact ⟨g, o, e, hg, by rw [List.getElem_take]; exact hc⟩
theorem elems_drop {n₀ : Nat} {W : World} {ad : Option Addr} {ks : List CS} {cap : Nat} (h : Elems encA 18 n₀ W ad ks) (hc : ks.length ≤ cap) (hn : ad = none → ks.length = 0 ∧ cap = 0) (n : Nat) (hle : n ≤ ks.length) :
    Elems encA 18 n₀ W (cutK ad cap n) (ks.drop n) ∧ (cutK ad cap n = none → ks.length - n = 0 ∧ cap - n = 0) := by
  cases ad with
  | none =>
    obtain ⟨h1, h2⟩ := hn rfl
    exact ⟨fun j hj => by rw [List.length_drop] at hj; omega, fun _ => by omega⟩
  | some a =>
    unfold cutK
    by_cases e : cap = n
    · rw [if_pos e]
      exact ⟨fun j hj => by rw [List.length_drop] at hj; omega, fun h => by cases h⟩
    · rw [if_neg e]
      refine ⟨fun j hj => ?_, fun h => by cases h⟩
      have hj' : n + j < ks.length := by rw [List.length_drop] at hj; omega
      obtain ⟨g, o, e1, hg, hc1⟩ := h (n + j) hj'
      cases e1
      refine ⟨g, o + n * 18, ?_, hg, ?_⟩
      · simp only [Option.map_some]
        congr 1
        unfold Addr.add
        split <;> simp_all
      · rw [List.getElem_drop, show o + n * 18 + j * 18 = o + (n + j) * 18 by omega]
        exact hc1

theorem elems_one (w : World) (x : CS) (t : TypeId) : Elems encA 18 (w.heap.size + 1) (w.alloc (.cells (encA x) t)) (some ⟨w.heap.size, 0, none⟩) [x] := fun j hj => by
  have : j = 0 := by simp at hj; omega
  subst this
  refine ⟨w.heap.size, 0, rfl, Nat.lt_succ_self _, fun i v hv => ?_⟩
  have hi : i < (encA x).size := (List.getElem?_eq_some_iff.1 hv).1
  have hc := (Blk.new w t (encA x)).cell i
  rw [show 0 + 0 * 18 + i = i by omega, hc]
  rw [Array.getElem?_toList] at hv
  exact hv

section
variable {ops : Array Oper} {o : Oper} {a : Act} {w : World} {K : Act → World → Prop} {Q : Exit → Act → World → Prop} {E : Prop}
theorem exec_cutHK (x hi : Operand) (ho : o.op = .slice 22 x none (some hi) none) (ad : Option Addr) (len cap h : Nat) (hx : a.eval x = .slice ad len cap) (hhi : a.eval hi = .int .i64 h) (h2 : h ≤ cap) :
    (execOp a.eval o).run Tryz.prog w = .ok (.value (.slice ad h cap)) w := by
  unfold execOp
  simp only [ho, Option.map_some, Option.map_none, hx, hhi]
  clear hx hhi ho
  go_simp
theorem exec_cutLK (x lo : Operand) (ho : o.op = .slice 22 x (some lo) none none) (ad : Option Addr) (len cap l : Nat) (hx : a.eval x = .slice ad len cap) (hlo : a.eval lo = .int .i64 l) (h1 : l ≤ len) :
    (execOp a.eval o).run Tryz.prog w = .ok (.value (.slice (cutK ad cap l) (len - l) (cap - l))) w := by
  unfold execOp cutK
  simp only [ho, Option.map_some, Option.map_none, hx, hlo]
  clear hx hlo ho
  go_simp
theorem exec_lit0K (ho : o.op = .buildSlice 22 0 #[]) :
    (execOp a.eval o).run Tryz.prog w = .ok (.value (.slice (some ⟨w.heap.size, 0, none⟩) 0 0)) (w.alloc (.cells #[] 29)) := by
  unfold execOp
  simp only [ho]
  go_simp

/-- append, whatever is appended: a step of a drawn region. -/
theorem r_appK (s x : Operand) (ho : o.op = .call { callee := .builtin .append, args := #[s, x], argTypes := #[22, 22] }) (base : Nat) (v : Value) (n : Nat) (xs : List Value) (hs : a.eval s = v) (hown : w.ownsRow base 29 18 v n xs)
    (ao : Option Addr) (m c : Nat) (ks : List CS) (hx : a.eval x = .slice ao m c) (hl : ks.length = m) (n₀ : Nat) (hb : Elems encA 18 n₀ w ao ks) (hn : ao = none → m = 0 ∧ c = 0)
    (h63 : n + m ≤ 1000000) (hbase : base ≤ w.heap.size) (hw : Region.wanted o (yielded ops a.tmps) = true)
    (h : ∀ v' w', w'.ownsRow base 29 18 v' (n + m) (xs ++ flatY encA ks) → w.grownBy w' v.ownBlock → K (a.put o.dst v') w') : if Region.wanted o (yielded ops a.tmps) = true then Oper.wp Tryz.prog o a w K Q else E := by
  obtain ⟨i0, hi, h2⟩ := Option.map_eq_some_iff.1 Tryz.info3CidrY
  simp only [Prod.mk.injEq] at h2
  obtain ⟨hz1, hz2⟩ := h2
  obtain ⟨z, hz0, hzs⟩ : ∃ z, i0.zero = some z ∧ z.cells.size = 18 := by
    have h5 := Tryz.info5CidrY
    rw [hi] at h5
    simp only [Option.map_some, Option.some.injEq] at h5
    obtain ⟨z, hz, h6⟩ := Option.map_eq_some_iff.1 h5
    exact ⟨z, hz, h6⟩
  rw [if_pos hw]
  cases ao with
  | none =>
    obtain ⟨rfl, rfl⟩ := hn rfl
    obtain rfl : ks = [] := List.length_eq_zero_iff.1 hl
    have hrun := run_append_owned_none (P := Tryz.prog) (w := w) base 22 o.type 29 i0 18 Tryz.underlying22 hi v n xs hown
    unfold Oper.wp execOp
    simp only [ho, resolve, invoke, builtin, Sem.run_bind, Sem.run_pure, Result.andThen_ok, List.map_toArray, List.map_cons, List.map_nil, hs, hx, hrun]
    exact h _ _ (by simpa [flatY] using hown) (World.grownBy.refl _ _)
  | some ad =>
    have hfl : (flatY encA ks).length = m * 18 := by rw [flat_length 18 encA_size, hl]
    refine wp_append_own w s x 22 ho base 29 i0 z 18 32 Tryz.underlying22 hi hz0 hz1 hz2 hzs (by decide) v n xs hs hown ad m c (flatY encA ks) hx hfl ?_ ?_ (by unfold maxLen; omega) (by omega) hbase (fun v' w' h2 h3 _ => h v' w' h2 h3)
    · intro j u hu
      have hj : j < (flatY encA ks).length := (List.getElem?_eq_some_iff.1 hu).1
      have hj2 : j < ks.length * 18 := by omega
      have hq : j / 18 < ks.length := by omega
      have h1 := flat_get 18 encC_length encA_list ks j hj2
      obtain ⟨g, of, e, hg, hc⟩ := hb (j / 18) hq
      cases e
      have h4 := hc (j % 18) u (by
        rw [encA_list]
        have h3 : j % 18 < (encC ks[j / 18]).length := by rw [encC_length]; omega
        rw [List.getElem?_eq_getElem hj] at hu
        rw [getElem!_pos (flatY encA ks) j hj, getElem!_pos ks (j / 18) hq, getElem!_pos (encC ks[j / 18]) (j % 18) h3] at h1
        rw [List.getElem?_eq_getElem h3, ← h1]
        exact hu)
      rw [show of + j / 18 * 18 + j % 18 = of + j by omega] at h4
      rw [show (⟨g, of, none⟩ : Addr).add j = ⟨g, of + j, none⟩ by unfold Addr.add; split <;> simp_all]
      exact h4
    · intro u hu
      simp only [flatY, List.mem_flatMap] at hu
      obtain ⟨y, _, hy⟩ := hu
      exact encC_one y u hy
end

/-- What is owned reads as cidrs. -/
theorem own_elems {w : World} {base : Nat} {v : Value} {k : Nat} {ks : List CS} (h : w.ownsRow base 29 18 v k (flatY encA ks)) : ks.length = k ∧ ∃ ad cap, v = .slice ad k cap ∧ k ≤ cap ∧ cap ≤ maxLen ∧ (ad = none → k = 0 ∧ cap = 0) ∧ Elems encA 18 w.heap.size w ad ks := by
  have hl : ks.length = k := by have := h.1; rw [flat_length 18 encA_size] at this; omega
  refine ⟨hl, ?_⟩
  obtain ⟨_, ⟨h', h0⟩ | ⟨g, cap, cur, h', _, hg, hk, hcap, hcs, ht⟩⟩ := h
  · subst h0
    exact ⟨none, 0, h', Nat.le_refl _, Nat.zero_le _, fun _ => ⟨rfl, rfl⟩, fun j hj => by omega⟩
  · subst h'
    subst hl
    refine ⟨some ⟨g, 0, none⟩, cap, rfl, hk, hcap, fun e => (by cases e), fun j hj => ⟨g, 0, rfl, (Array.getElem?_eq_some_iff.1 hg).1, fun i v hv => ?_⟩⟩
    have hi : i < 18 := by
      have h1 := (List.getElem?_eq_some_iff.1 hv).1
      rw [encA_list, encC_length] at h1
      exact h1
    have := (holds_own 18 encC_length encA_list w g _ cur ks hg ht).cell (by simpa using hj) hi
    rw [this.1]
    congr 1
    obtain ⟨h1, h2⟩ := List.getElem?_eq_some_iff.1 hv
    rw [List.getElem!_toArray, getElem!_pos ks j hj, getElem!_pos _ i h1]
    exact h2

section
variable {ops : Array Oper} {o : Oper} {a : Act} {w : World} {K : Act → World → Prop} {Q : Exit → Act → World → Prop} {E : Prop}
theorem lit0_own (w : World) (base : Nat) (h : base ≤ w.heap.size) : (w.alloc (.cells #[] 29)).ownsRow base 29 18 (.slice (some ⟨w.heap.size, 0, none⟩) 0 0) 0 (flatY encA []) :=
  ⟨rfl, .inr ⟨w.heap.size, 0, #[], rfl, h, Blk.new w _ _, Nat.le_refl _, Nat.zero_le _, rfl, rfl⟩⟩
theorem r_lit0 (ho : o.op = .buildSlice 22 0 #[]) (base : Nat) (hb : base ≤ w.heap.size) (hw : Region.wanted o (yielded ops a.tmps) = true)
    (h : ∀ w', w'.ownsRow base 29 18 (.slice (some ⟨w.heap.size, 0, none⟩) 0 0) 0 (flatY encA []) → w'.heap.size = w.heap.size + 1 → w.grownBy w' none → K (a.put o.dst (.slice (some ⟨w.heap.size, 0, none⟩) 0 0)) w') : if Region.wanted o (yielded ops a.tmps) = true then Oper.wp Tryz.prog o a w K Q else E :=
  r_run _ _ (exec_lit0K ho) hw (h _ (lit0_own w base hb) (World.size_alloc _ _) (World.grownBy_alloc w _ none))
theorem r_lit1 (x : Operand) (ho : o.op = .buildSlice 22 1 #[(0, x)]) (k : CS) (hx : a.eval x = .agg (encA k)) (hw : Region.wanted o (yielded ops a.tmps) = true)
    (h : ∀ w', Elems encA 18 (w.heap.size + 1) w' (some ⟨w.heap.size, 0, none⟩) [k] → w'.heap.size = w.heap.size + 1 → w.grownBy w' none → K (a.put o.dst (.slice (some ⟨w.heap.size, 0, none⟩) 1 1)) w') : if Region.wanted o (yielded ops a.tmps) = true then Oper.wp Tryz.prog o a w K Q else E :=
  r_run _ _ (exec_lit1 x ho (encA k) hx (encA_size k)) hw (h _ (elems_one w k _) (World.size_alloc _ _) (World.grownBy_alloc w _ none))
end
theorem elems_grown {w w' : World} {n₀ g : Nat} {ks : List CS} {row : Option Nat} (h : Elems encA 18 n₀ w (some ⟨g, 0, none⟩) ks) (hn : n₀ ≤ w.heap.size) (hg : w.grownBy w' row) (hr : some g ≠ row) : Elems encA 18 n₀ w' (some ⟨g, 0, none⟩) ks := fun j hj => by
  obtain ⟨g1, o1, e, hg1, hc⟩ := h j hj
  cases e
  refine ⟨g, 0, rfl, hg1, fun i v hv => ?_⟩
  have := hc i v hv
  unfold World.cell? at this ⊢
  rw [show w'.heap[g]? = w.heap[g]? from hg.block g (Nat.lt_of_lt_of_le hg1 hn) hr]
  exact this
theorem ownsRow_below {w w' : World} {b : Nat} {e : TypeId} {k : Nat} {v : Value} {n : Nat} {xs : List Value} (h : w.ownsRow b e k v n xs) (hb : Below w.heap.size w w') : w'.ownsRow b e k v n xs := by
  obtain ⟨h0, h | ⟨g, cap, cur, h1, h2, h3, h4⟩⟩ := h
  · exact ⟨h0, .inl h⟩
  · exact ⟨h0, .inr ⟨g, cap, cur, h1, h2, by rw [hb.block g (Array.getElem?_eq_some_iff.1 h3).1]; exact h3, h4⟩⟩
theorem grown_below {w w' : World} (h : w.grownBy w' none) : Below w.heap.size w w' := (Below.refl _ _).grown h (Nat.le_refl _) (fun k e => by cases e)
theorem flat_append (xs ys : List CS) : flatY encA (xs ++ ys) = flatY encA xs ++ flatY encA ys := by simp [flatY]
theorem ownsRow_mono {w : World} {b b' : Nat} {e : TypeId} {k : Nat} {v : Value} {n : Nat} {xs : List Value} (h : w.ownsRow b e k v n xs) (hb : b' ≤ b) : w.ownsRow b' e k v n xs := by
  obtain ⟨h0, h | ⟨g, cap, cur, h1, h2, h3⟩⟩ := h
  · exact ⟨h0, .inl h⟩
  · exact ⟨h0, .inr ⟨g, cap, cur, h1, Nat.le_trans hb h2, h3⟩⟩
theorem own_block_le {w : World} {b : Nat} {e : TypeId} {k : Nat} {v : Value} {n : Nat} {xs : List Value} (h : w.ownsRow b e k v n xs) {g : Nat} (hg : v.ownBlock = some g) : b ≤ g := by
  obtain ⟨h0, ⟨rfl, h⟩ | ⟨g', cap, cur, rfl, h2, h3⟩⟩ := h
  · cases hg
  · cases hg
    exact h2
/-- What an insertion leaves. -/
theorem own_ins {w : World} {base : Nat} {v : Value} {len m : Nat} {rs : List CS} {x : CS} (hl : len = rs.length) (hm : m ≤ len)
    (h : w.ownsRow base 29 18 v (0 + m + 1 + (len - m)) (((flatY encA [] ++ flatY encA (rs.take m)) ++ flatY encA [x]) ++ flatY encA (rs.drop m))) :
    w.ownsRow base 29 18 v (len + 1) (flatY encA (rs.take m ++ (x :: rs.drop m))) := by
  have e : flatY encA (rs.take m ++ (x :: rs.drop m)) = ((flatY encA [] ++ flatY encA (rs.take m)) ++ flatY encA [x]) ++ flatY encA (rs.drop m) := by
    rw [← flat_append, ← flat_append, ← flat_append]
    simp
  rw [e, show len + 1 = 0 + m + 1 + (len - m) by omega]
  exact h
end Go.Proofs.YtijboclcbbnhbaaGreatDoor
