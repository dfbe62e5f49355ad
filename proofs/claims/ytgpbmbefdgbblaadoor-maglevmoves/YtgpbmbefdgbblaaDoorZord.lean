/-
  Points as a sort takes them: their cells, their order, which is total; equality of two.
-/
import Derived.Test.YtgpbmbefdgbblaaDoorZsw
import Derived.Test.YtgpbmbefdgbblaaDoorZcmp
import Derived.Shelf.SlSortCmp.WholeK
import Derived.Sort.LotA
namespace Go.Proofs.YtgpbmbefdgbblaaDoor
open Go.RowKit Go.Shelf Go.Lib Go.Sort

theorem cmpN_zero : ∀ x y : List Nat, x.length = y.length → cmpN x y = 0 → x = y
  | [], [], _, _ => rfl
  | [], _ :: _, h, _ => by simp at h
  | _ :: _, [], h, _ => by simp at h
  | a :: x, b :: y, h, e => by
    rw [cmpN] at e
    by_cases h1 : a < b
    · rw [if_pos h1] at e; omega
    · rw [if_neg h1] at e
      by_cases h2 : b < a
      · rw [if_pos h2] at e; omega
      · rw [if_neg h2] at e
        rw [show a = b by omega, cmpN_zero x y (by simpa using h) e]

/-- An address and a port. -/
abbrev PT : Type := Bool × List Nat × Int
def DP (a : PT) : Prop := a.2.1.length = 16 ∧ ∀ x ∈ a.2.1, x < 256
/-- A point whose address is sixteen bytes. -/
abbrev PS : Type := { a : PT // DP a }
instance : Inhabited PS := ⟨⟨(false, List.replicate 16 0, 0), by
  refine ⟨rfl, fun x hx => ?_⟩
  have := (List.mem_replicate.1 hx).2
  omega⟩⟩
def cmpQ (a b : PS) : Int := cmpP a.1.1 b.1.1 a.1.2.1 b.1.2.1 a.1.2.2 b.1.2.2
def plt (a b : PS) : Prop := cmpQ a b < 0
instance (a b : PS) : Decidable (plt a b) := by unfold plt; infer_instance

theorem cmpQ_swap (a b : PS) : cmpQ b a = - cmpQ a b := by
  unfold cmpQ cmpP
  rw [cmpA_swap a.1.1 b.1.1 a.1.2.1 b.1.2.1]
  by_cases h : cmpA a.1.1 b.1.1 a.1.2.1 b.1.2.1 = 0
  · simp only [h]
    by_cases h1 : a.1.2.2 < b.1.2.2
    · simp [h1, show ¬ b.1.2.2 < a.1.2.2 by omega]
    · by_cases h2 : b.1.2.2 < a.1.2.2
      · simp [h1, h2]
      · simp [h1, h2]
  · rw [if_pos (by omega), if_pos h]

theorem cmpQ_zero (a b : PS) (h : cmpQ a b = 0) : a = b := by
  unfold cmpQ cmpP at h
  by_cases h0 : cmpA a.1.1 b.1.1 a.1.2.1 b.1.2.1 = 0
  · rw [if_neg (by omega)] at h
    have hn : a.1.2.2 = b.1.2.2 := by
      by_cases h1 : a.1.2.2 < b.1.2.2
      · rw [if_pos h1] at h; omega
      · rw [if_neg h1] at h
        by_cases h2 : b.1.2.2 < a.1.2.2
        · rw [if_pos h2] at h; omega
        · omega
    unfold cmpA at h0
    by_cases hs : a.1.1 = b.1.1
    · rw [if_pos hs] at h0
      exact Subtype.ext (Prod.ext hs (Prod.ext (cmpN_zero _ _ (by rw [a.2.1, b.2.1]) h0) hn))
    · rw [if_neg hs] at h0
      split at h0 <;> omega
  · rw [if_pos h0] at h; omega

theorem cmpQ_self (a : PS) : cmpQ a a = 0 := by
  have := cmpQ_swap a a
  omega

theorem cmpQ_trans (a b c : PS) (h1 : cmpQ a b ≤ 0) (h2 : cmpQ b c ≤ 0) : cmpQ a c ≤ 0 := by
  unfold cmpQ cmpP at *
  have k1 : cmpA a.1.1 b.1.1 a.1.2.1 b.1.2.1 ≤ 0 := by split at h1 <;> omega
  have k2 : cmpA b.1.1 c.1.1 b.1.2.1 c.1.2.1 ≤ 0 := by split at h2 <;> omega
  have k3 := cmpA_trans _ _ _ _ _ _ k1 k2
  by_cases h : cmpA a.1.1 c.1.1 a.1.2.1 c.1.2.1 = 0
  · have s1 := cmpA_swap a.1.1 c.1.1 a.1.2.1 c.1.2.1
    have k4 := cmpA_trans c.1.1 a.1.1 b.1.1 c.1.2.1 a.1.2.1 b.1.2.1 (by omega) k1
    have s2 := cmpA_swap b.1.1 c.1.1 b.1.2.1 c.1.2.1
    have k5 := cmpA_trans b.1.1 c.1.1 a.1.1 b.1.2.1 c.1.2.1 a.1.2.1 k2 (by omega)
    have s3 := cmpA_swap a.1.1 b.1.1 a.1.2.1 b.1.2.1
    rw [if_neg (by omega)] at h1 h2 ⊢
    by_cases q1 : a.1.2.2 < b.1.2.2
    · rw [if_pos q1] at h1
      by_cases q2 : b.1.2.2 < c.1.2.2
      · rw [if_pos (by omega)]; omega
      · rw [if_neg q2] at h2
        by_cases q3 : c.1.2.2 < b.1.2.2
        · rw [if_pos q3] at h2; omega
        · rw [if_pos (by omega)]; omega
    · rw [if_neg q1] at h1
      by_cases q4 : b.1.2.2 < a.1.2.2
      · rw [if_pos q4] at h1; omega
      · by_cases q2 : b.1.2.2 < c.1.2.2
        · rw [if_pos (by omega)]; omega
        · rw [if_neg q2] at h2
          by_cases q3 : c.1.2.2 < b.1.2.2
          · rw [if_pos q3] at h2; omega
          · rw [if_neg (by omega), if_neg (by omega)]; omega
  · rw [if_pos h]; omega

theorem plt_irrefl (a : PS) : ¬ plt a a := fun h => by
  unfold plt at h
  rw [cmpQ_self] at h
  omega
theorem plt_trans {a b c : PS} (h : plt a b) (k : plt b c) : plt a c := by
  unfold plt at *
  have h3 := cmpQ_trans a b c (by omega) (by omega)
  by_cases h0 : cmpQ a c = 0
  · have e := cmpQ_zero a c h0
    subst e
    have := cmpQ_swap a b
    omega
  · omega
theorem plt_total {a b : PS} (h : ¬ plt a b) (k : ¬ plt b a) : a = b := by
  unfold plt at *
  have := cmpQ_swap a b
  exact cmpQ_zero a b (by omega)

theorem lt_true (a b : PS) : ltOf cmpQ a b = true ↔ plt a b := decide_eq_true_iff
theorem lt_false (a b : PS) : ltOf cmpQ a b = false ↔ ¬ plt a b := decide_eq_false_iff_not
theorem cmpQ_swo : SWO (ltOf cmpQ) where
  irrefl x := (lt_false x x).2 (plt_irrefl x)
  trans x y z h1 h2 := (lt_true x z).2 (plt_trans ((lt_true x y).1 h1) ((lt_true y z).1 h2))
  ntrans x y z h1 h2 := by
    rw [lt_false] at *
    intro h3
    by_cases h4 : plt z y
    · exact h1 (plt_trans h3 h4)
    · have := plt_total h2 h4
      subst this
      exact h1 h3
theorem cmpQ_total (x y : PS) (h1 : ltOf cmpQ x y = false) (h2 : ltOf cmpQ y x = false) : x = y := plt_total ((lt_false x y).1 h1) ((lt_false y x).1 h2)

/-- The points in their order. -/
def psort (xs : List PS) : List PS := xs.mergeSort fun x y => !(ltOf cmpQ) y x
theorem psort_perm (xs : List PS) : (psort xs).Perm xs := List.mergeSort_perm _ _
theorem psort_length (xs : List PS) : (psort xs).length = xs.length := (psort_perm xs).length_eq
theorem psort_sorted (xs : List PS) : (psort xs).Pairwise fun a b => ¬ plt b a := by
  have h := List.pairwise_mergeSort (le := fun x y => !(ltOf cmpQ) y x) (fun a b c h1 h2 => by
    simp only [Bool.not_eq_true'] at *
    exact cmpQ_swo.ntrans c b a h2 h1) (fun a b => by
    cases h1 : ltOf cmpQ b a
    · rfl
    · have h2 : ltOf cmpQ a b = false := by
        cases h3 : ltOf cmpQ a b
        · rfl
        · have := cmpQ_swo.trans a b a h3 h1
          rw [cmpQ_swo.irrefl a] at this
          cases this
      simp [h2]) xs
  refine h.imp fun {a b} h => ?_
  simp only [Bool.not_eq_true'] at h
  exact (lt_false b a).1 h

/-- A point's 18 cells. -/
def encP (a : PS) : Array Value := pnt a.1.1 (ints a.1.2.1) a.1.2.2
def encPL (a : PS) : List Value := (encP a).toList
theorem encP_size (x : PS) : (encP x).size = 18 := by
  unfold encP
  rw [pnt_size, ints_length, x.2.1]
theorem encPL_length (x : PS) : (encPL x).length = 18 := encP_size x
theorem encP_list (x : PS) : (encP x).toList = encPL x := rfl
theorem encP_one (x : PS) : (encP x).all (·.oneCell') = true := pnt_one _ _ _
theorem encPL_one (x : PS) : ∀ v ∈ encPL x, v.oneCell' = true := fun v hv => by
  have h := encP_one x
  rw [Array.all_eq_true_iff_forall_mem] at h
  exact h v (by simpa [encPL] using hv)
theorem encP_back (x : PS) : (encPL x).toArray = encP x := by simp [encPL]

theorem ints_inj {x y : List Nat} (h : ints x = ints y) : x = y := by
  unfold ints at h
  exact (List.map_inj_right (fun a b e => by omega)).1 h
theorem pt_eq (a b : PS) : ((a.1.1 == b.1.1 && ints a.1.2.1 == ints b.1.2.1) && a.1.2.2 == b.1.2.2) = decide (a = b) := by
  by_cases h : a = b
  · subst h; simp
  · rw [decide_eq_false h, Bool.and_eq_false_iff, Bool.and_eq_false_iff]
    by_cases h1 : a.1.1 = b.1.1
    · by_cases h2 : a.1.2.1 = b.1.2.1
      · refine .inr (beq_eq_false_iff_ne.2 fun h3 => h (Subtype.ext (Prod.ext h1 (Prod.ext h2 h3))))
      · exact .inl (.inr (beq_eq_false_iff_ne.2 fun h3 => h2 (ints_inj h3)))
    · exact .inl (.inl (beq_eq_false_iff_ne.2 h1))
theorem eql_pt (a b : PS) (w : World) : (binOp .eql 36 (.agg (encP a)) (.agg (encP b))).run Tryd.prog w = .ok (.bool (decide (a = b))) w := by
  have h := eql_pnt a.1.1 b.1.1 (ints a.1.2.1) (ints b.1.2.1) a.1.2.2 b.1.2.2 (by rw [ints_length, a.2.1]) (by rw [ints_length, b.2.1]) w
  rw [pt_eq] at h
  exact h
theorem neq_pt (a b : PS) (w : World) : (binOp .neq 36 (.agg (encP a)) (.agg (encP b))).run Tryd.prog w = .ok (.bool (!decide (a = b))) w := by
  have hE := equalIn_pnt 9996 a.1.1 b.1.1 (ints a.1.2.1) (ints b.1.2.1) a.1.2.2 b.1.2.2 (by rw [ints_length, a.2.1]) (by rw [ints_length, b.2.1]) w
  rw [pt_eq] at hE
  rw [run_neq_struct]
  simp only [encP]
  rw [hE]
  rfl
end Go.Proofs.YtgpbmbefdgbblaaDoor
