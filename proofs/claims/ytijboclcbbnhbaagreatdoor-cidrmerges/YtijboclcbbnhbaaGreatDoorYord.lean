/-
  Cidrs as a sort takes them: their cells, their order, which is total. No program.
-/
import Derived.Test.YtijboclcbbnhbaaGreatDoorMsort
import Derived.Test.YtijboclcbbnhbaaGreatDoorYsw
namespace Go.Proofs.YtijboclcbbnhbaaGreatDoor
open Go.RowKit Go.Shelf Go.Lib Go.Sort

/-- A cidr's 18 cells. -/
def encA (a : CS) : Array Value := cid a.1.1 (ints a.1.2.1) a.1.2.2
def encC (a : CS) : List Value := (encA a).toList
theorem encA_size (x : CS) : (encA x).size = 18 := by
  unfold encA
  rw [cid_size, ints_length, x.2.1]
theorem encC_length (x : CS) : (encC x).length = 18 := encA_size x
theorem encA_list (x : CS) : (encA x).toList = encC x := rfl
theorem encA_one (x : CS) : (encA x).all (·.oneCell') = true := cid_one _ _ _
theorem encC_one (x : CS) : ∀ v ∈ encC x, v.oneCell' = true := fun v hv => by
  have h := encA_one x
  rw [Array.all_eq_true_iff_forall_mem] at h
  exact h v (by simpa [encC] using hv)
theorem encA_back (x : CS) : (encC x).toArray = encA x := by simp [encC]

theorem cmpS_total (x y : CS) (h1 : ltOf cmpS x y = false) (h2 : ltOf cmpS y x = false) : x = y := by
  rw [lt_false] at h1 h2
  have s := cidr_cov.swap x.1 y.1 x.2 y.2
  exact Subtype.ext (cidr_cov.anti x.1 y.1 x.2 y.2 (by omega))

/-- The cidrs in their order. -/
def csort (xs : List CS) : List CS := xs.mergeSort fun x y => !(ltOf cmpS) y x
theorem csort_perm (xs : List CS) : (csort xs).Perm xs := List.mergeSort_perm _ _
theorem csort_length (xs : List CS) : (csort xs).length = xs.length := (csort_perm xs).length_eq
theorem csort_sorted (xs : List CS) : ((csort xs).map (·.1)).Pairwise fun a b => cmpT a b ≤ 0 := by
  have h := List.pairwise_mergeSort (le := fun x y => !(ltOf cmpS) y x) (fun a b c h1 h2 => by
    simp only [Bool.not_eq_true'] at *
    exact cmpS_swo.ntrans c b a h2 h1) (fun a b => by
    cases h1 : ltOf cmpS b a
    · rfl
    · have h2 : ltOf cmpS a b = false := by
        cases h3 : ltOf cmpS a b
        · rfl
        · have := cmpS_swo.trans a b a h3 h1
          rw [cmpS_swo.irrefl a] at this
          cases this
      simp [h2]) xs
  rw [List.pairwise_map]
  refine h.imp fun {a b} h => ?_
  simp only [Bool.not_eq_true'] at h
  rw [lt_false] at h
  have s := cidr_cov.swap a.1 b.1 a.2 b.2
  omega
theorem csort_mem (xs : List CS) (a : CT) : a ∈ (csort xs).map (·.1) ↔ a ∈ xs.map (·.1) := ((csort_perm xs).map _).mem_iff
end Go.Proofs.YtijboclcbbnhbaaGreatDoor
