/-
  The order of keys as a sort asks for it. No program.
-/
import Derived.Test.YtnlhdeffoalhiaaDoorGkcmp
import Derived.Shelf.SlSortCmp.WholeK
import Derived.Sort.LotA
namespace Go.Proofs.YtnlhdeffoalhiaaDoor
open Go.RowKit Go.Shelf Go.Lib Go.Sort

/-- A key: its service and its host. -/
abbrev KT : Type := ByteArray × ByteArray
def cmpK (a b : KT) : Int := kcmp a.1 a.2 b.1 b.2
def encK (a : KT) : Array Value := #[.string a.1, .string a.2]
def encKL (a : KT) : List Value := [.string a.1, .string a.2]
def klt (a b : KT) : Prop := a.1.toList < b.1.toList ∨ (a.1.toList = b.1.toList ∧ a.2.toList < b.2.toList)

theorem cmpK_lt (a b : KT) : cmpK a b < 0 ↔ klt a b := by
  unfold cmpK kcmp klt
  rw [Go.Proofs.bytesLess_eq, Go.Proofs.bytesLess_eq]
  by_cases h1 : a.1.toList < b.1.toList <;> by_cases h2 : a.1.toList = b.1.toList <;> by_cases h3 : a.2.toList < b.2.toList <;> by_cases h4 : a.2.toList = b.2.toList <;> simp [h1, h2, h3, h4, List.lt_irrefl]

theorem lt_true (a b : KT) : ltOf cmpK a b = true ↔ klt a b := by rw [← cmpK_lt]; exact decide_eq_true_iff
theorem lt_false (a b : KT) : ltOf cmpK a b = false ↔ ¬ klt a b := by rw [← cmpK_lt]; exact decide_eq_false_iff_not

theorem klt_irrefl (a : KT) : ¬ klt a a := fun h => by
  rcases h with h | ⟨_, h⟩
  · exact List.lt_irrefl _ h
  · exact List.lt_irrefl _ h
theorem klt_trans {a b c : KT} (h : klt a b) (k : klt b c) : klt a c := by
  rcases h with h | ⟨h, h'⟩ <;> rcases k with k | ⟨k, k'⟩
  · exact .inl (List.lt_trans h k)
  · exact .inl (k ▸ h)
  · exact .inl (h ▸ k)
  · exact .inr ⟨h.trans k, List.lt_trans h' k'⟩
theorem bytes_ext {a b : ByteArray} (h : a.toList = b.toList) : a = b := by
  have e := Lib.toList_data
  rw [e, e] at h
  cases a; cases b
  congr 1
  exact Array.toList_inj.1 h
theorem klt_total {a b : KT} (h : ¬ klt a b) (k : ¬ klt b a) : a = b := by
  have h1 : a.1.toList = b.1.toList := List.le_antisymm (List.not_lt.1 fun x => k (.inl x)) (List.not_lt.1 fun x => h (.inl x))
  have h2 : a.2.toList = b.2.toList := List.le_antisymm (List.not_lt.1 fun x => k (.inr ⟨h1.symm, x⟩)) (List.not_lt.1 fun x => h (.inr ⟨h1, x⟩))
  exact Prod.ext (bytes_ext h1) (bytes_ext h2)
instance (a b : KT) : Decidable (klt a b) := by unfold klt; infer_instance

theorem cmpK_swo : SWO (ltOf cmpK) where
  irrefl x := (lt_false x x).2 (klt_irrefl x)
  trans x y z h1 h2 := (lt_true x z).2 (klt_trans ((lt_true x y).1 h1) ((lt_true y z).1 h2))
  ntrans x y z h1 h2 := by
    rw [lt_false] at *
    intro h3
    by_cases h4 : klt z y
    · exact h1 (klt_trans h3 h4)
    · have := klt_total h2 h4
      subst this
      exact h1 h3
theorem cmpK_total (x y : KT) (h1 : ltOf cmpK x y = false) (h2 : ltOf cmpK y x = false) : x = y := klt_total ((lt_false x y).1 h1) ((lt_false y x).1 h2)

/-- The keys in their order. -/
def ksort (xs : List KT) : List KT := xs.mergeSort fun x y => !(ltOf cmpK) y x
theorem ksort_perm (xs : List KT) : (ksort xs).Perm xs := List.mergeSort_perm _ _
theorem ksort_length (xs : List KT) : (ksort xs).length = xs.length := (ksort_perm xs).length_eq
theorem ksort_sorted (xs : List KT) : (ksort xs).Pairwise fun a b => ¬ klt b a := by
  have h := List.pairwise_mergeSort (le := fun x y => !(ltOf cmpK) y x) (fun a b c h1 h2 => by
    simp only [Bool.not_eq_true'] at *
    exact cmpK_swo.ntrans c b a h2 h1) (fun a b => by
    cases h1 : ltOf cmpK b a
    · rfl
    · have h2 : ltOf cmpK a b = false := (lt_false a b).2 fun h => klt_irrefl a (klt_trans h ((lt_true b a).1 h1))
      simp [h2]) xs
  refine h.imp fun {a b} h => ?_
  simp only [Bool.not_eq_true'] at h
  exact (lt_false b a).1 h

theorem encKL_length (x : KT) : (encKL x).length = 2 := rfl
theorem encK_list (x : KT) : (encK x).toList = encKL x := rfl
theorem encK_size (x : KT) : (encK x).size = 2 := rfl
theorem encKL_one (x : KT) : ∀ v ∈ encKL x, v.oneCell' = true := fun v hv => by
  simp only [encKL, List.mem_cons, List.not_mem_nil, or_false] at hv
  rcases hv with rfl | rfl
  · rfl
  · rfl
theorem encK_one (x : KT) : (encK x).all (·.oneCell') = true := by
  rw [Array.all_eq_true_iff_forall_mem]
  intro v hv
  exact encKL_one x v (by simpa [encK, encKL] using hv)
theorem encK_inj {a b : KT} (h : encKL a = encKL b) : a = b := by
  simp only [encKL, List.cons.injEq, Value.string.injEq, and_true] at h
  exact Prod.ext h.1 h.2
end Go.Proofs.YtnlhdeffoalhiaaDoor
