/-
  What one of a list of cidrs contains, one of the merged ones contains. No program.
-/
import Derived.Test.YtijboclcbbnhbaaGreatDoorMval
namespace Go.Proofs.YtijboclcbbnhbaaGreatDoor

def contT (c : CT) (s : Bool) (A : List Nat) : Bool := containsC c.1 (ints c.2.1) c.2.2 s (ints A)

theorem agree_bits {X Y : List Int} {n : Nat} (h : agreeB X Y n = true) (i : Nat) (hi : i < n) : bitN X i = bitN Y i := by
  have := List.all_eq_true.1 h i (List.mem_range.2 hi)
  simpa using this

theorem cont_through (t c : CT) (ht : DT t) (hc : DT c) (h : covT t c = true) (s : Bool) (A : List Nat) (hA : contT c s A = true) : contT t s A = true := by
  obtain ⟨h1, h2, h3, h4, h5⟩ := (cov_iff t c ht hc).1 h
  have hf := right_facts t ht h1
  have hg := right_facts c hc h2
  simp only [contT, containsC, Bool.and_eq_true, beq_iff_eq] at hA ⊢
  obtain ⟨_, k2, k3, k4⟩ := hA
  refine ⟨h1, k2, k3.trans h3.symm, agreeB_of _ _ _ fun i hi => ?_⟩
  rw [agree_bits k4 i (by omega), bitN_ints, bitN_ints]
  rw [((agree_iff t.2.1 c.2.1 ht.1 hc.1 ht.2 hc.2 t.2.2.toNat (by omega)).2 h5 i hi)]

theorem any_same (l m : List CT) (dl : ∀ a ∈ l, DT a) (hm : ∀ a, a ∈ m ↔ Top covT rightT l a) (s : Bool) (A : List Nat) : (m.any fun c => contT c s A) = l.any fun c => contT c s A := by
  rw [Bool.eq_iff_iff, List.any_eq_true, List.any_eq_true]
  constructor
  · rintro ⟨c, hc, h⟩
    exact ⟨c, ((hm c).1 hc).1, h⟩
  · rintro ⟨c, hc, h⟩
    have hr : rightT c = true := by
      simp only [contT, containsC, Bool.and_eq_true] at h
      exact h.1
    obtain ⟨t, ht, hcov⟩ := least_top cidr_cov l dl c hc _ c hc (cidr_cov.self c (dl c hc) hr) (Nat.le_refl _)
    exact ⟨t, (hm t).2 ht, cont_through t c (dl t ht.1) (dl c hc) hcov s A h⟩
end Go.Proofs.YtijboclcbbnhbaaGreatDoor
