/-
  The order of cidrs as a sort asks for it, and what a sort leaves, as lists. No program.
-/
import Derived.Test.YtijboclcbbnhbaaGreatDoorMany
import Derived.Shelf.SlSortCmp.Insertion
namespace Go.Proofs.YtijboclcbbnhbaaGreatDoor
open Go.Sort

/-- A cidr whose address is sixteen bytes. -/
abbrev CS : Type := { a : CT // DT a }
instance : Inhabited CS := ⟨⟨(false, List.replicate 16 0, 0), by
  refine ⟨rfl, fun x hx => ?_⟩
  have := (List.mem_replicate.1 hx).2
  omega⟩⟩
def cmpS (a b : CS) : Int := cmpT a.1 b.1

theorem lt_true (x y : CS) : ltOf cmpS x y = true ↔ cmpT x.1 y.1 < 0 := decide_eq_true_iff
theorem lt_false (x y : CS) : ltOf cmpS x y = false ↔ ¬ cmpT x.1 y.1 < 0 := decide_eq_false_iff_not

theorem cmpS_swo : SWO (ltOf cmpS) where
  irrefl x := by
    have := cidr_cov.refl x.1 x.2
    rw [lt_false]
    omega
  trans x y z h1 h2 := by
    rw [lt_true] at *
    have h3 := cidr_cov.trans x.1 y.1 z.1 x.2 y.2 z.2 (by omega) (by omega)
    by_cases h0 : cmpT x.1 z.1 = 0
    · have e := cidr_cov.anti x.1 z.1 x.2 z.2 h0
      have s := cidr_cov.swap y.1 z.1 y.2 z.2
      rw [← e] at s h2
      omega
    · omega
  ntrans x y z h1 h2 := by
    rw [lt_false] at *
    have s1 := cidr_cov.swap x.1 y.1 x.2 y.2
    have s2 := cidr_cov.swap y.1 z.1 y.2 z.2
    have s3 := cidr_cov.swap x.1 z.1 x.2 z.2
    have h3 := cidr_cov.trans z.1 y.1 x.1 z.2 y.2 x.2 (by omega) (by omega)
    omega

/-- What the sort leaves: the same ones, none before a lesser one. -/
theorem sorted_list (d d' : Array CS) (hp : PermIn 0 d.size d d') (hs : SortedIn (ltOf cmpS) 0 d.size d') :
    (d'.toList.map (·.1)).Pairwise (fun a b => cmpT a b ≤ 0) ∧ (∀ a, a ∈ d'.toList.map (·.1) ↔ a ∈ d.toList.map (·.1)) ∧ d'.size = d.size := by
  obtain ⟨hz, _, hperm⟩ := hp
  have e1 : d'.extract 0 d.size = d' := by rw [← hz]; simp
  have e2 : d.extract 0 d.size = d := by simp
  rw [e1, e2] at hperm
  refine ⟨?_, fun a => (hperm.map (·.1)).mem_iff, hz⟩
  rw [List.pairwise_map, List.pairwise_iff_getElem]
  intro i j hi hj hij
  have hi' : i < d'.size := by simpa using hi
  have hj' : j < d'.size := by simpa using hj
  have h := hs i j (Nat.zero_le _) hij (by omega)
  rw [getElem!_pos d' i hi', getElem!_pos d' j hj'] at h
  rw [lt_false] at h
  have s := cidr_cov.swap (d'[i]).1 (d'[j]).1 (d'[i]).2 (d'[j]).2
  simp only [Array.getElem_toList]
  omega

end Go.Proofs.YtijboclcbbnhbaaGreatDoor
