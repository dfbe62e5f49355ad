/-
  Points in strictly rising order: what Compact leaves, what an insertion leaves; there is one such list of the same members. No program.
-/
import Derived.Test.YtgpbmbefdgbblaaDoorZord
import Derived.Lib.SlicesCompact
namespace Go.Proofs.YtgpbmbefdgbblaaDoor
open Go.Lib Go.Sort

abbrev Rising (xs : List PS) : Prop := xs.Pairwise plt

theorem rising_unique : ∀ (xs ys : List PS), Rising xs → Rising ys → (∀ a, a ∈ xs ↔ a ∈ ys) → xs = ys
  | [], [], _, _, _ => rfl
  | [], b :: ys, _, _, h => absurd ((h b).2 (List.mem_cons_self ..)) (by simp)
  | a :: xs, [], _, _, h => absurd ((h a).1 (List.mem_cons_self ..)) (by simp)
  | a :: xs, b :: ys, hx, hy, h => by
    rw [Rising, List.pairwise_cons] at hx hy
    have hab : a = b := by
      rcases List.mem_cons.1 ((h a).1 (List.mem_cons_self ..)) with e | e
      · exact e
      · rcases List.mem_cons.1 ((h b).2 (List.mem_cons_self ..)) with e' | e'
        · exact e'.symm
        · exact absurd (plt_trans (hy.1 a e) (hx.1 b e')) (plt_irrefl b)
    subst hab
    congr 1
    refine rising_unique xs ys hx.2 hy.2 fun c => ⟨fun hc => ?_, fun hc => ?_⟩
    · rcases List.mem_cons.1 ((h c).1 (List.mem_cons_of_mem _ hc)) with e | e
      · subst e; exact absurd (hx.1 c hc) (plt_irrefl c)
      · exact e
    · rcases List.mem_cons.1 ((h c).2 (List.mem_cons_of_mem _ hc)) with e | e
      · subst e; exact absurd (hy.1 c hc) (plt_irrefl c)
      · exact e

theorem upTo_facts (d : Array PS) (hs : ∀ i j, i < j → j < d.size → ¬ plt d[j]! d[i]!) : ∀ m, m ≤ d.size →
    (∀ a, a ∈ compactUpTo d m ↔ ∃ j, j < m ∧ d[j]! = a) ∧ Rising (compactUpTo d m)
  | 0, _ => ⟨fun a => by simp [compactUpTo], by simp [compactUpTo, Rising]⟩
  | m + 1, hm => by
    obtain ⟨h1, h2⟩ := upTo_facts d hs m (by omega)
    rw [compactUpTo_succ]
    by_cases hk : keeps d m = true
    · rw [if_pos hk]
      constructor
      · intro a
        rw [List.mem_append, h1 a, List.mem_singleton]
        constructor
        · rintro (⟨j, hj, e⟩ | e)
          · exact ⟨j, by omega, e⟩
          · exact ⟨m, by omega, e.symm⟩
        · rintro ⟨j, hj, e⟩
          by_cases hjm : j = m
          · subst hjm; exact .inr e.symm
          · exact .inl ⟨j, by omega, e⟩
      · refine List.pairwise_append.2 ⟨h2, List.pairwise_singleton _ _, fun a ha b hb => ?_⟩
        rw [List.mem_singleton] at hb
        subst hb
        obtain ⟨j, hj, rfl⟩ := (h1 a).1 ha
        have n1 := hs j m hj (by omega)
        by_cases hlt : plt d[j]! d[m]!
        · exact hlt
        · exfalso
          have e := plt_total hlt n1
          have hk' : m = 0 ∨ d[m]! ≠ d[m - 1]! := by simpa [keeps] using hk
          rcases hk' with h0 | hne
          · omega
          · by_cases hj1 : j = m - 1
            · subst hj1; exact hne e.symm
            · have n2 := hs j (m - 1) (by omega) (by omega)
              have n3 := hs (m - 1) m (by omega) (by omega)
              rw [e] at n2
              exact hne (plt_total n3 n2)
    · have hk' : m ≠ 0 ∧ d[m]! = d[m - 1]! := by
        simp only [keeps, decide_eq_true_eq, not_or] at hk
        exact ⟨hk.1, Classical.not_not.1 hk.2⟩
      rw [if_neg hk, List.append_nil]
      refine ⟨fun a => ?_, h2⟩
      rw [h1 a]
      constructor
      · rintro ⟨j, hj, e⟩
        exact ⟨j, by omega, e⟩
      · rintro ⟨j, hj, e⟩
        by_cases hjm : j = m
        · subst hjm; exact ⟨j - 1, by omega, by rw [← hk'.2]; exact e⟩
        · exact ⟨j, by omega, e⟩

theorem sorted_facts (xs : List PS) : Rising (compact (psort xs)) ∧ ∀ a, a ∈ compact (psort xs) ↔ a ∈ xs := by
  have hp := List.pairwise_iff_getElem.1 (psort_sorted xs)
  have h := upTo_facts (psort xs).toArray (fun i j hij hj => by
    have hj' : j < (psort xs).length := by simpa using hj
    rw [List.getElem!_toArray, List.getElem!_toArray, getElem!_pos (psort xs) j hj', getElem!_pos (psort xs) i (by omega)]
    exact hp i j (by omega) hj' hij) (psort xs).length (by simp)
  refine ⟨h.2, fun a => ?_⟩
  show a ∈ compactUpTo (psort xs).toArray (psort xs).length ↔ _
  rw [h.1 a, ← (psort_perm xs).mem_iff]
  constructor
  · rintro ⟨j, hj, e⟩
    rw [List.getElem!_toArray, getElem!_pos (psort xs) j hj] at e
    exact e ▸ List.getElem_mem hj
  · intro ha
    obtain ⟨j, hj, e⟩ := List.mem_iff_getElem.1 ha
    exact ⟨j, hj, by rw [List.getElem!_toArray, getElem!_pos (psort xs) j hj, e]⟩

/-- A key is put where it belongs. -/
theorem ins_rising (rs : List PS) (k : PS) (n : Nat) (hn : n ≤ rs.length) (hr : Rising rs) (hlo : ∀ m, m + 1 = n → ¬ plt k rs[m]! ∧ rs[m]! ≠ k) (hhi : ∀ j, n ≤ j → j < rs.length → plt k rs[j]!) :
    Rising (rs.take n ++ (k :: rs.drop n)) ∧ ∀ a, a ∈ rs.take n ++ (k :: rs.drop n) ↔ a = k ∨ a ∈ rs := by
  have hp := List.pairwise_iff_getElem.1 hr
  constructor
  · refine List.pairwise_append.2 ⟨hr.sublist (List.take_sublist _ _), List.pairwise_cons.2 ⟨fun b hb => ?_, hr.sublist (List.drop_sublist _ _)⟩, fun a ha b hb => ?_⟩
    · obtain ⟨j, hj, rfl⟩ := List.mem_iff_getElem.1 hb
      rw [List.getElem_drop]
      have hj' : n + j < rs.length := by simp at hj; omega
      have := hhi (n + j) (by omega) hj'
      rwa [getElem!_pos rs _ hj'] at this
    · obtain ⟨i, hi, rfl⟩ := List.mem_iff_getElem.1 ha
      rw [List.getElem_take]
      have hi' : i < n := by simp at hi; omega
      obtain ⟨m, rfl⟩ : ∃ m, n = m + 1 := ⟨n - 1, by omega⟩
      obtain ⟨h1, h2⟩ := hlo m rfl
      have hm : m < rs.length := by omega
      rw [getElem!_pos rs m hm] at h1 h2
      have hmk : plt rs[m] k := by
        by_cases h : plt rs[m] k
        · exact h
        · exact absurd (plt_total h h1) h2
      have hik : plt rs[i] k := by
        by_cases e : i = m
        · subst e; exact hmk
        · exact plt_trans (hp i m (by omega) hm (by omega)) hmk
      rcases List.mem_cons.1 hb with rfl | hb
      · exact hik
      · obtain ⟨j, hj, rfl⟩ := List.mem_iff_getElem.1 hb
        rw [List.getElem_drop]
        have hj' : m + 1 + j < rs.length := by simp at hj; omega
        exact hp i (m + 1 + j) (by omega) hj' (by omega)
  · intro a
    rw [List.mem_append, List.mem_cons]
    conv => rhs; rw [← List.take_append_drop n rs, List.mem_append]
    constructor
    · rintro (h | h | h)
      · exact .inr (.inl h)
      · exact .inl h
      · exact .inr (.inr h)
    · rintro (h | h | h)
      · exact .inr (.inl h)
      · exact .inl h
      · exact .inr (.inr h)
end Go.Proofs.YtgpbmbefdgbblaaDoor
