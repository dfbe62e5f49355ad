/-
  Plain facts of a table's filling: turn by turn the first free place of one's own order; all places are taken, each backend has its share. No program.
-/
namespace Go.Proofs.YtgpbmbefdgbblaaDoor

/-- The first number from j on whose place is free, within so many. -/
def firstFree (S : List Int) (f : Nat → Nat) : Nat → Nat → Nat
  | 0, j => j
  | g + 1, j => if S.getD (f j) 0 = -1 then j else firstFree S f g (j + 1)

theorem firstFree_eq (S : List Int) (f : Nat → Nat) : ∀ (g j J : Nat), j ≤ J → J ≤ j + g → (J < j + g → S.getD (f J) 0 = -1) → (∀ i, j ≤ i → i < J → S.getD (f i) 0 ≠ -1) → firstFree S f g j = J
  | 0, j, J, h1, h2, _, _ => by unfold firstFree; omega
  | g + 1, j, J, h1, h2, h3, h4 => by
    unfold firstFree
    by_cases h : S.getD (f j) 0 = -1
    · rw [if_pos h]
      by_cases e : j = J
      · exact e
      · exact absurd h (h4 j (Nat.le_refl _) (by omega))
    · rw [if_neg h]
      by_cases e : j = J
      · subst e
        exact absurd (h3 (by omega)) h
      · exact firstFree_eq S f g (j + 1) J (by omega) (by omega) (fun h => h3 (by omega)) (fun i a b => h4 i (by omega) b)

theorem firstFree_spec (S : List Int) (f : Nat → Nat) : ∀ (g j : Nat), (∃ J, j ≤ J ∧ J < j + g ∧ S.getD (f J) 0 = -1) →
    j ≤ firstFree S f g j ∧ firstFree S f g j < j + g ∧ S.getD (f (firstFree S f g j)) 0 = -1 ∧ ∀ i, j ≤ i → i < firstFree S f g j → S.getD (f i) 0 ≠ -1
  | 0, j, ⟨J, h1, h2, _⟩ => by omega
  | g + 1, j, ⟨J, h1, h2, h3⟩ => by
    unfold firstFree
    by_cases h : S.getD (f j) 0 = -1
    · rw [if_pos h]
      exact ⟨Nat.le_refl _, by omega, h, fun i a b => by omega⟩
    · rw [if_neg h]
      have hne : j ≠ J := by rintro rfl; exact h h3
      obtain ⟨a, b, c, d⟩ := firstFree_spec S f g (j + 1) ⟨J, by omega, by omega, h3⟩
      exact ⟨by omega, by omega, c, fun i h1 h2 => by
        by_cases e : i = j
        · subst e; exact h
        · exact d i (by omega) h2⟩

/-- The slots behind so many turns; ord i j is backend i's place number j. -/
def fillT (ord : Nat → Nat → Nat) (n M : Nat) : Nat → List Int
  | 0 => List.replicate M (-1)
  | t + 1 => (fillT ord n M t).set (ord (t % n) (firstFree (fillT ord n M t) (ord (t % n)) M 0)) ((t % n : Nat) : Int)

/-- The orders go over all places. -/
def Onto (ord : Nat → Nat → Nat) (n M : Nat) : Prop := ∀ i, i < n → (∀ j, ord i j < M) ∧ ∀ p, p < M → ∃ j, j < M ∧ ord i j = p

theorem fillT_length (ord : Nat → Nat → Nat) (n M : Nat) : ∀ t, (fillT ord n M t).length = M
  | 0 => by simp [fillT]
  | t + 1 => by simp [fillT, fillT_length ord n M t]

/-- How many of the first turns are one's own. -/
def turns (n i : Nat) : Nat → Nat
  | 0 => 0
  | t + 1 => turns n i t + if t % n = i then 1 else 0

theorem count_set_free {S : List Int} {p : Nat} (hp : p < S.length) (hf : S[p] = -1) (v a : Int) : (S.set p v).count a = S.count a - (if (-1 : Int) = a then 1 else 0) + (if v = a then 1 else 0) := by
  rw [List.count_set hp, hf]
  simp

theorem free_exists {S : List Int} (h : 0 < S.count (-1)) : ∃ p, ∃ hp : p < S.length, S[p] = -1 := List.getElem_of_mem (List.count_pos_iff.1 h)

theorem fillT_facts {ord : Nat → Nat → Nat} {n M : Nat} (hn : 0 < n) (ho : Onto ord n M) : ∀ t, t ≤ M →
    (fillT ord n M t).count (-1) = M - t ∧ (∀ i, i < n → (fillT ord n M t).count (i : Int) = turns n i t) ∧ (∀ x ∈ fillT ord n M t, x = -1 ∨ (0 ≤ x ∧ x < n))
  | 0, _ => by
    refine ⟨by simp [fillT], fun i hi => ?_, fun x hx => .inl (by simp [fillT] at hx; exact hx.2)⟩
    simp only [fillT, turns]
    rw [List.count_eq_zero]
    intro h
    have := (List.mem_replicate.1 h).2
    omega
  | t + 1, ht => by
    obtain ⟨h1, h2, h3⟩ := fillT_facts hn ho t (by omega)
    have hl := fillT_length ord n M t
    obtain ⟨p, hp, hpf⟩ := free_exists (S := fillT ord n M t) (by omega)
    have hi := Nat.mod_lt t hn
    obtain ⟨o1, o2⟩ := ho (t % n) hi
    obtain ⟨J, hJ, hJp⟩ := o2 p (by omega)
    obtain ⟨_, _, c, _⟩ := firstFree_spec (fillT ord n M t) (ord (t % n)) M 0 ⟨J, by omega, by omega, by rw [hJp, List.getD_eq_getElem?_getD, List.getElem?_eq_getElem hp, hpf]; rfl⟩
    have hq := o1 (firstFree (fillT ord n M t) (ord (t % n)) M 0)
    generalize hQ : ord (t % n) (firstFree (fillT ord n M t) (ord (t % n)) M 0) = q at c hq
    have hq' : q < (fillT ord n M t).length := by omega
    have cf : (fillT ord n M t)[q] = -1 := by
      rw [List.getD_eq_getElem?_getD, List.getElem?_eq_getElem hq'] at c
      exact c
    have e : fillT ord n M (t + 1) = (fillT ord n M t).set q ((t % n : Nat) : Int) := by
      show (fillT ord n M t).set (ord (t % n) (firstFree (fillT ord n M t) (ord (t % n)) M 0)) _ = _
      rw [hQ]
    refine ⟨?_, fun i hin => ?_, fun x hx => ?_⟩
    · rw [e, count_set_free hq' cf, h1, if_pos rfl, if_neg (by omega)]
      omega
    · rw [e, count_set_free hq' cf, h2 i hin, if_neg (by omega)]
      simp only [turns]
      by_cases g : t % n = i
      · rw [if_pos g, if_pos (by omega)]; rfl
      · rw [if_neg g, if_neg (by omega)]; rfl
    · rw [e] at hx
      rcases List.mem_or_eq_of_mem_set hx with h | h
      · exact h3 x h
      · exact .inr (by omega)

/-- Before the last turn a place is free; the first free one. -/
theorem fillT_step {ord : Nat → Nat → Nat} {n M : Nat} (hn : 0 < n) (ho : Onto ord n M) {t : Nat} (ht : t < M) :
    ∃ J, J < M ∧ (fillT ord n M t).getD (ord (t % n) J) 0 = -1 ∧ (∀ i, i < J → (fillT ord n M t).getD (ord (t % n) i) 0 ≠ -1) ∧ fillT ord n M (t + 1) = (fillT ord n M t).set (ord (t % n) J) ((t % n : Nat) : Int) := by
  obtain ⟨h1, _, _⟩ := fillT_facts hn ho t (by omega)
  have hl := fillT_length ord n M t
  obtain ⟨p, hp, hpf⟩ := free_exists (S := fillT ord n M t) (by omega)
  obtain ⟨o1, o2⟩ := ho (t % n) (Nat.mod_lt t hn)
  obtain ⟨J, hJ, hJp⟩ := o2 p (by omega)
  obtain ⟨_, b, c, d⟩ := firstFree_spec (fillT ord n M t) (ord (t % n)) M 0 ⟨J, by omega, by omega, by rw [hJp, List.getD_eq_getElem?_getD, List.getElem?_eq_getElem hp, hpf]; rfl⟩
  exact ⟨_, by omega, c, fun i hi => d i (by omega) hi, rfl⟩

theorem fillT_set {ord : Nat → Nat → Nat} {n M t J : Nat} (hJ : J < M) (h : (fillT ord n M t).getD (ord (t % n) J) 0 = -1) (hb : ∀ i, i < J → (fillT ord n M t).getD (ord (t % n) i) 0 ≠ -1) :
    (fillT ord n M t).set (ord (t % n) J) ((t % n : Nat) : Int) = fillT ord n M (t + 1) := by
  rw [fillT, firstFree_eq _ _ M 0 J (by omega) (by omega) (fun _ => h) (fun i _ hi => hb i hi)]

theorem fillT_end {ord : Nat → Nat → Nat} {n M : Nat} (hn : 0 < n) (ho : Onto ord n M) : ∀ x ∈ fillT ord n M M, 0 ≤ x ∧ x < n := fun x hx => by
  obtain ⟨h1, _, h3⟩ := fillT_facts hn ho M (Nat.le_refl _)
  rcases h3 x hx with rfl | h
  · have := List.count_pos_iff.2 hx
    omega
  · exact h

theorem turns_eq {n i : Nat} (hi : i < n) : ∀ t, turns n i t = t / n + if i < t % n then 1 else 0
  | 0 => by simp [turns]
  | t + 1 => by
    rw [turns, turns_eq hi t]
    have hn : 0 < n := by omega
    have hm := Nat.mod_lt t hn
    have hd := Nat.div_add_mod t n
    by_cases h : t % n + 1 = n
    · have e1 : (t + 1) % n = 0 := by
        rw [show t + 1 = n * (t / n + 1) by rw [Nat.mul_add]; omega]
        exact Nat.mul_mod_right _ _
      have e2 : (t + 1) / n = t / n + 1 := by
        rw [show t + 1 = n * (t / n + 1) by rw [Nat.mul_add]; omega]
        exact Nat.mul_div_cancel_left _ hn
      rw [e1, e2]
      by_cases g : t % n = i
      · rw [if_pos g, if_neg (by omega), if_neg (by omega)]
      · rw [if_neg g, if_pos (by omega), if_neg (by omega)]
    · have e : t + 1 = n * (t / n) + (t % n + 1) := by omega
      have e1 : (t + 1) % n = t % n + 1 := by
        rw [e, Nat.mul_add_mod, Nat.mod_eq_of_lt (show t % n + 1 < n by omega)]
      have e2 : (t + 1) / n = t / n := by
        rw [e, Nat.mul_add_div hn, Nat.div_eq_of_lt (show t % n + 1 < n by omega)]
        omega
      rw [e1, e2]
      by_cases g : t % n = i
      · rw [if_pos g, if_neg (by omega), if_pos (by omega)]
      · rw [if_neg g]
        by_cases k : i < t % n
        · rw [if_pos k, if_pos (by omega)]
        · rw [if_neg k, if_neg (by omega)]

/-- Each has the floor or the ceiling of its share. -/
theorem turns_share {n i : Nat} (hi : i < n) (M : Nat) : turns n i M = M / n ∨ turns n i M = (M + n - 1) / n := by
  rw [turns_eq hi M]
  have hn : 0 < n := by omega
  have hm := Nat.mod_lt M hn
  have hd := Nat.div_add_mod M n
  by_cases h : i < M % n
  · rw [if_pos h]
    refine .inr ?_
    have e : M + n - 1 = n * (M / n + 1) + (M % n - 1) := by rw [Nat.mul_add]; omega
    rw [e, Nat.mul_add_div hn, Nat.div_eq_of_lt (show M % n - 1 < n by omega)]
  · rw [if_neg h]
    exact .inl rfl

/-- How many the first ones have. -/
def sumTurns (n M : Nat) : Nat → Nat
  | 0 => 0
  | k + 1 => sumTurns n M k + turns n k M
theorem sumTurns_succ (n M : Nat) : ∀ k, sumTurns n (M + 1) k = sumTurns n M k + if M % n < k then 1 else 0
  | 0 => by simp [sumTurns]
  | k + 1 => by
    rw [sumTurns, sumTurns_succ n M k, sumTurns, turns]
    by_cases h : M % n = k
    · rw [if_pos h, if_neg (by omega), if_pos (by omega)]; omega
    · rw [if_neg h]
      by_cases g : M % n < k
      · rw [if_pos g, if_pos (by omega)]; omega
      · rw [if_neg g, if_neg (by omega)]; omega
theorem sumTurns_zero (n : Nat) : ∀ k, sumTurns n 0 k = 0
  | 0 => rfl
  | k + 1 => by rw [sumTurns, sumTurns_zero n k]; rfl
theorem sumTurns_all {n : Nat} (hn : 0 < n) : ∀ M, sumTurns n M n = M
  | 0 => sumTurns_zero n n
  | M + 1 => by rw [sumTurns_succ, sumTurns_all hn M, if_pos (Nat.mod_lt _ hn)]
end Go.Proofs.YtgpbmbefdgbblaaDoor
