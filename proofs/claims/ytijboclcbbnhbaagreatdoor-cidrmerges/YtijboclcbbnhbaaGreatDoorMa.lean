/-
  Keeping, of a rising list, each that the last kept one does not cover, gives the list of those that no other one covers, rising, each once. No program.
  Cidrs by their addresses' numbers: the order and the covering are as the merging asks. No program.
  What one of a list of cidrs contains, one of the merged ones contains. No program.
  The order of cidrs as a sort asks for it, and what a sort leaves, as lists. No program.
  The comparison of cidrs, as a sort takes it: the world behind it is the one before it, grown.
  The closure of cidr.Any.
-/
import Derived.Test.YtijboclcbbnhbaaGreatDoorChecked
import Derived.Test.YtijboclcbbnhbaaGreatDoorQb
import Derived.Shelf.SlSortCmp.Insertion
import Derived.Sort.Grow
namespace Go.Proofs.YtijboclcbbnhbaaGreatDoor

/-- What the order and the covering are asked. -/
structure Cov {α : Type} (cmp : α → α → Int) (cov : α → α → Bool) (right : α → Bool) (D : α → Prop) : Prop where
  refl : ∀ a, D a → cmp a a = 0
  anti : ∀ a b, D a → D b → cmp a b = 0 → a = b
  swap : ∀ a b, D a → D b → cmp b a = - cmp a b
  trans : ∀ a b c, D a → D b → D c → cmp a b ≤ 0 → cmp b c ≤ 0 → cmp a c ≤ 0
  self : ∀ a, D a → right a = true → cov a a = true
  rights : ∀ a b, D a → D b → cov a b = true → right a = true
  first : ∀ a b, D a → D b → cov a b = true → a ≠ b → cmp a b < 0
  through : ∀ a b c, D a → D b → D c → cov a b = true → cov b c = true → cov a c = true
  between : ∀ a b c, D a → D b → D c → right b = true → cov a c = true → cmp a b ≤ 0 → cmp b c ≤ 0 → cov a b = true

section
variable {α : Type} {cmp : α → α → Int} {cov : α → α → Bool} {right : α → Bool} {D : α → Prop}

/-- Rising, each once. -/
def Rising (cmp : α → α → Int) (l : List α) : Prop := l.Pairwise fun a b => cmp a b < 0

theorem rising_eq (H : Cov cmp cov right D) : ∀ (x y : List α), (∀ a ∈ x, D a) → (∀ a ∈ y, D a) → Rising cmp x → Rising cmp y → (∀ a, a ∈ x ↔ a ∈ y) → x = y
  | [], [], _, _, _, _, _ => rfl
  | [], b :: y, _, _, _, _, h => by have := (h b).2 (by simp); cases this
  | a :: x, [], _, _, _, _, h => by have := (h a).1 (by simp); cases this
  | a :: x, b :: y, dx, dy, hx, hy, h => by
    have hx' := List.pairwise_cons.1 hx
    have hy' := List.pairwise_cons.1 hy
    have da := dx a (by simp)
    have db := dy b (by simp)
    have e : a = b := by
      rcases List.mem_cons.1 ((h a).1 (by simp)) with e | ha
      · exact e
      · rcases List.mem_cons.1 ((h b).2 (by simp)) with e | hb
        · exact e.symm
        · have h1 := hy'.1 a ha
          have h2 := hx'.1 b hb
          have h3 := H.swap a b da db
          omega
    subst e
    have hn : a ∉ x := fun ha => by have := hx'.1 a ha; have := H.refl a da; omega
    have hn' : a ∉ y := fun ha => by have := hy'.1 a ha; have := H.refl a da; omega
    rw [rising_eq H x y (fun c hc => dx c (by simp [hc])) (fun c hc => dy c (by simp [hc])) hx'.2 hy'.2 fun c => ?_]
    constructor
    · intro hc
      rcases List.mem_cons.1 ((h c).1 (by simp [hc])) with e | h'
      · exact absurd (e ▸ hc) hn
      · exact h'
    · intro hc
      rcases List.mem_cons.1 ((h c).2 (by simp [hc])) with e | h'
      · exact absurd (e ▸ hc) hn'
      · exact h'

/-- Of all of a list: right, and no other one covers it. -/
def Top (cov : α → α → Bool) (right : α → Bool) (l : List α) (c : α) : Prop := c ∈ l ∧ right c = true ∧ ∀ d ∈ l, d ≠ c → cov d c = false

/-- One more, if the last one does not cover it. -/
def keepStep (cov : α → α → Bool) (right : α → Bool) (m : List α) (c : α) : List α :=
  if right c && !(match m.getLast? with | some d => cov d c | none => false) then m ++ [c] else m

theorem rising_last (H : Cov cmp cov right D) {m : List α} {d : α} (dm : ∀ a ∈ m, D a) (hm : Rising cmp m) (hd : m.getLast? = some d) : ∀ a ∈ m, cmp a d ≤ 0 := fun a ha => by
  obtain ⟨ys, rfl⟩ := List.getLast?_eq_some_iff.1 hd
  rcases List.mem_append.1 ha with h | h
  · have := (List.pairwise_append.1 hm).2.2 a h d (by simp)
    omega
  · obtain rfl := List.mem_singleton.1 h
    have := H.refl a (dm a (by simp))
    omega

theorem filter_le {p q : α → Bool} : ∀ (l : List α), (∀ x ∈ l, p x = true → q x = true) → (l.filter p).length ≤ (l.filter q).length
  | [], _ => Nat.le_refl _
  | y :: l, h => by
    have ih := filter_le l fun x hx => h x (by simp [hx])
    cases hp : p y with
    | true => rw [List.filter_cons_of_pos hp, List.filter_cons_of_pos (h y (by simp) hp)]; simp; omega
    | false =>
      rw [List.filter_cons_of_neg (by simp [hp])]
      cases hq : q y with
      | true => rw [List.filter_cons_of_pos hq]; simp; omega
      | false => rw [List.filter_cons_of_neg (by simp [hq])]; exact ih
theorem filter_lt {p q : α → Bool} (e : α) (hp : p e = false) (hq : q e = true) : ∀ (l : List α), e ∈ l → (∀ x ∈ l, p x = true → q x = true) → (l.filter p).length < (l.filter q).length
  | [], he, _ => by cases he
  | y :: l, he, h => by
    have hl := filter_le l fun x hx => h x (by simp [hx])
    rcases List.mem_cons.1 he with rfl | he
    · rw [List.filter_cons_of_neg (by simp [hp]), List.filter_cons_of_pos hq]
      simp
      omega
    · have ih := filter_lt e hp hq l he fun x hx => h x (by simp [hx])
      cases hpy : p y with
      | true => rw [List.filter_cons_of_pos hpy, List.filter_cons_of_pos (h y (by simp) hpy)]; simp; omega
      | false =>
        rw [List.filter_cons_of_neg (by simp [hpy])]
        cases hqy : q y with
        | true => rw [List.filter_cons_of_pos hqy]; simp; omega
        | false => rw [List.filter_cons_of_neg (by simp [hqy])]; exact ih

/-- The least of those that cover one is covered by no other one. -/
theorem least_top (H : Cov cmp cov right D) (l : List α) (dl : ∀ a ∈ l, D a) (c : α) (hc : c ∈ l) : ∀ (n : Nat) (d : α), d ∈ l → cov d c = true → (l.filter fun e => decide (cmp e d < 0)).length ≤ n → ∃ t, Top cov right l t ∧ cov t c = true
  | n, d, hd, hcov, hn => by
    by_cases h : ∃ e ∈ l, e ≠ d ∧ cov e d = true
    · obtain ⟨e, he, hne, hed⟩ := h
      have hlt := H.first e d (dl e he) (dl d hd) hed hne
      have hec := H.through e d c (dl e he) (dl d hd) (dl c hc) hed hcov
      have hless : (l.filter fun x => decide (cmp x e < 0)).length < (l.filter fun x => decide (cmp x d < 0)).length := by
        have hsub : ∀ x ∈ l, decide (cmp x e < 0) = true → decide (cmp x d < 0) = true := fun x hx h1 => by
          have h1 := of_decide_eq_true h1
          have h2 := H.trans x e d (dl x hx) (dl e he) (dl d hd) (by omega) (by omega)
          have h3 : cmp x d ≠ 0 := fun h0 => by
            have e1 := H.anti x d (dl x hx) (dl d hd) h0
            subst e1
            have := H.swap e x (dl e he) (dl x hx)
            omega
          exact decide_eq_true (by omega)
        exact filter_lt e (by have := H.refl e (dl e he); exact decide_eq_false (by omega)) (decide_eq_true hlt) l he hsub
      cases n with
      | zero => omega
      | succ n => exact least_top H l dl c hc n e he hec (by omega)
    · refine ⟨d, ⟨hd, H.rights d c (dl d hd) (dl c hc) hcov, fun e he hne => ?_⟩, hcov⟩
      cases h' : cov e d with
      | false => rfl
      | true => exact absurd ⟨e, he, hne, h'⟩ h

/-- The list so far, of what has come so far. -/
def Inv (cmp : α → α → Int) (cov : α → α → Bool) (right : α → Bool) (l pre m : List α) : Prop := Rising cmp m ∧ ∀ a, a ∈ m ↔ a ∈ pre ∧ Top cov right l a

theorem keep_step (H : Cov cmp cov right D) (l : List α) (dl : ∀ a ∈ l, D a) (pre m : List α) (c : α) (hc : c ∈ l) (hpre : ∀ a ∈ pre, a ∈ l) (hle : ∀ a ∈ pre, cmp a c ≤ 0) (hall : ∀ a ∈ l, cmp a c < 0 → a ∈ pre) (hI : Inv cmp cov right l pre m) :
    Inv cmp cov right l (pre ++ [c]) (keepStep cov right m c) := by
  obtain ⟨hr, hm⟩ := hI
  have dm : ∀ a ∈ m, D a := fun a ha => dl a (hpre a ((hm a).1 ha).1)
  have dc := dl c hc
  unfold keepStep
  cases hrc : right c with
  | false =>
    rw [if_neg (by simp)]
    refine ⟨hr, fun a => ?_⟩
    rw [hm a]
    constructor
    · rintro ⟨h1, h2⟩
      exact ⟨by simp [h1], h2⟩
    · rintro ⟨h1, h2⟩
      rcases List.mem_append.1 h1 with h1 | h1
      · exact ⟨h1, h2⟩
      · obtain rfl := List.mem_singleton.1 h1
        have := h2.2.1
        rw [hrc] at this
        cases this
  | true =>
    have new : (∀ d, m.getLast? = some d → cov d c = false) → Inv cmp cov right l (pre ++ [c]) (m ++ [c]) := fun hno => by
      have hcm : c ∉ m := fun h => by
        cases hd : m.getLast? with
        | none => rw [List.getLast?_eq_none_iff.1 hd] at h; cases h
        | some d =>
          have hdm : d ∈ m := List.mem_of_getLast? hd
          have h1 := rising_last H dm hr hd c h
          have h2 := hle d ((hm d).1 hdm).1
          have h3 := H.swap c d dc (dm d hdm)
          have e := H.anti c d dc (dm d hdm) (by omega)
          subst e
          have := hno c hd
          rw [H.self c dc hrc] at this
          cases this
      have htop : Top cov right l c := ⟨hc, hrc, fun d hd hne => by
        cases hcov : cov d c with
        | false => rfl
        | true =>
          obtain ⟨t, ht, htc⟩ := least_top H l dl c hc _ d hd hcov (Nat.le_refl _)
          by_cases e : t = c
          · subst e
            rw [ht.2.2 d hd hne] at hcov
            cases hcov
          · have hlt := H.first t c (dl t ht.1) dc htc e
            have htm : t ∈ m := (hm t).2 ⟨hall t ht.1 hlt, ht⟩
            cases hdl : m.getLast? with
            | none => rw [List.getLast?_eq_none_iff.1 hdl] at htm; cases htm
            | some k =>
              have hkm : k ∈ m := List.mem_of_getLast? hdl
              have hk := (hm k).1 hkm
              have h1 := rising_last H dm hr hdl t htm
              have hb := H.between t k c (dl t ht.1) (dm k hkm) dc hk.2.2.1 htc h1 (hle k hk.1)
              by_cases e2 : t = k
              · subst e2
                rw [hno t hdl] at htc
                cases htc
              · rw [hk.2.2.2 t ht.1 e2] at hb
                cases hb⟩
      refine ⟨List.pairwise_append.2 ⟨hr, by simp, fun a ha b hb => ?_⟩, fun a => ?_⟩
      · obtain rfl := List.mem_singleton.1 hb
        have h1 := hle a ((hm a).1 ha).1
        have h2 : cmp a b ≠ 0 := fun h0 => hcm (H.anti a b (dm a ha) dc h0 ▸ ha)
        omega
      · rw [List.mem_append, List.mem_append, hm a]
        constructor
        · rintro (⟨h1, h2⟩ | h1)
          · exact ⟨.inl h1, h2⟩
          · exact ⟨.inr h1, List.mem_singleton.1 h1 ▸ htop⟩
        · rintro ⟨h1 | h1, h2⟩
          · exact .inl ⟨h1, h2⟩
          · exact .inr h1
    have old : ∀ d, m.getLast? = some d → cov d c = true → Inv cmp cov right l (pre ++ [c]) m := fun d hd hcov => by
      have hdm : d ∈ m := List.mem_of_getLast? hd
      have hdd := (hm d).1 hdm
      refine ⟨hr, fun a => ?_⟩
      rw [hm a]
      constructor
      · rintro ⟨h1, h2⟩
        exact ⟨by simp [h1], h2⟩
      · rintro ⟨h1, h2⟩
        rcases List.mem_append.1 h1 with h1 | h1
        · exact ⟨h1, h2⟩
        · obtain rfl := List.mem_singleton.1 h1
          by_cases e : d = a
          · subst e
            exact ⟨hdd.1, h2⟩
          · rw [h2.2.2 d hdd.2.1 e] at hcov
            cases hcov
    cases hd : m.getLast? with
    | none =>
      rw [if_pos (by simp)]
      exact new fun d h => by rw [hd] at h; cases h
    | some d =>
      by_cases hcov : cov d c = true
      · rw [if_neg (by simp [hcov])]
        exact old d hd hcov
      · rw [if_pos (by simp [hcov])]
        exact new fun d' h => by rw [hd] at h; cases h; simpa using hcov

/-- All of a rising list, one after another. -/
theorem keep_all (H : Cov cmp cov right D) (l : List α) (dl : ∀ a ∈ l, D a) : ∀ (post pre m : List α), (pre ++ post).Pairwise (fun a b => cmp a b ≤ 0) → (∀ a, a ∈ pre ++ post ↔ a ∈ l) → Inv cmp cov right l pre m →
    Inv cmp cov right l (pre ++ post) (post.foldl (keepStep cov right) m)
  | [], pre, m, _, _, hI => by simpa using hI
  | c :: post, pre, m, hs, hm, hI => by
    have hp := List.pairwise_append.1 hs
    have hc : c ∈ l := (hm c).1 (by simp)
    have hpre : ∀ a ∈ pre, a ∈ l := fun a ha => (hm a).1 (by simp [ha])
    have hstep := keep_step H l dl pre m c hc hpre (fun a ha => hp.2.2 a ha c (by simp)) (fun a ha hlt => by
      rcases List.mem_append.1 ((hm a).2 ha) with h | h
      · exact h
      · rcases List.mem_cons.1 h with rfl | h
        · have := H.refl a (dl a hc)
          omega
        · have h1 := (List.pairwise_cons.1 hp.2.1).1 a h
          have h2 := H.swap c a (dl c hc) (dl a ha)
          omega) hI
    have := keep_all H l dl post (pre ++ [c]) (keepStep cov right m c) (by simpa using hs) (fun a => by rw [← hm a]; simp) hstep
    simpa using this

/-! ### The document's way -/
/-- Where one goes in, from the end on. -/
def insPos (cmp : α → α → Int) (c : α) (out : List α) : Nat → Nat
  | 0 => 0
  | k + 1 => match out[k]? with
    | some x => if cmp c x < 0 then insPos cmp c out k else k + 1
    | none => k + 1
def insIn (cmp : α → α → Int) (c : α) (out : List α) : List α := out.take (insPos cmp c out out.length) ++ c :: out.drop (insPos cmp c out out.length)

theorem insPos_le (c : α) (out : List α) : ∀ k, insPos cmp c out k ≤ k
  | 0 => Nat.le_refl _
  | k + 1 => by
    unfold insPos
    split
    · split
      · have := insPos_le c out k
        omega
      · exact Nat.le_refl _
    · exact Nat.le_refl _
theorem insPos_behind (c : α) (out : List α) : ∀ k, k ≤ out.length → ∀ j, insPos cmp c out k ≤ j → j < k → ∃ x, out[j]? = some x ∧ cmp c x < 0
  | 0, _, j, _, h => by omega
  | k + 1, hk, j, h1, h2 => by
    unfold insPos at h1
    have hx : out[k]? = some (out[k]'(by omega)) := List.getElem?_eq_getElem (by omega)
    rw [hx] at h1
    simp only at h1
    split at h1
    · rename_i hlt
      by_cases e : j = k
      · exact ⟨_, e ▸ hx, hlt⟩
      · exact insPos_behind c out k (by omega) j h1 (by omega)
    · omega
theorem insPos_ahead (c : α) (out : List α) : ∀ k, k ≤ out.length → 0 < insPos cmp c out k → ∃ x, out[insPos cmp c out k - 1]? = some x ∧ ¬ cmp c x < 0
  | 0, _, h => by simp [insPos] at h
  | k + 1, hk, h => by
    have hx : out[k]? = some (out[k]'(by omega)) := List.getElem?_eq_getElem (by omega)
    unfold insPos at h ⊢
    rw [hx] at h ⊢
    simp only at h ⊢
    split at h
    · rename_i hlt
      rw [if_pos hlt]
      exact insPos_ahead c out k (by omega) h
    · rename_i hlt
      rw [if_neg hlt]
      exact ⟨_, hx, hlt⟩

theorem ins_mem (c : α) (out : List α) (a : α) : a ∈ insIn cmp c out ↔ a = c ∨ a ∈ out := by
  unfold insIn
  generalize insPos cmp c out out.length = k
  have h := List.take_append_drop k out
  rw [List.mem_append, List.mem_cons]
  constructor
  · rintro (h1 | rfl | h1)
    · exact .inr (List.mem_of_mem_take h1)
    · exact .inl rfl
    · exact .inr (List.mem_of_mem_drop h1)
  · rintro (rfl | h1)
    · exact .inr (.inl rfl)
    · rw [← h] at h1
      rcases List.mem_append.1 h1 with h1 | h1
      · exact .inl h1
      · exact .inr (.inr h1)

theorem ins_rising (H : Cov cmp cov right D) (c : α) (dc : D c) (out : List α) (dout : ∀ a ∈ out, D a) (hr : Rising cmp out) (hn : c ∉ out) : Rising cmp (insIn cmp c out) := by
  have hb := insPos_behind (cmp := cmp) c out out.length (Nat.le_refl _)
  have ha := insPos_ahead (cmp := cmp) c out out.length (Nat.le_refl _)
  have hle := insPos_le (cmp := cmp) c out out.length
  unfold insIn
  generalize insPos cmp c out out.length = k at *
  have hsplit := List.pairwise_append.1 (show (out.take k ++ out.drop k).Pairwise _ by rw [List.take_append_drop]; exact hr)
  have hbeh : ∀ x ∈ out.drop k, cmp c x < 0 := fun x hx => by
    obtain ⟨j, hj, rfl⟩ := List.getElem_of_mem hx
    rw [List.length_drop] at hj
    obtain ⟨y, hy, hlt⟩ := hb (k + j) (by omega) (by omega)
    rw [List.getElem_drop]
    rw [List.getElem?_eq_getElem (by omega)] at hy
    rw [Option.some.inj hy]
    exact hlt
  have hah : ∀ x ∈ out.take k, cmp x c < 0 := fun x hx => by
    have hk : 0 < k := by
      cases k with
      | zero => simp at hx
      | succ k => omega
    obtain ⟨y, hy, hlt⟩ := ha hk
    have hkl : k - 1 < out.length := by omega
    rw [List.getElem?_eq_getElem hkl] at hy
    cases hy
    have dy := dout _ (List.getElem_mem hkl)
    have hx0 := List.mem_of_mem_take hx
    have dx := dout x hx0
    have hyc : cmp out[k - 1] c ≤ 0 := by have := H.swap c out[k - 1] dc dy; omega
    have hxy : cmp x out[k - 1] ≤ 0 := by
      obtain ⟨j, hj, rfl⟩ := List.getElem_of_mem hx
      rw [List.length_take] at hj
      rw [List.getElem_take]
      by_cases e : j = k - 1
      · subst e
        have := H.refl _ dy
        omega
      · have := List.pairwise_iff_getElem.1 hr j (k - 1) (by omega) hkl (by omega)
        omega
    have h1 := H.trans x out[k - 1] c dx dy dc hxy hyc
    have h2 : cmp x c ≠ 0 := fun h0 => hn (H.anti x c dx dc h0 ▸ hx0)
    omega
  refine List.pairwise_append.2 ⟨hsplit.1, List.pairwise_cons.2 ⟨hbeh, hsplit.2.1⟩, fun x hx y hy => ?_⟩
  rcases List.mem_cons.1 hy with rfl | hy
  · exact hah x hx
  · exact hsplit.2.2 x hx y hy

/-- Does the one at place i stay? -/
def Stays (cov : α → α → Bool) (right : α → Bool) (l : List α) (i : Nat) (c : α) : Prop := right c = true ∧ ∀ j d, l[j]? = some d → j ≠ i → ¬ (cov d c = true ∧ (d ≠ c ∨ j < i))

theorem stays_iff (H : Cov cmp cov right D) (l : List α) (dl : ∀ a ∈ l, D a) (i : Nat) (c : α) (hi : l[i]? = some c) : Stays cov right l i c ↔ Top cov right l c ∧ c ∉ l.take i := by
  have hc : c ∈ l := List.mem_of_getElem? hi
  constructor
  · rintro ⟨hr, h⟩
    refine ⟨⟨hc, hr, fun d hd hne => ?_⟩, fun hm => ?_⟩
    · obtain ⟨j, hj, rfl⟩ := List.getElem_of_mem hd
      have hji : j ≠ i := fun e => by
        subst e
        rw [List.getElem?_eq_getElem hj] at hi
        exact hne (Option.some.inj hi)
      cases hcov : cov l[j] c with
      | false => rfl
      | true => exact absurd ⟨hcov, .inl hne⟩ (h j _ (List.getElem?_eq_getElem hj) hji)
    · obtain ⟨j, hj, e⟩ := List.getElem_of_mem hm
      rw [List.length_take] at hj
      rw [List.getElem_take] at e
      exact h j c (by rw [List.getElem?_eq_getElem (by omega), e]) (by omega) ⟨H.self c (dl c hc) hr, .inr (by omega)⟩
  · rintro ⟨⟨_, hr, h⟩, hn⟩
    refine ⟨hr, fun j d hj hne => ?_⟩
    rintro ⟨hcov, hd⟩
    have hjl := (List.getElem?_eq_some_iff.1 hj).1
    by_cases e : d = c
    · subst e
      rcases hd with hd | hd
      · exact hd rfl
      · exact hn (List.mem_of_getElem? (i := j) (by rw [List.getElem?_take_of_lt hd]; exact hj))
    · rw [h d (List.mem_of_getElem? hj) e] at hcov
      cases hcov

/-- The document's list, of the first k. -/
def DocOf (cmp : α → α → Int) (cov : α → α → Bool) (right : α → Bool) (l : List α) (k : Nat) (out : List α) : Prop := Inv cmp cov right l (l.take k) out

theorem doc_skip (H : Cov cmp cov right D) (l : List α) (dl : ∀ a ∈ l, D a) (k : Nat) (c : α) (hk : l[k]? = some c) (out : List α) (h : DocOf cmp cov right l k out) (hs : ¬ Stays cov right l k c) : DocOf cmp cov right l (k + 1) out := by
  have hkl := (List.getElem?_eq_some_iff.1 hk).1
  have e : l.take (k + 1) = l.take k ++ [c] := by rw [List.take_add_one, hk]; rfl
  refine ⟨h.1, fun a => ?_⟩
  rw [h.2 a, e, List.mem_append, List.mem_singleton]
  constructor
  · rintro ⟨h1, h2⟩
    exact ⟨.inl h1, h2⟩
  · rintro ⟨h1 | rfl, h2⟩
    · exact ⟨h1, h2⟩
    · by_cases hm : a ∈ l.take k
      · exact ⟨hm, h2⟩
      · exact absurd ((stays_iff H l dl k a hk).2 ⟨h2, hm⟩) hs
theorem doc_put (H : Cov cmp cov right D) (l : List α) (dl : ∀ a ∈ l, D a) (k : Nat) (c : α) (hk : l[k]? = some c) (out : List α) (h : DocOf cmp cov right l k out) (hs : Stays cov right l k c) : DocOf cmp cov right l (k + 1) (insIn cmp c out) := by
  obtain ⟨ht, hn⟩ := (stays_iff H l dl k c hk).1 hs
  have e : l.take (k + 1) = l.take k ++ [c] := by rw [List.take_add_one, hk]; rfl
  have hout : ∀ a ∈ out, D a := fun a ha => dl a (List.mem_of_mem_take ((h.2 a).1 ha).1)
  refine ⟨ins_rising H c (dl c ht.1) out hout h.1 (fun hc => hn ((h.2 c).1 hc).1), fun a => ?_⟩
  rw [ins_mem, h.2 a, e, List.mem_append, List.mem_singleton]
  constructor
  · rintro (rfl | ⟨h1, h2⟩)
    · exact ⟨.inr rfl, ht⟩
    · exact ⟨.inl h1, h2⟩
  · rintro ⟨h1 | rfl, h2⟩
    · exact .inr ⟨h1, h2⟩
    · exact .inl rfl

/-- Both ways give one list. -/
theorem merge_same (H : Cov cmp cov right D) (l srt out : List α) (dl : ∀ a ∈ l, D a) (hs : srt.Pairwise fun a b => cmp a b ≤ 0) (hm : ∀ a, a ∈ srt ↔ a ∈ l) (hd : DocOf cmp cov right l l.length out) : srt.foldl (keepStep cov right) [] = out := by
  have hk := keep_all H l dl srt [] [] (by simpa using hs) (by simpa using hm) ⟨List.Pairwise.nil, fun a => by simp⟩
  have hd' := hd.2
  rw [List.take_length] at hd'
  refine rising_eq H _ _ (fun a ha => dl a ((hm a).1 (by simpa using ((hk.2 a).1 ha).1))) (fun a ha => dl a ((hd' a).1 ha).1) hk.1 hd.1 fun a => ?_
  rw [hk.2 a, hd' a, List.nil_append, hm a]
end
end Go.Proofs.YtijboclcbbnhbaaGreatDoor

namespace Go.Proofs.YtijboclcbbnhbaaGreatDoor

/-- The number of a row of bytes, the high one first. -/
def val : List Nat → Nat
  | [] => 0
  | x :: l => x * 256 ^ l.length + val l
theorem val_lt : ∀ (l : List Nat), (∀ x ∈ l, x < 256) → val l < 256 ^ l.length
  | [], _ => by simp [val]
  | x :: l, h => by
    have h1 := val_lt l fun y hy => h y (by simp [hy])
    have h2 := h x (by simp)
    rw [val, List.length_cons, Nat.pow_succ]
    have : x * 256 ^ l.length ≤ 255 * 256 ^ l.length := Nat.mul_le_mul_right _ (by omega)
    omega
theorem val_byte : ∀ (l : List Nat), (∀ x ∈ l, x < 256) → ∀ k, k < l.length → l.getD k 0 = val l / 256 ^ (l.length - 1 - k) % 256
  | [], _, k, h => by cases h
  | x :: l, hl, 0, _ => by
    have h1 := val_lt l fun y hy => hl y (by simp [hy])
    have h2 := hl x (by simp)
    rw [val, List.length_cons, Nat.add_sub_cancel, Nat.sub_zero, List.getD_cons_zero, Nat.mul_comm, Nat.mul_add_div (Nat.pow_pos (by decide)), Nat.div_eq_of_lt h1]
    omega
  | x :: l, hl, k + 1, h => by
    have ih := val_byte l (fun y hy => hl y (by simp [hy])) k (by simpa using h)
    have hk : k < l.length := by simpa using h
    rw [List.getD_cons_succ, ih, val, List.length_cons, show l.length + 1 - 1 - (k + 1) = l.length - 1 - k by omega]
    have e : 256 ^ l.length = 256 ^ (l.length - 1 - k) * (256 ^ k * 256) := by rw [← Nat.pow_succ, ← Nat.pow_add]; congr 1; omega
    generalize 256 ^ (l.length - 1 - k) = p at *
    rw [e, show x * (p * (256 ^ k * 256)) = p * (256 * (x * 256 ^ k)) by simp [Nat.mul_comm, Nat.mul_left_comm]]
    by_cases hp : p = 0
    · subst hp; simp
    · rw [Nat.mul_add_div (by omega), Nat.mul_add_mod]

theorem val_bit (C : List Nat) (hl : C.length = 16) (hC : ∀ x ∈ C, x < 256) (i : Nat) (hi : i < 128) : bitn C i = val C / 2 ^ (127 - i) % 2 := by
  unfold bitn
  rw [val_byte C hC (i / 8) (by omega), hl, show (256 : Nat) = 2 ^ 8 by rfl, ← Nat.pow_mul]
  have h1 : 127 - i = 8 * (16 - 1 - i / 8) + (7 - i % 8) := by omega
  rw [h1, Nat.pow_add, ← Nat.div_div_eq_div_mul]
  generalize val C / 2 ^ (8 * (16 - 1 - i / 8)) = y
  have h7 : 7 - i % 8 ≤ 7 := by omega
  generalize 7 - i % 8 = r at h7
  have : r = 0 ∨ r = 1 ∨ r = 2 ∨ r = 3 ∨ r = 4 ∨ r = 5 ∨ r = 6 ∨ r = 7 := by omega
  rcases this with rfl | rfl | rfl | rfl | rfl | rfl | rfl | rfl <;> simp <;> omega

theorem bit_test (x i : Nat) : x.testBit i = decide (x / 2 ^ i % 2 = 1) := Nat.testBit_eq_decide_div_mod_eq
theorem val_lt16 (C : List Nat) (hl : C.length = 16) (hC : ∀ x ∈ C, x < 256) : val C < 2 ^ 128 := by
  have := val_lt C hC
  rw [hl] at this
  exact this

/-- The first n bits are the same just if so is the number without the others. -/
theorem agree_iff (X Y : List Nat) (lx : X.length = 16) (ly : Y.length = 16) (hX : ∀ x ∈ X, x < 256) (hY : ∀ x ∈ Y, x < 256) (n : Nat) (hn : n ≤ 128) : (∀ i, i < n → bitn X i = bitn Y i) ↔ val X / 2 ^ (128 - n) = val Y / 2 ^ (128 - n) := by
  constructor
  · intro h
    apply Nat.eq_of_testBit_eq
    intro j
    rw [Nat.testBit_div_two_pow, Nat.testBit_div_two_pow]
    by_cases hj : 128 - n + j < 128
    · have := h (127 - (128 - n + j)) (by omega)
      rw [val_bit X lx hX _ (by omega), val_bit Y ly hY _ (by omega), show 127 - (127 - (128 - n + j)) = 128 - n + j by omega] at this
      rw [Nat.add_comm, bit_test, bit_test, this]
    · have hx := val_lt16 X lx hX
      have hy := val_lt16 Y ly hY
      have hp : 2 ^ 128 ≤ 2 ^ (128 - n + j) := Nat.pow_le_pow_right (by decide) (by omega)
      rw [Nat.add_comm, Nat.testBit_lt_two_pow (by omega), Nat.testBit_lt_two_pow (by omega)]
  · intro h i hi
    rw [val_bit X lx hX i (by omega), val_bit Y ly hY i (by omega)]
    have e : 127 - i = 128 - n + (127 - i - (128 - n)) := by omega
    rw [e, Nat.pow_add, ← Nat.div_div_eq_div_mul, ← Nat.div_div_eq_div_mul, h]

theorem zero_mod (X : List Nat) (lx : X.length = 16) (hX : ∀ x ∈ X, x < 256) (n : Nat) (h : ∀ i, n ≤ i → i < 128 → bitn X i = 0) : val X % 2 ^ (128 - n) = 0 := by
  apply Nat.eq_of_testBit_eq
  intro j
  rw [Nat.testBit_mod_two_pow, Nat.zero_testBit]
  by_cases hj : j < 128 - n
  · have := h (127 - j) (by omega) (by omega)
    rw [val_bit X lx hX _ (by omega), show 127 - (127 - j) = j by omega] at this
    rw [bit_test, this]
    simp
  · simp [hj]

theorem cmpN_val : ∀ (x y : List Nat), x.length = y.length → (∀ n ∈ x, n < 256) → (∀ n ∈ y, n < 256) → cmpN x y = if val x < val y then -1 else if val y < val x then 1 else 0
  | [], [], _, _, _ => rfl
  | [], _ :: _, h, _, _ => by cases h
  | _ :: _, [], h, _, _ => by cases h
  | a :: x, b :: y, h, hx, hy => by
    have hl : x.length = y.length := by simpa using h
    have ih := cmpN_val x y hl (fun n hn => hx n (by simp [hn])) (fun n hn => hy n (by simp [hn]))
    have h1 := val_lt x fun n hn => hx n (by simp [hn])
    have h2 := val_lt y fun n hn => hy n (by simp [hn])
    rw [hl] at h1
    unfold cmpN
    rw [val, val, hl]
    generalize 256 ^ y.length = p at *
    by_cases hab : a < b
    · have h3 : (a + 1) * p ≤ b * p := Nat.mul_le_mul_right _ hab
      rw [Nat.add_mul, Nat.one_mul] at h3
      rw [if_pos hab, if_pos (by omega)]
    · by_cases hba : b < a
      · have h3 : (b + 1) * p ≤ a * p := Nat.mul_le_mul_right _ hba
        rw [Nat.add_mul, Nat.one_mul] at h3
        rw [if_neg hab, if_pos hba, if_neg (by omega), if_pos (by omega)]
      · obtain rfl : a = b := by omega
        rw [if_neg hab, if_neg hab, ih]
        have k1 : (a * p + val x < a * p + val y) ↔ val x < val y := by omega
        have k2 : (a * p + val y < a * p + val x) ↔ val y < val x := by omega
        simp only [k1, k2]

theorem val_inj : ∀ (x y : List Nat), x.length = y.length → (∀ n ∈ x, n < 256) → (∀ n ∈ y, n < 256) → val x = val y → x = y
  | [], [], _, _, _, _ => rfl
  | [], _ :: _, h, _, _, _ => by cases h
  | _ :: _, [], h, _, _, _ => by cases h
  | a :: x, b :: y, h, hx, hy, e => by
    have hl : x.length = y.length := by simpa using h
    have h1 := val_lt x fun n hn => hx n (by simp [hn])
    have h2 := val_lt y fun n hn => hy n (by simp [hn])
    rw [val, val, hl] at e
    rw [hl] at h1
    generalize 256 ^ y.length = p at *
    have hab : a = b := by
      by_cases h3 : a < b
      · have h4 : (a + 1) * p ≤ b * p := Nat.mul_le_mul_right _ h3
        rw [Nat.add_mul, Nat.one_mul] at h4
        omega
      · by_cases h3 : b < a
        · have h4 : (b + 1) * p ≤ a * p := Nat.mul_le_mul_right _ h3
          rw [Nat.add_mul, Nat.one_mul] at h4
          omega
        · omega
    subst hab
    rw [val_inj x y hl (fun n hn => hx n (by simp [hn])) (fun n hn => hy n (by simp [hn])) (by omega)]

/-! ### Cidrs -/
abbrev CT := Bool × List Nat × Int
def cmpT (a b : CT) : Int := cmpC a.1 b.1 a.2.1 b.2.1 a.2.2 b.2.2
def covT (a b : CT) : Bool := coversC a.1 (ints a.2.1) a.2.2 b.1 (ints b.2.1) b.2.2
def rightT (a : CT) : Bool := rightC a.1 (ints a.2.1) a.2.2
def DT (a : CT) : Prop := a.2.1.length = 16 ∧ ∀ x ∈ a.2.1, x < 256

theorem right_facts (a : CT) (h : DT a) (hr : rightT a = true) : 0 ≤ a.2.2 ∧ a.2.2 ≤ 128 ∧ (a.1 || flat (ints a.2.1)) = true ∧ val a.2.1 % 2 ^ (128 - a.2.2.toNat) = 0 := by
  obtain ⟨s, C, n⟩ := a
  obtain ⟨hl, hC⟩ := h
  simp only [rightT, rightC, Bool.and_eq_true, decide_eq_true_eq] at hr hl hC ⊢
  obtain ⟨hf, h0, hw, hz⟩ := hr
  have hw8 := wid_le s
  refine ⟨h0, by omega, hf, zero_mod C hl hC n.toNat fun i h1 h2 => ?_⟩
  by_cases hi : i < wid s
  · have := List.all_eq_true.1 hz i (List.mem_range.2 hi)
    simp only [Bool.or_eq_true, decide_eq_true_eq, beq_iff_eq] at this
    rcases this with h | h
    · omega
    · rw [bitN_ints] at h
      omega
  · cases s with
    | true => exact absurd h2 hi
    | false =>
      have hw32 : wid false = 32 := rfl
      have := flat_byte C (by simpa using hf) (i / 8) (by omega) (by omega)
      unfold bitn
      rw [this]
      simp

theorem cov_iff (a b : CT) (ha : DT a) (hb : DT b) : covT a b = true ↔ rightT a = true ∧ rightT b = true ∧ a.1 = b.1 ∧ a.2.2 ≤ b.2.2 ∧ val a.2.1 / 2 ^ (128 - a.2.2.toNat) = val b.2.1 / 2 ^ (128 - a.2.2.toNat) := by
  have key : 0 ≤ a.2.2 ∧ a.2.2 ≤ 128 → (agreeB (ints b.2.1) (ints a.2.1) a.2.2.toNat = true ↔ val a.2.1 / 2 ^ (128 - a.2.2.toNat) = val b.2.1 / 2 ^ (128 - a.2.2.toNat)) := fun hn => by
    rw [← agree_iff a.2.1 b.2.1 ha.1 hb.1 ha.2 hb.2 a.2.2.toNat (by omega)]
    constructor
    · intro h i hi
      have := List.all_eq_true.1 h i (List.mem_range.2 hi)
      simp only [beq_iff_eq] at this
      rw [bitN_ints, bitN_ints] at this
      omega
    · intro h
      refine agreeB_of _ _ _ fun i hi => ?_
      rw [bitN_ints, bitN_ints, h i hi]
  constructor
  · intro h
    simp only [covT, coversC, containsC, Bool.and_eq_true, decide_eq_true_eq, beq_iff_eq] at h
    obtain ⟨h1, ⟨h2, _, h3, h4⟩, h5⟩ := h
    have hf := right_facts a ha h2
    exact ⟨h2, h1, h3.symm, h5, (key ⟨hf.1, hf.2.1⟩).1 h4⟩
  · rintro ⟨h2, h1, h3, h5, h4⟩
    have hf := right_facts a ha h2
    have hg := right_facts b hb h1
    simp only [covT, coversC, containsC, Bool.and_eq_true, decide_eq_true_eq, beq_iff_eq]
    exact ⟨h1, ⟨h2, hg.2.2.1, h3.symm, (key ⟨hf.1, hf.2.1⟩).2 h4⟩, h5⟩

/-- The order by numbers. -/
theorem cmp_num (a b : CT) (ha : DT a) (hb : DT b) : cmpT a b = if a.1 = b.1 then (if val a.2.1 < val b.2.1 then -1 else if val b.2.1 < val a.2.1 then 1 else if a.2.2 < b.2.2 then -1 else if b.2.2 < a.2.2 then 1 else 0) else if b.1 = true then -1 else 1 := by
  unfold cmpT cmpC cmpA
  by_cases hs : a.1 = b.1
  · rw [if_pos hs, if_pos hs, cmpN_val a.2.1 b.2.1 (ha.1.trans hb.1.symm) ha.2 hb.2]
    by_cases h1 : val a.2.1 < val b.2.1
    · simp [h1]
    · by_cases h2 : val b.2.1 < val a.2.1
      · simp [h1, h2]
      · simp [h1, h2]
  · rw [if_neg hs, if_neg hs]
    cases h : b.1 <;> simp

theorem cidr_cov : Cov cmpT covT rightT DT where
  refl a ha := by rw [cmp_num a a ha ha]; simp
  anti a b ha hb h := by
    rw [cmp_num a b ha hb] at h
    obtain ⟨s, C, n⟩ := a
    obtain ⟨t, E, m⟩ := b
    simp only at h
    by_cases hs : s = t
    · rw [if_pos hs] at h
      split at h
      · omega
      · split at h
        · omega
        · split at h
          · omega
          · split at h
            · omega
            · have e := val_inj C E (ha.1.trans hb.1.symm) ha.2 hb.2 (by omega)
              have e2 : n = m := by omega
              rw [hs, e, e2]
    · rw [if_neg hs] at h
      split at h <;> omega
  swap a b ha hb := by
    rw [cmp_num a b ha hb, cmp_num b a hb ha]
    obtain ⟨s, C, n⟩ := a
    obtain ⟨t, E, m⟩ := b
    simp only
    by_cases hs : s = t
    · rw [if_pos hs, if_pos hs.symm]
      repeat' split
      all_goals omega
    · rw [if_neg hs, if_neg (fun e => hs e.symm)]
      cases s <;> cases t <;> simp_all
  trans a b c ha hb hc h1 h2 := by
    rw [cmp_num a b ha hb] at h1
    rw [cmp_num b c hb hc] at h2
    rw [cmp_num a c ha hc]
    obtain ⟨s, C, n⟩ := a
    obtain ⟨t, E, m⟩ := b
    obtain ⟨u, F, k⟩ := c
    simp only at h1 h2 ⊢
    generalize val C = x at *
    generalize val E = y at *
    generalize val F = z at *
    cases s <;> cases t <;> cases u <;> simp at h1 h2 ⊢ <;> (repeat' split at h1) <;> (repeat' split at h2) <;> (repeat' split) <;> omega
  self a ha hr := (cov_iff a a ha ha).2 ⟨hr, hr, rfl, Int.le_refl _, rfl⟩
  rights a b ha hb h := ((cov_iff a b ha hb).1 h).1
  first a b ha hb h hne := by
    obtain ⟨h1, h2, h3, h4, h5⟩ := (cov_iff a b ha hb).1 h
    have hf := right_facts a ha h1
    have hle : val a.2.1 ≤ val b.2.1 := by
      have e1 := Nat.div_add_mod (val a.2.1) (2 ^ (128 - a.2.2.toNat))
      have e2 := Nat.div_add_mod (val b.2.1) (2 ^ (128 - a.2.2.toNat))
      rw [hf.2.2.2, h5] at e1
      omega
    rw [cmp_num a b ha hb, if_pos h3]
    by_cases hv : val a.2.1 < val b.2.1
    · rw [if_pos hv]; omega
    · rw [if_neg hv, if_neg (by omega)]
      by_cases hn : a.2.2 < b.2.2
      · rw [if_pos hn]; omega
      · exfalso
        apply hne
        obtain ⟨s, C, n⟩ := a
        obtain ⟨t, E, m⟩ := b
        simp only at h3 h4 hn hv hle
        have e := val_inj C E (ha.1.trans hb.1.symm) ha.2 hb.2 (by omega)
        have e2 : n = m := by omega
        rw [h3, e, e2]
  through a b c ha hb hc h1 h2 := by
    obtain ⟨p1, p2, p3, p4, p5⟩ := (cov_iff a b ha hb).1 h1
    obtain ⟨q1, q2, q3, q4, q5⟩ := (cov_iff b c hb hc).1 h2
    have hf := right_facts a ha p1
    have hg := right_facts b hb p2
    refine (cov_iff a c ha hc).2 ⟨p1, q2, p3.trans q3, by omega, ?_⟩
    rw [p5]
    have e : 128 - a.2.2.toNat = (128 - b.2.2.toNat) + (b.2.2.toNat - a.2.2.toNat) := by omega
    rw [e, Nat.pow_add, ← Nat.div_div_eq_div_mul, ← Nat.div_div_eq_div_mul, q5]
  between a b c ha hb hc hr h hab hbc := by
    obtain ⟨p1, p2, p3, p4, p5⟩ := (cov_iff a c ha hc).1 h
    have hf := right_facts a ha p1
    have hg := right_facts b hb hr
    rw [cmp_num a b ha hb] at hab
    rw [cmp_num b c hb hc] at hbc
    have hs : a.1 = b.1 := by
      by_cases e : a.1 = b.1
      · exact e
      · rw [if_neg e] at hab
        rw [p3] at e
        rw [if_neg (fun h => e h.symm)] at hbc
        cases h1 : b.1 <;> cases h2 : c.1 <;> simp_all
    rw [if_pos hs] at hab
    rw [if_pos (hs.symm.trans p3)] at hbc
    have v1 : val a.2.1 ≤ val b.2.1 := by
      split at hab
      · omega
      · split at hab
        · omega
        · omega
    have v2 : val b.2.1 ≤ val c.2.1 := by
      split at hbc
      · omega
      · split at hbc
        · omega
        · omega
    have d1 := Nat.div_le_div_right (c := 2 ^ (128 - a.2.2.toNat)) v1
    have d2 := Nat.div_le_div_right (c := 2 ^ (128 - a.2.2.toNat)) v2
    have dv : val a.2.1 / 2 ^ (128 - a.2.2.toNat) = val b.2.1 / 2 ^ (128 - a.2.2.toNat) := by omega
    refine (cov_iff a b ha hb).2 ⟨p1, hr, hs, ?_, dv⟩
    by_cases hv : val a.2.1 < val b.2.1
    · apply Classical.byContradiction
      intro hn
      have e : 128 - b.2.2.toNat = (128 - a.2.2.toNat) + (a.2.2.toNat - b.2.2.toNat) := by omega
      have m1 : val b.2.1 % 2 ^ (128 - a.2.2.toNat) = 0 := by
        have := hg.2.2.2
        rw [e, Nat.pow_add] at this
        have h2 := Nat.dvd_of_mod_eq_zero this
        exact Nat.mod_eq_zero_of_dvd (Nat.dvd_trans (Nat.dvd_mul_right _ _) h2)
      have e1 := Nat.div_add_mod (val a.2.1) (2 ^ (128 - a.2.2.toNat))
      have e2 := Nat.div_add_mod (val b.2.1) (2 ^ (128 - a.2.2.toNat))
      rw [hf.2.2.2, dv] at e1
      rw [m1] at e2
      omega
    · rw [if_neg hv, if_neg (by omega)] at hab
      split at hab
      · omega
      · split at hab
        · omega
        · omega
end Go.Proofs.YtijboclcbbnhbaaGreatDoor

namespace Go.Proofs.YtijboclcbbnhbaaGreatDoor

def contT (c : CT) (s : Bool) (A : List Nat) : Bool := containsC c.1 (ints c.2.1) c.2.2 s (ints A)

theorem agree_bits {X Y : List Int} {n : Nat} (h : agreeB X Y n = true) (i : Nat) (hi : i < n) : bitN X i = bitN Y i := by
  have := List.all_eq_true.1 h i (List.mem_range.2 hi)
  simpa using this

theorem cont_through (t c : CT) (ht : DT t) (hc : DT c) (h : covT t c = true) (s : Bool) (A : List Nat) (hA : contT c s A = true) : contT t s A = true := by
  obtain ⟨h1, h2, h3, h4, h5⟩ := (cov_iff t c ht hc).1 h
  have hf := right_facts t ht h1
  have hg := right_facts c hc h2
  simp only [contT, containsC, Bool.and_eq_true, beq_iff_eq] at hA ⊢
  obtain ⟨_, k2, k3, k4⟩ := hA
  refine ⟨h1, k2, k3.trans h3.symm, agreeB_of _ _ _ fun i hi => ?_⟩
  rw [agree_bits k4 i (by omega), bitN_ints, bitN_ints]
  rw [((agree_iff t.2.1 c.2.1 ht.1 hc.1 ht.2 hc.2 t.2.2.toNat (by omega)).2 h5 i hi)]

theorem any_same (l m : List CT) (dl : ∀ a ∈ l, DT a) (hm : ∀ a, a ∈ m ↔ Top covT rightT l a) (s : Bool) (A : List Nat) : (m.any fun c => contT c s A) = l.any fun c => contT c s A := by
  rw [Bool.eq_iff_iff, List.any_eq_true, List.any_eq_true]
  constructor
  · rintro ⟨c, hc, h⟩
    exact ⟨c, ((hm c).1 hc).1, h⟩
  · rintro ⟨c, hc, h⟩
    have hr : rightT c = true := by
      simp only [contT, containsC, Bool.and_eq_true] at h
      exact h.1
    obtain ⟨t, ht, hcov⟩ := least_top cidr_cov l dl c hc _ c hc (cidr_cov.self c (dl c hc) hr) (Nat.le_refl _)
    exact ⟨t, (hm t).2 ht, cont_through t c (dl t ht.1) (dl c hc) hcov s A h⟩
end Go.Proofs.YtijboclcbbnhbaaGreatDoor

namespace Go.Proofs.YtijboclcbbnhbaaGreatDoor
open Go.Sort

/-- A cidr whose address is sixteen bytes. -/
abbrev CS : Type := { a : CT // DT a }
instance : Inhabited CS := ⟨⟨(false, List.replicate 16 0, 0), by
  refine ⟨rfl, fun x hx => ?_⟩
  have := (List.mem_replicate.1 hx).2
  omega⟩⟩
def cmpS (a b : CS) : Int := cmpT a.1 b.1

theorem lt_true (x y : CS) : ltOf cmpS x y = true ↔ cmpT x.1 y.1 < 0 := decide_eq_true_iff
theorem lt_false (x y : CS) : ltOf cmpS x y = false ↔ ¬ cmpT x.1 y.1 < 0 := decide_eq_false_iff_not

theorem cmpS_swo : SWO (ltOf cmpS) where
  irrefl x := by
    have := cidr_cov.refl x.1 x.2
    rw [lt_false]
    omega
  trans x y z h1 h2 := by
    rw [lt_true] at *
    have h3 := cidr_cov.trans x.1 y.1 z.1 x.2 y.2 z.2 (by omega) (by omega)
    by_cases h0 : cmpT x.1 z.1 = 0
    · have e := cidr_cov.anti x.1 z.1 x.2 z.2 h0
      have s := cidr_cov.swap y.1 z.1 y.2 z.2
      rw [← e] at s h2
      omega
    · omega
  ntrans x y z h1 h2 := by
    rw [lt_false] at *
    have s1 := cidr_cov.swap x.1 y.1 x.2 y.2
    have s2 := cidr_cov.swap y.1 z.1 y.2 z.2
    have s3 := cidr_cov.swap x.1 z.1 x.2 z.2
    have h3 := cidr_cov.trans z.1 y.1 x.1 z.2 y.2 x.2 (by omega) (by omega)
    omega

/-- What the sort leaves: the same ones, none before a lesser one. -/
theorem sorted_list (d d' : Array CS) (hp : PermIn 0 d.size d d') (hs : SortedIn (ltOf cmpS) 0 d.size d') :
    (d'.toList.map (·.1)).Pairwise (fun a b => cmpT a b ≤ 0) ∧ (∀ a, a ∈ d'.toList.map (·.1) ↔ a ∈ d.toList.map (·.1)) ∧ d'.size = d.size := by
  obtain ⟨hz, _, hperm⟩ := hp
  have e1 : d'.extract 0 d.size = d' := by rw [← hz]; simp
  have e2 : d.extract 0 d.size = d := by simp
  rw [e1, e2] at hperm
  refine ⟨?_, fun a => (hperm.map (·.1)).mem_iff, hz⟩
  rw [List.pairwise_map, List.pairwise_iff_getElem]
  intro i j hi hj hij
  have hi' : i < d'.size := by simpa using hi
  have hj' : j < d'.size := by simpa using hj
  have h := hs i j (Nat.zero_le _) hij (by omega)
  rw [getElem!_pos d' i hi', getElem!_pos d' j hj'] at h
  rw [lt_false] at h
  have s := cidr_cov.swap (d'[i]).1 (d'[j]).1 (d'[i]).2 (d'[j]).2
  simp only [Array.getElem_toList]
  omega

end Go.Proofs.YtijboclcbbnhbaaGreatDoor

namespace Go.Proofs.YtijboclcbbnhbaaGreatDoor
open Go Go.Lib Go.RowKit

/-- What was stays; no draw is taken back. -/
def Grw (w w' : World) : Prop := Below w.heap.size w w' ∧ w.drawn ≤ w'.drawn
theorem Grw.refl (w : World) : Grw w w := ⟨Below.refl _ _, Nat.le_refl _⟩
theorem Grw.then {a b c : World} (h : Grw a b) (k : Grw b c) : Grw a c := ⟨bel2 h.1 k.1, Nat.le_trans h.2 k.2⟩
theorem Grw.alloc (w : World) (o : Obj) : Grw w (w.alloc o) := ⟨(Below.refl _ _).alloc (Nat.le_refl _) _, Nat.le_refl _⟩
theorem Grw.drewN (w : World) (n : Nat) : Grw w (w.drewN n) := ⟨below_drewN w n, Nat.le_add_right _ _⟩

theorem Grw.grown {w w' : World} (h : Grw w w') : ∃ q os, w' = Sort.grow (w.drewN q) os := by
  refine ⟨w'.drawn - w.drawn, w'.heap.extract w.heap.size w'.heap.size, ?_⟩
  have e1 : w.drawn + (w'.drawn - w.drawn) = w'.drawn := by have := h.2; omega
  have e2 : w.heap ++ w'.heap.extract w.heap.size w'.heap.size = w'.heap := by
    apply Array.ext_getElem?
    intro i
    have hz := h.1.size
    by_cases hi : i < w.heap.size
    · rw [Array.getElem?_append_left hi, h.1.block i hi]
    · rw [Array.getElem?_append_right (by omega)]
      by_cases hj : i < w'.heap.size
      · rw [Array.getElem?_eq_getElem (by simp; omega), Array.getElem?_eq_getElem hj, Array.getElem_extract]
        congr 2
        omega
      · rw [Array.getElem?_eq_none (by simp; omega), Array.getElem?_eq_none (by omega)]
  obtain ⟨b1, b2, b3, _, _⟩ := h.1
  show w' = { w with heap := w.heap ++ w'.heap.extract w.heap.size w'.heap.size, drawn := w.drawn + (w'.drawn - w.drawn) }
  rw [e1, e2, ← b1, ← b2, ← b3]

set_option maxRecDepth 100000 in
set_option maxHeartbeats 4000000 in
theorem compare_grw (s t : Bool) (x y : List Nat) (hx : x.length = 16) (hy : y.length = 16) (lx : ∀ n ∈ x, n < 256) (ly : ∀ n ∈ y, n < 256) (w : World) :
    Calls Tryz.prog 36 #[.agg (adr s (ints x)), .agg (adr t (ints y))] w fun e w' => e = .returned (.int .i64 (cmpA s t x y)) ∧ Grw w w' := by
  obtain ⟨W0, hW0⟩ : ∃ W, W = w.alloc (.cells (adr s (ints x)) 25) := ⟨_, rfl⟩
  have hB0 : Blk W0 w.heap.size 25 (adr s (ints x)) := hW0 ▸ Blk.new w _ _
  have hb0 : Grw w W0 := hW0 ▸ Grw.alloc _ _
  have hs0 : W0.heap.size = w.heap.size + 1 := by rw [hW0]; simp
  obtain ⟨W1, hW1⟩ : ∃ W, W = W0.alloc (.cells (adr t (ints y)) 25) := ⟨_, rfl⟩
  have hB1 : Blk W1 (w.heap.size + 1) 25 (adr t (ints y)) := hs0 ▸ hW1 ▸ Blk.new W0 _ _
  have hb1 : Grw W0 W1 := hW1 ▸ Grw.alloc _ _
  have hB0' : Blk W1 w.heap.size 25 (adr s (ints x)) := hB0.kept hb1.1
  have HW : Hid ((w.alloc (.cells (adr s (ints x)) 25)).alloc (.cells (adr t (ints y)) 25) = W1) := Lib.hid (by rw [hW1, hW0])
  have h0 := adr_zero s (ints x)
  have h1 := adr_zero t (ints y)
  have Hb : Hid (Grw w W1) := Lib.hid (hb0.then hb1)
  have HC : Hid (∀ n, Calls Tryz.prog 57 #[.slice (some ⟨w.heap.size, 1, none⟩) 16 16, .slice (some ⟨w.heap.size + 1, 1, none⟩) 16 16] (W1.drewN n) fun e w' => e = .returned (.int .i64 (cmpN x y)) ∧ w' = W1.drewN n) := Lib.hid fun n =>
    bcmp (W1.drewN n) w.heap.size (w.heap.size + 1) x y hx hy lx ly
      (fun j hj => by have := hB0'.cell (1 + j); rw [adr_at _ _ _ (by rw [ints_length, hx]; exact hj), nth_ints] at this; exact this)
      (fun j hj => by have := hB1.cell (1 + j); rw [adr_at _ _ _ (by rw [ints_length, hy]; exact hj), nth_ints] at this; exact this)
  clear hB0 hB0' hB1 hb0 hb1 hs0 hW0 hW1 hx hy lx ly
  cases s <;> cases t
  · go_enter Tryz.func36, Tryz.ntmps36
    go_wp2
    rw [HW.out]
    go_quiet ((go_at_call 57; exact Calls.quiet_of_same (HC.out _)))
    go_wp2
    go_ret
    exact ⟨rfl, Hb.out.then (Grw.drewN _ _)⟩
  · go_enter Tryz.func36, Tryz.ntmps36
    go_wp2
    go_ret
    rw [HW.out]
    exact ⟨rfl, Hb.out⟩
  · go_enter Tryz.func36, Tryz.ntmps36
    go_wp2
    go_ret
    rw [HW.out]
    exact ⟨rfl, Hb.out⟩
  · go_enter Tryz.func36, Tryz.ntmps36
    go_wp2
    rw [HW.out]
    go_quiet ((go_at_call 57; exact Calls.quiet_of_same (HC.out _)))
    go_wp2
    go_ret
    exact ⟨rfl, Hb.out.then (Grw.drewN _ _)⟩

set_option maxHeartbeats 1000000 in
theorem cmpInt_grw (n m : Int) (w : World) : Calls Tryz.prog 37 #[.int .i64 n, .int .i64 m] w fun e w' => e = .returned (.int .i64 (cmpI n m)) ∧ Grw w w' := by
  have HC : Hid (cmpI n m = if n < m then -1 else if m < n then 1 else 0) := Lib.hid rfl
  generalize cmpI n m = R at *
  by_cases h1 : n < m
  · go_enter Tryz.func37, Tryz.ntmps37
    go_wp2_with fail
    refine (nan_any n w).mono ?_
    rintro e w1 ⟨rfl, rfl⟩
    go_wp2_with fail
    refine (nan_any m w).mono ?_
    rintro e w1 ⟨rfl, rfl⟩
    go_wp2
    go_ret
    exact ⟨ret_int (by rw [HC.out, if_pos (by omega)]), Grw.refl _⟩
  · by_cases h2 : m < n
    · go_enter Tryz.func37, Tryz.ntmps37
      go_wp2_with fail
      refine (nan_any n w).mono ?_
      rintro e w1 ⟨rfl, rfl⟩
      go_wp2_with fail
      refine (nan_any m w).mono ?_
      rintro e w1 ⟨rfl, rfl⟩
      go_wp2
      go_ret
      exact ⟨ret_int (by rw [HC.out, if_neg (by omega), if_pos (by omega)]), Grw.refl _⟩
    · go_enter Tryz.func37, Tryz.ntmps37
      go_wp2_with fail
      refine (nan_any n w).mono ?_
      rintro e w1 ⟨rfl, rfl⟩
      go_wp2_with fail
      refine (nan_any m w).mono ?_
      rintro e w1 ⟨rfl, rfl⟩
      go_wp2
      go_ret
      exact ⟨ret_int (by rw [HC.out, if_neg (by omega), if_neg (by omega)]), Grw.refl _⟩

set_option maxHeartbeats 1000000 in
theorem or_grw (c d : Int) (w : World) (g : Nat) (hB : Blk w g 3 #[.int .i64 c, .int .i64 d]) :
    Calls Tryz.prog 35 #[.slice (some ⟨g, 0, none⟩) 2 2] w fun e w' => e = .returned (.int .i64 (if c ≠ 0 then c else d)) ∧ Grw w w' := by
  have h0 : w.cell? ⟨g, 0, none⟩ = some (.int .i64 c) := by rw [hB.cell]; rfl
  have h1 : w.cell? ⟨g, 1, none⟩ = some (.int .i64 d) := by rw [hB.cell]; rfl
  have HC : Hid ((if c ≠ 0 then c else d) = if c = 0 then d else c) := Lib.hid (by by_cases h : c = 0 <;> simp [h])
  generalize (if c ≠ 0 then c else d) = R at *
  clear hB
  by_cases hc : c = 0
  · subst hc
    by_cases hd : d = 0
    · subst hd
      go_enter Tryz.func35, Tryz.ntmps35
      go_wp2
      refine wp_loop_rounds 3 ?_
      rw [rounds_succ]
      go_wp2
      rw [rounds_succ]
      go_wp2
      rw [rounds_succ]
      go_wp2
      go_ret
      exact ⟨ret_int (by rw [HC.out]; simp), Grw.refl _⟩
    · have q : (d != 0) = true := by rw [bne_iff_ne]; exact hd
      go_enter Tryz.func35, Tryz.ntmps35
      go_wp2
      refine wp_loop_rounds 2 ?_
      rw [rounds_succ]
      go_wp2
      rw [rounds_succ]
      go_wp2
      go_ret
      exact ⟨ret_int (by rw [HC.out]; simp), Grw.refl _⟩
  · have q : (c != 0) = true := by rw [bne_iff_ne]; exact hc
    go_enter Tryz.func35, Tryz.ntmps35
    go_wp2
    refine wp_loop_rounds 2 ?_
    rw [rounds_succ]
    go_wp2
    go_ret
    exact ⟨ret_int (by rw [HC.out, if_neg hc]), Grw.refl _⟩

set_option linter.unusedSimpArgs false in
set_option maxRecDepth 100000 in
set_option maxHeartbeats 4000000 in
theorem ccmp_grw (s t : Bool) (X Y : List Nat) (hx : X.length = 16) (hy : Y.length = 16) (lx : ∀ x ∈ X, x < 256) (ly : ∀ x ∈ Y, x < 256) (n m : Int) (w : World) :
    Calls Tryz.prog 17 #[.agg (cid s (ints X) n), .agg (cid t (ints Y) m)] w fun e w' => e = .returned (.int .i64 (cmpC s t X Y n m)) ∧ Grw w w' := by
  obtain ⟨W0, hW0⟩ : ∃ W, W = w.alloc (.cells (cid s (ints X) n) 29) := ⟨_, rfl⟩
  obtain ⟨W1, hW1⟩ : ∃ W, W = W0.alloc (.cells (cid t (ints Y) m) 29) := ⟨_, rfl⟩
  have hlx : (ints X).length = 16 := by rw [ints_length, hx]
  have hly : (ints Y).length = 16 := by rw [ints_length, hy]
  have hB0 : Blk W0 w.heap.size 29 (cid s (ints X) n) := hW0 ▸ Blk.new w _ _
  have hb0 : Grw w W0 := hW0 ▸ Grw.alloc _ _
  have hs0 : W0.heap.size = w.heap.size + 1 := by rw [hW0]; simp
  have hb1 : Grw W0 W1 := hW1 ▸ Grw.alloc _ _
  have hB1 : Blk W1 (w.heap.size + 1) 29 (cid t (ints Y) m) := by rw [← hs0]; exact hW1 ▸ Blk.new W0 _ _
  have HW0 := Lib.hid hW0.symm
  have HW1 := Lib.hid hW1.symm
  have LX := Lib.hid hlx
  have LY := Lib.hid hly
  have hS0 : Blk W1.drew (w.heap.size) 29 (cid s (ints X) n) ∧ Blk W1.drew (w.heap.size + 1) 29 (cid t (ints Y) m) ∧ Grw w W1.drew := ⟨(hB0.kept hb1.1).kept (below_drewN W1 1), hB1.kept (below_drewN W1 1), (hb0.then hb1).then (Grw.drewN W1 1)⟩
  obtain ⟨c, hc⟩ : ∃ c, c = cmpA s t X Y := ⟨_, rfl⟩
  obtain ⟨d, hd⟩ : ∃ d, d = cmpI n m := ⟨_, rfl⟩
  obtain ⟨r, hr⟩ : ∃ r, r = if c ≠ 0 then c else d := ⟨_, rfl⟩
  have CA : Hid (∀ w, Calls Tryz.prog 36 #[.agg (adr s (ints X)), .agg (adr t (ints Y))] w fun e w' => e = .returned (.int .i64 c) ∧ Grw w w') := Lib.hid (by rw [hc]; exact compare_grw s t X Y hx hy lx ly)
  have CC : Hid (∀ w, Calls Tryz.prog 37 #[.int .i64 n, .int .i64 m] w fun e w' => e = .returned (.int .i64 d) ∧ Grw w w') := Lib.hid (by rw [hd]; exact cmpInt_grw n m)
  have CO : Hid (∀ w g, Blk w g 3 #[.int .i64 c, .int .i64 d] → Calls Tryz.prog 35 #[.slice (some ⟨g, 0, none⟩) 2 2] w fun e w' => e = .returned (.int .i64 r) ∧ Grw w w') := Lib.hid (by rw [hr]; exact or_grw c d)
  have HR : Hid (r = cmpC s t X Y n m) := Lib.hid (by rw [hr, hc, hd]; rfl)
  clear hW0 hW1 hB0 hb0 hb1 hB1 hs0 hlx hly hx hy lx ly hc hd hr
  go_enter Tryz.func17, Tryz.ntmps17
  go_upto_region 1 with fail
  rw [HW0.out]
  rw [HW1.out]
  refine wp_region_held_drew (S := fun w' => Blk w' (w.heap.size) 29 (cid s (ints X) n) ∧ Blk w' (w.heap.size + 1) 29 (cid t (ints Y) m) ∧ Grw w w') (by kernel_rfl) hS0 (fun hS => ?_)
  change wpAnyH _ _ _ _ _ 13 #[false, false, false, false, false, false, false, false, false, false, false, false, false] _ _
  refine wpAnyH_take (i := 0) (v := .pointer (some ⟨w.heap.size, 0, none⟩)) rfl (by kernel_rfl) (by kernel_rfl) (by kernel_rfl) (fun _ _ _ h => h) (.inl ⟨by kernel_rfl, fun w _ => by kernel_rfl⟩) hS ?_
  simp only [List.getElem_toArray, List.getElem_cons_zero, List.getElem_cons_succ, Act.put, List.setIfInBounds_toArray, List.set_cons_zero, List.set_cons_succ]
  refine wpAnyH_take (i := 1) (v := .agg (adr s (ints X))) rfl (by kernel_rfl) (by kernel_rfl) (by kernel_rfl) (fun _ _ _ h => h) (yields_addr (.tmp 5) rfl (w.heap.size) (by kernel_rfl) s (ints X) n (fun w h => h.1) LX.out (by kernel_rfl)) hS ?_
  simp only [List.getElem_toArray, List.getElem_cons_zero, List.getElem_cons_succ, Act.put, List.setIfInBounds_toArray, List.set_cons_zero, List.set_cons_succ]
  refine wpAnyH_take (i := 2) (v := .pointer (some ⟨w.heap.size + 1, 0, none⟩)) rfl (by kernel_rfl) (by kernel_rfl) (by kernel_rfl) (fun _ _ _ h => h) (.inl ⟨by kernel_rfl, fun w _ => by kernel_rfl⟩) hS ?_
  simp only [List.getElem_toArray, List.getElem_cons_zero, List.getElem_cons_succ, Act.put, List.setIfInBounds_toArray, List.set_cons_zero, List.set_cons_succ]
  refine wpAnyH_take (i := 3) (v := .agg (adr t (ints Y))) rfl (by kernel_rfl) (by kernel_rfl) (by kernel_rfl) (fun _ _ _ h => h) (yields_addr (.tmp 7) rfl (w.heap.size + 1) (by kernel_rfl) t (ints Y) m (fun w h => h.2.1) LY.out (by kernel_rfl)) hS ?_
  simp only [List.getElem_toArray, List.getElem_cons_zero, List.getElem_cons_succ, Act.put, List.setIfInBounds_toArray, List.set_cons_zero, List.set_cons_succ]
  refine wpAnyH_take (i := 5) (v := .pointer (some ⟨w.heap.size, 17, none⟩)) rfl (by kernel_rfl) (by kernel_rfl) (by kernel_rfl) (fun _ _ _ h => h) (.inl ⟨by kernel_rfl, fun w _ => by kernel_rfl⟩) hS ?_
  simp only [List.getElem_toArray, List.getElem_cons_zero, List.getElem_cons_succ, Act.put, List.setIfInBounds_toArray, List.set_cons_zero, List.set_cons_succ]
  refine wpAnyH_take (i := 6) (v := .int .i64 n) rfl (by kernel_rfl) (by kernel_rfl) (by kernel_rfl) (fun _ _ _ h => h) (yields_cell (.tmp 10) rfl (w.heap.size) 17 (by kernel_rfl) n (fun w h => cid_bitsCell h.1 LX.out) (by kernel_rfl)) hS ?_
  simp only [List.getElem_toArray, List.getElem_cons_zero, List.getElem_cons_succ, Act.put, List.setIfInBounds_toArray, List.set_cons_zero, List.set_cons_succ]
  refine wpAnyH_take (i := 7) (v := .pointer (some ⟨w.heap.size + 1, 17, none⟩)) rfl (by kernel_rfl) (by kernel_rfl) (by kernel_rfl) (fun _ _ _ h => h) (.inl ⟨by kernel_rfl, fun w _ => by kernel_rfl⟩) hS ?_
  simp only [List.getElem_toArray, List.getElem_cons_zero, List.getElem_cons_succ, Act.put, List.setIfInBounds_toArray, List.set_cons_zero, List.set_cons_succ]
  refine wpAnyH_take (i := 8) (v := .int .i64 m) rfl (by kernel_rfl) (by kernel_rfl) (by kernel_rfl) (fun _ _ _ h => h) (yields_cell (.tmp 12) rfl (w.heap.size + 1) 17 (by kernel_rfl) m (fun w h => cid_bitsCell h.2.1 LY.out) (by kernel_rfl)) hS ?_
  simp only [List.getElem_toArray, List.getElem_cons_zero, List.getElem_cons_succ, Act.put, List.setIfInBounds_toArray, List.set_cons_zero, List.set_cons_succ]
  refine wpAnyH_ready (rs := [4]) (by kernel_rfl) (by simp) ?_
  refine AllReadyH.cons rfl (fun K' hK => ?_) AllReadyH.nil
  refine step_call 36 #[.agg (adr s (ints X)), .agg (adr t (ints Y))] (by kernel_rfl) (by kernel_rfl) (.int .i64 c) (CA.out _) (fun w1 hb1 => hK.out _ _ (⟨hS.1.kept hb1.1, hS.2.1.kept hb1.1, hS.2.2.then hb1⟩) (fun hS => ?_))
  simp only [List.getElem_toArray, List.getElem_cons_zero, List.getElem_cons_succ, Act.put, List.setIfInBounds_toArray, List.set_cons_zero, List.set_cons_succ]
  refine wpAnyH_ready (rs := [9]) (by kernel_rfl) (by simp) ?_
  refine AllReadyH.cons rfl (fun K' hK => ?_) AllReadyH.nil
  refine step_call 37 #[.int .i64 n, .int .i64 m] (by kernel_rfl) (by kernel_rfl) (.int .i64 d) (CC.out _) (fun w2 hb2 => hK.out _ _ (⟨hS.1.kept hb2.1, hS.2.1.kept hb2.1, hS.2.2.then hb2⟩) (fun hS => ?_))
  simp only [List.getElem_toArray, List.getElem_cons_zero, List.getElem_cons_succ, Act.put, List.setIfInBounds_toArray, List.set_cons_zero, List.set_cons_succ]
  refine wpAnyH_ready (rs := [10]) (by kernel_rfl) (by simp) ?_
  refine AllReadyH.cons rfl (fun K' hK => ?_) AllReadyH.nil
  obtain ⟨W3, hW3⟩ : ∃ W, W = w2.alloc (.cells #[.int .i64 c, .int .i64 d] 3) := ⟨_, rfl⟩
  have hb3 : Grw w2 W3 := hW3 ▸ Grw.alloc _ _
  have hB3 : Blk W3 w2.heap.size 3 #[.int .i64 c, .int .i64 d] := hW3 ▸ Blk.new w2 _ _
  refine step_run (.slice (some ⟨w2.heap.size, 0, none⟩) 2 2) W3 (by rw [hW3]; kernel_rfl) (by kernel_rfl) (hK.out _ _ (⟨hS.1.kept hb3.1, hS.2.1.kept hb3.1, hS.2.2.then hb3⟩) (fun hS => ?_))
  simp only [List.getElem_toArray, List.getElem_cons_zero, List.getElem_cons_succ, Act.put, List.setIfInBounds_toArray, List.set_cons_zero, List.set_cons_succ]
  refine wpAnyH_ready (rs := [11]) (by kernel_rfl) (by simp) ?_
  refine AllReadyH.cons rfl (fun K' hK => ?_) AllReadyH.nil
  refine step_call 35 #[.slice (some ⟨w2.heap.size, 0, none⟩) 2 2] (by kernel_rfl) (by kernel_rfl) (.int .i64 r) (CO.out _ _ hB3) (fun w4 hb4 => hK.out _ _ (⟨hS.1.kept hb4.1, hS.2.1.kept hb4.1, hS.2.2.then hb4⟩) (fun hS => ?_))
  simp only [List.getElem_toArray, List.getElem_cons_zero, List.getElem_cons_succ, Act.put, List.setIfInBounds_toArray, List.set_cons_zero, List.set_cons_succ]
  refine wpAnyH_take (i := 12) (v := .int .i64 r) rfl (by kernel_rfl) (by kernel_rfl) (by kernel_rfl) (fun _ _ _ h => h) (.inl ⟨by kernel_rfl, fun w _ => by kernel_rfl⟩) hS ?_
  simp only [List.getElem_toArray, List.getElem_cons_zero, List.getElem_cons_succ, Act.put, List.setIfInBounds_toArray, List.set_cons_zero, List.set_cons_succ]
  refine wpAnyH_done (by kernel_rfl) ?_ _
  obtain ⟨_, _, hbE⟩ := hS
  go_wp2
  go_ret
  exact ⟨ret_int HR.out, hbE⟩

end Go.Proofs.YtijboclcbbnhbaaGreatDoor

namespace Go.Proofs.YtijboclcbbnhbaaGreatDoor
open Go.RowKit

set_option maxHeartbeats 1000000 in
theorem any1_any (cs sa : Bool) (C A : List Nat) (hlc : C.length = 16) (hla : A.length = 16) (hA : ∀ x ∈ A, x < 256) (n : Int) (u u' : TypeId) (p p' : Value) (w : World) (hE : Env3 (.iface u p) (.iface u' p') w)
    (g : Nat) (hg : Blk w g 25 (adr sa (ints A))) :
    Calls Tryz.prog 25 #[.agg (cid cs (ints C) n), .pointer (some ⟨g, 0, none⟩)] w fun e w' => e = .returned (.bool (contC cs C n sa A)) ∧ Below w.heap.size w w' := by
  obtain ⟨W0, hW0⟩ : ∃ W, W = w.alloc (.cells (cid cs (ints C) n) 29) := ⟨_, rfl⟩
  have hB0 : Blk W0 w.heap.size 29 (cid cs (ints C) n) := hW0 ▸ Blk.new w _ _
  have hb0 : Below w.heap.size w W0 := hW0 ▸ (Below.refl _ _).alloc (Nat.le_refl _) _
  have HW0 := Lib.hid hW0.symm
  have HBc := Lib.hid hB0
  have HBa := Lib.hid (hg.kept hb0)
  have Hb0 := Lib.hid hb0
  have L18 : Hid (18 = (cid cs (ints C) n).size) := Lib.hid (by rw [cid_size, ints_length, hlc])
  have L17 : Hid (17 = (adr sa (ints A)).size) := Lib.hid (by simp [adr, ints_length, hla])
  have CQ := Lib.hid (cont_any cs sa C A hlc hla hA n u u' p p' W0 (hE.kept hb0))
  clear hW0 hB0 hb0 hlc hla hA hE hg
  generalize contC cs C n sa A = R at *
  go_enter Tryz.func25, Tryz.ntmps25
  go_upto_region 1 with fail
  rw [HW0.out]
  go_wp2_with (first | (refine wpl_load 29 _ rfl w.heap.size rfl _ _ _ HBc.out Tryz.underlying29 rfl 18 Tryz.infoCidr L18.out rfl ?_) | (refine wpl_load 25 _ rfl g rfl _ _ _ HBa.out Tryz.underlying25 rfl 17 Tryz.infoAddr L17.out rfl ?_))
  refine CQ.out.mono ?_
  rintro e w1 ⟨rfl, hb1⟩
  go_wp2
  go_ret
  exact ⟨rfl, bel2 Hb0.out hb1⟩
end Go.Proofs.YtijboclcbbnhbaaGreatDoor
