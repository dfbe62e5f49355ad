/-
  Keeping, of a rising list, each that the last kept one does not cover, gives the list of those that no other one covers, rising, each once. No program.
-/
import Derived.Test.YtijboclcbbnhbaaGreatDoorChecked
namespace Go.Proofs.YtijboclcbbnhbaaGreatDoor

/-- What the order and the covering are asked. -/
structure Cov {α : Type} (cmp : α → α → Int) (cov : α → α → Bool) (right : α → Bool) (D : α → Prop) : Prop where
  refl : ∀ a, D a → cmp a a = 0
  anti : ∀ a b, D a → D b → cmp a b = 0 → a = b
  swap : ∀ a b, D a → D b → cmp b a = - cmp a b
  trans : ∀ a b c, D a → D b → D c → cmp a b ≤ 0 → cmp b c ≤ 0 → cmp a c ≤ 0
  self : ∀ a, D a → right a = true → cov a a = true
  rights : ∀ a b, D a → D b → cov a b = true → right a = true
  first : ∀ a b, D a → D b → cov a b = true → a ≠ b → cmp a b < 0
  through : ∀ a b c, D a → D b → D c → cov a b = true → cov b c = true → cov a c = true
  between : ∀ a b c, D a → D b → D c → right b = true → cov a c = true → cmp a b ≤ 0 → cmp b c ≤ 0 → cov a b = true

section
variable {α : Type} {cmp : α → α → Int} {cov : α → α → Bool} {right : α → Bool} {D : α → Prop}

/-- Rising, each once. -/
def Rising (cmp : α → α → Int) (l : List α) : Prop := l.Pairwise fun a b => cmp a b < 0

theorem rising_eq (H : Cov cmp cov right D) : ∀ (x y : List α), (∀ a ∈ x, D a) → (∀ a ∈ y, D a) → Rising cmp x → Rising cmp y → (∀ a, a ∈ x ↔ a ∈ y) → x = y
  | [], [], _, _, _, _, _ => rfl
  | [], b :: y, _, _, _, _, h => by have := (h b).2 (by simp); cases this
  | a :: x, [], _, _, _, _, h => by have := (h a).1 (by simp); cases this
  | a :: x, b :: y, dx, dy, hx, hy, h => by
    have hx' := List.pairwise_cons.1 hx
    have hy' := List.pairwise_cons.1 hy
    have da := dx a (by simp)
    have db := dy b (by simp)
    have e : a = b := by
      rcases List.mem_cons.1 ((h a).1 (by simp)) with e | ha
      · exact e
      · rcases List.mem_cons.1 ((h b).2 (by simp)) with e | hb
        · exact e.symm
        · have h1 := hy'.1 a ha
          have h2 := hx'.1 b hb
          have h3 := H.swap a b da db
          omega
    subst e
    have hn : a ∉ x := fun ha => by have := hx'.1 a ha; have := H.refl a da; omega
    have hn' : a ∉ y := fun ha => by have := hy'.1 a ha; have := H.refl a da; omega
    rw [rising_eq H x y (fun c hc => dx c (by simp [hc])) (fun c hc => dy c (by simp [hc])) hx'.2 hy'.2 fun c => ?_]
    constructor
    · intro hc
      rcases List.mem_cons.1 ((h c).1 (by simp [hc])) with e | h'
      · exact absurd (e ▸ hc) hn
      · exact h'
    · intro hc
      rcases List.mem_cons.1 ((h c).2 (by simp [hc])) with e | h'
      · exact absurd (e ▸ hc) hn'
      · exact h'

/-- Of all of a list: right, and no other one covers it. -/
def Top (cov : α → α → Bool) (right : α → Bool) (l : List α) (c : α) : Prop := c ∈ l ∧ right c = true ∧ ∀ d ∈ l, d ≠ c → cov d c = false

/-- One more, if the last one does not cover it. -/
def keepStep (cov : α → α → Bool) (right : α → Bool) (m : List α) (c : α) : List α :=
  if right c && !(match m.getLast? with | some d => cov d c | none => false) then m ++ [c] else m

theorem rising_last (H : Cov cmp cov right D) {m : List α} {d : α} (dm : ∀ a ∈ m, D a) (hm : Rising cmp m) (hd : m.getLast? = some d) : ∀ a ∈ m, cmp a d ≤ 0 := fun a ha => by
  obtain ⟨ys, rfl⟩ := List.getLast?_eq_some_iff.1 hd
  rcases List.mem_append.1 ha with h | h
  · have := (List.pairwise_append.1 hm).2.2 a h d (by simp)
    omega
  · obtain rfl := List.mem_singleton.1 h
    have := H.refl a (dm a (by simp))
    omega

theorem filter_le {p q : α → Bool} : ∀ (l : List α), (∀ x ∈ l, p x = true → q x = true) → (l.filter p).length ≤ (l.filter q).length
  | [], _ => Nat.le_refl _
  | y :: l, h => by
    have ih := filter_le l fun x hx => h x (by simp [hx])
    cases hp : p y with
    | true => rw [List.filter_cons_of_pos hp, List.filter_cons_of_pos (h y (by simp) hp)]; simp; omega
    | false =>
      rw [List.filter_cons_of_neg (by simp [hp])]
      cases hq : q y with
      | true => rw [List.filter_cons_of_pos hq]; simp; omega
      | false => rw [List.filter_cons_of_neg (by simp [hq])]; exact ih
theorem filter_lt {p q : α → Bool} (e : α) (hp : p e = false) (hq : q e = true) : ∀ (l : List α), e ∈ l → (∀ x ∈ l, p x = true → q x = true) → (l.filter p).length < (l.filter q).length
  | [], he, _ => by cases he
  | y :: l, he, h => by
    have hl := filter_le l fun x hx => h x (by simp [hx])
    rcases List.mem_cons.1 he with rfl | he
    · rw [List.filter_cons_of_neg (by simp [hp]), List.filter_cons_of_pos hq]
      simp
      omega
    · have ih := filter_lt e hp hq l he fun x hx => h x (by simp [hx])
      cases hpy : p y with
      | true => rw [List.filter_cons_of_pos hpy, List.filter_cons_of_pos (h y (by simp) hpy)]; simp; omega
      | false =>
        rw [List.filter_cons_of_neg (by simp [hpy])]
        cases hqy : q y with
        | true => rw [List.filter_cons_of_pos hqy]; simp; omega
        | false => rw [List.filter_cons_of_neg (by simp [hqy])]; exact ih

/-- The least of those that cover one is covered by no other one. -/
theorem least_top (H : Cov cmp cov right D) (l : List α) (dl : ∀ a ∈ l, D a) (c : α) (hc : c ∈ l) : ∀ (n : Nat) (d : α), d ∈ l → cov d c = true → (l.filter fun e => decide (cmp e d < 0)).length ≤ n → ∃ t, Top cov right l t ∧ cov t c = true
  | n, d, hd, hcov, hn => by
    by_cases h : ∃ e ∈ l, e ≠ d ∧ cov e d = true
    · obtain ⟨e, he, hne, hed⟩ := h
      have hlt := H.first e d (dl e he) (dl d hd) hed hne
      have hec := H.through e d c (dl e he) (dl d hd) (dl c hc) hed hcov
      have hless : (l.filter fun x => decide (cmp x e < 0)).length < (l.filter fun x => decide (cmp x d < 0)).length := by
        have hsub : ∀ x ∈ l, decide (cmp x e < 0) = true → decide (cmp x d < 0) = true := fun x hx h1 => by
          have h1 := of_decide_eq_true h1
          have h2 := H.trans x e d (dl x hx) (dl e he) (dl d hd) (by omega) (by omega)
          have h3 : cmp x d ≠ 0 := fun h0 => by
            have e1 := H.anti x d (dl x hx) (dl d hd) h0
            subst e1
            have := H.swap e x (dl e he) (dl x hx)
            omega
          exact decide_eq_true (by omega)
        exact filter_lt e (by have := H.refl e (dl e he); exact decide_eq_false (by omega)) (decide_eq_true hlt) l he hsub
      cases n with
      | zero => omega
      | succ n => exact least_top H l dl c hc n e he hec (by omega)
    · refine ⟨d, ⟨hd, H.rights d c (dl d hd) (dl c hc) hcov, fun e he hne => ?_⟩, hcov⟩
      cases h' : cov e d with
      | false => rfl
      | true => exact absurd ⟨e, he, hne, h'⟩ h

/-- The list so far, of what has come so far. -/
def Inv (cmp : α → α → Int) (cov : α → α → Bool) (right : α → Bool) (l pre m : List α) : Prop := Rising cmp m ∧ ∀ a, a ∈ m ↔ a ∈ pre ∧ Top cov right l a

theorem keep_step (H : Cov cmp cov right D) (l : List α) (dl : ∀ a ∈ l, D a) (pre m : List α) (c : α) (hc : c ∈ l) (hpre : ∀ a ∈ pre, a ∈ l) (hle : ∀ a ∈ pre, cmp a c ≤ 0) (hall : ∀ a ∈ l, cmp a c < 0 → a ∈ pre) (hI : Inv cmp cov right l pre m) :
    Inv cmp cov right l (pre ++ [c]) (keepStep cov right m c) := by
  obtain ⟨hr, hm⟩ := hI
  have dm : ∀ a ∈ m, D a := fun a ha => dl a (hpre a ((hm a).1 ha).1)
  have dc := dl c hc
  unfold keepStep
  cases hrc : right c with
  | false =>
    rw [if_neg (by simp)]
    refine ⟨hr, fun a => ?_⟩
    rw [hm a]
    constructor
    · rintro ⟨h1, h2⟩
      exact ⟨by simp [h1], h2⟩
    · rintro ⟨h1, h2⟩
      rcases List.mem_append.1 h1 with h1 | h1
      · exact ⟨h1, h2⟩
      · obtain rfl := List.mem_singleton.1 h1
        have := h2.2.1
        rw [hrc] at this
        cases this
  | true =>
    have new : (∀ d, m.getLast? = some d → cov d c = false) → Inv cmp cov right l (pre ++ [c]) (m ++ [c]) := fun hno => by
      have hcm : c ∉ m := fun h => by
        cases hd : m.getLast? with
        | none => rw [List.getLast?_eq_none_iff.1 hd] at h; cases h
        | some d =>
          have hdm : d ∈ m := List.mem_of_getLast? hd
          have h1 := rising_last H dm hr hd c h
          have h2 := hle d ((hm d).1 hdm).1
          have h3 := H.swap c d dc (dm d hdm)
          have e := H.anti c d dc (dm d hdm) (by omega)
          subst e
          have := hno c hd
          rw [H.self c dc hrc] at this
          cases this
      have htop : Top cov right l c := ⟨hc, hrc, fun d hd hne => by
        cases hcov : cov d c with
        | false => rfl
        | true =>
          obtain ⟨t, ht, htc⟩ := least_top H l dl c hc _ d hd hcov (Nat.le_refl _)
          by_cases e : t = c
          · subst e
            rw [ht.2.2 d hd hne] at hcov
            cases hcov
          · have hlt := H.first t c (dl t ht.1) dc htc e
            have htm : t ∈ m := (hm t).2 ⟨hall t ht.1 hlt, ht⟩
            cases hdl : m.getLast? with
            | none => rw [List.getLast?_eq_none_iff.1 hdl] at htm; cases htm
            | some k =>
              have hkm : k ∈ m := List.mem_of_getLast? hdl
              have hk := (hm k).1 hkm
              have h1 := rising_last H dm hr hdl t htm
              have hb := H.between t k c (dl t ht.1) (dm k hkm) dc hk.2.2.1 htc h1 (hle k hk.1)
              by_cases e2 : t = k
              · subst e2
                rw [hno t hdl] at htc
                cases htc
              · rw [hk.2.2.2 t ht.1 e2] at hb
                cases hb⟩
      refine ⟨List.pairwise_append.2 ⟨hr, by simp, fun a ha b hb => ?_⟩, fun a => ?_⟩
      · obtain rfl := List.mem_singleton.1 hb
        have h1 := hle a ((hm a).1 ha).1
        have h2 : cmp a b ≠ 0 := fun h0 => hcm (H.anti a b (dm a ha) dc h0 ▸ ha)
        omega
      · rw [List.mem_append, List.mem_append, hm a]
        constructor
        · rintro (⟨h1, h2⟩ | h1)
          · exact ⟨.inl h1, h2⟩
          · exact ⟨.inr h1, List.mem_singleton.1 h1 ▸ htop⟩
        · rintro ⟨h1 | h1, h2⟩
          · exact .inl ⟨h1, h2⟩
          · exact .inr h1
    have old : ∀ d, m.getLast? = some d → cov d c = true → Inv cmp cov right l (pre ++ [c]) m := fun d hd hcov => by
      have hdm : d ∈ m := List.mem_of_getLast? hd
      have hdd := (hm d).1 hdm
      refine ⟨hr, fun a => ?_⟩
      rw [hm a]
      constructor
      · rintro ⟨h1, h2⟩
        exact ⟨by simp [h1], h2⟩
      · rintro ⟨h1, h2⟩
        rcases List.mem_append.1 h1 with h1 | h1
        · exact ⟨h1, h2⟩
        · obtain rfl := List.mem_singleton.1 h1
          by_cases e : d = a
          · subst e
            exact ⟨hdd.1, h2⟩
          · rw [h2.2.2 d hdd.2.1 e] at hcov
            cases hcov
    cases hd : m.getLast? with
    | none =>
      rw [if_pos (by simp)]
      exact new fun d h => by rw [hd] at h; cases h
    | some d =>
      by_cases hcov : cov d c = true
      · rw [if_neg (by simp [hcov])]
        exact old d hd hcov
      · rw [if_pos (by simp [hcov])]
        exact new fun d' h => by rw [hd] at h; cases h; simpa using hcov

/-- All of a rising list, one after another. -/
theorem keep_all (H : Cov cmp cov right D) (l : List α) (dl : ∀ a ∈ l, D a) : ∀ (post pre m : List α), (pre ++ post).Pairwise (fun a b => cmp a b ≤ 0) → (∀ a, a ∈ pre ++ post ↔ a ∈ l) → Inv cmp cov right l pre m →
    Inv cmp cov right l (pre ++ post) (post.foldl (keepStep cov right) m)
  | [], pre, m, _, _, hI => by simpa using hI
  | c :: post, pre, m, hs, hm, hI => by
    have hp := List.pairwise_append.1 hs
    have hc : c ∈ l := (hm c).1 (by simp)
    have hpre : ∀ a ∈ pre, a ∈ l := fun a ha => (hm a).1 (by simp [ha])
    have hstep := keep_step H l dl pre m c hc hpre (fun a ha => hp.2.2 a ha c (by simp)) (fun a ha hlt => by
      rcases List.mem_append.1 ((hm a).2 ha) with h | h
      · exact h
      · rcases List.mem_cons.1 h with rfl | h
        · have := H.refl a (dl a hc)
          omega
        · have h1 := (List.pairwise_cons.1 hp.2.1).1 a h
          have h2 := H.swap c a (dl c hc) (dl a ha)
          omega) hI
    have := keep_all H l dl post (pre ++ [c]) (keepStep cov right m c) (by simpa using hs) (fun a => by rw [← hm a]; simp) hstep
    simpa using this

/-! ### The document's way -/
/-- Where one goes in, from the end on. -/
def insPos (cmp : α → α → Int) (c : α) (out : List α) : Nat → Nat
  | 0 => 0
  | k + 1 => match out[k]? with
    | some x => if cmp c x < 0 then insPos cmp c out k else k + 1
    | none => k + 1
def insIn (cmp : α → α → Int) (c : α) (out : List α) : List α := out.take (insPos cmp c out out.length) ++ c :: out.drop (insPos cmp c out out.length)

theorem insPos_le (c : α) (out : List α) : ∀ k, insPos cmp c out k ≤ k
  | 0 => Nat.le_refl _
  | k + 1 => by
    unfold insPos
    split
    · split
      · have := insPos_le c out k
        omega
      · exact Nat.le_refl _
    · exact Nat.le_refl _
theorem insPos_behind (c : α) (out : List α) : ∀ k, k ≤ out.length → ∀ j, insPos cmp c out k ≤ j → j < k → ∃ x, out[j]? = some x ∧ cmp c x < 0
  | 0, _, j, _, h => by omega
  | k + 1, hk, j, h1, h2 => by
    unfold insPos at h1
    have hx : out[k]? = some (out[k]'(by omega)) := List.getElem?_eq_getElem (by omega)
    rw [hx] at h1
    simp only at h1
    split at h1
    · rename_i hlt
      by_cases e : j = k
      · exact ⟨_, e ▸ hx, hlt⟩
      · exact insPos_behind c out k (by omega) j h1 (by omega)
    · omega
theorem insPos_ahead (c : α) (out : List α) : ∀ k, k ≤ out.length → 0 < insPos cmp c out k → ∃ x, out[insPos cmp c out k - 1]? = some x ∧ ¬ cmp c x < 0
  | 0, _, h => by simp [insPos] at h
  | k + 1, hk, h => by
    have hx : out[k]? = some (out[k]'(by omega)) := List.getElem?_eq_getElem (by omega)
    unfold insPos at h ⊢
    rw [hx] at h ⊢
    simp only at h ⊢
    split at h
    · rename_i hlt
      rw [if_pos hlt]
      exact insPos_ahead c out k (by omega) h
    · rename_i hlt
      rw [if_neg hlt]
      exact ⟨_, hx, hlt⟩

theorem ins_mem (c : α) (out : List α) (a : α) : a ∈ insIn cmp c out ↔ a = c ∨ a ∈ out := by
  unfold insIn
  generalize insPos cmp c out out.length = k
  have h := List.take_append_drop k out
  rw [List.mem_append, List.mem_cons]
  constructor
  · rintro (h1 | rfl | h1)
    · exact .inr (List.mem_of_mem_take h1)
    · exact .inl rfl
    · exact .inr (List.mem_of_mem_drop h1)
  · rintro (rfl | h1)
    · exact .inr (.inl rfl)
    · rw [← h] at h1
      rcases List.mem_append.1 h1 with h1 | h1
      · exact .inl h1
      · exact .inr (.inr h1)

theorem ins_rising (H : Cov cmp cov right D) (c : α) (dc : D c) (out : List α) (dout : ∀ a ∈ out, D a) (hr : Rising cmp out) (hn : c ∉ out) : Rising cmp (insIn cmp c out) := by
  have hb := insPos_behind (cmp := cmp) c out out.length (Nat.le_refl _)
  have ha := insPos_ahead (cmp := cmp) c out out.length (Nat.le_refl _)
  have hle := insPos_le (cmp := cmp) c out out.length
  unfold insIn
  generalize insPos cmp c out out.length = k at *
  have hsplit := List.pairwise_append.1 (show (out.take k ++ out.drop k).Pairwise _ by rw [List.take_append_drop]; exact hr)
  have hbeh : ∀ x ∈ out.drop k, cmp c x < 0 := fun x hx => by
    obtain ⟨j, hj, rfl⟩ := List.getElem_of_mem hx
    rw [List.length_drop] at hj
    obtain ⟨y, hy, hlt⟩ := hb (k + j) (by omega) (by omega)
    rw [List.getElem_drop]
    rw [List.getElem?_eq_getElem (by omega)] at hy
    rw [Option.some.inj hy]
    exact hlt
  have hah : ∀ x ∈ out.take k, cmp x c < 0 := fun x hx => by
    have hk : 0 < k := by
      cases k with
      | zero => simp at hx
      | succ k => omega
    obtain ⟨y, hy, hlt⟩ := ha hk
    have hkl : k - 1 < out.length := by omega
    rw [List.getElem?_eq_getElem hkl] at hy
    cases hy
    have dy := dout _ (List.getElem_mem hkl)
    have hx0 := List.mem_of_mem_take hx
    have dx := dout x hx0
    have hyc : cmp out[k - 1] c ≤ 0 := by have := H.swap c out[k - 1] dc dy; omega
    have hxy : cmp x out[k - 1] ≤ 0 := by
      obtain ⟨j, hj, rfl⟩ := List.getElem_of_mem hx
      rw [List.length_take] at hj
      rw [List.getElem_take]
      by_cases e : j = k - 1
      · subst e
        have := H.refl _ dy
        omega
      · have := List.pairwise_iff_getElem.1 hr j (k - 1) (by omega) hkl (by omega)
        omega
    have h1 := H.trans x out[k - 1] c dx dy dc hxy hyc
    have h2 : cmp x c ≠ 0 := fun h0 => hn (H.anti x c dx dc h0 ▸ hx0)
    omega
  refine List.pairwise_append.2 ⟨hsplit.1, List.pairwise_cons.2 ⟨hbeh, hsplit.2.1⟩, fun x hx y hy => ?_⟩
  rcases List.mem_cons.1 hy with rfl | hy
  · exact hah x hx
  · exact hsplit.2.2 x hx y hy

/-- Does the one at place i stay? -/
def Stays (cov : α → α → Bool) (right : α → Bool) (l : List α) (i : Nat) (c : α) : Prop := right c = true ∧ ∀ j d, l[j]? = some d → j ≠ i → ¬ (cov d c = true ∧ (d ≠ c ∨ j < i))

theorem stays_iff (H : Cov cmp cov right D) (l : List α) (dl : ∀ a ∈ l, D a) (i : Nat) (c : α) (hi : l[i]? = some c) : Stays cov right l i c ↔ Top cov right l c ∧ c ∉ l.take i := by
  have hc : c ∈ l := List.mem_of_getElem? hi
  constructor
  · rintro ⟨hr, h⟩
    refine ⟨⟨hc, hr, fun d hd hne => ?_⟩, fun hm => ?_⟩
    · obtain ⟨j, hj, rfl⟩ := List.getElem_of_mem hd
      have hji : j ≠ i := fun e => by
        subst e
        rw [List.getElem?_eq_getElem hj] at hi
        exact hne (Option.some.inj hi)
      cases hcov : cov l[j] c with
      | false => rfl
      | true => exact absurd ⟨hcov, .inl hne⟩ (h j _ (List.getElem?_eq_getElem hj) hji)
    · obtain ⟨j, hj, e⟩ := List.getElem_of_mem hm
      rw [List.length_take] at hj
      rw [List.getElem_take] at e
      exact h j c (by rw [List.getElem?_eq_getElem (by omega), e]) (by omega) ⟨H.self c (dl c hc) hr, .inr (by omega)⟩
  · rintro ⟨⟨_, hr, h⟩, hn⟩
    refine ⟨hr, fun j d hj hne => ?_⟩
    rintro ⟨hcov, hd⟩
    have hjl := (List.getElem?_eq_some_iff.1 hj).1
    by_cases e : d = c
    · subst e
      rcases hd with hd | hd
      · exact hd rfl
      · exact hn (List.mem_of_getElem? (i := j) (by rw [List.getElem?_take_of_lt hd]; exact hj))
    · rw [h d (List.mem_of_getElem? hj) e] at hcov
      cases hcov

/-- The document's list, of the first k. -/
def DocOf (cmp : α → α → Int) (cov : α → α → Bool) (right : α → Bool) (l : List α) (k : Nat) (out : List α) : Prop := Inv cmp cov right l (l.take k) out

theorem doc_skip (H : Cov cmp cov right D) (l : List α) (dl : ∀ a ∈ l, D a) (k : Nat) (c : α) (hk : l[k]? = some c) (out : List α) (h : DocOf cmp cov right l k out) (hs : ¬ Stays cov right l k c) : DocOf cmp cov right l (k + 1) out := by
  have hkl := (List.getElem?_eq_some_iff.1 hk).1
  have e : l.take (k + 1) = l.take k ++ [c] := by rw [List.take_add_one, hk]; rfl
  refine ⟨h.1, fun a => ?_⟩
  rw [h.2 a, e, List.mem_append, List.mem_singleton]
  constructor
  · rintro ⟨h1, h2⟩
    exact ⟨.inl h1, h2⟩
  · rintro ⟨h1 | rfl, h2⟩
    · exact ⟨h1, h2⟩
    · by_cases hm : a ∈ l.take k
      · exact ⟨hm, h2⟩
      · exact absurd ((stays_iff H l dl k a hk).2 ⟨h2, hm⟩) hs
theorem doc_put (H : Cov cmp cov right D) (l : List α) (dl : ∀ a ∈ l, D a) (k : Nat) (c : α) (hk : l[k]? = some c) (out : List α) (h : DocOf cmp cov right l k out) (hs : Stays cov right l k c) : DocOf cmp cov right l (k + 1) (insIn cmp c out) := by
  obtain ⟨ht, hn⟩ := (stays_iff H l dl k c hk).1 hs
  have e : l.take (k + 1) = l.take k ++ [c] := by rw [List.take_add_one, hk]; rfl
  have hout : ∀ a ∈ out, D a := fun a ha => dl a (List.mem_of_mem_take ((h.2 a).1 ha).1)
  refine ⟨ins_rising H c (dl c ht.1) out hout h.1 (fun hc => hn ((h.2 c).1 hc).1), fun a => ?_⟩
  rw [ins_mem, h.2 a, e, List.mem_append, List.mem_singleton]
  constructor
  · rintro (rfl | ⟨h1, h2⟩)
    · exact ⟨.inr rfl, ht⟩
    · exact ⟨.inl h1, h2⟩
  · rintro ⟨h1 | rfl, h2⟩
    · exact .inr ⟨h1, h2⟩
    · exact .inl rfl

/-- Both ways give one list. -/
theorem merge_same (H : Cov cmp cov right D) (l srt out : List α) (dl : ∀ a ∈ l, D a) (hs : srt.Pairwise fun a b => cmp a b ≤ 0) (hm : ∀ a, a ∈ srt ↔ a ∈ l) (hd : DocOf cmp cov right l l.length out) : srt.foldl (keepStep cov right) [] = out := by
  have hk := keep_all H l dl srt [] [] (by simpa using hs) (by simpa using hm) ⟨List.Pairwise.nil, fun a => by simp⟩
  have hd' := hd.2
  rw [List.take_length] at hd'
  refine rising_eq H _ _ (fun a ha => dl a ((hm a).1 (by simpa using ((hk.2 a).1 ha).1))) (fun a ha => dl a ((hd' a).1 ha).1) hk.1 hd.1 fun a => ?_
  rw [hk.2 a, hd' a, List.nil_append, hm a]
end
end Go.Proofs.YtijboclcbbnhbaaGreatDoor
