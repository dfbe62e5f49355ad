/-
  Plain facts on the texts of points: a port's figures, brackets, the last colon. No program.
-/
import Derived.Test.YtnfkgoeocebenaaGreatDoorParsed
import Derived.Lib.LastIndexLaws
namespace Go.Proofs.YtnfkgoeocebenaaGreatDoor
open Go.Lib

/-- A port's figures. -/
def port (l : List UInt8) : Option Nat := if figs 10 l = true ∧ 1 ≤ numb 10 0 l ∧ numb 10 0 l ≤ 65535 ∧ l.head? ≠ some 48 then some (numb 10 0 l) else none

theorem parse16_to (l : List UInt8) : ∀ acc, figs 10 l = true → numb 10 acc l ≤ 65535 → parseUintM 65535 acc l = .ok (numb 10 acc l) := by
  induction l with
  | nil => intro acc _ _; rfl
  | cons c l ih =>
    intro acc h1 h2
    have hc0 : fig c < 10 := by simpa using List.all_eq_true.1 h1 c (by simp)
    have hc := (fig10 c).1 hc0
    have hfig : fig c = c.toNat - 48 := by unfold fig; rw [if_pos hc]
    have e : numb 10 acc (c :: l) = numb 10 (acc * 10 + (c.toNat - 48)) l := by rw [numb, hfig]
    rw [e] at h2 ⊢
    have hge := numb_ge 10 (by omega) l (acc * 10 + (c.toNat - 48))
    have hcut : ¬ 1844674407370955162 ≤ acc := by omega
    have hov : ¬ 65535 < acc * 10 + (c.toNat - 48) := by omega
    have e' : parseUintM 65535 acc (c :: l) = parseUintM 65535 (acc * 10 + (c.toNat - 48)) l := by simp [parseUintM, hc, hcut, hov]
    rw [e']
    exact ih _ (List.all_eq_true.2 fun x hx => List.all_eq_true.1 h1 x (by simp [hx])) h2

theorem parse16_ok (l : List UInt8) : ∀ acc u, acc ≤ 65535 → parseUintM 65535 acc l = .ok u → figs 10 l = true ∧ numb 10 acc l ≤ 65535 ∧ u = numb 10 acc l := by
  induction l with
  | nil => intro acc u h e; simp [parseUintM] at e; exact ⟨rfl, h, e.symm⟩
  | cons c l ih =>
    intro acc u h e
    by_cases hc : 48 ≤ c.toNat ∧ c.toNat ≤ 57
    · have hcut : ¬ 1844674407370955162 ≤ acc := by omega
      have hfig : fig c = c.toNat - 48 := by unfold fig; rw [if_pos hc]
      by_cases hov : 65535 < acc * 10 + (c.toNat - 48)
      · simp [parseUintM, hc, hcut, hov] at e
      · have e' : parseUintM 65535 acc (c :: l) = parseUintM 65535 (acc * 10 + (c.toNat - 48)) l := by simp [parseUintM, hc, hcut, hov]
        obtain ⟨h1, h2, h3⟩ := ih _ _ (by omega) (e' ▸ e)
        refine ⟨?_, ?_, ?_⟩
        · simp only [figs, List.all_cons, Bool.and_eq_true]
          exact ⟨by simpa using (fig10 c).2 hc, h1⟩
        · unfold numb; rw [hfig]; exact h2
        · rw [h3]; conv => rhs; unfold numb
          rw [hfig]
    · simp [parseUintM, hc] at e

theorem head_pos (l : List UInt8) (hne : l ≠ []) (h1 : figs 10 l = true) (hz : l.head? ≠ some 48) : ∃ c r, l = c :: r ∧ 1 ≤ fig c ∧ fig c < 10 := by
  cases l with
  | nil => exact absurd rfl hne
  | cons c r =>
    have hc : fig c < 10 := by simpa using List.all_eq_true.1 h1 c (by simp)
    have hc' := (fig10 c).1 hc
    have : c.toNat ≠ 48 := fun e => hz (by simp; exact UInt8.toNat_inj.1 e)
    have hfig : fig c = c.toNat - 48 := by unfold fig; rw [if_pos hc']
    exact ⟨c, r, rfl, by omega, hc⟩

theorem port_ok (l : List UInt8) (u : Nat) (h : parseUintB 16 l = .ok u) (hz : l.head? ≠ some 48) : port l = some u := by
  unfold parseUintB at h
  split at h
  · cases h
  · rename_i hne
    obtain ⟨h1, h2, h3⟩ := parse16_ok l 0 u (by omega) h
    obtain ⟨c, r, rfl, hc, _⟩ := head_pos l hne h1 hz
    have := numb_ge 10 (by omega) r (fig c)
    have e : numb 10 0 (c :: r) = numb 10 (fig c) r := by simp [numb]
    unfold port
    rw [if_pos ⟨h1, by omega, h2, hz⟩, h3]

theorem port_zero (l : List UInt8) (hz : l.head? = some 48) : port l = none := by
  unfold port
  rw [if_neg (fun h => h.2.2.2 hz)]

theorem port_bad (l : List UInt8) (h : ∀ u, parseUintB 16 l ≠ .ok u) : port l = none := by
  unfold port
  rw [if_neg]
  rintro ⟨h1, h2, h3, h4⟩
  apply h (numb 10 0 l)
  have hne : l ≠ [] := fun e => by rw [e] at h2; simp [numb] at h2
  unfold parseUintB
  rw [if_neg hne, show 2 ^ 16 - 1 = 65535 from rfl, parse16_to l 0 h1 h3]

theorem numb_add (b : Nat) : ∀ (l : List UInt8) (n : Nat), numb b n l = n * b ^ l.length + numb b 0 l
  | [], n => by simp [numb]
  | c :: l, n => by
    have h1 := numb_add b l (n * b + fig c)
    have h2 := numb_add b l (0 * b + fig c)
    rw [numb, numb, h1, h2, List.length_cons, Nat.pow_succ]
    simp only [Nat.add_mul, Nat.zero_mul, Nat.zero_add]
    rw [Nat.mul_assoc n b, Nat.mul_comm b (b ^ l.length)]
    omega

theorem port_len {l : List UInt8} {u : Nat} (h : port l = some u) : 1 ≤ l.length ∧ l.length ≤ 5 ∧ 1 ≤ u ∧ u ≤ 65535 ∧ figs 10 l = true := by
  unfold port at h
  split at h
  · rename_i hh
    cases h
    obtain ⟨h1, h2, h3, h4⟩ := hh
    have hne : l ≠ [] := fun e => by rw [e] at h2; simp [numb] at h2
    refine ⟨List.length_pos_iff.2 hne, ?_, h2, h3, h1⟩
    obtain ⟨c, r, rfl, hc, _⟩ := head_pos l hne h1 h4
    have e : numb 10 0 (c :: r) = numb 10 (fig c) r := by simp [numb]
    have := numb_add 10 r (fig c)
    rw [e] at h3
    rw [this] at h3
    rcases Nat.lt_or_ge r.length 5 with h | h
    · simp; omega
    · exfalso
      have h5 : (10 : Nat) ^ 5 ≤ 10 ^ r.length := Nat.pow_le_pow_right (by omega) h
      have h6 : 1 * 10 ^ r.length ≤ fig c * 10 ^ r.length := Nat.mul_le_mul_right _ hc
      omega
  · cases h

/-- Does a text stand in brackets? -/
def brk (l : List UInt8) : Bool := hasPrefix l [91] && hasSuffix l [93]
/-- What stands between them. -/
def inner (l : List UInt8) : List UInt8 := (l.take (l.length - 1)).drop 1

theorem pre1 (l : List UInt8) (c : UInt8) : hasPrefix l [c] = (l.head? == some c) := by
  cases l with
  | nil => rfl
  | cons x l =>
    by_cases h : x = c
    · subst h
      simp [hasPrefix, List.isPrefixOf]
    · have h' : ¬ c = x := fun e => h e.symm
      have h1 : (c == x) = false := beq_eq_false_iff_ne.2 h'
      have h2 : (x == c) = false := beq_eq_false_iff_ne.2 h
      simp [hasPrefix, List.isPrefixOf]
      rw [h1, h2]
theorem suf1 (l : List UInt8) (c : UInt8) : hasSuffix l [c] = (l.getLast? == some c) := by
  unfold hasSuffix List.isSuffixOf
  have := pre1 l.reverse c
  unfold hasPrefix at this
  rw [List.reverse_singleton, this, List.head?_reverse]

/-- The address ahead of a port. -/
def paddr (l : List UInt8) : Option (Bool × List Int) :=
  match parsed (if brk l = true then inner l else l) with
  | some (s, b) => if s = brk l then some (s, b) else none
  | none => none

/-- What a text is: a point, or none. -/
def pres (l : List UInt8) : Option ((Bool × List Int) × Nat) :=
  if lastIndex l [58] < 0 then none else
    match paddr (l.take (lastIndex l [58]).toNat), port (l.drop ((lastIndex l [58]).toNat + 1)) with
    | some x, some n => some (x, n)
    | _, _ => none

theorem last_at (l : List UInt8) (c : Nat) (hc : l[c]? = some 58) (hn : (58 : UInt8) ∉ l.drop (c + 1)) : lastIndex l [58] = (c : Int) := by
  have hcl : c < l.length := (List.getElem?_eq_some_iff.1 hc).1
  have ho : ∀ j, j < l.length → (occAt l [58] j = true ↔ l[j]? = some 58) := fun j hj => by
    rw [occ1 l 58 j hj, beq_iff_eq, List.getElem?_eq_getElem hj]
    constructor
    · intro h; rw [h]
    · intro h; exact (Option.some.inj h).symm
  unfold lastIndex
  rw [if_pos (by simp; omega)]
  simp only [List.length_singleton]
  rcases lastOcc_spec l [58] (l.length - 1 + 1) with ⟨_, h2⟩ | ⟨i, h1, h2, h3, h4⟩
  · have := h2 c (by omega)
    rw [(ho c hcl).2 hc] at this
    cases this
  · rw [h2]
    congr 1
    rcases Nat.lt_trichotomy i c with h | h | h
    · have := h4 c h (by omega)
      rw [(ho c hcl).2 hc] at this
      cases this
    · exact h
    · have h5 := (ho i (by omega)).1 h3
      exact absurd (List.mem_of_getElem? (i := i - (c + 1)) (by rw [List.getElem?_drop]; rw [show c + 1 + (i - (c + 1)) = i by omega]; exact h5)) hn

theorem last_cases (l : List UInt8) : (lastIndex l [58] = -1 ∧ (58 : UInt8) ∉ l) ∨ ∃ c : Nat, lastIndex l [58] = (c : Int) ∧ l[c]? = some 58 ∧ (58 : UInt8) ∉ l.drop (c + 1) ∧ c < l.length := by
  have ho : ∀ j, j < l.length → (occAt l [58] j = true ↔ l[j]? = some 58) := fun j hj => by
    rw [occ1 l 58 j hj, beq_iff_eq, List.getElem?_eq_getElem hj]
    constructor
    · intro h; rw [h]
    · intro h; exact (Option.some.inj h).symm
  unfold lastIndex
  by_cases h0 : l.length = 0
  · left
    have : l = [] := List.length_eq_zero_iff.1 h0
    subst this
    simp
  · rw [if_pos (by simp; omega)]
    simp only [List.length_singleton]
    rcases lastOcc_spec l [58] (l.length - 1 + 1) with ⟨h1, h2⟩ | ⟨i, h1, h2, h3, h4⟩
    · refine .inl ⟨h1, fun hm => ?_⟩
      obtain ⟨j, hj, ej⟩ := List.getElem_of_mem hm
      have := h2 j (by omega)
      rw [(ho j hj).2 (by rw [List.getElem?_eq_getElem hj, ej])] at this
      cases this
    · refine .inr ⟨i, h2, (ho i (by omega)).1 h3, fun hm => ?_, by omega⟩
      obtain ⟨j, hj, ej⟩ := List.getElem_of_mem hm
      rw [List.length_drop] at hj
      rw [List.getElem_drop] at ej
      have := h4 (i + 1 + j) (by omega) (by omega)
      rw [(ho (i + 1 + j) (by omega)).2 (by rw [List.getElem?_eq_getElem (by omega), ej])] at this
      cases this

theorem figs_colon (p : List UInt8) (h : figs 10 p = true) : (58 : UInt8) ∉ p := fun hm => by
  have := List.all_eq_true.1 h 58 hm
  revert this
  decide

/-- Behind a colon nothing but figures. -/
theorem pres_at (l : List UInt8) (c : Nat) (hc : l[c]? = some 58) (hf : figs 10 (l.drop (c + 1)) = true) :
    pres l = match paddr (l.take c), port (l.drop (c + 1)) with | some x, some n => some (x, n) | _, _ => none := by
  have h := last_at l c hc (figs_colon _ hf)
  unfold pres
  rw [h, if_neg (by omega), Int.toNat_natCast]

/-- A byte that is no colon ahead of figures alone, and is no figure, or they are too many. -/
theorem pres_no (l : List UInt8) (c : Nat) (x : UInt8) (hc : l[c]? = some x) (hx : x ≠ 58) (hf : figs 10 (l.drop (c + 1)) = true) (h : ¬ fig x < 10 ∨ c + 6 ≤ l.length) : pres l = none := by
  unfold pres
  have hcl : c < l.length := (List.getElem?_eq_some_iff.1 hc).1
  rcases last_cases l with ⟨h1, _⟩ | ⟨k, h1, h2, h3, h4⟩
  · rw [h1, if_pos (by omega)]
  · rw [h1, if_neg (by omega), Int.toNat_natCast]
    have hkc : k < c := by
      rcases Nat.lt_trichotomy k c with h | h | h
      · exact h
      · rw [h, hc] at h2
        exact absurd (Option.some.inj h2) hx
      · exact absurd (List.mem_of_getElem? (i := k - (c + 1)) (by rw [List.getElem?_drop]; rw [show c + 1 + (k - (c + 1)) = k by omega]; exact h2)) (figs_colon _ hf)
    have hno : port (l.drop (k + 1)) = none := by
      cases hp : port (l.drop (k + 1)) with
      | none => rfl
      | some u =>
        exfalso
        obtain ⟨_, hl5, _, _, hfg⟩ := port_len hp
        rw [List.length_drop] at hl5
        rcases h with h | h
        · have hm : x ∈ l.drop (k + 1) := List.mem_of_getElem? (i := c - (k + 1)) (by rw [List.getElem?_drop]; rw [show k + 1 + (c - (k + 1)) = c by omega]; exact hc)
          exact h (by simpa using List.all_eq_true.1 hfg x hm)
        · omega
    rw [hno]
    cases paddr (l.take k) <;> rfl

theorem pres_figs (l : List UInt8) (hf : figs 10 l = true) : pres l = none := by
  unfold pres
  rcases last_cases l with ⟨h1, _⟩ | ⟨k, h1, h2, h3, h4⟩
  · rw [h1, if_pos (by omega)]
  · exact absurd (List.mem_of_getElem? h2) (figs_colon _ hf)
end Go.Proofs.YtnfkgoeocebenaaGreatDoor
