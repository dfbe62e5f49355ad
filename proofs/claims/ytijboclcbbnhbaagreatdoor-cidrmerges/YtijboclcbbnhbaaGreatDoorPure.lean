/-
  Plain facts on texts: pieces between a byte, figures, numbers. No program.
-/
import Derived.WalkKit
import Derived.Lib.Split
import Derived.Lib.SplitLaws
import Derived.Lib.ParseIntB
import Derived.Lib.Join
namespace Go.Proofs.YtijboclcbbnhbaaGreatDoor
open Go.Lib

/-- The pieces of a text between a byte. -/
def pieces (c : UInt8) : List UInt8 → List (List UInt8)
  | [] => [[]]
  | x :: l => if x = c then [] :: pieces c l else match pieces c l with
    | [] => [[x]]
    | p :: ps => (x :: p) :: ps

theorem pieces_ne (c : UInt8) (l : List UInt8) : pieces c l ≠ [] := by
  cases l with
  | nil => simp [pieces]
  | cons x l =>
    unfold pieces
    split
    · simp
    · split <;> simp

theorem pieces_none {c : UInt8} : ∀ {l : List UInt8}, c ∉ l → pieces c l = [l]
  | [], _ => rfl
  | x :: l, h => by
    have h1 : x ≠ c := fun e => h (by simp [e])
    have h2 := pieces_none (c := c) (l := l) (fun e => h (List.mem_cons_of_mem _ e))
    unfold pieces
    rw [if_neg h1, h2]

theorem pieces_hit {c : UInt8} : ∀ {p : List UInt8} (r : List UInt8), c ∉ p → pieces c (p ++ c :: r) = p :: pieces c r
  | [], r, _ => by simp [pieces]
  | x :: p, r, h => by
    have h1 : x ≠ c := fun e => h (by simp [e])
    have h2 := pieces_hit (c := c) (p := p) r (fun e => h (List.mem_cons_of_mem _ e))
    rw [List.cons_append, pieces, if_neg h1, h2]

theorem pieces_snoc_sep (c : UInt8) : ∀ l : List UInt8, pieces c (l ++ [c]) = pieces c l ++ [[]]
  | [] => by simp [pieces]
  | x :: l => by
    have ih := pieces_snoc_sep c l
    rw [List.cons_append, pieces, ih]
    conv => rhs; unfold pieces
    by_cases h : x = c
    · simp [h]
    · rw [if_neg h, if_neg h]
      cases hp : pieces c l with
      | nil => exact absurd hp (pieces_ne c l)
      | cons p ps => simp

theorem pieces_snoc (c x : UInt8) (h : x ≠ c) : ∀ l : List UInt8, pieces c (l ++ [x]) = (pieces c l).dropLast ++ [((pieces c l).getLastD []) ++ [x]]
  | [] => by simp [pieces, h]
  | y :: l => by
    have ih := pieces_snoc c x h l
    rw [List.cons_append, pieces, ih]
    conv => rhs; unfold pieces
    cases hp : pieces c l with
    | nil => exact absurd hp (pieces_ne c l)
    | cons p ps =>
      by_cases hy : y = c
      · simp [hy]
      · rw [if_neg hy, if_neg hy]
        cases ps with
        | nil => simp
        | cons q qs => simp

theorem occ1 (l : List UInt8) (c : UInt8) (i : Nat) (hi : i < l.length) : occAt l [c] i = (c == l[i]) := by
  unfold occAt
  rw [List.drop_eq_getElem_cons hi, List.isPrefixOf]
  simp

theorem split_piece (c : UInt8) : ∀ (n : Nat) (l : List UInt8), l.length ≤ n → splitK [c] 0 (count l [c]) l = pieces c l := by
  intro n
  induction n with
  | zero =>
    intro l h
    have : l = [] := List.length_eq_zero_iff.1 (by omega)
    subst this
    rfl
  | succ n ih =>
    intro l h
    rcases index_spec l [c] with ⟨h1, h2⟩ | ⟨i, h1, h2, h3, h4⟩
    · rw [count_miss h1]
      have : c ∉ l := by
        intro hm
        obtain ⟨k, hk, hk2⟩ := List.getElem_of_mem hm
        have := h2 k (by omega)
        rw [occ1 l c k hk, hk2] at this
        simp at this
      rw [pieces_none this]
      rfl
    · have hroom := occAt_room h3
      simp only [List.length_singleton, List.cons_ne_nil, or_false] at hroom
      have hil : i < l.length := by omega
      have hc : l[i] = c := by
        rw [occ1 l c i hil] at h3
        exact (beq_iff_eq.1 h3).symm
      have hd : l = l.take i ++ c :: l.drop (i + 1) := by
        conv => lhs; rw [← List.take_append_drop i l, List.drop_eq_getElem_cons hil, hc]
      have hn : c ∉ l.take i := by
        intro hm
        obtain ⟨k, hk, hk2⟩ := List.getElem_of_mem hm
        rw [List.length_take] at hk
        have := h4 k (by omega)
        rw [List.getElem_take] at hk2
        rw [occ1 l c k (by omega), hk2] at this
        simp at this
      have hcnt := count_hit (s := l) (sub := [c]) (by simp) h1
      rw [hcnt, Nat.add_comm 1, splitK, h1]
      have hm : ((i : Int) == -1) = false := by rw [beq_eq_false_iff_ne]; omega
      rw [hm]
      simp only [Bool.false_eq_true, if_false, Int.toNat_natCast, Nat.add_zero, List.length_singleton]
      rw [ih _ (by rw [List.length_drop]; omega)]
      conv => rhs; rw [hd]
      rw [pieces_hit _ hn]

theorem pieces_length_pos (c : UInt8) (l : List UInt8) : 0 < (pieces c l).length := List.length_pos_iff.2 (pieces_ne c l)

theorem pieces_length (c : UInt8) (l : List UInt8) : (pieces c l).length = count l [c] + 1 := by
  rw [← split_piece c l.length l (Nat.le_refl _)]
  have := splitB_all ⟨#[c]⟩ (by simp [ByteArray.size]) 0 (count l [c]) ⟨l.toArray⟩ rfl
  have h2 := congrArg List.length (splitB_data ⟨#[c]⟩ 0 (count l [c]) ⟨l.toArray⟩)
  simp only [List.length_map] at h2
  rw [← h2]
  exact this

theorem pieces_le (c : UInt8) : ∀ (l : List UInt8), ∀ p ∈ pieces c l, p.length ≤ l.length
  | [], p, h => by simp [pieces] at h; simp [h]
  | x :: l, p, h => by
    have ih := pieces_le c l
    unfold pieces at h
    split at h
    · rcases List.mem_cons.1 h with rfl | h
      · simp
      · have := ih p h; simp; omega
    · split at h
      · rename_i e; exact absurd e (pieces_ne c l)
      · rename_i q qs e
        rw [e] at ih
        rcases List.mem_cons.1 h with rfl | h
        · have := ih q (by simp); simp; omega
        · have := ih p (by simp [h]); simp; omega

/-- A figure's number; 99: it is none. -/
def fig (c : UInt8) : Nat := if 48 ≤ c.toNat ∧ c.toNat ≤ 57 then c.toNat - 48 else if 97 ≤ c.toNat ∧ c.toNat ≤ 102 then c.toNat - 87 else if 65 ≤ c.toNat ∧ c.toNat ≤ 70 then c.toNat - 55 else 99

/-- All are figures below a base. -/
def figs (b : Nat) (l : List UInt8) : Bool := l.all fun c => fig c < b

/-- The number of figures, behind a number. -/
def numb (b : Nat) : Nat → List UInt8 → Nat
  | n, [] => n
  | n, c :: l => numb b (n * b + fig c) l

theorem numb_snoc (b : Nat) (x : UInt8) : ∀ (l : List UInt8) (n : Nat), numb b n (l ++ [x]) = numb b n l * b + fig x
  | [], _ => rfl
  | _ :: l, n => by simpa [numb] using numb_snoc b x l _

theorem numb_ge (b : Nat) (hb : 1 ≤ b) : ∀ (l : List UInt8) (n : Nat), n ≤ numb b n l
  | [], n => Nat.le_refl n
  | c :: l, n => by
    have := numb_ge b hb l (n * b + fig c)
    have : n ≤ n * b := Nat.le_mul_of_pos_right n hb
    unfold numb
    omega

theorem numb_lt (b : Nat) (l : List UInt8) (h : figs b l = true) : ∀ n, numb b n l < (n + 1) * b ^ l.length := by
  induction l with
  | nil => intro n; simp [numb]
  | cons c l ih =>
    intro n
    have hc : fig c < b := by simpa [figs] using (List.all_eq_true.1 h c (by simp))
    have hl : figs b l = true := List.all_eq_true.2 fun x hx => List.all_eq_true.1 h x (by simp [hx])
    have := ih hl (n * b + fig c)
    unfold numb
    refine Nat.lt_of_lt_of_le this ?_
    rw [List.length_cons, Nat.pow_succ, Nat.mul_comm (b ^ l.length) b, ← Nat.mul_assoc]
    apply Nat.mul_le_mul_right
    rw [Nat.add_mul]
    omega

/-- A number from 0 to 255, without noughts ahead. -/
def num10 (l : List UInt8) : Option Nat :=
  if 1 ≤ l.length ∧ l.length ≤ 3 ∧ figs 10 l = true ∧ numb 10 0 l ≤ 255 ∧ ¬ (1 < l.length ∧ l.head? = some 48) then some (numb 10 0 l) else none

/-- A group of one to four figures. -/
def grp (l : List UInt8) : Option Nat := if 1 ≤ l.length ∧ l.length ≤ 4 ∧ figs 16 l = true then some (numb 16 0 l) else none

theorem fig10 (c : UInt8) : fig c < 10 ↔ 48 ≤ c.toNat ∧ c.toNat ≤ 57 := by
  unfold fig
  split
  · rename_i h; constructor
    · intro _; exact h
    · intro _; omega
  · split
    · constructor <;> intro h <;> omega
    · split
      · constructor <;> intro h <;> omega
      · constructor <;> intro h <;> omega

theorem parseM_to (l : List UInt8) : ∀ acc, figs 10 l = true → numb 10 acc l ≤ 255 → parseUintM 255 acc l = .ok (numb 10 acc l) := by
  induction l with
  | nil => intro acc _ _; rfl
  | cons c l ih =>
    intro acc h1 h2
    have hc0 : fig c < 10 := by simpa using List.all_eq_true.1 h1 c (by simp)
    have hc := (fig10 c).1 hc0
    have hfig : fig c = c.toNat - 48 := by unfold fig; rw [if_pos hc]
    have e : numb 10 acc (c :: l) = numb 10 (acc * 10 + (c.toNat - 48)) l := by rw [numb, hfig]
    rw [e] at h2 ⊢
    have hge := numb_ge 10 (by omega) l (acc * 10 + (c.toNat - 48))
    have hcut : ¬ 1844674407370955162 ≤ acc := by omega
    have hov : ¬ 255 < acc * 10 + (c.toNat - 48) := by omega
    have e' : parseUintM 255 acc (c :: l) = parseUintM 255 (acc * 10 + (c.toNat - 48)) l := by simp [parseUintM, hc, hcut, hov]
    rw [e']
    exact ih _ (List.all_eq_true.2 fun x hx => List.all_eq_true.1 h1 x (by simp [hx])) h2

theorem parseM_ok (l : List UInt8) : ∀ acc u, acc ≤ 255 → parseUintM 255 acc l = .ok u → figs 10 l = true ∧ numb 10 acc l ≤ 255 ∧ u = numb 10 acc l := by
  induction l with
  | nil => intro acc u h e; simp [parseUintM] at e; exact ⟨rfl, h, e.symm⟩
  | cons c l ih =>
    intro acc u h e
    by_cases hc : 48 ≤ c.toNat ∧ c.toNat ≤ 57
    · have hcut : ¬ 1844674407370955162 ≤ acc := by omega
      have hfig : fig c = c.toNat - 48 := by unfold fig; rw [if_pos hc]
      by_cases hov : 255 < acc * 10 + (c.toNat - 48)
      · simp [parseUintM, hc, hcut, hov] at e
      · have e' : parseUintM 255 acc (c :: l) = parseUintM 255 (acc * 10 + (c.toNat - 48)) l := by simp [parseUintM, hc, hcut, hov]
        obtain ⟨h1, h2, h3⟩ := ih _ _ (by omega) (e' ▸ e)
        refine ⟨?_, ?_, ?_⟩
        · simp only [figs, List.all_cons, Bool.and_eq_true]
          exact ⟨by simpa using (fig10 c).2 hc, h1⟩
        · unfold numb; rw [hfig]; exact h2
        · rw [h3]; conv => rhs; unfold numb
          rw [hfig]
    · simp [parseUintM, hc] at e

/-- What strconv.ParseUint(l, 10, 8) and the look for a nought ahead tell: a right number. -/
theorem num10_ok (l : List UInt8) (u : Nat) (h : parseUintB 8 l = .ok u) (hz : ¬ (1 < l.length ∧ l.head? = some 48)) : num10 l = some u := by
  unfold parseUintB at h
  split at h
  · cases h
  · rename_i hne
    obtain ⟨h1, h2, h3⟩ := parseM_ok l 0 u (by omega) h
    have hl : 1 ≤ l.length := List.length_pos_iff.2 hne
    have hl3 : l.length ≤ 3 := by
      match l, hne with
      | [], hne => exact absurd rfl hne
      | [_], _ => simp
      | [_, _], _ => simp
      | [_, _, _], _ => simp
      | c :: d :: e :: f :: r, _ =>
        exfalso
        have hc : fig c < 10 := by simpa using List.all_eq_true.1 h1 c (by simp)
        have hc' := (fig10 c).1 hc
        have : c.toNat ≠ 48 := fun e => hz ⟨by simp, by simp; exact UInt8.toNat_inj.1 e⟩
        have hfig : fig c = c.toNat - 48 := by unfold fig; rw [if_pos hc']
        have := numb_ge 10 (by omega) r (((fig c * 10 + fig d) * 10 + fig e) * 10 + fig f)
        simp only [numb, Nat.zero_mul, Nat.zero_add] at h2
        omega
    unfold num10
    rw [if_pos ⟨hl, hl3, h1, h2, hz⟩, h3]

theorem num10_zero (l : List UInt8) (hz : 1 < l.length ∧ l.head? = some 48) : num10 l = none := by
  unfold num10
  rw [if_neg (fun h => h.2.2.2.2 hz)]

theorem num10_bad (l : List UInt8) (h : ∀ u, parseUintB 8 l ≠ .ok u) : num10 l = none := by
  unfold num10
  rw [if_neg]
  rintro ⟨h1, h2, h3, h4, h5⟩
  apply h (numb 10 0 l)
  unfold parseUintB
  rw [if_neg (List.length_pos_iff.1 h1), show 2 ^ 8 - 1 = 255 from rfl, parseM_to l 0 h3 h4]

theorem num10_le {l : List UInt8} {n : Nat} (h : num10 l = some n) : n ≤ 255 := by
  unfold num10 at h
  split at h
  · rename_i hh
    cases h
    exact hh.2.2.2.1
  · cases h

theorem grp_lt {l : List UInt8} {n : Nat} (h : grp l = some n) : n < 65536 := by
  unfold grp at h
  split at h
  · rename_i hh
    cases h
    have := numb_lt 16 l hh.2.2 0
    have h4 : (16 : Nat) ^ l.length ≤ 16 ^ 4 := Nat.pow_le_pow_right (by omega) hh.2.1
    simp at this
    omega
  · cases h

end Go.Proofs.YtijboclcbbnhbaaGreatDoor
