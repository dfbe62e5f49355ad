/-
  What a point's text tells: the point. No program.
-/
import Derived.Test.YtnfkgoeocebenaaGreatDoorPpure
import Derived.Test.YtnfkgoeocebenaaGreatDoorBack
namespace Go.Proofs.YtnfkgoeocebenaaGreatDoor
open Go.Lib

theorem fig_of : ∀ d : Fin 10, fig (UInt8.ofNat (48 + d.val)) = d.val := by decide +kernel
theorem dec_small (n : Nat) (h : n < 10) : decDigits n = [UInt8.ofNat (48 + n)] := by rw [decDigits, dif_pos h]
theorem dec_big (n : Nat) (h : ¬ n < 10) : decDigits n = decDigits (n / 10) ++ [UInt8.ofNat (48 + n % 10)] := by rw [decDigits, dif_neg h]

theorem dec_numb : ∀ n : Nat, numb 10 0 (decDigits n) = n ∧ figs 10 (decDigits n) = true
  | n => by
    by_cases h : n < 10
    · have hf := fig_of ⟨n, h⟩
      rw [dec_small n h]
      simp only at hf
      generalize UInt8.ofNat (48 + n) = c at hf
      simp [numb, figs, hf, h]
      rfl
    · have ih := dec_numb (n / 10)
      have hf := fig_of ⟨n % 10, Nat.mod_lt _ (by decide)⟩
      simp only at hf
      rw [dec_big n h, numb_snoc, ih.1, hf]
      refine ⟨by omega, ?_⟩
      have h2 := ih.2
      unfold figs at h2 ⊢
      rw [List.all_append, h2]
      generalize UInt8.ofNat (48 + n % 10) = c at hf
      simp [hf]
      omega
termination_by n => n
decreasing_by omega

theorem dec_ne : ∀ n : Nat, decDigits n ≠ [] := fun n => by
  by_cases h : n < 10
  · rw [dec_small n h]; simp
  · rw [dec_big n h]; simp

theorem dec_head : ∀ n : Nat, 1 ≤ n → (decDigits n).head? ≠ some 48
  | n, h1 => by
    by_cases h : n < 10
    · rw [dec_small n h]
      have : ∀ d : Fin 10, 1 ≤ d.val → UInt8.ofNat (48 + d.val) ≠ 48 := by decide +kernel
      intro e
      exact this ⟨n, h⟩ h1 (by simpa using e)
    · have ih := dec_head (n / 10) (by omega)
      rw [dec_big n h]
      have hne := dec_ne (n / 10)
      cases e : decDigits (n / 10) with
      | nil => exact absurd e hne
      | cons c r =>
        rw [e] at ih
        simpa using ih
termination_by n => n
decreasing_by omega

theorem port_dec (n : Nat) (h1 : 1 ≤ n) (h2 : n ≤ 65535) : port (decDigits n) = some n := by
  obtain ⟨e, f⟩ := dec_numb n
  unfold port
  rw [if_pos ⟨f, by omega, by omega, dec_head n h1⟩, e]

theorem dec_len (n : Nat) (h1 : 1 ≤ n) (h2 : n ≤ 65535) : (decDigits n).length ≤ 5 := (port_len (port_dec n h1 h2)).2.1

/-- An address's text, as it stands ahead of a port. -/
def ahd (s : Bool) (T : List UInt8) : List UInt8 := if s = true then (91 :: T) ++ [93] else T
/-- A point's text. -/
def ptext (s : Bool) (T : List UInt8) (n : Nat) : List UInt8 := (ahd s T ++ [58]) ++ decDigits n

theorem pmem_pieces (c x : UInt8) (hx : x ≠ c) : ∀ l : List UInt8, x ∈ l → ∃ p ∈ pieces c l, x ∈ p
  | [], h => by cases h
  | y :: l, h => by
    rcases List.mem_cons.1 h with rfl | h
    · unfold pieces
      rw [if_neg hx]
      split
      · exact ⟨[x], by simp, by simp⟩
      · rename_i p ps _
        exact ⟨x :: p, by simp, by simp⟩
    · obtain ⟨p, hp, hxp⟩ := pmem_pieces c x hx l h
      unfold pieces
      split
      · exact ⟨p, List.mem_cons_of_mem _ hp, hxp⟩
      · split
        · rename_i e
          exact absurd e (pieces_ne c l)
        · rename_i q qs e
          rw [e] at hp
          rcases List.mem_cons.1 hp with rfl | hp
          · exact ⟨y :: p, by simp, by simp [hxp]⟩
          · exact ⟨p, by simp [hp], hxp⟩

theorem pallOf_each (f : List UInt8 → Option Nat) {l : List (List UInt8)} {ns : List Nat} (h : allOf f l = some ns) {p : List UInt8} (hp : p ∈ l) : f p ≠ none := fun hn => by
  obtain ⟨j, hj, e⟩ := List.getElem_of_mem hp
  have := allOf_none f l j p (by rw [List.getElem?_eq_getElem hj, e]) hn
  rw [this] at h
  cases h

theorem four_no {l : List UInt8} {b : List Int} (h : parsed l = some (false, b)) : (91 : UInt8) ∉ l := fun hm => by
  unfold parsed at h
  split at h
  · cases e : six l with
    | none => rw [e] at h; cases h
    | some g => rw [e] at h; cases h
  · unfold four at h
    split at h
    · cases e : allOf num10 (pieces 46 l) with
      | none => rw [e] at h; cases h
      | some ns =>
        obtain ⟨p, hp, hxp⟩ := pmem_pieces 46 91 (by decide) l hm
        have := pallOf_each num10 e hp
        unfold num10 at this
        split at this
        · rename_i hh
          have h9 := List.all_eq_true.1 hh.2.2.1 91 hxp
          revert h9
          decide
        · exact this rfl
    · cases h

theorem paddr_ahd (T : List UInt8) (s : Bool) (b : List Int) (hp : parsed T = some (s, b)) : paddr (ahd s T) = some (s, b) := by
  cases s with
  | true =>
    have hb : brk (ahd true T) = true := by
      unfold brk
      rw [pre1, suf1, show ahd true T = (91 :: T) ++ [93] from rfl, List.getLast?_append]
      simp
    have hi : inner (ahd true T) = T := by
      unfold inner ahd
      simp
    unfold paddr
    rw [hb, if_pos rfl, hi, hp]
    simp
  | false =>
    have hno := four_no hp
    have hb : brk (ahd false T) = false := by
      unfold brk
      rw [pre1]
      cases T with
      | nil => rfl
      | cons c r =>
        have : c ≠ 91 := fun e => hno (by simp [e])
        simp [ahd, this]
    unfold paddr
    rw [hb, if_neg (by simp), show ahd false T = T from rfl, hp]
    simp

theorem pres_text (T : List UInt8) (s : Bool) (b : List Int) (hp : parsed T = some (s, b)) (n : Nat) (h1 : 1 ≤ n) (h2 : n ≤ 65535) : pres (ptext s T n) = some ((s, b), n) := by
  have hd : (ptext s T n).drop ((ahd s T).length + 1) = decDigits n := by
    unfold ptext
    rw [show (ahd s T).length + 1 = (ahd s T ++ [58]).length by simp, List.drop_left]
  have ht : (ptext s T n).take (ahd s T).length = ahd s T := by
    unfold ptext
    rw [List.append_assoc, List.take_left]
  rw [pres_at (ptext s T n) (ahd s T).length (by unfold ptext; simp) (by rw [hd]; exact (dec_numb n).2), hd, ht, paddr_ahd T s b hp, port_dec n h1 h2]
end Go.Proofs.YtnfkgoeocebenaaGreatDoor
