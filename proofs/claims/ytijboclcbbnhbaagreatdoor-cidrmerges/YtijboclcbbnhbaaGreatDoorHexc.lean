/-
  The public strconv.ParseUint(s, 10, 8); a list of texts, each of which is a number.
-/
import Derived.Test.YtijboclcbbnhbaaGreatDoorHexb
namespace Go.Proofs.YtijboclcbbnhbaaGreatDoor
open Go.RowKit

set_option maxHeartbeats 1000000 in
set_option maxRecDepth 100000 in
theorem inner8_empty (w : World) :
    Calls Tryz.prog 64 #[.string ⟨#[]⟩, .int .i64 10, .int .i64 8] w fun e w' => e = .returned (.tuple #[.int .u64 0, .iface 119 (.int .i64 2)]) ∧ w = w' := by
  have hemp : (⟨#[]⟩ : ByteArray).toList.isEmpty = true := by rw [← decide_eq_emptyBytes]; rfl
  go_enter Tryz.func64, Tryz.ntmps64
  go_wp2
  go_ret2
  exact ⟨rfl, rfl⟩

set_option maxHeartbeats 1000000 in
theorem pu8_ok (s : ByteArray) (hs : s.size ≤ 100000) (u : Nat) (h : Lib.parseUintB 8 s.data.toList = .ok u) (w : World) :
    Calls Tryz.prog 46 #[.string s, .int .i64 10, .int .i64 8] w (OkEnd u w) := by
  have hne : s.size ≠ 0 := fun h0 => by
    rw [empty_of_size s h0] at h
    simp [Lib.parseUintB] at h
  have hin : ∀ w, Calls Tryz.prog 64 #[.string s, .int .i64 10, .int .i64 8] w fun e w' => e = .returned (.tuple #[.int .u64 u, .nilIface]) ∧ Below w.heap.size w w' := fun w => by
    refine (Tryz.internal_strconv_ParseUint_10_b8 s hne (by omega) w).mono ?_
    rintro e w' ⟨rfl, rfl⟩
    unfold Lib.parseUintB at h
    split at h
    · simp at h
    · rw [show Lib.parseUintM 255 0 s.data.toList = .ok u from h]
      exact ⟨rfl, Lib.bytesWorld_below w _ s⟩
  have HI := Lib.hid hin
  clear hin h hne
  go_enter Tryz.func46, Tryz.ntmps46
  go_wp2_with fail
  refine (HI.out w).mono ?_
  rintro e w1 ⟨rfl, hb⟩
  go_wp2
  go_ret2
  exact ⟨rfl, hb⟩

set_option maxHeartbeats 1000000 in
theorem pu8_bad (s : ByteArray) (hs : s.size ≤ 100000) (h : ∀ u, Lib.parseUintB 8 s.data.toList ≠ .ok u) (E : Value) (w : World) (hE : Env E w) :
    Calls Tryz.prog 46 #[.string s, .int .i64 10, .int .i64 8] w (BadEnd w) := by
  have hin : ∃ v k : Int, (k = 1 ∨ k = 2) ∧ ∀ w, Calls Tryz.prog 64 #[.string s, .int .i64 10, .int .i64 8] w fun e w' => e = .returned (.tuple #[.int .u64 v, .iface 119 (.int .i64 k)]) ∧ Below w.heap.size w w' := by
    by_cases h0 : s.size = 0
    · rw [empty_of_size s h0]
      refine ⟨0, 2, .inr rfl, fun w => (inner8_empty w).mono ?_⟩
      rintro e w' ⟨rfl, rfl⟩
      exact ⟨rfl, Below.refl _ _⟩
    · have hne : s.data.toList ≠ [] := fun e => h0 (by rw [Lib.size_eq, e]; rfl)
      have hin := fun w => Tryz.internal_strconv_ParseUint_10_b8 s h0 (by omega) w
      unfold Lib.parseUintB at h
      rw [if_neg hne] at h
      change ∀ u, Lib.parseUintM 255 0 s.data.toList ≠ .ok u at h
      generalize Lib.parseUintM 255 0 s.data.toList = r at h hin
      rcases r with u | _ | _
      · exact absurd rfl (h u)
      · refine ⟨0, 2, .inr rfl, fun w => (hin w).mono ?_⟩
        rintro e w' ⟨rfl, rfl⟩
        exact ⟨rfl, Lib.bytesWorld_below w _ s⟩
      · refine ⟨255, 1, .inl rfl, fun w => (hin w).mono ?_⟩
        rintro e w' ⟨rfl, rfl⟩
        exact ⟨rfl, Lib.bytesWorld_below w _ s⟩
  obtain ⟨v, k, hk, hin⟩ := hin
  have hto : ∀ w fn, Env E w → Calls Tryz.prog 65 #[.string fn, .string s, .int .i64 10, .int .i64 8, .iface 119 (.int .i64 k)] w fun e w' => ∃ p, e = .returned (.iface 122 p) ∧ Below w.heap.size w w' := by
    intro w fn hE
    rcases hk with rfl | rfl
    · obtain ⟨t, p, hc⟩ := hE.rng
      refine (Tryz.strconv_toError_range fn s 10 8 _ w (by omega) hc (.inr ⟨t, p, rfl⟩)).mono ?_
      rintro e w' ⟨N, rfl, _, _, hb⟩
      exact ⟨_, rfl, hb⟩
    · obtain ⟨t, p, hc⟩ := hE.syn
      refine (Tryz.strconv_toError_syntax fn s 10 8 _ w (by omega) hc (.inr ⟨t, p, rfl⟩)).mono ?_
      rintro e w' ⟨N, rfl, _, _, hb⟩
      exact ⟨_, rfl, hb⟩
  have HI := Lib.hid hin
  have HT := Lib.hid hto
  have HE := Lib.hid hE
  clear hin h hto hE hk
  go_enter Tryz.func46, Tryz.ntmps46
  go_wp2_with fail
  refine (HI.out w).mono ?_
  rintro e w1 ⟨rfl, hb⟩
  go_wp2_with fail
  refine (HT.out w1 _ (HE.out.kept hb)).mono ?_
  rintro e w2 ⟨p, rfl, hb2⟩
  go_wp2
  go_ret2
  exact ⟨v, p, rfl, bel2 hb hb2⟩

/-- All that a function tells of a list; none, if it tells nothing of one. -/
def allOf (f : List UInt8 → Option Nat) : List (List UInt8) → Option (List Nat)
  | [] => some []
  | x :: l => match f x, allOf f l with
    | some a, some r => some (a :: r)
    | _, _ => none

theorem allOf_some (f : List UInt8 → Option Nat) : ∀ (l : List (List UInt8)) (ns : List Nat), ns.length = l.length → (∀ j x, l[j]? = some x → f x = some (ns.getD j 0)) → allOf f l = some ns
  | [], [], _, _ => rfl
  | [], _ :: _, h, _ => by simp at h
  | _ :: _, [], h, _ => by simp at h
  | x :: l, n :: ns, h, hf => by
    have h0 := hf 0 x rfl
    have ih := allOf_some f l ns (by simpa using h) (fun j y hy => by simpa using hf (j + 1) y (by simpa using hy))
    rw [allOf, h0, ih]
    rfl
theorem allOf_none (f : List UInt8 → Option Nat) : ∀ (l : List (List UInt8)) (j : Nat) (x : List UInt8), l[j]? = some x → f x = none → allOf f l = none
  | [], _, _, h, _ => by simp at h
  | y :: l, 0, x, h, hf => by
    obtain rfl : y = x := by simpa using h
    rw [allOf, hf]
  | y :: l, j + 1, x, h, hf => by
    have ih := allOf_none f l j x (by simpa using h) hf
    rw [allOf, ih]
    cases f y <;> rfl
theorem allOf_length (f : List UInt8 → Option Nat) : ∀ (l : List (List UInt8)) (ns : List Nat), allOf f l = some ns → ns.length = l.length
  | [], ns, h => by cases h; rfl
  | x :: l, ns, h => by
    unfold allOf at h
    split at h
    · rename_i a r h1 h2
      cases h
      simp [allOf_length f l r h2]
    · cases h
theorem allOf_mem (f : List UInt8 → Option Nat) : ∀ (l : List (List UInt8)) (ns : List Nat), allOf f l = some ns → ∀ n ∈ ns, ∃ x ∈ l, f x = some n
  | [], ns, h, n, hn => by cases h; cases hn
  | x :: l, ns, h, n, hn => by
    unfold allOf at h
    split at h
    · rename_i a r h1 h2
      cases h
      rcases List.mem_cons.1 hn with rfl | hn
      · exact ⟨x, by simp, h1⟩
      · obtain ⟨y, hy, hf⟩ := allOf_mem f l r h2 n hn
        exact ⟨y, by simp [hy], hf⟩
    · cases h
end Go.Proofs.YtijboclcbbnhbaaGreatDoor
