/-
  The public strconv.ParseUint(s, 16, 16) and (s, 10, 8), as addr asks them.
-/
import Derived.Test.YtijboclcbbnhbaaGreatDoorHex
namespace Go.Proofs.YtijboclcbbnhbaaGreatDoor
open Go.RowKit

theorem empty_of_size (t : ByteArray) (h : t.size = 0) : t = ⟨#[]⟩ := by
  obtain ⟨⟨l⟩⟩ := t
  cases l with
  | nil => rfl
  | cons _ _ => simp [ByteArray.size] at h

set_option maxHeartbeats 1000000 in
set_option maxRecDepth 100000 in
theorem inner16_empty (w : World) :
    Calls Tryz.prog 64 #[.string ⟨#[]⟩, .int .i64 16, .int .i64 16] w fun e w' => e = .returned (.tuple #[.int .u64 0, .iface 119 (.int .i64 2)]) ∧ w = w' := by
  have hemp : (⟨#[]⟩ : ByteArray).toList.isEmpty = true := by rw [← decide_eq_emptyBytes]; rfl
  go_enter Tryz.func64, Tryz.ntmps64
  go_wp2
  go_ret2
  exact ⟨rfl, rfl⟩

/-- An error comes back, and some number. -/
def BadEnd (w : World) (e : Ending) (w' : World) : Prop := ∃ v p, e = .returned (.tuple #[.int .u64 v, .iface 122 p]) ∧ Below w.heap.size w w'
def OkEnd (u : Nat) (w : World) (e : Ending) (w' : World) : Prop := e = .returned (.tuple #[.int .u64 u, .nilIface]) ∧ Below w.heap.size w w'

theorem hexM_kind (l : List UInt8) : ∀ acc, (hexM acc l).1 = 0 ∨ (hexM acc l).1 = 1 ∨ (hexM acc l).1 = 2 := by
  induction l with
  | nil => intro acc; exact .inl rfl
  | cons c l ih =>
    intro acc
    unfold hexM
    split
    · split
      · exact .inr (.inl rfl)
      · exact ih _
    · exact .inr (.inr rfl)

set_option maxHeartbeats 1000000 in
theorem pu16_ok (s : ByteArray) (hs : s.size ≤ 100000) (u : Nat) (h : hexB s.data.toList = (0, u)) (w : World) :
    Calls Tryz.prog 46 #[.string s, .int .i64 16, .int .i64 16] w (OkEnd u w) := by
  have hne : s.size ≠ 0 := fun h0 => by
    rw [empty_of_size s h0] at h
    simp [hexB] at h
  have hin : ∀ w, Calls Tryz.prog 64 #[.string s, .int .i64 16, .int .i64 16] w fun e w' => e = .returned (.tuple #[.int .u64 u, .nilIface]) ∧ Below w.heap.size w w' := fun w => by
    refine (inner16 s hne hs w).mono ?_
    rintro e w' ⟨rfl, rfl⟩
    unfold hexB at h
    split at h
    · simp at h
    · rw [h]
      exact ⟨rfl, Lib.bytesWorld_below w _ s⟩
  have HI := Lib.hid hin
  clear hin h hne
  go_enter Tryz.func46, Tryz.ntmps46
  go_wp2_with fail
  refine (HI.out w).mono ?_
  rintro e w1 ⟨rfl, hb⟩
  go_wp2
  go_ret2
  exact ⟨rfl, hb⟩

set_option maxHeartbeats 1000000 in
theorem pu16_bad (s : ByteArray) (hs : s.size ≤ 100000) (h : (hexB s.data.toList).1 ≠ 0) (E : Value) (w : World) (hE : Env E w) :
    Calls Tryz.prog 46 #[.string s, .int .i64 16, .int .i64 16] w (BadEnd w) := by
  have hin : ∃ v k : Int, (k = 1 ∨ k = 2) ∧ ∀ w, Calls Tryz.prog 64 #[.string s, .int .i64 16, .int .i64 16] w fun e w' => e = .returned (.tuple #[.int .u64 v, .iface 119 (.int .i64 k)]) ∧ Below w.heap.size w w' := by
    by_cases h0 : s.size = 0
    · rw [empty_of_size s h0]
      refine ⟨0, 2, .inr rfl, fun w => (inner16_empty w).mono ?_⟩
      rintro e w' ⟨rfl, rfl⟩
      exact ⟨rfl, Below.refl _ _⟩
    · have hne : s.data.toList ≠ [] := fun e => h0 (by rw [Lib.size_eq, e]; rfl)
      unfold hexB at h
      rw [if_neg hne] at h
      have hk := hexM_kind s.data.toList 0
      refine ⟨((hexM 0 s.data.toList).2 : Nat), ((hexM 0 s.data.toList).1 : Nat), by omega, fun w => (inner16 s h0 hs w).mono ?_⟩
      rintro e w' ⟨rfl, rfl⟩
      exact ⟨by rw [hexT, if_neg h], Lib.bytesWorld_below w _ s⟩
  obtain ⟨v, k, hk, hin⟩ := hin
  have hto : ∀ w fn, Env E w → Calls Tryz.prog 65 #[.string fn, .string s, .int .i64 16, .int .i64 16, .iface 119 (.int .i64 k)] w fun e w' => ∃ p, e = .returned (.iface 122 p) ∧ Below w.heap.size w w' := by
    intro w fn hE
    rcases hk with rfl | rfl
    · obtain ⟨t, p, hc⟩ := hE.rng
      refine (Tryz.strconv_toError_range fn s 16 16 _ w (by omega) hc (.inr ⟨t, p, rfl⟩)).mono ?_
      rintro e w' ⟨N, rfl, _, _, hb⟩
      exact ⟨_, rfl, hb⟩
    · obtain ⟨t, p, hc⟩ := hE.syn
      refine (Tryz.strconv_toError_syntax fn s 16 16 _ w (by omega) hc (.inr ⟨t, p, rfl⟩)).mono ?_
      rintro e w' ⟨N, rfl, _, _, hb⟩
      exact ⟨_, rfl, hb⟩
  have HI := Lib.hid hin
  have HT := Lib.hid hto
  have HE := Lib.hid hE
  clear hin h hto hE hk
  go_enter Tryz.func46, Tryz.ntmps46
  go_wp2_with fail
  refine (HI.out w).mono ?_
  rintro e w1 ⟨rfl, hb⟩
  go_wp2_with fail
  refine (HT.out w1 _ (HE.out.kept hb)).mono ?_
  rintro e w2 ⟨p, rfl, hb2⟩
  go_wp2
  go_ret2
  exact ⟨v, p, rfl, bel2 hb hb2⟩

/-! ### The ties to groups -/
theorem hexM_ok (l : List UInt8) : ∀ acc u, hexM acc l = (0, u) → figs 16 l = true ∧ u = numb 16 acc l := by
  induction l with
  | nil => intro acc u e; simp [hexM] at e; exact ⟨rfl, e.symm⟩
  | cons c l ih =>
    intro acc u e
    unfold hexM at e
    split at e
    · rename_i hc
      split at e
      · simp at e
      · obtain ⟨h1, h2⟩ := ih _ _ e
        refine ⟨?_, h2⟩
        simp only [figs, List.all_cons, Bool.and_eq_true]
        exact ⟨by simpa using hc, h1⟩
    · simp at e
theorem hexM_to (l : List UInt8) : ∀ acc, figs 16 l = true → numb 16 acc l ≤ 65535 → hexM acc l = (0, numb 16 acc l) := by
  induction l with
  | nil => intro acc _ _; rfl
  | cons c l ih =>
    intro acc h1 h2
    have hc : fig c < 16 := by simpa using List.all_eq_true.1 h1 c (by simp)
    have e : numb 16 acc (c :: l) = numb 16 (acc * 16 + fig c) l := rfl
    rw [e] at h2 ⊢
    have hge := numb_ge 16 (by omega) l (acc * 16 + fig c)
    rw [hexM, if_pos hc, if_neg (by omega)]
    exact ih _ (List.all_eq_true.2 fun x hx => List.all_eq_true.1 h1 x (by simp [hx])) h2

theorem grp_ok (l : List UInt8) (u : Nat) (h : hexB l = (0, u)) (h4 : l.length ≤ 4) : grp l = some u := by
  unfold hexB at h
  split at h
  · simp at h
  · rename_i hne
    obtain ⟨h1, h2⟩ := hexM_ok l 0 u h
    unfold grp
    rw [if_pos ⟨List.length_pos_iff.2 hne, h4, h1⟩, h2]
theorem grp_long (l : List UInt8) (h4 : 4 < l.length) : grp l = none := by
  unfold grp
  rw [if_neg (by omega)]
theorem grp_bad (l : List UInt8) (h : (hexB l).1 ≠ 0) : grp l = none := by
  unfold grp
  rw [if_neg]
  rintro ⟨h1, h2, h3⟩
  apply h
  unfold hexB
  rw [if_neg (List.length_pos_iff.1 h1), hexM_to l 0 h3]
  have := numb_lt 16 l h3 0
  have h4 : (16 : Nat) ^ l.length ≤ 16 ^ 4 := Nat.pow_le_pow_right (by omega) h2
  simp at this
  omega
end Go.Proofs.YtijboclcbbnhbaaGreatDoor
