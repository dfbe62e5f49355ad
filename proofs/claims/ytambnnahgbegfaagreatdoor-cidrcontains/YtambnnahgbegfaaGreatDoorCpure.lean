/-
  Cut bytes and their bits: what cidr.Contains answers is what the document asks (plain facts).
-/
import Derived.Test.YtambnnahgbegfaaGreatDoorCcont
namespace Go.Proofs.YtambnnahgbegfaaGreatDoor
open Go.RowKit

/-- A bit of bytes, as a natural number. -/
def bitn (B : List Nat) (i : Nat) : Nat := B.getD (i / 8) 0 / 2 ^ (7 - i % 8) % 2
theorem bitN_ints (B : List Nat) (i : Nat) : bitN (ints B) i = (bitn B i : Int) := by
  unfold bitN bitn
  rw [nth_ints]
  simp

theorem msk_bit : ∀ t : Fin 9, ∀ k : Fin 8, (mskN t.val).testBit (7 - k.val) = decide (k.val < t.val) := by decide +kernel

theorem and_bit (x t k : Nat) (ht : t ≤ 8) (hk : k < 8) : (x &&& mskN t) / 2 ^ (7 - k) % 2 = if k < t then x / 2 ^ (7 - k) % 2 else 0 := by
  have h := msk_bit ⟨t, by omega⟩ ⟨k, hk⟩
  simp only at h
  rw [← Nat.toNat_testBit, Nat.testBit_and, h, ← Nat.toNat_testBit]
  by_cases hkt : k < t
  · rw [if_pos hkt, decide_eq_true hkt, Bool.and_true]
  · rw [if_neg hkt, decide_eq_false hkt, Bool.and_false]
    rfl

theorem byte_eq (x y : Nat) (hx : x < 256) (hy : y < 256) (h : ∀ k, k < 8 → x / 2 ^ (7 - k) % 2 = y / 2 ^ (7 - k) % 2) : x = y := by
  apply Nat.eq_of_testBit_eq
  intro i
  by_cases hi : i < 8
  · have := h (7 - i) (by omega)
    rw [show 7 - (7 - i) = i by omega, ← Nat.toNat_testBit, ← Nat.toNat_testBit] at this
    cases h1 : x.testBit i <;> cases h2 : y.testBit i <;> simp_all
  · have h256 : 256 ≤ 2 ^ i := by
      have : 2 ^ 8 ≤ 2 ^ i := Nat.pow_le_pow_right (by decide) (by omega)
      omega
    rw [Nat.testBit_lt_two_pow (by omega), Nat.testBit_lt_two_pow (by omega)]

theorem list_eq_bits (X Y : List Nat) (hx : X.length = 16) (hy : Y.length = 16) (lx : ∀ x ∈ X, x < 256) (ly : ∀ x ∈ Y, x < 256) (h : ∀ i, i < 128 → bitn X i = bitn Y i) : X = Y := by
  apply List.ext_getElem (by omega)
  intro j h1 h2
  apply byte_eq _ _ (lx _ (List.getElem_mem h1)) (ly _ (List.getElem_mem h2))
  intro k hk
  have := h (8 * j + k) (by omega)
  unfold bitn at this
  rw [show (8 * j + k) / 8 = j by omega, show (8 * j + k) % 8 = k by omega] at this
  simpa [List.getD, List.getElem?_eq_getElem h1, List.getElem?_eq_getElem h2] using this

theorem cut_at16 (A : List Nat) (n : Int) (j : Nat) (hj : j < 16) : (cutTo A n 16).getD j 0 = cutN A n j := by
  simp [cutTo, List.getD, hj]

theorem bit_cut (A : List Nat) (N i : Nat) (hi : i < 128) : bitn (cutTo A N 16) i = if i < N then bitn A i else 0 := by
  unfold bitn
  rw [cut_at16 A N (i / 8) (by omega)]
  unfold cutN
  rw [and_bit _ _ _ (clamp_le _) (by omega)]
  have hc : (i % 8 < clampN ((N : Int) - 8 * (i / 8 : Nat))) ↔ i < N := by
    unfold clampN
    split
    · constructor <;> intro h <;> omega
    · split
      · constructor <;> intro h <;> omega
      · constructor <;> intro h <;> omega
  by_cases h : i < N
  · rw [if_pos (hc.2 h), if_pos h]
  · rw [if_neg (fun h' => h (hc.1 h')), if_neg h]

theorem cutTo_lt (A : List Nat) (n : Int) : ∀ x ∈ cutTo A n 16, x < 256 := by
  intro x hx
  simp only [cutTo, List.mem_map, List.mem_range] at hx
  obtain ⟨j, hj, rfl⟩ := hx
  rw [if_pos hj]
  exact cut_lt A n j

theorem flat_byte (B : List Nat) (h : flat (ints B) = true) (j : Nat) (h4 : 4 ≤ j) (h16 : j < 16) : B.getD j 0 = 0 := by
  rcases Nat.eq_zero_or_pos (B.getD j 0) with e | e
  · exact e
  · have := flat_not (ints B) j h4 h16 (by rw [nth_ints]; omega)
    rw [h] at this
    cases this

theorem ints_inj {X Y : List Nat} (h : ints X = ints Y) : X = Y := by
  unfold ints at h
  exact List.map_inj_right (fun a b e => Int.ofNat.inj e) |>.1 h

theorem cont_iff (s : Bool) (C A : List Nat) (hlc : C.length = 16) (hC : ∀ x ∈ C, x < 256) (N : Nat) (hN : N ≤ wid s) (hr : (s || flat (ints A)) = true) :
    (ints (cutTo A N 16) == ints C) = (rightC s (ints C) N && agreeB (ints A) (ints C) N) := by
  have hw := wid_le s
  rw [Bool.eq_iff_iff, beq_iff_eq, Bool.and_eq_true]
  constructor
  · intro h
    have h := (ints_inj h).symm
    subst h
    refine ⟨?_, agreeB_of _ _ _ fun j hj => ?_⟩
    · unfold rightC
      rw [decide_eq_true (show (0 : Int) ≤ (N : Int) by omega), decide_eq_true (show (N : Int) ≤ (wid s : Int) by omega), Bool.true_and, Bool.true_and, Int.toNat_natCast, Bool.and_eq_true]
      refine ⟨?_, zeroB_of _ _ _ fun j h1 h2 => ?_⟩
      · cases s with
        | true => rfl
        | false =>
          simp only [Bool.false_or] at hr ⊢
          refine flat_of _ (by rw [ints_length, cutTo_length]) fun j h4 h16 => ?_
          rw [nth_ints, cut_at16 A N j h16]
          unfold cutN
          rw [flat_byte A hr j h4 h16, Nat.zero_and]
          rfl
      · rw [bitN_ints, bit_cut A N j (by omega), if_neg (by omega)]
        rfl
    · rw [bitN_ints, bitN_ints, bit_cut A N j (by omega), if_pos hj]
  · rintro ⟨h1, h2⟩
    unfold rightC at h1
    simp only [Bool.and_eq_true, decide_eq_true_eq, Int.toNat_natCast] at h1
    obtain ⟨hf, _, _, hz⟩ := h1
    congr 1
    apply list_eq_bits _ _ (cutTo_length _ _ _) hlc (cutTo_lt A N) hC
    intro i hi
    rw [bit_cut A N i hi]
    by_cases h : i < N
    · rw [if_pos h]
      have := List.all_eq_true.1 h2 i (List.mem_range.2 h)
      rw [beq_iff_eq, bitN_ints, bitN_ints] at this
      omega
    · rw [if_neg h]
      by_cases hwd : i < wid s
      · have := List.all_eq_true.1 hz i (List.mem_range.2 hwd)
        rw [decide_eq_false h, Bool.false_or, beq_iff_eq, bitN_ints] at this
        omega
      · cases s with
        | true => exact absurd hi (by simp only [wid, if_true] at hwd; omega)
        | false =>
          simp only [Bool.false_or] at hf
          simp only [wid, Bool.false_eq_true, if_false] at hwd
          unfold bitn
          rw [flat_byte C hf (i / 8) (by omega) (by omega)]
          simp

theorem cont_eq (cs sa : Bool) (C A : List Nat) (hlc : C.length = 16) (hC : ∀ x ∈ C, x < 256) (n : Int) : contC cs C n sa A = containsC cs (ints C) n sa (ints A) := by
  unfold contC containsC
  cases hr : (sa || flat (ints A)) with
  | false => simp
  | true =>
    by_cases h : 0 ≤ n ∧ n ≤ wid sa
    · rw [decide_eq_true h]
      obtain ⟨N, rfl⟩ : ∃ N : Nat, n = N := ⟨n.toNat, by omega⟩
      by_cases e : sa = cs
      · subst e
        rw [cont_iff sa C A hlc hC N (by omega) hr, Int.toNat_natCast]
        simp
      · have : (sa == cs) = false := by rw [beq_eq_false_iff_ne]; exact e
        rw [this]
        simp
    · rw [decide_eq_false h]
      by_cases e : sa = cs
      · subst e
        have : rightC sa (ints C) n = false := by
          unfold rightC
          by_cases h0 : 0 ≤ n
          · rw [decide_eq_false (show ¬ n ≤ (wid sa : Int) by omega)]
            simp
          · rw [decide_eq_false h0]
            simp
        rw [this]
        simp
      · have : (sa == cs) = false := by rw [beq_eq_false_iff_ne]; exact e
        rw [this]
        simp

theorem agree_self (b : List Int) (n : Nat) : agreeB b b n = true := agreeB_of _ _ _ fun _ _ => rfl

theorem right_eq (cs : Bool) (C : List Nat) (hlc : C.length = 16) (hC : ∀ x ∈ C, x < 256) (n : Int) : contC cs C n cs C = rightC cs (ints C) n := by
  rw [cont_eq cs cs C C hlc hC]
  unfold containsC
  rw [agree_self]
  cases hr : rightC cs (ints C) n with
  | false => rfl
  | true =>
    have : (cs || flat (ints C)) = true := by
      unfold rightC at hr
      rw [Bool.and_eq_true] at hr
      exact hr.1
    rw [this]
    simp
end Go.Proofs.YtambnnahgbegfaaGreatDoor
