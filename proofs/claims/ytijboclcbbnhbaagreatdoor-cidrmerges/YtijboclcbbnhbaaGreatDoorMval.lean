/-
  Cidrs by their addresses' numbers: the order and the covering are as the merging asks. No program.
-/
import Derived.Test.YtijboclcbbnhbaaGreatDoorMpure
import Derived.Test.YtijboclcbbnhbaaGreatDoorQb
namespace Go.Proofs.YtijboclcbbnhbaaGreatDoor

/-- The number of a row of bytes, the high one first. -/
def val : List Nat → Nat
  | [] => 0
  | x :: l => x * 256 ^ l.length + val l
theorem val_lt : ∀ (l : List Nat), (∀ x ∈ l, x < 256) → val l < 256 ^ l.length
  | [], _ => by simp [val]
  | x :: l, h => by
    have h1 := val_lt l fun y hy => h y (by simp [hy])
    have h2 := h x (by simp)
    rw [val, List.length_cons, Nat.pow_succ]
    have : x * 256 ^ l.length ≤ 255 * 256 ^ l.length := Nat.mul_le_mul_right _ (by omega)
    omega
theorem val_byte : ∀ (l : List Nat), (∀ x ∈ l, x < 256) → ∀ k, k < l.length → l.getD k 0 = val l / 256 ^ (l.length - 1 - k) % 256
  | [], _, k, h => by cases h
  | x :: l, hl, 0, _ => by
    have h1 := val_lt l fun y hy => hl y (by simp [hy])
    have h2 := hl x (by simp)
    rw [val, List.length_cons, Nat.add_sub_cancel, Nat.sub_zero, List.getD_cons_zero, Nat.mul_comm, Nat.mul_add_div (Nat.pow_pos (by decide)), Nat.div_eq_of_lt h1]
    omega
  | x :: l, hl, k + 1, h => by
    have ih := val_byte l (fun y hy => hl y (by simp [hy])) k (by simpa using h)
    have hk : k < l.length := by simpa using h
    rw [List.getD_cons_succ, ih, val, List.length_cons, show l.length + 1 - 1 - (k + 1) = l.length - 1 - k by omega]
    have e : 256 ^ l.length = 256 ^ (l.length - 1 - k) * (256 ^ k * 256) := by rw [← Nat.pow_succ, ← Nat.pow_add]; congr 1; omega
    generalize 256 ^ (l.length - 1 - k) = p at *
    rw [e, show x * (p * (256 ^ k * 256)) = p * (256 * (x * 256 ^ k)) by simp [Nat.mul_comm, Nat.mul_left_comm]]
    by_cases hp : p = 0
    · subst hp; simp
    · rw [Nat.mul_add_div (by omega), Nat.mul_add_mod]

theorem val_bit (C : List Nat) (hl : C.length = 16) (hC : ∀ x ∈ C, x < 256) (i : Nat) (hi : i < 128) : bitn C i = val C / 2 ^ (127 - i) % 2 := by
  unfold bitn
  rw [val_byte C hC (i / 8) (by omega), hl, show (256 : Nat) = 2 ^ 8 by rfl, ← Nat.pow_mul]
  have h1 : 127 - i = 8 * (16 - 1 - i / 8) + (7 - i % 8) := by omega
  rw [h1, Nat.pow_add, ← Nat.div_div_eq_div_mul]
  generalize val C / 2 ^ (8 * (16 - 1 - i / 8)) = y
  have h7 : 7 - i % 8 ≤ 7 := by omega
  generalize 7 - i % 8 = r at h7
  have : r = 0 ∨ r = 1 ∨ r = 2 ∨ r = 3 ∨ r = 4 ∨ r = 5 ∨ r = 6 ∨ r = 7 := by omega
  rcases this with rfl | rfl | rfl | rfl | rfl | rfl | rfl | rfl <;> simp <;> omega

theorem bit_test (x i : Nat) : x.testBit i = decide (x / 2 ^ i % 2 = 1) := Nat.testBit_eq_decide_div_mod_eq
theorem val_lt16 (C : List Nat) (hl : C.length = 16) (hC : ∀ x ∈ C, x < 256) : val C < 2 ^ 128 := by
  have := val_lt C hC
  rw [hl] at this
  exact this

/-- The first n bits are the same just if so is the number without the others. -/
theorem agree_iff (X Y : List Nat) (lx : X.length = 16) (ly : Y.length = 16) (hX : ∀ x ∈ X, x < 256) (hY : ∀ x ∈ Y, x < 256) (n : Nat) (hn : n ≤ 128) : (∀ i, i < n → bitn X i = bitn Y i) ↔ val X / 2 ^ (128 - n) = val Y / 2 ^ (128 - n) := by
  constructor
  · intro h
    apply Nat.eq_of_testBit_eq
    intro j
    rw [Nat.testBit_div_two_pow, Nat.testBit_div_two_pow]
    by_cases hj : 128 - n + j < 128
    · have := h (127 - (128 - n + j)) (by omega)
      rw [val_bit X lx hX _ (by omega), val_bit Y ly hY _ (by omega), show 127 - (127 - (128 - n + j)) = 128 - n + j by omega] at this
      rw [Nat.add_comm, bit_test, bit_test, this]
    · have hx := val_lt16 X lx hX
      have hy := val_lt16 Y ly hY
      have hp : 2 ^ 128 ≤ 2 ^ (128 - n + j) := Nat.pow_le_pow_right (by decide) (by omega)
      rw [Nat.add_comm, Nat.testBit_lt_two_pow (by omega), Nat.testBit_lt_two_pow (by omega)]
  · intro h i hi
    rw [val_bit X lx hX i (by omega), val_bit Y ly hY i (by omega)]
    have e : 127 - i = 128 - n + (127 - i - (128 - n)) := by omega
    rw [e, Nat.pow_add, ← Nat.div_div_eq_div_mul, ← Nat.div_div_eq_div_mul, h]

theorem zero_mod (X : List Nat) (lx : X.length = 16) (hX : ∀ x ∈ X, x < 256) (n : Nat) (h : ∀ i, n ≤ i → i < 128 → bitn X i = 0) : val X % 2 ^ (128 - n) = 0 := by
  apply Nat.eq_of_testBit_eq
  intro j
  rw [Nat.testBit_mod_two_pow, Nat.zero_testBit]
  by_cases hj : j < 128 - n
  · have := h (127 - j) (by omega) (by omega)
    rw [val_bit X lx hX _ (by omega), show 127 - (127 - j) = j by omega] at this
    rw [bit_test, this]
    simp
  · simp [hj]

theorem cmpN_val : ∀ (x y : List Nat), x.length = y.length → (∀ n ∈ x, n < 256) → (∀ n ∈ y, n < 256) → cmpN x y = if val x < val y then -1 else if val y < val x then 1 else 0
  | [], [], _, _, _ => rfl
  | [], _ :: _, h, _, _ => by cases h
  | _ :: _, [], h, _, _ => by cases h
  | a :: x, b :: y, h, hx, hy => by
    have hl : x.length = y.length := by simpa using h
    have ih := cmpN_val x y hl (fun n hn => hx n (by simp [hn])) (fun n hn => hy n (by simp [hn]))
    have h1 := val_lt x fun n hn => hx n (by simp [hn])
    have h2 := val_lt y fun n hn => hy n (by simp [hn])
    rw [hl] at h1
    unfold cmpN
    rw [val, val, hl]
    generalize 256 ^ y.length = p at *
    by_cases hab : a < b
    · have h3 : (a + 1) * p ≤ b * p := Nat.mul_le_mul_right _ hab
      rw [Nat.add_mul, Nat.one_mul] at h3
      rw [if_pos hab, if_pos (by omega)]
    · by_cases hba : b < a
      · have h3 : (b + 1) * p ≤ a * p := Nat.mul_le_mul_right _ hba
        rw [Nat.add_mul, Nat.one_mul] at h3
        rw [if_neg hab, if_pos hba, if_neg (by omega), if_pos (by omega)]
      · obtain rfl : a = b := by omega
        rw [if_neg hab, if_neg hab, ih]
        have k1 : (a * p + val x < a * p + val y) ↔ val x < val y := by omega
        have k2 : (a * p + val y < a * p + val x) ↔ val y < val x := by omega
        simp only [k1, k2]

theorem val_inj : ∀ (x y : List Nat), x.length = y.length → (∀ n ∈ x, n < 256) → (∀ n ∈ y, n < 256) → val x = val y → x = y
  | [], [], _, _, _, _ => rfl
  | [], _ :: _, h, _, _, _ => by cases h
  | _ :: _, [], h, _, _, _ => by cases h
  | a :: x, b :: y, h, hx, hy, e => by
    have hl : x.length = y.length := by simpa using h
    have h1 := val_lt x fun n hn => hx n (by simp [hn])
    have h2 := val_lt y fun n hn => hy n (by simp [hn])
    rw [val, val, hl] at e
    rw [hl] at h1
    generalize 256 ^ y.length = p at *
    have hab : a = b := by
      by_cases h3 : a < b
      · have h4 : (a + 1) * p ≤ b * p := Nat.mul_le_mul_right _ h3
        rw [Nat.add_mul, Nat.one_mul] at h4
        omega
      · by_cases h3 : b < a
        · have h4 : (b + 1) * p ≤ a * p := Nat.mul_le_mul_right _ h3
          rw [Nat.add_mul, Nat.one_mul] at h4
          omega
        · omega
    subst hab
    rw [val_inj x y hl (fun n hn => hx n (by simp [hn])) (fun n hn => hy n (by simp [hn])) (by omega)]

/-! ### Cidrs -/
abbrev CT := Bool × List Nat × Int
def cmpT (a b : CT) : Int := cmpC a.1 b.1 a.2.1 b.2.1 a.2.2 b.2.2
def covT (a b : CT) : Bool := coversC a.1 (ints a.2.1) a.2.2 b.1 (ints b.2.1) b.2.2
def rightT (a : CT) : Bool := rightC a.1 (ints a.2.1) a.2.2
def DT (a : CT) : Prop := a.2.1.length = 16 ∧ ∀ x ∈ a.2.1, x < 256

theorem right_facts (a : CT) (h : DT a) (hr : rightT a = true) : 0 ≤ a.2.2 ∧ a.2.2 ≤ 128 ∧ (a.1 || flat (ints a.2.1)) = true ∧ val a.2.1 % 2 ^ (128 - a.2.2.toNat) = 0 := by
  obtain ⟨s, C, n⟩ := a
  obtain ⟨hl, hC⟩ := h
  simp only [rightT, rightC, Bool.and_eq_true, decide_eq_true_eq] at hr hl hC ⊢
  obtain ⟨hf, h0, hw, hz⟩ := hr
  have hw8 := wid_le s
  refine ⟨h0, by omega, hf, zero_mod C hl hC n.toNat fun i h1 h2 => ?_⟩
  by_cases hi : i < wid s
  · have := List.all_eq_true.1 hz i (List.mem_range.2 hi)
    simp only [Bool.or_eq_true, decide_eq_true_eq, beq_iff_eq] at this
    rcases this with h | h
    · omega
    · rw [bitN_ints] at h
      omega
  · cases s with
    | true => exact absurd h2 hi
    | false =>
      have hw32 : wid false = 32 := rfl
      have := flat_byte C (by simpa using hf) (i / 8) (by omega) (by omega)
      unfold bitn
      rw [this]
      simp

theorem cov_iff (a b : CT) (ha : DT a) (hb : DT b) : covT a b = true ↔ rightT a = true ∧ rightT b = true ∧ a.1 = b.1 ∧ a.2.2 ≤ b.2.2 ∧ val a.2.1 / 2 ^ (128 - a.2.2.toNat) = val b.2.1 / 2 ^ (128 - a.2.2.toNat) := by
  have key : 0 ≤ a.2.2 ∧ a.2.2 ≤ 128 → (agreeB (ints b.2.1) (ints a.2.1) a.2.2.toNat = true ↔ val a.2.1 / 2 ^ (128 - a.2.2.toNat) = val b.2.1 / 2 ^ (128 - a.2.2.toNat)) := fun hn => by
    rw [← agree_iff a.2.1 b.2.1 ha.1 hb.1 ha.2 hb.2 a.2.2.toNat (by omega)]
    constructor
    · intro h i hi
      have := List.all_eq_true.1 h i (List.mem_range.2 hi)
      simp only [beq_iff_eq] at this
      rw [bitN_ints, bitN_ints] at this
      omega
    · intro h
      refine agreeB_of _ _ _ fun i hi => ?_
      rw [bitN_ints, bitN_ints, h i hi]
  constructor
  · intro h
    simp only [covT, coversC, containsC, Bool.and_eq_true, decide_eq_true_eq, beq_iff_eq] at h
    obtain ⟨h1, ⟨h2, _, h3, h4⟩, h5⟩ := h
    have hf := right_facts a ha h2
    exact ⟨h2, h1, h3.symm, h5, (key ⟨hf.1, hf.2.1⟩).1 h4⟩
  · rintro ⟨h2, h1, h3, h5, h4⟩
    have hf := right_facts a ha h2
    have hg := right_facts b hb h1
    simp only [covT, coversC, containsC, Bool.and_eq_true, decide_eq_true_eq, beq_iff_eq]
    exact ⟨h1, ⟨h2, hg.2.2.1, h3.symm, (key ⟨hf.1, hf.2.1⟩).2 h4⟩, h5⟩

/-- The order by numbers. -/
theorem cmp_num (a b : CT) (ha : DT a) (hb : DT b) : cmpT a b = if a.1 = b.1 then (if val a.2.1 < val b.2.1 then -1 else if val b.2.1 < val a.2.1 then 1 else if a.2.2 < b.2.2 then -1 else if b.2.2 < a.2.2 then 1 else 0) else if b.1 = true then -1 else 1 := by
  unfold cmpT cmpC cmpA
  by_cases hs : a.1 = b.1
  · rw [if_pos hs, if_pos hs, cmpN_val a.2.1 b.2.1 (ha.1.trans hb.1.symm) ha.2 hb.2]
    by_cases h1 : val a.2.1 < val b.2.1
    · simp [h1]
    · by_cases h2 : val b.2.1 < val a.2.1
      · simp [h1, h2]
      · simp [h1, h2]
  · rw [if_neg hs, if_neg hs]
    cases h : b.1 <;> simp

theorem cidr_cov : Cov cmpT covT rightT DT where
  refl a ha := by rw [cmp_num a a ha ha]; simp
  anti a b ha hb h := by
    rw [cmp_num a b ha hb] at h
    obtain ⟨s, C, n⟩ := a
    obtain ⟨t, E, m⟩ := b
    simp only at h
    by_cases hs : s = t
    · rw [if_pos hs] at h
      split at h
      · omega
      · split at h
        · omega
        · split at h
          · omega
          · split at h
            · omega
            · have e := val_inj C E (ha.1.trans hb.1.symm) ha.2 hb.2 (by omega)
              have e2 : n = m := by omega
              rw [hs, e, e2]
    · rw [if_neg hs] at h
      split at h <;> omega
  swap a b ha hb := by
    rw [cmp_num a b ha hb, cmp_num b a hb ha]
    obtain ⟨s, C, n⟩ := a
    obtain ⟨t, E, m⟩ := b
    simp only
    by_cases hs : s = t
    · rw [if_pos hs, if_pos hs.symm]
      repeat' split
      all_goals omega
    · rw [if_neg hs, if_neg (fun e => hs e.symm)]
      cases s <;> cases t <;> simp_all
  trans a b c ha hb hc h1 h2 := by
    rw [cmp_num a b ha hb] at h1
    rw [cmp_num b c hb hc] at h2
    rw [cmp_num a c ha hc]
    obtain ⟨s, C, n⟩ := a
    obtain ⟨t, E, m⟩ := b
    obtain ⟨u, F, k⟩ := c
    simp only at h1 h2 ⊢
    generalize val C = x at *
    generalize val E = y at *
    generalize val F = z at *
    cases s <;> cases t <;> cases u <;> simp at h1 h2 ⊢ <;> (repeat' split at h1) <;> (repeat' split at h2) <;> (repeat' split) <;> omega
  self a ha hr := (cov_iff a a ha ha).2 ⟨hr, hr, rfl, Int.le_refl _, rfl⟩
  rights a b ha hb h := ((cov_iff a b ha hb).1 h).1
  first a b ha hb h hne := by
    obtain ⟨h1, h2, h3, h4, h5⟩ := (cov_iff a b ha hb).1 h
    have hf := right_facts a ha h1
    have hle : val a.2.1 ≤ val b.2.1 := by
      have e1 := Nat.div_add_mod (val a.2.1) (2 ^ (128 - a.2.2.toNat))
      have e2 := Nat.div_add_mod (val b.2.1) (2 ^ (128 - a.2.2.toNat))
      rw [hf.2.2.2, h5] at e1
      omega
    rw [cmp_num a b ha hb, if_pos h3]
    by_cases hv : val a.2.1 < val b.2.1
    · rw [if_pos hv]; omega
    · rw [if_neg hv, if_neg (by omega)]
      by_cases hn : a.2.2 < b.2.2
      · rw [if_pos hn]; omega
      · exfalso
        apply hne
        obtain ⟨s, C, n⟩ := a
        obtain ⟨t, E, m⟩ := b
        simp only at h3 h4 hn hv hle
        have e := val_inj C E (ha.1.trans hb.1.symm) ha.2 hb.2 (by omega)
        have e2 : n = m := by omega
        rw [h3, e, e2]
  through a b c ha hb hc h1 h2 := by
    obtain ⟨p1, p2, p3, p4, p5⟩ := (cov_iff a b ha hb).1 h1
    obtain ⟨q1, q2, q3, q4, q5⟩ := (cov_iff b c hb hc).1 h2
    have hf := right_facts a ha p1
    have hg := right_facts b hb p2
    refine (cov_iff a c ha hc).2 ⟨p1, q2, p3.trans q3, by omega, ?_⟩
    rw [p5]
    have e : 128 - a.2.2.toNat = (128 - b.2.2.toNat) + (b.2.2.toNat - a.2.2.toNat) := by omega
    rw [e, Nat.pow_add, ← Nat.div_div_eq_div_mul, ← Nat.div_div_eq_div_mul, q5]
  between a b c ha hb hc hr h hab hbc := by
    obtain ⟨p1, p2, p3, p4, p5⟩ := (cov_iff a c ha hc).1 h
    have hf := right_facts a ha p1
    have hg := right_facts b hb hr
    rw [cmp_num a b ha hb] at hab
    rw [cmp_num b c hb hc] at hbc
    have hs : a.1 = b.1 := by
      by_cases e : a.1 = b.1
      · exact e
      · rw [if_neg e] at hab
        rw [p3] at e
        rw [if_neg (fun h => e h.symm)] at hbc
        cases h1 : b.1 <;> cases h2 : c.1 <;> simp_all
    rw [if_pos hs] at hab
    rw [if_pos (hs.symm.trans p3)] at hbc
    have v1 : val a.2.1 ≤ val b.2.1 := by
      split at hab
      · omega
      · split at hab
        · omega
        · omega
    have v2 : val b.2.1 ≤ val c.2.1 := by
      split at hbc
      · omega
      · split at hbc
        · omega
        · omega
    have d1 := Nat.div_le_div_right (c := 2 ^ (128 - a.2.2.toNat)) v1
    have d2 := Nat.div_le_div_right (c := 2 ^ (128 - a.2.2.toNat)) v2
    have dv : val a.2.1 / 2 ^ (128 - a.2.2.toNat) = val b.2.1 / 2 ^ (128 - a.2.2.toNat) := by omega
    refine (cov_iff a b ha hb).2 ⟨p1, hr, hs, ?_, dv⟩
    by_cases hv : val a.2.1 < val b.2.1
    · apply Classical.byContradiction
      intro hn
      have e : 128 - b.2.2.toNat = (128 - a.2.2.toNat) + (a.2.2.toNat - b.2.2.toNat) := by omega
      have m1 : val b.2.1 % 2 ^ (128 - a.2.2.toNat) = 0 := by
        have := hg.2.2.2
        rw [e, Nat.pow_add] at this
        have h2 := Nat.dvd_of_mod_eq_zero this
        exact Nat.mod_eq_zero_of_dvd (Nat.dvd_trans (Nat.dvd_mul_right _ _) h2)
      have e1 := Nat.div_add_mod (val a.2.1) (2 ^ (128 - a.2.2.toNat))
      have e2 := Nat.div_add_mod (val b.2.1) (2 ^ (128 - a.2.2.toNat))
      rw [hf.2.2.2, dv] at e1
      rw [m1] at e2
      omega
    · rw [if_neg hv, if_neg (by omega)] at hab
      split at hab
      · omega
      · split at hab
        · omega
        · omega
end Go.Proofs.YtijboclcbbnhbaaGreatDoor
