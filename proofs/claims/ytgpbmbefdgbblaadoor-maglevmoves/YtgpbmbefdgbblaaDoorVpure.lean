/-
  Plain facts of strides: the places, the number of a place.
-/
import Derived.Test.YtgpbmbefdgbblaaDoorFnum
namespace Go.Proofs.YtgpbmbefdgbblaaDoor

/-- May a table have so many places? -/
def sizedB (n : Int) : Bool := decide (n ≤ 251) && isP n
/-- Is a stride right? -/
def rightS (m o k : Int) : Bool := sizedB m && decide (0 ≤ o) && decide (o < m) && decide (0 < k) && decide (k < m)
/-- The place number j. -/
def plc (m o k j : Int) : Int := (o + j % m * k) % m
/-- All places. -/
def plcs (m o k : Int) : List Int := (List.range m.toNat).map fun j : Nat => plc m o k j
/-- The number whose place it is. -/
def whn (m o k p : Int) : Int := ((p - o) * pwr k (m.toNat - 2) m) % m

theorem rightS_iff (m o k : Int) : rightS m o k = true ↔ m ≤ 251 ∧ isP m = true ∧ 0 ≤ o ∧ o < m ∧ 0 < k ∧ k < m := by
  unfold rightS sizedB
  simp only [Bool.and_eq_true, decide_eq_true_eq]
  constructor
  · rintro ⟨⟨⟨⟨⟨a, b⟩, c⟩, d⟩, e⟩, f⟩; exact ⟨a, b, c, d, e, f⟩
  · rintro ⟨a, b, c, d, e, f⟩; exact ⟨⟨⟨⟨⟨a, b⟩, c⟩, d⟩, e⟩, f⟩

theorem sized_range {m : Int} (h : sizedB m = true) : 2 ≤ m ∧ m ≤ 251 ∧ isP m = true := by
  unfold sizedB at h
  simp only [Bool.and_eq_true, decide_eq_true_eq] at h
  exact ⟨(isP_range h.2).1, h.1, h.2⟩

theorem plc_range {m : Int} (o k j : Int) (h : 1 ≤ m) : 0 ≤ plc m o k j ∧ plc m o k j < m :=
  ⟨Int.emod_nonneg _ (by omega), Int.emod_lt_of_pos _ (by omega)⟩
theorem plc_plain (m o k j : Int) : plc m o k j = (o + j * k) % m := by
  unfold plc
  rw [Int.add_emod, Int.mul_emod, Int.emod_emod_of_dvd j (Int.dvd_refl m), ← Int.mul_emod, ← Int.add_emod]
theorem plc_zero {m o : Int} (k : Int) (h0 : 0 ≤ o) (h1 : o < m) : plc m o k 0 = o := by
  rw [plc_plain, Int.zero_mul, Int.add_zero, Int.emod_eq_of_lt h0 h1]
theorem plc_add (m o k j : Int) : plc m o k (j + m) = plc m o k j := by
  unfold plc
  rw [Int.add_emod_right]
theorem plc_mod (m o k j : Int) : plc m o k (j % m) = plc m o k j := by
  unfold plc
  rw [Int.emod_emod_of_dvd j (Int.dvd_refl m)]
theorem plc_succ {m o k : Int} (j : Int) (hm : 1 ≤ m) (hk : 0 < k) (hkm : k < m) : plc m o k (j + 1) = if m ≤ plc m o k j + k then plc m o k j + k - m else plc m o k j + k := by
  have hr := plc_range o k j hm
  have e : plc m o k (j + 1) = (plc m o k j + k) % m := by
    rw [plc_plain, plc_plain, Int.emod_add_emod, Int.add_mul, Int.one_mul, Int.add_assoc]
  rw [e]
  by_cases h : m ≤ plc m o k j + k
  · rw [if_pos h, ← Int.sub_emod_right, Int.emod_eq_of_lt (by omega) (by omega)]
  · rw [if_neg h, Int.emod_eq_of_lt (by omega) (by omega)]

theorem whn_range {m : Int} (o k p : Int) (h : 1 ≤ m) : 0 ≤ whn m o k p ∧ whn m o k p < m :=
  ⟨Int.emod_nonneg _ (by omega), Int.emod_lt_of_pos _ (by omega)⟩
theorem inv_mul {m k : Int} (hp : isP m = true) (h0 : 0 < k) (h1 : k < m) : (pwr k (m.toNat - 2) m * k) % m = 1 := by
  have e : k % m = k := Int.emod_eq_of_lt (by omega) h1
  have := (pwr_inverse k hp (by omega)).1
  rwa [e] at this
/-- The number that is told is one whose place it is. -/
theorem plc_whn {m o k p : Int} (h : rightS m o k = true) (hp0 : 0 ≤ p) (hp1 : p < m) : plc m o k (whn m o k p) = p := by
  obtain ⟨_, hP, _, _, hk0, hk1⟩ := (rightS_iff m o k).1 h
  rw [plc_plain]
  unfold whn
  have hi := inv_mul hP hk0 hk1
  generalize pwr k (m.toNat - 2) m = i at hi
  have e1 : ((p - o) * i % m * k) % m = (p - o) % m := by
    rw [Int.mul_emod, Int.emod_emod_of_dvd _ (Int.dvd_refl m), ← Int.mul_emod, Int.mul_assoc, Int.mul_emod, hi, Int.mul_one, Int.emod_emod_of_dvd _ (Int.dvd_refl m)]
  rw [Int.add_emod, e1, ← Int.add_emod, show o + (p - o) = p by omega, Int.emod_eq_of_lt hp0 hp1]
/-- The number of a place is the one that is told. -/
theorem whn_plc {m o k j : Int} (h : rightS m o k = true) (hj0 : 0 ≤ j) (hj1 : j < m) : whn m o k (plc m o k j) = j := by
  obtain ⟨_, hP, _, _, hk0, hk1⟩ := (rightS_iff m o k).1 h
  rw [plc_plain]
  unfold whn
  have hi := inv_mul hP hk0 hk1
  generalize pwr k (m.toNat - 2) m = i at hi
  have e1 : (((o + j * k) % m - o) * i) % m = (j * (i * k)) % m := by
    rw [Int.mul_emod, Int.emod_sub_emod, show o + j * k - o = j * k by omega, ← Int.mul_emod, Int.mul_assoc, Int.mul_comm k i]
  rw [e1, Int.mul_emod, hi, Int.mul_one, Int.emod_emod_of_dvd _ (Int.dvd_refl m), Int.emod_eq_of_lt hj0 hj1]
theorem plc_inj {m o k i j : Int} (h : rightS m o k = true) (hi0 : 0 ≤ i) (hi1 : i < m) (hj0 : 0 ≤ j) (hj1 : j < m) (e : plc m o k i = plc m o k j) : i = j := by
  rw [← whn_plc h hi0 hi1, e, whn_plc h hj0 hj1]

theorem plcs_length (m o k : Int) : (plcs m o k).length = m.toNat := by simp [plcs]
theorem plcs_getD (m o k : Int) {j : Nat} (h : j < m.toNat) : (plcs m o k).getD j 0 = plc m o k j := by
  simp [plcs, List.getD_eq_getElem?_getD, h]
theorem plcs_take_succ (m o k : Int) {j : Nat} (h : j < m.toNat) : (plcs m o k).take (j + 1) = (plcs m o k).take j ++ [plc m o k j] := by
  rw [List.take_succ_eq_append_getElem (by simpa [plcs] using h)]
  simp [plcs]

/-- What When tells of a stride, right or not, and of a place, one or not. -/
def whenOf (m o k p : Int) : Int := if rightS m o k = true ∧ 0 ≤ p ∧ p < m then whn m o k p else -1
/-- What Place tells. -/
def placeOf (m o k j : Int) : Int := if rightS m o k = true then plc m o k j else -1

/-- The last number below k whose place is p, as the law looks for it. -/
theorem last_plc {m o k p : Int} (h : rightS m o k = true) (n : Nat) (hn : (n : Int) < m) :
    (plc m o k n = p ↔ (0 ≤ p ∧ p < m) ∧ whn m o k p = n) := by
  constructor
  · intro e
    have hr := plc_range o k (n : Int) (show 1 ≤ m by omega)
    exact ⟨e ▸ hr, by rw [← e]; exact whn_plc h (by omega) hn⟩
  · rintro ⟨⟨a, b⟩, c⟩
    rw [← c]
    exact plc_whn h a b
end Go.Proofs.YtgpbmbefdgbblaaDoor
