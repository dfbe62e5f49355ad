/-
  Sums, plain facts: a checksum behind many changes tells the same as that of the changed bytes.
-/
import Derived.Test.YtnlhdeffoalhiaaDoorSpure
namespace Go.Proofs.YtnlhdeffoalhiaaDoor

/-- A checksum behind many changes, one behind the other. -/
def changes (c : Int) (xs : List (Int × Int)) : Int := xs.foldl (fun c x => change c x.1 x.2) c
theorem changes_snoc (c : Int) (xs : List (Int × Int)) (x : Int × Int) : changes c (xs ++ [x]) = change (changes c xs) x.1 x.2 := by simp [changes]
theorem changes_nil (c : Int) : changes c [] = c := rfl
theorem changes_range {c : Int} (h : 0 ≤ c ∧ c ≤ 65535) (xs : List (Int × Int)) : 0 ≤ changes c xs ∧ changes c xs ≤ 65535 := by
  induction xs generalizing c with
  | nil => exact h
  | cons x xs ih => exact ih (change_range c x.1 x.2)

def Wd (x : Int) : Prop := 0 ≤ x ∧ x ≤ 65535
theorem change_mod {c x y : Int} (hc : Wd c) (hx : Wd x) (hy : Wd y) : (change c x y - (c + x - y)) % 65535 = 0 := by
  unfold Wd at *
  unfold change fold
  split <;> omega
theorem changes_mod {c : Int} (hc : Wd c) (xs : List (Int × Int)) (hx : ∀ x ∈ xs, Wd x.1 ∧ Wd x.2) : (changes c xs - (c + (xs.map (·.1)).sum - (xs.map (·.2)).sum)) % 65535 = 0 := by
  induction xs generalizing c with
  | nil => simp [changes]
  | cons x xs ih =>
    have h1 := hx x (by simp)
    have h2 := ih (change_range c x.1 x.2) (fun y hy => hx y (by simp [hy]))
    have h3 := change_mod hc h1.1 h1.2
    show (changes (change c x.1 x.2) xs - _) % 65535 = 0
    rw [List.map_cons, List.map_cons, List.sum_cons, List.sum_cons]
    omega
theorem check_mod {bs : List Int} (hb : Byt bs) : (check bs + total bs) % 65535 = 0 := by
  have := wsum_range hb (nw bs.length)
  unfold check fold total
  split <;> omega
theorem same_of_mod {a b : Int} (ha : Wd a) (hb : Wd b) (h : (a - b) % 65535 = 0) : same a b = true := by
  unfold Wd at *
  unfold same
  by_cases e : a = b
  · simp [e]
  · simp only [Bool.or_eq_true, Bool.and_eq_true, decide_eq_true_eq]
    omega

/-- The words of two rows of bytes, side by side. -/
def pairs (xs ys : List Int) (m : Nat) : List (Int × Int) := (List.range m).map fun j => (wordAt xs (2 * j), wordAt ys (2 * j))
theorem pairs_succ (xs ys : List Int) (m : Nat) : pairs xs ys (m + 1) = pairs xs ys m ++ [(wordAt xs (2 * m), wordAt ys (2 * m))] := by simp [pairs, List.range_succ]
theorem pairs_sum1 (xs ys : List Int) : ∀ m, ((pairs xs ys m).map (·.1)).sum = wsum xs m
  | 0 => rfl
  | m + 1 => by rw [pairs_succ, List.map_append, List.sum_append, pairs_sum1 xs ys m, wsum]; simp
theorem pairs_sum2 (xs ys : List Int) : ∀ m, ((pairs xs ys m).map (·.2)).sum = wsum ys m
  | 0 => rfl
  | m + 1 => by rw [pairs_succ, List.map_append, List.sum_append, pairs_sum2 xs ys m, wsum]; simp
theorem pairs_wd {xs ys : List Int} (hx : Byt xs) (hy : Byt ys) (m : Nat) : ∀ x ∈ pairs xs ys m, Wd x.1 ∧ Wd x.2 := fun x h => by
  obtain ⟨j, _, rfl⟩ := List.mem_map.1 h
  exact ⟨word_range hx _, word_range hy _⟩

/-- What is changed: so many bytes at a place. -/
def put (bs now : List Int) (at' n : Nat) : List Int := bs.take at' ++ now.take n ++ bs.drop (at' + n)
theorem put_length {bs now : List Int} {p n : Nat} (h1 : p + n ≤ bs.length) (h2 : n ≤ now.length) : (put bs now p n).length = bs.length := by
  simp only [put, List.length_append, List.length_take, List.length_drop]
  omega
theorem put_low {bs now : List Int} {p n : Nat} (h1 : p + n ≤ bs.length) (i : Nat) (hi : i < p) : (put bs now p n).getD i 0 = bs.getD i 0 := by
  simp only [put, List.getD, List.append_assoc]
  rw [List.getElem?_append_left (by rw [List.length_take]; omega), List.getElem?_take_of_lt hi]
theorem put_mid {bs now : List Int} {p n : Nat} (h1 : p + n ≤ bs.length) (h2 : n ≤ now.length) (i : Nat) (hi : i < n) : (put bs now p n).getD (p + i) 0 = now.getD i 0 := by
  simp only [put, List.getD]
  rw [List.getElem?_append_left (by rw [List.length_append, List.length_take, List.length_take]; omega), List.getElem?_append_right (by rw [List.length_take]; omega), List.length_take,
    show p + i - min p bs.length = i by omega, List.getElem?_take_of_lt hi]
theorem put_high {bs now : List Int} {p n : Nat} (h1 : p + n ≤ bs.length) (h2 : n ≤ now.length) (i : Nat) (hi : p + n ≤ i) : (put bs now p n).getD i 0 = bs.getD i 0 := by
  simp only [put, List.getD]
  rw [List.getElem?_append_right (by rw [List.length_append, List.length_take, List.length_take]; omega), List.length_append, List.length_take, List.length_take, List.getElem?_drop,
    show p + n + (i - (min p bs.length + min n now.length)) = i by omega]
theorem put_byt {bs now : List Int} {p n : Nat} (h1 : p + n ≤ bs.length) (h2 : n ≤ now.length) (hb : Byt bs) (hn : Byt now) : Byt (put bs now p n) := fun i => by
  by_cases h : i < p
  · rw [put_low h1 i h]; exact hb i
  · by_cases h' : i < p + n
    · rw [show i = p + (i - p) by omega, put_mid h1 h2 (i - p) (by omega)]; exact hn _
    · rw [put_high h1 h2 i (by omega)]; exact hb i

/-- The bytes that stood there. -/
def stood (bs : List Int) (p n : Nat) : List Int := (bs.drop p).take n
theorem stood_length {bs : List Int} {p n : Nat} (h1 : p + n ≤ bs.length) : (stood bs p n).length = n := by simp only [stood, List.length_take, List.length_drop]; omega
theorem stood_at {bs : List Int} {p n i : Nat} (hi : i < n) : (stood bs p n).getD i 0 = bs.getD (p + i) 0 := by
  simp only [stood, List.getD]
  rw [List.getElem?_take_of_lt hi, List.getElem?_drop]
theorem stood_byt {bs : List Int} (hb : Byt bs) (p n : Nat) : Byt (stood bs p n) := fun i => by
  by_cases h : i < n
  · rw [stood_at h]; exact hb _
  · simp only [stood, List.getD]
    rw [List.getElem?_eq_none (by rw [List.length_take]; omega)]
    simp

theorem put_wsum_low {bs now : List Int} {a m : Nat} (h1 : 2 * a + 2 * m ≤ bs.length) : ∀ k, k ≤ a → wsum (put bs now (2 * a) (2 * m)) k = wsum bs k
  | 0, _ => rfl
  | k + 1, h => by
    rw [wsum, wsum, put_wsum_low h1 k (by omega), wordAt, wordAt, put_low h1 _ (by omega), put_low h1 _ (by omega)]
theorem put_wsum_mid {bs now : List Int} {a m : Nat} (h1 : 2 * a + 2 * m ≤ bs.length) (h2 : 2 * m ≤ now.length) : ∀ j, j ≤ m → wsum (put bs now (2 * a) (2 * m)) (a + j) = wsum bs a + wsum now j
  | 0, _ => by rw [Nat.add_zero, put_wsum_low h1 a (Nat.le_refl _)]; simp [wsum]
  | j + 1, h => by
    rw [← Nat.add_assoc, wsum, put_wsum_mid h1 h2 j (by omega), wsum, wordAt, show 2 * (a + j) = 2 * a + 2 * j by omega, put_mid h1 h2 _ (by omega), Nat.add_assoc, put_mid h1 h2 _ (by omega), wordAt]
    omega
theorem stood_wsum {bs : List Int} {a m : Nat} : ∀ j, j ≤ m → wsum bs (a + j) = wsum bs a + wsum (stood bs (2 * a) (2 * m)) j
  | 0, _ => by simp [wsum]
  | j + 1, h => by
    rw [← Nat.add_assoc, wsum, stood_wsum (m := m) j (by omega), wsum, wordAt, wordAt, stood_at (by omega), stood_at (by omega), show 2 * (a + j) = 2 * a + 2 * j by omega, Nat.add_assoc (2 * a)]
    omega
theorem put_wsum_high {bs now : List Int} {a m : Nat} (h1 : 2 * a + 2 * m ≤ bs.length) (h2 : 2 * m ≤ now.length) : ∀ r, wsum (put bs now (2 * a) (2 * m)) (a + m + r) = wsum (put bs now (2 * a) (2 * m)) (a + m) + (wsum bs (a + m + r) - wsum bs (a + m))
  | 0 => by simp
  | r + 1 => by
    rw [← Nat.add_assoc, wsum, put_wsum_high h1 h2 r, wsum, wordAt, wordAt, put_high h1 h2 _ (by omega), put_high h1 h2 _ (by omega)]
    omega
theorem put_total {bs now : List Int} {a m : Nat} (h1 : 2 * a + 2 * m ≤ bs.length) (h2 : 2 * m ≤ now.length) : total (put bs now (2 * a) (2 * m)) = total bs - wsum (stood bs (2 * a) (2 * m)) m + wsum now m := by
  unfold total
  rw [put_length h1 h2]
  obtain ⟨r, hr⟩ : ∃ r, nw bs.length = a + m + r := ⟨nw bs.length - (a + m), by unfold nw; omega⟩
  rw [hr, put_wsum_high h1 h2, put_wsum_mid h1 h2 m (Nat.le_refl _)]
  have := stood_wsum (bs := bs) (a := a) m (Nat.le_refl _)
  omega

theorem changed_same {bs now : List Int} {a m : Nat} (h1 : 2 * a + 2 * m ≤ bs.length) (h2 : 2 * m ≤ now.length) (hb : Byt bs) (hn : Byt now) : same (changes (check bs) (pairs (stood bs (2 * a) (2 * m)) now m)) (check (put bs now (2 * a) (2 * m))) = true := by
  have hs := stood_byt hb (2 * a) (2 * m)
  have hp := put_byt h1 h2 hb hn
  refine same_of_mod (changes_range (check_range bs) _) (check_range _) ?_
  have e1 := changes_mod (check_range bs) _ (pairs_wd hs hn m)
  have e2 := check_mod hb
  have e3 := check_mod hp
  rw [put_total h1 h2] at e3
  rw [pairs_sum1, pairs_sum2] at e1
  omega
end Go.Proofs.YtnlhdeffoalhiaaDoor
