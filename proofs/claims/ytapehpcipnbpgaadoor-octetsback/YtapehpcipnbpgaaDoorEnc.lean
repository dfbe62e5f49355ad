/-
  What OctetsBack writes, as plain lists of bytes; a list that grows in memory.
-/
import Derived.Test.YtapehpcipnbpgaaDoorAt
namespace Go.Proofs.YtapehpcipnbpgaaDoor
open Go.RowKit

def encAt (l : List Int) : Nat → List Int
  | 0 => []
  | k + 1 => encAt l k ++ be (l.getD k 0).toNat (1 + k % 8)

def txtAt (ts : List ByteArray) : Nat → List Int
  | 0 => []
  | k + 1 => txtAt ts k ++ (((ts.getD k ByteArray.empty).size : Int) :: txt (ts.getD k ByteArray.empty))

theorem encAt_length (l : List Int) : ∀ k, (encAt l k).length ≤ 8 * k
  | 0 => by simp [encAt]
  | k + 1 => by
    have := encAt_length l k
    simp [encAt, be_length]
    omega

theorem txtAt_length (ts : List ByteArray) : ∀ k, (∀ j, j < k → (ts.getD j ByteArray.empty).size ≤ 255) → (txtAt ts k).length ≤ 256 * k
  | 0, _ => by simp [txtAt]
  | k + 1, h => by
    have h1 := txtAt_length ts k (fun j hj => h j (by omega))
    have h2 := h k (by omega)
    generalize hs : ts.getD k ByteArray.empty = s at *
    simp only [txtAt, hs, List.length_append, List.length_cons, txt_length]
    omega

theorem encAt_split (l : List Int) (k : Nat) : ∀ L, k < L → ∃ r, encAt l L = encAt l k ++ (be (l.getD k 0).toNat (1 + k % 8) ++ r)
  | L + 1, h => by
    by_cases hk : k = L
    · subst hk
      exact ⟨[], by simp [encAt]⟩
    · obtain ⟨r, hr⟩ := encAt_split l k L (by omega)
      exact ⟨r ++ be (l.getD L 0).toNat (1 + L % 8), by rw [encAt, hr]; simp [List.append_assoc]⟩

theorem txtAt_split (ts : List ByteArray) (k : Nat) : ∀ L, k < L → ∃ r, txtAt ts L = txtAt ts k ++ ((((ts.getD k ByteArray.empty).size : Int) :: txt (ts.getD k ByteArray.empty)) ++ r)
  | L + 1, h => by
    by_cases hk : k = L
    · subst hk
      exact ⟨[], by simp [txtAt]⟩
    · obtain ⟨r, hr⟩ := txtAt_split ts k L (by omega)
      exact ⟨r ++ (((ts.getD L ByteArray.empty).size : Int) :: txt (ts.getD L ByteArray.empty)), by rw [txtAt, hr]; simp [List.append_assoc]⟩

theorem txt_bounds (t : ByteArray) : ∀ x ∈ txt t, 0 ≤ x ∧ x ≤ 255 := by
  intro x hx
  simp only [txt, List.mem_map] at hx
  obtain ⟨b, _, rfl⟩ := hx
  have := b.toNat_lt
  omega

theorem encAt_bounds (l : List Int) : ∀ k, ∀ x ∈ encAt l k, 0 ≤ x ∧ x ≤ 255
  | 0, x, h => by cases h
  | k + 1, x, h => by
    rw [encAt, List.mem_append] at h
    rcases h with h | h
    · exact encAt_bounds l k x h
    · exact be_bounds _ _ x h

theorem txtAt_bounds (ts : List ByteArray) : ∀ k, (∀ j, j < k → (ts.getD j ByteArray.empty).size ≤ 255) → ∀ x ∈ txtAt ts k, 0 ≤ x ∧ x ≤ 255
  | 0, _, x, h => by cases h
  | k + 1, hs, x, h => by
    have h2 := hs k (by omega)
    rw [txtAt, List.mem_append, List.mem_cons] at h
    rcases h with h | rfl | h
    · exact txtAt_bounds ts k (fun j hj => hs j (by omega)) x h
    · omega
    · exact txt_bounds _ x h

/-- All that is written. -/
def allBytes (b : Bool) (l : List Int) (n : Nat) (ts : List ByteArray) (m : Nat) : List Int := [if b then 1 else 0] ++ encAt l n ++ txtAt ts m

theorem all_length (b : Bool) (l : List Int) (n : Nat) (ts : List ByteArray) (m : Nat) : (allBytes b l n ts m).length = 1 + (encAt l n).length + (txtAt ts m).length := by
  simp [allBytes]; omega

theorem all_num (b : Bool) (l : List Int) (n : Nat) (ts : List ByteArray) (m k : Nat) (hk : k < n) :
    ∃ r, (allBytes b l n ts m).drop (1 + (encAt l k).length) = be (l.getD k 0).toNat (1 + k % 8) ++ r := by
  obtain ⟨r, hr⟩ := encAt_split l k n hk
  refine ⟨r ++ txtAt ts m, ?_⟩
  have e : allBytes b l n ts m = ([if b then 1 else 0] ++ encAt l k) ++ (be (l.getD k 0).toNat (1 + k % 8) ++ (r ++ txtAt ts m)) := by
    rw [allBytes, hr]; simp [List.append_assoc]
  rw [e, List.drop_append_of_le_length (by simp; omega), List.drop_of_length_le (by simp; omega), List.nil_append]

theorem all_txt (b : Bool) (l : List Int) (n : Nat) (ts : List ByteArray) (m k : Nat) (hk : k < m) :
    ∃ r, (allBytes b l n ts m).drop (1 + (encAt l n).length + (txtAt ts k).length) = (((ts.getD k ByteArray.empty).size : Int) :: txt (ts.getD k ByteArray.empty)) ++ r := by
  obtain ⟨r, hr⟩ := txtAt_split ts k m hk
  refine ⟨r, ?_⟩
  have e : allBytes b l n ts m = ([if b then 1 else 0] ++ encAt l n ++ txtAt ts k) ++ ((((ts.getD k ByteArray.empty).size : Int) :: txt (ts.getD k ByteArray.empty)) ++ r) := by
    rw [allBytes, hr]; simp [List.append_assoc]
  rw [e, List.drop_append_of_le_length (by simp; omega), List.drop_of_length_le (by simp; omega), List.nil_append]

theorem all_bounds (b : Bool) (l : List Int) (n : Nat) (ts : List ByteArray) (m : Nat) (h : ∀ j, j < m → (ts.getD j ByteArray.empty).size ≤ 255) : ∀ x ∈ allBytes b l n ts m, 0 ≤ x ∧ x ≤ 255 := by
  intro x hx
  simp only [allBytes, List.mem_append, List.mem_singleton] at hx
  rcases hx with (rfl | hx) | hx
  · cases b <;> simp
  · exact encAt_bounds l n x hx
  · exact txtAt_bounds ts m h x hx

/-- Which numbers octets.Num writes. -/
def Good (n : Int) (s : Nat) : Prop := 0 ≤ n ∧ n ≤ 4611686018427387904 ∧ n.toNat / 256 ^ s = 0

theorem octNum_no (n : Int) (s : Nat) (w : World) (E0 : Value) (hE : w.cell? ⟨0, 0, none⟩ = some E0) (h1 : 1 ≤ s) (h2 : s ≤ 8) (h : ¬ Good n s) :
    Calls Tryd.prog 6 #[.int .i64 n, .int .i64 s] w fun e w' => e = .returned (.tuple #[.slice none 0 0, E0]) ∧ Below w.heap.size w w' := by
  by_cases hb : n < 0 ∨ 4611686018427387904 < n
  · exact octNum_bad n s w E0 hE (by omega)
  · obtain ⟨m, rfl⟩ : ∃ m : Nat, n = m := ⟨n.toNat, by omega⟩
    exact octNum_wide m s w E0 hE h1 h2 (by omega) (fun h0 => h ⟨by omega, by omega, by simpa using h0⟩)

theorem octNum_yes (n : Int) (s : Nat) (w : World) (h1 : 1 ≤ s) (h2 : s ≤ 8) (h : Good n s) :
    Calls Tryd.prog 6 #[.int .i64 n, .int .i64 s] w fun e w' => e = .returned (.tuple #[.slice (some ⟨w.heap.size, 0, none⟩) s s, .nilIface]) ∧
      w'.ownsRow w.heap.size 5 1 (.slice (some ⟨w.heap.size, 0, none⟩) s s) s ((be n.toNat s).map (Value.int .u8)) ∧ Below w.heap.size w w' := by
  obtain ⟨m, rfl⟩ : ∃ m : Nat, n = m := ⟨n.toNat, by have := h.1; omega⟩
  have h3 := h.2.2
  rw [Int.toNat_natCast] at h3 ⊢
  exact octNum_good m s w h1 h2 (by have := h.2.1; omega) h3

/-- A list of bytes of the call's own. -/
def Out (B : Nat) (w : World) (v : Value) (bs : List Int) : Prop :=
  ∃ g cap, v = .slice (some ⟨g, 0, none⟩) bs.length cap ∧ w.ownsRow B 5 1 (.slice (some ⟨g, 0, none⟩) bs.length cap) bs.length (bs.map (Value.int .u8))

theorem Out.appended {B : Nat} {w w' : World} {v v' : Value} {bs xs : List Int} (h : Out B w v bs) (h0 : 0 < bs.length) (hB : B ≤ w.heap.size)
    (ho : w'.ownsRow B 5 1 v' (bs.length + xs.length) (bs.map (Value.int .u8) ++ xs.map (Value.int .u8))) (hg : w.grownBy w' v.ownBlock) : Out B w' v' (bs ++ xs) ∧ Below B w w' := by
  obtain ⟨g, cap, rfl, hown⟩ := h
  obtain ⟨g', cap', rfl, -⟩ := own_shape ho (by omega)
  refine ⟨⟨g', cap', by rw [List.length_append], ?_⟩, ?_⟩
  · rw [List.length_append, List.map_append]
    exact ho
  · exact (Below.refl _ _).grown hg hB (fun k hk => (hown.lt k hk).1)

theorem Out.below {B : Nat} {w w' : World} {v : Value} {bs : List Int} (h : Out B w v bs) (hb : Below w.heap.size w w') : Out B w' v bs := by
  obtain ⟨g, cap, rfl, hown⟩ := h
  exact ⟨g, cap, rfl, own_below hown hb⟩

/-- The cells of an argument []int, and of an argument []string. -/
def IntsAt (w : World) (ao : Option Addr) (n : Nat) (l : List Int) : Prop := ∀ k, k < n → ∃ b off, ao = some ⟨b, off, none⟩ ∧ w.cell? ⟨b, off + k, none⟩ = some (.int .i64 (l.getD k 0))
def TextsAt (w : World) (ao : Option Addr) (n : Nat) (ts : List ByteArray) : Prop := ∀ k, k < n → ∃ b off, ao = some ⟨b, off, none⟩ ∧ w.cell? ⟨b, off + k, none⟩ = some (.string (ts.getD k ByteArray.empty))

theorem cell_kept {w w' : World} {a : Addr} {v : Value} (hb : Below w.heap.size w w') (h : w.cell? a = some v) : w'.cell? a = some v := by
  rw [hb.cell (World.block_lt_of_cell? w _ h)]; exact h
end Go.Proofs.YtapehpcipnbpgaaDoor
