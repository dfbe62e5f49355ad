/-
  The law CidrReads, of every input.
-/
import Derived.Test.YtnfkgoeocebenaaGreatDoorCreads
import Derived.Test.YtnfkgoeocebenaaGreatDoorFewb
namespace Go.Proofs.YtnfkgoeocebenaaGreatDoor
open Go.RowKit

theorem flat_shape {b : List Int} (h : flat b = true) : ∃ x0 x1 x2 x3, b = [x0, x1, x2, x3, 0, 0, 0, 0, 0, 0, 0, 0, 0, 0, 0, 0] := ⟨_, _, _, _, beq_iff_eq.1 h⟩

/-- What was put is read as it was. -/
theorem readA_put (s : Bool) (b : List Int) (hl : b.length = 16) (hf : (s || flat b) = true) (r : List Int) : readA (putA s b ++ r) 0 = ((s, b), (putA s b).length, 0) := by
  cases s with
  | true =>
    have e : putA true b = 6 :: b := by simp [putA, ← hl]
    rw [e]
    unfold readA
    rw [if_pos (by simp), if_neg (by simp), if_pos (by simp), if_pos (by simp [hl])]
    have e2 : (((6 :: b) ++ r).drop (0 + 1)).take 16 = b := by
      simp [List.take_left' hl]
    rw [e2]
    simp [pad16, hl]
  | false =>
    obtain ⟨x0, x1, x2, x3, rfl⟩ := flat_shape (by simpa using hf)
    show readA ([4, x0, x1, x2, x3] ++ r) 0 = _
    unfold readA
    rw [if_pos (by simp), if_pos (by simp), if_pos (by simp)]
    rfl

theorem acc_one (l : List Int) (x : Int) : accN (l ++ [x]) l.length 1 = x.toNat := by
  have e0 : (l ++ [x]).getD (l.length + 0) 0 = x := by simp [List.getD]
  show 0 * 256 + ((l ++ [x]).getD (l.length + 0) 0).toNat = _
  rw [e0]
  omega

theorem readC_put (s : Bool) (b : List Int) (hl : b.length = 16) (n : Int) (hr : rightC s b n = true) : readC (putC s b n) 0 = (((s, b), n.toNat), (putC s b n).length, 0) ∧ ((n.toNat : Nat) : Int) = n := by
  have hr' := hr
  unfold rightC at hr'
  simp only [Bool.and_eq_true, decide_eq_true_eq] at hr'
  obtain ⟨hf, h0, hw, _⟩ := hr'
  have hw8 := wid_le s
  refine ⟨?_, by omega⟩
  have ea := readA_put s b hl hf [n % 256]
  have en : accN (putA s b ++ [n % 256]) (putA s b).length 1 = n.toNat := by rw [acc_one]; omega
  have er : rightC s b ((n.toNat : Nat) : Int) = true := by rw [show ((n.toNat : Nat) : Int) = n by omega]; exact hr
  unfold readC putC
  rw [ea]
  simp only
  rw [if_pos trivial, if_pos (by simp), en, if_pos er]
  simp

theorem getD_all (l : List Int) (h : ∀ x ∈ l, 0 ≤ x ∧ x ≤ 255) (j : Nat) : 0 ≤ l.getD j 0 ∧ l.getD j 0 ≤ 255 := by
  by_cases hj : j < l.length
  · rw [List.getD, List.getElem?_eq_getElem hj]
    exact h _ (List.getElem_mem hj)
  · rw [List.getD, List.getElem?_eq_none (by omega)]
    simp
theorem putC_byte (s : Bool) (C : List Nat) (hC : ∀ x ∈ C, x < 256) (n : Int) : ∀ x ∈ putC s (ints C) n, 0 ≤ x ∧ x ≤ 255 := by
  have hi : ∀ x ∈ ints C, 0 ≤ x ∧ x ≤ 255 := by
    intro x hx
    obtain ⟨y, hy, rfl⟩ := List.mem_map.1 hx
    have := hC y hy
    omega
  intro x hx
  unfold putC at hx
  rcases List.mem_append.1 hx with h | h
  · cases s with
    | true =>
      rcases List.mem_cons.1 (show x ∈ 6 :: (ints C).take 16 from h) with rfl | h
      · omega
      · exact hi x (List.mem_of_mem_take h)
    | false =>
      rcases List.mem_cons.1 (show x ∈ 4 :: (ints C).take 4 from h) with rfl | h
      · omega
      · exact hi x (List.mem_of_mem_take h)
  · simp only [List.mem_cons, List.not_mem_nil, or_false] at h
    subst h
    omega

theorem creads_any (s : Bool) (C : List Nat) (hlc : C.length = 16) (hC : ∀ x ∈ C, x < 256) (n : Int) (ad : Option Addr) (cap : Nat) (bs : List Int) (hcap : bs.length ≤ cap) (hn0 : ad = none → cap = 0) (hby : ∀ x ∈ bs, 0 ≤ x ∧ x ≤ 255) (a : Nat → Addr) (w : World)
    (hE : Env (.iface 211 (.pointer (some (a 3)))) w) (hErr : Errs 18 a w) (hrow : ∀ j, j < bs.length → ∃ g o, ad = some ⟨g, o, none⟩ ∧ w.cell? ⟨g, o + j, none⟩ = some (.int .u8 (bs.getD j 0))) :
    Calls Tryz.prog 5 #[.agg (cid s (ints C) n), .slice ad bs.length cap] w fun e w' => e = .returned (.bool true) ∧ Below w.heap.size w w' := by
  by_cases hm : 100 < bs.length
  · exact creads_long s (ints C) n ad bs.length cap hm a w hE hErr
  · have lc : (ints C).length = 16 := by rw [ints_length, hlc]
    exact creads_walk s (ints C) lc n (rightC s (ints C) n) ad cap bs (by omega) hcap hn0 (getD_all bs hby) (getD_all _ (putC_byte s C hC n)) a w hE hErr hrow (rright_any s C hlc hC n) (fun h => readC_put s (ints C) lc n h)
end Go.Proofs.YtnfkgoeocebenaaGreatDoor
