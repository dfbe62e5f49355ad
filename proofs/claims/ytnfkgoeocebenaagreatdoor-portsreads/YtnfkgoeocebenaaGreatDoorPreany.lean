/-
  The law PortsReads, of every input.
-/
import Derived.Test.YtnfkgoeocebenaaGreatDoorPreads
import Derived.Test.YtnfkgoeocebenaaGreatDoorFewb
namespace Go.Proofs.YtnfkgoeocebenaaGreatDoor
open Go.RowKit

theorem flat_shape {b : List Int} (h : flat b = true) : ∃ x0 x1 x2 x3, b = [x0, x1, x2, x3, 0, 0, 0, 0, 0, 0, 0, 0, 0, 0, 0, 0] := ⟨_, _, _, _, beq_iff_eq.1 h⟩

/-- What was put is read as it was. -/
theorem readA_put (s : Bool) (b : List Int) (hl : b.length = 16) (hf : (s || flat b) = true) (r : List Int) : readA (putA s b ++ r) 0 = ((s, b), (putA s b).length, 0) := by
  cases s with
  | true =>
    have e : putA true b = 6 :: b := by simp [putA, ← hl]
    rw [e]
    unfold readA
    rw [if_pos (by simp), if_neg (by simp), if_pos (by simp), if_pos (by simp [hl])]
    have e2 : (((6 :: b) ++ r).drop (0 + 1)).take 16 = b := by
      simp [List.take_left' hl]
    rw [e2]
    simp [pad16, hl]
  | false =>
    obtain ⟨x0, x1, x2, x3, rfl⟩ := flat_shape (by simpa using hf)
    show readA ([4, x0, x1, x2, x3] ++ r) 0 = _
    unfold readA
    rw [if_pos (by simp), if_pos (by simp), if_pos (by simp)]
    rfl

theorem acc_two (l : List Int) (x y : Int) : accN (l ++ [x, y]) l.length 2 = x.toNat * 256 + y.toNat := by
  have e0 : (l ++ [x, y]).getD (l.length + 0) 0 = x := by simp [List.getD]
  have e1 : (l ++ [x, y]).getD (l.length + 1) 0 = y := by simp [List.getD]
  show (0 * 256 + ((l ++ [x, y]).getD (l.length + 0) 0).toNat) * 256 + ((l ++ [x, y]).getD (l.length + 1) 0).toNat = _
  rw [e0, e1]
  omega

theorem readP_put (s : Bool) (b : List Int) (hl : b.length = 16) (n : Int) (hf : (s || flat b) = true) (h1 : 1 ≤ n) (h2 : n ≤ 65535) : readP (putP s b n) 0 = (((s, b), n.toNat), (putP s b n).length, 0) ∧ ((n.toNat : Nat) : Int) = n := by
  refine ⟨?_, by omega⟩
  have ea := readA_put s b hl hf [n / 256 % 256, n % 256]
  have en : accN (putA s b ++ [n / 256 % 256, n % 256]) (putA s b).length 2 = n.toNat := by rw [acc_two]; omega
  unfold readP putP
  rw [ea]
  simp only
  rw [if_pos trivial, if_pos (by simp), en, if_neg (by omega)]
  simp

theorem getD_all (l : List Int) (h : ∀ x ∈ l, 0 ≤ x ∧ x ≤ 255) (j : Nat) : 0 ≤ l.getD j 0 ∧ l.getD j 0 ≤ 255 := by
  by_cases hj : j < l.length
  · rw [List.getD, List.getElem?_eq_getElem hj]
    exact h _ (List.getElem_mem hj)
  · rw [List.getD, List.getElem?_eq_none (by omega)]
    simp
theorem putP_byte (s : Bool) (C : List Nat) (hC : ∀ x ∈ C, x < 256) (n : Int) : ∀ x ∈ putP s (ints C) n, 0 ≤ x ∧ x ≤ 255 := by
  have hi : ∀ x ∈ ints C, 0 ≤ x ∧ x ≤ 255 := by
    intro x hx
    obtain ⟨y, hy, rfl⟩ := List.mem_map.1 hx
    have := hC y hy
    omega
  intro x hx
  unfold putP at hx
  rcases List.mem_append.1 hx with h | h
  · cases s with
    | true =>
      rcases List.mem_cons.1 (show x ∈ 6 :: (ints C).take 16 from h) with rfl | h
      · omega
      · exact hi x (List.mem_of_mem_take h)
    | false =>
      rcases List.mem_cons.1 (show x ∈ 4 :: (ints C).take 4 from h) with rfl | h
      · omega
      · exact hi x (List.mem_of_mem_take h)
  · simp only [List.mem_cons, List.not_mem_nil, or_false] at h
    rcases h with rfl | rfl
    · omega
    · omega

theorem rright5_any (n : Int) (w : World) : Calls Tryz.prog 76 #[.int .i64 n] w fun e w' => e = .returned (.bool (rp n)) ∧ w' = w := by
  unfold rp
  by_cases h1 : 1 ≤ n
  · have q1 : decide (n > 0) = true := decide_eq_true (by omega)
    have q1' : decide (0 < n) = true := decide_eq_true (by omega)
    have q2 : decide (1 ≤ n) = true := decide_eq_true h1
    have q3 : decide (n ≤ 65535) = decide (n < 65536) := by rw [decide_eq_decide]; omega
    rw [q2, Bool.true_and, q3]
    go_enter Tryz.func76, Tryz.ntmps76
    go_wp2
    go_ret
    exact ⟨rfl, rfl⟩
  · have q1 : decide (n > 0) = false := decide_eq_false (by omega)
    have q1' : decide (0 < n) = false := decide_eq_false (by omega)
    have q2 : decide (1 ≤ n) = false := decide_eq_false h1
    rw [q2, Bool.false_and]
    go_enter Tryz.func76, Tryz.ntmps76
    go_wp2
    go_ret
    exact ⟨rfl, rfl⟩

set_option maxRecDepth 100000 in
set_option maxHeartbeats 1000000 in
theorem rppoint5_any (s : Bool) (b : List Int) (hl : b.length = 16) (n : Int) (w : World) :
    Calls Tryz.prog 40 #[.agg (pnt s b n)] w fun e w' => e = .returned (.bool ((s || flat b) && rp n)) ∧ Below w.heap.size w w' := by
  have cR := refRight_any s b hl
  generalize (s || flat b) = R at cR ⊢
  obtain ⟨W0, hW0⟩ : ∃ W, W = w.alloc (.cells (pnt s b n) 60) := ⟨_, rfl⟩
  have hB0 : Blk W0 w.heap.size 60 (pnt s b n) := hW0 ▸ Blk.new w _ _
  have hb0 : Below w.heap.size w W0 := hW0 ▸ (Below.refl _ _).alloc (Nat.le_refl _) _
  have HW0 := Lib.hid hW0.symm
  have HB0 := Lib.hid hB0
  have Hb0 := Lib.hid hb0
  have LB := Lib.hid hl
  have L18 : Hid (18 = (pnt s b n).size) := Lib.hid (by rw [pnt_size, hl])
  have CR := Lib.hid cR
  clear hW0 hB0 hb0 hl cR
  have hcp : ∀ w', Below W0.heap.size W0 w' → w'.cell? ⟨w.heap.size, 17, none⟩ = some (.int .i64 n) := fun w' hb => pnt_portCell (HB0.out.kept hb) LB.out
  have HCP := Lib.hid hcp
  clear hcp
  go_enter Tryz.func40, Tryz.ntmps40
  go_upto_region 1 with fail
  rw [HW0.out]
  go_wp2_with (refine wpl_load_padr _ rfl w.heap.size rfl s b n HB0.out LB.out rfl ?_)
  refine (CR.out W0).mono ?_
  rintro e w1 ⟨rfl, hb1⟩
  have hc := HCP.out w1 hb1
  cases R with
  | false =>
    go_wp2
    go_ret
    exact ⟨rfl, bel2 Hb0.out hb1⟩
  | true =>
    go_wp2_with fail
    refine (rright5_any n w1).mono ?_
    rintro e w2 ⟨rfl, rfl⟩
    go_wp2
    go_ret
    exact ⟨rfl, bel2 Hb0.out hb1⟩

theorem preads_any (s : Bool) (C : List Nat) (hlc : C.length = 16) (hC : ∀ x ∈ C, x < 256) (n : Int) (ad : Option Addr) (cap : Nat) (bs : List Int) (hcap : bs.length ≤ cap) (hn0 : ad = none → cap = 0) (hby : ∀ x ∈ bs, 0 ≤ x ∧ x ≤ 255) (a : Nat → Addr) (w : World)
    (hE : Env (.iface 211 (.pointer (some (a 3)))) w) (hErr : Errs 18 a w) (hrow : ∀ j, j < bs.length → ∃ g o, ad = some ⟨g, o, none⟩ ∧ w.cell? ⟨g, o + j, none⟩ = some (.int .u8 (bs.getD j 0))) :
    Calls Tryz.prog 7 #[.agg (pnt s (ints C) n), .slice ad bs.length cap] w fun e w' => e = .returned (.bool true) ∧ Below w.heap.size w w' := by
  by_cases hm : 100 < bs.length
  · exact preads_long s (ints C) n ad bs.length cap hm _ _ w hE
  · have lc : (ints C).length = 16 := by rw [ints_length, hlc]
    refine preads_walk s (ints C) lc n ((s || flat (ints C)) && rp n) ad cap bs (by omega) hcap hn0 (getD_all bs hby) (getD_all _ (putP_byte s C hC n)) a w hE hErr hrow (rppoint5_any s (ints C) lc n) (fun h => ?_)
    simp only [Bool.and_eq_true] at h
    obtain ⟨hf, hp⟩ := h
    unfold rp at hp
    simp only [Bool.and_eq_true, decide_eq_true_eq] at hp
    exact readP_put s (ints C) lc n hf hp.1 hp.2
end Go.Proofs.YtnfkgoeocebenaaGreatDoor
