/-
  The walk of the document's Compare; that this is an order.
-/
import Derived.Test.YtijboclcbbnhbaaGreatDoorCmp
namespace Go.Proofs.YtijboclcbbnhbaaGreatDoor
open Go.RowKit

theorem cmpN_drop (x y : List Nat) (k : Nat) (hx : k < x.length) (hy : k < y.length) : cmpN (x.drop k) (y.drop k) = if x.getD k 0 < y.getD k 0 then -1 else if y.getD k 0 < x.getD k 0 then 1 else cmpN (x.drop (k + 1)) (y.drop (k + 1)) := by
  rw [List.drop_eq_getElem_cons hx, List.drop_eq_getElem_cons hy, cmpN]
  simp [List.getD, List.getElem?_eq_getElem hx, List.getElem?_eq_getElem hy]

set_option maxRecDepth 100000 in
set_option maxHeartbeats 4000000 in
theorem refCompare_any (s t : Bool) (x y : List Nat) (hx : x.length = 16) (hy : y.length = 16) (w : World) :
    Calls Tryz.prog 40 #[.agg (adr s (ints x)), .agg (adr t (ints y))] w fun e w' => e = .returned (.int .i64 (cmpA s t x y)) ∧ Below w.heap.size w w' := by
  obtain ⟨W0, hW0⟩ : ∃ W, W = w.alloc (.cells (adr s (ints x)) 25) := ⟨_, rfl⟩
  have hB0 : Blk W0 w.heap.size 25 (adr s (ints x)) := hW0 ▸ Blk.new w _ _
  have hb0 : Below w.heap.size w W0 := hW0 ▸ (Below.refl _ _).alloc (Nat.le_refl _) _
  have hs0 : W0.heap.size = w.heap.size + 1 := by rw [hW0]; simp
  obtain ⟨W1, hW1⟩ : ∃ W, W = W0.alloc (.cells (adr t (ints y)) 25) := ⟨_, rfl⟩
  have hB1 : Blk W1 (w.heap.size + 1) 25 (adr t (ints y)) := hs0 ▸ hW1 ▸ Blk.new W0 _ _
  have hb1 : Below W0.heap.size W0 W1 := hW1 ▸ (Below.refl _ _).alloc (Nat.le_refl _) _
  have hB0' : Blk W1 w.heap.size 25 (adr s (ints x)) := hB0.kept hb1
  have HW : Hid ((w.alloc (.cells (adr s (ints x)) 25)).alloc (.cells (adr t (ints y)) 25) = W1) := Lib.hid (by rw [hW1, hW0])
  have h0 := adr_zero s (ints x)
  have h1 := adr_zero t (ints y)
  have HS : Hid (Blk W1 w.heap.size 25 (adr s (ints x)) ∧ Blk W1 (w.heap.size + 1) 25 (adr t (ints y)) ∧ Below w.heap.size w W1) := Lib.hid ⟨hB0', hB1, bel2 hb0 hb1⟩
  have HX := Lib.hid hx
  have HY := Lib.hid hy
  clear hB0 hB0' hB1 hb0 hb1 hs0 hW0 hW1 hx hy
  by_cases hst : s = t
  · subst hst
    have hne : (s != s) = false := by simp
    go_enter Tryz.func40, Tryz.ntmps40
    cases s
    all_goals
      go_wp2
      rw [HW.out]
      clear HW h0 h1 hne
      go_loopw [13] (fun i wr => ∃ k : Nat, k ≤ 16 ∧ i = .int .i64 k ∧ Hid (cmpN x y = cmpN (x.drop k) (y.drop k) ∧ Blk wr w.heap.size 25 (adr _ (ints x)) ∧ Blk wr (w.heap.size + 1) 25 (adr _ (ints y)) ∧ Below w.heap.size w wr)) (fun i _ => 16 - (intOf i).toNat)
      case atStart => exact ⟨0, Nat.zero_le _, rfl, rfl, HS.out⟩
      case round =>
        obtain ⟨k, hk, rfl, hh⟩ := hrel
        clear HS
        obtain ⟨hd, hB0, hB1, hb⟩ := hh.out
        by_cases hlt : k < 16
        · obtain ⟨a, ha⟩ : ∃ a, a = x.getD k 0 := ⟨_, rfl⟩
          obtain ⟨b, hb'⟩ : ∃ b, b = y.getD k 0 := ⟨_, rfl⟩
          rw [cmpN_drop x y k (by rw [HX.out]; exact hlt) (by rw [HY.out]; exact hlt), ← ha, ← hb'] at hd
          have hc0 : wr.cell? ⟨w.heap.size, 1 + k, none⟩ = some (.int .u8 (a : Int)) := by rw [hB0.cell, adr_at _ _ _ (by rw [ints_length, HX.out]; exact hlt), nth_ints, ha]
          have hc1 : wr.cell? ⟨w.heap.size + 1, 1 + k, none⟩ = some (.int .u8 (b : Int)) := by rw [hB1.cell, adr_at _ _ _ (by rw [ints_length, HY.out]; exact hlt), nth_ints, hb']
          have HD := Lib.hid hd
          have HB0 := Lib.hid hB0
          have HB1 := Lib.hid hB1
          have Hb := Lib.hid hb
          have k0 : (0 : Int) ≤ (k : Int) := by omega
          have k16 : (k : Int) < 16 := by omega
          clear hd hB0 hB1 hb ha hb' hh
          by_cases h1 : a < b
          · have q1 : (a : Int) < (b : Int) := by omega
            go_wp2
            go_quiet (fail)
            go_wp2
            go_ret
            exact ⟨by rw [cmpA, if_pos rfl, HD.out, if_pos h1]; rfl, bel2 Hb.out (below_drewN _ _)⟩
          · have q1 : decide ((a : Int) < (b : Int)) = false := by simp; omega
            by_cases h2 : b < a
            · have q2 : (b : Int) < (a : Int) := by omega
              go_wp2
              go_quiet (fail)
              go_wp2
              go_quiet (fail)
              go_wp2
              go_ret
              exact ⟨by rw [cmpA, if_pos rfl, HD.out, if_neg h1, if_pos h2]; rfl, bel2 Hb.out (by first | exact bel2 (below_drewN _ _) (below_drewN _ _) | exact below_drewN _ _)⟩
            · have q2 : decide ((b : Int) < (a : Int)) = false := by simp; omega
              go_wp2
              go_quiet (fail)
              go_wp2
              go_quiet (fail)
              go_wp2
              go_roundw
              case rel => exact ⟨k + 1, by omega, by go_num, by rw [HD.out, if_neg h1, if_neg h2], HB0.out, HB1.out, bel2 Hb.out (by first | exact bel2 (below_drewN _ _) (below_drewN _ _) | exact below_drewN _ _)⟩
              case measure => simp [intOf]; omega
        · obtain rfl : k = 16 := by omega
          have HD : Hid (cmpN x y = 0) := Lib.hid (by rw [hd, List.drop_eq_nil_of_le (by rw [HX.out]; omega), List.drop_eq_nil_of_le (by rw [HY.out]; omega)]; rfl)
          have Hb := Lib.hid hb
          clear hd hB0 hB1 hb hh
          go_wp2
          go_ret
          exact ⟨by rw [cmpA, if_pos rfl, HD.out]; rfl, Hb.out⟩
  · have hv : cmpA s t x y = if t = true then -1 else 1 := by rw [cmpA, if_neg hst]
    have HV := Lib.hid hv
    clear hv
    cases s <;> cases t
    · exact absurd rfl hst
    · go_enter Tryz.func40, Tryz.ntmps40
      go_wp2
      go_ret
      rw [HW.out, HV.out]
      exact ⟨rfl, HS.out.2.2⟩
    · go_enter Tryz.func40, Tryz.ntmps40
      go_wp2
      go_ret
      rw [HW.out, HV.out]
      exact ⟨rfl, HS.out.2.2⟩
    · exact absurd rfl hst

theorem cmpN_swap : ∀ x y : List Nat, cmpN y x = - cmpN x y
  | [], [] => rfl
  | [], _ :: _ => rfl
  | _ :: _, [] => rfl
  | a :: x, b :: y => by
    have ih := cmpN_swap x y
    rw [cmpN, cmpN, ih]
    by_cases h1 : a < b
    · have h2 : ¬ b < a := by omega
      simp [h1, h2]
    · by_cases h2 : b < a
      · simp [h1, h2]
      · simp [h1, h2]
theorem cmpN_self : ∀ x : List Nat, cmpN x x = 0
  | [] => rfl
  | a :: x => by rw [cmpN, if_neg (by omega), if_neg (by omega), cmpN_self x]
theorem cmpN_trans : ∀ x y z : List Nat, cmpN x y ≤ 0 → cmpN y z ≤ 0 → cmpN x z ≤ 0
  | [], [], _, _, h => h
  | [], _ :: _, [], _, h => by simp [cmpN] at h
  | [], _ :: _, _ :: _, _, _ => by simp [cmpN]
  | _ :: _, [], _, h, _ => by simp [cmpN] at h
  | _ :: _, _ :: _, [], _, h => by simp [cmpN] at h
  | a :: x, b :: y, c :: z, h1, h2 => by
    rw [cmpN] at h1 h2 ⊢
    have ih := cmpN_trans x y z
    split at h1
    · split at h2
      · rw [if_pos (by omega)]; omega
      · split at h2
        · omega
        · rw [if_pos (by omega)]; omega
    · split at h1
      · omega
      · split at h2
        · rw [if_pos (by omega)]; omega
        · split at h2
          · omega
          · rw [if_neg (by omega), if_neg (by omega)]; exact ih h1 h2
theorem cmpN_range : ∀ x y : List Nat, -1 ≤ cmpN x y ∧ cmpN x y ≤ 1
  | [], [] => by simp [cmpN]
  | [], _ :: _ => by simp [cmpN]
  | _ :: _, [] => by simp [cmpN]
  | a :: x, b :: y => by
    have ih := cmpN_range x y
    rw [cmpN]
    split
    · omega
    · split <;> omega
theorem cmpA_swap (s t : Bool) (x y : List Nat) : cmpA t s y x = - cmpA s t x y := by
  unfold cmpA
  cases s <;> cases t <;> simp [cmpN_swap x y]
theorem cmpA_self (s : Bool) (x : List Nat) : cmpA s s x x = 0 := by simp [cmpA, cmpN_self]
theorem cmpA_range (s t : Bool) (x y : List Nat) : -1 ≤ cmpA s t x y ∧ cmpA s t x y ≤ 1 := by
  unfold cmpA
  have := cmpN_range x y
  split
  · exact this
  · split <;> omega
theorem cmpA_trans (s t u : Bool) (x y z : List Nat) (h1 : cmpA s t x y ≤ 0) (h2 : cmpA t u y z ≤ 0) : cmpA s u x z ≤ 0 := by
  unfold cmpA at *
  cases s <;> cases t <;> cases u <;> simp at * <;> exact cmpN_trans x y z h1 h2
end Go.Proofs.YtijboclcbbnhbaaGreatDoor
