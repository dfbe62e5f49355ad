/-
  addr.Compare, the document's Compare, cmp.Compare.
-/
import Derived.Test.YtgpbmbefdgbblaaDoorZfew
import Derived.Lib.BytesEntry
namespace Go.Proofs.YtgpbmbefdgbblaaDoor
open Go.RowKit

/-- Which of two rows of numbers comes first. -/
def cmpN : List Nat → List Nat → Int
  | [], [] => 0
  | [], _ :: _ => -1
  | _ :: _, [] => 1
  | a :: x, b :: y => if a < b then -1 else if b < a then 1 else cmpN x y
/-- Which of two addresses comes first. -/
def cmpA (s t : Bool) (x y : List Nat) : Int := if s = t then cmpN x y else if t = true then -1 else 1
theorem cmp_bytes : ∀ (x y : List Nat), (∀ n ∈ x, n < 256) → (∀ n ∈ y, n < 256) → Lib.compareBytes (Lib.bytesOf (ints x)) (Lib.bytesOf (ints y)) = cmpN x y
  | [], [], _, _ => rfl
  | [], _ :: _, _, _ => rfl
  | _ :: _, [], _, _ => rfl
  | a :: x, b :: y, hx, hy => by
    have ha := hx a (by simp)
    have hb := hy b (by simp)
    have ih := cmp_bytes x y (fun n hn => hx n (by simp [hn])) (fun n hn => hy n (by simp [hn]))
    have e : ∀ (n : Nat) (l : List Nat), Lib.bytesOf (ints (n :: l)) = UInt8.ofNat n :: Lib.bytesOf (ints l) := fun n l => by
      simp [Lib.bytesOf, ints]
    rw [e, e, Lib.compareBytes, cmpN, ih]
    have h1 : (UInt8.ofNat a < UInt8.ofNat b) ↔ a < b := by
      rw [UInt8.lt_iff_toNat_lt]
      simp [Nat.mod_eq_of_lt ha, Nat.mod_eq_of_lt hb]
    have h2 : (UInt8.ofNat b < UInt8.ofNat a) ↔ b < a := by
      rw [UInt8.lt_iff_toNat_lt]
      simp [Nat.mod_eq_of_lt ha, Nat.mod_eq_of_lt hb]
    by_cases q1 : a < b
    · rw [if_pos q1, if_pos (h1.2 q1)]
    · rw [if_neg q1, if_neg (fun h => q1 (h1.1 h))]
      by_cases q2 : b < a
      · rw [if_pos q2, if_pos (h2.2 q2)]
      · rw [if_neg q2, if_neg (fun h => q2 (h2.1 h))]
theorem run_compare (w : World) (g1 g2 : Nat) (x y : List Nat) (hx : x.length = 16) (hy : y.length = 16) (lx : ∀ n ∈ x, n < 256) (ly : ∀ n ∈ y, n < 256)
    (c1 : ∀ j, j < 16 → w.cell? ⟨g1, 1 + j, none⟩ = some (.int .u8 ((x.getD j 0 : Nat) : Int))) (c2 : ∀ j, j < 16 → w.cell? ⟨g2, 1 + j, none⟩ = some (.int .u8 ((y.getD j 0 : Nat) : Int))) :
    (Extern.BytealgCompare.compare #[.slice (some ⟨g1, 1, none⟩) 16 16, .slice (some ⟨g2, 1, none⟩) 16 16]).run Tryd.prog w = .ok (.int .i64 (cmpN x y)) w := by
  have hl : ∀ (g : Nat) (z : List Nat), z.length = 16 → (∀ j, j < 16 → w.cell? ⟨g, 1 + j, none⟩ = some (.int .u8 ((z.getD j 0 : Nat) : Int))) →
      (Extern.Bytes.bytesOf (.slice (some ⟨g, 1, none⟩) 16 16)).run Tryd.prog w = .ok ⟨(Lib.bytesOf (ints z)).toArray⟩ w := by
    intro g z hz hc
    have h := Lib.run_loadBytesX (P := Tryd.prog) w (ints z) ⟨g, 1, none⟩ .empty (fun j v hj => by
      have hjl : j < (ints z).length := (List.getElem?_eq_some_iff.1 hj).1
      rw [ints_length] at hjl
      have e : (⟨g, 1, none⟩ : Addr).add j = ⟨g, 1 + j, none⟩ := by unfold Addr.add; split <;> simp_all
      rw [e, hc j (by omega)]
      have : nth (ints z) j = v := by unfold nth; rw [List.getD_eq_getElem?_getD, hj]; rfl
      rw [← this, nth_ints])
    rw [ints_length, hz] at h
    have he : (⟨ByteArray.empty.data ++ (Lib.bytesOf (ints z)).toArray⟩ : ByteArray) = ⟨(Lib.bytesOf (ints z)).toArray⟩ := by
      apply ByteArray.ext
      show (#[] : Array UInt8) ++ (Lib.bytesOf (ints z)).toArray = (Lib.bytesOf (ints z)).toArray
      simp
    rw [he] at h
    exact h
  have h1 := hl g1 x hx c1
  have h2 := hl g2 y hy c2
  change Sem.run Tryd.prog (do pure (goInt (Extern.BytealgCompare.cmp (← Extern.Bytes.bytesOf (.slice (some ⟨g1, 1, none⟩) 16 16)) (← Extern.Bytes.bytesOf (.slice (some ⟨g2, 1, none⟩) 16 16))))) w = _
  rw [Sem.run_bind, h1, Result.andThen_ok, Sem.run_bind, h2, Result.andThen_ok, Sem.run_pure, Lib.cmp_eq]
  rw [show goInt = Value.int .i64 from rfl]
  congr 2
  exact cmp_bytes x y lx ly
set_option maxHeartbeats 1000000 in
theorem bcmp (w : World) (g1 g2 : Nat) (x y : List Nat) (hx : x.length = 16) (hy : y.length = 16) (lx : ∀ n ∈ x, n < 256) (ly : ∀ n ∈ y, n < 256)
    (c1 : ∀ j, j < 16 → w.cell? ⟨g1, 1 + j, none⟩ = some (.int .u8 ((x.getD j 0 : Nat) : Int))) (c2 : ∀ j, j < 16 → w.cell? ⟨g2, 1 + j, none⟩ = some (.int .u8 ((y.getD j 0 : Nat) : Int))) :
    Calls Tryd.prog 52 #[.slice (some ⟨g1, 1, none⟩) 16 16, .slice (some ⟨g2, 1, none⟩) 16 16] w fun e w' => e = .returned (.int .i64 (cmpN x y)) ∧ w' = w := by
  have hr := run_compare w g1 g2 x y hx hy lx ly c1 c2
  have hc := @run_callFunc_extern Tryd.prog 72 _ Extern.BytealgCompare.compare Tryd.func72 (by kernel_rfl) (by kernel_rfl) (by kernel_rfl) (by kernel_rfl)
  have hc2 := hc #[.slice (some ⟨g1, 1, none⟩) 16 16, .slice (some ⟨g2, 1, none⟩) 16 16] w
  rw [hr] at hc2
  simp only [Result.andThen_ok] at hc2
  clear hr hc c1 c2 hx hy lx ly
  go_enter Tryd.func52, Tryd.ntmps52
  go_wp2
  go_ret
  exact ⟨rfl, rfl⟩
set_option maxRecDepth 100000 in
set_option maxHeartbeats 4000000 in
theorem compare_any (s t : Bool) (x y : List Nat) (hx : x.length = 16) (hy : y.length = 16) (lx : ∀ n ∈ x, n < 256) (ly : ∀ n ∈ y, n < 256) (w : World) :
    Calls Tryd.prog 40 #[.agg (adr s (ints x)), .agg (adr t (ints y))] w fun e w' => e = .returned (.int .i64 (cmpA s t x y)) ∧ Below w.heap.size w w' := by
  obtain ⟨W0, hW0⟩ : ∃ W, W = w.alloc (.cells (adr s (ints x)) 34) := ⟨_, rfl⟩
  have hB0 : Blk W0 w.heap.size 34 (adr s (ints x)) := hW0 ▸ Blk.new w _ _
  have hb0 : Below w.heap.size w W0 := hW0 ▸ (Below.refl _ _).alloc (Nat.le_refl _) _
  have hs0 : W0.heap.size = w.heap.size + 1 := by rw [hW0]; simp
  obtain ⟨W1, hW1⟩ : ∃ W, W = W0.alloc (.cells (adr t (ints y)) 34) := ⟨_, rfl⟩
  have hB1 : Blk W1 (w.heap.size + 1) 34 (adr t (ints y)) := hs0 ▸ hW1 ▸ Blk.new W0 _ _
  have hb1 : Below W0.heap.size W0 W1 := hW1 ▸ (Below.refl _ _).alloc (Nat.le_refl _) _
  have hB0' : Blk W1 w.heap.size 34 (adr s (ints x)) := hB0.kept hb1
  have HW : Hid ((w.alloc (.cells (adr s (ints x)) 34)).alloc (.cells (adr t (ints y)) 34) = W1) := Lib.hid (by rw [hW1, hW0])
  have h0 := adr_zero s (ints x)
  have h1 := adr_zero t (ints y)
  have Hb : Hid (Below w.heap.size w W1) := Lib.hid (bel2 hb0 hb1)
  have HC : Hid (∀ n, Calls Tryd.prog 52 #[.slice (some ⟨w.heap.size, 1, none⟩) 16 16, .slice (some ⟨w.heap.size + 1, 1, none⟩) 16 16] (W1.drewN n) fun e w' => e = .returned (.int .i64 (cmpN x y)) ∧ w' = W1.drewN n) := Lib.hid fun n =>
    bcmp (W1.drewN n) w.heap.size (w.heap.size + 1) x y hx hy lx ly
      (fun j hj => by have := hB0'.cell (1 + j); rw [adr_at _ _ _ (by rw [ints_length, hx]; exact hj), nth_ints] at this; exact this)
      (fun j hj => by have := hB1.cell (1 + j); rw [adr_at _ _ _ (by rw [ints_length, hy]; exact hj), nth_ints] at this; exact this)
  clear hB0 hB0' hB1 hb0 hb1 hs0 hW0 hW1 hx hy lx ly
  cases s <;> cases t
  · go_enter Tryd.func40, Tryd.ntmps40
    go_wp2
    rw [HW.out]
    go_quiet ((go_at_call 52; exact Calls.quiet_of_same (HC.out _)))
    go_wp2
    go_ret
    exact ⟨rfl, bel2 Hb.out (below_drewN _ _)⟩
  · go_enter Tryd.func40, Tryd.ntmps40
    go_wp2
    go_ret
    rw [HW.out]
    exact ⟨rfl, Hb.out⟩
  · go_enter Tryd.func40, Tryd.ntmps40
    go_wp2
    go_ret
    rw [HW.out]
    exact ⟨rfl, Hb.out⟩
  · go_enter Tryd.func40, Tryd.ntmps40
    go_wp2
    rw [HW.out]
    go_quiet ((go_at_call 52; exact Calls.quiet_of_same (HC.out _)))
    go_wp2
    go_ret
    exact ⟨rfl, bel2 Hb.out (below_drewN _ _)⟩
theorem cmpN_drop (x y : List Nat) (k : Nat) (hx : k < x.length) (hy : k < y.length) : cmpN (x.drop k) (y.drop k) = if x.getD k 0 < y.getD k 0 then -1 else if y.getD k 0 < x.getD k 0 then 1 else cmpN (x.drop (k + 1)) (y.drop (k + 1)) := by
  rw [List.drop_eq_getElem_cons hx, List.drop_eq_getElem_cons hy, cmpN]
  simp [List.getD, List.getElem?_eq_getElem hx, List.getElem?_eq_getElem hy]
theorem cmpN_swap : ∀ x y : List Nat, cmpN y x = - cmpN x y
  | [], [] => rfl
  | [], _ :: _ => rfl
  | _ :: _, [] => rfl
  | a :: x, b :: y => by
    have ih := cmpN_swap x y
    rw [cmpN, cmpN, ih]
    by_cases h1 : a < b
    · have h2 : ¬ b < a := by omega
      simp [h1, h2]
    · by_cases h2 : b < a
      · simp [h1, h2]
      · simp [h1, h2]
theorem cmpN_self : ∀ x : List Nat, cmpN x x = 0
  | [] => rfl
  | a :: x => by rw [cmpN, if_neg (by omega), if_neg (by omega), cmpN_self x]
theorem cmpN_trans : ∀ x y z : List Nat, cmpN x y ≤ 0 → cmpN y z ≤ 0 → cmpN x z ≤ 0
  | [], [], _, _, h => h
  | [], _ :: _, [], _, h => by simp [cmpN] at h
  | [], _ :: _, _ :: _, _, _ => by simp [cmpN]
  | _ :: _, [], _, h, _ => by simp [cmpN] at h
  | _ :: _, _ :: _, [], _, h => by simp [cmpN] at h
  | a :: x, b :: y, c :: z, h1, h2 => by
    rw [cmpN] at h1 h2 ⊢
    have ih := cmpN_trans x y z
    split at h1
    · split at h2
      · rw [if_pos (by omega)]; omega
      · split at h2
        · omega
        · rw [if_pos (by omega)]; omega
    · split at h1
      · omega
      · split at h2
        · rw [if_pos (by omega)]; omega
        · split at h2
          · omega
          · rw [if_neg (by omega), if_neg (by omega)]; exact ih h1 h2
theorem cmpN_range : ∀ x y : List Nat, -1 ≤ cmpN x y ∧ cmpN x y ≤ 1
  | [], [] => by simp [cmpN]
  | [], _ :: _ => by simp [cmpN]
  | _ :: _, [] => by simp [cmpN]
  | a :: x, b :: y => by
    have ih := cmpN_range x y
    rw [cmpN]
    split
    · omega
    · split <;> omega
theorem cmpA_swap (s t : Bool) (x y : List Nat) : cmpA t s y x = - cmpA s t x y := by
  unfold cmpA
  cases s <;> cases t <;> simp [cmpN_swap x y]
theorem cmpA_self (s : Bool) (x : List Nat) : cmpA s s x x = 0 := by simp [cmpA, cmpN_self]
theorem cmpA_range (s t : Bool) (x y : List Nat) : -1 ≤ cmpA s t x y ∧ cmpA s t x y ≤ 1 := by
  unfold cmpA
  have := cmpN_range x y
  split
  · exact this
  · split <;> omega
theorem cmpA_trans (s t u : Bool) (x y z : List Nat) (h1 : cmpA s t x y ≤ 0) (h2 : cmpA t u y z ≤ 0) : cmpA s u x z ≤ 0 := by
  unfold cmpA at *
  cases s <;> cases t <;> cases u <;> simp at * <;> exact cmpN_trans x y z h1 h2
set_option maxHeartbeats 400000 in
theorem nan_any (n : Int) (w : World) : Calls Tryd.prog 53 #[.int .i64 n] w fun e w' => e = .returned (.bool false) ∧ w = w' := by
  have q : (n != n) = false := by simp
  go_enter Tryd.func53, Tryd.ntmps53
  go_wp2
  go_ret
  exact ⟨rfl, rfl⟩
/-- Which of two numbers comes first. -/
def cmpI (n m : Int) : Int := if n < m then -1 else if m < n then 1 else 0
/-- Which of two cidrs comes first. -/
def cmpP (s t : Bool) (x y : List Nat) (n m : Int) : Int := if cmpA s t x y ≠ 0 then cmpA s t x y else if n < m then -1 else if m < n then 1 else 0
end Go.Proofs.YtgpbmbefdgbblaaDoor
