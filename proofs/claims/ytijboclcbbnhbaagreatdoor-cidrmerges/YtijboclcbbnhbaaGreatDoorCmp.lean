/-
  The walks of addr.Compare and of the document's Compare.
-/
import Derived.Test.YtijboclcbbnhbaaGreatDoorGrof
import Derived.Lib.BytesEntry
namespace Go.Proofs.YtijboclcbbnhbaaGreatDoor
open Go.RowKit

/-- Which of two rows of numbers comes first. -/
def cmpN : List Nat → List Nat → Int
  | [], [] => 0
  | [], _ :: _ => -1
  | _ :: _, [] => 1
  | a :: x, b :: y => if a < b then -1 else if b < a then 1 else cmpN x y

/-- Which of two addresses comes first. -/
def cmpA (s t : Bool) (x y : List Nat) : Int := if s = t then cmpN x y else if t = true then -1 else 1

theorem cmp_bytes : ∀ (x y : List Nat), (∀ n ∈ x, n < 256) → (∀ n ∈ y, n < 256) → Lib.compareBytes (Lib.bytesOf (ints x)) (Lib.bytesOf (ints y)) = cmpN x y
  | [], [], _, _ => rfl
  | [], _ :: _, _, _ => rfl
  | _ :: _, [], _, _ => rfl
  | a :: x, b :: y, hx, hy => by
    have ha := hx a (by simp)
    have hb := hy b (by simp)
    have ih := cmp_bytes x y (fun n hn => hx n (by simp [hn])) (fun n hn => hy n (by simp [hn]))
    have e : ∀ (n : Nat) (l : List Nat), Lib.bytesOf (ints (n :: l)) = UInt8.ofNat n :: Lib.bytesOf (ints l) := fun n l => by
      simp [Lib.bytesOf, ints]
    rw [e, e, Lib.compareBytes, cmpN, ih]
    have h1 : (UInt8.ofNat a < UInt8.ofNat b) ↔ a < b := by
      rw [UInt8.lt_iff_toNat_lt]
      simp [Nat.mod_eq_of_lt ha, Nat.mod_eq_of_lt hb]
    have h2 : (UInt8.ofNat b < UInt8.ofNat a) ↔ b < a := by
      rw [UInt8.lt_iff_toNat_lt]
      simp [Nat.mod_eq_of_lt ha, Nat.mod_eq_of_lt hb]
    by_cases q1 : a < b
    · rw [if_pos q1, if_pos (h1.2 q1)]
    · rw [if_neg q1, if_neg (fun h => q1 (h1.1 h))]
      by_cases q2 : b < a
      · rw [if_pos q2, if_pos (h2.2 q2)]
      · rw [if_neg q2, if_neg (fun h => q2 (h2.1 h))]

theorem run_compare (w : World) (g1 g2 : Nat) (x y : List Nat) (hx : x.length = 16) (hy : y.length = 16) (lx : ∀ n ∈ x, n < 256) (ly : ∀ n ∈ y, n < 256)
    (c1 : ∀ j, j < 16 → w.cell? ⟨g1, 1 + j, none⟩ = some (.int .u8 ((x.getD j 0 : Nat) : Int))) (c2 : ∀ j, j < 16 → w.cell? ⟨g2, 1 + j, none⟩ = some (.int .u8 ((y.getD j 0 : Nat) : Int))) :
    (Extern.BytealgCompare.compare #[.slice (some ⟨g1, 1, none⟩) 16 16, .slice (some ⟨g2, 1, none⟩) 16 16]).run Tryz.prog w = .ok (.int .i64 (cmpN x y)) w := by
  have hl : ∀ (g : Nat) (z : List Nat), z.length = 16 → (∀ j, j < 16 → w.cell? ⟨g, 1 + j, none⟩ = some (.int .u8 ((z.getD j 0 : Nat) : Int))) →
      (Extern.Bytes.bytesOf (.slice (some ⟨g, 1, none⟩) 16 16)).run Tryz.prog w = .ok ⟨(Lib.bytesOf (ints z)).toArray⟩ w := by
    intro g z hz hc
    have h := Lib.run_loadBytesX (P := Tryz.prog) w (ints z) ⟨g, 1, none⟩ .empty (fun j v hj => by
      have hjl : j < (ints z).length := (List.getElem?_eq_some_iff.1 hj).1
      rw [ints_length] at hjl
      have e : (⟨g, 1, none⟩ : Addr).add j = ⟨g, 1 + j, none⟩ := by unfold Addr.add; split <;> simp_all
      rw [e, hc j (by omega)]
      have : nth (ints z) j = v := by unfold nth; rw [List.getD_eq_getElem?_getD, hj]; rfl
      rw [← this, nth_ints])
    rw [ints_length, hz] at h
    have he : (⟨ByteArray.empty.data ++ (Lib.bytesOf (ints z)).toArray⟩ : ByteArray) = ⟨(Lib.bytesOf (ints z)).toArray⟩ := by
      apply ByteArray.ext
      show (#[] : Array UInt8) ++ (Lib.bytesOf (ints z)).toArray = (Lib.bytesOf (ints z)).toArray
      simp
    rw [he] at h
    exact h
  have h1 := hl g1 x hx c1
  have h2 := hl g2 y hy c2
  change Sem.run Tryz.prog (do pure (goInt (Extern.BytealgCompare.cmp (← Extern.Bytes.bytesOf (.slice (some ⟨g1, 1, none⟩) 16 16)) (← Extern.Bytes.bytesOf (.slice (some ⟨g2, 1, none⟩) 16 16))))) w = _
  rw [Sem.run_bind, h1, Result.andThen_ok, Sem.run_bind, h2, Result.andThen_ok, Sem.run_pure, Lib.cmp_eq]
  rw [show goInt = Value.int .i64 from rfl]
  congr 2
  exact cmp_bytes x y lx ly

set_option maxHeartbeats 1000000 in
theorem bcmp (w : World) (g1 g2 : Nat) (x y : List Nat) (hx : x.length = 16) (hy : y.length = 16) (lx : ∀ n ∈ x, n < 256) (ly : ∀ n ∈ y, n < 256)
    (c1 : ∀ j, j < 16 → w.cell? ⟨g1, 1 + j, none⟩ = some (.int .u8 ((x.getD j 0 : Nat) : Int))) (c2 : ∀ j, j < 16 → w.cell? ⟨g2, 1 + j, none⟩ = some (.int .u8 ((y.getD j 0 : Nat) : Int))) :
    Calls Tryz.prog 57 #[.slice (some ⟨g1, 1, none⟩) 16 16, .slice (some ⟨g2, 1, none⟩) 16 16] w fun e w' => e = .returned (.int .i64 (cmpN x y)) ∧ w' = w := by
  have hr := run_compare w g1 g2 x y hx hy lx ly c1 c2
  have hc := @run_callFunc_extern Tryz.prog 84 _ Extern.BytealgCompare.compare Tryz.func84 (by kernel_rfl) (by kernel_rfl) (by kernel_rfl) (by kernel_rfl)
  have hc2 := hc #[.slice (some ⟨g1, 1, none⟩) 16 16, .slice (some ⟨g2, 1, none⟩) 16 16] w
  rw [hr] at hc2
  simp only [Result.andThen_ok] at hc2
  clear hr hc c1 c2 hx hy lx ly
  go_enter Tryz.func57, Tryz.ntmps57
  go_wp2
  go_ret
  exact ⟨rfl, rfl⟩

set_option maxRecDepth 100000 in
set_option maxHeartbeats 4000000 in
theorem compare_any (s t : Bool) (x y : List Nat) (hx : x.length = 16) (hy : y.length = 16) (lx : ∀ n ∈ x, n < 256) (ly : ∀ n ∈ y, n < 256) (w : World) :
    Calls Tryz.prog 36 #[.agg (adr s (ints x)), .agg (adr t (ints y))] w fun e w' => e = .returned (.int .i64 (cmpA s t x y)) ∧ Below w.heap.size w w' := by
  obtain ⟨W0, hW0⟩ : ∃ W, W = w.alloc (.cells (adr s (ints x)) 25) := ⟨_, rfl⟩
  have hB0 : Blk W0 w.heap.size 25 (adr s (ints x)) := hW0 ▸ Blk.new w _ _
  have hb0 : Below w.heap.size w W0 := hW0 ▸ (Below.refl _ _).alloc (Nat.le_refl _) _
  have hs0 : W0.heap.size = w.heap.size + 1 := by rw [hW0]; simp
  obtain ⟨W1, hW1⟩ : ∃ W, W = W0.alloc (.cells (adr t (ints y)) 25) := ⟨_, rfl⟩
  have hB1 : Blk W1 (w.heap.size + 1) 25 (adr t (ints y)) := hs0 ▸ hW1 ▸ Blk.new W0 _ _
  have hb1 : Below W0.heap.size W0 W1 := hW1 ▸ (Below.refl _ _).alloc (Nat.le_refl _) _
  have hB0' : Blk W1 w.heap.size 25 (adr s (ints x)) := hB0.kept hb1
  have HW : Hid ((w.alloc (.cells (adr s (ints x)) 25)).alloc (.cells (adr t (ints y)) 25) = W1) := Lib.hid (by rw [hW1, hW0])
  have h0 := adr_zero s (ints x)
  have h1 := adr_zero t (ints y)
  have Hb : Hid (Below w.heap.size w W1) := Lib.hid (bel2 hb0 hb1)
  have HC : Hid (∀ n, Calls Tryz.prog 57 #[.slice (some ⟨w.heap.size, 1, none⟩) 16 16, .slice (some ⟨w.heap.size + 1, 1, none⟩) 16 16] (W1.drewN n) fun e w' => e = .returned (.int .i64 (cmpN x y)) ∧ w' = W1.drewN n) := Lib.hid fun n =>
    bcmp (W1.drewN n) w.heap.size (w.heap.size + 1) x y hx hy lx ly
      (fun j hj => by have := hB0'.cell (1 + j); rw [adr_at _ _ _ (by rw [ints_length, hx]; exact hj), nth_ints] at this; exact this)
      (fun j hj => by have := hB1.cell (1 + j); rw [adr_at _ _ _ (by rw [ints_length, hy]; exact hj), nth_ints] at this; exact this)
  clear hB0 hB0' hB1 hb0 hb1 hs0 hW0 hW1 hx hy lx ly
  cases s <;> cases t
  · go_enter Tryz.func36, Tryz.ntmps36
    go_wp2
    rw [HW.out]
    go_quiet ((go_at_call 57; exact Calls.quiet_of_same (HC.out _)))
    go_wp2
    go_ret
    exact ⟨rfl, bel2 Hb.out (below_drewN _ _)⟩
  · go_enter Tryz.func36, Tryz.ntmps36
    go_wp2
    go_ret
    rw [HW.out]
    exact ⟨rfl, Hb.out⟩
  · go_enter Tryz.func36, Tryz.ntmps36
    go_wp2
    go_ret
    rw [HW.out]
    exact ⟨rfl, Hb.out⟩
  · go_enter Tryz.func36, Tryz.ntmps36
    go_wp2
    rw [HW.out]
    go_quiet ((go_at_call 57; exact Calls.quiet_of_same (HC.out _)))
    go_wp2
    go_ret
    exact ⟨rfl, bel2 Hb.out (below_drewN _ _)⟩
end Go.Proofs.YtijboclcbbnhbaaGreatDoor
