/-
  linkboynum.Num: the number of each of package api's errors.
-/
import Derived.Test.YtkpjdjenlmodnaaDoorNis
namespace Go.Proofs.YtkpjdjenlmodnaaDoor
open Go.RowKit

/-- Where the errors lie, by their numbers. -/
def gi (i : Nat) : Nat := [0, 1, 2, 3, 4, 5, 6, 7, 8, 9, 10, 11, 12, 13, 14, 15, 16, 17].getD i 0

/-- The first n package-level variables hold n different errors of errors.New's make. -/
structure Errs (n : Nat) (a : Nat → Addr) (w : World) : Prop where
  cell : ∀ i, i < n → w.cell? ⟨gi i, 0, none⟩ = some (.iface 82 (.pointer (some (a i))))
  block : ∀ i, i < n → ∃ c t, w.heap[(a i).block]? = some (.cells c t (0, 0))
  apart : ∀ i j, i < n → j < n → i ≠ j → a i ≠ a j

theorem Errs.below {n : Nat} {a : Nat → Addr} {w w' : World} (h : Errs n a w) (hb : Below w.heap.size w w') : Errs n a w' := by
  refine ⟨fun i hi => ?_, fun i hi => ?_, h.apart⟩
  · rw [hb.cell (World.block_lt_of_cell? w _ (h.cell i hi))]
    exact h.cell i hi
  · obtain ⟨c, t, hc⟩ := h.block i hi
    exact ⟨c, t, by rw [hb.block _ (Array.getElem?_eq_some_iff.1 hc).1]; exact hc⟩

/-- The list of all errors, as linkboynum.Num makes it. -/
def errList (a : Nat → Addr) : Array Value := #[.iface 82 (.pointer (some (a 0))), .iface 82 (.pointer (some (a 1))), .iface 82 (.pointer (some (a 2))), .iface 82 (.pointer (some (a 3))), .iface 82 (.pointer (some (a 4))), .iface 82 (.pointer (some (a 5))), .iface 82 (.pointer (some (a 6))), .iface 82 (.pointer (some (a 7))), .iface 82 (.pointer (some (a 8))), .iface 82 (.pointer (some (a 9))), .iface 82 (.pointer (some (a 10))), .iface 82 (.pointer (some (a 11))), .iface 82 (.pointer (some (a 12))), .iface 82 (.pointer (some (a 13))), .iface 82 (.pointer (some (a 14))), .iface 82 (.pointer (some (a 15))), .iface 82 (.pointer (some (a 16))), .iface 82 (.pointer (some (a 17)))]
theorem errList_at (a : Nat → Addr) (k : Nat) (h : k < 18) : (errList a)[k]? = some (.iface 82 (.pointer (some (a k)))) := by
  have : k = 0 ∨ k = 1 ∨ k = 2 ∨ k = 3 ∨ k = 4 ∨ k = 5 ∨ k = 6 ∨ k = 7 ∨ k = 8 ∨ k = 9 ∨ k = 10 ∨ k = 11 ∨ k = 12 ∨ k = 13 ∨ k = 14 ∨ k = 15 ∨ k = 16 ∨ k = 17 := by omega
  rcases this with rfl | rfl | rfl | rfl | rfl | rfl | rfl | rfl | rfl | rfl | rfl | rfl | rfl | rfl | rfl | rfl | rfl | rfl <;> rfl

set_option maxHeartbeats 400000 in
theorem num_nil (w : World) : Calls Tryd.prog 12 #[.nilIface] w fun e w' => e = .returned (.int .i64 0) ∧ w = w' := by
  go_enter Tryd.func12, Tryd.ntmps12
  go_wp2
  go_ret
  exact ⟨rfl, rfl⟩

set_option maxRecDepth 100000 in
set_option maxHeartbeats 1000000 in
theorem num_err (a : Nat → Addr) (m : Nat) (hm : m < 18) (w : World) (hE : Errs 18 a w) :
    Calls Tryd.prog 12 #[.iface 82 (.pointer (some (a m)))] w fun e w' => e = .returned (.int .i64 ((m : Int) + 1)) ∧ Below w.heap.size w w' := by
  have c0 : w.cell? ⟨0, 0, none⟩ = _ := hE.cell 0 (by omega)
  have c1 : w.cell? ⟨1, 0, none⟩ = _ := hE.cell 1 (by omega)
  have c2 : w.cell? ⟨2, 0, none⟩ = _ := hE.cell 2 (by omega)
  have c3 : w.cell? ⟨3, 0, none⟩ = _ := hE.cell 3 (by omega)
  have c4 : w.cell? ⟨4, 0, none⟩ = _ := hE.cell 4 (by omega)
  have c5 : w.cell? ⟨5, 0, none⟩ = _ := hE.cell 5 (by omega)
  have c6 : w.cell? ⟨6, 0, none⟩ = _ := hE.cell 6 (by omega)
  have c7 : w.cell? ⟨7, 0, none⟩ = _ := hE.cell 7 (by omega)
  have c8 : w.cell? ⟨8, 0, none⟩ = _ := hE.cell 8 (by omega)
  have c9 : w.cell? ⟨9, 0, none⟩ = _ := hE.cell 9 (by omega)
  have c10 : w.cell? ⟨10, 0, none⟩ = _ := hE.cell 10 (by omega)
  have c11 : w.cell? ⟨11, 0, none⟩ = _ := hE.cell 11 (by omega)
  have c12 : w.cell? ⟨12, 0, none⟩ = _ := hE.cell 12 (by omega)
  have c13 : w.cell? ⟨13, 0, none⟩ = _ := hE.cell 13 (by omega)
  have c14 : w.cell? ⟨14, 0, none⟩ = _ := hE.cell 14 (by omega)
  have c15 : w.cell? ⟨15, 0, none⟩ = _ := hE.cell 15 (by omega)
  have c16 : w.cell? ⟨16, 0, none⟩ = _ := hE.cell 16 (by omega)
  have c17 : w.cell? ⟨17, 0, none⟩ = _ := hE.cell 17 (by omega)
  go_enter Tryd.func12, Tryd.ntmps12
  go_wp2
  have hW : ∃ W, W = w.alloc (.cells (errList a) 27) := ⟨_, rfl⟩
  obtain ⟨W, hW⟩ := hW
  have hb : Below w.heap.size w W := by rw [hW]; exact (Below.refl _ _).alloc (Nat.le_refl _) _
  have hEW : Errs 18 a W := hE.below hb
  have hcl : ∀ k, k < 18 → W.cell? ⟨w.heap.size, k, none⟩ = some (.iface 82 (.pointer (some (a k)))) := by
    intro k hk
    rw [hW, cell_of_row (w.alloc (.cells (errList a) 27)) w.heap.size k (errList a) 27 (0, 0) (heap_alloc_new w _)]
    exact errList_at a k hk
  have e0 : w.alloc (.cells #[.iface 82 (.pointer (some (a 0))), .iface 82 (.pointer (some (a 1))), .iface 82 (.pointer (some (a 2))), .iface 82 (.pointer (some (a 3))), .iface 82 (.pointer (some (a 4))), .iface 82 (.pointer (some (a 5))), .iface 82 (.pointer (some (a 6))), .iface 82 (.pointer (some (a 7))), .iface 82 (.pointer (some (a 8))), .iface 82 (.pointer (some (a 9))), .iface 82 (.pointer (some (a 10))), .iface 82 (.pointer (some (a 11))), .iface 82 (.pointer (some (a 12))), .iface 82 (.pointer (some (a 13))), .iface 82 (.pointer (some (a 14))), .iface 82 (.pointer (some (a 15))), .iface 82 (.pointer (some (a 16))), .iface 82 (.pointer (some (a 17)))] 27) = W := hW.symm
  rw [e0]
  have HC := Lib.hid hcl
  clear hcl e0 hW c0 c1 c2 c3 c4 c5 c6 c7 c8 c9 c10 c11 c12 c13 c14 c15 c16 c17
  go_loop [29] (fun i => ∃ k : Nat, k ≤ m ∧ i = .int .i64 k) (fun i => 18 - (intOf i).toNat)
  case atStart => exact ⟨0, Nat.zero_le _, rfl⟩
  case round =>
    obtain ⟨k, hk, rfl⟩ := hrel
    have hc := HC.out k (by omega)
    by_cases hkm : k = m
    · subst hkm
      go_wp2_with (go_at_call 21; refine (is_same _ _).mono ?_; rintro e w' ⟨rfl, rfl⟩)
      go_ret
      exact ⟨rfl, hb⟩
    · obtain ⟨cm, tm, hm1⟩ := hEW.block m hm
      obtain ⟨ck, tk, hk1⟩ := hEW.block k (by omega)
      have hne := hEW.apart m k hm (by omega) (fun h => hkm h.symm)
      have HI := Lib.hid (is_other (a m) (a k) cm ck tm tk W hne hm1 hk1)
      clear hm1 hk1 hne
      go_wp2_with (go_at_call 21; refine (HI.out).mono ?_; rintro e w' ⟨rfl, rfl⟩)
      go_round
      case rel => exact ⟨k + 1, by omega, by go_num⟩
      case measure => simp [intOf]; omega
end Go.Proofs.YtkpjdjenlmodnaaDoor
