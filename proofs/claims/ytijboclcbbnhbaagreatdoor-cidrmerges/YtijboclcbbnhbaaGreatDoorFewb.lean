/-
  The walk of the document's Right.
-/
import Derived.Test.YtijboclcbbnhbaaGreatDoorBits
namespace Go.Proofs.YtijboclcbbnhbaaGreatDoor
open Go.RowKit

set_option maxHeartbeats 400000 in
theorem refRight_any (six : Bool) (b : List Int) (hl : b.length = 16) (w : World) : Calls Tryz.prog 20 #[.agg (adr six b)] w fun e w' => e = .returned (.bool (six || flat b)) ∧ Below w.heap.size w w' := by
  obtain ⟨W, hW⟩ : ∃ W, W = w.alloc (.cells (adr six b) 25) := ⟨_, rfl⟩
  have hB : Blk W w.heap.size 25 (adr six b) := hW ▸ Blk.new w _ _
  have hb0 : Below w.heap.size w W := hW ▸ (Below.refl _ _).alloc (Nat.le_refl _) _
  have h0 : W.cell? ⟨w.heap.size, 0, none⟩ = some (.bool six) := by rw [hB.cell]; rfl
  have HC : Hid (∀ i, i < 16 → W.cell? ⟨w.heap.size, 1 + i, none⟩ = some (.int .u8 (nth b i))) := Lib.hid fun i hi => by rw [hB.cell, adr_at _ _ _ (by omega)]
  have HW := Lib.hid hW.symm
  have HL := Lib.hid hl
  clear hB hW hl
  go_enter Tryz.func20, Tryz.ntmps20
  go_wp2_with fail
  rw [HW.out]
  go_loop [3] (fun i => ∃ k : Nat, 4 ≤ k ∧ k ≤ 16 ∧ i = .int .i64 k ∧ Hid (six = true ∨ ∀ j, 4 ≤ j → j < k → nth b j = 0)) (fun i => 16 - (intOf i).toNat)
  case atStart => exact ⟨4, by omega, by omega, rfl, .inr fun j h1 h2 => by omega⟩
  case round =>
    obtain ⟨k, hk4, hk, rfl, hr⟩ := hrel
    by_cases hlt : k < 16
    · have hc := HC.out k hlt
      cases hs : six
      · subst hs
        by_cases hz : nth b k = 0
        · have hz' : (nth b k != 0) = false := by rw [hz]; rfl
          have Hz := Lib.hid hz
          clear hz
          go_wp2
          go_round
          case rel =>
            refine ⟨k + 1, by omega, by omega, by go_num, .inr fun j h1 h2 => ?_⟩
            by_cases e : j = k
            · rw [e]; exact Hz.out
            · rcases hr.out with h | h
              · cases h
              · exact h j h1 (by omega)
          case measure => simp [intOf]; omega
        · have hz' : (nth b k != 0) = true := by rw [bne_iff_ne]; exact hz
          have Hz := Lib.hid hz
          clear hz
          go_wp2
          go_ret
          exact ⟨by rw [flat_not b k hk4 hlt Hz.out]; rfl, hb0⟩
      · subst hs
        go_wp2
        go_round
        case rel => exact ⟨k + 1, by omega, by omega, by go_num, Or.inl (by simp)⟩
        case measure => simp [intOf]; omega
    · have hk16 : k = 16 := by omega
      have HR : Hid ((six || flat b) = true) := Lib.hid (by
        rcases hr.out with h | h
        · rw [h]; rfl
        · rw [flat_of b HL.out (fun j h1 h2 => h j h1 (by omega))]; simp)
      go_wp2
      go_ret
      exact ⟨by rw [HR.out]; rfl, hb0⟩
end Go.Proofs.YtijboclcbbnhbaaGreatDoor
