/-
  The walks of octets.Num.
-/
import Derived.Test.YtapehpcipnbpgaaDoorChecked
import Derived.Test.YtapehpcipnbpgaaDoorNums
import Derived.WalkKit
import Derived.WalkSpells
import Derived.WalkLawsBesides
import Derived.BigQuiet
import Derived.Deep.QuietTactic
import Derived.Lib.Hide
namespace Go.Proofs.YtapehpcipnbpgaaDoor
open Go.RowKit

theorem Tryd.info5 : (Tryd.prog.info? 5).map (fun i => (i.zero, i.size, i.bytes)) = some (some (.int .u8 0), 1, 1) := by kernel_rfl

theorem below_drewN (w : World) (n : Nat) : Below w.heap.size w (w.drewN n) := ⟨rfl, rfl, rfl, Nat.le_refl _, fun _ _ => rfl⟩

set_option maxHeartbeats 400000 in
theorem octNum_bad (n s : Int) (w : World) (E0 : Value) (hE : w.cell? ⟨0, 0, none⟩ = some E0) (h : s < 1 ∨ 8 < s ∨ n < 0 ∨ 4611686018427387904 < n) :
    Calls Tryd.prog 6 #[.int .i64 n, .int .i64 s] w fun e w' => e = .returned (.tuple #[.slice none 0 0, E0]) ∧ Below w.heap.size w w' := by
  by_cases h1 : s < 1
  · clear h
    go_enter Tryd.func6, Tryd.ntmps6
    go_wp2
    go_quiet (fail)
    go_wp2
    go_ret2
    exact ⟨rfl, below_drewN _ _⟩
  · by_cases h2 : 8 < s
    · clear h
      go_enter Tryd.func6, Tryd.ntmps6
      go_wp2
      go_quiet (fail)
      go_wp2
      go_ret2
      exact ⟨rfl, below_drewN _ _⟩
    · by_cases h3 : n < 0
      · clear h
        go_enter Tryd.func6, Tryd.ntmps6
        go_wp2
        go_quiet (fail)
        go_wp2
        go_ret2
        exact ⟨rfl, below_drewN _ _⟩
      · have h4 : 4611686018427387904 < n := by omega
        clear h
        go_enter Tryd.func6, Tryd.ntmps6
        go_wp2
        go_quiet (fail)
        go_wp2
        go_ret2
        exact ⟨rfl, below_drewN _ _⟩

set_option maxHeartbeats 400000 in
theorem octNum_wide (n s : Nat) (w : World) (E0 : Value) (hE : w.cell? ⟨0, 0, none⟩ = some E0) (h1 : 1 ≤ s) (h2 : s ≤ 8) (h3 : n ≤ 4611686018427387904) (h : n / 256 ^ s ≠ 0) :
    Calls Tryd.prog 6 #[.int .i64 n, .int .i64 s] w fun e w' => e = .returned (.tuple #[.slice none 0 0, E0]) ∧ Below w.heap.size w w' := by
  have e2 := shr8_ne n s h
  have d1 : decide ((s : Int) < 1) = false := by simp; omega
  have d2 : decide ((8 : Int) < (s : Int)) = false := by simp; omega
  have d3 : decide ((n : Int) < 0) = false := by simp
  have d4 : decide ((4611686018427387904 : Int) < (n : Int)) = false := by simp; omega
  clear h
  go_enter Tryd.func6, Tryd.ntmps6
  go_wp2
  go_quiet (fail)
  go_wp2
  go_ret2
  exact ⟨rfl, below_drewN _ _⟩

set_option maxHeartbeats 400000 in
theorem octNum_good (n s : Nat) (w : World) (h1 : 1 ≤ s) (h2 : s ≤ 8) (h3 : n ≤ 4611686018427387904) (h : n / 256 ^ s = 0) :
    Calls Tryd.prog 6 #[.int .i64 n, .int .i64 s] w fun e w' => e = .returned (.tuple #[.slice (some ⟨w.heap.size, 0, none⟩) s s, .nilIface]) ∧
      w'.ownsRow w.heap.size 5 1 (.slice (some ⟨w.heap.size, 0, none⟩) s s) s ((be n s).map (Value.int .u8)) ∧ Below w.heap.size w w' := by
  have e2 := shr8_eq n s h
  have d1 : decide ((s : Int) < 1) = false := by simp; omega
  have d2 : decide ((8 : Int) < (s : Int)) = false := by simp; omega
  have d3 : decide ((n : Int) < 0) = false := by simp
  have d4 : decide ((4611686018427387904 : Int) < (n : Int)) = false := by simp; omega
  clear h
  obtain ⟨i0, hi, hz0, hz1, hz2⟩ := info_parts Tryd.info5
  have hz3 := Lib.hid hz2
  go_enter Tryd.func6, Tryd.ntmps6
  go_wp2_with (first | (refine wpList_make_full _ rfl (.tmp 30) (.tmp 30) 23 rfl w.heap.size 5 i0 (.int .u8 0) 1 Tryd.underlying23 hi hz0 hz1 .i64 .i64 s s s rfl rfl rfl rfl ?c1 ?c2 (Nat.le_refl _) ?_; rotate_right; intro w1 hown hgrow) | fail)
  case c1 => rw [hz3.out]; omega
  case c2 => unfold maxLen; omega
  clear hz3 hz2 hz1 hz0
  have hb0 : Below w.heap.size w w1 := (Below.refl _ _).grown hgrow (Nat.le_refl _) (fun k hk => by cases hk)
  have hown0 : w1.ownsRow w.heap.size 5 1 (.slice (some ⟨w.heap.size, 0, none⟩) s s) s ((row n s 0).map (Value.int .u8)) := by
    rw [row_zero, List.map_replicate]
    simpa [toList_madeCells_one, Value.cells] using hown
  clear hown hgrow e2 d1 d2 d3 d4
  go_loopw [34] (fun i wr => ∃ k : Nat, k ≤ s ∧ i = .int .i64 k ∧ wr.ownsRow w.heap.size 5 1 (.slice (some ⟨w.heap.size, 0, none⟩) s s) s ((row n s k).map (Value.int .u8)) ∧ Below w.heap.size w wr) (fun i _ => s - (intOf i).toNat)
  case atStart => exact ⟨0, Nat.zero_le _, rfl, hown0, hb0⟩
  case round =>
    obtain ⟨k, hk, rfl, ho, hb⟩ := hrel
    clear hown0 hb0
    by_cases hlt : k < s
    · have hcl := ho.cellAt (s - 1 - k) (by omega)
      have hfz := ho.frozenAt (s - 1 - k)
      have hst := ho.stored (s - 1 - k) (.int .u8 ((n / 256 ^ k % 256 : Nat) : Int))
      rw [rows_set n s k hlt] at hst
      have HS := Lib.hid hst
      clear hst
      obtain ⟨v0, hv0⟩ : ∃ v0, ((row n s k).map (Value.int .u8))[s - 1 - k]? = some v0 := ⟨_, List.getElem?_eq_getElem (by rw [List.length_map, row_length n s k hk]; omega)⟩
      rw [hv0] at hcl
      clear hv0
      go_wp2
      go_roundw
      case rel =>
        rw [shr8m]
        exact ⟨k + 1, by omega, by go_num, HS.out.1, hb.setCell (Nat.le_refl _) _⟩
      case measure => simp [intOf]; omega
    · obtain rfl : k = s := by omega
      go_wp2
      go_ret2
      rw [row_full] at ho
      exact ⟨rfl, ho, hb⟩

/-! ### The document's answer: linkboyref01.Num -/
set_option maxHeartbeats 400000 in
theorem refNum_bad (n s : Int) (w : World) (h : s < 1 ∨ 8 < s ∨ n < 0 ∨ 4611686018427387904 < n) :
    Calls Tryd.prog 7 #[.int .i64 n, .int .i64 s] w fun e w' => e = .returned (.tuple #[.slice none 0 0, .int .i64 1]) ∧ w = w' := by
  by_cases h1 : s < 1
  · clear h
    go_enter Tryd.func7, Tryd.ntmps7
    go_wp2
    go_ret2
    exact ⟨rfl, rfl⟩
  · by_cases h2 : 8 < s
    · clear h
      go_enter Tryd.func7, Tryd.ntmps7
      go_wp2
      go_ret2
      exact ⟨rfl, rfl⟩
    · by_cases h3 : n < 0
      · clear h
        go_enter Tryd.func7, Tryd.ntmps7
        go_wp2
        go_ret2
        exact ⟨rfl, rfl⟩
      · have h4 : 4611686018427387904 < n := by omega
        clear h
        go_enter Tryd.func7, Tryd.ntmps7
        go_wp2
        go_ret2
        exact ⟨rfl, rfl⟩

/-- What ref's Num leaves: nothing, if what is left of the number isn't 0; else its bytes. -/
def RefEnd (n s : Nat) (w : World) (e : Ending) (w' : World) : Prop :=
  (n / 256 ^ s ≠ 0 → e = .returned (.tuple #[.slice none 0 0, .int .i64 1])) ∧
  (n / 256 ^ s = 0 → e = .returned (.tuple #[.slice (some ⟨w.heap.size, 0, none⟩) s s, .int .i64 0]) ∧ w'.ownsRow w.heap.size 5 1 (.slice (some ⟨w.heap.size, 0, none⟩) s s) s ((be n s).map (Value.int .u8))) ∧
  Below w.heap.size w w'

set_option maxHeartbeats 400000 in
theorem refNum_any (n s : Nat) (w : World) (h1 : 1 ≤ s) (h2 : s ≤ 8) (h3 : n ≤ 4611686018427387904) :
    Calls Tryd.prog 7 #[.int .i64 n, .int .i64 s] w (RefEnd n s w) := by
  have d1 : decide ((s : Int) < 1) = false := by simp; omega
  have d2 : decide ((8 : Int) < (s : Int)) = false := by simp; omega
  have d3 : decide ((n : Int) < 0) = false := by simp
  have d4 : decide ((4611686018427387904 : Int) < (n : Int)) = false := by simp; omega
  obtain ⟨i0, hi, hz0, hz1, hz2⟩ := info_parts Tryd.info5
  have hz3 := Lib.hid hz2
  go_enter Tryd.func7, Tryd.ntmps7
  go_wp2_with (first | (refine wpList_make_full _ rfl (.tmp 22) (.tmp 22) 23 rfl w.heap.size 5 i0 (.int .u8 0) 1 Tryd.underlying23 hi hz0 hz1 .i64 .i64 s s s rfl rfl rfl rfl ?c1 ?c2 (Nat.le_refl _) ?_; rotate_right; intro w1 hown hgrow) | fail)
  case c1 => rw [hz3.out]; omega
  case c2 => unfold maxLen; omega
  clear hz3 hz2 hz1 hz0
  have hb0 : Below w.heap.size w w1 := (Below.refl _ _).grown hgrow (Nat.le_refl _) (fun k hk => by cases hk)
  have hown0 : w1.ownsRow w.heap.size 5 1 (.slice (some ⟨w.heap.size, 0, none⟩) s s) s ((row n s 0).map (Value.int .u8)) := by
    rw [row_zero, List.map_replicate]
    simpa [toList_madeCells_one, Value.cells] using hown
  clear hown hgrow d1 d2 d3 d4
  go_loopw [0, 7] (fun m i wr => ∃ k : Nat, k ≤ s ∧ i = .int .i64 ((s : Int) - 1 - k) ∧ m = .int .i64 ((n / 256 ^ k : Nat) : Int) ∧ wr.ownsRow w.heap.size 5 1 (.slice (some ⟨w.heap.size, 0, none⟩) s s) s ((row n s k).map (Value.int .u8)) ∧ Below w.heap.size w wr) (fun _ i _ => (1 + intOf i).toNat)
  case atStart => exact ⟨0, Nat.zero_le _, by simp, by simp, hown0, hb0⟩
  case round =>
    obtain ⟨k, hk, rfl, rfl, ho, hb⟩ := hrel
    clear hown0 hb0
    obtain ⟨q, hq⟩ : ∃ q, n / 256 ^ k = q := ⟨_, rfl⟩
    have hqn : q ≤ 4611686018427387904 := by rw [← hq]; exact Nat.le_trans (Nat.div_le_self _ _) h3
    have hq1 : n / 256 ^ (k + 1) = q / 256 := by rw [Nat.pow_succ, ← Nat.div_div_eq_div_mul, hq]
    by_cases hlt : k < s
    · have hcl := ho.cellAt (s - 1 - k) (by omega)
      have hfz := ho.frozenAt (s - 1 - k)
      have hst := ho.stored (s - 1 - k) (.int .u8 ((n / 256 ^ k % 256 : Nat) : Int))
      rw [rows_set n s k hlt, hq] at hst
      have HS := Lib.hid hst
      clear hst
      obtain ⟨v0, hv0⟩ : ∃ v0, ((row n s k).map (Value.int .u8))[s - 1 - k]? = some v0 := ⟨_, List.getElem?_eq_getElem (by rw [List.length_map, row_length n s k hk]; omega)⟩
      rw [hv0] at hcl
      clear hv0
      rw [hq]
      have Hq1 := Lib.hid hq1
      clear hq hq1
      go_wp2
      go_roundw
      case rel =>
        have e1 : ((q : Int) % 256) = ((q % 256 : Nat) : Int) := by omega
        rw [e1]
        exact ⟨k + 1, by omega, by go_num, by rw [Hq1.out]; go_num, HS.out.1, hb.setCell (Nat.le_refl _) _⟩
      case measure => simp [intOf]; omega
    · obtain rfl : k = s := by omega
      rw [row_full] at ho
      rw [hq]
      have Hq := Lib.hid hq
      clear hq hq1
      by_cases hq0 : 0 < q
      · go_wp2
        go_ret2
        exact ⟨fun _ => rfl, fun h => absurd (Hq.out.symm.trans h) (by omega), hb⟩
      · go_wp2
        go_ret2
        exact ⟨fun h => absurd Hq.out (by omega), fun _ => ⟨rfl, ho⟩, hb⟩
end Go.Proofs.YtapehpcipnbpgaaDoor
