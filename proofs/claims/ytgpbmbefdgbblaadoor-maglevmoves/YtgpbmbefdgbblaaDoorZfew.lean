/-
  addr.Right, ports.Right and the document's; numbers as bytes.
-/
import Derived.Test.YtgpbmbefdgbblaaDoorZbase
import Derived.Deep.RegionHeld3
import Derived.StillTactics
import Derived.Laws.Pointers
namespace Go.Proofs.YtgpbmbefdgbblaaDoor
open Go.RowKit

set_option maxHeartbeats 400000 in
theorem four_any (a b c d : Int) (w : World) : Calls Tryd.prog 35 #[.int .u8 a, .int .u8 b, .int .u8 c, .int .u8 d] w fun e w' => e = .returned (.agg (adr false [a, b, c, d, 0, 0, 0, 0, 0, 0, 0, 0, 0, 0, 0, 0])) ∧ Below w.heap.size w w' := by
  have HB := Lib.hid (Blk.new w 34 (adr false z16))
  go_enter Tryd.func35, Tryd.ntmps35
  go_wp2_with (refine wpl_store 34 _ _ rfl _ (adr false [a, b, c, d, 0, 0, 0, 0, 0, 0, 0, 0, 0, 0, 0, 0]) rfl rfl _ _ HB.out 17 Tryd.infoAddr rfl rfl (adr_one _ _) rfl ?_)
  exact retA rfl w.heap.size rfl _ _ _ (HB.out.row _) Tryd.underlying34 rfl 17 Tryd.infoAddr rfl rfl ⟨rfl, below_setRow ((Below.refl _ _).alloc (Nat.le_refl _) _) (Nat.le_refl _) _⟩
/-- All cells of a block that holds an address. -/
theorem cells16 {w' : World} {g : Nat} {s : Bool} {b : List Int} (hl : b.length = 16) (h : Blk w' g 34 (adr s b)) : w'.cell? ⟨g, 0, none⟩ = some (.bool s) ∧ w'.cell? ⟨g, 1, none⟩ = some (.int .u8 (nth b 0)) ∧ w'.cell? ⟨g, 2, none⟩ = some (.int .u8 (nth b 1)) ∧ w'.cell? ⟨g, 3, none⟩ = some (.int .u8 (nth b 2)) ∧ w'.cell? ⟨g, 4, none⟩ = some (.int .u8 (nth b 3)) ∧ w'.cell? ⟨g, 5, none⟩ = some (.int .u8 (nth b 4)) ∧ w'.cell? ⟨g, 6, none⟩ = some (.int .u8 (nth b 5)) ∧ w'.cell? ⟨g, 7, none⟩ = some (.int .u8 (nth b 6)) ∧ w'.cell? ⟨g, 8, none⟩ = some (.int .u8 (nth b 7)) ∧ w'.cell? ⟨g, 9, none⟩ = some (.int .u8 (nth b 8)) ∧ w'.cell? ⟨g, 10, none⟩ = some (.int .u8 (nth b 9)) ∧ w'.cell? ⟨g, 11, none⟩ = some (.int .u8 (nth b 10)) ∧ w'.cell? ⟨g, 12, none⟩ = some (.int .u8 (nth b 11)) ∧ w'.cell? ⟨g, 13, none⟩ = some (.int .u8 (nth b 12)) ∧ w'.cell? ⟨g, 14, none⟩ = some (.int .u8 (nth b 13)) ∧ w'.cell? ⟨g, 15, none⟩ = some (.int .u8 (nth b 14)) ∧ w'.cell? ⟨g, 16, none⟩ = some (.int .u8 (nth b 15)) := by
  have hc : ∀ i, i < 16 → w'.cell? ⟨g, 1 + i, none⟩ = some (.int .u8 (nth b i)) := fun i hi => by rw [h.cell, adr_at _ _ _ (by omega)]
  exact ⟨by rw [h.cell]; rfl, hc 0 (by omega), hc 1 (by omega), hc 2 (by omega), hc 3 (by omega), hc 4 (by omega), hc 5 (by omega), hc 6 (by omega), hc 7 (by omega), hc 8 (by omega), hc 9 (by omega), hc 10 (by omega), hc 11 (by omega), hc 12 (by omega), hc 13 (by omega), hc 14 (by omega), hc 15 (by omega)⟩
/-- Are all bytes behind the fourth noughts? -/
def flat (b : List Int) : Bool := b == [nth b 0, nth b 1, nth b 2, nth b 3, 0, 0, 0, 0, 0, 0, 0, 0, 0, 0, 0, 0]
theorem lit16 (s : Bool) (b : List Int) (hl : b.length = 16) : adr s b = #[.bool s, .int .u8 (nth b 0), .int .u8 (nth b 1), .int .u8 (nth b 2), .int .u8 (nth b 3), .int .u8 (nth b 4), .int .u8 (nth b 5), .int .u8 (nth b 6), .int .u8 (nth b 7), .int .u8 (nth b 8), .int .u8 (nth b 9), .int .u8 (nth b 10), .int .u8 (nth b 11), .int .u8 (nth b 12), .int .u8 (nth b 13), .int .u8 (nth b 14), .int .u8 (nth b 15)] := by
  match b, hl with
  | [a0, a1, a2, a3, a4, a5, a6, a7, a8, a9, a10, a11, a12, a13, a14, a15], _ => rfl
theorem list16 (b : List Int) (hl : b.length = 16) : b = [nth b 0, nth b 1, nth b 2, nth b 3, nth b 4, nth b 5, nth b 6, nth b 7, nth b 8, nth b 9, nth b 10, nth b 11, nth b 12, nth b 13, nth b 14, nth b 15] := by
  match b, hl with
  | [a0, a1, a2, a3, a4, a5, a6, a7, a8, a9, a10, a11, a12, a13, a14, a15], _ => rfl
set_option maxHeartbeats 400000 in
theorem right_six (b : List Int) (w : World) : Calls Tryd.prog 24 #[.agg (adr true b)] w fun e w' => e = .returned (.bool true) ∧ Below w.heap.size w w' := by
  have h0 := adr_zero true b
  go_enter Tryd.func24, Tryd.ntmps24
  go_wp2
  go_ret
  exact ⟨rfl, (Below.refl _ _).alloc (Nat.le_refl _) _⟩
set_option maxHeartbeats 4000000 in
theorem right_four (b : List Int) (hl : b.length = 16) (w : World) : Calls Tryd.prog 24 #[.agg (adr false b)] w fun e w' => e = .returned (.bool (flat b)) ∧ Below w.heap.size w w' := by
  obtain ⟨W, hW⟩ : ∃ W, W = w.alloc (.cells (adr false b) 34) := ⟨_, rfl⟩
  have hB : Blk W w.heap.size 34 (adr false b) := hW ▸ Blk.new w _ _
  have hb0 : Below w.heap.size w W := hW ▸ (Below.refl _ _).alloc (Nat.le_refl _) _
  have h0 := adr_zero false b
  have HB : Hid (Blk W.drew w.heap.size 34 (adr false b)) := Lib.hid hB
  have HW := Lib.hid hW.symm
  have HL := Lib.hid hl
  have HS := Lib.hid (fun w' => @cells16 w' w.heap.size false b hl)
  have hq : ∀ w, (binOp .eql 34 (.agg #[.bool false, .int .u8 (nth b 0), .int .u8 (nth b 1), .int .u8 (nth b 2), .int .u8 (nth b 3), .int .u8 (nth b 4), .int .u8 (nth b 5), .int .u8 (nth b 6), .int .u8 (nth b 7), .int .u8 (nth b 8), .int .u8 (nth b 9), .int .u8 (nth b 10), .int .u8 (nth b 11), .int .u8 (nth b 12), .int .u8 (nth b 13), .int .u8 (nth b 14), .int .u8 (nth b 15)]) (.agg (adr false [nth b 0, nth b 1, nth b 2, nth b 3, 0, 0, 0, 0, 0, 0, 0, 0, 0, 0, 0, 0]))).run Tryd.prog w = .ok (.bool (flat b)) w := fun w => by
    have := eql_adr false false b [nth b 0, nth b 1, nth b 2, nth b 3, 0, 0, 0, 0, 0, 0, 0, 0, 0, 0, 0, 0] hl rfl w
    rw [lit16 false b hl] at this
    exact this
  clear hB hW hl
  go_enter Tryd.func24, Tryd.ntmps24
  go_wp2
  rw [HW.out]
  go_region_held3 (fun w' => w'.cell? ⟨w.heap.size, 0, none⟩ = some (.bool false) ∧ w'.cell? ⟨w.heap.size, 1, none⟩ = some (.int .u8 (nth b 0)) ∧ w'.cell? ⟨w.heap.size, 2, none⟩ = some (.int .u8 (nth b 1)) ∧ w'.cell? ⟨w.heap.size, 3, none⟩ = some (.int .u8 (nth b 2)) ∧ w'.cell? ⟨w.heap.size, 4, none⟩ = some (.int .u8 (nth b 3)) ∧ w'.cell? ⟨w.heap.size, 5, none⟩ = some (.int .u8 (nth b 4)) ∧ w'.cell? ⟨w.heap.size, 6, none⟩ = some (.int .u8 (nth b 5)) ∧ w'.cell? ⟨w.heap.size, 7, none⟩ = some (.int .u8 (nth b 6)) ∧ w'.cell? ⟨w.heap.size, 8, none⟩ = some (.int .u8 (nth b 7)) ∧ w'.cell? ⟨w.heap.size, 9, none⟩ = some (.int .u8 (nth b 8)) ∧ w'.cell? ⟨w.heap.size, 10, none⟩ = some (.int .u8 (nth b 9)) ∧ w'.cell? ⟨w.heap.size, 11, none⟩ = some (.int .u8 (nth b 10)) ∧ w'.cell? ⟨w.heap.size, 12, none⟩ = some (.int .u8 (nth b 11)) ∧ w'.cell? ⟨w.heap.size, 13, none⟩ = some (.int .u8 (nth b 12)) ∧ w'.cell? ⟨w.heap.size, 14, none⟩ = some (.int .u8 (nth b 13)) ∧ w'.cell? ⟨w.heap.size, 15, none⟩ = some (.int .u8 (nth b 14)) ∧ w'.cell? ⟨w.heap.size, 16, none⟩ = some (.int .u8 (nth b 15)))
    (first | exact HS.out _ HB.out | exact HS.out _ (HB.out.kept hb1))
    (first | (go_at_call 35; refine (four_any _ _ _ _ _).mono ?_; rintro e w1 ⟨rfl, hb1⟩))
  go_wp2
  go_ret
  exact ⟨rfl, hb0.trans (((below_drewN W 1).trans hb1).mono (Nat.le_of_lt HB.out.lt))⟩
theorem flat_of (b : List Int) (hl : b.length = 16) (h : ∀ j, 4 ≤ j → j < 16 → nth b j = 0) : flat b = true := by
  have e := list16 b hl
  rw [h 4 (by omega) (by omega), h 5 (by omega) (by omega), h 6 (by omega) (by omega), h 7 (by omega) (by omega), h 8 (by omega) (by omega), h 9 (by omega) (by omega), h 10 (by omega) (by omega), h 11 (by omega) (by omega), h 12 (by omega) (by omega), h 13 (by omega) (by omega), h 14 (by omega) (by omega), h 15 (by omega) (by omega)] at e
  unfold flat
  rw [← e]
  simp
theorem flat_not (b : List Int) (j : Nat) (h4 : 4 ≤ j) (h16 : j < 16) (h : nth b j ≠ 0) : flat b = false := by
  rw [← Bool.not_eq_true]
  intro hf
  unfold flat at hf
  have e := beq_iff_eq.1 hf
  apply h
  rw [e]
  have : j = 4 ∨ j = 5 ∨ j = 6 ∨ j = 7 ∨ j = 8 ∨ j = 9 ∨ j = 10 ∨ j = 11 ∨ j = 12 ∨ j = 13 ∨ j = 14 ∨ j = 15 := by omega
  rcases this with rfl | rfl | rfl | rfl | rfl | rfl | rfl | rfl | rfl | rfl | rfl | rfl <;> rfl
/-- Numbers as Go's integers. -/
def ints (l : List Nat) : List Int := l.map (fun k : Nat => (k : Int))
theorem ints_length (l : List Nat) : (ints l).length = l.length := by simp [ints]
theorem nth_ints (l : List Nat) (i : Nat) : nth (ints l) i = ((l.getD i 0 : Nat) : Int) := by
  unfold nth ints
  by_cases h : i < l.length
  · simp [List.getD, List.getElem?_eq_getElem h]
  · simp [List.getD, List.getElem?_eq_none (Nat.le_of_not_lt h)]
/-- Is it a port? -/
def rp (n : Int) : Bool := decide (1 ≤ n) && decide (n ≤ 65535)
theorem pright_any (n : Int) (w : World) : Calls Tryd.prog 25 #[.int .i64 n] w fun e w' => e = .returned (.bool (rp n)) ∧ w = w' := by
  unfold rp
  by_cases h1 : 1 ≤ n
  · have q1 : decide (n ≥ 1) = true := decide_eq_true h1
    have q1' : decide (1 ≤ n) = true := decide_eq_true h1
    rw [q1', Bool.true_and]
    go_enter Tryd.func25, Tryd.ntmps25
    go_wp2
    go_ret
    exact ⟨rfl, rfl⟩
  · have q1 : decide (n ≥ 1) = false := decide_eq_false h1
    have q1' : decide (1 ≤ n) = false := decide_eq_false h1
    rw [q1', Bool.false_and]
    go_enter Tryd.func25, Tryd.ntmps25
    go_wp2
    go_ret
    exact ⟨rfl, rfl⟩
end Go.Proofs.YtgpbmbefdgbblaaDoor
