/-
  The law StridePlaces at every input.
-/
import Derived.Test.YtpijdbajonddlaaDoorVlaw
import Derived.Deep.RegionHeld3
namespace Go.Proofs.YtpijdbajonddlaaDoor
open Go.RowKit Go.Lib

theorem CurNo.kept {w w' : World} {c : Nat} {d : Int} (h : CurNo w c d) (hb : Below w.heap.size w w') : CurNo w' c d := Blk.kept h hb
theorem CurYes.kept {w w' : World} {c b : Nat} {m o k d : Int} (h : CurYes w c b m o k d) (hb : Below w.heap.size w w') : CurYes w' c b m o k d := ⟨h.1.kept hb, h.2.1, h.2.2.kept hb⟩
theorem CurNo.lt {w : World} {c : Nat} {d : Int} (h : CurNo w c d) : c < w.heap.size := Blk.lt h
theorem below_drew (w : World) : Below w.heap.size w w.drew := ⟨rfl, rfl, rfl, Nat.le_refl _, fun _ _ => rfl⟩

set_option maxRecDepth 100000 in
set_option maxHeartbeats 4000000 in
theorem lplaces_no (m o k j p : Int) (h : rightS m o k = false) (w : World) :
    Calls Tryd.prog 4 #[.agg #[.int .i64 m, .int .i64 o, .int .i64 k], .int .i64 j, .int .i64 p] w fun e w' => e = .returned (.bool true) ∧ Below w.heap.size w w' := by
  obtain ⟨W0, hW0⟩ : ∃ W, W = w.alloc (.cells #[.int .i64 m, .int .i64 o, .int .i64 k] 25) := ⟨_, rfl⟩
  have HB0 : Hid (Blk W0 w.heap.size 25 #[.int .i64 m, .int .i64 o, .int .i64 k]) := hid (hW0 ▸ Blk.new w _ _)
  have HB : Hid (Below w.heap.size w W0) := hid (hW0 ▸ (Below.refl _ _).alloc (Nat.le_refl _) _)
  have HW0 := hid hW0.symm
  have HA := hid (fun W => salive_any W)
  have HQ := hid (fun W => h ▸ rright_any m o k W)
  have HR := hid (fun W => h ▸ right_any m o k W)
  have HC := hid (fun W => cursor_no m o k h W)
  have HP := hid (fun W => place_no m o k j h W)
  have HN := hid (fun W => when_no m o k p (.inl h) W)
  have HL := hid (fun W => all_no m o k h W)
  have HX := hid (fun c W hC => next_no c 0 ⟨by omega, by omega⟩ W hC)
  have HD := hid (fun c W hC => done_no c (0 + 1) W hC)
  clear hW0 h
  go_enter Tryd.func4, Tryd.ntmps4
  go_wp2_with fail
  rw [HW0.out]
  refine (HA.out _).mono ?_
  rintro e w1 ⟨rfl, hb⟩
  have Hb1 := hid hb
  have B1 := hid (HB0.out.kept hb)
  clear hb
  have c10 : w1.cell? ⟨w.heap.size, 0, none⟩ = some (.int .i64 m) := B1.out.cell 0
  have c11 : w1.cell? ⟨w.heap.size, 1, none⟩ = some (.int .i64 o) := B1.out.cell 1
  have c12 : w1.cell? ⟨w.heap.size, 2, none⟩ = some (.int .i64 k) := B1.out.cell 2
  go_wp2_with fail
  refine (HQ.out _).mono ?_
  rintro e w2 ⟨rfl, rfl⟩
  go_wp2_with fail
  refine (HC.out _).mono ?_
  rintro e w2 ⟨c, rfl, hc, hC, hb⟩
  have Hc : Hid (W0.heap.size ≤ c) := hid (Nat.le_trans Hb1.out.size hc)
  have Hb2 := hid (bel2 Hb1.out hb)
  have B2 := hid (B1.out.kept hb)
  have C2 := hid hC
  clear hb hC hc c10 c11 c12
  have c20 : w2.cell? ⟨w.heap.size, 0, none⟩ = some (.int .i64 m) := B2.out.cell 0
  have c21 : w2.cell? ⟨w.heap.size, 1, none⟩ = some (.int .i64 o) := B2.out.cell 1
  have c22 : w2.cell? ⟨w.heap.size, 2, none⟩ = some (.int .i64 k) := B2.out.cell 2
  go_wp2_with fail
  refine (HR.out _).mono ?_
  rintro e w3 ⟨rfl, hb⟩
  have Hb3 := hid (bel2 Hb2.out hb)
  have B3 := hid (B2.out.kept hb)
  have C3 := hid (C2.out.kept hb)
  clear hb c20 c21 c22
  have c30 : w3.cell? ⟨w.heap.size, 0, none⟩ = some (.int .i64 m) := B3.out.cell 0
  have c31 : w3.cell? ⟨w.heap.size, 1, none⟩ = some (.int .i64 o) := B3.out.cell 1
  have c32 : w3.cell? ⟨w.heap.size, 2, none⟩ = some (.int .i64 k) := B3.out.cell 2
  go_wp2_with fail
  refine (HP.out _).mono ?_
  rintro e w4 ⟨rfl, hb⟩
  have Hb4 := hid (bel2 Hb3.out hb)
  have B4 := hid (B3.out.kept hb)
  have C4 := hid (C3.out.kept hb)
  clear hb c30 c31 c32
  have c40 : w4.cell? ⟨w.heap.size, 0, none⟩ = some (.int .i64 m) := B4.out.cell 0
  have c41 : w4.cell? ⟨w.heap.size, 1, none⟩ = some (.int .i64 o) := B4.out.cell 1
  have c42 : w4.cell? ⟨w.heap.size, 2, none⟩ = some (.int .i64 k) := B4.out.cell 2
  go_wp2_with fail
  refine (HN.out _).mono ?_
  rintro e w5 ⟨rfl, hb⟩
  have Hb5 := hid (bel2 Hb4.out hb)
  have B5 := hid (B4.out.kept hb)
  have C5 := hid (C4.out.kept hb)
  clear hb c40 c41 c42
  have c50 : w5.cell? ⟨w.heap.size, 0, none⟩ = some (.int .i64 m) := B5.out.cell 0
  have c51 : w5.cell? ⟨w.heap.size, 1, none⟩ = some (.int .i64 o) := B5.out.cell 1
  have c52 : w5.cell? ⟨w.heap.size, 2, none⟩ = some (.int .i64 k) := B5.out.cell 2
  go_wp2_with fail
  refine (HL.out _).mono ?_
  rintro e w6 ⟨rfl, hb⟩
  have Hb6 := hid (bel2 Hb5.out hb)
  have C6 := hid (C5.out.kept hb)
  clear hb c50 c51 c52
  go_wp2_with fail
  refine (HX.out _ _ C6.out).mono ?_
  rintro e w7 ⟨rfl, hC, hg⟩
  have C7 := hid hC
  have Hb7 := hid (Hb6.out.grown hg Hb6.out.size (fun i hi => by cases hi; exact Hc.out))
  clear hC hg
  go_wp2_with fail
  refine (HD.out _ _ C7.out).mono ?_
  rintro e w8 ⟨rfl, rfl⟩
  go_wp2
  go_ret
  exact ⟨rfl, bel2 HB.out Hb7.out⟩
end Go.Proofs.YtpijdbajonddlaaDoor
