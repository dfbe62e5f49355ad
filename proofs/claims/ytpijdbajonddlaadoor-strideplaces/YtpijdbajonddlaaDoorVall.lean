/-
  stride: All of a right stride, the cursor; the document's All; linkboynum.SameInts; the example.
-/
import Derived.Test.YtpijdbajonddlaaDoorVmet
import Derived.Deep.LoopGhost
namespace Go.Proofs.YtpijdbajonddlaaDoor
open Go.RowKit Go.Lib

theorem Tryd.infoIntV : (Tryd.prog.info? 3).map (fun i => (i.zero, i.size, i.bytes)) = some (some (.int .i64 0), 1, 8) := by kernel_rfl

/-- What All tells of a right stride. -/
def AllEnd (M : Nat) (o k : Int) (w : World) (e : Ending) (w' : World) : Prop := ∃ g, e = .returned (.slice (some ⟨g, 0, none⟩) M M) ∧ w.heap.size ≤ g ∧ NumAt w' g M (fun j => plc M o k j) ∧ Below w.heap.size w w'

theorem row_set {w : World} {g M c : Nat} {o k : Int} {t : TypeId} (h : w.rowIs g t M (fun j => .int .i64 (if j < c then plc M o k j else 0))) : (w.setCell ⟨g, c, none⟩ (.int .i64 (plc M o k c))).rowIs g t M (fun j => .int .i64 (if j < c + 1 then plc M o k j else 0)) :=
  (h.set c _).congr fun j _ => by
    by_cases h1 : j = c
    · subst h1; simp
    · by_cases h2 : j < c
      · simp [h1, h2, Nat.lt_succ_of_lt h2]
      · simp [h1, h2, show ¬ j < c + 1 by omega]

set_option maxHeartbeats 4000000 in
theorem all_yes (M : Nat) (o k : Int) (h : rightS M o k = true) (w : World) : Calls Tryd.prog 16 #[.agg #[.int .i64 M, .int .i64 o, .int .i64 k]] w (AllEnd M o k w) := by
  have HR := hid (fun W => h ▸ right_any M o k W)
  have HO := hid (fun W => order_yes M o k h W)
  have HP := hid (fun j b W hB => placeyes_any M o k j h b W hB)
  have HN := hid (Blk.new w 25 #[.int .i64 M, .int .i64 o, .int .i64 k])
  have HB : Hid (Below w.heap.size w (w.alloc (.cells #[.int .i64 M, .int .i64 o, .int .i64 k] 25))) := hid ((Below.refl _ w).alloc (Nat.le_refl _) _)
  obtain ⟨a1, a2, a3, a4, a5, a6⟩ := (rightS_iff M o k).1 h
  have a7 := (isP_range a2).1
  have hmk := run_make_row' (P := Tryd.prog) 40 3 (.int .i64 0) 8 Tryd.underlying40 Tryd.infoIntV rfl .i64 .i64 M (by omega) (by omega)
  clear a2 h
  go_enter Tryd.func16, Tryd.ntmps16
  go_wp2_with fail
  refine (HR.out _).mono ?_
  rintro e w1 ⟨rfl, hb⟩
  have Hb1 := hid (bel2 HB.out hb)
  have HN1 := hid (HN.out.kept hb)
  have c0 : w1.cell? ⟨w.heap.size, 0, none⟩ = some (.int .i64 M) := (HN.out.kept hb).cell 0
  have c1 : w1.cell? ⟨w.heap.size, 1, none⟩ = some (.int .i64 o) := (HN.out.kept hb).cell 1
  have c2 : w1.cell? ⟨w.heap.size, 2, none⟩ = some (.int .i64 k) := (HN.out.kept hb).cell 2
  clear hb
  go_wp2_with fail
  refine (HO.out _).mono ?_
  rintro e w2 ⟨rfl, hB, hb⟩
  have Hb2 := hid (bel2 Hb1.out hb)
  have HN2 := hid (HN1.out.kept hb)
  have HC2 := hid hB
  have HL2 : Hid (w1.heap.size < w2.heap.size) := hid hB.lt
  have HL3 : Hid (w.heap.size ≤ w2.heap.size) := hid Hb2.out.size
  have d0 : w2.cell? ⟨w.heap.size, 0, none⟩ = some (.int .i64 M) := (HN1.out.kept hb).cell 0
  have d1 : (w2.alloc (.cells (madeCells #[.int .i64 0] M) 3)).cell? ⟨w.heap.size, 0, none⟩ = some (.int .i64 M) := (HN2.out.alloc _).cell 0
  clear hb hB c0 c1 c2
  go_wp2
  have HRow : Hid ((w2.alloc (.cells (madeCells #[.int .i64 0] M) 3)).rowIs w2.heap.size 3 M (fun j => .int .i64 (if j < 0 then plc M o k j else 0))) := hid ((World.rowIs_made w2 (.int .i64 0) M 3).congr fun j _ => by simp)
  have HBel : Hid (Below w2.heap.size w2 (w2.alloc (.cells (madeCells #[.int .i64 0] M) 3))) := hid ((Below.refl _ w2).alloc (Nat.le_refl _) _)
  have HSz : Hid (w2.heap.size < (w2.alloc (.cells (madeCells #[.int .i64 0] M) 3)).heap.size) := hid (by simp)
  clear hmk d0 d1
  go_loopg [16] M (fun g i wr => ∃ c : Nat, c ≤ M ∧ g = M - c ∧ i = .int .i64 c ∧ Hid (wr.rowIs w2.heap.size 3 M (fun j => .int .i64 (if j < c then plc M o k j else 0))) ∧ Hid (Below w2.heap.size w2 wr))
  case atStart => exact ⟨0, by omega, by omega, rfl, HRow, HBel⟩
  case round =>
    obtain ⟨c, hc, rfl, rfl, hrow, hnx⟩ := hrel
    by_cases hlt : c < M
    · go_wp2_with fail
      refine (HP.out c _ _ (HC2.out.below hnx.out HL2.out)).mono ?_
      rintro e w4 ⟨rfl, hb⟩
      have hr4 : w4.rowIs w2.heap.size 3 M (fun j => .int .i64 (if j < c then plc M o k j else 0)) := hrow.out.of_block (hb.block _ hrow.out.lt)
      have f1 := hr4.cell hlt
      have f2 := hr4.frozen c
      have Hrow := hid (row_set hr4)
      have Hnx := hid (((hnx.out.trans (hb.mono hnx.out.size))).setCell (p := ⟨w2.heap.size, c, none⟩) (Nat.le_refl _) (.int .i64 (plc M o k c)))
      simp only [Nat.lt_irrefl, if_false] at f1
      clear hr4 hb hrow hnx
      generalize plc M o k c = z at *
      go_wp2
      go_roundg (M - (c + 1))
      case measure => omega
      case rel => exact ⟨c + 1, by omega, rfl, by go_num, Hrow, Hnx⟩
    · obtain rfl : c = M := by omega
      go_wp2
      go_ret
      exact ⟨w2.heap.size, rfl, HL3.out, ⟨hrow.out.lt, fun j hj => by rw [hrow.out.cell hj, if_pos hj]⟩, Hb2.out.trans (hnx.out.mono HL3.out)⟩
end Go.Proofs.YtpijdbajonddlaaDoor
