/-
  The document's All of a right stride; linkboynum.SameInts; the example.
-/
import Derived.Test.YtgpbmbefdgbblaaDoorVall
namespace Go.Proofs.YtgpbmbefdgbblaaDoor
open Go.RowKit Go.Lib

/-- What the document's All tells. -/
def RAllEnd (M : Nat) (o k : Int) (w : World) (e : Ending) (w' : World) : Prop := ∃ g cap, e = .returned (.slice (some ⟨g, 0, none⟩) M cap) ∧ w.heap.size ≤ g ∧ NumAt w' g M (fun j => plc M o k j) ∧ Below w.heap.size w w'

/-- The first c places, as cells. -/
def rowP (M : Nat) (o k : Int) (c : Nat) : List Value := (List.range c).map fun j : Nat => .int .i64 (plc M o k j)
theorem rowP_length (M : Nat) (o k : Int) (c : Nat) : (rowP M o k c).length = c := by simp [rowP]
theorem rowP_succ (M : Nat) (o k : Int) (c : Nat) : rowP M o k c ++ [.int .i64 (plc M o k c)] = rowP M o k (c + 1) := by simp [rowP, List.range_succ]
theorem rowP_at (M : Nat) (o k : Int) {c j : Nat} (h : j < c) : (rowP M o k c)[j]? = some (.int .i64 (plc M o k j)) := by simp [rowP, h]
theorem row_shape {W : World} {b : Nat} {e : TypeId} {v : Value} {n : Nat} {xs : List Value} (h : W.ownsRow b e 1 v n xs) : ∃ ad cap, v = .slice ad n cap := by
  rcases h.2 with ⟨rfl, rfl⟩ | ⟨g, cap, cur, rfl, _⟩
  · exact ⟨none, 0, rfl⟩
  · exact ⟨_, cap, rfl⟩
theorem row_numAt {W : World} {b : Nat} {v : Value} {M : Nat} {o k : Int} (hM : 1 ≤ M) (h : W.ownsRow b 3 1 v M (rowP M o k M)) : ∃ g cap, v = .slice (some ⟨g, 0, none⟩) M cap ∧ b ≤ g ∧ NumAt W g M (fun j => plc M o k j) := by
  have hh := h
  rcases h.2 with ⟨_, h0⟩ | ⟨g, cap, cur, rfl, hb, hg, _⟩
  · omega
  · exact ⟨g, cap, rfl, hb, (Array.getElem?_eq_some_iff.1 hg).1, fun j hj => by rw [hh.cellAt j (by omega), rowP_at _ _ _ hj]⟩


set_option maxHeartbeats 4000000 in
theorem same_any (M : Nat) (hM : M ≤ 100000) (f : Nat → Int) (g1 g2 c1 c2 : Nat) (w : World) (h1 : NumAt w g1 M f) (h2 : NumAt w g2 M f) :
    Calls Tryd.prog 11 #[.slice (some ⟨g1, 0, none⟩) M c1, .slice (some ⟨g2, 0, none⟩) M c2] w fun e w' => e = .returned (.bool true) ∧ Below w.heap.size w w' := by
  have H1 := hid h1
  have H2 := hid h2
  clear h1 h2
  have hMM : ((M : Int) != (M : Int)) = false := by simp
  go_enter Tryd.func11, Tryd.ntmps11
  go_wp2
  go_loopw [13] (fun i wr => ∃ c : Nat, c ≤ M ∧ i = .int .i64 c ∧ Hid (Below w.heap.size w wr)) (fun i _ => M - (intOf i).toNat)
  case atStart => exact ⟨0, by omega, rfl, hid (Below.refl _ _)⟩
  case round =>
    obtain ⟨c, hc, rfl, hnx⟩ := hrel
    by_cases hlt : c < M
    · have e1 : wr.cell? ⟨g1, c, none⟩ = some (.int .i64 (f c)) := (H1.out.kept hnx.out).2 c hlt
      have e2 : wr.cell? ⟨g2, c, none⟩ = some (.int .i64 (f c)) := (H2.out.kept hnx.out).2 c hlt
      generalize f c = z at e1 e2
      have hzz : (z != z) = false := by simp
      go_wp2
      go_quiet (fail)
      go_wp2
      go_roundw
      case rel => exact ⟨c + 1, by omega, by go_num, hid (bel2 hnx.out (below_drewN _ _))⟩
      case measure => simp [intOf]; omega
    · go_wp2
      go_ret
      exact ⟨rfl, hnx.out⟩
end Go.Proofs.YtgpbmbefdgbblaaDoor
