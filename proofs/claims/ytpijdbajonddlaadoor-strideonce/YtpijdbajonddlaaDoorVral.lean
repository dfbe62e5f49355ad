/-
  The document's All of a right stride; linkboynum.SameInts; the example.
-/
import Derived.Test.YtpijdbajonddlaaDoorVall
namespace Go.Proofs.YtpijdbajonddlaaDoor
open Go.RowKit Go.Lib

/-- What the document's All tells. -/
def RAllEnd (M : Nat) (o k : Int) (w : World) (e : Ending) (w' : World) : Prop := ∃ g cap, e = .returned (.slice (some ⟨g, 0, none⟩) M cap) ∧ w.heap.size ≤ g ∧ NumAt w' g M (fun j => plc M o k j) ∧ Below w.heap.size w w'

/-- The first c places, as cells. -/
def rowP (M : Nat) (o k : Int) (c : Nat) : List Value := (List.range c).map fun j : Nat => .int .i64 (plc M o k j)
theorem rowP_length (M : Nat) (o k : Int) (c : Nat) : (rowP M o k c).length = c := by simp [rowP]
theorem rowP_succ (M : Nat) (o k : Int) (c : Nat) : rowP M o k c ++ [.int .i64 (plc M o k c)] = rowP M o k (c + 1) := by simp [rowP, List.range_succ]
theorem rowP_at (M : Nat) (o k : Int) {c j : Nat} (h : j < c) : (rowP M o k c)[j]? = some (.int .i64 (plc M o k j)) := by simp [rowP, h]
theorem row_shape {W : World} {b : Nat} {e : TypeId} {v : Value} {n : Nat} {xs : List Value} (h : W.ownsRow b e 1 v n xs) : ∃ ad cap, v = .slice ad n cap := by
  rcases h.2 with ⟨rfl, rfl⟩ | ⟨g, cap, cur, rfl, _⟩
  · exact ⟨none, 0, rfl⟩
  · exact ⟨_, cap, rfl⟩
theorem row_numAt {W : World} {b : Nat} {v : Value} {M : Nat} {o k : Int} (hM : 1 ≤ M) (h : W.ownsRow b 3 1 v M (rowP M o k M)) : ∃ g cap, v = .slice (some ⟨g, 0, none⟩) M cap ∧ b ≤ g ∧ NumAt W g M (fun j => plc M o k j) := by
  have hh := h
  rcases h.2 with ⟨_, h0⟩ | ⟨g, cap, cur, rfl, hb, hg, _⟩
  · omega
  · exact ⟨g, cap, rfl, hb, (Array.getElem?_eq_some_iff.1 hg).1, fun j hj => by rw [hh.cellAt j (by omega), rowP_at _ _ _ hj]⟩

set_option maxRecDepth 100000 in
set_option maxHeartbeats 4000000 in
theorem rall_yes (M : Nat) (o k : Int) (h : rightS M o k = true) (w : World) : Calls Tryd.prog 19 #[.int .i64 M, .int .i64 o, .int .i64 k] w (RAllEnd M o k w) := by
  obtain ⟨a1, a2, a3, a4, a5, a6⟩ := (rightS_iff M o k).1 h
  have a7 := (isP_range a2).1
  obtain ⟨i0, hi, hz0, hz1, hz2⟩ := info_parts Tryd.infoIntV
  have HZ := hid (plc_zero k a3 a4)
  have HS := hid (fun j : Int => plc_succ (m := M) (o := o) (k := k) j (by omega) a5 a6)
  have HR := hid (fun j : Int => plc_range (m := M) o k j (by omega))
  have HO : Hid ((w.alloc (.cells #[] 3)).ownsRow w.heap.size 3 1 (.slice (some ⟨w.heap.size, 0, none⟩) 0 0) 0 (rowP M o k 0)) := hid ⟨rfl, .inr ⟨w.heap.size, 0, #[], rfl, Nat.le_refl _, heap_alloc_last w _, Nat.le_refl _, Nat.zero_le _, rfl, rfl⟩⟩
  have HB : Hid (Below w.heap.size w (w.alloc (.cells #[] 3))) := hid ((Below.refl _ w).alloc (Nat.le_refl _) _)
  have HZ2 := hid hz2
  clear a2 h hz2
  go_enter Tryd.func19, Tryd.ntmps19
  go_wp2
  go_loopg [7, 8] M (fun g v t wr => ∃ c : Nat, ∃ ad cap, ∃ z : Int, c ≤ M ∧ g = M - c ∧ v = .slice ad c cap ∧ t = .int .i64 z ∧ Hid (z = plc M o k c) ∧ 0 ≤ z ∧ z < M ∧ Hid (wr.ownsRow w.heap.size 3 1 (.slice ad c cap) c (rowP M o k c)) ∧ Hid (Below w.heap.size w wr))
  case atStart => exact ⟨0, _, _, _, by omega, by omega, rfl, rfl, hid (by exact HZ.out.symm), by omega, by omega, HO, HB⟩
  case round =>
    obtain ⟨c, ad, cap, z, hc, rfl, rfl, rfl, HP, hz0', hz1', hown, hnx⟩ := hrel
    by_cases hlt : c < M
    · have HQ := hid (HS.out c)
      rw [← HP.out] at HQ
      have key : ∃ z' : Int, Hid (z' = plc M o k ((c + 1 : Nat) : Int)) ∧ 0 ≤ z' ∧ z' < M ∧ ((M ≤ z + k ∧ z' = z + k - M) ∨ (z + k < M ∧ z' = z + k)) := by
        by_cases hge : (M : Int) ≤ z + k
        · exact ⟨z + k - M, hid (by have := HQ.out; rw [if_pos hge] at this; exact this.symm), by omega, by omega, .inl ⟨hge, rfl⟩⟩
        · exact ⟨z + k, hid (by have := HQ.out; rw [if_neg hge] at this; exact this.symm), by omega, by omega, .inr ⟨by omega, rfl⟩⟩
      clear HQ
      obtain ⟨z', HQ2, hq0, hq1, ⟨hge, hz'⟩ | ⟨hge, hz'⟩⟩ := key
      all_goals
        have HZ' := hid hz'
        clear hz'
        go_wp2_with (at_builtin; refine wpList_append_own _ rfl (.tmp 15) (.tmp 17) 40 rfl w.heap.size 3 i0 (.int .i64 0) 1 8 Tryd.underlying40 hi hz0 hz1 HZ2.out rfl (by decide) _ _ _ rfl (hown.out.alloc _) ⟨wr.heap.size, 0, none⟩ 1 1 [.int .i64 z] rfl rfl (by intro j u hj; match j, hj with | 0, hj => (simp at hj; subst hj; simp [Addr.add])) (by intro u hu; simp at hu; subst hu; rfl) (by unfold maxLen; omega) (by omega) (by have := hnx.out.size; simp; omega) ?_; intro v' w1 hown' hgrow _)
        obtain ⟨ad', cap', rfl⟩ := row_shape hown'
        have Hown : Hid (w1.ownsRow w.heap.size 3 1 (.slice ad' (c + 1) cap') (c + 1) (rowP M o k (c + 1))) := hid (by rw [← rowP_succ, ← HP.out]; exact hown')
        have Hnx := hid ((hnx.out.alloc hnx.out.size (.cells #[.int .i64 z] 3)).grown hgrow (by have := hnx.out.size; simp; omega) (fun j hj => (hown.out.lt j hj).1))
        go_roundg (M - (c + 1))
        case measure => omega
        case rel => exact ⟨c + 1, ad', cap', z', by omega, rfl, rfl, by rw [HZ'.out], HQ2, hq0, hq1, Hown, Hnx⟩
    · obtain rfl : c = M := by omega
      go_wp2
      go_ret
      obtain ⟨g, cap2, e, hb, hn⟩ := row_numAt (by omega) hown.out
      cases e
      exact ⟨g, _, rfl, hb, hn, hnx.out⟩

set_option maxHeartbeats 4000000 in
theorem same_any (M : Nat) (hM : M ≤ 100000) (f : Nat → Int) (g1 g2 c1 c2 : Nat) (w : World) (h1 : NumAt w g1 M f) (h2 : NumAt w g2 M f) :
    Calls Tryd.prog 20 #[.slice (some ⟨g1, 0, none⟩) M c1, .slice (some ⟨g2, 0, none⟩) M c2] w fun e w' => e = .returned (.bool true) ∧ Below w.heap.size w w' := by
  have H1 := hid h1
  have H2 := hid h2
  clear h1 h2
  have hMM : ((M : Int) != (M : Int)) = false := by simp
  go_enter Tryd.func20, Tryd.ntmps20
  go_wp2
  go_loopw [13] (fun i wr => ∃ c : Nat, c ≤ M ∧ i = .int .i64 c ∧ Hid (Below w.heap.size w wr)) (fun i _ => M - (intOf i).toNat)
  case atStart => exact ⟨0, by omega, rfl, hid (Below.refl _ _)⟩
  case round =>
    obtain ⟨c, hc, rfl, hnx⟩ := hrel
    by_cases hlt : c < M
    · have e1 : wr.cell? ⟨g1, c, none⟩ = some (.int .i64 (f c)) := (H1.out.kept hnx.out).2 c hlt
      have e2 : wr.cell? ⟨g2, c, none⟩ = some (.int .i64 (f c)) := (H2.out.kept hnx.out).2 c hlt
      generalize f c = z at e1 e2
      have hzz : (z != z) = false := by simp
      go_wp2
      go_quiet (fail)
      go_wp2
      go_roundw
      case rel => exact ⟨c + 1, by omega, by go_num, hid (bel2 hnx.out (below_drewN _ _))⟩
      case measure => simp [intOf]; omega
    · go_wp2
      go_ret
      exact ⟨rfl, hnx.out⟩
end Go.Proofs.YtpijdbajonddlaaDoor
