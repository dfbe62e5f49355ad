/-
  maglev: the chapter's example.
-/
import Derived.Test.YtgpbmbefdgbblaaDoorLmov
import Derived.Test.YtgpbmbefdgbblaaDoorZpure
namespace Go.Proofs.YtgpbmbefdgbblaaDoor
open Go.RowKit Go.Lib

def exP : PS := ⟨(false, [1, 2, 3, 4, 0, 0, 0, 0, 0, 0, 0, 0, 0, 0, 0, 0], 5), by
  refine ⟨rfl, fun x hx => ?_⟩
  simp only [List.mem_cons, List.not_mem_nil, or_false] at hx
  omega⟩
theorem encP_ex : encP exP = #[.bool false, .int .u8 1, .int .u8 2, .int .u8 3, .int .u8 4, .int .u8 0, .int .u8 0, .int .u8 0, .int .u8 0, .int .u8 0, .int .u8 0, .int .u8 0, .int .u8 0, .int .u8 0, .int .u8 0, .int .u8 0, .int .u8 0, .int .i64 5] := rfl

theorem sorted_one : psorted [exP] = [exP] := by
  have h := sorted_facts [exP]
  refine rising_unique _ _ h.1 (List.pairwise_singleton _ _) fun a => ?_
  exact h.2 a
theorem sized_seven : sizedB 7 = true := by
  unfold sizedB
  rw [Bool.and_eq_true, decide_eq_true_eq]
  exact ⟨by decide, (isP_iff 7).2 ⟨by omega, by omega, prm_seven⟩⟩
theorem fill_ex : fillE [exP] 7 = 0 := by
  unfold fillE
  rw [if_neg (by rw [sized_seven]; decide), if_neg, if_neg, if_neg]
  · rw [sorted_one]; decide
  · rw [sorted_one]; decide
  · unfold anyNo
    rw [List.any_eq_true]
    rintro ⟨x, hx, h⟩
    rw [List.mem_singleton] at hx
    subst hx
    have : isPt exP = true := by decide
    rw [this] at h
    cases h
theorem slots_ex : fillT (ordL 7 [exP]) 1 7 7 = [0, 0, 0, 0, 0, 0, 0] := by
  have hl := fillT_length (ordL 7 [exP]) 1 7 7
  have he := fillT_end (show 0 < 1 by omega) (ordL_onto 7 sized_seven [exP])
  apply List.ext_getElem (by rw [hl]; rfl)
  intro i h1 h2
  have := he _ (List.getElem_mem h1)
  have h3 : i < 7 := by rw [hl] at h1; exact h1
  have e : (fillT (ordL 7 [exP]) 1 7 7)[i] = 0 := by omega
  have q : ∀ i, (h : i < ([0, 0, 0, 0, 0, 0, 0] : List Int).length) → ([0, 0, 0, 0, 0, 0, 0] : List Int)[i] = 0 := by decide
  exact e.trans (q i h2).symm
set_option linter.unusedSimpArgs false in
set_option maxRecDepth 100000 in
set_option maxHeartbeats 4000000 in
theorem sameI_any (xs ys : List Int) (ax ay : Option Addr) (cx cy : Nat) (hx : xs.length ≤ 100000) (w : World) (hX : IntsIn w.heap.size w ax xs) (hY : IntsIn w.heap.size w ay ys) :
    Calls Tryd.prog 11 #[.slice ax xs.length cx, .slice ay ys.length cy] w fun e w' => e = .returned (.bool (decide (xs = ys))) ∧ Below w.heap.size w w' := by
  have HX := hid hX
  have HY := hid hY
  obtain ⟨n, hn⟩ : ∃ n, n = xs.length := ⟨_, rfl⟩
  obtain ⟨k, hk⟩ : ∃ k, k = ys.length := ⟨_, rfl⟩
  rw [← hn] at hx
  rw [← hn, ← hk]
  have Hn := hid hn
  have Hk := hid hk
  by_cases hne : n = k
  · subst hne
    have HN : Hid (∀ j, j < n → xs.getD j 0 ≠ ys.getD j 0 → false = decide (xs = ys)) := hid (fun j _ h => by
      symm
      rw [decide_eq_false_iff_not]
      rintro rfl
      exact h rfl)
    have HA : Hid ((∀ j, j < n → xs.getD j 0 = ys.getD j 0) → true = decide (xs = ys)) := hid (fun h => by
      symm
      rw [decide_eq_true_eq]
      apply List.ext_getElem (by omega)
      intro j h1 h2
      have := h j (by omega)
      simpa [List.getD, h1, h2] using this)
    clear hn hk hX hY
    go_enter Tryd.func11, Tryd.ntmps11
    go_wp2
    go_loopg [13] n (fun g s13 wr => ∃ p : Nat, s13 = .int .i64 (p : Int) ∧ p ≤ n ∧ n - p ≤ g ∧ Hid (Below w.heap.size w wr) ∧ Hid (∀ j, j < p → xs.getD j 0 = ys.getD j 0))
    case atStart => exact ⟨0, rfl, by omega, by omega, hid (Below.refl _ _), hid (fun j h => by omega)⟩
    case round =>
      obtain ⟨p, rfl, hp, hgp, HB, HF⟩ := hrel
      by_cases hlt : p < n
      · obtain ⟨gx, ox, rfl, hgx, hcx⟩ := HX.out p (by have := Hn.out; omega)
        obtain ⟨gy, oy, rfl, hgy, hcy⟩ := HY.out p (by have := Hk.out; omega)
        have d1 : wr.cell? ⟨gx, ox + p, none⟩ = some (.int .i64 (xs.getD p 0)) := (HB.out.cell (p := ⟨gx, ox + p, none⟩) hgx).trans hcx
        have d2 : wr.cell? ⟨gy, oy + p, none⟩ = some (.int .i64 (ys.getD p 0)) := (HB.out.cell (p := ⟨gy, oy + p, none⟩) hgy).trans hcy
        have HNp := hid (HN.out p hlt)
        have HFp : Hid (xs.getD p 0 = ys.getD p 0 → ∀ j, j < p + 1 → xs.getD j 0 = ys.getD j 0) := hid (fun h j hj => by
          by_cases e : j = p
          · rw [e]; exact h
          · exact HF.out j (by omega))
        clear hcx hcy
        generalize xs.getD p 0 = u at *
        generalize ys.getD p 0 = v at *
        have d1' : wr.drew.cell? ⟨gx, ox + p, none⟩ = some (.int .i64 u) := d1
        have d2' : wr.drew.cell? ⟨gy, oy + p, none⟩ = some (.int .i64 v) := d2
        have HB2 := hid HB.out.drew
        by_cases huv : u = v
        · have q : (u != v) = false := by rw [huv]; simp
          have HF2 := hid (HFp.out huv)
          clear huv
          go_wp2
          go_quiet (fail)
          go_wp2
          go_roundg (n - (p + 1))
          case measure => omega
          case rel => exact ⟨p + 1, by go_num, by omega, Nat.le_refl _, by first | exact HB | exact HB2 | exact hid (HB.out.trans ((below_drewN _ _).mono HB.out.size)), HF2⟩
        · have q : (u != v) = true := by rw [bne_iff_ne]; exact huv
          have HR := hid (HNp.out huv)
          clear huv
          go_wp2
          go_quiet (fail)
          go_wp2
          go_ret
          exact ⟨ret_b rfl HR.out, by first | exact HB.out | exact HB2.out | exact HB.out.trans ((below_drewN _ _).mono HB.out.size)⟩
      · obtain rfl : p = n := by omega
        have HR := hid (HA.out HF.out)
        go_wp2
        go_ret
        exact ⟨ret_b rfl HR.out, HB.out⟩
  · have HR : Hid (false = decide (xs = ys)) := hid (by
      symm
      rw [decide_eq_false_iff_not]
      rintro rfl
      exact hne (hn.trans hk.symm))
    have q : ((n : Int) != (k : Int)) = true := by rw [bne_iff_ne]; omega
    clear hn hk hX hY
    go_enter Tryd.func11, Tryd.ntmps11
    go_wp2
    go_ret
    exact ⟨ret_b rfl HR.out, Below.refl _ _⟩

set_option linter.unusedSimpArgs false in
set_option maxRecDepth 100000 in
set_option maxHeartbeats 4000000 in
theorem malive_any (E : Nat → TypeId × Value) (w : World) (hE : MEnv E w) : Calls Tryd.prog 5 #[] w fun e w' => e = .returned (.bool true) ∧ Below w.heap.size w w' := by
  obtain ⟨W0, hW0⟩ : ∃ W, W = w.alloc (.cells (encP exP) 36) := ⟨_, rfl⟩
  have b0 : Below w.heap.size w W0 := hW0 ▸ (Below.refl _ _).alloc (Nat.le_refl _) _
  have hel : Elems encP 18 W0.heap.size W0 (some ⟨w.heap.size, 0, none⟩) [exP] := by
    have s0 : W0.heap.size = w.heap.size + 1 := by rw [hW0]; simp
    rw [s0, hW0]
    exact elems_one w exP 36
  have HF : Hid (Calls Tryd.prog 6 #[.slice (some ⟨w.heap.size, 0, none⟩) 1 1, .int .i64 7] W0 (FillEnd E [exP] 7 W0)) := hid (fill_any E (some ⟨w.heap.size, 0, none⟩) 1 [exP] (Nat.le_refl _) (by decide) 7 W0 (hE.kept b0) hel)
  have HW0 := hid hW0.symm
  have Hb0 := hid b0
  have HS := hid (fun (xs ys : List Int) ax ay cx cy h W h1 h2 => sameI_any xs ys ax ay cx cy h W h1 h2)
  clear hW0 b0 hel hE
  go_enter Tryd.func5, Tryd.ntmps5
  go_wp2_with ((show wpList _ _ _ (⟨some 7, _, _, _, _, _⟩ :: _) _ _); go_must (refine wpl_run _ _ (exec_lit1 (.tmp 6) rfl (encP exP) rfl (encP_size exP)) rfl ?_; rw [HW0.out]))
  refine HF.out.mono ?_
  rintro e w1 ⟨hb, ⟨h0, _⟩ | ⟨_, M, ab, cap, S, hM, rfl, h1, h2, h3⟩⟩
  · exact absurd fill_ex h0
  · obtain rfl : M = 7 := by omega
    rw [sorted_one] at h3 ⊢
    have h3' : SlotB w1 S [0, 0, 0, 0, 0, 0, 0] := by
      have := h3
      rw [show ([exP] : List PS).length = 1 from rfl, slots_ex] at this
      exact this
    obtain ⟨W2, hW2⟩ : ∃ W, W = w1.alloc (.cells #[.int .i64 7, .slice ab 1 cap, .slice (some ⟨S, 0, none⟩) 7 7] 26) := ⟨_, rfl⟩
    obtain ⟨W3, hW3⟩ : ∃ W, W = W2.alloc (.cells #[.int .i64 0, .int .i64 0, .int .i64 0, .int .i64 0, .int .i64 0, .int .i64 0, .int .i64 0] 3) := ⟨_, rfl⟩
    have HW2 := hid hW2.symm
    have HW3 := hid hW3.symm
    have b2 : Below w1.heap.size w1 W2 := hW2 ▸ (Below.refl _ _).alloc (Nat.le_refl _) _
    have b3 : Below W2.heap.size W2 W3 := hW3 ▸ (Below.refl _ _).alloc (Nat.le_refl _) _
    have k2 : Blk W2 w1.heap.size 26 #[.int .i64 7, .slice ab 1 cap, .slice (some ⟨S, 0, none⟩) 7 7] := hW2 ▸ Blk.new w1 _ _
    have c2 : W2.cell? ⟨w1.heap.size, 2, none⟩ = some (.slice (some ⟨S, 0, none⟩) 7 7) := k2.cell 2
    have HK3 := hid (k2.kept b3)
    have s2 : W2.heap.size = w1.heap.size + 1 := by rw [hW2]; simp
    have HI1 := hid (SlotB.ints (Blk.kept (Blk.kept h3' b2) b3 : SlotB W3 S [0, 0, 0, 0, 0, 0, 0]))
    have HI2 : Hid (IntsIn W3.heap.size W3 (some ⟨W2.heap.size, 0, none⟩) [0, 0, 0, 0, 0, 0, 0]) := hid (SlotB.ints (hW3 ▸ Blk.new W2 _ _ : Blk W3 W2.heap.size 3 (([0, 0, 0, 0, 0, 0, 0] : List Int).map (Value.int .i64)).toArray))
    have HC : Hid (Calls Tryd.prog 11 #[.slice (some ⟨S, 0, none⟩) 7 7, .slice (some ⟨w1.heap.size + 1, 0, none⟩) 7 7] W3 fun e w' => e = .returned (.bool true) ∧ Below W3.heap.size W3 w') := hid (by rw [← s2]; exact HS.out [0, 0, 0, 0, 0, 0, 0] [0, 0, 0, 0, 0, 0, 0] (some ⟨S, 0, none⟩) (some ⟨W2.heap.size, 0, none⟩) 7 7 (by decide) W3 HI1.out HI2.out)
    have HB3 := hid (bel2 (bel2 (bel2 Hb0.out hb) b2) b3)
    clear hb h1 h2 h3 h3' hM hW2 hW3 b2 b3 k2 HS HF HW0 s2 c2
    have d1 : W3.cell? ⟨w1.heap.size, 1, none⟩ = some (.slice ab 1 cap) := HK3.out.cell 1
    go_wp2_with fail
    rw [HW2.out]
    rw [HW3.out]
    refine HC.out.mono ?_
    rintro e w4 ⟨rfl, hb⟩
    have Hb4 := hid (bel2 HB3.out hb)
    have d2 : w4.cell? ⟨w1.heap.size, 1, none⟩ = some (.slice ab 1 cap) := (HK3.out.kept hb).cell 1
    clear hb
    go_wp2
    go_ret
    exact ⟨rfl, Hb4.out⟩
end Go.Proofs.YtgpbmbefdgbblaaDoor
