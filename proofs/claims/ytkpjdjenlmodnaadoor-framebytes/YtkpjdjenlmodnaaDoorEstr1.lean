/-
  New, and how many bytes the head tells.
-/
import Derived.Test.YtkpjdjenlmodnaaDoorEstr0
namespace Go.Proofs.YtkpjdjenlmodnaaDoor
open Go.RowKit Go.Lib
theorem Tryd.zeroStream : Tryd.zeroCells55 = Array.replicate 1202 (.int .u8 0) ++ #[.int .i64 0, .int .i64 0, .bool false] := by kernel_rfl
theorem str_new (w : World) : Str (w.alloc (.cells Tryd.zeroCells55 55)) w.heap.size [] 0 false := by
  refine ⟨⟨_, Blk.new w _ _, ?_, fun j hj => ?_, ?_, ?_, ?_⟩, by simp, fun j => by simp⟩
  all_goals first | (simp at hj; done) | (rw [Tryd.zeroStream]; simp)
set_option maxHeartbeats 1000000 in
theorem new_any (w : World) : Calls Tryd.prog 14 #[] w fun e w' => e = .returned (.pointer (some ⟨w.heap.size, 0, none⟩)) ∧ Str w' w.heap.size [] 0 false ∧ Below w.heap.size w w' := by
  have HS := hid (str_new w)
  go_enter Tryd.func14, Tryd.ntmps14
  go_wp2
  go_ret
  exact ⟨rfl, HS.out, (Below.refl _ _).alloc (Nat.le_refl _) _⟩

section
variable {w w' : World} {c : Nat} {p : List Int} {n : Nat} {b : Bool}
theorem acc_hd (p : List Int) : ((accN (p.take 2) 0 2 : Nat) : Int) = hdN p := by
  have e : ∀ j, j < 2 → (p.take 2).getD j 0 = p.getD j 0 := fun j hj => by simp [List.getD, hj]
  simp only [accN, hdN, Nat.zero_add, Nat.add_zero, Nat.zero_mul]
  rw [e 0 (by omega), e 1 (by omega)]

set_option linter.unusedSimpArgs false in
set_option maxHeartbeats 1000000 in
theorem size_any (h : Str w c p n b) (h2 : 2 ≤ p.length) : Calls Tryd.prog 23 #[.pointer (some ⟨c, 0, none⟩)] w fun e w' => e = .returned (.int .i64 (hdN p)) ∧ Below w.heap.size w w' := by
  have hl : (p.take 2).length = 2 := by rw [List.length_take]; omega
  have HA : Hid (∀ cap, Calls Tryd.prog 29 #[.slice (some ⟨c, 0, none⟩) 2 cap] w fun e w' => ∃ c' ad' cap', e = .returned (.pointer (some ⟨c', 0, none⟩)) ∧ Cur w' 78 c' ad' cap' (p.take 2) 0 .nilIface ∧ w.heap.size ≤ c' ∧ (∀ g o, ad' = some ⟨g, o, none⟩ → 0 < (p.take 2).length → w.heap.size ≤ g) ∧ Below w.heap.size w w') := hid fun cap => by
    have := at_any w w.heap.size (some ⟨c, 0, none⟩) cap (p.take 2) (fun j hj => ⟨c, 0, rfl, Nat.ne_of_lt h.lt, by
      rw [Nat.zero_add, h.cellP j (by omega)]
      simp [List.getD, List.getElem?_take, show j < 2 by omega]⟩) (fun e => by cases e) (by omega) (fun j => by
        by_cases hj : j < 2
        · have := h.byte j
          simp only [List.getD, List.getElem?_take, if_pos hj] at *
          exact this
        · simp [List.getD, List.getElem?_take, hj])
    rw [hl] at this ⊢
    exact this
  have HE := hid (acc_hd p)
  have HL := hid hl
  clear h h2 hl
  go_enter Tryd.func23, Tryd.ntmps23
  go_wp2_with fail
  refine (HA.out _).mono ?_
  rintro e w1 ⟨c', ad', cap', rfl, hC, hc', -, hb⟩
  have HN := hid (num_ok hC 2 (by decide) (by decide) (by rw [HL.out]; decide))
  have Hb := hid hb
  have Hc := hid hc'
  clear hC hb hc' HA
  go_wp2_with fail
  refine HN.out.mono ?_
  rintro e w2 ⟨rfl, hC, hK⟩
  have Hb2 : Hid (Below w.heap.size w w2) := hid (Hb.out.trans (hK.low.mono Hc.out))
  clear hC hK HN
  rw [HE.out]
  go_wp2
  go_ret
  exact ⟨rfl, Hb2.out⟩
end
end Go.Proofs.YtkpjdjenlmodnaaDoor
