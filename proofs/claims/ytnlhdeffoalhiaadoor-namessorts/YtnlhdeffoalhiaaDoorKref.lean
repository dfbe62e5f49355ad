/-
  The document's Sort of keys.
-/
import Derived.Test.YtnlhdeffoalhiaaDoorKapp
import Derived.Test.YtnlhdeffoalhiaaDoorKcpt
namespace Go.Proofs.YtnlhdeffoalhiaaDoor
open Go.RowKit Go.Shelf Go.Lib Go.Sort

set_option maxRecDepth 100000 in
set_option maxHeartbeats 8000000 in
theorem rsort_some (cap0 g0 o0 : Nat) (xs : List KT) (hcap : xs.length ≤ cap0) (hm : xs.length ≤ 1000) (w : World) (hg0 : g0 < w.heap.size) (hI : ∀ j (hj : j < xs.length), w.rangeAt g0 (o0 + j * 2) (encKL xs[j])) :
    Calls Tryd.prog 7 #[.slice (some ⟨g0, o0, none⟩) xs.length cap0] w fun e w' => ∃ v rs, e = .returned v ∧ w'.ownsRow w.heap.size 25 2 v rs.length (flat encK rs) ∧ Below w.heap.size w w' ∧ Rising rs ∧ ∀ a, a ∈ rs ↔ a ∈ xs := by
  obtain ⟨n, hn⟩ : ∃ n, n = xs.length := ⟨_, rfl⟩
  rw [← hn] at hcap hm ⊢
  have Hn := hid hn
  have HI := hid hI
  clear hn hI
  obtain ⟨W0, hW0⟩ : ∃ W, W = w.alloc (.cells #[] 25) := ⟨_, rfl⟩
  have HW0 := hid hW0.symm
  have HB0 : Hid (Below w.heap.size w W0) := hid (hW0 ▸ (Below.refl _ _).alloc (Nat.le_refl _) _)
  have HO0 : Hid (W0.ownsRow w.heap.size 25 2 (.slice (some ⟨w.heap.size, 0, none⟩) 0 0) 0 (flat encK [])) := hid (by
    refine ⟨rfl, .inr ⟨w.heap.size, 0, #[], rfl, Nat.le_refl _, ?_, Nat.le_refl _, Nat.zero_le _, rfl, rfl⟩⟩
    rw [hW0]
    exact Blk.new w _ _)
  clear hW0
  go_enter Tryd.func7, Tryd.ntmps7
  go_wp2
  rw [HW0.out]
  go_loopg [3, 10] n (fun g s3 s10 wr => ∃ (p len : Nat) (rs : List KT) (go cap : Nat), s10 = .int .i64 (p : Int) ∧ p ≤ n ∧ n - p ≤ g ∧ len ≤ p ∧ s3 = .slice (some ⟨go, 0, none⟩) len cap ∧ Hid (len = rs.length ∧ wr.ownsRow w.heap.size 25 2 (.slice (some ⟨go, 0, none⟩) len cap) len (flat encK rs)) ∧ Hid (Below w.heap.size w wr) ∧ Hid (Rising rs ∧ ∀ a, a ∈ rs ↔ a ∈ xs.take p))
  case atStart => exact ⟨0, 0, [], w.heap.size, 0, rfl, by omega, by omega, by omega, rfl, hid ⟨rfl, HO0.out⟩, HB0, hid ⟨List.Pairwise.nil, fun a => by simp⟩⟩
  case round =>
    obtain ⟨p, len, rs, go, cap, rfl, hp, hgp, hlp, rfl, HR, HB, HF⟩ := hrel
    by_cases hlt : p < n
    · have hpx : p < xs.length := by have := Hn.out; omega
      obtain ⟨x, hx⟩ : ∃ x, x = xs[p] := ⟨_, rfl⟩
      have HX : Hid (wr.rangeAt g0 (o0 + p * 2) (encKL x)) := hid (hx ▸ rangeAt_below HB.out hg0 (HI.out p hpx))
      have HT : Hid (xs.take (p + 1) = xs.take p ++ [x]) := hid (hx ▸ take_snoc' hpx)
      obtain ⟨V, hV⟩ : ∃ V, V = wr.alloc (.cells #[.string x.1, .string x.2] 25) := ⟨_, rfl⟩
      have HV := hid hV.symm
      have HBV : Hid (Below w.heap.size w V) := hid (hV ▸ HB.out.alloc HB.out.size _)
      have HKV : Hid (Blk V wr.heap.size 25 #[.string x.1, .string x.2]) := hid (hV ▸ Blk.new wr _ _)
      have HbV : Hid (Below wr.heap.size wr V) := hid (hV ▸ (Below.refl _ _).alloc (Nat.le_refl _) _)
      have HsV : Hid (V.heap.size = wr.heap.size + 1) := hid (by rw [hV]; exact World.size_alloc _ _)
      have hcl : len ≤ cap := by
        obtain ⟨_, ⟨h, _⟩ | ⟨g', cap', cur', h, _, _, h4, _⟩⟩ := HR.out.2
        · cases h
        · cases h; exact h4
      have HE : Hid (go < V.heap.size ∧ ∀ j, j < rs.length → V.rangeAt go (j * 2) (encKL rs[j]!)) := hid (by
        obtain ⟨_, ad', cap', h1, _, _, _, h5⟩ := own_elems HR.out.2
        obtain ⟨_, ⟨h, _⟩ | ⟨g', cp', cur', h, _, hh, _⟩⟩ := HR.out.2
        · cases h
        · cases h
          have hlt' := (Array.getElem?_eq_some_iff.1 hh).1
          refine ⟨by rw [HsV.out]; exact Nat.lt_succ_of_lt hlt', fun j hj => ?_⟩
          obtain ⟨g1, o1, e1, hg1, hr1⟩ := h5 j hj
          cases h1
          cases e1
          rw [Nat.zero_add] at hr1
          rw [getElem!_pos rs j hj]
          exact rangeAt_below HbV.out hlt' hr1)
      obtain ⟨g5, hg5⟩ : ∃ g5, g5 = wr.heap.size := ⟨_, rfl⟩
      have Hg5 := hid hg5.symm
      clear hx hV hg5
      go_wp2_with (first
        | ((show wpList _ _ _ (⟨some 13, _, _, _, _, _⟩ :: _) _ _); go_must (refine wpList_load_mid rfl 25 (.tmp 12) rfl g0 (o0 + p * 2) rfl (encKL x) _ HX.out Tryd.underlying25 rfl Tryd.info3s ?_))
        | ((show wpList _ _ _ (⟨none, _, _, _, _, _⟩ :: _) _ _); go_must (refine wpl_store 25 (.tmp 5) (.tmp 13) rfl wr.heap.size #[.string x.1, .string x.2] rfl rfl 25 _ (Blk.new wr _ _) 2 Tryd.infoKey rfl rfl (encK_one x) rfl ?_; rw [setRow_new, HV.out])))
      have H5 : Hid (V.rangeAt g5 0 (encKL x)) := hid (by
        have := (elems_one wr x 25) 0 (by simp)
        obtain ⟨g1, o1, e1, _, hr1⟩ := this
        cases e1
        rw [← Hg5.out, ← HV.out]
        exact hr1)
      have HRV : Hid (len = rs.length ∧ V.ownsRow w.heap.size 25 2 (.slice (some ⟨go, 0, none⟩) len cap) len (flat encK rs)) := hid ⟨HR.out.1, by rw [← HV.out]; exact HR.out.2.alloc _⟩
      have H5s : Hid (g5 < V.heap.size) := hid (by rw [← Hg5.out, HsV.out]; exact Nat.lt_succ_self _)
      rw [Hg5.out]
      clear HX
      go_loopg [6] len (fun g s6 wr => ∃ m2 : Nat, m2 ≤ len ∧ m2 ≤ g ∧ s6 = .int .i64 (m2 : Int) ∧ Hid (Below V.heap.size V wr) ∧ Hid (∀ j, m2 ≤ j → j < len → klt x rs[j]!))
      case atStart => exact ⟨len, Nat.le_refl _, Nat.le_refl _, rfl, hid (Below.refl _ _), hid (fun j h1 h2 => by omega)⟩
      case round =>
        obtain ⟨m2, hm2, hgm, rfl, HB2, HG⟩ := hrel
        by_cases h0 : m2 = 0
        · have H0 := hid h0
          have HB3 : Hid (Below V.heap.size V wr.drew.drew.drew) := hid HB2.out.drew.drew.drew
          have HINS := hid (ins_rising rs x m2 (by omega) HF.out.1 (fun q hq => by omega) (fun j h1 h2 => HG.out j h1 (by have := HR.out.1; omega)))
          clear h0
          go_wp2_with fail
          refine wp_region_held_drew (S := fun V => Below wr.heap.size wr.drew V) (by kernel_rfl) (Below.refl _ _) (fun hS => ?_)
          change wpAnyH _ _ _ _ _ 12 #[false, false, false, false, false, false, false, false, false, false, false, false] _ _
          refine wpAnyH_take (i := 0) (v := .int .i64 (m2 : Int)) rfl (by kernel_rfl) (by kernel_rfl) (by kernel_rfl) (fun _ _ _ h => h) (.inl ⟨by kernel_rfl, fun w' _ => by unfold execOp; go_simp⟩) hS ?_
          simp only [List.getElem_toArray, List.getElem_cons_zero, Act.put, List.setIfInBounds_toArray, List.set_cons_zero, List.set_cons_succ]
          refine wpAnyH_take (i := 1) (v := .bool false) rfl (by kernel_rfl) (by kernel_rfl) (by kernel_rfl) (fun _ _ _ h => h) (.inl ⟨by kernel_rfl, fun w' _ => by unfold execOp; go_simp; first | exact H0.out | (have := H0.out; omega)⟩) hS ?_
          simp only [List.getElem_toArray, List.getElem_cons_zero, List.getElem_cons_succ, Act.put, List.setIfInBounds_toArray, List.set_cons_zero, List.set_cons_succ]
          refine wpAnyH_take (i := 2) (v := .bool false) rfl (by kernel_rfl) (by kernel_rfl) (by kernel_rfl) (fun _ _ _ h => h) (.inl ⟨by kernel_rfl, fun w' _ => by unfold execOp; go_simp⟩) hS ?_
          simp only [List.getElem_toArray, List.getElem_cons_zero, List.getElem_cons_succ, Act.put, List.setIfInBounds_toArray, List.set_cons_zero, List.set_cons_succ]
          refine wpAnyH_take (i := 3) (v := undef) rfl (by kernel_rfl) (by kernel_rfl) (by kernel_rfl) (fun _ _ _ h => h) (.inr ⟨by kernel_rfl, rfl⟩) hS ?_
          simp only [List.getElem_toArray, List.getElem_cons_zero, List.getElem_cons_succ, Act.put, List.setIfInBounds_toArray, List.set_cons_zero, List.set_cons_succ]
          refine wpAnyH_take (i := 4) (v := undef) rfl (by kernel_rfl) (by kernel_rfl) (by kernel_rfl) (fun _ _ _ h => h) (.inr ⟨by kernel_rfl, rfl⟩) hS ?_
          simp only [List.getElem_toArray, List.getElem_cons_zero, List.getElem_cons_succ, Act.put, List.setIfInBounds_toArray, List.set_cons_zero, List.set_cons_succ]
          refine wpAnyH_take (i := 5) (v := undef) rfl (by kernel_rfl) (by kernel_rfl) (by kernel_rfl) (fun _ _ _ h => h) (.inr ⟨by kernel_rfl, rfl⟩) hS ?_
          simp only [List.getElem_toArray, List.getElem_cons_zero, List.getElem_cons_succ, Act.put, List.setIfInBounds_toArray, List.set_cons_zero, List.set_cons_succ]
          refine wpAnyH_take (i := 6) (v := undef) rfl (by kernel_rfl) (by kernel_rfl) (by kernel_rfl) (fun _ _ _ h => h) (.inr ⟨by kernel_rfl, rfl⟩) hS ?_
          simp only [List.getElem_toArray, List.getElem_cons_zero, List.getElem_cons_succ, Act.put, List.setIfInBounds_toArray, List.set_cons_zero, List.set_cons_succ]
          refine wpAnyH_take (i := 7) (v := undef) rfl (by kernel_rfl) (by kernel_rfl) (by kernel_rfl) (fun _ _ _ h => h) (.inr ⟨by kernel_rfl, rfl⟩) hS ?_
          simp only [List.getElem_toArray, List.getElem_cons_zero, List.getElem_cons_succ, Act.put, List.setIfInBounds_toArray, List.set_cons_zero, List.set_cons_succ]
          refine wpAnyH_take (i := 8) (v := undef) rfl (by kernel_rfl) (by kernel_rfl) (by kernel_rfl) (fun _ _ _ h => h) (.inr ⟨by kernel_rfl, rfl⟩) hS ?_
          simp only [List.getElem_toArray, List.getElem_cons_zero, List.getElem_cons_succ, Act.put, List.setIfInBounds_toArray, List.set_cons_zero, List.set_cons_succ]
          refine wpAnyH_take (i := 9) (v := undef) rfl (by kernel_rfl) (by kernel_rfl) (by kernel_rfl) (fun _ _ _ h => h) (.inr ⟨by kernel_rfl, rfl⟩) hS ?_
          simp only [List.getElem_toArray, List.getElem_cons_zero, List.getElem_cons_succ, Act.put, List.setIfInBounds_toArray, List.set_cons_zero, List.set_cons_succ]
          refine wpAnyH_take (i := 10) (v := undef) rfl (by kernel_rfl) (by kernel_rfl) (by kernel_rfl) (fun _ _ _ h => h) (.inr ⟨by kernel_rfl, rfl⟩) hS ?_
          simp only [List.getElem_toArray, List.getElem_cons_zero, List.getElem_cons_succ, Act.put, List.setIfInBounds_toArray, List.set_cons_zero, List.set_cons_succ]
          refine wpAnyH_take (i := 11) (v := .bool false) rfl (by kernel_rfl) (by kernel_rfl) (by kernel_rfl) (fun _ _ _ h => h) (.inl ⟨by kernel_rfl, fun w' _ => by unfold execOp; go_simp⟩) hS ?_
          simp only [List.getElem_toArray, List.getElem_cons_zero, List.getElem_cons_succ, Act.put, List.setIfInBounds_toArray, List.set_cons_zero, List.set_cons_succ]
          refine wpAnyH_done (by kernel_rfl) ?_ _
          clear hS
          go_wp2_with fail
          refine wp_region_held_drew (S := fun W => W = wr.drew.drew) (by kernel_rfl) rfl (fun hS => ?_)
          change wpAnyH _ _ _ _ _ 11 #[false, false, false, false, false, false, false, false, false, false, false] _ _
          refine wpAnyH_take (i := 0) (v := .int .i64 (m2 : Int)) rfl (by kernel_rfl) (by kernel_rfl) (by kernel_rfl) (fun _ _ _ h => h) (.inl ⟨by kernel_rfl, fun w' _ => by unfold execOp; go_simp⟩) hS ?_
          simp only [List.getElem_toArray, List.getElem_cons_zero, Act.put, List.setIfInBounds_toArray, List.set_cons_zero, List.set_cons_succ]
          refine wpAnyH_take (i := 1) (v := .bool false) rfl (by kernel_rfl) (by kernel_rfl) (by kernel_rfl) (fun _ _ _ h => h) (.inl ⟨by kernel_rfl, fun w' _ => by unfold execOp; go_simp; first | exact H0.out | (have := H0.out; omega)⟩) hS ?_
          simp only [List.getElem_toArray, List.getElem_cons_zero, List.getElem_cons_succ, Act.put, List.setIfInBounds_toArray, List.set_cons_zero, List.set_cons_succ]
          refine wpAnyH_take (i := 2) (v := .bool false) rfl (by kernel_rfl) (by kernel_rfl) (by kernel_rfl) (fun _ _ _ h => h) (.inl ⟨by kernel_rfl, fun w' _ => by unfold execOp; go_simp⟩) hS ?_
          simp only [List.getElem_toArray, List.getElem_cons_zero, List.getElem_cons_succ, Act.put, List.setIfInBounds_toArray, List.set_cons_zero, List.set_cons_succ]
          refine wpAnyH_take (i := 3) (v := undef) rfl (by kernel_rfl) (by kernel_rfl) (by kernel_rfl) (fun _ _ _ h => h) (.inr ⟨by kernel_rfl, rfl⟩) hS ?_
          simp only [List.getElem_toArray, List.getElem_cons_zero, List.getElem_cons_succ, Act.put, List.setIfInBounds_toArray, List.set_cons_zero, List.set_cons_succ]
          refine wpAnyH_take (i := 4) (v := undef) rfl (by kernel_rfl) (by kernel_rfl) (by kernel_rfl) (fun _ _ _ h => h) (.inr ⟨by kernel_rfl, rfl⟩) hS ?_
          simp only [List.getElem_toArray, List.getElem_cons_zero, List.getElem_cons_succ, Act.put, List.setIfInBounds_toArray, List.set_cons_zero, List.set_cons_succ]
          refine wpAnyH_take (i := 5) (v := undef) rfl (by kernel_rfl) (by kernel_rfl) (by kernel_rfl) (fun _ _ _ h => h) (.inr ⟨by kernel_rfl, rfl⟩) hS ?_
          simp only [List.getElem_toArray, List.getElem_cons_zero, List.getElem_cons_succ, Act.put, List.setIfInBounds_toArray, List.set_cons_zero, List.set_cons_succ]
          refine wpAnyH_take (i := 6) (v := undef) rfl (by kernel_rfl) (by kernel_rfl) (by kernel_rfl) (fun _ _ _ h => h) (.inr ⟨by kernel_rfl, rfl⟩) hS ?_
          simp only [List.getElem_toArray, List.getElem_cons_zero, List.getElem_cons_succ, Act.put, List.setIfInBounds_toArray, List.set_cons_zero, List.set_cons_succ]
          refine wpAnyH_take (i := 7) (v := undef) rfl (by kernel_rfl) (by kernel_rfl) (by kernel_rfl) (fun _ _ _ h => h) (.inr ⟨by kernel_rfl, rfl⟩) hS ?_
          simp only [List.getElem_toArray, List.getElem_cons_zero, List.getElem_cons_succ, Act.put, List.setIfInBounds_toArray, List.set_cons_zero, List.set_cons_succ]
          refine wpAnyH_take (i := 8) (v := undef) rfl (by kernel_rfl) (by kernel_rfl) (by kernel_rfl) (fun _ _ _ h => h) (.inr ⟨by kernel_rfl, rfl⟩) hS ?_
          simp only [List.getElem_toArray, List.getElem_cons_zero, List.getElem_cons_succ, Act.put, List.setIfInBounds_toArray, List.set_cons_zero, List.set_cons_succ]
          refine wpAnyH_take (i := 9) (v := undef) rfl (by kernel_rfl) (by kernel_rfl) (by kernel_rfl) (fun _ _ _ h => h) (.inr ⟨by kernel_rfl, rfl⟩) hS ?_
          simp only [List.getElem_toArray, List.getElem_cons_zero, List.getElem_cons_succ, Act.put, List.setIfInBounds_toArray, List.set_cons_zero, List.set_cons_succ]
          refine wpAnyH_take (i := 10) (v := .bool false) rfl (by kernel_rfl) (by kernel_rfl) (by kernel_rfl) (fun _ _ _ h => h) (.inl ⟨by kernel_rfl, fun w' _ => by unfold execOp; go_simp⟩) hS ?_
          simp only [List.getElem_toArray, List.getElem_cons_zero, List.getElem_cons_succ, Act.put, List.setIfInBounds_toArray, List.set_cons_zero, List.set_cons_succ]
          refine wpAnyH_done (by kernel_rfl) ?_ _
          clear hS
          go_wp2_with fail
          generalize wr.drew.drew = U at HB3 ⊢
          have HBU : Hid (Below V.heap.size V U.drew) := HB3
          have HBW : Hid (Below w.heap.size w U.drew) := hid (HBV.out.trans (HBU.out.mono HBV.out.size))
          have HEU : Hid (Elems encK 2 U.heap.size U.drew (some ⟨go, 0, none⟩) rs) := hid (fun j hj => ⟨go, 0, rfl, Nat.lt_of_lt_of_le HE.out.1 HBU.out.size, by
            have := HE.out.2 j hj
            rw [getElem!_pos rs j hj] at this
            rw [Nat.zero_add]
            exact rangeAt_below HBU.out HE.out.1 this⟩)
          have H5U : Hid (U.drew.rangeAt g5 0 (encKL x) ∧ g5 < U.heap.size) := hid ⟨rangeAt_below HBU.out H5s.out H5.out, Nat.lt_of_lt_of_le H5s.out HBU.out.size⟩
          refine wp_region_held_drew (S := fun W => Below U.heap.size U.drew W) (by kernel_rfl) (Below.refl _ _) (fun hS => ?_)
          change wpAnyH _ _ _ _ _ 13 #[false, false, false, false, false, false, false, false, false, false, false, false, false] _ _
          refine wpAnyH_take (i := 1) (v := .slice (some ⟨go, 0, none⟩) len cap) rfl (by kernel_rfl) (by kernel_rfl) (by kernel_rfl) (fun _ _ _ h => h) (.inl ⟨by kernel_rfl, fun w' _ => by unfold execOp; go_simp⟩) hS ?_
          simp only [List.getElem_toArray, List.getElem_cons_zero, List.getElem_cons_succ, Act.put, List.setIfInBounds_toArray, List.set_cons_zero, List.set_cons_succ]
          refine wpAnyH_take (i := 2) (v := .int .i64 (m2 : Int)) rfl (by kernel_rfl) (by kernel_rfl) (by kernel_rfl) (fun _ _ _ h => h) (.inl ⟨by kernel_rfl, fun w' _ => by unfold execOp; go_simp⟩) hS ?_
          simp only [List.getElem_toArray, List.getElem_cons_zero, List.getElem_cons_succ, Act.put, List.setIfInBounds_toArray, List.set_cons_zero, List.set_cons_succ]
          refine wpAnyH_take (i := 3) (v := .slice (some ⟨go, 0, none⟩) m2 cap) rfl (by kernel_rfl) (by kernel_rfl) (by kernel_rfl) (fun _ _ _ h => h) (.inl ⟨by kernel_rfl, fun w' _ => exec_cutHK (.tmp 42) (.tmp 43) rfl (some ⟨go, 0, none⟩) len cap m2 rfl rfl (by omega)⟩) hS ?_
          simp only [List.getElem_toArray, List.getElem_cons_zero, List.getElem_cons_succ, Act.put, List.setIfInBounds_toArray, List.set_cons_zero, List.set_cons_succ]
          refine wpAnyH_take (i := 5) (v := .agg #[.string x.1, .string x.2]) rfl (by kernel_rfl) (by kernel_rfl) (by kernel_rfl) (fun _ _ _ h => h) (yieldsIf_load_mid (by kernel_rfl) 25 (.tmp 5) rfl (g5) (0) rfl (encKL x) _ (fun w' hw' => rangeAt_below hw' H5U.out.2 H5U.out.1) Tryd.underlying25 rfl Tryd.info3s) hS ?_
          simp only [List.getElem_toArray, List.getElem_cons_zero, List.getElem_cons_succ, Act.put, List.setIfInBounds_toArray, List.set_cons_zero, List.set_cons_succ]
          refine wpAnyH_take (i := 8) (v := .slice (some ⟨go, 0, none⟩) len cap) rfl (by kernel_rfl) (by kernel_rfl) (by kernel_rfl) (fun _ _ _ h => h) (.inl ⟨by kernel_rfl, fun w' _ => by unfold execOp; go_simp⟩) hS ?_
          simp only [List.getElem_toArray, List.getElem_cons_zero, List.getElem_cons_succ, Act.put, List.setIfInBounds_toArray, List.set_cons_zero, List.set_cons_succ]
          refine wpAnyH_take (i := 9) (v := .int .i64 (m2 : Int)) rfl (by kernel_rfl) (by kernel_rfl) (by kernel_rfl) (fun _ _ _ h => h) (.inl ⟨by kernel_rfl, fun w' _ => by unfold execOp; go_simp⟩) hS ?_
          simp only [List.getElem_toArray, List.getElem_cons_zero, List.getElem_cons_succ, Act.put, List.setIfInBounds_toArray, List.set_cons_zero, List.set_cons_succ]
          refine wpAnyH_take (i := 10) (v := .slice (cutK (some ⟨go, 0, none⟩) cap m2) (len - m2) (cap - m2)) rfl (by kernel_rfl) (by kernel_rfl) (by kernel_rfl) (fun _ _ _ h => h) (.inl ⟨by kernel_rfl, fun w' _ => exec_cutLK (.tmp 49) (.tmp 50) rfl (some ⟨go, 0, none⟩) len cap m2 rfl rfl (by omega)⟩) hS ?_
          simp only [List.getElem_toArray, List.getElem_cons_zero, List.getElem_cons_succ, Act.put, List.setIfInBounds_toArray, List.set_cons_zero, List.set_cons_succ]
          have HT2 : Hid ((rs.take m2).length = m2) := hid (by rw [List.length_take]; have := HR.out.1; omega)
          have hln : len = rs.length := HR.out.1
          have HDL : Hid ((rs.drop m2).length = len - m2) := hid (by rw [List.length_drop, hln])
          have HD := elems_drop HEU.out (by omega : rs.length ≤ cap) (fun e => by cases e) m2 (by omega)
          refine wpAnyH_ready (rs := [0, 6]) (by kernel_rfl) (by simp) ?_
          refine AllReadyH.cons rfl (fun K' hK => ?_) (AllReadyH.cons rfl (fun K' hK => ?_) AllReadyH.nil)
          ·
            refine r_lit0 rfl U.heap.size (by first | exact Nat.le_refl _ | exact hS.size) (by kernel_rfl) (fun A hoA hzA hgA => hK.out _ _ (hS.grown hgA (by first | exact Nat.le_refl _ | exact hS.size) (fun k e => by cases e)) (fun hS => ?_))
            simp only [List.getElem_toArray, List.getElem_cons_zero, Act.put, List.setIfInBounds_toArray, List.set_cons_zero, List.set_cons_succ]
            refine wpAnyH_ready (rs := [4, 6]) (by kernel_rfl) (by simp) ?_
            refine AllReadyH.cons rfl (fun K' hK => ?_) (AllReadyH.cons rfl (fun K' hK => ?_) AllReadyH.nil)
            ·
              have own0 := hoA
              refine r_appK (.tmp 41) (.tmp 44) rfl U.heap.size _ 0 (flat encK []) rfl own0 (some ⟨go, 0, none⟩) m2 cap (rs.take m2) rfl HT2.out U.heap.size ((elems_take HEU.out m2).below hS) (fun e => by cases e) (by omega) hS.size (by kernel_rfl) (fun v1 w1 h1 q1 => hK.out _ _ (hS.grown q1 (by first | exact Nat.le_refl _ | exact hS.size) (fun k e => own_block_le own0 e)) (fun hS => ?_))
              simp only [List.getElem_toArray, List.getElem_cons_zero, List.getElem_cons_succ, Act.put, List.setIfInBounds_toArray, List.set_cons_zero, List.set_cons_succ]
              refine wpAnyH_ready (rs := [6]) (by kernel_rfl) (by simp) ?_
              refine AllReadyH.cons rfl (fun K' hK => ?_) AllReadyH.nil
              refine r_lit1 (.tmp 46) rfl x rfl (by kernel_rfl) (fun C hlC hzC hgC => hK.out _ _ (hS.grown hgC (by first | exact Nat.le_refl _ | exact hS.size) (fun k e => by cases e)) (fun hS => ?_))
              simp only [List.getElem_toArray, List.getElem_cons_zero, List.getElem_cons_succ, Act.put, List.setIfInBounds_toArray, List.set_cons_zero, List.set_cons_succ]
              have own1 := ownsRow_below h1 (grown_below hgC)
              have lit1 := hlC
              refine wpAnyH_ready (rs := [7]) (by kernel_rfl) (by simp) ?_
              refine AllReadyH.cons rfl (fun K' hK => ?_) AllReadyH.nil
              refine r_appK (.tmp 45) (.tmp 47) rfl U.heap.size v1 _ _ rfl own1 _ 1 1 [x] rfl rfl _ lit1 (fun e => by cases e) (by omega) hS.size (by kernel_rfl) (fun v2 w2 h2 q2 => hK.out _ _ (hS.grown q2 (by first | exact Nat.le_refl _ | exact hS.size) (fun k e => own_block_le own1 e)) (fun hS => ?_))
              simp only [List.getElem_toArray, List.getElem_cons_zero, List.getElem_cons_succ, Act.put, List.setIfInBounds_toArray, List.set_cons_zero, List.set_cons_succ]
              refine wpAnyH_ready (rs := [11]) (by kernel_rfl) (by simp) ?_
              refine AllReadyH.cons rfl (fun K' hK => ?_) AllReadyH.nil
              refine r_appK (.tmp 48) (.tmp 51) rfl U.heap.size v2 _ _ rfl h2 (cutK (some ⟨go, 0, none⟩) cap m2) (len - m2) (cap - m2) (rs.drop m2) rfl HDL.out U.heap.size (HD.1.below hS) (fun e => by have := HD.2 e; omega) (by omega) hS.size (by kernel_rfl) (fun v3 w3 h3 q3 => ?_)
              have h4 := own_ins hln hm2 h3
              have hbk := fun k (e : v2.ownBlock = some k) => own_block_le h2 e
              obtain ⟨g', cap', rfl⟩ := ownsRow_succ h4
              refine hK.out _ _ (hS.grown q3 (by first | exact Nat.le_refl _ | exact hS.size) (fun k e => hbk k e)) (fun hS => ?_)
              simp only [List.getElem_toArray, List.getElem_cons_zero, List.getElem_cons_succ, Act.put, List.setIfInBounds_toArray, List.set_cons_zero, List.set_cons_succ]
              refine wpAnyH_take (i := 12) (v := .slice (some ⟨g', 0, none⟩) (len + 1) cap') rfl (by kernel_rfl) (by kernel_rfl) (by kernel_rfl) (fun _ _ _ h => h) (.inl ⟨by kernel_rfl, fun w' _ => by unfold execOp; go_simp⟩) hS ?_
              simp only [List.getElem_toArray, List.getElem_cons_zero, List.getElem_cons_succ, Act.put, List.setIfInBounds_toArray, List.set_cons_zero, List.set_cons_succ]
              refine wpAnyH_done (by kernel_rfl) ?_ _
              have HF9 : Hid ((len + 1 = (rs.take m2 ++ (x :: rs.drop m2)).length ∧ w3.ownsRow w.heap.size 25 2 (.slice (some ⟨g', 0, none⟩) (len + 1) cap') (len + 1) (flat encK (rs.take m2 ++ (x :: rs.drop m2)))) ∧ Below w.heap.size w w3 ∧ Rising (rs.take m2 ++ (x :: rs.drop m2)) ∧ ∀ a, a ∈ rs.take m2 ++ (x :: rs.drop m2) ↔ a ∈ xs.take (p + 1)) := hid ⟨⟨by rw [List.length_append, List.length_cons, HT2.out, HDL.out]; omega, ownsRow_mono h4 HBW.out.size⟩, HBW.out.trans (hS.mono HBW.out.size), HINS.out.1, fun a => by rw [HINS.out.2 a, HT.out, List.mem_append, List.mem_singleton, HF.out.2 a]; exact Or.comm⟩
              clear hS h4 h3 h2 own1 lit1 HD HEU H5U hK hln
              go_wp2
              go_roundg (n - (p + 1))
              case measure => omega
              case rel => exact ⟨p + 1, len + 1, _, g', cap', by go_num, by omega, Nat.le_refl _, by omega, rfl, hid HF9.out.1, hid HF9.out.2.1, hid HF9.out.2.2⟩
            ·
              refine r_lit1 (.tmp 46) rfl x rfl (by kernel_rfl) (fun B hlB hzB hgB => hK.out _ _ (hS.grown hgB (by first | exact Nat.le_refl _ | exact hS.size) (fun k e => by cases e)) (fun hS => ?_))
              simp only [List.getElem_toArray, List.getElem_cons_zero, List.getElem_cons_succ, Act.put, List.setIfInBounds_toArray, List.set_cons_zero, List.set_cons_succ]
              refine wpAnyH_ready (rs := [4]) (by kernel_rfl) (by simp) ?_
              refine AllReadyH.cons rfl (fun K' hK => ?_) AllReadyH.nil
              have own0 := ownsRow_below hoA (grown_below hgB)
              refine r_appK (.tmp 41) (.tmp 44) rfl U.heap.size _ 0 (flat encK []) rfl own0 (some ⟨go, 0, none⟩) m2 cap (rs.take m2) rfl HT2.out U.heap.size ((elems_take HEU.out m2).below hS) (fun e => by cases e) (by omega) hS.size (by kernel_rfl) (fun v1 w1 h1 q1 => hK.out _ _ (hS.grown q1 (by first | exact Nat.le_refl _ | exact hS.size) (fun k e => own_block_le own0 e)) (fun hS => ?_))
              simp only [List.getElem_toArray, List.getElem_cons_zero, List.getElem_cons_succ, Act.put, List.setIfInBounds_toArray, List.set_cons_zero, List.set_cons_succ]
              have own1 := h1
              have lit1 := elems_grown hlB (by omega) q1 (fun e => absurd (Option.some.inj (show some A.heap.size = some U.drew.heap.size from e)) (by omega))
              refine wpAnyH_ready (rs := [7]) (by kernel_rfl) (by simp) ?_
              refine AllReadyH.cons rfl (fun K' hK => ?_) AllReadyH.nil
              refine r_appK (.tmp 45) (.tmp 47) rfl U.heap.size v1 _ _ rfl own1 _ 1 1 [x] rfl rfl _ lit1 (fun e => by cases e) (by omega) hS.size (by kernel_rfl) (fun v2 w2 h2 q2 => hK.out _ _ (hS.grown q2 (by first | exact Nat.le_refl _ | exact hS.size) (fun k e => own_block_le own1 e)) (fun hS => ?_))
              simp only [List.getElem_toArray, List.getElem_cons_zero, List.getElem_cons_succ, Act.put, List.setIfInBounds_toArray, List.set_cons_zero, List.set_cons_succ]
              refine wpAnyH_ready (rs := [11]) (by kernel_rfl) (by simp) ?_
              refine AllReadyH.cons rfl (fun K' hK => ?_) AllReadyH.nil
              refine r_appK (.tmp 48) (.tmp 51) rfl U.heap.size v2 _ _ rfl h2 (cutK (some ⟨go, 0, none⟩) cap m2) (len - m2) (cap - m2) (rs.drop m2) rfl HDL.out U.heap.size (HD.1.below hS) (fun e => by have := HD.2 e; omega) (by omega) hS.size (by kernel_rfl) (fun v3 w3 h3 q3 => ?_)
              have h4 := own_ins hln hm2 h3
              have hbk := fun k (e : v2.ownBlock = some k) => own_block_le h2 e
              obtain ⟨g', cap', rfl⟩ := ownsRow_succ h4
              refine hK.out _ _ (hS.grown q3 (by first | exact Nat.le_refl _ | exact hS.size) (fun k e => hbk k e)) (fun hS => ?_)
              simp only [List.getElem_toArray, List.getElem_cons_zero, List.getElem_cons_succ, Act.put, List.setIfInBounds_toArray, List.set_cons_zero, List.set_cons_succ]
              refine wpAnyH_take (i := 12) (v := .slice (some ⟨g', 0, none⟩) (len + 1) cap') rfl (by kernel_rfl) (by kernel_rfl) (by kernel_rfl) (fun _ _ _ h => h) (.inl ⟨by kernel_rfl, fun w' _ => by unfold execOp; go_simp⟩) hS ?_
              simp only [List.getElem_toArray, List.getElem_cons_zero, List.getElem_cons_succ, Act.put, List.setIfInBounds_toArray, List.set_cons_zero, List.set_cons_succ]
              refine wpAnyH_done (by kernel_rfl) ?_ _
              have HF9 : Hid ((len + 1 = (rs.take m2 ++ (x :: rs.drop m2)).length ∧ w3.ownsRow w.heap.size 25 2 (.slice (some ⟨g', 0, none⟩) (len + 1) cap') (len + 1) (flat encK (rs.take m2 ++ (x :: rs.drop m2)))) ∧ Below w.heap.size w w3 ∧ Rising (rs.take m2 ++ (x :: rs.drop m2)) ∧ ∀ a, a ∈ rs.take m2 ++ (x :: rs.drop m2) ↔ a ∈ xs.take (p + 1)) := hid ⟨⟨by rw [List.length_append, List.length_cons, HT2.out, HDL.out]; omega, ownsRow_mono h4 HBW.out.size⟩, HBW.out.trans (hS.mono HBW.out.size), HINS.out.1, fun a => by rw [HINS.out.2 a, HT.out, List.mem_append, List.mem_singleton, HF.out.2 a]; exact Or.comm⟩
              clear hS h4 h3 h2 own1 lit1 HD HEU H5U hK hln
              go_wp2
              go_roundg (n - (p + 1))
              case measure => omega
              case rel => exact ⟨p + 1, len + 1, _, g', cap', by go_num, by omega, Nat.le_refl _, by omega, rfl, hid HF9.out.1, hid HF9.out.2.1, hid HF9.out.2.2⟩
          ·
            refine r_lit1 (.tmp 46) rfl x rfl (by kernel_rfl) (fun A hlA hzA hgA => hK.out _ _ (hS.grown hgA (by first | exact Nat.le_refl _ | exact hS.size) (fun k e => by cases e)) (fun hS => ?_))
            simp only [List.getElem_toArray, List.getElem_cons_zero, List.getElem_cons_succ, Act.put, List.setIfInBounds_toArray, List.set_cons_zero, List.set_cons_succ]
            refine wpAnyH_ready (rs := [0]) (by kernel_rfl) (by simp) ?_
            refine AllReadyH.cons rfl (fun K' hK => ?_) AllReadyH.nil
            refine r_lit0 rfl U.heap.size (by first | exact Nat.le_refl _ | exact hS.size) (by kernel_rfl) (fun B hoB hzB hgB => hK.out _ _ (hS.grown hgB (by first | exact Nat.le_refl _ | exact hS.size) (fun k e => by cases e)) (fun hS => ?_))
            simp only [List.getElem_toArray, List.getElem_cons_zero, Act.put, List.setIfInBounds_toArray, List.set_cons_zero, List.set_cons_succ]
            refine wpAnyH_ready (rs := [4]) (by kernel_rfl) (by simp) ?_
            refine AllReadyH.cons rfl (fun K' hK => ?_) AllReadyH.nil
            have own0 := hoB
            refine r_appK (.tmp 41) (.tmp 44) rfl U.heap.size _ 0 (flat encK []) rfl own0 (some ⟨go, 0, none⟩) m2 cap (rs.take m2) rfl HT2.out U.heap.size ((elems_take HEU.out m2).below hS) (fun e => by cases e) (by omega) hS.size (by kernel_rfl) (fun v1 w1 h1 q1 => hK.out _ _ (hS.grown q1 (by first | exact Nat.le_refl _ | exact hS.size) (fun k e => own_block_le own0 e)) (fun hS => ?_))
            simp only [List.getElem_toArray, List.getElem_cons_zero, List.getElem_cons_succ, Act.put, List.setIfInBounds_toArray, List.set_cons_zero, List.set_cons_succ]
            have own1 := h1
            have lit1 := elems_grown (elems_grown hlA (by omega) hgB (fun e => by cases e)) (by omega) q1 (fun e => absurd (Option.some.inj (show some U.drew.heap.size = some A.heap.size from e)) (by omega))
            refine wpAnyH_ready (rs := [7]) (by kernel_rfl) (by simp) ?_
            refine AllReadyH.cons rfl (fun K' hK => ?_) AllReadyH.nil
            refine r_appK (.tmp 45) (.tmp 47) rfl U.heap.size v1 _ _ rfl own1 _ 1 1 [x] rfl rfl _ lit1 (fun e => by cases e) (by omega) hS.size (by kernel_rfl) (fun v2 w2 h2 q2 => hK.out _ _ (hS.grown q2 (by first | exact Nat.le_refl _ | exact hS.size) (fun k e => own_block_le own1 e)) (fun hS => ?_))
            simp only [List.getElem_toArray, List.getElem_cons_zero, List.getElem_cons_succ, Act.put, List.setIfInBounds_toArray, List.set_cons_zero, List.set_cons_succ]
            refine wpAnyH_ready (rs := [11]) (by kernel_rfl) (by simp) ?_
            refine AllReadyH.cons rfl (fun K' hK => ?_) AllReadyH.nil
            refine r_appK (.tmp 48) (.tmp 51) rfl U.heap.size v2 _ _ rfl h2 (cutK (some ⟨go, 0, none⟩) cap m2) (len - m2) (cap - m2) (rs.drop m2) rfl HDL.out U.heap.size (HD.1.below hS) (fun e => by have := HD.2 e; omega) (by omega) hS.size (by kernel_rfl) (fun v3 w3 h3 q3 => ?_)
            have h4 := own_ins hln hm2 h3
            have hbk := fun k (e : v2.ownBlock = some k) => own_block_le h2 e
            obtain ⟨g', cap', rfl⟩ := ownsRow_succ h4
            refine hK.out _ _ (hS.grown q3 (by first | exact Nat.le_refl _ | exact hS.size) (fun k e => hbk k e)) (fun hS => ?_)
            simp only [List.getElem_toArray, List.getElem_cons_zero, List.getElem_cons_succ, Act.put, List.setIfInBounds_toArray, List.set_cons_zero, List.set_cons_succ]
            refine wpAnyH_take (i := 12) (v := .slice (some ⟨g', 0, none⟩) (len + 1) cap') rfl (by kernel_rfl) (by kernel_rfl) (by kernel_rfl) (fun _ _ _ h => h) (.inl ⟨by kernel_rfl, fun w' _ => by unfold execOp; go_simp⟩) hS ?_
            simp only [List.getElem_toArray, List.getElem_cons_zero, List.getElem_cons_succ, Act.put, List.setIfInBounds_toArray, List.set_cons_zero, List.set_cons_succ]
            refine wpAnyH_done (by kernel_rfl) ?_ _
            have HF9 : Hid ((len + 1 = (rs.take m2 ++ (x :: rs.drop m2)).length ∧ w3.ownsRow w.heap.size 25 2 (.slice (some ⟨g', 0, none⟩) (len + 1) cap') (len + 1) (flat encK (rs.take m2 ++ (x :: rs.drop m2)))) ∧ Below w.heap.size w w3 ∧ Rising (rs.take m2 ++ (x :: rs.drop m2)) ∧ ∀ a, a ∈ rs.take m2 ++ (x :: rs.drop m2) ↔ a ∈ xs.take (p + 1)) := hid ⟨⟨by rw [List.length_append, List.length_cons, HT2.out, HDL.out]; omega, ownsRow_mono h4 HBW.out.size⟩, HBW.out.trans (hS.mono HBW.out.size), HINS.out.1, fun a => by rw [HINS.out.2 a, HT.out, List.mem_append, List.mem_singleton, HF.out.2 a]; exact Or.comm⟩
            clear hS h4 h3 h2 own1 lit1 HD HEU H5U hK hln
            go_wp2
            go_roundg (n - (p + 1))
            case measure => omega
            case rel => exact ⟨p + 1, len + 1, _, g', cap', by go_num, by omega, Nat.le_refl _, by omega, rfl, hid HF9.out.1, hid HF9.out.2.1, hid HF9.out.2.2⟩
        · obtain ⟨m, hm, hm'⟩ : ∃ m, m < m2 ∧ m2 ≤ m + 1 := ⟨m2 - 1, by omega, by omega⟩
          obtain ⟨y, hy⟩ : ∃ y, y = rs[m]! := ⟨_, rfl⟩
          have HY : Hid (wr.drew.rangeAt go (m * 2) (encKL y) ∧ go < wr.heap.size) := hid (by
            have h1 := HE.out.2 m (by have := HR.out.1; omega)
            have h2 := HB2.out.size
            have h4 := HE.out.1
            rw [hy]
            exact ⟨rangeAt_below HB2.out (by omega) h1, by omega⟩)
          have H5' : Hid (wr.drew.rangeAt g5 0 (encKL x) ∧ g5 < wr.heap.size) := hid ⟨rangeAt_below HB2.out H5s.out H5.out, Nat.lt_of_lt_of_le H5s.out HB2.out.size⟩
          have HC := hid (rkcompare_any x.1 x.2 y.1 y.2)
          have HL : Hid (kcmp x.1 x.2 y.1 y.2 < 0 ↔ klt x y) := hid (cmpK_lt x y)
          generalize kcmp x.1 x.2 y.1 y.2 = c at HC HL
          by_cases hc : c < 0
          · go_wp2_with fail
            refine wp_region_held_drew (S := fun V => Below wr.heap.size wr.drew V) (by kernel_rfl) (Below.refl _ _) (fun hS => ?_)
            change wpAnyH _ _ _ _ _ 12 #[false, false, false, false, false, false, false, false, false, false, false, false] _ _
            refine wpAnyH_take (i := 0) (v := .int .i64 (m2 : Int)) rfl (by kernel_rfl) (by kernel_rfl) (by kernel_rfl) (fun _ _ _ h => h) (.inl ⟨by kernel_rfl, fun w' _ => by unfold execOp; go_simp⟩) hS ?_
            simp only [List.getElem_toArray, List.getElem_cons_zero, Act.put, List.setIfInBounds_toArray, List.set_cons_zero, List.set_cons_succ]
            refine wpAnyH_take (i := 1) (v := .bool true) rfl (by kernel_rfl) (by kernel_rfl) (by kernel_rfl) (fun _ _ _ h => h) (.inl ⟨by kernel_rfl, fun w' _ => by unfold execOp; go_simp; try omega⟩) hS ?_
            simp only [List.getElem_toArray, List.getElem_cons_zero, List.getElem_cons_succ, Act.put, List.setIfInBounds_toArray, List.set_cons_zero, List.set_cons_succ]
            refine wpAnyH_take (i := 2) (v := .bool true) rfl (by kernel_rfl) (by kernel_rfl) (by kernel_rfl) (fun _ _ _ h => h) (.inl ⟨by kernel_rfl, fun w' _ => by unfold execOp; go_simp⟩) hS ?_
            simp only [List.getElem_toArray, List.getElem_cons_zero, List.getElem_cons_succ, Act.put, List.setIfInBounds_toArray, List.set_cons_zero, List.set_cons_succ]
            refine wpAnyH_take (i := 3) (v := .agg #[.string x.1, .string x.2]) rfl (by kernel_rfl) (by kernel_rfl) (by kernel_rfl) (fun _ _ _ h => h) (yieldsIf_load_mid (by kernel_rfl) 25 (.tmp 5) rfl (g5) (0) rfl (encKL x) _ (fun w' hw' => rangeAt_below hw' H5'.out.2 H5'.out.1) Tryd.underlying25 rfl Tryd.info3s) hS ?_
            simp only [List.getElem_toArray, List.getElem_cons_zero, List.getElem_cons_succ, Act.put, List.setIfInBounds_toArray, List.set_cons_zero, List.set_cons_succ]
            refine wpAnyH_take (i := 4) (v := .slice (some ⟨go, 0, none⟩) len cap) rfl (by kernel_rfl) (by kernel_rfl) (by kernel_rfl) (fun _ _ _ h => h) (.inl ⟨by kernel_rfl, fun w' _ => by unfold execOp; go_simp⟩) hS ?_
            simp only [List.getElem_toArray, List.getElem_cons_zero, List.getElem_cons_succ, Act.put, List.setIfInBounds_toArray, List.set_cons_zero, List.set_cons_succ]
            refine wpAnyH_take (i := 5) (v := .int .i64 (m2 : Int)) rfl (by kernel_rfl) (by kernel_rfl) (by kernel_rfl) (fun _ _ _ h => h) (.inl ⟨by kernel_rfl, fun w' _ => by unfold execOp; go_simp⟩) hS ?_
            simp only [List.getElem_toArray, List.getElem_cons_zero, List.getElem_cons_succ, Act.put, List.setIfInBounds_toArray, List.set_cons_zero, List.set_cons_succ]
            refine wpAnyH_take (i := 6) (v := .int .i64 (m : Int)) rfl (by kernel_rfl) (by kernel_rfl) (by kernel_rfl) (fun _ _ _ h => h) (.inl ⟨by kernel_rfl, fun w' _ => by unfold execOp; go_simp; rw [show ((m2 : Int) - 1) = (m : Int) by omega]; exact wrap_small _ (by omega)⟩) hS ?_
            simp only [List.getElem_toArray, List.getElem_cons_zero, List.getElem_cons_succ, Act.put, List.setIfInBounds_toArray, List.set_cons_zero, List.set_cons_succ]
            refine wpAnyH_take (i := 7) (v := .pointer (some ⟨go, m * 2, none⟩)) rfl (by kernel_rfl) (by kernel_rfl) (by kernel_rfl) (fun _ _ _ h => h) (.inl ⟨by kernel_rfl, fun w' _ => by unfold execOp; go_simp; try (intro h; omega)⟩) hS ?_
            simp only [List.getElem_toArray, List.getElem_cons_zero, List.getElem_cons_succ, Act.put, List.setIfInBounds_toArray, List.set_cons_zero, List.set_cons_succ]
            refine wpAnyH_take (i := 8) (v := .agg #[.string y.1, .string y.2]) rfl (by kernel_rfl) (by kernel_rfl) (by kernel_rfl) (fun _ _ _ h => h) (yieldsIf_load_mid (by kernel_rfl) 25 (.tmp 23) rfl (go) (m * 2) rfl (encKL y) _ (fun w' hw' => rangeAt_below hw' HY.out.2 HY.out.1) Tryd.underlying25 rfl Tryd.info3s) hS ?_
            simp only [List.getElem_toArray, List.getElem_cons_zero, List.getElem_cons_succ, Act.put, List.setIfInBounds_toArray, List.set_cons_zero, List.set_cons_succ]
            refine wpAnyH_ready (rs := [9]) (by kernel_rfl) (by simp) ?_
            refine AllReadyH.cons rfl (fun K' hK => ?_) AllReadyH.nil
            refine r_call 9 #[.agg #[.string x.1, .string x.2], .agg #[.string y.1, .string y.2]] (by kernel_rfl) (by kernel_rfl) (.int .i64 c) (HC.out _) (fun V3 h => hK.out _ _ (hS.trans (h.mono hS.size)) (fun hS => ?_))
            simp only [List.getElem_toArray, List.getElem_cons_zero, List.getElem_cons_succ, Act.put, List.setIfInBounds_toArray, List.set_cons_zero, List.set_cons_succ]
            refine wpAnyH_take (i := 10) (v := .bool true) rfl (by kernel_rfl) (by kernel_rfl) (by kernel_rfl) (fun _ _ _ h => h) (.inl ⟨by kernel_rfl, fun w' _ => by unfold execOp; go_simp; try omega⟩) hS ?_
            simp only [List.getElem_toArray, List.getElem_cons_zero, List.getElem_cons_succ, Act.put, List.setIfInBounds_toArray, List.set_cons_zero, List.set_cons_succ]
            refine wpAnyH_take (i := 11) (v := .bool true) rfl (by kernel_rfl) (by kernel_rfl) (by kernel_rfl) (fun _ _ _ h => h) (.inl ⟨by kernel_rfl, fun w' _ => by unfold execOp; go_simp⟩) hS ?_
            simp only [List.getElem_toArray, List.getElem_cons_zero, List.getElem_cons_succ, Act.put, List.setIfInBounds_toArray, List.set_cons_zero, List.set_cons_succ]
            refine wpAnyH_done (by kernel_rfl) ?_ _
            have HB3 : Hid (Below V.heap.size V V3) := hid (HB2.out.drew.trans (hS.mono HB2.out.size))
            clear hS HY H5' HB2
            go_wp2
            go_roundg m
            case measure => omega
            case rel => exact ⟨m, by omega, Nat.le_refl _, by go_num, HB3, hid (fun j h1 h2 => by
                by_cases e : j = m
                · subst e; rw [← hy]; exact HL.out.1 hc
                · exact HG.out j (by omega) h2)⟩
          · go_wp2_with fail
            refine wp_region_held_drew (S := fun V => Below wr.heap.size wr.drew V) (by kernel_rfl) (Below.refl _ _) (fun hS => ?_)
            change wpAnyH _ _ _ _ _ 12 #[false, false, false, false, false, false, false, false, false, false, false, false] _ _
            refine wpAnyH_take (i := 0) (v := .int .i64 (m2 : Int)) rfl (by kernel_rfl) (by kernel_rfl) (by kernel_rfl) (fun _ _ _ h => h) (.inl ⟨by kernel_rfl, fun w' _ => by unfold execOp; go_simp⟩) hS ?_
            simp only [List.getElem_toArray, List.getElem_cons_zero, Act.put, List.setIfInBounds_toArray, List.set_cons_zero, List.set_cons_succ]
            refine wpAnyH_take (i := 1) (v := .bool true) rfl (by kernel_rfl) (by kernel_rfl) (by kernel_rfl) (fun _ _ _ h => h) (.inl ⟨by kernel_rfl, fun w' _ => by unfold execOp; go_simp; try omega⟩) hS ?_
            simp only [List.getElem_toArray, List.getElem_cons_zero, List.getElem_cons_succ, Act.put, List.setIfInBounds_toArray, List.set_cons_zero, List.set_cons_succ]
            refine wpAnyH_take (i := 2) (v := .bool true) rfl (by kernel_rfl) (by kernel_rfl) (by kernel_rfl) (fun _ _ _ h => h) (.inl ⟨by kernel_rfl, fun w' _ => by unfold execOp; go_simp⟩) hS ?_
            simp only [List.getElem_toArray, List.getElem_cons_zero, List.getElem_cons_succ, Act.put, List.setIfInBounds_toArray, List.set_cons_zero, List.set_cons_succ]
            refine wpAnyH_take (i := 3) (v := .agg #[.string x.1, .string x.2]) rfl (by kernel_rfl) (by kernel_rfl) (by kernel_rfl) (fun _ _ _ h => h) (yieldsIf_load_mid (by kernel_rfl) 25 (.tmp 5) rfl (g5) (0) rfl (encKL x) _ (fun w' hw' => rangeAt_below hw' H5'.out.2 H5'.out.1) Tryd.underlying25 rfl Tryd.info3s) hS ?_
            simp only [List.getElem_toArray, List.getElem_cons_zero, List.getElem_cons_succ, Act.put, List.setIfInBounds_toArray, List.set_cons_zero, List.set_cons_succ]
            refine wpAnyH_take (i := 4) (v := .slice (some ⟨go, 0, none⟩) len cap) rfl (by kernel_rfl) (by kernel_rfl) (by kernel_rfl) (fun _ _ _ h => h) (.inl ⟨by kernel_rfl, fun w' _ => by unfold execOp; go_simp⟩) hS ?_
            simp only [List.getElem_toArray, List.getElem_cons_zero, List.getElem_cons_succ, Act.put, List.setIfInBounds_toArray, List.set_cons_zero, List.set_cons_succ]
            refine wpAnyH_take (i := 5) (v := .int .i64 (m2 : Int)) rfl (by kernel_rfl) (by kernel_rfl) (by kernel_rfl) (fun _ _ _ h => h) (.inl ⟨by kernel_rfl, fun w' _ => by unfold execOp; go_simp⟩) hS ?_
            simp only [List.getElem_toArray, List.getElem_cons_zero, List.getElem_cons_succ, Act.put, List.setIfInBounds_toArray, List.set_cons_zero, List.set_cons_succ]
            refine wpAnyH_take (i := 6) (v := .int .i64 (m : Int)) rfl (by kernel_rfl) (by kernel_rfl) (by kernel_rfl) (fun _ _ _ h => h) (.inl ⟨by kernel_rfl, fun w' _ => by unfold execOp; go_simp; rw [show ((m2 : Int) - 1) = (m : Int) by omega]; exact wrap_small _ (by omega)⟩) hS ?_
            simp only [List.getElem_toArray, List.getElem_cons_zero, List.getElem_cons_succ, Act.put, List.setIfInBounds_toArray, List.set_cons_zero, List.set_cons_succ]
            refine wpAnyH_take (i := 7) (v := .pointer (some ⟨go, m * 2, none⟩)) rfl (by kernel_rfl) (by kernel_rfl) (by kernel_rfl) (fun _ _ _ h => h) (.inl ⟨by kernel_rfl, fun w' _ => by unfold execOp; go_simp; try (intro h; omega)⟩) hS ?_
            simp only [List.getElem_toArray, List.getElem_cons_zero, List.getElem_cons_succ, Act.put, List.setIfInBounds_toArray, List.set_cons_zero, List.set_cons_succ]
            refine wpAnyH_take (i := 8) (v := .agg #[.string y.1, .string y.2]) rfl (by kernel_rfl) (by kernel_rfl) (by kernel_rfl) (fun _ _ _ h => h) (yieldsIf_load_mid (by kernel_rfl) 25 (.tmp 23) rfl (go) (m * 2) rfl (encKL y) _ (fun w' hw' => rangeAt_below hw' HY.out.2 HY.out.1) Tryd.underlying25 rfl Tryd.info3s) hS ?_
            simp only [List.getElem_toArray, List.getElem_cons_zero, List.getElem_cons_succ, Act.put, List.setIfInBounds_toArray, List.set_cons_zero, List.set_cons_succ]
            refine wpAnyH_ready (rs := [9]) (by kernel_rfl) (by simp) ?_
            refine AllReadyH.cons rfl (fun K' hK => ?_) AllReadyH.nil
            refine r_call 9 #[.agg #[.string x.1, .string x.2], .agg #[.string y.1, .string y.2]] (by kernel_rfl) (by kernel_rfl) (.int .i64 c) (HC.out _) (fun V3 h => hK.out _ _ (hS.trans (h.mono hS.size)) (fun hS => ?_))
            simp only [List.getElem_toArray, List.getElem_cons_zero, List.getElem_cons_succ, Act.put, List.setIfInBounds_toArray, List.set_cons_zero, List.set_cons_succ]
            refine wpAnyH_take (i := 10) (v := .bool false) rfl (by kernel_rfl) (by kernel_rfl) (by kernel_rfl) (fun _ _ _ h => h) (.inl ⟨by kernel_rfl, fun w' _ => by unfold execOp; go_simp; try omega⟩) hS ?_
            simp only [List.getElem_toArray, List.getElem_cons_zero, List.getElem_cons_succ, Act.put, List.setIfInBounds_toArray, List.set_cons_zero, List.set_cons_succ]
            refine wpAnyH_take (i := 11) (v := .bool false) rfl (by kernel_rfl) (by kernel_rfl) (by kernel_rfl) (fun _ _ _ h => h) (.inl ⟨by kernel_rfl, fun w' _ => by unfold execOp; go_simp⟩) hS ?_
            simp only [List.getElem_toArray, List.getElem_cons_zero, List.getElem_cons_succ, Act.put, List.setIfInBounds_toArray, List.set_cons_zero, List.set_cons_succ]
            refine wpAnyH_done (by kernel_rfl) ?_ _
            have HB3 : Hid (Below V.heap.size V V3) := hid (HB2.out.drew.trans (hS.mono HB2.out.size))
            clear hS HY H5' HB2
            have HY : Hid (V3.drew.rangeAt go (m * 2) (encKL y)) := hid (hy ▸ rangeAt_below HB3.out HE.out.1 (HE.out.2 m (by have := HR.out.1; omega)))
            have H5' : Hid (V3.drew.rangeAt g5 0 (encKL x)) := hid (rangeAt_below HB3.out H5s.out H5.out)
            by_cases hxy : y = x
            · have heqx := eql_key y.1 y.2 x.1 x.2
              have hxx : (y.1.toList == x.1.toList && y.2.toList == x.2.toList) = true := by rw [hxy]; simp
              rw [hxx] at heqx
              clear hxx
              go_wp2_with fail
              refine wp_region_held_drew (S := fun W => W = V3.drew) (by kernel_rfl) rfl (fun hS => ?_)
              change wpAnyH _ _ _ _ _ 11 #[false, false, false, false, false, false, false, false, false, false, false] _ _
              refine wpAnyH_take (i := 0) (v := .int .i64 (m2 : Int)) rfl (by kernel_rfl) (by kernel_rfl) (by kernel_rfl) (fun _ _ _ h => h) (.inl ⟨by kernel_rfl, fun w' _ => by unfold execOp; go_simp⟩) hS ?_
              simp only [List.getElem_toArray, List.getElem_cons_zero, Act.put, List.setIfInBounds_toArray, List.set_cons_zero, List.set_cons_succ]
              refine wpAnyH_take (i := 1) (v := .bool true) rfl (by kernel_rfl) (by kernel_rfl) (by kernel_rfl) (fun _ _ _ h => h) (.inl ⟨by kernel_rfl, fun w' _ => by unfold execOp; go_simp; try omega⟩) hS ?_
              simp only [List.getElem_toArray, List.getElem_cons_zero, List.getElem_cons_succ, Act.put, List.setIfInBounds_toArray, List.set_cons_zero, List.set_cons_succ]
              refine wpAnyH_take (i := 2) (v := .bool true) rfl (by kernel_rfl) (by kernel_rfl) (by kernel_rfl) (fun _ _ _ h => h) (.inl ⟨by kernel_rfl, fun w' _ => by unfold execOp; go_simp⟩) hS ?_
              simp only [List.getElem_toArray, List.getElem_cons_zero, List.getElem_cons_succ, Act.put, List.setIfInBounds_toArray, List.set_cons_zero, List.set_cons_succ]
              refine wpAnyH_take (i := 3) (v := .slice (some ⟨go, 0, none⟩) len cap) rfl (by kernel_rfl) (by kernel_rfl) (by kernel_rfl) (fun _ _ _ h => h) (.inl ⟨by kernel_rfl, fun w' _ => by unfold execOp; go_simp⟩) hS ?_
              simp only [List.getElem_toArray, List.getElem_cons_zero, List.getElem_cons_succ, Act.put, List.setIfInBounds_toArray, List.set_cons_zero, List.set_cons_succ]
              refine wpAnyH_take (i := 4) (v := .int .i64 (m2 : Int)) rfl (by kernel_rfl) (by kernel_rfl) (by kernel_rfl) (fun _ _ _ h => h) (.inl ⟨by kernel_rfl, fun w' _ => by unfold execOp; go_simp⟩) hS ?_
              simp only [List.getElem_toArray, List.getElem_cons_zero, List.getElem_cons_succ, Act.put, List.setIfInBounds_toArray, List.set_cons_zero, List.set_cons_succ]
              refine wpAnyH_take (i := 5) (v := .int .i64 (m : Int)) rfl (by kernel_rfl) (by kernel_rfl) (by kernel_rfl) (fun _ _ _ h => h) (.inl ⟨by kernel_rfl, fun w' _ => by unfold execOp; go_simp; rw [show ((m2 : Int) - 1) = (m : Int) by omega]; exact wrap_small _ (by omega)⟩) hS ?_
              simp only [List.getElem_toArray, List.getElem_cons_zero, List.getElem_cons_succ, Act.put, List.setIfInBounds_toArray, List.set_cons_zero, List.set_cons_succ]
              refine wpAnyH_take (i := 6) (v := .pointer (some ⟨go, m * 2, none⟩)) rfl (by kernel_rfl) (by kernel_rfl) (by kernel_rfl) (fun _ _ _ h => h) (.inl ⟨by kernel_rfl, fun w' _ => by unfold execOp; go_simp; try (intro h; omega)⟩) hS ?_
              simp only [List.getElem_toArray, List.getElem_cons_zero, List.getElem_cons_succ, Act.put, List.setIfInBounds_toArray, List.set_cons_zero, List.set_cons_succ]
              refine wpAnyH_take (i := 7) (v := .agg #[.string y.1, .string y.2]) rfl (by kernel_rfl) (by kernel_rfl) (by kernel_rfl) (fun _ _ _ h => h) (yieldsIf_load_mid (by kernel_rfl) 25 (.tmp 36) rfl (go) (m * 2) rfl (encKL y) _ (fun w' hw' => hw' ▸ HY.out) Tryd.underlying25 rfl Tryd.info3s) hS ?_
              simp only [List.getElem_toArray, List.getElem_cons_zero, List.getElem_cons_succ, Act.put, List.setIfInBounds_toArray, List.set_cons_zero, List.set_cons_succ]
              refine wpAnyH_take (i := 8) (v := .agg #[.string x.1, .string x.2]) rfl (by kernel_rfl) (by kernel_rfl) (by kernel_rfl) (fun _ _ _ h => h) (yieldsIf_load_mid (by kernel_rfl) 25 (.tmp 5) rfl (g5) (0) rfl (encKL x) _ (fun w' hw' => hw' ▸ H5'.out) Tryd.underlying25 rfl Tryd.info3s) hS ?_
              simp only [List.getElem_toArray, List.getElem_cons_zero, List.getElem_cons_succ, Act.put, List.setIfInBounds_toArray, List.set_cons_zero, List.set_cons_succ]
              refine wpAnyH_take (i := 9) (v := .bool true) rfl (by kernel_rfl) (by kernel_rfl) (by kernel_rfl) (fun _ _ _ h => h) (.inl ⟨by kernel_rfl, fun w' _ => by unfold execOp; simp [go_sem, heqx]⟩) hS ?_
              simp only [List.getElem_toArray, List.getElem_cons_zero, List.getElem_cons_succ, Act.put, List.setIfInBounds_toArray, List.set_cons_zero, List.set_cons_succ]
              refine wpAnyH_take (i := 10) (v := .bool true) rfl (by kernel_rfl) (by kernel_rfl) (by kernel_rfl) (fun _ _ _ h => h) (.inl ⟨by kernel_rfl, fun w' _ => by unfold execOp; go_simp⟩) hS ?_
              simp only [List.getElem_toArray, List.getElem_cons_zero, List.getElem_cons_succ, Act.put, List.setIfInBounds_toArray, List.set_cons_zero, List.set_cons_succ]
              refine wpAnyH_done (by kernel_rfl) ?_ _
              clear hS heqx HY H5'
              go_wp2
              go_roundg (n - (p + 1))
              case measure => omega
              case rel => exact ⟨p + 1, len, rs, go, cap, by go_num, by omega, Nat.le_refl _, by omega, rfl, hid ⟨HRV.out.1, ownsRow_below HRV.out.2 HB3.out.drew⟩, hid (HBV.out.trans (HB3.out.drew.mono HBV.out.size)), hid ⟨HF.out.1, fun a => by
                  rw [HT.out, List.mem_append, List.mem_singleton, ← HF.out.2 a]
                  constructor
                  · exact .inl
                  · rintro (h | rfl)
                    · exact h
                    · have hml : m < rs.length := by have := HR.out.1; omega
                      rw [← hxy, hy, getElem!_pos rs m hml]
                      exact List.getElem_mem hml⟩⟩
            · have heqx := eql_key y.1 y.2 x.1 x.2
              have hne : (y.1.toList == x.1.toList && y.2.toList == x.2.toList) = false := by
                rw [Bool.and_eq_false_iff]
                by_cases h1 : y.1.toList = x.1.toList
                · refine .inr (beq_eq_false_iff_ne.2 fun h2 => hxy (Prod.ext (bytes_ext h1) (bytes_ext h2)))
                · exact .inl (beq_eq_false_iff_ne.2 h1)
              rw [hne] at heqx
              clear hne
              go_wp2_with fail
              refine wp_region_held_drew (S := fun W => W = V3.drew) (by kernel_rfl) rfl (fun hS => ?_)
              change wpAnyH _ _ _ _ _ 11 #[false, false, false, false, false, false, false, false, false, false, false] _ _
              refine wpAnyH_take (i := 0) (v := .int .i64 (m2 : Int)) rfl (by kernel_rfl) (by kernel_rfl) (by kernel_rfl) (fun _ _ _ h => h) (.inl ⟨by kernel_rfl, fun w' _ => by unfold execOp; go_simp⟩) hS ?_
              simp only [List.getElem_toArray, List.getElem_cons_zero, Act.put, List.setIfInBounds_toArray, List.set_cons_zero, List.set_cons_succ]
              refine wpAnyH_take (i := 1) (v := .bool true) rfl (by kernel_rfl) (by kernel_rfl) (by kernel_rfl) (fun _ _ _ h => h) (.inl ⟨by kernel_rfl, fun w' _ => by unfold execOp; go_simp; try omega⟩) hS ?_
              simp only [List.getElem_toArray, List.getElem_cons_zero, List.getElem_cons_succ, Act.put, List.setIfInBounds_toArray, List.set_cons_zero, List.set_cons_succ]
              refine wpAnyH_take (i := 2) (v := .bool true) rfl (by kernel_rfl) (by kernel_rfl) (by kernel_rfl) (fun _ _ _ h => h) (.inl ⟨by kernel_rfl, fun w' _ => by unfold execOp; go_simp⟩) hS ?_
              simp only [List.getElem_toArray, List.getElem_cons_zero, List.getElem_cons_succ, Act.put, List.setIfInBounds_toArray, List.set_cons_zero, List.set_cons_succ]
              refine wpAnyH_take (i := 3) (v := .slice (some ⟨go, 0, none⟩) len cap) rfl (by kernel_rfl) (by kernel_rfl) (by kernel_rfl) (fun _ _ _ h => h) (.inl ⟨by kernel_rfl, fun w' _ => by unfold execOp; go_simp⟩) hS ?_
              simp only [List.getElem_toArray, List.getElem_cons_zero, List.getElem_cons_succ, Act.put, List.setIfInBounds_toArray, List.set_cons_zero, List.set_cons_succ]
              refine wpAnyH_take (i := 4) (v := .int .i64 (m2 : Int)) rfl (by kernel_rfl) (by kernel_rfl) (by kernel_rfl) (fun _ _ _ h => h) (.inl ⟨by kernel_rfl, fun w' _ => by unfold execOp; go_simp⟩) hS ?_
              simp only [List.getElem_toArray, List.getElem_cons_zero, List.getElem_cons_succ, Act.put, List.setIfInBounds_toArray, List.set_cons_zero, List.set_cons_succ]
              refine wpAnyH_take (i := 5) (v := .int .i64 (m : Int)) rfl (by kernel_rfl) (by kernel_rfl) (by kernel_rfl) (fun _ _ _ h => h) (.inl ⟨by kernel_rfl, fun w' _ => by unfold execOp; go_simp; rw [show ((m2 : Int) - 1) = (m : Int) by omega]; exact wrap_small _ (by omega)⟩) hS ?_
              simp only [List.getElem_toArray, List.getElem_cons_zero, List.getElem_cons_succ, Act.put, List.setIfInBounds_toArray, List.set_cons_zero, List.set_cons_succ]
              refine wpAnyH_take (i := 6) (v := .pointer (some ⟨go, m * 2, none⟩)) rfl (by kernel_rfl) (by kernel_rfl) (by kernel_rfl) (fun _ _ _ h => h) (.inl ⟨by kernel_rfl, fun w' _ => by unfold execOp; go_simp; try (intro h; omega)⟩) hS ?_
              simp only [List.getElem_toArray, List.getElem_cons_zero, List.getElem_cons_succ, Act.put, List.setIfInBounds_toArray, List.set_cons_zero, List.set_cons_succ]
              refine wpAnyH_take (i := 7) (v := .agg #[.string y.1, .string y.2]) rfl (by kernel_rfl) (by kernel_rfl) (by kernel_rfl) (fun _ _ _ h => h) (yieldsIf_load_mid (by kernel_rfl) 25 (.tmp 36) rfl (go) (m * 2) rfl (encKL y) _ (fun w' hw' => hw' ▸ HY.out) Tryd.underlying25 rfl Tryd.info3s) hS ?_
              simp only [List.getElem_toArray, List.getElem_cons_zero, List.getElem_cons_succ, Act.put, List.setIfInBounds_toArray, List.set_cons_zero, List.set_cons_succ]
              refine wpAnyH_take (i := 8) (v := .agg #[.string x.1, .string x.2]) rfl (by kernel_rfl) (by kernel_rfl) (by kernel_rfl) (fun _ _ _ h => h) (yieldsIf_load_mid (by kernel_rfl) 25 (.tmp 5) rfl (g5) (0) rfl (encKL x) _ (fun w' hw' => hw' ▸ H5'.out) Tryd.underlying25 rfl Tryd.info3s) hS ?_
              simp only [List.getElem_toArray, List.getElem_cons_zero, List.getElem_cons_succ, Act.put, List.setIfInBounds_toArray, List.set_cons_zero, List.set_cons_succ]
              refine wpAnyH_take (i := 9) (v := .bool false) rfl (by kernel_rfl) (by kernel_rfl) (by kernel_rfl) (fun _ _ _ h => h) (.inl ⟨by kernel_rfl, fun w' _ => by unfold execOp; simp [go_sem, heqx]⟩) hS ?_
              simp only [List.getElem_toArray, List.getElem_cons_zero, List.getElem_cons_succ, Act.put, List.setIfInBounds_toArray, List.set_cons_zero, List.set_cons_succ]
              refine wpAnyH_take (i := 10) (v := .bool false) rfl (by kernel_rfl) (by kernel_rfl) (by kernel_rfl) (fun _ _ _ h => h) (.inl ⟨by kernel_rfl, fun w' _ => by unfold execOp; go_simp⟩) hS ?_
              simp only [List.getElem_toArray, List.getElem_cons_zero, List.getElem_cons_succ, Act.put, List.setIfInBounds_toArray, List.set_cons_zero, List.set_cons_succ]
              refine wpAnyH_done (by kernel_rfl) ?_ _
              clear hS heqx HY H5'
              go_wp2_with fail
              have HBU : Hid (Below V.heap.size V V3.drew.drew) := hid HB3.out.drew.drew
              clear HB3
              generalize V3.drew = U at HBU ⊢
              have HBW : Hid (Below w.heap.size w U.drew) := hid (HBV.out.trans (HBU.out.mono HBV.out.size))
              have HEU : Hid (Elems encK 2 U.heap.size U.drew (some ⟨go, 0, none⟩) rs) := hid (fun j hj => ⟨go, 0, rfl, Nat.lt_of_lt_of_le HE.out.1 HBU.out.size, by
                have := HE.out.2 j hj
                rw [getElem!_pos rs j hj] at this
                rw [Nat.zero_add]
                exact rangeAt_below HBU.out HE.out.1 this⟩)
              have H5U : Hid (U.drew.rangeAt g5 0 (encKL x) ∧ g5 < U.heap.size) := hid ⟨rangeAt_below HBU.out H5s.out H5.out, Nat.lt_of_lt_of_le H5s.out HBU.out.size⟩

              have HINS := hid (ins_rising rs x m2 (by have := HR.out.1; omega) HF.out.1 (fun q hq => by
                obtain rfl : q = m := by omega
                rw [← hy]
                exact ⟨fun h => absurd (HL.out.2 h) (by omega), hxy⟩) (fun j h1 h2 => HG.out j h1 (by have := HR.out.1; omega)))
              refine wp_region_held_drew (S := fun W => Below U.heap.size U.drew W) (by kernel_rfl) (Below.refl _ _) (fun hS => ?_)
              change wpAnyH _ _ _ _ _ 13 #[false, false, false, false, false, false, false, false, false, false, false, false, false] _ _
              refine wpAnyH_take (i := 1) (v := .slice (some ⟨go, 0, none⟩) len cap) rfl (by kernel_rfl) (by kernel_rfl) (by kernel_rfl) (fun _ _ _ h => h) (.inl ⟨by kernel_rfl, fun w' _ => by unfold execOp; go_simp⟩) hS ?_
              simp only [List.getElem_toArray, List.getElem_cons_zero, List.getElem_cons_succ, Act.put, List.setIfInBounds_toArray, List.set_cons_zero, List.set_cons_succ]
              refine wpAnyH_take (i := 2) (v := .int .i64 (m2 : Int)) rfl (by kernel_rfl) (by kernel_rfl) (by kernel_rfl) (fun _ _ _ h => h) (.inl ⟨by kernel_rfl, fun w' _ => by unfold execOp; go_simp⟩) hS ?_
              simp only [List.getElem_toArray, List.getElem_cons_zero, List.getElem_cons_succ, Act.put, List.setIfInBounds_toArray, List.set_cons_zero, List.set_cons_succ]
              refine wpAnyH_take (i := 3) (v := .slice (some ⟨go, 0, none⟩) m2 cap) rfl (by kernel_rfl) (by kernel_rfl) (by kernel_rfl) (fun _ _ _ h => h) (.inl ⟨by kernel_rfl, fun w' _ => exec_cutHK (.tmp 42) (.tmp 43) rfl (some ⟨go, 0, none⟩) len cap m2 rfl rfl (by omega)⟩) hS ?_
              simp only [List.getElem_toArray, List.getElem_cons_zero, List.getElem_cons_succ, Act.put, List.setIfInBounds_toArray, List.set_cons_zero, List.set_cons_succ]
              refine wpAnyH_take (i := 5) (v := .agg #[.string x.1, .string x.2]) rfl (by kernel_rfl) (by kernel_rfl) (by kernel_rfl) (fun _ _ _ h => h) (yieldsIf_load_mid (by kernel_rfl) 25 (.tmp 5) rfl (g5) (0) rfl (encKL x) _ (fun w' hw' => rangeAt_below hw' H5U.out.2 H5U.out.1) Tryd.underlying25 rfl Tryd.info3s) hS ?_
              simp only [List.getElem_toArray, List.getElem_cons_zero, List.getElem_cons_succ, Act.put, List.setIfInBounds_toArray, List.set_cons_zero, List.set_cons_succ]
              refine wpAnyH_take (i := 8) (v := .slice (some ⟨go, 0, none⟩) len cap) rfl (by kernel_rfl) (by kernel_rfl) (by kernel_rfl) (fun _ _ _ h => h) (.inl ⟨by kernel_rfl, fun w' _ => by unfold execOp; go_simp⟩) hS ?_
              simp only [List.getElem_toArray, List.getElem_cons_zero, List.getElem_cons_succ, Act.put, List.setIfInBounds_toArray, List.set_cons_zero, List.set_cons_succ]
              refine wpAnyH_take (i := 9) (v := .int .i64 (m2 : Int)) rfl (by kernel_rfl) (by kernel_rfl) (by kernel_rfl) (fun _ _ _ h => h) (.inl ⟨by kernel_rfl, fun w' _ => by unfold execOp; go_simp⟩) hS ?_
              simp only [List.getElem_toArray, List.getElem_cons_zero, List.getElem_cons_succ, Act.put, List.setIfInBounds_toArray, List.set_cons_zero, List.set_cons_succ]
              refine wpAnyH_take (i := 10) (v := .slice (cutK (some ⟨go, 0, none⟩) cap m2) (len - m2) (cap - m2)) rfl (by kernel_rfl) (by kernel_rfl) (by kernel_rfl) (fun _ _ _ h => h) (.inl ⟨by kernel_rfl, fun w' _ => exec_cutLK (.tmp 49) (.tmp 50) rfl (some ⟨go, 0, none⟩) len cap m2 rfl rfl (by omega)⟩) hS ?_
              simp only [List.getElem_toArray, List.getElem_cons_zero, List.getElem_cons_succ, Act.put, List.setIfInBounds_toArray, List.set_cons_zero, List.set_cons_succ]
              have HT2 : Hid ((rs.take m2).length = m2) := hid (by rw [List.length_take]; have := HR.out.1; omega)
              have hln : len = rs.length := HR.out.1
              have HDL : Hid ((rs.drop m2).length = len - m2) := hid (by rw [List.length_drop, hln])
              have HD := elems_drop HEU.out (by omega : rs.length ≤ cap) (fun e => by cases e) m2 (by omega)
              refine wpAnyH_ready (rs := [0, 6]) (by kernel_rfl) (by simp) ?_
              refine AllReadyH.cons rfl (fun K' hK => ?_) (AllReadyH.cons rfl (fun K' hK => ?_) AllReadyH.nil)
              ·
                refine r_lit0 rfl U.heap.size (by first | exact Nat.le_refl _ | exact hS.size) (by kernel_rfl) (fun A hoA hzA hgA => hK.out _ _ (hS.grown hgA (by first | exact Nat.le_refl _ | exact hS.size) (fun k e => by cases e)) (fun hS => ?_))
                simp only [List.getElem_toArray, List.getElem_cons_zero, Act.put, List.setIfInBounds_toArray, List.set_cons_zero, List.set_cons_succ]
                refine wpAnyH_ready (rs := [4, 6]) (by kernel_rfl) (by simp) ?_
                refine AllReadyH.cons rfl (fun K' hK => ?_) (AllReadyH.cons rfl (fun K' hK => ?_) AllReadyH.nil)
                ·
                  have own0 := hoA
                  refine r_appK (.tmp 41) (.tmp 44) rfl U.heap.size _ 0 (flat encK []) rfl own0 (some ⟨go, 0, none⟩) m2 cap (rs.take m2) rfl HT2.out U.heap.size ((elems_take HEU.out m2).below hS) (fun e => by cases e) (by omega) hS.size (by kernel_rfl) (fun v1 w1 h1 q1 => hK.out _ _ (hS.grown q1 (by first | exact Nat.le_refl _ | exact hS.size) (fun k e => own_block_le own0 e)) (fun hS => ?_))
                  simp only [List.getElem_toArray, List.getElem_cons_zero, List.getElem_cons_succ, Act.put, List.setIfInBounds_toArray, List.set_cons_zero, List.set_cons_succ]
                  refine wpAnyH_ready (rs := [6]) (by kernel_rfl) (by simp) ?_
                  refine AllReadyH.cons rfl (fun K' hK => ?_) AllReadyH.nil
                  refine r_lit1 (.tmp 46) rfl x rfl (by kernel_rfl) (fun C hlC hzC hgC => hK.out _ _ (hS.grown hgC (by first | exact Nat.le_refl _ | exact hS.size) (fun k e => by cases e)) (fun hS => ?_))
                  simp only [List.getElem_toArray, List.getElem_cons_zero, List.getElem_cons_succ, Act.put, List.setIfInBounds_toArray, List.set_cons_zero, List.set_cons_succ]
                  have own1 := ownsRow_below h1 (grown_below hgC)
                  have lit1 := hlC
                  refine wpAnyH_ready (rs := [7]) (by kernel_rfl) (by simp) ?_
                  refine AllReadyH.cons rfl (fun K' hK => ?_) AllReadyH.nil
                  refine r_appK (.tmp 45) (.tmp 47) rfl U.heap.size v1 _ _ rfl own1 _ 1 1 [x] rfl rfl _ lit1 (fun e => by cases e) (by omega) hS.size (by kernel_rfl) (fun v2 w2 h2 q2 => hK.out _ _ (hS.grown q2 (by first | exact Nat.le_refl _ | exact hS.size) (fun k e => own_block_le own1 e)) (fun hS => ?_))
                  simp only [List.getElem_toArray, List.getElem_cons_zero, List.getElem_cons_succ, Act.put, List.setIfInBounds_toArray, List.set_cons_zero, List.set_cons_succ]
                  refine wpAnyH_ready (rs := [11]) (by kernel_rfl) (by simp) ?_
                  refine AllReadyH.cons rfl (fun K' hK => ?_) AllReadyH.nil
                  refine r_appK (.tmp 48) (.tmp 51) rfl U.heap.size v2 _ _ rfl h2 (cutK (some ⟨go, 0, none⟩) cap m2) (len - m2) (cap - m2) (rs.drop m2) rfl HDL.out U.heap.size (HD.1.below hS) (fun e => by have := HD.2 e; omega) (by omega) hS.size (by kernel_rfl) (fun v3 w3 h3 q3 => ?_)
                  have h4 := own_ins hln hm2 h3
                  have hbk := fun k (e : v2.ownBlock = some k) => own_block_le h2 e
                  obtain ⟨g', cap', rfl⟩ := ownsRow_succ h4
                  refine hK.out _ _ (hS.grown q3 (by first | exact Nat.le_refl _ | exact hS.size) (fun k e => hbk k e)) (fun hS => ?_)
                  simp only [List.getElem_toArray, List.getElem_cons_zero, List.getElem_cons_succ, Act.put, List.setIfInBounds_toArray, List.set_cons_zero, List.set_cons_succ]
                  refine wpAnyH_take (i := 12) (v := .slice (some ⟨g', 0, none⟩) (len + 1) cap') rfl (by kernel_rfl) (by kernel_rfl) (by kernel_rfl) (fun _ _ _ h => h) (.inl ⟨by kernel_rfl, fun w' _ => by unfold execOp; go_simp⟩) hS ?_
                  simp only [List.getElem_toArray, List.getElem_cons_zero, List.getElem_cons_succ, Act.put, List.setIfInBounds_toArray, List.set_cons_zero, List.set_cons_succ]
                  refine wpAnyH_done (by kernel_rfl) ?_ _
                  have HF9 : Hid ((len + 1 = (rs.take m2 ++ (x :: rs.drop m2)).length ∧ w3.ownsRow w.heap.size 25 2 (.slice (some ⟨g', 0, none⟩) (len + 1) cap') (len + 1) (flat encK (rs.take m2 ++ (x :: rs.drop m2)))) ∧ Below w.heap.size w w3 ∧ Rising (rs.take m2 ++ (x :: rs.drop m2)) ∧ ∀ a, a ∈ rs.take m2 ++ (x :: rs.drop m2) ↔ a ∈ xs.take (p + 1)) := hid ⟨⟨by rw [List.length_append, List.length_cons, HT2.out, HDL.out]; omega, ownsRow_mono h4 HBW.out.size⟩, HBW.out.trans (hS.mono HBW.out.size), HINS.out.1, fun a => by rw [HINS.out.2 a, HT.out, List.mem_append, List.mem_singleton, HF.out.2 a]; exact Or.comm⟩
                  clear hS h4 h3 h2 own1 lit1 HD HEU H5U hK hln
                  go_wp2
                  go_roundg (n - (p + 1))
                  case measure => omega
                  case rel => exact ⟨p + 1, len + 1, _, g', cap', by go_num, by omega, Nat.le_refl _, by omega, rfl, hid HF9.out.1, hid HF9.out.2.1, hid HF9.out.2.2⟩
                ·
                  refine r_lit1 (.tmp 46) rfl x rfl (by kernel_rfl) (fun B hlB hzB hgB => hK.out _ _ (hS.grown hgB (by first | exact Nat.le_refl _ | exact hS.size) (fun k e => by cases e)) (fun hS => ?_))
                  simp only [List.getElem_toArray, List.getElem_cons_zero, List.getElem_cons_succ, Act.put, List.setIfInBounds_toArray, List.set_cons_zero, List.set_cons_succ]
                  refine wpAnyH_ready (rs := [4]) (by kernel_rfl) (by simp) ?_
                  refine AllReadyH.cons rfl (fun K' hK => ?_) AllReadyH.nil
                  have own0 := ownsRow_below hoA (grown_below hgB)
                  refine r_appK (.tmp 41) (.tmp 44) rfl U.heap.size _ 0 (flat encK []) rfl own0 (some ⟨go, 0, none⟩) m2 cap (rs.take m2) rfl HT2.out U.heap.size ((elems_take HEU.out m2).below hS) (fun e => by cases e) (by omega) hS.size (by kernel_rfl) (fun v1 w1 h1 q1 => hK.out _ _ (hS.grown q1 (by first | exact Nat.le_refl _ | exact hS.size) (fun k e => own_block_le own0 e)) (fun hS => ?_))
                  simp only [List.getElem_toArray, List.getElem_cons_zero, List.getElem_cons_succ, Act.put, List.setIfInBounds_toArray, List.set_cons_zero, List.set_cons_succ]
                  have own1 := h1
                  have lit1 := elems_grown hlB (by omega) q1 (fun e => absurd (Option.some.inj (show some A.heap.size = some U.drew.heap.size from e)) (by omega))
                  refine wpAnyH_ready (rs := [7]) (by kernel_rfl) (by simp) ?_
                  refine AllReadyH.cons rfl (fun K' hK => ?_) AllReadyH.nil
                  refine r_appK (.tmp 45) (.tmp 47) rfl U.heap.size v1 _ _ rfl own1 _ 1 1 [x] rfl rfl _ lit1 (fun e => by cases e) (by omega) hS.size (by kernel_rfl) (fun v2 w2 h2 q2 => hK.out _ _ (hS.grown q2 (by first | exact Nat.le_refl _ | exact hS.size) (fun k e => own_block_le own1 e)) (fun hS => ?_))
                  simp only [List.getElem_toArray, List.getElem_cons_zero, List.getElem_cons_succ, Act.put, List.setIfInBounds_toArray, List.set_cons_zero, List.set_cons_succ]
                  refine wpAnyH_ready (rs := [11]) (by kernel_rfl) (by simp) ?_
                  refine AllReadyH.cons rfl (fun K' hK => ?_) AllReadyH.nil
                  refine r_appK (.tmp 48) (.tmp 51) rfl U.heap.size v2 _ _ rfl h2 (cutK (some ⟨go, 0, none⟩) cap m2) (len - m2) (cap - m2) (rs.drop m2) rfl HDL.out U.heap.size (HD.1.below hS) (fun e => by have := HD.2 e; omega) (by omega) hS.size (by kernel_rfl) (fun v3 w3 h3 q3 => ?_)
                  have h4 := own_ins hln hm2 h3
                  have hbk := fun k (e : v2.ownBlock = some k) => own_block_le h2 e
                  obtain ⟨g', cap', rfl⟩ := ownsRow_succ h4
                  refine hK.out _ _ (hS.grown q3 (by first | exact Nat.le_refl _ | exact hS.size) (fun k e => hbk k e)) (fun hS => ?_)
                  simp only [List.getElem_toArray, List.getElem_cons_zero, List.getElem_cons_succ, Act.put, List.setIfInBounds_toArray, List.set_cons_zero, List.set_cons_succ]
                  refine wpAnyH_take (i := 12) (v := .slice (some ⟨g', 0, none⟩) (len + 1) cap') rfl (by kernel_rfl) (by kernel_rfl) (by kernel_rfl) (fun _ _ _ h => h) (.inl ⟨by kernel_rfl, fun w' _ => by unfold execOp; go_simp⟩) hS ?_
                  simp only [List.getElem_toArray, List.getElem_cons_zero, List.getElem_cons_succ, Act.put, List.setIfInBounds_toArray, List.set_cons_zero, List.set_cons_succ]
                  refine wpAnyH_done (by kernel_rfl) ?_ _
                  have HF9 : Hid ((len + 1 = (rs.take m2 ++ (x :: rs.drop m2)).length ∧ w3.ownsRow w.heap.size 25 2 (.slice (some ⟨g', 0, none⟩) (len + 1) cap') (len + 1) (flat encK (rs.take m2 ++ (x :: rs.drop m2)))) ∧ Below w.heap.size w w3 ∧ Rising (rs.take m2 ++ (x :: rs.drop m2)) ∧ ∀ a, a ∈ rs.take m2 ++ (x :: rs.drop m2) ↔ a ∈ xs.take (p + 1)) := hid ⟨⟨by rw [List.length_append, List.length_cons, HT2.out, HDL.out]; omega, ownsRow_mono h4 HBW.out.size⟩, HBW.out.trans (hS.mono HBW.out.size), HINS.out.1, fun a => by rw [HINS.out.2 a, HT.out, List.mem_append, List.mem_singleton, HF.out.2 a]; exact Or.comm⟩
                  clear hS h4 h3 h2 own1 lit1 HD HEU H5U hK hln
                  go_wp2
                  go_roundg (n - (p + 1))
                  case measure => omega
                  case rel => exact ⟨p + 1, len + 1, _, g', cap', by go_num, by omega, Nat.le_refl _, by omega, rfl, hid HF9.out.1, hid HF9.out.2.1, hid HF9.out.2.2⟩
              ·
                refine r_lit1 (.tmp 46) rfl x rfl (by kernel_rfl) (fun A hlA hzA hgA => hK.out _ _ (hS.grown hgA (by first | exact Nat.le_refl _ | exact hS.size) (fun k e => by cases e)) (fun hS => ?_))
                simp only [List.getElem_toArray, List.getElem_cons_zero, List.getElem_cons_succ, Act.put, List.setIfInBounds_toArray, List.set_cons_zero, List.set_cons_succ]
                refine wpAnyH_ready (rs := [0]) (by kernel_rfl) (by simp) ?_
                refine AllReadyH.cons rfl (fun K' hK => ?_) AllReadyH.nil
                refine r_lit0 rfl U.heap.size (by first | exact Nat.le_refl _ | exact hS.size) (by kernel_rfl) (fun B hoB hzB hgB => hK.out _ _ (hS.grown hgB (by first | exact Nat.le_refl _ | exact hS.size) (fun k e => by cases e)) (fun hS => ?_))
                simp only [List.getElem_toArray, List.getElem_cons_zero, Act.put, List.setIfInBounds_toArray, List.set_cons_zero, List.set_cons_succ]
                refine wpAnyH_ready (rs := [4]) (by kernel_rfl) (by simp) ?_
                refine AllReadyH.cons rfl (fun K' hK => ?_) AllReadyH.nil
                have own0 := hoB
                refine r_appK (.tmp 41) (.tmp 44) rfl U.heap.size _ 0 (flat encK []) rfl own0 (some ⟨go, 0, none⟩) m2 cap (rs.take m2) rfl HT2.out U.heap.size ((elems_take HEU.out m2).below hS) (fun e => by cases e) (by omega) hS.size (by kernel_rfl) (fun v1 w1 h1 q1 => hK.out _ _ (hS.grown q1 (by first | exact Nat.le_refl _ | exact hS.size) (fun k e => own_block_le own0 e)) (fun hS => ?_))
                simp only [List.getElem_toArray, List.getElem_cons_zero, List.getElem_cons_succ, Act.put, List.setIfInBounds_toArray, List.set_cons_zero, List.set_cons_succ]
                have own1 := h1
                have lit1 := elems_grown (elems_grown hlA (by omega) hgB (fun e => by cases e)) (by omega) q1 (fun e => absurd (Option.some.inj (show some U.drew.heap.size = some A.heap.size from e)) (by omega))
                refine wpAnyH_ready (rs := [7]) (by kernel_rfl) (by simp) ?_
                refine AllReadyH.cons rfl (fun K' hK => ?_) AllReadyH.nil
                refine r_appK (.tmp 45) (.tmp 47) rfl U.heap.size v1 _ _ rfl own1 _ 1 1 [x] rfl rfl _ lit1 (fun e => by cases e) (by omega) hS.size (by kernel_rfl) (fun v2 w2 h2 q2 => hK.out _ _ (hS.grown q2 (by first | exact Nat.le_refl _ | exact hS.size) (fun k e => own_block_le own1 e)) (fun hS => ?_))
                simp only [List.getElem_toArray, List.getElem_cons_zero, List.getElem_cons_succ, Act.put, List.setIfInBounds_toArray, List.set_cons_zero, List.set_cons_succ]
                refine wpAnyH_ready (rs := [11]) (by kernel_rfl) (by simp) ?_
                refine AllReadyH.cons rfl (fun K' hK => ?_) AllReadyH.nil
                refine r_appK (.tmp 48) (.tmp 51) rfl U.heap.size v2 _ _ rfl h2 (cutK (some ⟨go, 0, none⟩) cap m2) (len - m2) (cap - m2) (rs.drop m2) rfl HDL.out U.heap.size (HD.1.below hS) (fun e => by have := HD.2 e; omega) (by omega) hS.size (by kernel_rfl) (fun v3 w3 h3 q3 => ?_)
                have h4 := own_ins hln hm2 h3
                have hbk := fun k (e : v2.ownBlock = some k) => own_block_le h2 e
                obtain ⟨g', cap', rfl⟩ := ownsRow_succ h4
                refine hK.out _ _ (hS.grown q3 (by first | exact Nat.le_refl _ | exact hS.size) (fun k e => hbk k e)) (fun hS => ?_)
                simp only [List.getElem_toArray, List.getElem_cons_zero, List.getElem_cons_succ, Act.put, List.setIfInBounds_toArray, List.set_cons_zero, List.set_cons_succ]
                refine wpAnyH_take (i := 12) (v := .slice (some ⟨g', 0, none⟩) (len + 1) cap') rfl (by kernel_rfl) (by kernel_rfl) (by kernel_rfl) (fun _ _ _ h => h) (.inl ⟨by kernel_rfl, fun w' _ => by unfold execOp; go_simp⟩) hS ?_
                simp only [List.getElem_toArray, List.getElem_cons_zero, List.getElem_cons_succ, Act.put, List.setIfInBounds_toArray, List.set_cons_zero, List.set_cons_succ]
                refine wpAnyH_done (by kernel_rfl) ?_ _
                have HF9 : Hid ((len + 1 = (rs.take m2 ++ (x :: rs.drop m2)).length ∧ w3.ownsRow w.heap.size 25 2 (.slice (some ⟨g', 0, none⟩) (len + 1) cap') (len + 1) (flat encK (rs.take m2 ++ (x :: rs.drop m2)))) ∧ Below w.heap.size w w3 ∧ Rising (rs.take m2 ++ (x :: rs.drop m2)) ∧ ∀ a, a ∈ rs.take m2 ++ (x :: rs.drop m2) ↔ a ∈ xs.take (p + 1)) := hid ⟨⟨by rw [List.length_append, List.length_cons, HT2.out, HDL.out]; omega, ownsRow_mono h4 HBW.out.size⟩, HBW.out.trans (hS.mono HBW.out.size), HINS.out.1, fun a => by rw [HINS.out.2 a, HT.out, List.mem_append, List.mem_singleton, HF.out.2 a]; exact Or.comm⟩
                clear hS h4 h3 h2 own1 lit1 HD HEU H5U hK hln
                go_wp2
                go_roundg (n - (p + 1))
                case measure => omega
                case rel => exact ⟨p + 1, len + 1, _, g', cap', by go_num, by omega, Nat.le_refl _, by omega, rfl, hid HF9.out.1, hid HF9.out.2.1, hid HF9.out.2.2⟩
    · obtain rfl : p = n := by omega
      have F : Hid (∃ v rs, Ending.returned (.slice (some ⟨go, 0, none⟩) len cap) = .returned v ∧ wr.ownsRow w.heap.size 25 2 v rs.length (flat encK rs) ∧ Below w.heap.size w wr ∧ Rising rs ∧ ∀ a, a ∈ rs ↔ a ∈ xs) := hid ⟨_, rs, rfl, by have h := HR.out; rw [← h.1]; exact h.2, HB.out, HF.out.1, fun a => by
        have := HF.out.2 a
        rwa [List.take_of_length_le (by have := Hn.out; omega)] at this⟩
      clear HI
      go_wp2
      go_ret
      exact F.out
end Go.Proofs.YtnlhdeffoalhiaaDoor
