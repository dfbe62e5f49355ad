/-
  whole: the frame that waits.
-/
import Derived.Test.YtkpjdjenlmodnaaDoorEwh0
namespace Go.Proofs.YtkpjdjenlmodnaaDoor
open Go.RowKit Go.Lib

section
variable {w w' : World} {c : Nat} {p : List Int} {n : Nat} {b : Bool}
theorem frame_one {v : Value} (x : Int) (h : v.oneCell' = true) : (#[Value.int .i64 x, v] : Array Value).all (·.oneCell') = true := by
  have h0 : (Value.int .i64 x).oneCell' = true := rfl
  simp [h0, h]
theorem Tryd.infoFrameN : (Tryd.prog.info? 46).map (·.size) = some 2 := by kernel_rfl

/-- What whole ends in. -/
def WholeEnd (f : Fr) (w : World) (e : Ending) (w' : World) : Prop := ∃ v, e = .returned (.agg #[.int .i64 f.1, v]) ∧ BodyA (fun g => w.heap.size ≤ g) w' v f.2 ∧ Below w.heap.size w w'

set_option linter.unusedSimpArgs false in
set_option maxRecDepth 100000 in
set_option maxHeartbeats 8000000 in
theorem whole_any (h : Str w c p n b) (h1 : 1 ≤ hdN p) (h2 : p.length = 2 + hdN p) : Calls Tryd.prog 24 #[.pointer (some ⟨c, 0, none⟩)] w (WholeEnd (frm p) w) := by
  obtain ⟨W0, hW0⟩ : ∃ W, W = w.alloc (.cells #[.int .i64 0, .slice none 0 0] 46) := ⟨_, rfl⟩
  have hlt := h.lt
  have hle := h.le
  have s0 : W0.heap.size = w.heap.size + 1 := by rw [hW0]; simp
  have b0 : Below w.heap.size w W0 := hW0 ▸ (Below.refl _ _).alloc (Nat.le_refl _) _
  have k0 : Blk W0 w.heap.size 46 #[.int .i64 0, .slice none 0 0] := hW0 ▸ Blk.new w _ _
  obtain ⟨q, hq⟩ : ∃ q, q = p.drop 2 := ⟨_, rfl⟩
  have hql : q.length = p.length - 2 := by rw [hq, List.length_drop]
  have hqg : ∀ j, q.getD j 0 = p.getD (2 + j) 0 := fun j => by rw [hq]; simp [List.getD, List.getElem?_drop]
  have hqb : ∀ j, 0 ≤ q.getD j 0 ∧ q.getD j 0 ≤ 255 := fun j => by rw [hqg]; exact h.byte _
  have HA : Hid (∀ V, Below w.heap.size w V → Calls Tryd.prog 29 #[.slice (some ⟨c, 2, none⟩) (p.length - 2) 1200] V fun e w' => ∃ c' ad' cap', e = .returned (.pointer (some ⟨c', 0, none⟩)) ∧ Cur w' 78 c' ad' cap' q 0 .nilIface ∧ V.heap.size ≤ c' ∧ (∀ g o, ad' = some ⟨g, o, none⟩ → 0 < q.length → V.heap.size ≤ g) ∧ Below V.heap.size V w') := hid fun V hV => by
    have := at_any V V.heap.size (some ⟨c, 2, none⟩) 1200 q (fun j hj => ⟨c, 2, rfl, Nat.ne_of_lt (Nat.lt_of_lt_of_le hlt hV.size), by
      rw [(h.kept hV).cellP (2 + j) (by omega), hqg]⟩) (fun e => by cases e) (by omega) hqb
    rw [hql] at this ⊢
    exact this
  have HW : Hid (∀ V, Below w.heap.size w V → V.cell? ⟨c, 1202, none⟩ = some (.int .i64 p.length)) := hid fun V hV => (h.kept hV).cellW
  have HSl := hid (fun V => slice_arr2 c p.length (by omega) hle V)
  have hf1 : ((accN q 0 1 : Nat) : Int) = (frm p).1 := by
    simp only [accN, Nat.zero_mul, Nat.zero_add]
    rw [hqg, frm, Int.toNat_of_nonneg (h.byte _).1]
  have hf2 : (q.drop 1).take (q.length - 1) = (frm p).2 := by
    rw [hq, List.drop_drop, List.length_drop, h2, show 2 + hdN p - 2 - 1 = hdN p - 1 by omega]
    rfl
  have hf3 : (frm p).2.length = q.length - 1 := by rw [← hf2, List.length_take, List.length_drop]; omega
  obtain ⟨f, hf⟩ : ∃ f, f = frm p := ⟨_, rfl⟩
  rw [← hf] at hf1 hf2 hf3 ⊢
  have HW0 := hid hW0.symm
  have B0 : Hid (Below w.heap.size w W0.drew) := hid b0.drew
  have K0 : Hid (Blk W0.drew w.heap.size 46 #[.int .i64 0, .slice none 0 0]) := hid k0
  have S0 : Hid (W0.drew.heap.size = w.heap.size + 1) := hid s0
  have hl1 : 1 ≤ q.length := by omega
  have HF3 := hid hf3
  have HQ := hid hqb
  obtain ⟨pl, hpl⟩ : ∃ pl, pl = p.length := ⟨_, rfl⟩
  rw [← hpl] at HA HW HSl
  clear hf3 h hW0 b0 k0 s0 hq hqg hqb hf h1 h2 hle hpl hql
  go_enter Tryd.func24, Tryd.ntmps24
  go_upto_region 1 with fail
  rw [HW0.out]
  refine wp_region_held_drew (S := fun V => Below w.heap.size w V) (by kernel_rfl) B0.out (fun hS => ?_)
  change wpAnyH _ _ _ _ _ 10 #[false, false, false, false, false, false, false, false, false, false] _ _
  refine wpAnyH_take (i := 0) (v := .pointer (some ⟨c, 0, none⟩)) rfl (by kernel_rfl) (by kernel_rfl) (by kernel_rfl) (fun _ _ _ h => h) (.inl ⟨by kernel_rfl, fun V hV => by unfold execOp; go_simp⟩) hS ?_
  simp only [List.getElem_toArray, List.getElem_cons_zero, List.getElem_cons_succ, Act.put, List.setIfInBounds_toArray, List.set_cons_zero, List.set_cons_succ]
  refine wpAnyH_take (i := 1) (v := .pointer (some ⟨c, 0, none⟩)) rfl (by kernel_rfl) (by kernel_rfl) (by kernel_rfl) (fun _ _ _ h => h) (.inl ⟨by kernel_rfl, fun V hV => by unfold execOp; go_simp⟩) hS ?_
  simp only [List.getElem_toArray, List.getElem_cons_zero, List.getElem_cons_succ, Act.put, List.setIfInBounds_toArray, List.set_cons_zero, List.set_cons_succ]
  refine wpAnyH_take (i := 2) (v := .pointer (some ⟨c, 0, none⟩)) rfl (by kernel_rfl) (by kernel_rfl) (by kernel_rfl) (fun _ _ _ h => h) (.inl ⟨by kernel_rfl, fun V hV => by unfold execOp; go_simp⟩) hS ?_
  simp only [List.getElem_toArray, List.getElem_cons_zero, List.getElem_cons_succ, Act.put, List.setIfInBounds_toArray, List.set_cons_zero, List.set_cons_succ]
  refine wpAnyH_take (i := 3) (v := .pointer (some ⟨c, 0, none⟩)) rfl (by kernel_rfl) (by kernel_rfl) (by kernel_rfl) (fun _ _ _ h => h) (.inl ⟨by kernel_rfl, fun V hV => by unfold execOp; go_simp⟩) hS ?_
  simp only [List.getElem_toArray, List.getElem_cons_zero, List.getElem_cons_succ, Act.put, List.setIfInBounds_toArray, List.set_cons_zero, List.set_cons_succ]
  refine wpAnyH_take (i := 4) (v := .pointer (some ⟨c, 0, none⟩)) rfl (by kernel_rfl) (by kernel_rfl) (by kernel_rfl) (fun _ _ _ h => h) (.inl ⟨by kernel_rfl, fun V hV => by unfold execOp; go_simp⟩) hS ?_
  simp only [List.getElem_toArray, List.getElem_cons_zero, List.getElem_cons_succ, Act.put, List.setIfInBounds_toArray, List.set_cons_zero, List.set_cons_succ]
  refine wpAnyH_take (i := 5) (v := .pointer (some ⟨c, 1202, none⟩)) rfl (by kernel_rfl) (by kernel_rfl) (by kernel_rfl) (fun _ _ _ h => h) (.inl ⟨by kernel_rfl, fun V hV => by unfold execOp; go_simp⟩) hS ?_
  simp only [List.getElem_toArray, List.getElem_cons_zero, List.getElem_cons_succ, Act.put, List.setIfInBounds_toArray, List.set_cons_zero, List.set_cons_succ]
  refine wpAnyH_take (i := 6) (v := .int .i64 (pl : Int)) rfl (by kernel_rfl) (by kernel_rfl) (by kernel_rfl) (fun _ _ _ h => h) (.inl ⟨by kernel_rfl, fun V hV => by have c0 := HW.out V hV; unfold execOp; go_simp⟩) hS ?_
  simp only [List.getElem_toArray, List.getElem_cons_zero, List.getElem_cons_succ, Act.put, List.setIfInBounds_toArray, List.set_cons_zero, List.set_cons_succ]
  refine wpAnyH_take (i := 7) (v := .slice (some ⟨c, 2, none⟩) (pl - 2) 1200) rfl (by kernel_rfl) (by kernel_rfl) (by kernel_rfl) (fun _ _ _ h => h) (.inl ⟨by kernel_rfl, fun V hV => by have s0 := HSl.out V; unfold execOp; go_simp⟩) hS ?_
  simp only [List.getElem_toArray, List.getElem_cons_zero, List.getElem_cons_succ, Act.put, List.setIfInBounds_toArray, List.set_cons_zero, List.set_cons_succ]
  refine wpAnyH_ready (rs := [8]) (by kernel_rfl) (by simp) ?_
  refine AllReadyH.cons rfl (fun K' hK => ?_) AllReadyH.nil
  refine step_callE 29 #[.slice (some ⟨c, 2, none⟩) (pl - 2) 1200] (by kernel_rfl) (by kernel_rfl) (R := fun v w' => ∃ c' ad' cap', v = .pointer (some ⟨c', 0, none⟩) ∧ Cur w' 78 c' ad' cap' q 0 .nilIface ∧ W0.drew.heap.size ≤ c' ∧ (∀ g o, ad' = some ⟨g, o, none⟩ → 0 < q.length → W0.drew.heap.size ≤ g) ∧ Below W0.drew.heap.size W0.drew w') ((HA.out _ B0.out).mono ?_) (fun v V1 hR => ?_)
  · rintro e w' ⟨c', ad', cap', rfl, h1, h2, h3, h4⟩
    exact ⟨_, rfl, c', ad', cap', rfl, h1, h2, h3, h4⟩
  obtain ⟨c', ad', cap', rfl, hC, hc', hg', hb⟩ := hR
  refine hK.out _ _ (bel2 hS hb) (fun hS2 => ?_)
  simp only [List.getElem_toArray, List.getElem_cons_zero, List.getElem_cons_succ, Act.put, List.setIfInBounds_toArray, List.set_cons_zero, List.set_cons_succ]
  refine wpAnyH_take (i := 9) (v := .pointer (some ⟨c', 0, none⟩)) rfl (by kernel_rfl) (by kernel_rfl) (by kernel_rfl) (fun _ _ _ h => h) (.inl ⟨by kernel_rfl, fun V hV => by unfold execOp; go_simp⟩) hS2 ?_
  simp only [List.getElem_toArray, List.getElem_cons_zero, List.getElem_cons_succ, Act.put, List.setIfInBounds_toArray, List.set_cons_zero, List.set_cons_succ]
  refine wpAnyH_done (by kernel_rfl) ?_ _
  have HB1 := hid hS2
  have K1 := hid (K0.out.kept hb)
  have HC := hid hC
  have Hc := hid hc'
  have Hg := hid hg'
  clear hS hS2 hb hC hc' hg' HA HW HSl K0 hK K'
  go_wp2_with fail
  refine (num_ok HC.out 1 (by decide) (by decide) (by omega)).mono ?_
  rintro e w2 ⟨rfl, hC, hK⟩
  have HC2 := hid hC
  have HK2 := hid hK
  clear hC hK HC
  rw [hf1]
  go_wp2_with fail
  refine (left_any HC2.out).mono ?_
  rintro e w3 ⟨rfl, m, rfl⟩
  have HC3 := hid (HC2.out.drewN m)
  have HK3 := hid (HK2.out.trans (keep_drewN _ _ m))
  clear HC2 HK2
  rw [show ((q.length : Int) - ((0 + 1 : Nat) : Int)) = ((q.length - 1 : Nat) : Int) by omega]
  obtain ⟨g, o, rfl, _, _⟩ := HC3.out.row 0 (by omega)
  have HBy : Hid (Calls Tryd.prog 31 #[.pointer (some ⟨c', 0, none⟩), .int .i64 ((q.length - 1 : Nat) : Int)] (w2.drewN m) fun e w' => ∃ v, e = .returned v ∧ BodyA (fun g => w.heap.size ≤ g) w' v f.2 ∧ (BodyA (fun g => w.heap.size < g) w' v f.2) ∧ Keep c' (w2.drewN m) w') := by
    have hsz := HK3.out.low.size
    have hs1 : w.heap.size + 1 ≤ (w2.drewN m).heap.size := by
      have h1 := HK3.out.low.size
      have h2 := HB1.out.size
      have h3 := Hc.out
      have h4 := K1.out.lt
      have h5 := HC3.out.obj.lt
      have h6 := S0.out
      omega
    by_cases hz : q.length = 1
    · have h := HC3.out
      rw [show (0 + 1) = q.length by omega] at h
      have hb := bytes_zero h
      refine hid ?_
      rw [show q.length - 1 = 0 by omega]
      refine hb.mono ?_
      rintro e w' ⟨⟨a, rfl⟩, hk⟩
      have hn : f.2.length = 0 := by have := HF3.out; omega
      refine ⟨_, rfl, ⟨some a, 0, by rw [hn], by omega, fun e => (by cases e), fun j hj => by omega⟩, ⟨some a, 0, by rw [hn], by omega, fun e => (by cases e), fun j hj => by omega⟩, hk⟩
    · have hb := bytes_ok HC3.out (q.length - 1) (by omega) (by omega)
      rw [hf2] at hb
      refine hid (hb.mono ?_)
      rintro e w' ⟨g', cap2, rfl, hcap, hcl, hgg, _, hk⟩
      exact ⟨_, rfl, ⟨some ⟨g', 0, none⟩, cap2, rfl, hcap, fun e => (by cases e), fun j hj => ⟨g', 0, rfl, by omega, by rw [Nat.zero_add]; exact hcl j hj⟩⟩, ⟨some ⟨g', 0, none⟩, cap2, rfl, hcap, fun e => (by cases e), fun j hj => ⟨g', 0, rfl, by omega, by rw [Nat.zero_add]; exact hcl j hj⟩⟩, hk⟩
  go_wp2_with fail
  refine HBy.out.mono ?_
  rintro e w4 ⟨v, rfl, hv, hv2, hk⟩
  obtain ⟨adv, capv, hvv⟩ : ∃ ad cap, v = .slice ad f.2.length cap := by
    obtain ⟨ad, cap, e, _⟩ := hv
    exact ⟨ad, cap, e⟩
  subst hvv
  have hB4 : Below w.heap.size w w4 := (HB1.out.trans (HK3.out.low.mono (by have := S0.out; have := Hc.out; omega))).trans (hk.low.mono (by have := S0.out; have := Hc.out; omega))
  have hne : w.heap.size ≠ c' := by have := S0.out; have := Hc.out; omega
  have hK4 : Blk w4 w.heap.size 46 #[.int .i64 0, .slice none 0 0] := (HK3.out.trans hk).blk K1.out hne
  have HE : Hid (WholeEnd f w (.returned (.agg #[.int .i64 f.1, .slice adv f.2.length capv])) (w4.setRow w.heap.size #[.int .i64 f.1, .slice adv f.2.length capv])) := hid ⟨_, rfl, (hv2.kept fun g hg _ => setRow_other w4 w.heap.size g _ (by omega)).mono (fun g hg _ => by omega), below_setRow hB4 (Nat.le_refl _) _⟩
  clear hv hv2 hk hB4 hne HBy HC3 HK3 HB1 K1
  have HK4 := hid hK4
  clear hK4
  go_wp2_with (first
    | (refine wpl_store 46 (.tmp 2) (.tmp 19) rfl w.heap.size #[.int .i64 f.1, .slice adv f.2.length capv] rfl rfl 46 _ HK4.out 2 Tryd.infoFrameN rfl rfl (frame_one _ rfl) rfl ?_)
    | fail)
  refine retA rfl w.heap.size rfl 46 _ _ (HK4.out.row _) Tryd.underlying46 rfl 2 Tryd.infoFrameN rfl rfl HE.out
end
end Go.Proofs.YtkpjdjenlmodnaaDoor
