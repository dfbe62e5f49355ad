/-
  maglev: Moved.
-/
import Derived.Test.YtahconkjhneogaaGreatDoorGr06
namespace Go.Proofs.YtahconkjhneogaaGreatDoor
open Go.RowKit Go.Lib

set_option linter.unusedSimpArgs false in
set_option linter.unusedVariables false in
set_option maxRecDepth 100000 in
set_option maxHeartbeats 8000000 in
theorem moved_yn (m m' : Int) (bs bs' : List PS) (L L' : List Int) (ab ab' as' as2 : Option Addr) (cb cb' cs cs' : Nat) (hL : L.length ≤ 100000) (hL' : L'.length ≤ 100000) (hb : bs.length ≤ 100000) (hb' : bs'.length ≤ 100000) (hw : wholeT m L = true) (hw' : wholeT m' L' = false) (w : World) (hT : TabIn w.heap.size w ab as' bs L) (hT' : TabIn w.heap.size w ab' as2 bs' L') :
    Calls Tryz.prog 17 #[.agg #[.int .i64 m, .slice ab bs.length cb, .slice as' L.length cs], .agg #[.int .i64 m', .slice ab' bs'.length cb', .slice as2 L'.length cs']] w fun e w' => e = .returned (.int .i64 (mov (fun p : Nat => ownW m bs L (p : Int)) (fun p : Nat => ownW m' bs' L' (p : Int)) (min L.length L'.length) : Nat)) ∧ Below w.heap.size w w' := by
  obtain ⟨l, hl⟩ : ∃ l, l = L.length := ⟨_, rfl⟩
  obtain ⟨l', hl'⟩ : ∃ l, l = L'.length := ⟨_, rfl⟩
  have HOl : Hid (∀ W, Calls Tryz.prog 37 #[.agg #[.int .i64 m, .slice ab bs.length cb, .slice as' l cs]] W fun e w' => e = .returned (.func (.func 61) #[] #[.pointer (some ⟨W.heap.size, 0, none⟩)]) ∧ Blk w' W.heap.size 27 #[.int .i64 m, .slice ab bs.length cb, .slice as' l cs] ∧ Below W.heap.size W w') := hid (fun W => by rw [hl]; exact owners_yes m ab as' bs.length cb cs L hw W)
  have hml : (L.length : Int) = m := by
    unfold wholeT at hw
    rw [Bool.and_eq_true, decide_eq_true_eq] at hw
    exact hw.2
  have HFl : Hid (∀ (p : Nat) b W, Blk W b 27 #[.int .i64 m, .slice ab bs.length cb, .slice as' l cs] → Below w.heap.size w W → Calls Tryz.prog 61 #[.int .i64 p, .pointer (some ⟨b, 0, none⟩)] W fun e w' => e = .returned (.tuple #[.agg (encP ((ownW m bs L p).getD pz)), .bool (ownW m bs L p).isSome]) ∧ Below W.heap.size W w') := hid (fun p b W h1 h2 => by
    have := own2_any m bs L ab as' cb cs b p hml hL hb W (by rw [← hl]; exact h1) (hT.kept h2)
    have e : ownT m bs L p = ownW m bs L p := by unfold ownW; rw [if_pos hw]
    rw [e] at this
    exact this)
  have HOl' : Hid (∀ W, Calls Tryz.prog 37 #[.agg #[.int .i64 m', .slice ab' bs'.length cb', .slice as2 l' cs']] W fun e w' => e = .returned (.func (.func 60) #[] #[]) ∧ Below W.heap.size W w') := hid (fun W => by rw [hl']; exact owners_no m' ab' as2 bs'.length cb' cs' L' hw' W)
  have HFl' : Hid (∀ (p : Nat) W, Calls Tryz.prog 60 #[.int .i64 p] W fun e w' => e = .returned (.tuple #[.agg (encP ((ownW m' bs' L' p).getD pz)), .bool (ownW m' bs' L' p).isSome]) ∧ Below W.heap.size W w') := hid (fun p W => by
    have e : ownW m' bs' L' p = none := by unfold ownW; rw [if_neg (by rw [hw']; decide)]
    rw [e]
    exact own1_any p W)
  obtain ⟨f, hf⟩ : ∃ f : Nat → Option PS, f = fun p : Nat => ownW m bs L (p : Int) := ⟨_, rfl⟩
  obtain ⟨g, hg⟩ : ∃ g : Nat → Option PS, g = fun p : Nat => ownW m' bs' L' (p : Int) := ⟨_, rfl⟩
  rw [← hf, ← hg, ← hl, ← hl']
  obtain ⟨N, hN⟩ : ∃ N, N = min l l' := ⟨_, rfl⟩
  rw [← hN]
  have HN := hid hN
  clear hN
  have HFe : Hid (∀ p : Nat, ownW m bs L p = f p) := hid (fun p => by rw [hf])
  have HGe : Hid (∀ p : Nat, ownW m' bs' L' p = g p) := hid (fun p => by rw [hg])
  rw [← hl] at hL
  rw [← hl'] at hL'
  obtain ⟨W0, hW0⟩ : ∃ W, W = w.alloc (.cells #[.int .i64 m, .slice ab bs.length cb, .slice as' l cs] 27) := ⟨_, rfl⟩
  obtain ⟨W1, hW1⟩ : ∃ W, W = W0.alloc (.cells #[.int .i64 m', .slice ab' bs'.length cb', .slice as2 l' cs'] 27) := ⟨_, rfl⟩
  have s0 : W0.heap.size = w.heap.size + 1 := by rw [hW0]; simp
  have b0 : Below w.heap.size w W0 := hW0 ▸ (Below.refl _ _).alloc (Nat.le_refl _) _
  have b1 : Below W0.heap.size W0 W1 := hW1 ▸ (Below.refl _ _).alloc (Nat.le_refl _) _
  have k0 : Blk W1 w.heap.size 27 #[.int .i64 m, .slice ab bs.length cb, .slice as' l cs] := (hW0 ▸ Blk.new w _ _ : Blk W0 w.heap.size 27 _).kept b1
  have k1 : Blk W1 (w.heap.size + 1) 27 #[.int .i64 m', .slice ab' bs'.length cb', .slice as2 l' cs'] := by rw [← s0]; exact (hW1 ▸ Blk.new W0 _ _ : Blk W1 W0.heap.size 27 _)
  have HW0 := hid hW0.symm
  have HW1 := hid hW1.symm
  have Hb1 := hid (bel2 b0 b1)
  have K0 := hid k0
  have K1 := hid k1
  have hS0 : Below W1.heap.size W1 W1.drew := below_drewN W1 1
  clear hW0 hW1 s0 b0 b1 k0 k1 hf hg hT hT' hw hw' hl hl'
  go_enter Tryz.func17, Tryz.ntmps17
  go_upto_region 1 with fail
  rw [HW0.out]
  rw [HW1.out]
  go_upto_region 2 with fail
  refine wp_region_held_drew (S := fun V => Below W1.heap.size W1 V) (by kernel_rfl) hS0 (fun hS => ?_)
  change wpAnyH _ _ _ _ _ 6 #[false, false, false, false, false, false] _ _
  refine wpAnyH_take (i := 0) (v := .agg #[.int .i64 m, .slice ab bs.length cb, .slice as' l cs]) rfl (by kernel_rfl) (by kernel_rfl) (by kernel_rfl) (fun _ _ _ h => h) (yields_load 27 (.tmp 2) rfl w.heap.size rfl 27 _ _ (fun V h => K0.out.kept h) Tryz.underlying27 rfl 3 Tryz.infoTable rfl (by kernel_rfl)) hS ?_
  simp only [List.getElem_toArray, List.getElem_cons_zero, List.getElem_cons_succ, Act.put, List.setIfInBounds_toArray, List.set_cons_zero, List.set_cons_succ]
  refine wpAnyH_take (i := 2) (v := .agg #[.int .i64 m', .slice ab' bs'.length cb', .slice as2 l' cs']) rfl (by kernel_rfl) (by kernel_rfl) (by kernel_rfl) (fun _ _ _ h => h) (yields_load 27 (.tmp 3) rfl (w.heap.size + 1) rfl 27 _ _ (fun V h => K1.out.kept h) Tryz.underlying27 rfl 3 Tryz.infoTable rfl (by kernel_rfl)) hS ?_
  simp only [List.getElem_toArray, List.getElem_cons_zero, List.getElem_cons_succ, Act.put, List.setIfInBounds_toArray, List.set_cons_zero, List.set_cons_succ]
  refine wpAnyH_ready (rs := [1]) (by kernel_rfl) (by simp) ?_
  refine AllReadyH.cons rfl (fun K' hK => ?_) AllReadyH.nil
  refine step_call 37 #[.agg #[.int .i64 m, .slice ab bs.length cb, .slice as' l cs]] (by kernel_rfl) (by kernel_rfl) (.func (.func 61) #[] #[.pointer (some ⟨W1.drew.heap.size, 0, none⟩)]) (HOl.out _) (fun A hhA => ?_)
  have hBA := hhA.1
  have hbA := hhA.2
  refine hK.out _ _ (hS.trans (hbA.mono hS.size)) (fun hS => ?_)
  simp only [List.getElem_toArray, List.getElem_cons_zero, List.getElem_cons_succ, Act.put, List.setIfInBounds_toArray, List.set_cons_zero, List.set_cons_succ]
  refine wpAnyH_ready (rs := [3]) (by kernel_rfl) (by simp) ?_
  refine AllReadyH.cons rfl (fun K' hK => ?_) AllReadyH.nil
  refine step_call 37 #[.agg #[.int .i64 m', .slice ab' bs'.length cb', .slice as2 l' cs']] (by kernel_rfl) (by kernel_rfl) (.func (.func 60) #[] #[]) (HOl'.out _) (fun B hhB => ?_)
  skip
  have hbB := hhB
  refine hK.out _ _ (hS.trans (hbB.mono hS.size)) (fun hS => ?_)
  simp only [List.getElem_toArray, List.getElem_cons_zero, List.getElem_cons_succ, Act.put, List.setIfInBounds_toArray, List.set_cons_zero, List.set_cons_succ]
  refine wpAnyH_take (i := 4) (v := .func (.func 61) #[] #[.pointer (some ⟨W1.drew.heap.size, 0, none⟩)]) rfl (by kernel_rfl) (by kernel_rfl) (by kernel_rfl) (fun _ _ _ h => h) (.inl ⟨by kernel_rfl, fun V hV => by unfold execOp; go_simp⟩) hS ?_
  simp only [List.getElem_toArray, List.getElem_cons_zero, List.getElem_cons_succ, Act.put, List.setIfInBounds_toArray, List.set_cons_zero, List.set_cons_succ]
  refine wpAnyH_take (i := 5) (v := .func (.func 60) #[] #[]) rfl (by kernel_rfl) (by kernel_rfl) (by kernel_rfl) (fun _ _ _ h => h) (.inl ⟨by kernel_rfl, fun V hV => by unfold execOp; go_simp⟩) hS ?_
  simp only [List.getElem_toArray, List.getElem_cons_zero, List.getElem_cons_succ, Act.put, List.setIfInBounds_toArray, List.set_cons_zero, List.set_cons_succ]
  refine wpAnyH_done (by kernel_rfl) ?_ _
  have HU := hid (bel2 Hb1.out hS)
  have H1U := hid hS
  have HBA := hid (hBA.kept hbB)
  generalize W1.drew.heap.size = gA at *
  have c2 : B.cell? ⟨w.heap.size, 2, none⟩ = some (.slice as' l cs) := (K0.out.kept hS).cell 2
  have d2 : B.cell? ⟨w.heap.size + 1, 2, none⟩ = some (.slice as2 l' cs') := (K1.out.kept hS).cell 2
  clear hS0 hS hbA hbB hhA hhB hBA HOl HOl'
  have HCa : Hid (∀ (p : Nat) W, Below B.heap.size B W → Calls Tryz.prog 61 #[.int .i64 p, .pointer (some ⟨gA, 0, none⟩)] W fun e w' => e = .returned (.tuple #[.agg (encP ((f p).getD pz)), .bool (f p).isSome]) ∧ Below W.heap.size W w') := hid (fun p W h => by rw [← HFe.out p]; exact HFl.out p gA W (HBA.out.kept h) (bel2 HU.out h))
  have HCb : Hid (∀ (p : Nat) W, Below B.heap.size B W → Calls Tryz.prog 60 #[.int .i64 p] W fun e w' => e = .returned (.tuple #[.agg (encP ((g p).getD pz)), .bool (g p).isSome]) ∧ Below W.heap.size W w') := hid (fun p W h => by rw [← HGe.out p]; exact HFl'.out p W)
  go_upto_region 4 with fail
  have hmin : min (l : Int) (l' : Int) = (N : Int) := by have := HN.out; omega
  have hNle : N ≤ 100000 := by have := HN.out; omega
  rw [hmin]
  clear c2 d2 hmin HFl HFl' HFe HGe
  go_loopg [5, 24] N (fun gg s5 s24 wr => ∃ p : Nat, s24 = .int .i64 (p : Int) ∧ s5 = .int .i64 (mov f g p : Nat) ∧ p ≤ N ∧ N - p ≤ gg ∧ Hid (Below B.heap.size B wr))
  case atStart => exact ⟨0, rfl, rfl, by omega, by omega, hid (Below.refl _ _)⟩
  case round =>
    obtain ⟨p, rfl, rfl, hp, hgp, HBe⟩ := hrel
    by_cases hlt : p < N
    · have HA := hid (HCa.out p wr HBe.out)
      have HBp := hid (HCb.out p)
      have hml := mov_le f g p
      have HM : Hid (mov f g (p + 1) = mov f g p + if ((f p).isSome && ((g p).isSome && !decide ((f p).getD pz = (g p).getD pz))) = true then 1 else 0) := hid rfl
      generalize hM0 : mov f g p = M0 at *
      clear hM0
      generalize (f p).getD pz = x at *
      generalize (g p).getD pz = y at *
      generalize (f p).isSome = qa at *
      generalize (g p).isSome = qb at *
      have heq := neq_pt x y
      obtain ⟨qe, hqe⟩ : ∃ qe, qe = !decide (x = y) := ⟨_, rfl⟩
      rw [← hqe] at heq HM
      clear hqe
      have HE := hid heq
      clear heq
      cases qa
      rotate_left
      cases qb
      rotate_left
      cases qe
      all_goals
        simp only [Bool.and_true, Bool.and_false, Bool.true_and, Bool.false_and, if_true, Bool.false_eq_true, if_false, Nat.add_zero] at HM
        have heq := HE.out
        go_wp2_with fail
        refine HA.out.mono ?_
        rintro e w2 ⟨rfl, hb⟩
        have hbv : Below B.heap.size B (w2.alloc (.cells (encP x) 41)) := (HBe.out.trans (hb.mono HBe.out.size)).alloc (Nat.le_trans HBe.out.size hb.size) _
        have HBv := hid hbv
        have HCv := hid (HBp.out _ hbv)
        have HKv := hid (Blk.new w2 41 (encP x))
        clear hb hbv
        go_wp2_with ((show wpList _ _ _ (⟨none, _, _, _, _, _⟩ :: _) _ _); go_must (refine wpl_storeN (.tmp 9) (.tmp 31) rfl _ rfl rfl x rfl rfl ?_))
        refine HCv.out.mono ?_
        rintro e w3 ⟨rfl, hb⟩
        have HK3 := hid ((HKv.out.kept hb).alloc (.cells (encP y) 41))
        have HB3 : Hid (Below B.heap.size B (w3.alloc (.cells (encP y) 41))) := hid ((HBv.out.trans (hb.mono HBv.out.size)).alloc (Nat.le_trans HBv.out.size hb.size) _)
        have HK4 := hid (Blk.new w3 41 (encP y))
        clear hb
        go_wp2_with (first
          | ((show wpList _ _ _ (⟨none, _, _, _, _, _⟩ :: _) _ _); go_must (refine wpl_storeN (.tmp 11) (.tmp 37) rfl _ rfl rfl y rfl rfl ?_))
          | ((show wpList _ _ _ (⟨some 44, _, _, _, _, _⟩ :: _) _ _); refine wpl_loadB (.tmp 9) rfl w2.heap.size rfl x HK3.out rfl ?_)
          | ((show wpList _ _ _ (⟨some 45, _, _, _, _, _⟩ :: _) _ _); refine wpl_loadB (.tmp 11) rfl w3.heap.size rfl y HK4.out rfl ?_))
        go_roundg (N - (p + 1))
        case measure => omega
        case rel => exact ⟨p + 1, by go_num, by rw [HM.out]; try go_num, by omega, Nat.le_refl _, HB3⟩
    · obtain rfl : p = N := by omega
      have FB := hid (bel2 HU.out HBe.out)
      go_wp2
      go_ret
      exact ⟨rfl, FB.out⟩

end Go.Proofs.YtahconkjhneogaaGreatDoor
