/-
  maglev: Moved. · maglev: Moved, whatever the tables; the chapter's example. · Points in strictly rising order: what Compact leaves, what an insertion leaves; there is one such list of the same members. No program. · maglev: the chapter's example. · The document's Compare of points. · The document's Sort of points. · The document's Right and Point; its Sort of whatever list of points. · What the document's Fill holds while it fills: slots as numbers, what is taken, the orders of all.
-/
import Derived.Test.YtahconkjhneogaaGreatDoorGr08
import Derived.Lib.SlicesCompact
namespace Go.Proofs.YtahconkjhneogaaGreatDoor
open Go.RowKit Go.Lib

set_option linter.unusedSimpArgs false in
set_option linter.unusedVariables false in
set_option maxRecDepth 100000 in
set_option maxHeartbeats 8000000 in
theorem moved_nn (m m' : Int) (bs bs' : List PS) (L L' : List Int) (ab ab' as' as2 : Option Addr) (cb cb' cs cs' : Nat) (hL : L.length ≤ 100000) (hL' : L'.length ≤ 100000) (hb : bs.length ≤ 100000) (hb' : bs'.length ≤ 100000) (hw : wholeT m L = false) (hw' : wholeT m' L' = false) (w : World) (hT : TabIn w.heap.size w ab as' bs L) (hT' : TabIn w.heap.size w ab' as2 bs' L') :
    Calls Tryz.prog 17 #[.agg #[.int .i64 m, .slice ab bs.length cb, .slice as' L.length cs], .agg #[.int .i64 m', .slice ab' bs'.length cb', .slice as2 L'.length cs']] w fun e w' => e = .returned (.int .i64 (mov (fun p : Nat => ownW m bs L (p : Int)) (fun p : Nat => ownW m' bs' L' (p : Int)) (min L.length L'.length) : Nat)) ∧ Below w.heap.size w w' := by
  obtain ⟨l, hl⟩ : ∃ l, l = L.length := ⟨_, rfl⟩
  obtain ⟨l', hl'⟩ : ∃ l, l = L'.length := ⟨_, rfl⟩
  have HOl : Hid (∀ W, Calls Tryz.prog 37 #[.agg #[.int .i64 m, .slice ab bs.length cb, .slice as' l cs]] W fun e w' => e = .returned (.func (.func 60) #[] #[]) ∧ Below W.heap.size W w') := hid (fun W => by rw [hl]; exact owners_no m ab as' bs.length cb cs L hw W)
  have HFl : Hid (∀ (p : Nat) W, Calls Tryz.prog 60 #[.int .i64 p] W fun e w' => e = .returned (.tuple #[.agg (encP ((ownW m bs L p).getD pz)), .bool (ownW m bs L p).isSome]) ∧ Below W.heap.size W w') := hid (fun p W => by
    have e : ownW m bs L p = none := by unfold ownW; rw [if_neg (by rw [hw]; decide)]
    rw [e]
    exact own1_any p W)
  have HOl' : Hid (∀ W, Calls Tryz.prog 37 #[.agg #[.int .i64 m', .slice ab' bs'.length cb', .slice as2 l' cs']] W fun e w' => e = .returned (.func (.func 60) #[] #[]) ∧ Below W.heap.size W w') := hid (fun W => by rw [hl']; exact owners_no m' ab' as2 bs'.length cb' cs' L' hw' W)
  have HFl' : Hid (∀ (p : Nat) W, Calls Tryz.prog 60 #[.int .i64 p] W fun e w' => e = .returned (.tuple #[.agg (encP ((ownW m' bs' L' p).getD pz)), .bool (ownW m' bs' L' p).isSome]) ∧ Below W.heap.size W w') := hid (fun p W => by
    have e : ownW m' bs' L' p = none := by unfold ownW; rw [if_neg (by rw [hw']; decide)]
    rw [e]
    exact own1_any p W)
  obtain ⟨f, hf⟩ : ∃ f : Nat → Option PS, f = fun p : Nat => ownW m bs L (p : Int) := ⟨_, rfl⟩
  obtain ⟨g, hg⟩ : ∃ g : Nat → Option PS, g = fun p : Nat => ownW m' bs' L' (p : Int) := ⟨_, rfl⟩
  rw [← hf, ← hg, ← hl, ← hl']
  obtain ⟨N, hN⟩ : ∃ N, N = min l l' := ⟨_, rfl⟩
  rw [← hN]
  have HN := hid hN
  clear hN
  have HFe : Hid (∀ p : Nat, ownW m bs L p = f p) := hid (fun p => by rw [hf])
  have HGe : Hid (∀ p : Nat, ownW m' bs' L' p = g p) := hid (fun p => by rw [hg])
  rw [← hl] at hL
  rw [← hl'] at hL'
  obtain ⟨W0, hW0⟩ : ∃ W, W = w.alloc (.cells #[.int .i64 m, .slice ab bs.length cb, .slice as' l cs] 27) := ⟨_, rfl⟩
  obtain ⟨W1, hW1⟩ : ∃ W, W = W0.alloc (.cells #[.int .i64 m', .slice ab' bs'.length cb', .slice as2 l' cs'] 27) := ⟨_, rfl⟩
  have s0 : W0.heap.size = w.heap.size + 1 := by rw [hW0]; simp
  have b0 : Below w.heap.size w W0 := hW0 ▸ (Below.refl _ _).alloc (Nat.le_refl _) _
  have b1 : Below W0.heap.size W0 W1 := hW1 ▸ (Below.refl _ _).alloc (Nat.le_refl _) _
  have k0 : Blk W1 w.heap.size 27 #[.int .i64 m, .slice ab bs.length cb, .slice as' l cs] := (hW0 ▸ Blk.new w _ _ : Blk W0 w.heap.size 27 _).kept b1
  have k1 : Blk W1 (w.heap.size + 1) 27 #[.int .i64 m', .slice ab' bs'.length cb', .slice as2 l' cs'] := by rw [← s0]; exact (hW1 ▸ Blk.new W0 _ _ : Blk W1 W0.heap.size 27 _)
  have HW0 := hid hW0.symm
  have HW1 := hid hW1.symm
  have Hb1 := hid (bel2 b0 b1)
  have K0 := hid k0
  have K1 := hid k1
  have hS0 : Below W1.heap.size W1 W1.drew := below_drewN W1 1
  clear hW0 hW1 s0 b0 b1 k0 k1 hf hg hT hT' hw hw' hl hl'
  go_enter Tryz.func17, Tryz.ntmps17
  go_upto_region 1 with fail
  rw [HW0.out]
  rw [HW1.out]
  go_upto_region 2 with fail
  refine wp_region_held_drew (S := fun V => Below W1.heap.size W1 V) (by kernel_rfl) hS0 (fun hS => ?_)
  change wpAnyH _ _ _ _ _ 6 #[false, false, false, false, false, false] _ _
  refine wpAnyH_take (i := 0) (v := .agg #[.int .i64 m, .slice ab bs.length cb, .slice as' l cs]) rfl (by kernel_rfl) (by kernel_rfl) (by kernel_rfl) (fun _ _ _ h => h) (yields_load 27 (.tmp 2) rfl w.heap.size rfl 27 _ _ (fun V h => K0.out.kept h) Tryz.underlying27 rfl 3 Tryz.infoTable rfl (by kernel_rfl)) hS ?_
  simp only [List.getElem_toArray, List.getElem_cons_zero, List.getElem_cons_succ, Act.put, List.setIfInBounds_toArray, List.set_cons_zero, List.set_cons_succ]
  refine wpAnyH_take (i := 2) (v := .agg #[.int .i64 m', .slice ab' bs'.length cb', .slice as2 l' cs']) rfl (by kernel_rfl) (by kernel_rfl) (by kernel_rfl) (fun _ _ _ h => h) (yields_load 27 (.tmp 3) rfl (w.heap.size + 1) rfl 27 _ _ (fun V h => K1.out.kept h) Tryz.underlying27 rfl 3 Tryz.infoTable rfl (by kernel_rfl)) hS ?_
  simp only [List.getElem_toArray, List.getElem_cons_zero, List.getElem_cons_succ, Act.put, List.setIfInBounds_toArray, List.set_cons_zero, List.set_cons_succ]
  refine wpAnyH_ready (rs := [1]) (by kernel_rfl) (by simp) ?_
  refine AllReadyH.cons rfl (fun K' hK => ?_) AllReadyH.nil
  refine step_call 37 #[.agg #[.int .i64 m, .slice ab bs.length cb, .slice as' l cs]] (by kernel_rfl) (by kernel_rfl) (.func (.func 60) #[] #[]) (HOl.out _) (fun A hhA => ?_)
  skip
  have hbA := hhA
  refine hK.out _ _ (hS.trans (hbA.mono hS.size)) (fun hS => ?_)
  simp only [List.getElem_toArray, List.getElem_cons_zero, List.getElem_cons_succ, Act.put, List.setIfInBounds_toArray, List.set_cons_zero, List.set_cons_succ]
  refine wpAnyH_ready (rs := [3]) (by kernel_rfl) (by simp) ?_
  refine AllReadyH.cons rfl (fun K' hK => ?_) AllReadyH.nil
  refine step_call 37 #[.agg #[.int .i64 m', .slice ab' bs'.length cb', .slice as2 l' cs']] (by kernel_rfl) (by kernel_rfl) (.func (.func 60) #[] #[]) (HOl'.out _) (fun B hhB => ?_)
  skip
  have hbB := hhB
  refine hK.out _ _ (hS.trans (hbB.mono hS.size)) (fun hS => ?_)
  simp only [List.getElem_toArray, List.getElem_cons_zero, List.getElem_cons_succ, Act.put, List.setIfInBounds_toArray, List.set_cons_zero, List.set_cons_succ]
  refine wpAnyH_take (i := 4) (v := .func (.func 60) #[] #[]) rfl (by kernel_rfl) (by kernel_rfl) (by kernel_rfl) (fun _ _ _ h => h) (.inl ⟨by kernel_rfl, fun V hV => by unfold execOp; go_simp⟩) hS ?_
  simp only [List.getElem_toArray, List.getElem_cons_zero, List.getElem_cons_succ, Act.put, List.setIfInBounds_toArray, List.set_cons_zero, List.set_cons_succ]
  refine wpAnyH_take (i := 5) (v := .func (.func 60) #[] #[]) rfl (by kernel_rfl) (by kernel_rfl) (by kernel_rfl) (fun _ _ _ h => h) (.inl ⟨by kernel_rfl, fun V hV => by unfold execOp; go_simp⟩) hS ?_
  simp only [List.getElem_toArray, List.getElem_cons_zero, List.getElem_cons_succ, Act.put, List.setIfInBounds_toArray, List.set_cons_zero, List.set_cons_succ]
  refine wpAnyH_done (by kernel_rfl) ?_ _
  have HU := hid (bel2 Hb1.out hS)
  have H1U := hid hS
  have c2 : B.cell? ⟨w.heap.size, 2, none⟩ = some (.slice as' l cs) := (K0.out.kept hS).cell 2
  have d2 : B.cell? ⟨w.heap.size + 1, 2, none⟩ = some (.slice as2 l' cs') := (K1.out.kept hS).cell 2
  clear hS0 hS hbA hbB hhA hhB HOl HOl'
  have HCa : Hid (∀ (p : Nat) W, Below B.heap.size B W → Calls Tryz.prog 60 #[.int .i64 p] W fun e w' => e = .returned (.tuple #[.agg (encP ((f p).getD pz)), .bool (f p).isSome]) ∧ Below W.heap.size W w') := hid (fun p W h => by rw [← HFe.out p]; exact HFl.out p W)
  have HCb : Hid (∀ (p : Nat) W, Below B.heap.size B W → Calls Tryz.prog 60 #[.int .i64 p] W fun e w' => e = .returned (.tuple #[.agg (encP ((g p).getD pz)), .bool (g p).isSome]) ∧ Below W.heap.size W w') := hid (fun p W h => by rw [← HGe.out p]; exact HFl'.out p W)
  go_upto_region 4 with fail
  have hmin : min (l : Int) (l' : Int) = (N : Int) := by have := HN.out; omega
  have hNle : N ≤ 100000 := by have := HN.out; omega
  rw [hmin]
  clear c2 d2 hmin HFl HFl' HFe HGe
  go_loopg [5, 24] N (fun gg s5 s24 wr => ∃ p : Nat, s24 = .int .i64 (p : Int) ∧ s5 = .int .i64 (mov f g p : Nat) ∧ p ≤ N ∧ N - p ≤ gg ∧ Hid (Below B.heap.size B wr))
  case atStart => exact ⟨0, rfl, rfl, by omega, by omega, hid (Below.refl _ _)⟩
  case round =>
    obtain ⟨p, rfl, rfl, hp, hgp, HBe⟩ := hrel
    by_cases hlt : p < N
    · have HA := hid (HCa.out p wr HBe.out)
      have HBp := hid (HCb.out p)
      have hml := mov_le f g p
      have HM : Hid (mov f g (p + 1) = mov f g p + if ((f p).isSome && ((g p).isSome && !decide ((f p).getD pz = (g p).getD pz))) = true then 1 else 0) := hid rfl
      generalize hM0 : mov f g p = M0 at *
      clear hM0
      generalize (f p).getD pz = x at *
      generalize (g p).getD pz = y at *
      generalize (f p).isSome = qa at *
      generalize (g p).isSome = qb at *
      have heq := neq_pt x y
      obtain ⟨qe, hqe⟩ : ∃ qe, qe = !decide (x = y) := ⟨_, rfl⟩
      rw [← hqe] at heq HM
      clear hqe
      have HE := hid heq
      clear heq
      cases qa
      rotate_left
      cases qb
      rotate_left
      cases qe
      all_goals
        simp only [Bool.and_true, Bool.and_false, Bool.true_and, Bool.false_and, if_true, Bool.false_eq_true, if_false, Nat.add_zero] at HM
        have heq := HE.out
        go_wp2_with fail
        refine HA.out.mono ?_
        rintro e w2 ⟨rfl, hb⟩
        have hbv : Below B.heap.size B (w2.alloc (.cells (encP x) 41)) := (HBe.out.trans (hb.mono HBe.out.size)).alloc (Nat.le_trans HBe.out.size hb.size) _
        have HBv := hid hbv
        have HCv := hid (HBp.out _ hbv)
        have HKv := hid (Blk.new w2 41 (encP x))
        clear hb hbv
        go_wp2_with ((show wpList _ _ _ (⟨none, _, _, _, _, _⟩ :: _) _ _); go_must (refine wpl_storeN (.tmp 9) (.tmp 31) rfl _ rfl rfl x rfl rfl ?_))
        refine HCv.out.mono ?_
        rintro e w3 ⟨rfl, hb⟩
        have HK3 := hid ((HKv.out.kept hb).alloc (.cells (encP y) 41))
        have HB3 : Hid (Below B.heap.size B (w3.alloc (.cells (encP y) 41))) := hid ((HBv.out.trans (hb.mono HBv.out.size)).alloc (Nat.le_trans HBv.out.size hb.size) _)
        have HK4 := hid (Blk.new w3 41 (encP y))
        clear hb
        go_wp2_with (first
          | ((show wpList _ _ _ (⟨none, _, _, _, _, _⟩ :: _) _ _); go_must (refine wpl_storeN (.tmp 11) (.tmp 37) rfl _ rfl rfl y rfl rfl ?_))
          | ((show wpList _ _ _ (⟨some 44, _, _, _, _, _⟩ :: _) _ _); refine wpl_loadB (.tmp 9) rfl w2.heap.size rfl x HK3.out rfl ?_)
          | ((show wpList _ _ _ (⟨some 45, _, _, _, _, _⟩ :: _) _ _); refine wpl_loadB (.tmp 11) rfl w3.heap.size rfl y HK4.out rfl ?_))
        go_roundg (N - (p + 1))
        case measure => omega
        case rel => exact ⟨p + 1, by go_num, by rw [HM.out]; try go_num, by omega, Nat.le_refl _, HB3⟩
    · obtain rfl : p = N := by omega
      have FB := hid (bel2 HU.out HBe.out)
      go_wp2
      go_ret
      exact ⟨rfl, FB.out⟩

end Go.Proofs.YtahconkjhneogaaGreatDoor

namespace Go.Proofs.YtahconkjhneogaaGreatDoor
open Go.RowKit Go.Lib

theorem moved_any (m m' : Int) (bs bs' : List PS) (L L' : List Int) (ab ab' as' as2 : Option Addr) (cb cb' cs cs' : Nat) (hL : L.length ≤ 100000) (hL' : L'.length ≤ 100000) (hb : bs.length ≤ 100000) (hb' : bs'.length ≤ 100000) (w : World) (hT : TabIn w.heap.size w ab as' bs L) (hT' : TabIn w.heap.size w ab' as2 bs' L') :
    Calls Tryz.prog 17 #[.agg #[.int .i64 m, .slice ab bs.length cb, .slice as' L.length cs], .agg #[.int .i64 m', .slice ab' bs'.length cb', .slice as2 L'.length cs']] w fun e w' => e = .returned (.int .i64 (mov (fun p : Nat => ownW m bs L (p : Int)) (fun p : Nat => ownW m' bs' L' (p : Int)) (min L.length L'.length) : Nat)) ∧ Below w.heap.size w w' := by
  cases h : wholeT m L <;> cases h' : wholeT m' L'
  · exact moved_nn m m' bs bs' L L' ab ab' as' as2 cb cb' cs cs' hL hL' hb hb' h h' w hT hT'
  · exact moved_ny m m' bs bs' L L' ab ab' as' as2 cb cb' cs cs' hL hL' hb hb' h h' w hT hT'
  · exact moved_yn m m' bs bs' L L' ab ab' as' as2 cb cb' cs cs' hL hL' hb hb' h h' w hT hT'
  · exact moved_yy m m' bs bs' L L' ab ab' as' as2 cb cb' cs cs' hL hL' hb hb' h h' w hT hT'

theorem mov_none_left (f g : Nat → Option PS) (h : ∀ p, f p = none) : ∀ n, mov f g n = 0
  | 0 => rfl
  | n + 1 => by rw [mov, mov_none_left f g h n, h n]; rfl
theorem mov_none_right (f g : Nat → Option PS) (h : ∀ p, g p = none) : ∀ n, mov f g n = 0
  | 0 => rfl
  | n + 1 => by rw [mov, mov_none_right f g h n, h n]; simp
theorem mov_self (f : Nat → Option PS) : ∀ n, mov f f n = 0
  | 0 => rfl
  | n + 1 => by rw [mov, mov_self f n]; simp
theorem mov_comm (f g : Nat → Option PS) : ∀ n, mov f g n = mov g f n
  | 0 => rfl
  | n + 1 => by
    rw [mov, mov, mov_comm f g n]
    congr 2
    cases f n with
    | none => cases g n <;> rfl
    | some x =>
      cases g n with
      | none => rfl
      | some y =>
        simp only [Option.isSome_some, Option.getD_some, Bool.true_and]
        rw [decide_eq_decide.2 (eq_comm : x = y ↔ y = x)]

/-- What a filled table tells of all its places. -/
theorem own_filled {M : Nat} (hM : sizedB (M : Int) = true) (bs : List PS) (h0 : 0 < bs.length) {p : Nat} (hp : p < M) :
    (0 ≤ (fillT (ordL M bs) bs.length M M).getD p 0 ∧ (fillT (ordL M bs) bs.length M M).getD p 0 < bs.length) ∧ ownW M bs (fillT (ordL M bs) bs.length M M) p = some bs[((fillT (ordL M bs) bs.length M M).getD p 0).toNat]! := by
  have hl := fillT_length (ordL M bs) bs.length M M
  have he := fillT_end h0 (ordL_onto M hM bs) ((fillT (ordL M bs) bs.length M M).getD p 0) (by
    rw [List.getD_eq_getElem?_getD, List.getElem?_eq_getElem (by rw [hl]; exact hp)]
    exact List.getElem_mem _)
  refine ⟨he, ?_⟩
  unfold ownW wholeT ownT
  rw [hl, if_pos (by rw [hM]; simp), Int.toNat_natCast, if_pos ⟨by omega, by omega, he.1, he.2⟩]
end Go.Proofs.YtahconkjhneogaaGreatDoor

namespace Go.Proofs.YtahconkjhneogaaGreatDoor
open Go.Lib Go.Sort

abbrev Rising (xs : List PS) : Prop := xs.Pairwise plt

theorem rising_unique : ∀ (xs ys : List PS), Rising xs → Rising ys → (∀ a, a ∈ xs ↔ a ∈ ys) → xs = ys
  | [], [], _, _, _ => rfl
  | [], b :: ys, _, _, h => absurd ((h b).2 (List.mem_cons_self ..)) (by simp)
  | a :: xs, [], _, _, h => absurd ((h a).1 (List.mem_cons_self ..)) (by simp)
  | a :: xs, b :: ys, hx, hy, h => by
    rw [Rising, List.pairwise_cons] at hx hy
    have hab : a = b := by
      rcases List.mem_cons.1 ((h a).1 (List.mem_cons_self ..)) with e | e
      · exact e
      · rcases List.mem_cons.1 ((h b).2 (List.mem_cons_self ..)) with e' | e'
        · exact e'.symm
        · exact absurd (plt_trans (hy.1 a e) (hx.1 b e')) (plt_irrefl b)
    subst hab
    congr 1
    refine rising_unique xs ys hx.2 hy.2 fun c => ⟨fun hc => ?_, fun hc => ?_⟩
    · rcases List.mem_cons.1 ((h c).1 (List.mem_cons_of_mem _ hc)) with e | e
      · subst e; exact absurd (hx.1 c hc) (plt_irrefl c)
      · exact e
    · rcases List.mem_cons.1 ((h c).2 (List.mem_cons_of_mem _ hc)) with e | e
      · subst e; exact absurd (hy.1 c hc) (plt_irrefl c)
      · exact e

theorem upTo_facts (d : Array PS) (hs : ∀ i j, i < j → j < d.size → ¬ plt d[j]! d[i]!) : ∀ m, m ≤ d.size →
    (∀ a, a ∈ compactUpTo d m ↔ ∃ j, j < m ∧ d[j]! = a) ∧ Rising (compactUpTo d m)
  | 0, _ => ⟨fun a => by simp [compactUpTo], by simp [compactUpTo, Rising]⟩
  | m + 1, hm => by
    obtain ⟨h1, h2⟩ := upTo_facts d hs m (by omega)
    rw [compactUpTo_succ]
    by_cases hk : keeps d m = true
    · rw [if_pos hk]
      constructor
      · intro a
        rw [List.mem_append, h1 a, List.mem_singleton]
        constructor
        · rintro (⟨j, hj, e⟩ | e)
          · exact ⟨j, by omega, e⟩
          · exact ⟨m, by omega, e.symm⟩
        · rintro ⟨j, hj, e⟩
          by_cases hjm : j = m
          · subst hjm; exact .inr e.symm
          · exact .inl ⟨j, by omega, e⟩
      · refine List.pairwise_append.2 ⟨h2, List.pairwise_singleton _ _, fun a ha b hb => ?_⟩
        rw [List.mem_singleton] at hb
        subst hb
        obtain ⟨j, hj, rfl⟩ := (h1 a).1 ha
        have n1 := hs j m hj (by omega)
        by_cases hlt : plt d[j]! d[m]!
        · exact hlt
        · exfalso
          have e := plt_total hlt n1
          have hk' : m = 0 ∨ d[m]! ≠ d[m - 1]! := by simpa [keeps] using hk
          rcases hk' with h0 | hne
          · omega
          · by_cases hj1 : j = m - 1
            · subst hj1; exact hne e.symm
            · have n2 := hs j (m - 1) (by omega) (by omega)
              have n3 := hs (m - 1) m (by omega) (by omega)
              rw [e] at n2
              exact hne (plt_total n3 n2)
    · have hk' : m ≠ 0 ∧ d[m]! = d[m - 1]! := by
        simp only [keeps, decide_eq_true_eq, not_or] at hk
        exact ⟨hk.1, Classical.not_not.1 hk.2⟩
      rw [if_neg hk, List.append_nil]
      refine ⟨fun a => ?_, h2⟩
      rw [h1 a]
      constructor
      · rintro ⟨j, hj, e⟩
        exact ⟨j, by omega, e⟩
      · rintro ⟨j, hj, e⟩
        by_cases hjm : j = m
        · subst hjm; exact ⟨j - 1, by omega, by rw [← hk'.2]; exact e⟩
        · exact ⟨j, by omega, e⟩

theorem sorted_facts (xs : List PS) : Rising (compact (psort xs)) ∧ ∀ a, a ∈ compact (psort xs) ↔ a ∈ xs := by
  have hp := List.pairwise_iff_getElem.1 (psort_sorted xs)
  have h := upTo_facts (psort xs).toArray (fun i j hij hj => by
    have hj' : j < (psort xs).length := by simpa using hj
    rw [List.getElem!_toArray, List.getElem!_toArray, getElem!_pos (psort xs) j hj', getElem!_pos (psort xs) i (by omega)]
    exact hp i j (by omega) hj' hij) (psort xs).length (by simp)
  refine ⟨h.2, fun a => ?_⟩
  show a ∈ compactUpTo (psort xs).toArray (psort xs).length ↔ _
  rw [h.1 a, ← (psort_perm xs).mem_iff]
  constructor
  · rintro ⟨j, hj, e⟩
    rw [List.getElem!_toArray, getElem!_pos (psort xs) j hj] at e
    exact e ▸ List.getElem_mem hj
  · intro ha
    obtain ⟨j, hj, e⟩ := List.mem_iff_getElem.1 ha
    exact ⟨j, hj, by rw [List.getElem!_toArray, getElem!_pos (psort xs) j hj, e]⟩

/-- A key is put where it belongs. -/
theorem ins_rising (rs : List PS) (k : PS) (n : Nat) (hn : n ≤ rs.length) (hr : Rising rs) (hlo : ∀ m, m + 1 = n → ¬ plt k rs[m]! ∧ rs[m]! ≠ k) (hhi : ∀ j, n ≤ j → j < rs.length → plt k rs[j]!) :
    Rising (rs.take n ++ (k :: rs.drop n)) ∧ ∀ a, a ∈ rs.take n ++ (k :: rs.drop n) ↔ a = k ∨ a ∈ rs := by
  have hp := List.pairwise_iff_getElem.1 hr
  constructor
  · refine List.pairwise_append.2 ⟨hr.sublist (List.take_sublist _ _), List.pairwise_cons.2 ⟨fun b hb => ?_, hr.sublist (List.drop_sublist _ _)⟩, fun a ha b hb => ?_⟩
    · obtain ⟨j, hj, rfl⟩ := List.mem_iff_getElem.1 hb
      rw [List.getElem_drop]
      have hj' : n + j < rs.length := by simp at hj; omega
      have := hhi (n + j) (by omega) hj'
      rwa [getElem!_pos rs _ hj'] at this
    · obtain ⟨i, hi, rfl⟩ := List.mem_iff_getElem.1 ha
      rw [List.getElem_take]
      have hi' : i < n := by simp at hi; omega
      obtain ⟨m, rfl⟩ : ∃ m, n = m + 1 := ⟨n - 1, by omega⟩
      obtain ⟨h1, h2⟩ := hlo m rfl
      have hm : m < rs.length := by omega
      rw [getElem!_pos rs m hm] at h1 h2
      have hmk : plt rs[m] k := by
        by_cases h : plt rs[m] k
        · exact h
        · exact absurd (plt_total h h1) h2
      have hik : plt rs[i] k := by
        by_cases e : i = m
        · subst e; exact hmk
        · exact plt_trans (hp i m (by omega) hm (by omega)) hmk
      rcases List.mem_cons.1 hb with rfl | hb
      · exact hik
      · obtain ⟨j, hj, rfl⟩ := List.mem_iff_getElem.1 hb
        rw [List.getElem_drop]
        have hj' : m + 1 + j < rs.length := by simp at hj; omega
        exact hp i (m + 1 + j) (by omega) hj' (by omega)
  · intro a
    rw [List.mem_append, List.mem_cons]
    conv => rhs; rw [← List.take_append_drop n rs, List.mem_append]
    constructor
    · rintro (h | h | h)
      · exact .inr (.inl h)
      · exact .inl h
      · exact .inr (.inr h)
    · rintro (h | h | h)
      · exact .inr (.inl h)
      · exact .inl h
      · exact .inr (.inr h)
end Go.Proofs.YtahconkjhneogaaGreatDoor

namespace Go.Proofs.YtahconkjhneogaaGreatDoor
open Go.RowKit Go.Lib

def exP : PS := ⟨(false, [1, 2, 3, 4, 0, 0, 0, 0, 0, 0, 0, 0, 0, 0, 0, 0], 5), by
  refine ⟨rfl, fun x hx => ?_⟩
  simp only [List.mem_cons, List.not_mem_nil, or_false] at hx
  omega⟩
theorem encP_ex : encP exP = #[.bool false, .int .u8 1, .int .u8 2, .int .u8 3, .int .u8 4, .int .u8 0, .int .u8 0, .int .u8 0, .int .u8 0, .int .u8 0, .int .u8 0, .int .u8 0, .int .u8 0, .int .u8 0, .int .u8 0, .int .u8 0, .int .u8 0, .int .i64 5] := rfl

theorem sorted_one : psorted [exP] = [exP] := by
  have h := sorted_facts [exP]
  refine rising_unique _ _ h.1 (List.pairwise_singleton _ _) fun a => ?_
  exact h.2 a
theorem sized_seven : sizedB 7 = true := by
  unfold sizedB
  rw [Bool.and_eq_true, decide_eq_true_eq]
  exact ⟨by decide, (isP_iff 7).2 ⟨by omega, by omega, prm_seven⟩⟩
theorem fill_ex : fillE [exP] 7 = 0 := by
  unfold fillE
  rw [if_neg (by rw [sized_seven]; decide), if_neg, if_neg, if_neg]
  · rw [sorted_one]; decide
  · rw [sorted_one]; decide
  · unfold anyNo
    rw [List.any_eq_true]
    rintro ⟨x, hx, h⟩
    rw [List.mem_singleton] at hx
    subst hx
    have : isPt exP = true := by decide
    rw [this] at h
    cases h
theorem slots_ex : fillT (ordL 7 [exP]) 1 7 7 = [0, 0, 0, 0, 0, 0, 0] := by
  have hl := fillT_length (ordL 7 [exP]) 1 7 7
  have he := fillT_end (show 0 < 1 by omega) (ordL_onto 7 sized_seven [exP])
  apply List.ext_getElem (by rw [hl]; rfl)
  intro i h1 h2
  have := he _ (List.getElem_mem h1)
  have h3 : i < 7 := by rw [hl] at h1; exact h1
  have e : (fillT (ordL 7 [exP]) 1 7 7)[i] = 0 := by omega
  have q : ∀ i, (h : i < ([0, 0, 0, 0, 0, 0, 0] : List Int).length) → ([0, 0, 0, 0, 0, 0, 0] : List Int)[i] = 0 := by decide
  exact e.trans (q i h2).symm
set_option linter.unusedSimpArgs false in
set_option maxRecDepth 100000 in
set_option maxHeartbeats 4000000 in
theorem sameI_any (xs ys : List Int) (ax ay : Option Addr) (cx cy : Nat) (hx : xs.length ≤ 100000) (w : World) (hX : IntsIn w.heap.size w ax xs) (hY : IntsIn w.heap.size w ay ys) :
    Calls Tryz.prog 10 #[.slice ax xs.length cx, .slice ay ys.length cy] w fun e w' => e = .returned (.bool (decide (xs = ys))) ∧ Below w.heap.size w w' := by
  have HX := hid hX
  have HY := hid hY
  obtain ⟨n, hn⟩ : ∃ n, n = xs.length := ⟨_, rfl⟩
  obtain ⟨k, hk⟩ : ∃ k, k = ys.length := ⟨_, rfl⟩
  rw [← hn] at hx
  rw [← hn, ← hk]
  have Hn := hid hn
  have Hk := hid hk
  by_cases hne : n = k
  · subst hne
    have HN : Hid (∀ j, j < n → xs.getD j 0 ≠ ys.getD j 0 → false = decide (xs = ys)) := hid (fun j _ h => by
      symm
      rw [decide_eq_false_iff_not]
      rintro rfl
      exact h rfl)
    have HA : Hid ((∀ j, j < n → xs.getD j 0 = ys.getD j 0) → true = decide (xs = ys)) := hid (fun h => by
      symm
      rw [decide_eq_true_eq]
      apply List.ext_getElem (by omega)
      intro j h1 h2
      have := h j (by omega)
      simpa [List.getD, h1, h2] using this)
    clear hn hk hX hY
    go_enter Tryz.func10, Tryz.ntmps10
    go_wp2
    go_loopg [13] n (fun g s13 wr => ∃ p : Nat, s13 = .int .i64 (p : Int) ∧ p ≤ n ∧ n - p ≤ g ∧ Hid (Below w.heap.size w wr) ∧ Hid (∀ j, j < p → xs.getD j 0 = ys.getD j 0))
    case atStart => exact ⟨0, rfl, by omega, by omega, hid (Below.refl _ _), hid (fun j h => by omega)⟩
    case round =>
      obtain ⟨p, rfl, hp, hgp, HB, HF⟩ := hrel
      by_cases hlt : p < n
      · obtain ⟨gx, ox, rfl, hgx, hcx⟩ := HX.out p (by have := Hn.out; omega)
        obtain ⟨gy, oy, rfl, hgy, hcy⟩ := HY.out p (by have := Hk.out; omega)
        have d1 : wr.cell? ⟨gx, ox + p, none⟩ = some (.int .i64 (xs.getD p 0)) := (HB.out.cell (p := ⟨gx, ox + p, none⟩) hgx).trans hcx
        have d2 : wr.cell? ⟨gy, oy + p, none⟩ = some (.int .i64 (ys.getD p 0)) := (HB.out.cell (p := ⟨gy, oy + p, none⟩) hgy).trans hcy
        have HNp := hid (HN.out p hlt)
        have HFp : Hid (xs.getD p 0 = ys.getD p 0 → ∀ j, j < p + 1 → xs.getD j 0 = ys.getD j 0) := hid (fun h j hj => by
          by_cases e : j = p
          · rw [e]; exact h
          · exact HF.out j (by omega))
        clear hcx hcy
        generalize xs.getD p 0 = u at *
        generalize ys.getD p 0 = v at *
        have d1' : wr.drew.cell? ⟨gx, ox + p, none⟩ = some (.int .i64 u) := d1
        have d2' : wr.drew.cell? ⟨gy, oy + p, none⟩ = some (.int .i64 v) := d2
        have HB2 := hid HB.out.drew
        by_cases huv : u = v
        · have q : (u != v) = false := by rw [huv]; simp
          have HF2 := hid (HFp.out huv)
          clear huv
          go_wp2
          go_quiet (fail)
          go_wp2
          go_roundg (n - (p + 1))
          case measure => omega
          case rel => exact ⟨p + 1, by go_num, by omega, Nat.le_refl _, by first | exact HB | exact HB2 | exact hid (HB.out.trans ((below_drewN _ _).mono HB.out.size)), HF2⟩
        · have q : (u != v) = true := by rw [bne_iff_ne]; exact huv
          have HR := hid (HNp.out huv)
          clear huv
          go_wp2
          go_quiet (fail)
          go_wp2
          go_ret
          exact ⟨ret_b rfl HR.out, by first | exact HB.out | exact HB2.out | exact HB.out.trans ((below_drewN _ _).mono HB.out.size)⟩
      · obtain rfl : p = n := by omega
        have HR := hid (HA.out HF.out)
        go_wp2
        go_ret
        exact ⟨ret_b rfl HR.out, HB.out⟩
  · have HR : Hid (false = decide (xs = ys)) := hid (by
      symm
      rw [decide_eq_false_iff_not]
      rintro rfl
      exact hne (hn.trans hk.symm))
    have q : ((n : Int) != (k : Int)) = true := by rw [bne_iff_ne]; omega
    clear hn hk hX hY
    go_enter Tryz.func10, Tryz.ntmps10
    go_wp2
    go_ret
    exact ⟨ret_b rfl HR.out, Below.refl _ _⟩

set_option linter.unusedSimpArgs false in
set_option maxRecDepth 100000 in
set_option maxHeartbeats 4000000 in
theorem malive_any (E : Nat → TypeId × Value) (w : World) (hE : MEnv E w) : Calls Tryz.prog 5 #[] w fun e w' => e = .returned (.bool true) ∧ Below w.heap.size w w' := by
  obtain ⟨W0, hW0⟩ : ∃ W, W = w.alloc (.cells (encP exP) 41) := ⟨_, rfl⟩
  have b0 : Below w.heap.size w W0 := hW0 ▸ (Below.refl _ _).alloc (Nat.le_refl _) _
  have hel : Elems encP 18 W0.heap.size W0 (some ⟨w.heap.size, 0, none⟩) [exP] := by
    have s0 : W0.heap.size = w.heap.size + 1 := by rw [hW0]; simp
    rw [s0, hW0]
    exact elems_one w exP 41
  have HF : Hid (Calls Tryz.prog 6 #[.slice (some ⟨w.heap.size, 0, none⟩) 1 1, .int .i64 7] W0 (FillEnd E [exP] 7 W0)) := hid (fill_any E (some ⟨w.heap.size, 0, none⟩) 1 [exP] (Nat.le_refl _) (by decide) 7 W0 (hE.kept b0) hel)
  have HW0 := hid hW0.symm
  have Hb0 := hid b0
  have HS := hid (fun (xs ys : List Int) ax ay cx cy h W h1 h2 => sameI_any xs ys ax ay cx cy h W h1 h2)
  clear hW0 b0 hel hE
  go_enter Tryz.func5, Tryz.ntmps5
  go_wp2_with ((show wpList _ _ _ (⟨some 7, _, _, _, _, _⟩ :: _) _ _); go_must (refine wpl_run _ _ (exec_lit1 (.tmp 6) rfl (encP exP) rfl (encP_size exP)) rfl ?_; rw [HW0.out]))
  refine HF.out.mono ?_
  rintro e w1 ⟨hb, ⟨h0, _⟩ | ⟨_, M, ab, cap, S, hM, rfl, h1, h2, h3⟩⟩
  · exact absurd fill_ex h0
  · obtain rfl : M = 7 := by omega
    rw [sorted_one] at h3 ⊢
    have h3' : SlotB w1 S [0, 0, 0, 0, 0, 0, 0] := by
      have := h3
      rw [show ([exP] : List PS).length = 1 from rfl, slots_ex] at this
      exact this
    obtain ⟨W2, hW2⟩ : ∃ W, W = w1.alloc (.cells #[.int .i64 7, .slice ab 1 cap, .slice (some ⟨S, 0, none⟩) 7 7] 27) := ⟨_, rfl⟩
    obtain ⟨W3, hW3⟩ : ∃ W, W = W2.alloc (.cells #[.int .i64 0, .int .i64 0, .int .i64 0, .int .i64 0, .int .i64 0, .int .i64 0, .int .i64 0] 3) := ⟨_, rfl⟩
    have HW2 := hid hW2.symm
    have HW3 := hid hW3.symm
    have b2 : Below w1.heap.size w1 W2 := hW2 ▸ (Below.refl _ _).alloc (Nat.le_refl _) _
    have b3 : Below W2.heap.size W2 W3 := hW3 ▸ (Below.refl _ _).alloc (Nat.le_refl _) _
    have k2 : Blk W2 w1.heap.size 27 #[.int .i64 7, .slice ab 1 cap, .slice (some ⟨S, 0, none⟩) 7 7] := hW2 ▸ Blk.new w1 _ _
    have c2 : W2.cell? ⟨w1.heap.size, 2, none⟩ = some (.slice (some ⟨S, 0, none⟩) 7 7) := k2.cell 2
    have HK3 := hid (k2.kept b3)
    have s2 : W2.heap.size = w1.heap.size + 1 := by rw [hW2]; simp
    have HI1 := hid (SlotB.ints (Blk.kept (Blk.kept h3' b2) b3 : SlotB W3 S [0, 0, 0, 0, 0, 0, 0]))
    have HI2 : Hid (IntsIn W3.heap.size W3 (some ⟨W2.heap.size, 0, none⟩) [0, 0, 0, 0, 0, 0, 0]) := hid (SlotB.ints (hW3 ▸ Blk.new W2 _ _ : Blk W3 W2.heap.size 3 (([0, 0, 0, 0, 0, 0, 0] : List Int).map (Value.int .i64)).toArray))
    have HC : Hid (Calls Tryz.prog 10 #[.slice (some ⟨S, 0, none⟩) 7 7, .slice (some ⟨w1.heap.size + 1, 0, none⟩) 7 7] W3 fun e w' => e = .returned (.bool true) ∧ Below W3.heap.size W3 w') := hid (by rw [← s2]; exact HS.out [0, 0, 0, 0, 0, 0, 0] [0, 0, 0, 0, 0, 0, 0] (some ⟨S, 0, none⟩) (some ⟨W2.heap.size, 0, none⟩) 7 7 (by decide) W3 HI1.out HI2.out)
    have HB3 := hid (bel2 (bel2 (bel2 Hb0.out hb) b2) b3)
    clear hb h1 h2 h3 h3' hM hW2 hW3 b2 b3 k2 HS HF HW0 s2 c2
    have d1 : W3.cell? ⟨w1.heap.size, 1, none⟩ = some (.slice ab 1 cap) := HK3.out.cell 1
    go_wp2_with fail
    rw [HW2.out]
    rw [HW3.out]
    refine HC.out.mono ?_
    rintro e w4 ⟨rfl, hb⟩
    have Hb4 := hid (bel2 HB3.out hb)
    have d2 : w4.cell? ⟨w1.heap.size, 1, none⟩ = some (.slice ab 1 cap) := (HK3.out.kept hb).cell 1
    clear hb
    go_wp2
    go_ret
    exact ⟨rfl, Hb4.out⟩
end Go.Proofs.YtahconkjhneogaaGreatDoor

namespace Go.Proofs.YtahconkjhneogaaGreatDoor
open Go.RowKit Go.Shelf Go.Lib Go.Sort

set_option maxRecDepth 100000 in
set_option maxHeartbeats 4000000 in
theorem rpcmp_raw (s t : Bool) (X Y : List Nat) (hx : X.length = 16) (hy : Y.length = 16) (n m : Int) (w : World) :
    Calls Tryz.prog 51 #[.agg (pnt s (ints X) n), .agg (pnt t (ints Y) m)] w fun e w' => e = .returned (.int .i64 (cmpP s t X Y n m)) ∧ Below w.heap.size w w' := by
  obtain ⟨W0, hW0⟩ : ∃ W, W = w.alloc (.cells (pnt s (ints X) n) 41) := ⟨_, rfl⟩
  obtain ⟨W1, hW1⟩ : ∃ W, W = W0.alloc (.cells (pnt t (ints Y) m) 41) := ⟨_, rfl⟩
  have hlx : (ints X).length = 16 := by rw [ints_length, hx]
  have hly : (ints Y).length = 16 := by rw [ints_length, hy]
  have hB0 : Blk W0 w.heap.size 41 (pnt s (ints X) n) := hW0 ▸ Blk.new w _ _
  have hb0 : Below w.heap.size w W0 := hW0 ▸ (Below.refl _ _).alloc (Nat.le_refl _) _
  have hs0 : W0.heap.size = w.heap.size + 1 := by rw [hW0]; simp
  have hb1 : Below W0.heap.size W0 W1 := hW1 ▸ (Below.refl _ _).alloc (Nat.le_refl _) _
  have hB1 : Blk W1 (w.heap.size + 1) 41 (pnt t (ints Y) m) := by rw [← hs0]; exact hW1 ▸ Blk.new W0 _ _
  have HW0 := Lib.hid hW0.symm
  have HW1 := Lib.hid hW1.symm
  have HBc : Hid (Blk W1 (w.heap.size) 41 (pnt s (ints X) n)) := Lib.hid (hB0.kept hb1)
  have HBd := Lib.hid hB1
  have Hb0 : Hid (Below w.heap.size w W1) := Lib.hid (bel2 hb0 hb1)
  have LX := Lib.hid hlx
  have LY := Lib.hid hly
  have CQ := Lib.hid (refCompare_any s t X Y hx hy)
  have HC : Hid (cmpP s t X Y n m = if cmpA s t X Y ≠ 0 then cmpA s t X Y else if n < m then -1 else if m < n then 1 else 0) := Lib.hid rfl
  generalize cmpP s t X Y n m = R at *
  obtain ⟨c, hc⟩ : ∃ c, c = cmpA s t X Y := ⟨_, rfl⟩
  rw [← hc] at CQ HC
  clear hW0 hW1 hB0 hb0 hb1 hB1 hs0 hlx hly hx hy hc
  go_enter Tryz.func51, Tryz.ntmps51
  go_upto_region 1 with fail
  rw [HW0.out]
  rw [HW1.out]
  go_wp2_with (first | (refine wpl_load_padr _ rfl w.heap.size rfl s (ints X) n HBc.out LX.out rfl ?_) | (refine wpl_load_padr _ rfl (w.heap.size + 1) rfl t (ints Y) m HBd.out LY.out rfl ?_))
  refine (CQ.out W1).mono ?_
  rintro e w1 ⟨rfl, hb1⟩
  have c0 : w1.cell? ⟨w.heap.size, 17, none⟩ = some (.int .i64 n) := pnt_portCell (HBc.out.kept hb1) LX.out
  have c1 : w1.cell? ⟨w.heap.size + 1, 17, none⟩ = some (.int .i64 m) := pnt_portCell (HBd.out.kept hb1) LY.out
  have Hb1 := Lib.hid (bel2 Hb0.out hb1)
  clear hb1
  by_cases hc0 : c = 0
  · have q : (c != 0) = false := by rw [hc0]; rfl
    have HC2 : Hid (R = if n < m then -1 else if m < n then 1 else 0) := Lib.hid (by rw [HC.out, if_neg (by simp [hc0])])
    clear hc0
    by_cases h1 : n < m
    · go_wp2
      go_ret
      exact ⟨ret_int (by rw [HC2.out, if_pos h1]), Hb1.out⟩
    · by_cases h2 : m < n
      · go_wp2
        go_ret
        exact ⟨ret_int (by rw [HC2.out, if_neg (by omega), if_pos (by omega)]), Hb1.out⟩
      · go_wp2
        go_ret
        exact ⟨ret_int (by rw [HC2.out, if_neg (by omega), if_neg (by omega)]), Hb1.out⟩
  · have q : (c != 0) = true := by rw [bne_iff_ne]; exact hc0
    have HC2 : Hid (R = c) := Lib.hid (by rw [HC.out, if_pos hc0])
    go_wp2
    go_ret
    exact ⟨ret_int HC2.out.symm, Hb1.out⟩
theorem rpcompare_any (x y : PS) (w : World) : Calls Tryz.prog 51 #[.agg (encP x), .agg (encP y)] w fun e w' => e = .returned (.int .i64 (cmpQ x y)) ∧ Below w.heap.size w w' :=
  rpcmp_raw x.1.1 y.1.1 x.1.2.1 y.1.2.1 x.2.1 y.2.1 x.1.2.2 y.1.2.2 w
end Go.Proofs.YtahconkjhneogaaGreatDoor

namespace Go.Proofs.YtahconkjhneogaaGreatDoor
open Go.RowKit Go.Shelf Go.Lib Go.Sort

theorem yieldsIf_loadP {ops : Array Oper} {S : World → Prop} {op : Oper} {a : Act} (hw : Region.wanted op (yielded ops a.tmps) = true) (x : Operand) (ho : op.op = .load 41 x)
    (b o : Nat) (hx : a.eval x = .pointer (some ⟨b, o, none⟩)) (c : PS) (hS : ∀ w, S w → w.rangeAt b o (encPL c)) : YieldsIf Tryz.prog ops S op (.agg (encP c)) a := by
  have h := yieldsIf_load_mid (P := Tryz.prog) (S := S) hw 41 x ho b o hx (encPL c) _ hS Tryz.underlying41 rfl (encPL_info0 c)
  rwa [encP_back] at h

set_option maxRecDepth 100000 in
set_option maxHeartbeats 8000000 in
theorem rsort_some (cap0 g0 o0 : Nat) (xs : List PS) (hcap : xs.length ≤ cap0) (hm : xs.length ≤ 1000) (w : World) (hg0 : g0 < w.heap.size) (hI : ∀ j (hj : j < xs.length), w.rangeAt g0 (o0 + j * 18) (encPL xs[j])) :
    Calls Tryz.prog 26 #[.slice (some ⟨g0, o0, none⟩) xs.length cap0] w fun e w' => ∃ v rs, e = .returned v ∧ w'.ownsRow w.heap.size 41 18 v rs.length (flatY encP rs) ∧ Below w.heap.size w w' ∧ Rising rs ∧ ∀ a, a ∈ rs ↔ a ∈ xs := by
  obtain ⟨n, hn⟩ : ∃ n, n = xs.length := ⟨_, rfl⟩
  rw [← hn] at hcap hm ⊢
  have Hn := hid hn
  have HI := hid hI
  clear hn hI
  obtain ⟨W0, hW0⟩ : ∃ W, W = w.alloc (.cells #[] 41) := ⟨_, rfl⟩
  have HW0 := hid hW0.symm
  have HB0 : Hid (Below w.heap.size w W0) := hid (hW0 ▸ (Below.refl _ _).alloc (Nat.le_refl _) _)
  have HO0 : Hid (W0.ownsRow w.heap.size 41 18 (.slice (some ⟨w.heap.size, 0, none⟩) 0 0) 0 (flatY encP [])) := hid (by
    refine ⟨rfl, .inr ⟨w.heap.size, 0, #[], rfl, Nat.le_refl _, ?_, Nat.le_refl _, Nat.zero_le _, rfl, rfl⟩⟩
    rw [hW0]
    exact Blk.new w _ _)
  clear hW0
  go_enter Tryz.func26, Tryz.ntmps26
  go_wp2
  rw [HW0.out]
  go_loopg [3, 10] n (fun g s3 s10 wr => ∃ (p len : Nat) (rs : List PS) (go cap : Nat), s10 = .int .i64 (p : Int) ∧ p ≤ n ∧ n - p ≤ g ∧ len ≤ p ∧ s3 = .slice (some ⟨go, 0, none⟩) len cap ∧ Hid (len = rs.length ∧ wr.ownsRow w.heap.size 41 18 (.slice (some ⟨go, 0, none⟩) len cap) len (flatY encP rs)) ∧ Hid (Below w.heap.size w wr) ∧ Hid (Rising rs ∧ ∀ a, a ∈ rs ↔ a ∈ xs.take p))
  case atStart => exact ⟨0, 0, [], w.heap.size, 0, rfl, by omega, by omega, by omega, rfl, hid ⟨rfl, HO0.out⟩, HB0, hid ⟨List.Pairwise.nil, fun a => by simp⟩⟩
  case round =>
    obtain ⟨p, len, rs, go, cap, rfl, hp, hgp, hlp, rfl, HR, HB, HF⟩ := hrel
    by_cases hlt : p < n
    · have hpx : p < xs.length := by have := Hn.out; omega
      obtain ⟨x, hx⟩ : ∃ x, x = xs[p] := ⟨_, rfl⟩
      have HX : Hid (wr.rangeAt g0 (o0 + p * 18) (encPL x)) := hid (hx ▸ rangeAt_below HB.out hg0 (HI.out p hpx))
      have HT : Hid (xs.take (p + 1) = xs.take p ++ [x]) := hid (hx ▸ take_snoc' hpx)
      obtain ⟨V, hV⟩ : ∃ V, V = wr.alloc (.cells (encP x) 41) := ⟨_, rfl⟩
      have HV := hid hV.symm
      have HBV : Hid (Below w.heap.size w V) := hid (hV ▸ HB.out.alloc HB.out.size _)
      have HKV : Hid (Blk V wr.heap.size 41 (encP x)) := hid (hV ▸ Blk.new wr _ _)
      have HbV : Hid (Below wr.heap.size wr V) := hid (hV ▸ (Below.refl _ _).alloc (Nat.le_refl _) _)
      have HsV : Hid (V.heap.size = wr.heap.size + 1) := hid (by rw [hV]; exact World.size_alloc _ _)
      have hcl : len ≤ cap := by
        obtain ⟨_, ⟨h, _⟩ | ⟨g', cap', cur', h, _, _, h4, _⟩⟩ := HR.out.2
        · cases h
        · cases h; exact h4
      have HE : Hid (go < V.heap.size ∧ ∀ j, j < rs.length → V.rangeAt go (j * 18) (encPL rs[j]!)) := hid (by
        obtain ⟨_, ad', cap', h1, _, _, _, h5⟩ := own_elems HR.out.2
        obtain ⟨_, ⟨h, _⟩ | ⟨g', cp', cur', h, _, hh, _⟩⟩ := HR.out.2
        · cases h
        · cases h
          have hlt' := (Array.getElem?_eq_some_iff.1 hh).1
          refine ⟨by rw [HsV.out]; exact Nat.lt_succ_of_lt hlt', fun j hj => ?_⟩
          obtain ⟨g1, o1, e1, hg1, hr1⟩ := h5 j hj
          cases h1
          cases e1
          rw [Nat.zero_add] at hr1
          rw [getElem!_pos rs j hj]
          exact rangeAt_below HbV.out hlt' hr1)
      obtain ⟨g5, hg5⟩ : ∃ g5, g5 = wr.heap.size := ⟨_, rfl⟩
      have Hg5 := hid hg5.symm
      clear hx hV hg5
      go_wp2_with (first
        | ((show wpList _ _ _ (⟨some 13, _, _, _, _, _⟩ :: _) _ _); go_must (refine wpl_loadP (.tmp 12) rfl g0 (o0 + p * 18) rfl x HX.out rfl ?_))
        | ((show wpList _ _ _ (⟨none, _, _, _, _, _⟩ :: _) _ _); go_must (refine wpl_storeN (.tmp 5) (.tmp 13) rfl _ rfl rfl x rfl rfl ?_; rw [HV.out])))
      have H5 : Hid (V.rangeAt g5 0 (encPL x)) := hid (by
        have := (elems_one wr x 41) 0 (by simp)
        obtain ⟨g1, o1, e1, _, hr1⟩ := this
        cases e1
        rw [← Hg5.out, ← HV.out]
        exact hr1)
      have HRV : Hid (len = rs.length ∧ V.ownsRow w.heap.size 41 18 (.slice (some ⟨go, 0, none⟩) len cap) len (flatY encP rs)) := hid ⟨HR.out.1, by rw [← HV.out]; exact HR.out.2.alloc _⟩
      have H5s : Hid (g5 < V.heap.size) := hid (by rw [← Hg5.out, HsV.out]; exact Nat.lt_succ_self _)
      rw [Hg5.out]
      clear HX
      go_loopg [6] len (fun g s6 wr => ∃ m2 : Nat, m2 ≤ len ∧ m2 ≤ g ∧ s6 = .int .i64 (m2 : Int) ∧ Hid (Below V.heap.size V wr) ∧ Hid (∀ j, m2 ≤ j → j < len → plt x rs[j]!))
      case atStart => exact ⟨len, Nat.le_refl _, Nat.le_refl _, rfl, hid (Below.refl _ _), hid (fun j h1 h2 => by omega)⟩
      case round =>
        obtain ⟨m2, hm2, hgm, rfl, HB2, HG⟩ := hrel
        by_cases h0 : m2 = 0
        · have H0 := hid h0
          have HB3 : Hid (Below V.heap.size V wr.drew.drew.drew) := hid HB2.out.drew.drew.drew
          have HINS := hid (ins_rising rs x m2 (by omega) HF.out.1 (fun q hq => by omega) (fun j h1 h2 => HG.out j h1 (by have := HR.out.1; omega)))
          clear h0
          go_wp2_with fail
          refine wp_region_held_drew (S := fun V => Below wr.heap.size wr.drew V) (by kernel_rfl) (Below.refl _ _) (fun hS => ?_)
          change wpAnyH _ _ _ _ _ 12 #[false, false, false, false, false, false, false, false, false, false, false, false] _ _
          refine wpAnyH_take (i := 0) (v := .int .i64 (m2 : Int)) rfl (by kernel_rfl) (by kernel_rfl) (by kernel_rfl) (fun _ _ _ h => h) (.inl ⟨by kernel_rfl, fun w' _ => by unfold execOp; go_simp⟩) hS ?_
          simp only [List.getElem_toArray, List.getElem_cons_zero, Act.put, List.setIfInBounds_toArray, List.set_cons_zero, List.set_cons_succ]
          refine wpAnyH_take (i := 1) (v := .bool false) rfl (by kernel_rfl) (by kernel_rfl) (by kernel_rfl) (fun _ _ _ h => h) (.inl ⟨by kernel_rfl, fun w' _ => by unfold execOp; go_simp; first | exact H0.out | (have := H0.out; omega)⟩) hS ?_
          simp only [List.getElem_toArray, List.getElem_cons_zero, List.getElem_cons_succ, Act.put, List.setIfInBounds_toArray, List.set_cons_zero, List.set_cons_succ]
          refine wpAnyH_take (i := 2) (v := .bool false) rfl (by kernel_rfl) (by kernel_rfl) (by kernel_rfl) (fun _ _ _ h => h) (.inl ⟨by kernel_rfl, fun w' _ => by unfold execOp; go_simp⟩) hS ?_
          simp only [List.getElem_toArray, List.getElem_cons_zero, List.getElem_cons_succ, Act.put, List.setIfInBounds_toArray, List.set_cons_zero, List.set_cons_succ]
          refine wpAnyH_take (i := 3) (v := undef) rfl (by kernel_rfl) (by kernel_rfl) (by kernel_rfl) (fun _ _ _ h => h) (.inr ⟨by kernel_rfl, rfl⟩) hS ?_
          simp only [List.getElem_toArray, List.getElem_cons_zero, List.getElem_cons_succ, Act.put, List.setIfInBounds_toArray, List.set_cons_zero, List.set_cons_succ]
          refine wpAnyH_take (i := 4) (v := undef) rfl (by kernel_rfl) (by kernel_rfl) (by kernel_rfl) (fun _ _ _ h => h) (.inr ⟨by kernel_rfl, rfl⟩) hS ?_
          simp only [List.getElem_toArray, List.getElem_cons_zero, List.getElem_cons_succ, Act.put, List.setIfInBounds_toArray, List.set_cons_zero, List.set_cons_succ]
          refine wpAnyH_take (i := 5) (v := undef) rfl (by kernel_rfl) (by kernel_rfl) (by kernel_rfl) (fun _ _ _ h => h) (.inr ⟨by kernel_rfl, rfl⟩) hS ?_
          simp only [List.getElem_toArray, List.getElem_cons_zero, List.getElem_cons_succ, Act.put, List.setIfInBounds_toArray, List.set_cons_zero, List.set_cons_succ]
          refine wpAnyH_take (i := 6) (v := undef) rfl (by kernel_rfl) (by kernel_rfl) (by kernel_rfl) (fun _ _ _ h => h) (.inr ⟨by kernel_rfl, rfl⟩) hS ?_
          simp only [List.getElem_toArray, List.getElem_cons_zero, List.getElem_cons_succ, Act.put, List.setIfInBounds_toArray, List.set_cons_zero, List.set_cons_succ]
          refine wpAnyH_take (i := 7) (v := undef) rfl (by kernel_rfl) (by kernel_rfl) (by kernel_rfl) (fun _ _ _ h => h) (.inr ⟨by kernel_rfl, rfl⟩) hS ?_
          simp only [List.getElem_toArray, List.getElem_cons_zero, List.getElem_cons_succ, Act.put, List.setIfInBounds_toArray, List.set_cons_zero, List.set_cons_succ]
          refine wpAnyH_take (i := 8) (v := undef) rfl (by kernel_rfl) (by kernel_rfl) (by kernel_rfl) (fun _ _ _ h => h) (.inr ⟨by kernel_rfl, rfl⟩) hS ?_
          simp only [List.getElem_toArray, List.getElem_cons_zero, List.getElem_cons_succ, Act.put, List.setIfInBounds_toArray, List.set_cons_zero, List.set_cons_succ]
          refine wpAnyH_take (i := 9) (v := undef) rfl (by kernel_rfl) (by kernel_rfl) (by kernel_rfl) (fun _ _ _ h => h) (.inr ⟨by kernel_rfl, rfl⟩) hS ?_
          simp only [List.getElem_toArray, List.getElem_cons_zero, List.getElem_cons_succ, Act.put, List.setIfInBounds_toArray, List.set_cons_zero, List.set_cons_succ]
          refine wpAnyH_take (i := 10) (v := undef) rfl (by kernel_rfl) (by kernel_rfl) (by kernel_rfl) (fun _ _ _ h => h) (.inr ⟨by kernel_rfl, rfl⟩) hS ?_
          simp only [List.getElem_toArray, List.getElem_cons_zero, List.getElem_cons_succ, Act.put, List.setIfInBounds_toArray, List.set_cons_zero, List.set_cons_succ]
          refine wpAnyH_take (i := 11) (v := .bool false) rfl (by kernel_rfl) (by kernel_rfl) (by kernel_rfl) (fun _ _ _ h => h) (.inl ⟨by kernel_rfl, fun w' _ => by unfold execOp; go_simp⟩) hS ?_
          simp only [List.getElem_toArray, List.getElem_cons_zero, List.getElem_cons_succ, Act.put, List.setIfInBounds_toArray, List.set_cons_zero, List.set_cons_succ]
          refine wpAnyH_done (by kernel_rfl) ?_ _
          clear hS
          go_wp2_with fail
          refine wp_region_held_drew (S := fun W => W = wr.drew.drew) (by kernel_rfl) rfl (fun hS => ?_)
          change wpAnyH _ _ _ _ _ 11 #[false, false, false, false, false, false, false, false, false, false, false] _ _
          refine wpAnyH_take (i := 0) (v := .int .i64 (m2 : Int)) rfl (by kernel_rfl) (by kernel_rfl) (by kernel_rfl) (fun _ _ _ h => h) (.inl ⟨by kernel_rfl, fun w' _ => by unfold execOp; go_simp⟩) hS ?_
          simp only [List.getElem_toArray, List.getElem_cons_zero, Act.put, List.setIfInBounds_toArray, List.set_cons_zero, List.set_cons_succ]
          refine wpAnyH_take (i := 1) (v := .bool false) rfl (by kernel_rfl) (by kernel_rfl) (by kernel_rfl) (fun _ _ _ h => h) (.inl ⟨by kernel_rfl, fun w' _ => by unfold execOp; go_simp; first | exact H0.out | (have := H0.out; omega)⟩) hS ?_
          simp only [List.getElem_toArray, List.getElem_cons_zero, List.getElem_cons_succ, Act.put, List.setIfInBounds_toArray, List.set_cons_zero, List.set_cons_succ]
          refine wpAnyH_take (i := 2) (v := .bool false) rfl (by kernel_rfl) (by kernel_rfl) (by kernel_rfl) (fun _ _ _ h => h) (.inl ⟨by kernel_rfl, fun w' _ => by unfold execOp; go_simp⟩) hS ?_
          simp only [List.getElem_toArray, List.getElem_cons_zero, List.getElem_cons_succ, Act.put, List.setIfInBounds_toArray, List.set_cons_zero, List.set_cons_succ]
          refine wpAnyH_take (i := 3) (v := undef) rfl (by kernel_rfl) (by kernel_rfl) (by kernel_rfl) (fun _ _ _ h => h) (.inr ⟨by kernel_rfl, rfl⟩) hS ?_
          simp only [List.getElem_toArray, List.getElem_cons_zero, List.getElem_cons_succ, Act.put, List.setIfInBounds_toArray, List.set_cons_zero, List.set_cons_succ]
          refine wpAnyH_take (i := 4) (v := undef) rfl (by kernel_rfl) (by kernel_rfl) (by kernel_rfl) (fun _ _ _ h => h) (.inr ⟨by kernel_rfl, rfl⟩) hS ?_
          simp only [List.getElem_toArray, List.getElem_cons_zero, List.getElem_cons_succ, Act.put, List.setIfInBounds_toArray, List.set_cons_zero, List.set_cons_succ]
          refine wpAnyH_take (i := 5) (v := undef) rfl (by kernel_rfl) (by kernel_rfl) (by kernel_rfl) (fun _ _ _ h => h) (.inr ⟨by kernel_rfl, rfl⟩) hS ?_
          simp only [List.getElem_toArray, List.getElem_cons_zero, List.getElem_cons_succ, Act.put, List.setIfInBounds_toArray, List.set_cons_zero, List.set_cons_succ]
          refine wpAnyH_take (i := 6) (v := undef) rfl (by kernel_rfl) (by kernel_rfl) (by kernel_rfl) (fun _ _ _ h => h) (.inr ⟨by kernel_rfl, rfl⟩) hS ?_
          simp only [List.getElem_toArray, List.getElem_cons_zero, List.getElem_cons_succ, Act.put, List.setIfInBounds_toArray, List.set_cons_zero, List.set_cons_succ]
          refine wpAnyH_take (i := 7) (v := undef) rfl (by kernel_rfl) (by kernel_rfl) (by kernel_rfl) (fun _ _ _ h => h) (.inr ⟨by kernel_rfl, rfl⟩) hS ?_
          simp only [List.getElem_toArray, List.getElem_cons_zero, List.getElem_cons_succ, Act.put, List.setIfInBounds_toArray, List.set_cons_zero, List.set_cons_succ]
          refine wpAnyH_take (i := 8) (v := undef) rfl (by kernel_rfl) (by kernel_rfl) (by kernel_rfl) (fun _ _ _ h => h) (.inr ⟨by kernel_rfl, rfl⟩) hS ?_
          simp only [List.getElem_toArray, List.getElem_cons_zero, List.getElem_cons_succ, Act.put, List.setIfInBounds_toArray, List.set_cons_zero, List.set_cons_succ]
          refine wpAnyH_take (i := 9) (v := undef) rfl (by kernel_rfl) (by kernel_rfl) (by kernel_rfl) (fun _ _ _ h => h) (.inr ⟨by kernel_rfl, rfl⟩) hS ?_
          simp only [List.getElem_toArray, List.getElem_cons_zero, List.getElem_cons_succ, Act.put, List.setIfInBounds_toArray, List.set_cons_zero, List.set_cons_succ]
          refine wpAnyH_take (i := 10) (v := .bool false) rfl (by kernel_rfl) (by kernel_rfl) (by kernel_rfl) (fun _ _ _ h => h) (.inl ⟨by kernel_rfl, fun w' _ => by unfold execOp; go_simp⟩) hS ?_
          simp only [List.getElem_toArray, List.getElem_cons_zero, List.getElem_cons_succ, Act.put, List.setIfInBounds_toArray, List.set_cons_zero, List.set_cons_succ]
          refine wpAnyH_done (by kernel_rfl) ?_ _
          clear hS
          go_wp2_with fail
          generalize wr.drew.drew = U at HB3 ⊢
          have HBU : Hid (Below V.heap.size V U.drew) := HB3
          have HBW : Hid (Below w.heap.size w U.drew) := hid (HBV.out.trans (HBU.out.mono HBV.out.size))
          have HEU : Hid (Elems encP 18 U.heap.size U.drew (some ⟨go, 0, none⟩) rs) := hid (fun j hj => ⟨go, 0, rfl, Nat.lt_of_lt_of_le HE.out.1 HBU.out.size, by
            have := HE.out.2 j hj
            rw [getElem!_pos rs j hj] at this
            rw [Nat.zero_add]
            exact rangeAt_below HBU.out HE.out.1 this⟩)
          have H5U : Hid (U.drew.rangeAt g5 0 (encPL x) ∧ g5 < U.heap.size) := hid ⟨rangeAt_below HBU.out H5s.out H5.out, Nat.lt_of_lt_of_le H5s.out HBU.out.size⟩
          refine wp_region_held_drew (S := fun W => Below U.heap.size U.drew W) (by kernel_rfl) (Below.refl _ _) (fun hS => ?_)
          change wpAnyH _ _ _ _ _ 13 #[false, false, false, false, false, false, false, false, false, false, false, false, false] _ _
          refine wpAnyH_take (i := 1) (v := .slice (some ⟨go, 0, none⟩) len cap) rfl (by kernel_rfl) (by kernel_rfl) (by kernel_rfl) (fun _ _ _ h => h) (.inl ⟨by kernel_rfl, fun w' _ => by unfold execOp; go_simp⟩) hS ?_
          simp only [List.getElem_toArray, List.getElem_cons_zero, List.getElem_cons_succ, Act.put, List.setIfInBounds_toArray, List.set_cons_zero, List.set_cons_succ]
          refine wpAnyH_take (i := 2) (v := .int .i64 (m2 : Int)) rfl (by kernel_rfl) (by kernel_rfl) (by kernel_rfl) (fun _ _ _ h => h) (.inl ⟨by kernel_rfl, fun w' _ => by unfold execOp; go_simp⟩) hS ?_
          simp only [List.getElem_toArray, List.getElem_cons_zero, List.getElem_cons_succ, Act.put, List.setIfInBounds_toArray, List.set_cons_zero, List.set_cons_succ]
          refine wpAnyH_take (i := 3) (v := .slice (some ⟨go, 0, none⟩) m2 cap) rfl (by kernel_rfl) (by kernel_rfl) (by kernel_rfl) (fun _ _ _ h => h) (.inl ⟨by kernel_rfl, fun w' _ => exec_cutHK (.tmp 42) (.tmp 43) rfl (some ⟨go, 0, none⟩) len cap m2 rfl rfl (by omega)⟩) hS ?_
          simp only [List.getElem_toArray, List.getElem_cons_zero, List.getElem_cons_succ, Act.put, List.setIfInBounds_toArray, List.set_cons_zero, List.set_cons_succ]
          refine wpAnyH_take (i := 5) (v := .agg (encP x)) rfl (by kernel_rfl) (by kernel_rfl) (by kernel_rfl) (fun _ _ _ h => h) (yieldsIf_loadP (by kernel_rfl) (.tmp 5) rfl (g5) (0) rfl x (fun w' hw' => rangeAt_below hw' H5U.out.2 H5U.out.1)) hS ?_
          simp only [List.getElem_toArray, List.getElem_cons_zero, List.getElem_cons_succ, Act.put, List.setIfInBounds_toArray, List.set_cons_zero, List.set_cons_succ]
          refine wpAnyH_take (i := 8) (v := .slice (some ⟨go, 0, none⟩) len cap) rfl (by kernel_rfl) (by kernel_rfl) (by kernel_rfl) (fun _ _ _ h => h) (.inl ⟨by kernel_rfl, fun w' _ => by unfold execOp; go_simp⟩) hS ?_
          simp only [List.getElem_toArray, List.getElem_cons_zero, List.getElem_cons_succ, Act.put, List.setIfInBounds_toArray, List.set_cons_zero, List.set_cons_succ]
          refine wpAnyH_take (i := 9) (v := .int .i64 (m2 : Int)) rfl (by kernel_rfl) (by kernel_rfl) (by kernel_rfl) (fun _ _ _ h => h) (.inl ⟨by kernel_rfl, fun w' _ => by unfold execOp; go_simp⟩) hS ?_
          simp only [List.getElem_toArray, List.getElem_cons_zero, List.getElem_cons_succ, Act.put, List.setIfInBounds_toArray, List.set_cons_zero, List.set_cons_succ]
          refine wpAnyH_take (i := 10) (v := .slice (cutK (some ⟨go, 0, none⟩) cap m2) (len - m2) (cap - m2)) rfl (by kernel_rfl) (by kernel_rfl) (by kernel_rfl) (fun _ _ _ h => h) (.inl ⟨by kernel_rfl, fun w' _ => exec_cutLK (.tmp 49) (.tmp 50) rfl (some ⟨go, 0, none⟩) len cap m2 rfl rfl (by omega)⟩) hS ?_
          simp only [List.getElem_toArray, List.getElem_cons_zero, List.getElem_cons_succ, Act.put, List.setIfInBounds_toArray, List.set_cons_zero, List.set_cons_succ]
          have HT2 : Hid ((rs.take m2).length = m2) := hid (by rw [List.length_take]; have := HR.out.1; omega)
          have hln : len = rs.length := HR.out.1
          have HDL : Hid ((rs.drop m2).length = len - m2) := hid (by rw [List.length_drop, hln])
          have HD := elems_drop HEU.out (by omega : rs.length ≤ cap) (fun e => by cases e) m2 (by omega)
          refine wpAnyH_ready (rs := [0, 6]) (by kernel_rfl) (by simp) ?_
          refine AllReadyH.cons rfl (fun K' hK => ?_) (AllReadyH.cons rfl (fun K' hK => ?_) AllReadyH.nil)
          ·
            refine r_lit0 rfl U.heap.size (by first | exact Nat.le_refl _ | exact hS.size) (by kernel_rfl) (fun A hoA hzA hgA => hK.out _ _ (hS.grown hgA (by first | exact Nat.le_refl _ | exact hS.size) (fun k e => by cases e)) (fun hS => ?_))
            simp only [List.getElem_toArray, List.getElem_cons_zero, Act.put, List.setIfInBounds_toArray, List.set_cons_zero, List.set_cons_succ]
            refine wpAnyH_ready (rs := [4, 6]) (by kernel_rfl) (by simp) ?_
            refine AllReadyH.cons rfl (fun K' hK => ?_) (AllReadyH.cons rfl (fun K' hK => ?_) AllReadyH.nil)
            ·
              have own0 := hoA
              refine r_appK (.tmp 41) (.tmp 44) rfl U.heap.size _ 0 (flatY encP []) rfl own0 (some ⟨go, 0, none⟩) m2 cap (rs.take m2) rfl HT2.out U.heap.size ((elems_take HEU.out m2).below hS) (fun e => by cases e) (by omega) hS.size (by kernel_rfl) (fun v1 w1 h1 q1 => hK.out _ _ (hS.grown q1 (by first | exact Nat.le_refl _ | exact hS.size) (fun k e => own_block_le own0 e)) (fun hS => ?_))
              simp only [List.getElem_toArray, List.getElem_cons_zero, List.getElem_cons_succ, Act.put, List.setIfInBounds_toArray, List.set_cons_zero, List.set_cons_succ]
              refine wpAnyH_ready (rs := [6]) (by kernel_rfl) (by simp) ?_
              refine AllReadyH.cons rfl (fun K' hK => ?_) AllReadyH.nil
              refine r_lit1 (.tmp 46) rfl x rfl (by kernel_rfl) (fun C hlC hzC hgC => hK.out _ _ (hS.grown hgC (by first | exact Nat.le_refl _ | exact hS.size) (fun k e => by cases e)) (fun hS => ?_))
              simp only [List.getElem_toArray, List.getElem_cons_zero, List.getElem_cons_succ, Act.put, List.setIfInBounds_toArray, List.set_cons_zero, List.set_cons_succ]
              have own1 := ownsRow_below h1 (grown_belowP hgC)
              have lit1 := hlC
              refine wpAnyH_ready (rs := [7]) (by kernel_rfl) (by simp) ?_
              refine AllReadyH.cons rfl (fun K' hK => ?_) AllReadyH.nil
              refine r_appK (.tmp 45) (.tmp 47) rfl U.heap.size v1 _ _ rfl own1 _ 1 1 [x] rfl rfl _ lit1 (fun e => by cases e) (by omega) hS.size (by kernel_rfl) (fun v2 w2 h2 q2 => hK.out _ _ (hS.grown q2 (by first | exact Nat.le_refl _ | exact hS.size) (fun k e => own_block_le own1 e)) (fun hS => ?_))
              simp only [List.getElem_toArray, List.getElem_cons_zero, List.getElem_cons_succ, Act.put, List.setIfInBounds_toArray, List.set_cons_zero, List.set_cons_succ]
              refine wpAnyH_ready (rs := [11]) (by kernel_rfl) (by simp) ?_
              refine AllReadyH.cons rfl (fun K' hK => ?_) AllReadyH.nil
              refine r_appK (.tmp 48) (.tmp 51) rfl U.heap.size v2 _ _ rfl h2 (cutK (some ⟨go, 0, none⟩) cap m2) (len - m2) (cap - m2) (rs.drop m2) rfl HDL.out U.heap.size (HD.1.below hS) (fun e => by have := HD.2 e; omega) (by omega) hS.size (by kernel_rfl) (fun v3 w3 h3 q3 => ?_)
              have h4 := own_ins hln hm2 h3
              have hbk := fun k (e : v2.ownBlock = some k) => own_block_le h2 e
              obtain ⟨g', cap', rfl⟩ := ownsRow_succ h4
              refine hK.out _ _ (hS.grown q3 (by first | exact Nat.le_refl _ | exact hS.size) (fun k e => hbk k e)) (fun hS => ?_)
              simp only [List.getElem_toArray, List.getElem_cons_zero, List.getElem_cons_succ, Act.put, List.setIfInBounds_toArray, List.set_cons_zero, List.set_cons_succ]
              refine wpAnyH_take (i := 12) (v := .slice (some ⟨g', 0, none⟩) (len + 1) cap') rfl (by kernel_rfl) (by kernel_rfl) (by kernel_rfl) (fun _ _ _ h => h) (.inl ⟨by kernel_rfl, fun w' _ => by unfold execOp; go_simp⟩) hS ?_
              simp only [List.getElem_toArray, List.getElem_cons_zero, List.getElem_cons_succ, Act.put, List.setIfInBounds_toArray, List.set_cons_zero, List.set_cons_succ]
              refine wpAnyH_done (by kernel_rfl) ?_ _
              have HF9 : Hid ((len + 1 = (rs.take m2 ++ (x :: rs.drop m2)).length ∧ w3.ownsRow w.heap.size 41 18 (.slice (some ⟨g', 0, none⟩) (len + 1) cap') (len + 1) (flatY encP (rs.take m2 ++ (x :: rs.drop m2)))) ∧ Below w.heap.size w w3 ∧ Rising (rs.take m2 ++ (x :: rs.drop m2)) ∧ ∀ a, a ∈ rs.take m2 ++ (x :: rs.drop m2) ↔ a ∈ xs.take (p + 1)) := hid ⟨⟨by rw [List.length_append, List.length_cons, HT2.out, HDL.out]; omega, ownsRow_mono h4 HBW.out.size⟩, HBW.out.trans (hS.mono HBW.out.size), HINS.out.1, fun a => by rw [HINS.out.2 a, HT.out, List.mem_append, List.mem_singleton, HF.out.2 a]; exact Or.comm⟩
              clear hS h4 h3 h2 own1 lit1 HD HEU H5U hK hln
              go_wp2
              go_roundg (n - (p + 1))
              case measure => omega
              case rel => exact ⟨p + 1, len + 1, _, g', cap', by go_num, by omega, Nat.le_refl _, by omega, rfl, hid HF9.out.1, hid HF9.out.2.1, hid HF9.out.2.2⟩
            ·
              refine r_lit1 (.tmp 46) rfl x rfl (by kernel_rfl) (fun B hlB hzB hgB => hK.out _ _ (hS.grown hgB (by first | exact Nat.le_refl _ | exact hS.size) (fun k e => by cases e)) (fun hS => ?_))
              simp only [List.getElem_toArray, List.getElem_cons_zero, List.getElem_cons_succ, Act.put, List.setIfInBounds_toArray, List.set_cons_zero, List.set_cons_succ]
              refine wpAnyH_ready (rs := [4]) (by kernel_rfl) (by simp) ?_
              refine AllReadyH.cons rfl (fun K' hK => ?_) AllReadyH.nil
              have own0 := ownsRow_below hoA (grown_belowP hgB)
              refine r_appK (.tmp 41) (.tmp 44) rfl U.heap.size _ 0 (flatY encP []) rfl own0 (some ⟨go, 0, none⟩) m2 cap (rs.take m2) rfl HT2.out U.heap.size ((elems_take HEU.out m2).below hS) (fun e => by cases e) (by omega) hS.size (by kernel_rfl) (fun v1 w1 h1 q1 => hK.out _ _ (hS.grown q1 (by first | exact Nat.le_refl _ | exact hS.size) (fun k e => own_block_le own0 e)) (fun hS => ?_))
              simp only [List.getElem_toArray, List.getElem_cons_zero, List.getElem_cons_succ, Act.put, List.setIfInBounds_toArray, List.set_cons_zero, List.set_cons_succ]
              have own1 := h1
              have lit1 := elems_grown hlB (by omega) q1 (fun e => absurd (Option.some.inj (show some A.heap.size = some U.drew.heap.size from e)) (by omega))
              refine wpAnyH_ready (rs := [7]) (by kernel_rfl) (by simp) ?_
              refine AllReadyH.cons rfl (fun K' hK => ?_) AllReadyH.nil
              refine r_appK (.tmp 45) (.tmp 47) rfl U.heap.size v1 _ _ rfl own1 _ 1 1 [x] rfl rfl _ lit1 (fun e => by cases e) (by omega) hS.size (by kernel_rfl) (fun v2 w2 h2 q2 => hK.out _ _ (hS.grown q2 (by first | exact Nat.le_refl _ | exact hS.size) (fun k e => own_block_le own1 e)) (fun hS => ?_))
              simp only [List.getElem_toArray, List.getElem_cons_zero, List.getElem_cons_succ, Act.put, List.setIfInBounds_toArray, List.set_cons_zero, List.set_cons_succ]
              refine wpAnyH_ready (rs := [11]) (by kernel_rfl) (by simp) ?_
              refine AllReadyH.cons rfl (fun K' hK => ?_) AllReadyH.nil
              refine r_appK (.tmp 48) (.tmp 51) rfl U.heap.size v2 _ _ rfl h2 (cutK (some ⟨go, 0, none⟩) cap m2) (len - m2) (cap - m2) (rs.drop m2) rfl HDL.out U.heap.size (HD.1.below hS) (fun e => by have := HD.2 e; omega) (by omega) hS.size (by kernel_rfl) (fun v3 w3 h3 q3 => ?_)
              have h4 := own_ins hln hm2 h3
              have hbk := fun k (e : v2.ownBlock = some k) => own_block_le h2 e
              obtain ⟨g', cap', rfl⟩ := ownsRow_succ h4
              refine hK.out _ _ (hS.grown q3 (by first | exact Nat.le_refl _ | exact hS.size) (fun k e => hbk k e)) (fun hS => ?_)
              simp only [List.getElem_toArray, List.getElem_cons_zero, List.getElem_cons_succ, Act.put, List.setIfInBounds_toArray, List.set_cons_zero, List.set_cons_succ]
              refine wpAnyH_take (i := 12) (v := .slice (some ⟨g', 0, none⟩) (len + 1) cap') rfl (by kernel_rfl) (by kernel_rfl) (by kernel_rfl) (fun _ _ _ h => h) (.inl ⟨by kernel_rfl, fun w' _ => by unfold execOp; go_simp⟩) hS ?_
              simp only [List.getElem_toArray, List.getElem_cons_zero, List.getElem_cons_succ, Act.put, List.setIfInBounds_toArray, List.set_cons_zero, List.set_cons_succ]
              refine wpAnyH_done (by kernel_rfl) ?_ _
              have HF9 : Hid ((len + 1 = (rs.take m2 ++ (x :: rs.drop m2)).length ∧ w3.ownsRow w.heap.size 41 18 (.slice (some ⟨g', 0, none⟩) (len + 1) cap') (len + 1) (flatY encP (rs.take m2 ++ (x :: rs.drop m2)))) ∧ Below w.heap.size w w3 ∧ Rising (rs.take m2 ++ (x :: rs.drop m2)) ∧ ∀ a, a ∈ rs.take m2 ++ (x :: rs.drop m2) ↔ a ∈ xs.take (p + 1)) := hid ⟨⟨by rw [List.length_append, List.length_cons, HT2.out, HDL.out]; omega, ownsRow_mono h4 HBW.out.size⟩, HBW.out.trans (hS.mono HBW.out.size), HINS.out.1, fun a => by rw [HINS.out.2 a, HT.out, List.mem_append, List.mem_singleton, HF.out.2 a]; exact Or.comm⟩
              clear hS h4 h3 h2 own1 lit1 HD HEU H5U hK hln
              go_wp2
              go_roundg (n - (p + 1))
              case measure => omega
              case rel => exact ⟨p + 1, len + 1, _, g', cap', by go_num, by omega, Nat.le_refl _, by omega, rfl, hid HF9.out.1, hid HF9.out.2.1, hid HF9.out.2.2⟩
          ·
            refine r_lit1 (.tmp 46) rfl x rfl (by kernel_rfl) (fun A hlA hzA hgA => hK.out _ _ (hS.grown hgA (by first | exact Nat.le_refl _ | exact hS.size) (fun k e => by cases e)) (fun hS => ?_))
            simp only [List.getElem_toArray, List.getElem_cons_zero, List.getElem_cons_succ, Act.put, List.setIfInBounds_toArray, List.set_cons_zero, List.set_cons_succ]
            refine wpAnyH_ready (rs := [0]) (by kernel_rfl) (by simp) ?_
            refine AllReadyH.cons rfl (fun K' hK => ?_) AllReadyH.nil
            refine r_lit0 rfl U.heap.size (by first | exact Nat.le_refl _ | exact hS.size) (by kernel_rfl) (fun B hoB hzB hgB => hK.out _ _ (hS.grown hgB (by first | exact Nat.le_refl _ | exact hS.size) (fun k e => by cases e)) (fun hS => ?_))
            simp only [List.getElem_toArray, List.getElem_cons_zero, Act.put, List.setIfInBounds_toArray, List.set_cons_zero, List.set_cons_succ]
            refine wpAnyH_ready (rs := [4]) (by kernel_rfl) (by simp) ?_
            refine AllReadyH.cons rfl (fun K' hK => ?_) AllReadyH.nil
            have own0 := hoB
            refine r_appK (.tmp 41) (.tmp 44) rfl U.heap.size _ 0 (flatY encP []) rfl own0 (some ⟨go, 0, none⟩) m2 cap (rs.take m2) rfl HT2.out U.heap.size ((elems_take HEU.out m2).below hS) (fun e => by cases e) (by omega) hS.size (by kernel_rfl) (fun v1 w1 h1 q1 => hK.out _ _ (hS.grown q1 (by first | exact Nat.le_refl _ | exact hS.size) (fun k e => own_block_le own0 e)) (fun hS => ?_))
            simp only [List.getElem_toArray, List.getElem_cons_zero, List.getElem_cons_succ, Act.put, List.setIfInBounds_toArray, List.set_cons_zero, List.set_cons_succ]
            have own1 := h1
            have lit1 := elems_grown (elems_grown hlA (by omega) hgB (fun e => by cases e)) (by omega) q1 (fun e => absurd (Option.some.inj (show some U.drew.heap.size = some A.heap.size from e)) (by omega))
            refine wpAnyH_ready (rs := [7]) (by kernel_rfl) (by simp) ?_
            refine AllReadyH.cons rfl (fun K' hK => ?_) AllReadyH.nil
            refine r_appK (.tmp 45) (.tmp 47) rfl U.heap.size v1 _ _ rfl own1 _ 1 1 [x] rfl rfl _ lit1 (fun e => by cases e) (by omega) hS.size (by kernel_rfl) (fun v2 w2 h2 q2 => hK.out _ _ (hS.grown q2 (by first | exact Nat.le_refl _ | exact hS.size) (fun k e => own_block_le own1 e)) (fun hS => ?_))
            simp only [List.getElem_toArray, List.getElem_cons_zero, List.getElem_cons_succ, Act.put, List.setIfInBounds_toArray, List.set_cons_zero, List.set_cons_succ]
            refine wpAnyH_ready (rs := [11]) (by kernel_rfl) (by simp) ?_
            refine AllReadyH.cons rfl (fun K' hK => ?_) AllReadyH.nil
            refine r_appK (.tmp 48) (.tmp 51) rfl U.heap.size v2 _ _ rfl h2 (cutK (some ⟨go, 0, none⟩) cap m2) (len - m2) (cap - m2) (rs.drop m2) rfl HDL.out U.heap.size (HD.1.below hS) (fun e => by have := HD.2 e; omega) (by omega) hS.size (by kernel_rfl) (fun v3 w3 h3 q3 => ?_)
            have h4 := own_ins hln hm2 h3
            have hbk := fun k (e : v2.ownBlock = some k) => own_block_le h2 e
            obtain ⟨g', cap', rfl⟩ := ownsRow_succ h4
            refine hK.out _ _ (hS.grown q3 (by first | exact Nat.le_refl _ | exact hS.size) (fun k e => hbk k e)) (fun hS => ?_)
            simp only [List.getElem_toArray, List.getElem_cons_zero, List.getElem_cons_succ, Act.put, List.setIfInBounds_toArray, List.set_cons_zero, List.set_cons_succ]
            refine wpAnyH_take (i := 12) (v := .slice (some ⟨g', 0, none⟩) (len + 1) cap') rfl (by kernel_rfl) (by kernel_rfl) (by kernel_rfl) (fun _ _ _ h => h) (.inl ⟨by kernel_rfl, fun w' _ => by unfold execOp; go_simp⟩) hS ?_
            simp only [List.getElem_toArray, List.getElem_cons_zero, List.getElem_cons_succ, Act.put, List.setIfInBounds_toArray, List.set_cons_zero, List.set_cons_succ]
            refine wpAnyH_done (by kernel_rfl) ?_ _
            have HF9 : Hid ((len + 1 = (rs.take m2 ++ (x :: rs.drop m2)).length ∧ w3.ownsRow w.heap.size 41 18 (.slice (some ⟨g', 0, none⟩) (len + 1) cap') (len + 1) (flatY encP (rs.take m2 ++ (x :: rs.drop m2)))) ∧ Below w.heap.size w w3 ∧ Rising (rs.take m2 ++ (x :: rs.drop m2)) ∧ ∀ a, a ∈ rs.take m2 ++ (x :: rs.drop m2) ↔ a ∈ xs.take (p + 1)) := hid ⟨⟨by rw [List.length_append, List.length_cons, HT2.out, HDL.out]; omega, ownsRow_mono h4 HBW.out.size⟩, HBW.out.trans (hS.mono HBW.out.size), HINS.out.1, fun a => by rw [HINS.out.2 a, HT.out, List.mem_append, List.mem_singleton, HF.out.2 a]; exact Or.comm⟩
            clear hS h4 h3 h2 own1 lit1 HD HEU H5U hK hln
            go_wp2
            go_roundg (n - (p + 1))
            case measure => omega
            case rel => exact ⟨p + 1, len + 1, _, g', cap', by go_num, by omega, Nat.le_refl _, by omega, rfl, hid HF9.out.1, hid HF9.out.2.1, hid HF9.out.2.2⟩
        · obtain ⟨m, hm, hm'⟩ : ∃ m, m < m2 ∧ m2 ≤ m + 1 := ⟨m2 - 1, by omega, by omega⟩
          obtain ⟨y, hy⟩ : ∃ y, y = rs[m]! := ⟨_, rfl⟩
          have HY : Hid (wr.drew.rangeAt go (m * 18) (encPL y) ∧ go < wr.heap.size) := hid (by
            have h1 := HE.out.2 m (by have := HR.out.1; omega)
            have h2 := HB2.out.size
            have h4 := HE.out.1
            rw [hy]
            exact ⟨rangeAt_below HB2.out (by omega) h1, by omega⟩)
          have H5' : Hid (wr.drew.rangeAt g5 0 (encPL x) ∧ g5 < wr.heap.size) := hid ⟨rangeAt_below HB2.out H5s.out H5.out, Nat.lt_of_lt_of_le H5s.out HB2.out.size⟩
          have HC := hid (rpcompare_any x y)
          have HL : Hid (cmpQ x y < 0 ↔ plt x y) := hid Iff.rfl
          generalize cmpQ x y = c at HC HL
          by_cases hc : c < 0
          · go_wp2_with fail
            refine wp_region_held_drew (S := fun V => Below wr.heap.size wr.drew V) (by kernel_rfl) (Below.refl _ _) (fun hS => ?_)
            change wpAnyH _ _ _ _ _ 12 #[false, false, false, false, false, false, false, false, false, false, false, false] _ _
            refine wpAnyH_take (i := 0) (v := .int .i64 (m2 : Int)) rfl (by kernel_rfl) (by kernel_rfl) (by kernel_rfl) (fun _ _ _ h => h) (.inl ⟨by kernel_rfl, fun w' _ => by unfold execOp; go_simp⟩) hS ?_
            simp only [List.getElem_toArray, List.getElem_cons_zero, Act.put, List.setIfInBounds_toArray, List.set_cons_zero, List.set_cons_succ]
            refine wpAnyH_take (i := 1) (v := .bool true) rfl (by kernel_rfl) (by kernel_rfl) (by kernel_rfl) (fun _ _ _ h => h) (.inl ⟨by kernel_rfl, fun w' _ => by unfold execOp; go_simp; try omega⟩) hS ?_
            simp only [List.getElem_toArray, List.getElem_cons_zero, List.getElem_cons_succ, Act.put, List.setIfInBounds_toArray, List.set_cons_zero, List.set_cons_succ]
            refine wpAnyH_take (i := 2) (v := .bool true) rfl (by kernel_rfl) (by kernel_rfl) (by kernel_rfl) (fun _ _ _ h => h) (.inl ⟨by kernel_rfl, fun w' _ => by unfold execOp; go_simp⟩) hS ?_
            simp only [List.getElem_toArray, List.getElem_cons_zero, List.getElem_cons_succ, Act.put, List.setIfInBounds_toArray, List.set_cons_zero, List.set_cons_succ]
            refine wpAnyH_take (i := 3) (v := .agg (encP x)) rfl (by kernel_rfl) (by kernel_rfl) (by kernel_rfl) (fun _ _ _ h => h) (yieldsIf_loadP (by kernel_rfl) (.tmp 5) rfl (g5) (0) rfl x (fun w' hw' => rangeAt_below hw' H5'.out.2 H5'.out.1)) hS ?_
            simp only [List.getElem_toArray, List.getElem_cons_zero, List.getElem_cons_succ, Act.put, List.setIfInBounds_toArray, List.set_cons_zero, List.set_cons_succ]
            refine wpAnyH_take (i := 4) (v := .slice (some ⟨go, 0, none⟩) len cap) rfl (by kernel_rfl) (by kernel_rfl) (by kernel_rfl) (fun _ _ _ h => h) (.inl ⟨by kernel_rfl, fun w' _ => by unfold execOp; go_simp⟩) hS ?_
            simp only [List.getElem_toArray, List.getElem_cons_zero, List.getElem_cons_succ, Act.put, List.setIfInBounds_toArray, List.set_cons_zero, List.set_cons_succ]
            refine wpAnyH_take (i := 5) (v := .int .i64 (m2 : Int)) rfl (by kernel_rfl) (by kernel_rfl) (by kernel_rfl) (fun _ _ _ h => h) (.inl ⟨by kernel_rfl, fun w' _ => by unfold execOp; go_simp⟩) hS ?_
            simp only [List.getElem_toArray, List.getElem_cons_zero, List.getElem_cons_succ, Act.put, List.setIfInBounds_toArray, List.set_cons_zero, List.set_cons_succ]
            refine wpAnyH_take (i := 6) (v := .int .i64 (m : Int)) rfl (by kernel_rfl) (by kernel_rfl) (by kernel_rfl) (fun _ _ _ h => h) (.inl ⟨by kernel_rfl, fun w' _ => by unfold execOp; go_simp; rw [show ((m2 : Int) - 1) = (m : Int) by omega]; exact wrap_small _ (by omega)⟩) hS ?_
            simp only [List.getElem_toArray, List.getElem_cons_zero, List.getElem_cons_succ, Act.put, List.setIfInBounds_toArray, List.set_cons_zero, List.set_cons_succ]
            refine wpAnyH_take (i := 7) (v := .pointer (some ⟨go, m * 18, none⟩)) rfl (by kernel_rfl) (by kernel_rfl) (by kernel_rfl) (fun _ _ _ h => h) (.inl ⟨by kernel_rfl, fun w' _ => by unfold execOp; go_simp; try (intro h; omega)⟩) hS ?_
            simp only [List.getElem_toArray, List.getElem_cons_zero, List.getElem_cons_succ, Act.put, List.setIfInBounds_toArray, List.set_cons_zero, List.set_cons_succ]
            refine wpAnyH_take (i := 8) (v := .agg (encP y)) rfl (by kernel_rfl) (by kernel_rfl) (by kernel_rfl) (fun _ _ _ h => h) (yieldsIf_loadP (by kernel_rfl) (.tmp 23) rfl (go) (m * 18) rfl y (fun w' hw' => rangeAt_below hw' HY.out.2 HY.out.1)) hS ?_
            simp only [List.getElem_toArray, List.getElem_cons_zero, List.getElem_cons_succ, Act.put, List.setIfInBounds_toArray, List.set_cons_zero, List.set_cons_succ]
            refine wpAnyH_ready (rs := [9]) (by kernel_rfl) (by simp) ?_
            refine AllReadyH.cons rfl (fun K' hK => ?_) AllReadyH.nil
            refine r_call 51 #[.agg (encP x), .agg (encP y)] (by kernel_rfl) (by kernel_rfl) (.int .i64 c) (HC.out _) (fun V3 h => hK.out _ _ (hS.trans (h.mono hS.size)) (fun hS => ?_))
            simp only [List.getElem_toArray, List.getElem_cons_zero, List.getElem_cons_succ, Act.put, List.setIfInBounds_toArray, List.set_cons_zero, List.set_cons_succ]
            refine wpAnyH_take (i := 10) (v := .bool true) rfl (by kernel_rfl) (by kernel_rfl) (by kernel_rfl) (fun _ _ _ h => h) (.inl ⟨by kernel_rfl, fun w' _ => by unfold execOp; go_simp; try omega⟩) hS ?_
            simp only [List.getElem_toArray, List.getElem_cons_zero, List.getElem_cons_succ, Act.put, List.setIfInBounds_toArray, List.set_cons_zero, List.set_cons_succ]
            refine wpAnyH_take (i := 11) (v := .bool true) rfl (by kernel_rfl) (by kernel_rfl) (by kernel_rfl) (fun _ _ _ h => h) (.inl ⟨by kernel_rfl, fun w' _ => by unfold execOp; go_simp⟩) hS ?_
            simp only [List.getElem_toArray, List.getElem_cons_zero, List.getElem_cons_succ, Act.put, List.setIfInBounds_toArray, List.set_cons_zero, List.set_cons_succ]
            refine wpAnyH_done (by kernel_rfl) ?_ _
            have HB3 : Hid (Below V.heap.size V V3) := hid (HB2.out.drew.trans (hS.mono HB2.out.size))
            clear hS HY H5' HB2
            go_wp2
            go_roundg m
            case measure => omega
            case rel => exact ⟨m, by omega, Nat.le_refl _, by go_num, HB3, hid (fun j h1 h2 => by
                by_cases e : j = m
                · subst e; rw [← hy]; exact HL.out.1 hc
                · exact HG.out j (by omega) h2)⟩
          · go_wp2_with fail
            refine wp_region_held_drew (S := fun V => Below wr.heap.size wr.drew V) (by kernel_rfl) (Below.refl _ _) (fun hS => ?_)
            change wpAnyH _ _ _ _ _ 12 #[false, false, false, false, false, false, false, false, false, false, false, false] _ _
            refine wpAnyH_take (i := 0) (v := .int .i64 (m2 : Int)) rfl (by kernel_rfl) (by kernel_rfl) (by kernel_rfl) (fun _ _ _ h => h) (.inl ⟨by kernel_rfl, fun w' _ => by unfold execOp; go_simp⟩) hS ?_
            simp only [List.getElem_toArray, List.getElem_cons_zero, Act.put, List.setIfInBounds_toArray, List.set_cons_zero, List.set_cons_succ]
            refine wpAnyH_take (i := 1) (v := .bool true) rfl (by kernel_rfl) (by kernel_rfl) (by kernel_rfl) (fun _ _ _ h => h) (.inl ⟨by kernel_rfl, fun w' _ => by unfold execOp; go_simp; try omega⟩) hS ?_
            simp only [List.getElem_toArray, List.getElem_cons_zero, List.getElem_cons_succ, Act.put, List.setIfInBounds_toArray, List.set_cons_zero, List.set_cons_succ]
            refine wpAnyH_take (i := 2) (v := .bool true) rfl (by kernel_rfl) (by kernel_rfl) (by kernel_rfl) (fun _ _ _ h => h) (.inl ⟨by kernel_rfl, fun w' _ => by unfold execOp; go_simp⟩) hS ?_
            simp only [List.getElem_toArray, List.getElem_cons_zero, List.getElem_cons_succ, Act.put, List.setIfInBounds_toArray, List.set_cons_zero, List.set_cons_succ]
            refine wpAnyH_take (i := 3) (v := .agg (encP x)) rfl (by kernel_rfl) (by kernel_rfl) (by kernel_rfl) (fun _ _ _ h => h) (yieldsIf_loadP (by kernel_rfl) (.tmp 5) rfl (g5) (0) rfl x (fun w' hw' => rangeAt_below hw' H5'.out.2 H5'.out.1)) hS ?_
            simp only [List.getElem_toArray, List.getElem_cons_zero, List.getElem_cons_succ, Act.put, List.setIfInBounds_toArray, List.set_cons_zero, List.set_cons_succ]
            refine wpAnyH_take (i := 4) (v := .slice (some ⟨go, 0, none⟩) len cap) rfl (by kernel_rfl) (by kernel_rfl) (by kernel_rfl) (fun _ _ _ h => h) (.inl ⟨by kernel_rfl, fun w' _ => by unfold execOp; go_simp⟩) hS ?_
            simp only [List.getElem_toArray, List.getElem_cons_zero, List.getElem_cons_succ, Act.put, List.setIfInBounds_toArray, List.set_cons_zero, List.set_cons_succ]
            refine wpAnyH_take (i := 5) (v := .int .i64 (m2 : Int)) rfl (by kernel_rfl) (by kernel_rfl) (by kernel_rfl) (fun _ _ _ h => h) (.inl ⟨by kernel_rfl, fun w' _ => by unfold execOp; go_simp⟩) hS ?_
            simp only [List.getElem_toArray, List.getElem_cons_zero, List.getElem_cons_succ, Act.put, List.setIfInBounds_toArray, List.set_cons_zero, List.set_cons_succ]
            refine wpAnyH_take (i := 6) (v := .int .i64 (m : Int)) rfl (by kernel_rfl) (by kernel_rfl) (by kernel_rfl) (fun _ _ _ h => h) (.inl ⟨by kernel_rfl, fun w' _ => by unfold execOp; go_simp; rw [show ((m2 : Int) - 1) = (m : Int) by omega]; exact wrap_small _ (by omega)⟩) hS ?_
            simp only [List.getElem_toArray, List.getElem_cons_zero, List.getElem_cons_succ, Act.put, List.setIfInBounds_toArray, List.set_cons_zero, List.set_cons_succ]
            refine wpAnyH_take (i := 7) (v := .pointer (some ⟨go, m * 18, none⟩)) rfl (by kernel_rfl) (by kernel_rfl) (by kernel_rfl) (fun _ _ _ h => h) (.inl ⟨by kernel_rfl, fun w' _ => by unfold execOp; go_simp; try (intro h; omega)⟩) hS ?_
            simp only [List.getElem_toArray, List.getElem_cons_zero, List.getElem_cons_succ, Act.put, List.setIfInBounds_toArray, List.set_cons_zero, List.set_cons_succ]
            refine wpAnyH_take (i := 8) (v := .agg (encP y)) rfl (by kernel_rfl) (by kernel_rfl) (by kernel_rfl) (fun _ _ _ h => h) (yieldsIf_loadP (by kernel_rfl) (.tmp 23) rfl (go) (m * 18) rfl y (fun w' hw' => rangeAt_below hw' HY.out.2 HY.out.1)) hS ?_
            simp only [List.getElem_toArray, List.getElem_cons_zero, List.getElem_cons_succ, Act.put, List.setIfInBounds_toArray, List.set_cons_zero, List.set_cons_succ]
            refine wpAnyH_ready (rs := [9]) (by kernel_rfl) (by simp) ?_
            refine AllReadyH.cons rfl (fun K' hK => ?_) AllReadyH.nil
            refine r_call 51 #[.agg (encP x), .agg (encP y)] (by kernel_rfl) (by kernel_rfl) (.int .i64 c) (HC.out _) (fun V3 h => hK.out _ _ (hS.trans (h.mono hS.size)) (fun hS => ?_))
            simp only [List.getElem_toArray, List.getElem_cons_zero, List.getElem_cons_succ, Act.put, List.setIfInBounds_toArray, List.set_cons_zero, List.set_cons_succ]
            refine wpAnyH_take (i := 10) (v := .bool false) rfl (by kernel_rfl) (by kernel_rfl) (by kernel_rfl) (fun _ _ _ h => h) (.inl ⟨by kernel_rfl, fun w' _ => by unfold execOp; go_simp; try omega⟩) hS ?_
            simp only [List.getElem_toArray, List.getElem_cons_zero, List.getElem_cons_succ, Act.put, List.setIfInBounds_toArray, List.set_cons_zero, List.set_cons_succ]
            refine wpAnyH_take (i := 11) (v := .bool false) rfl (by kernel_rfl) (by kernel_rfl) (by kernel_rfl) (fun _ _ _ h => h) (.inl ⟨by kernel_rfl, fun w' _ => by unfold execOp; go_simp⟩) hS ?_
            simp only [List.getElem_toArray, List.getElem_cons_zero, List.getElem_cons_succ, Act.put, List.setIfInBounds_toArray, List.set_cons_zero, List.set_cons_succ]
            refine wpAnyH_done (by kernel_rfl) ?_ _
            have HB3 : Hid (Below V.heap.size V V3) := hid (HB2.out.drew.trans (hS.mono HB2.out.size))
            clear hS HY H5' HB2
            have HY : Hid (V3.drew.rangeAt go (m * 18) (encPL y)) := hid (hy ▸ rangeAt_below HB3.out HE.out.1 (HE.out.2 m (by have := HR.out.1; omega)))
            have H5' : Hid (V3.drew.rangeAt g5 0 (encPL x)) := hid (rangeAt_below HB3.out H5s.out H5.out)
            by_cases hxy : y = x
            · have heqx := eql_pt y x
              have hxx : decide (y = x) = true := decide_eq_true hxy
              rw [hxx] at heqx
              clear hxx
              go_wp2_with fail
              refine wp_region_held_drew (S := fun W => W = V3.drew) (by kernel_rfl) rfl (fun hS => ?_)
              change wpAnyH _ _ _ _ _ 11 #[false, false, false, false, false, false, false, false, false, false, false] _ _
              refine wpAnyH_take (i := 0) (v := .int .i64 (m2 : Int)) rfl (by kernel_rfl) (by kernel_rfl) (by kernel_rfl) (fun _ _ _ h => h) (.inl ⟨by kernel_rfl, fun w' _ => by unfold execOp; go_simp⟩) hS ?_
              simp only [List.getElem_toArray, List.getElem_cons_zero, Act.put, List.setIfInBounds_toArray, List.set_cons_zero, List.set_cons_succ]
              refine wpAnyH_take (i := 1) (v := .bool true) rfl (by kernel_rfl) (by kernel_rfl) (by kernel_rfl) (fun _ _ _ h => h) (.inl ⟨by kernel_rfl, fun w' _ => by unfold execOp; go_simp; try omega⟩) hS ?_
              simp only [List.getElem_toArray, List.getElem_cons_zero, List.getElem_cons_succ, Act.put, List.setIfInBounds_toArray, List.set_cons_zero, List.set_cons_succ]
              refine wpAnyH_take (i := 2) (v := .bool true) rfl (by kernel_rfl) (by kernel_rfl) (by kernel_rfl) (fun _ _ _ h => h) (.inl ⟨by kernel_rfl, fun w' _ => by unfold execOp; go_simp⟩) hS ?_
              simp only [List.getElem_toArray, List.getElem_cons_zero, List.getElem_cons_succ, Act.put, List.setIfInBounds_toArray, List.set_cons_zero, List.set_cons_succ]
              refine wpAnyH_take (i := 3) (v := .slice (some ⟨go, 0, none⟩) len cap) rfl (by kernel_rfl) (by kernel_rfl) (by kernel_rfl) (fun _ _ _ h => h) (.inl ⟨by kernel_rfl, fun w' _ => by unfold execOp; go_simp⟩) hS ?_
              simp only [List.getElem_toArray, List.getElem_cons_zero, List.getElem_cons_succ, Act.put, List.setIfInBounds_toArray, List.set_cons_zero, List.set_cons_succ]
              refine wpAnyH_take (i := 4) (v := .int .i64 (m2 : Int)) rfl (by kernel_rfl) (by kernel_rfl) (by kernel_rfl) (fun _ _ _ h => h) (.inl ⟨by kernel_rfl, fun w' _ => by unfold execOp; go_simp⟩) hS ?_
              simp only [List.getElem_toArray, List.getElem_cons_zero, List.getElem_cons_succ, Act.put, List.setIfInBounds_toArray, List.set_cons_zero, List.set_cons_succ]
              refine wpAnyH_take (i := 5) (v := .int .i64 (m : Int)) rfl (by kernel_rfl) (by kernel_rfl) (by kernel_rfl) (fun _ _ _ h => h) (.inl ⟨by kernel_rfl, fun w' _ => by unfold execOp; go_simp; rw [show ((m2 : Int) - 1) = (m : Int) by omega]; exact wrap_small _ (by omega)⟩) hS ?_
              simp only [List.getElem_toArray, List.getElem_cons_zero, List.getElem_cons_succ, Act.put, List.setIfInBounds_toArray, List.set_cons_zero, List.set_cons_succ]
              refine wpAnyH_take (i := 6) (v := .pointer (some ⟨go, m * 18, none⟩)) rfl (by kernel_rfl) (by kernel_rfl) (by kernel_rfl) (fun _ _ _ h => h) (.inl ⟨by kernel_rfl, fun w' _ => by unfold execOp; go_simp; try (intro h; omega)⟩) hS ?_
              simp only [List.getElem_toArray, List.getElem_cons_zero, List.getElem_cons_succ, Act.put, List.setIfInBounds_toArray, List.set_cons_zero, List.set_cons_succ]
              refine wpAnyH_take (i := 7) (v := .agg (encP y)) rfl (by kernel_rfl) (by kernel_rfl) (by kernel_rfl) (fun _ _ _ h => h) (yieldsIf_loadP (by kernel_rfl) (.tmp 36) rfl (go) (m * 18) rfl y (fun w' hw' => hw' ▸ HY.out)) hS ?_
              simp only [List.getElem_toArray, List.getElem_cons_zero, List.getElem_cons_succ, Act.put, List.setIfInBounds_toArray, List.set_cons_zero, List.set_cons_succ]
              refine wpAnyH_take (i := 8) (v := .agg (encP x)) rfl (by kernel_rfl) (by kernel_rfl) (by kernel_rfl) (fun _ _ _ h => h) (yieldsIf_loadP (by kernel_rfl) (.tmp 5) rfl (g5) (0) rfl x (fun w' hw' => hw' ▸ H5'.out)) hS ?_
              simp only [List.getElem_toArray, List.getElem_cons_zero, List.getElem_cons_succ, Act.put, List.setIfInBounds_toArray, List.set_cons_zero, List.set_cons_succ]
              refine wpAnyH_take (i := 9) (v := .bool true) rfl (by kernel_rfl) (by kernel_rfl) (by kernel_rfl) (fun _ _ _ h => h) (.inl ⟨by kernel_rfl, fun w' _ => by unfold execOp; simp [go_sem, heqx]⟩) hS ?_
              simp only [List.getElem_toArray, List.getElem_cons_zero, List.getElem_cons_succ, Act.put, List.setIfInBounds_toArray, List.set_cons_zero, List.set_cons_succ]
              refine wpAnyH_take (i := 10) (v := .bool true) rfl (by kernel_rfl) (by kernel_rfl) (by kernel_rfl) (fun _ _ _ h => h) (.inl ⟨by kernel_rfl, fun w' _ => by unfold execOp; go_simp⟩) hS ?_
              simp only [List.getElem_toArray, List.getElem_cons_zero, List.getElem_cons_succ, Act.put, List.setIfInBounds_toArray, List.set_cons_zero, List.set_cons_succ]
              refine wpAnyH_done (by kernel_rfl) ?_ _
              clear hS heqx HY H5'
              go_wp2
              go_roundg (n - (p + 1))
              case measure => omega
              case rel => exact ⟨p + 1, len, rs, go, cap, by go_num, by omega, Nat.le_refl _, by omega, rfl, hid ⟨HRV.out.1, ownsRow_below HRV.out.2 HB3.out.drew⟩, hid (HBV.out.trans (HB3.out.drew.mono HBV.out.size)), hid ⟨HF.out.1, fun a => by
                  rw [HT.out, List.mem_append, List.mem_singleton, ← HF.out.2 a]
                  constructor
                  · exact .inl
                  · rintro (h | rfl)
                    · exact h
                    · have hml : m < rs.length := by have := HR.out.1; omega
                      rw [← hxy, hy, getElem!_pos rs m hml]
                      exact List.getElem_mem hml⟩⟩
            · have heqx := eql_pt y x
              have hne : decide (y = x) = false := decide_eq_false hxy
              rw [hne] at heqx
              clear hne
              go_wp2_with fail
              refine wp_region_held_drew (S := fun W => W = V3.drew) (by kernel_rfl) rfl (fun hS => ?_)
              change wpAnyH _ _ _ _ _ 11 #[false, false, false, false, false, false, false, false, false, false, false] _ _
              refine wpAnyH_take (i := 0) (v := .int .i64 (m2 : Int)) rfl (by kernel_rfl) (by kernel_rfl) (by kernel_rfl) (fun _ _ _ h => h) (.inl ⟨by kernel_rfl, fun w' _ => by unfold execOp; go_simp⟩) hS ?_
              simp only [List.getElem_toArray, List.getElem_cons_zero, Act.put, List.setIfInBounds_toArray, List.set_cons_zero, List.set_cons_succ]
              refine wpAnyH_take (i := 1) (v := .bool true) rfl (by kernel_rfl) (by kernel_rfl) (by kernel_rfl) (fun _ _ _ h => h) (.inl ⟨by kernel_rfl, fun w' _ => by unfold execOp; go_simp; try omega⟩) hS ?_
              simp only [List.getElem_toArray, List.getElem_cons_zero, List.getElem_cons_succ, Act.put, List.setIfInBounds_toArray, List.set_cons_zero, List.set_cons_succ]
              refine wpAnyH_take (i := 2) (v := .bool true) rfl (by kernel_rfl) (by kernel_rfl) (by kernel_rfl) (fun _ _ _ h => h) (.inl ⟨by kernel_rfl, fun w' _ => by unfold execOp; go_simp⟩) hS ?_
              simp only [List.getElem_toArray, List.getElem_cons_zero, List.getElem_cons_succ, Act.put, List.setIfInBounds_toArray, List.set_cons_zero, List.set_cons_succ]
              refine wpAnyH_take (i := 3) (v := .slice (some ⟨go, 0, none⟩) len cap) rfl (by kernel_rfl) (by kernel_rfl) (by kernel_rfl) (fun _ _ _ h => h) (.inl ⟨by kernel_rfl, fun w' _ => by unfold execOp; go_simp⟩) hS ?_
              simp only [List.getElem_toArray, List.getElem_cons_zero, List.getElem_cons_succ, Act.put, List.setIfInBounds_toArray, List.set_cons_zero, List.set_cons_succ]
              refine wpAnyH_take (i := 4) (v := .int .i64 (m2 : Int)) rfl (by kernel_rfl) (by kernel_rfl) (by kernel_rfl) (fun _ _ _ h => h) (.inl ⟨by kernel_rfl, fun w' _ => by unfold execOp; go_simp⟩) hS ?_
              simp only [List.getElem_toArray, List.getElem_cons_zero, List.getElem_cons_succ, Act.put, List.setIfInBounds_toArray, List.set_cons_zero, List.set_cons_succ]
              refine wpAnyH_take (i := 5) (v := .int .i64 (m : Int)) rfl (by kernel_rfl) (by kernel_rfl) (by kernel_rfl) (fun _ _ _ h => h) (.inl ⟨by kernel_rfl, fun w' _ => by unfold execOp; go_simp; rw [show ((m2 : Int) - 1) = (m : Int) by omega]; exact wrap_small _ (by omega)⟩) hS ?_
              simp only [List.getElem_toArray, List.getElem_cons_zero, List.getElem_cons_succ, Act.put, List.setIfInBounds_toArray, List.set_cons_zero, List.set_cons_succ]
              refine wpAnyH_take (i := 6) (v := .pointer (some ⟨go, m * 18, none⟩)) rfl (by kernel_rfl) (by kernel_rfl) (by kernel_rfl) (fun _ _ _ h => h) (.inl ⟨by kernel_rfl, fun w' _ => by unfold execOp; go_simp; try (intro h; omega)⟩) hS ?_
              simp only [List.getElem_toArray, List.getElem_cons_zero, List.getElem_cons_succ, Act.put, List.setIfInBounds_toArray, List.set_cons_zero, List.set_cons_succ]
              refine wpAnyH_take (i := 7) (v := .agg (encP y)) rfl (by kernel_rfl) (by kernel_rfl) (by kernel_rfl) (fun _ _ _ h => h) (yieldsIf_loadP (by kernel_rfl) (.tmp 36) rfl (go) (m * 18) rfl y (fun w' hw' => hw' ▸ HY.out)) hS ?_
              simp only [List.getElem_toArray, List.getElem_cons_zero, List.getElem_cons_succ, Act.put, List.setIfInBounds_toArray, List.set_cons_zero, List.set_cons_succ]
              refine wpAnyH_take (i := 8) (v := .agg (encP x)) rfl (by kernel_rfl) (by kernel_rfl) (by kernel_rfl) (fun _ _ _ h => h) (yieldsIf_loadP (by kernel_rfl) (.tmp 5) rfl (g5) (0) rfl x (fun w' hw' => hw' ▸ H5'.out)) hS ?_
              simp only [List.getElem_toArray, List.getElem_cons_zero, List.getElem_cons_succ, Act.put, List.setIfInBounds_toArray, List.set_cons_zero, List.set_cons_succ]
              refine wpAnyH_take (i := 9) (v := .bool false) rfl (by kernel_rfl) (by kernel_rfl) (by kernel_rfl) (fun _ _ _ h => h) (.inl ⟨by kernel_rfl, fun w' _ => by unfold execOp; simp [go_sem, heqx]⟩) hS ?_
              simp only [List.getElem_toArray, List.getElem_cons_zero, List.getElem_cons_succ, Act.put, List.setIfInBounds_toArray, List.set_cons_zero, List.set_cons_succ]
              refine wpAnyH_take (i := 10) (v := .bool false) rfl (by kernel_rfl) (by kernel_rfl) (by kernel_rfl) (fun _ _ _ h => h) (.inl ⟨by kernel_rfl, fun w' _ => by unfold execOp; go_simp⟩) hS ?_
              simp only [List.getElem_toArray, List.getElem_cons_zero, List.getElem_cons_succ, Act.put, List.setIfInBounds_toArray, List.set_cons_zero, List.set_cons_succ]
              refine wpAnyH_done (by kernel_rfl) ?_ _
              clear hS heqx HY H5'
              go_wp2_with fail
              have HBU : Hid (Below V.heap.size V V3.drew.drew) := hid HB3.out.drew.drew
              clear HB3
              generalize V3.drew = U at HBU ⊢
              have HBW : Hid (Below w.heap.size w U.drew) := hid (HBV.out.trans (HBU.out.mono HBV.out.size))
              have HEU : Hid (Elems encP 18 U.heap.size U.drew (some ⟨go, 0, none⟩) rs) := hid (fun j hj => ⟨go, 0, rfl, Nat.lt_of_lt_of_le HE.out.1 HBU.out.size, by
                have := HE.out.2 j hj
                rw [getElem!_pos rs j hj] at this
                rw [Nat.zero_add]
                exact rangeAt_below HBU.out HE.out.1 this⟩)
              have H5U : Hid (U.drew.rangeAt g5 0 (encPL x) ∧ g5 < U.heap.size) := hid ⟨rangeAt_below HBU.out H5s.out H5.out, Nat.lt_of_lt_of_le H5s.out HBU.out.size⟩

              have HINS := hid (ins_rising rs x m2 (by have := HR.out.1; omega) HF.out.1 (fun q hq => by
                obtain rfl : q = m := by omega
                rw [← hy]
                exact ⟨fun h => absurd (HL.out.2 h) (by omega), hxy⟩) (fun j h1 h2 => HG.out j h1 (by have := HR.out.1; omega)))
              refine wp_region_held_drew (S := fun W => Below U.heap.size U.drew W) (by kernel_rfl) (Below.refl _ _) (fun hS => ?_)
              change wpAnyH _ _ _ _ _ 13 #[false, false, false, false, false, false, false, false, false, false, false, false, false] _ _
              refine wpAnyH_take (i := 1) (v := .slice (some ⟨go, 0, none⟩) len cap) rfl (by kernel_rfl) (by kernel_rfl) (by kernel_rfl) (fun _ _ _ h => h) (.inl ⟨by kernel_rfl, fun w' _ => by unfold execOp; go_simp⟩) hS ?_
              simp only [List.getElem_toArray, List.getElem_cons_zero, List.getElem_cons_succ, Act.put, List.setIfInBounds_toArray, List.set_cons_zero, List.set_cons_succ]
              refine wpAnyH_take (i := 2) (v := .int .i64 (m2 : Int)) rfl (by kernel_rfl) (by kernel_rfl) (by kernel_rfl) (fun _ _ _ h => h) (.inl ⟨by kernel_rfl, fun w' _ => by unfold execOp; go_simp⟩) hS ?_
              simp only [List.getElem_toArray, List.getElem_cons_zero, List.getElem_cons_succ, Act.put, List.setIfInBounds_toArray, List.set_cons_zero, List.set_cons_succ]
              refine wpAnyH_take (i := 3) (v := .slice (some ⟨go, 0, none⟩) m2 cap) rfl (by kernel_rfl) (by kernel_rfl) (by kernel_rfl) (fun _ _ _ h => h) (.inl ⟨by kernel_rfl, fun w' _ => exec_cutHK (.tmp 42) (.tmp 43) rfl (some ⟨go, 0, none⟩) len cap m2 rfl rfl (by omega)⟩) hS ?_
              simp only [List.getElem_toArray, List.getElem_cons_zero, List.getElem_cons_succ, Act.put, List.setIfInBounds_toArray, List.set_cons_zero, List.set_cons_succ]
              refine wpAnyH_take (i := 5) (v := .agg (encP x)) rfl (by kernel_rfl) (by kernel_rfl) (by kernel_rfl) (fun _ _ _ h => h) (yieldsIf_loadP (by kernel_rfl) (.tmp 5) rfl (g5) (0) rfl x (fun w' hw' => rangeAt_below hw' H5U.out.2 H5U.out.1)) hS ?_
              simp only [List.getElem_toArray, List.getElem_cons_zero, List.getElem_cons_succ, Act.put, List.setIfInBounds_toArray, List.set_cons_zero, List.set_cons_succ]
              refine wpAnyH_take (i := 8) (v := .slice (some ⟨go, 0, none⟩) len cap) rfl (by kernel_rfl) (by kernel_rfl) (by kernel_rfl) (fun _ _ _ h => h) (.inl ⟨by kernel_rfl, fun w' _ => by unfold execOp; go_simp⟩) hS ?_
              simp only [List.getElem_toArray, List.getElem_cons_zero, List.getElem_cons_succ, Act.put, List.setIfInBounds_toArray, List.set_cons_zero, List.set_cons_succ]
              refine wpAnyH_take (i := 9) (v := .int .i64 (m2 : Int)) rfl (by kernel_rfl) (by kernel_rfl) (by kernel_rfl) (fun _ _ _ h => h) (.inl ⟨by kernel_rfl, fun w' _ => by unfold execOp; go_simp⟩) hS ?_
              simp only [List.getElem_toArray, List.getElem_cons_zero, List.getElem_cons_succ, Act.put, List.setIfInBounds_toArray, List.set_cons_zero, List.set_cons_succ]
              refine wpAnyH_take (i := 10) (v := .slice (cutK (some ⟨go, 0, none⟩) cap m2) (len - m2) (cap - m2)) rfl (by kernel_rfl) (by kernel_rfl) (by kernel_rfl) (fun _ _ _ h => h) (.inl ⟨by kernel_rfl, fun w' _ => exec_cutLK (.tmp 49) (.tmp 50) rfl (some ⟨go, 0, none⟩) len cap m2 rfl rfl (by omega)⟩) hS ?_
              simp only [List.getElem_toArray, List.getElem_cons_zero, List.getElem_cons_succ, Act.put, List.setIfInBounds_toArray, List.set_cons_zero, List.set_cons_succ]
              have HT2 : Hid ((rs.take m2).length = m2) := hid (by rw [List.length_take]; have := HR.out.1; omega)
              have hln : len = rs.length := HR.out.1
              have HDL : Hid ((rs.drop m2).length = len - m2) := hid (by rw [List.length_drop, hln])
              have HD := elems_drop HEU.out (by omega : rs.length ≤ cap) (fun e => by cases e) m2 (by omega)
              refine wpAnyH_ready (rs := [0, 6]) (by kernel_rfl) (by simp) ?_
              refine AllReadyH.cons rfl (fun K' hK => ?_) (AllReadyH.cons rfl (fun K' hK => ?_) AllReadyH.nil)
              ·
                refine r_lit0 rfl U.heap.size (by first | exact Nat.le_refl _ | exact hS.size) (by kernel_rfl) (fun A hoA hzA hgA => hK.out _ _ (hS.grown hgA (by first | exact Nat.le_refl _ | exact hS.size) (fun k e => by cases e)) (fun hS => ?_))
                simp only [List.getElem_toArray, List.getElem_cons_zero, Act.put, List.setIfInBounds_toArray, List.set_cons_zero, List.set_cons_succ]
                refine wpAnyH_ready (rs := [4, 6]) (by kernel_rfl) (by simp) ?_
                refine AllReadyH.cons rfl (fun K' hK => ?_) (AllReadyH.cons rfl (fun K' hK => ?_) AllReadyH.nil)
                ·
                  have own0 := hoA
                  refine r_appK (.tmp 41) (.tmp 44) rfl U.heap.size _ 0 (flatY encP []) rfl own0 (some ⟨go, 0, none⟩) m2 cap (rs.take m2) rfl HT2.out U.heap.size ((elems_take HEU.out m2).below hS) (fun e => by cases e) (by omega) hS.size (by kernel_rfl) (fun v1 w1 h1 q1 => hK.out _ _ (hS.grown q1 (by first | exact Nat.le_refl _ | exact hS.size) (fun k e => own_block_le own0 e)) (fun hS => ?_))
                  simp only [List.getElem_toArray, List.getElem_cons_zero, List.getElem_cons_succ, Act.put, List.setIfInBounds_toArray, List.set_cons_zero, List.set_cons_succ]
                  refine wpAnyH_ready (rs := [6]) (by kernel_rfl) (by simp) ?_
                  refine AllReadyH.cons rfl (fun K' hK => ?_) AllReadyH.nil
                  refine r_lit1 (.tmp 46) rfl x rfl (by kernel_rfl) (fun C hlC hzC hgC => hK.out _ _ (hS.grown hgC (by first | exact Nat.le_refl _ | exact hS.size) (fun k e => by cases e)) (fun hS => ?_))
                  simp only [List.getElem_toArray, List.getElem_cons_zero, List.getElem_cons_succ, Act.put, List.setIfInBounds_toArray, List.set_cons_zero, List.set_cons_succ]
                  have own1 := ownsRow_below h1 (grown_belowP hgC)
                  have lit1 := hlC
                  refine wpAnyH_ready (rs := [7]) (by kernel_rfl) (by simp) ?_
                  refine AllReadyH.cons rfl (fun K' hK => ?_) AllReadyH.nil
                  refine r_appK (.tmp 45) (.tmp 47) rfl U.heap.size v1 _ _ rfl own1 _ 1 1 [x] rfl rfl _ lit1 (fun e => by cases e) (by omega) hS.size (by kernel_rfl) (fun v2 w2 h2 q2 => hK.out _ _ (hS.grown q2 (by first | exact Nat.le_refl _ | exact hS.size) (fun k e => own_block_le own1 e)) (fun hS => ?_))
                  simp only [List.getElem_toArray, List.getElem_cons_zero, List.getElem_cons_succ, Act.put, List.setIfInBounds_toArray, List.set_cons_zero, List.set_cons_succ]
                  refine wpAnyH_ready (rs := [11]) (by kernel_rfl) (by simp) ?_
                  refine AllReadyH.cons rfl (fun K' hK => ?_) AllReadyH.nil
                  refine r_appK (.tmp 48) (.tmp 51) rfl U.heap.size v2 _ _ rfl h2 (cutK (some ⟨go, 0, none⟩) cap m2) (len - m2) (cap - m2) (rs.drop m2) rfl HDL.out U.heap.size (HD.1.below hS) (fun e => by have := HD.2 e; omega) (by omega) hS.size (by kernel_rfl) (fun v3 w3 h3 q3 => ?_)
                  have h4 := own_ins hln hm2 h3
                  have hbk := fun k (e : v2.ownBlock = some k) => own_block_le h2 e
                  obtain ⟨g', cap', rfl⟩ := ownsRow_succ h4
                  refine hK.out _ _ (hS.grown q3 (by first | exact Nat.le_refl _ | exact hS.size) (fun k e => hbk k e)) (fun hS => ?_)
                  simp only [List.getElem_toArray, List.getElem_cons_zero, List.getElem_cons_succ, Act.put, List.setIfInBounds_toArray, List.set_cons_zero, List.set_cons_succ]
                  refine wpAnyH_take (i := 12) (v := .slice (some ⟨g', 0, none⟩) (len + 1) cap') rfl (by kernel_rfl) (by kernel_rfl) (by kernel_rfl) (fun _ _ _ h => h) (.inl ⟨by kernel_rfl, fun w' _ => by unfold execOp; go_simp⟩) hS ?_
                  simp only [List.getElem_toArray, List.getElem_cons_zero, List.getElem_cons_succ, Act.put, List.setIfInBounds_toArray, List.set_cons_zero, List.set_cons_succ]
                  refine wpAnyH_done (by kernel_rfl) ?_ _
                  have HF9 : Hid ((len + 1 = (rs.take m2 ++ (x :: rs.drop m2)).length ∧ w3.ownsRow w.heap.size 41 18 (.slice (some ⟨g', 0, none⟩) (len + 1) cap') (len + 1) (flatY encP (rs.take m2 ++ (x :: rs.drop m2)))) ∧ Below w.heap.size w w3 ∧ Rising (rs.take m2 ++ (x :: rs.drop m2)) ∧ ∀ a, a ∈ rs.take m2 ++ (x :: rs.drop m2) ↔ a ∈ xs.take (p + 1)) := hid ⟨⟨by rw [List.length_append, List.length_cons, HT2.out, HDL.out]; omega, ownsRow_mono h4 HBW.out.size⟩, HBW.out.trans (hS.mono HBW.out.size), HINS.out.1, fun a => by rw [HINS.out.2 a, HT.out, List.mem_append, List.mem_singleton, HF.out.2 a]; exact Or.comm⟩
                  clear hS h4 h3 h2 own1 lit1 HD HEU H5U hK hln
                  go_wp2
                  go_roundg (n - (p + 1))
                  case measure => omega
                  case rel => exact ⟨p + 1, len + 1, _, g', cap', by go_num, by omega, Nat.le_refl _, by omega, rfl, hid HF9.out.1, hid HF9.out.2.1, hid HF9.out.2.2⟩
                ·
                  refine r_lit1 (.tmp 46) rfl x rfl (by kernel_rfl) (fun B hlB hzB hgB => hK.out _ _ (hS.grown hgB (by first | exact Nat.le_refl _ | exact hS.size) (fun k e => by cases e)) (fun hS => ?_))
                  simp only [List.getElem_toArray, List.getElem_cons_zero, List.getElem_cons_succ, Act.put, List.setIfInBounds_toArray, List.set_cons_zero, List.set_cons_succ]
                  refine wpAnyH_ready (rs := [4]) (by kernel_rfl) (by simp) ?_
                  refine AllReadyH.cons rfl (fun K' hK => ?_) AllReadyH.nil
                  have own0 := ownsRow_below hoA (grown_belowP hgB)
                  refine r_appK (.tmp 41) (.tmp 44) rfl U.heap.size _ 0 (flatY encP []) rfl own0 (some ⟨go, 0, none⟩) m2 cap (rs.take m2) rfl HT2.out U.heap.size ((elems_take HEU.out m2).below hS) (fun e => by cases e) (by omega) hS.size (by kernel_rfl) (fun v1 w1 h1 q1 => hK.out _ _ (hS.grown q1 (by first | exact Nat.le_refl _ | exact hS.size) (fun k e => own_block_le own0 e)) (fun hS => ?_))
                  simp only [List.getElem_toArray, List.getElem_cons_zero, List.getElem_cons_succ, Act.put, List.setIfInBounds_toArray, List.set_cons_zero, List.set_cons_succ]
                  have own1 := h1
                  have lit1 := elems_grown hlB (by omega) q1 (fun e => absurd (Option.some.inj (show some A.heap.size = some U.drew.heap.size from e)) (by omega))
                  refine wpAnyH_ready (rs := [7]) (by kernel_rfl) (by simp) ?_
                  refine AllReadyH.cons rfl (fun K' hK => ?_) AllReadyH.nil
                  refine r_appK (.tmp 45) (.tmp 47) rfl U.heap.size v1 _ _ rfl own1 _ 1 1 [x] rfl rfl _ lit1 (fun e => by cases e) (by omega) hS.size (by kernel_rfl) (fun v2 w2 h2 q2 => hK.out _ _ (hS.grown q2 (by first | exact Nat.le_refl _ | exact hS.size) (fun k e => own_block_le own1 e)) (fun hS => ?_))
                  simp only [List.getElem_toArray, List.getElem_cons_zero, List.getElem_cons_succ, Act.put, List.setIfInBounds_toArray, List.set_cons_zero, List.set_cons_succ]
                  refine wpAnyH_ready (rs := [11]) (by kernel_rfl) (by simp) ?_
                  refine AllReadyH.cons rfl (fun K' hK => ?_) AllReadyH.nil
                  refine r_appK (.tmp 48) (.tmp 51) rfl U.heap.size v2 _ _ rfl h2 (cutK (some ⟨go, 0, none⟩) cap m2) (len - m2) (cap - m2) (rs.drop m2) rfl HDL.out U.heap.size (HD.1.below hS) (fun e => by have := HD.2 e; omega) (by omega) hS.size (by kernel_rfl) (fun v3 w3 h3 q3 => ?_)
                  have h4 := own_ins hln hm2 h3
                  have hbk := fun k (e : v2.ownBlock = some k) => own_block_le h2 e
                  obtain ⟨g', cap', rfl⟩ := ownsRow_succ h4
                  refine hK.out _ _ (hS.grown q3 (by first | exact Nat.le_refl _ | exact hS.size) (fun k e => hbk k e)) (fun hS => ?_)
                  simp only [List.getElem_toArray, List.getElem_cons_zero, List.getElem_cons_succ, Act.put, List.setIfInBounds_toArray, List.set_cons_zero, List.set_cons_succ]
                  refine wpAnyH_take (i := 12) (v := .slice (some ⟨g', 0, none⟩) (len + 1) cap') rfl (by kernel_rfl) (by kernel_rfl) (by kernel_rfl) (fun _ _ _ h => h) (.inl ⟨by kernel_rfl, fun w' _ => by unfold execOp; go_simp⟩) hS ?_
                  simp only [List.getElem_toArray, List.getElem_cons_zero, List.getElem_cons_succ, Act.put, List.setIfInBounds_toArray, List.set_cons_zero, List.set_cons_succ]
                  refine wpAnyH_done (by kernel_rfl) ?_ _
                  have HF9 : Hid ((len + 1 = (rs.take m2 ++ (x :: rs.drop m2)).length ∧ w3.ownsRow w.heap.size 41 18 (.slice (some ⟨g', 0, none⟩) (len + 1) cap') (len + 1) (flatY encP (rs.take m2 ++ (x :: rs.drop m2)))) ∧ Below w.heap.size w w3 ∧ Rising (rs.take m2 ++ (x :: rs.drop m2)) ∧ ∀ a, a ∈ rs.take m2 ++ (x :: rs.drop m2) ↔ a ∈ xs.take (p + 1)) := hid ⟨⟨by rw [List.length_append, List.length_cons, HT2.out, HDL.out]; omega, ownsRow_mono h4 HBW.out.size⟩, HBW.out.trans (hS.mono HBW.out.size), HINS.out.1, fun a => by rw [HINS.out.2 a, HT.out, List.mem_append, List.mem_singleton, HF.out.2 a]; exact Or.comm⟩
                  clear hS h4 h3 h2 own1 lit1 HD HEU H5U hK hln
                  go_wp2
                  go_roundg (n - (p + 1))
                  case measure => omega
                  case rel => exact ⟨p + 1, len + 1, _, g', cap', by go_num, by omega, Nat.le_refl _, by omega, rfl, hid HF9.out.1, hid HF9.out.2.1, hid HF9.out.2.2⟩
              ·
                refine r_lit1 (.tmp 46) rfl x rfl (by kernel_rfl) (fun A hlA hzA hgA => hK.out _ _ (hS.grown hgA (by first | exact Nat.le_refl _ | exact hS.size) (fun k e => by cases e)) (fun hS => ?_))
                simp only [List.getElem_toArray, List.getElem_cons_zero, List.getElem_cons_succ, Act.put, List.setIfInBounds_toArray, List.set_cons_zero, List.set_cons_succ]
                refine wpAnyH_ready (rs := [0]) (by kernel_rfl) (by simp) ?_
                refine AllReadyH.cons rfl (fun K' hK => ?_) AllReadyH.nil
                refine r_lit0 rfl U.heap.size (by first | exact Nat.le_refl _ | exact hS.size) (by kernel_rfl) (fun B hoB hzB hgB => hK.out _ _ (hS.grown hgB (by first | exact Nat.le_refl _ | exact hS.size) (fun k e => by cases e)) (fun hS => ?_))
                simp only [List.getElem_toArray, List.getElem_cons_zero, Act.put, List.setIfInBounds_toArray, List.set_cons_zero, List.set_cons_succ]
                refine wpAnyH_ready (rs := [4]) (by kernel_rfl) (by simp) ?_
                refine AllReadyH.cons rfl (fun K' hK => ?_) AllReadyH.nil
                have own0 := hoB
                refine r_appK (.tmp 41) (.tmp 44) rfl U.heap.size _ 0 (flatY encP []) rfl own0 (some ⟨go, 0, none⟩) m2 cap (rs.take m2) rfl HT2.out U.heap.size ((elems_take HEU.out m2).below hS) (fun e => by cases e) (by omega) hS.size (by kernel_rfl) (fun v1 w1 h1 q1 => hK.out _ _ (hS.grown q1 (by first | exact Nat.le_refl _ | exact hS.size) (fun k e => own_block_le own0 e)) (fun hS => ?_))
                simp only [List.getElem_toArray, List.getElem_cons_zero, List.getElem_cons_succ, Act.put, List.setIfInBounds_toArray, List.set_cons_zero, List.set_cons_succ]
                have own1 := h1
                have lit1 := elems_grown (elems_grown hlA (by omega) hgB (fun e => by cases e)) (by omega) q1 (fun e => absurd (Option.some.inj (show some U.drew.heap.size = some A.heap.size from e)) (by omega))
                refine wpAnyH_ready (rs := [7]) (by kernel_rfl) (by simp) ?_
                refine AllReadyH.cons rfl (fun K' hK => ?_) AllReadyH.nil
                refine r_appK (.tmp 45) (.tmp 47) rfl U.heap.size v1 _ _ rfl own1 _ 1 1 [x] rfl rfl _ lit1 (fun e => by cases e) (by omega) hS.size (by kernel_rfl) (fun v2 w2 h2 q2 => hK.out _ _ (hS.grown q2 (by first | exact Nat.le_refl _ | exact hS.size) (fun k e => own_block_le own1 e)) (fun hS => ?_))
                simp only [List.getElem_toArray, List.getElem_cons_zero, List.getElem_cons_succ, Act.put, List.setIfInBounds_toArray, List.set_cons_zero, List.set_cons_succ]
                refine wpAnyH_ready (rs := [11]) (by kernel_rfl) (by simp) ?_
                refine AllReadyH.cons rfl (fun K' hK => ?_) AllReadyH.nil
                refine r_appK (.tmp 48) (.tmp 51) rfl U.heap.size v2 _ _ rfl h2 (cutK (some ⟨go, 0, none⟩) cap m2) (len - m2) (cap - m2) (rs.drop m2) rfl HDL.out U.heap.size (HD.1.below hS) (fun e => by have := HD.2 e; omega) (by omega) hS.size (by kernel_rfl) (fun v3 w3 h3 q3 => ?_)
                have h4 := own_ins hln hm2 h3
                have hbk := fun k (e : v2.ownBlock = some k) => own_block_le h2 e
                obtain ⟨g', cap', rfl⟩ := ownsRow_succ h4
                refine hK.out _ _ (hS.grown q3 (by first | exact Nat.le_refl _ | exact hS.size) (fun k e => hbk k e)) (fun hS => ?_)
                simp only [List.getElem_toArray, List.getElem_cons_zero, List.getElem_cons_succ, Act.put, List.setIfInBounds_toArray, List.set_cons_zero, List.set_cons_succ]
                refine wpAnyH_take (i := 12) (v := .slice (some ⟨g', 0, none⟩) (len + 1) cap') rfl (by kernel_rfl) (by kernel_rfl) (by kernel_rfl) (fun _ _ _ h => h) (.inl ⟨by kernel_rfl, fun w' _ => by unfold execOp; go_simp⟩) hS ?_
                simp only [List.getElem_toArray, List.getElem_cons_zero, List.getElem_cons_succ, Act.put, List.setIfInBounds_toArray, List.set_cons_zero, List.set_cons_succ]
                refine wpAnyH_done (by kernel_rfl) ?_ _
                have HF9 : Hid ((len + 1 = (rs.take m2 ++ (x :: rs.drop m2)).length ∧ w3.ownsRow w.heap.size 41 18 (.slice (some ⟨g', 0, none⟩) (len + 1) cap') (len + 1) (flatY encP (rs.take m2 ++ (x :: rs.drop m2)))) ∧ Below w.heap.size w w3 ∧ Rising (rs.take m2 ++ (x :: rs.drop m2)) ∧ ∀ a, a ∈ rs.take m2 ++ (x :: rs.drop m2) ↔ a ∈ xs.take (p + 1)) := hid ⟨⟨by rw [List.length_append, List.length_cons, HT2.out, HDL.out]; omega, ownsRow_mono h4 HBW.out.size⟩, HBW.out.trans (hS.mono HBW.out.size), HINS.out.1, fun a => by rw [HINS.out.2 a, HT.out, List.mem_append, List.mem_singleton, HF.out.2 a]; exact Or.comm⟩
                clear hS h4 h3 h2 own1 lit1 HD HEU H5U hK hln
                go_wp2
                go_roundg (n - (p + 1))
                case measure => omega
                case rel => exact ⟨p + 1, len + 1, _, g', cap', by go_num, by omega, Nat.le_refl _, by omega, rfl, hid HF9.out.1, hid HF9.out.2.1, hid HF9.out.2.2⟩
    · obtain rfl : p = n := by omega
      have F : Hid (∃ v rs, Ending.returned (.slice (some ⟨go, 0, none⟩) len cap) = .returned v ∧ wr.ownsRow w.heap.size 41 18 v rs.length (flatY encP rs) ∧ Below w.heap.size w wr ∧ Rising rs ∧ ∀ a, a ∈ rs ↔ a ∈ xs) := hid ⟨_, rs, rfl, by have h := HR.out; rw [← h.1]; exact h.2, HB.out, HF.out.1, fun a => by
        have := HF.out.2 a
        rwa [List.take_of_length_le (by have := Hn.out; omega)] at this⟩
      clear HI
      go_wp2
      go_ret
      exact F.out
end Go.Proofs.YtahconkjhneogaaGreatDoor

namespace Go.Proofs.YtahconkjhneogaaGreatDoor
open Go.RowKit Go.Shelf Go.Lib Go.Sort

theorem rright5_any (n : Int) (w : World) : Calls Tryz.prog 50 #[.int .i64 n] w fun e w' => e = .returned (.bool (rp n)) ∧ w' = w := by
  unfold rp
  by_cases h1 : 1 ≤ n
  · have q1 : decide (n > 0) = true := decide_eq_true (by omega)
    have q1' : decide (0 < n) = true := decide_eq_true (by omega)
    have q2 : decide (1 ≤ n) = true := decide_eq_true h1
    have q3 : decide (n ≤ 65535) = decide (n < 65536) := by rw [decide_eq_decide]; omega
    rw [q2, Bool.true_and, q3]
    go_enter Tryz.func50, Tryz.ntmps50
    go_wp2
    go_ret
    exact ⟨rfl, rfl⟩
  · have q1 : decide (n > 0) = false := decide_eq_false (by omega)
    have q1' : decide (0 < n) = false := decide_eq_false (by omega)
    have q2 : decide (1 ≤ n) = false := decide_eq_false h1
    rw [q2, Bool.false_and]
    go_enter Tryz.func50, Tryz.ntmps50
    go_wp2
    go_ret
    exact ⟨rfl, rfl⟩

set_option maxRecDepth 100000 in
set_option maxHeartbeats 1000000 in
theorem rppoint5_any (s : Bool) (b : List Int) (hl : b.length = 16) (n : Int) (w : World) :
    Calls Tryz.prog 25 #[.agg (pnt s b n)] w fun e w' => e = .returned (.bool ((s || flat b) && rp n)) ∧ Below w.heap.size w w' := by
  have cR := refRight_any s b hl
  generalize (s || flat b) = R at cR ⊢
  obtain ⟨W0, hW0⟩ : ∃ W, W = w.alloc (.cells (pnt s b n) 41) := ⟨_, rfl⟩
  have hB0 : Blk W0 w.heap.size 41 (pnt s b n) := hW0 ▸ Blk.new w _ _
  have hb0 : Below w.heap.size w W0 := hW0 ▸ (Below.refl _ _).alloc (Nat.le_refl _) _
  have HW0 := Lib.hid hW0.symm
  have HB0 := Lib.hid hB0
  have Hb0 := Lib.hid hb0
  have LB := Lib.hid hl
  have L18 : Hid (18 = (pnt s b n).size) := Lib.hid (by rw [pnt_size, hl])
  have CR := Lib.hid cR
  clear hW0 hB0 hb0 hl cR
  have hcp : ∀ w', Below W0.heap.size W0 w' → w'.cell? ⟨w.heap.size, 17, none⟩ = some (.int .i64 n) := fun w' hb => pnt_portCell (HB0.out.kept hb) LB.out
  have HCP := Lib.hid hcp
  clear hcp
  go_enter Tryz.func25, Tryz.ntmps25
  go_upto_region 1 with fail
  rw [HW0.out]
  go_wp2_with (refine wpl_load_padr _ rfl w.heap.size rfl s b n HB0.out LB.out rfl ?_)
  refine (CR.out W0).mono ?_
  rintro e w1 ⟨rfl, hb1⟩
  have hc := HCP.out w1 hb1
  cases R with
  | false =>
    go_wp2
    go_ret
    exact ⟨rfl, bel2 Hb0.out hb1⟩
  | true =>
    go_wp2_with fail
    refine (rright5_any n w1).mono ?_
    rintro e w2 ⟨rfl, rfl⟩
    go_wp2
    go_ret
    exact ⟨rfl, bel2 Hb0.out hb1⟩

theorem rppt_any (x : PS) (w : World) : Calls Tryz.prog 25 #[.agg (encP x)] w fun e w' => e = .returned (.bool (isPt x)) ∧ Below w.heap.size w w' :=
  rppoint5_any x.1.1 (ints x.1.2.1) (by rw [ints_length, x.2.1]) x.1.2.2 w

set_option maxHeartbeats 1000000 in
theorem rsort_nil (ad : Option Addr) (cap0 : Nat) (w : World) :
    Calls Tryz.prog 26 #[.slice ad 0 cap0] w fun e w' => ∃ v rs, e = .returned v ∧ w'.ownsRow w.heap.size 41 18 v rs.length (flatY encP rs) ∧ Below w.heap.size w w' ∧ Rising rs ∧ ∀ a, a ∈ rs ↔ a ∈ ([] : List PS) := by
  obtain ⟨W0, hW0⟩ : ∃ W, W = w.alloc (.cells #[] 41) := ⟨_, rfl⟩
  have HW0 := hid hW0.symm
  have F : Hid (∃ v rs, Ending.returned (.slice (some ⟨w.heap.size, 0, none⟩) 0 0) = .returned v ∧ W0.ownsRow w.heap.size 41 18 v rs.length (flatY encP rs) ∧ Below w.heap.size w W0 ∧ Rising rs ∧ ∀ a, a ∈ rs ↔ a ∈ ([] : List PS)) := hid (by
    subst hW0
    exact ⟨_, [], rfl, lit0_own w _ (Nat.le_refl _), (Below.refl _ _).alloc (Nat.le_refl _) _, List.Pairwise.nil, fun a => Iff.rfl⟩)
  clear hW0
  go_enter Tryz.func26, Tryz.ntmps26
  go_wp2
  rw [HW0.out]
  go_loopg [3, 10] 0 (fun g s3 s10 wr => s3 = .slice (some ⟨w.heap.size, 0, none⟩) 0 0 ∧ s10 = .int .i64 0 ∧ wr = W0)
  case atStart => exact ⟨rfl, rfl, rfl⟩
  case round =>
    obtain ⟨rfl, rfl, rfl⟩ := hrel
    go_wp2
    go_ret
    exact F.out

/-- The document's Sort, of whatever list: the points, each once, in their order. -/
theorem rsort_any (ad : Option Addr) (cap0 : Nat) (xs : List PS) (hcap : xs.length ≤ cap0) (hm : xs.length ≤ 1000) (w : World) (hI : Elems encP 18 w.heap.size w ad xs) :
    Calls Tryz.prog 26 #[.slice ad xs.length cap0] w (CollEnd (psorted xs) encP w) := by
  have hu : ∀ rs, Rising rs → (∀ a, a ∈ rs ↔ a ∈ xs) → rs = psorted xs := fun rs h1 h2 => rising_unique _ _ h1 (sorted_facts xs).1 (fun a => (h2 a).trans ((sorted_facts xs).2 a).symm)
  cases xs with
  | nil =>
    refine (rsort_nil ad cap0 w).mono ?_
    rintro e w' ⟨v, rs, rfl, h1, h2, h3, h4⟩
    have := hu rs h3 h4
    subst this
    exact ⟨v, rfl, h1, h2⟩
  | cons x xs =>
    obtain ⟨g, of, rfl, hg, _⟩ := hI 0 (by simp)
    refine (rsort_some cap0 g of (x :: xs) hcap hm w hg (fun j hj => ?_)).mono ?_
    · obtain ⟨g1, o1, e, _, h⟩ := hI j hj
      cases e
      exact h
    · rintro e w' ⟨v, rs, rfl, h1, h2, h3, h4⟩
      have := hu rs h3 h4
      subst this
      exact ⟨v, rfl, h1, h2⟩
end Go.Proofs.YtahconkjhneogaaGreatDoor

namespace Go.Proofs.YtahconkjhneogaaGreatDoor
open Go.RowKit Go.Shelf Go.Lib Go.Sort

/-- The slots so far, as numbers; which are taken. -/
def slot0 (L : List Int) : List Int := L.map fun x => if x = -1 then 0 else x
def takn (L : List Int) : List Value := L.map fun x => .bool (decide (x ≠ -1))
theorem slot0_set (L : List Int) (p v : Nat) : (slot0 L).set p (v : Int) = slot0 (L.set p (v : Int)) := by
  unfold slot0
  rw [List.map_set, if_neg (by omega)]
theorem takn_set (L : List Int) (p v : Nat) : (takn L).set p (.bool true) = takn (L.set p (v : Int)) := by
  unfold takn
  rw [List.map_set, decide_eq_true (show (v : Int) ≠ -1 by omega)]
theorem slot0_end {L : List Int} (h : ∀ x ∈ L, x ≠ -1) : slot0 L = L := by
  unfold slot0
  refine (List.map_congr_left fun x hx => ?_).trans (List.map_id L)
  rw [if_neg (h x hx)]
  rfl
theorem slot0_start (M : Nat) : slot0 (List.replicate M (-1)) = List.replicate M 0 := by simp [slot0]
theorem takn_start (M : Nat) : takn (List.replicate M (-1)) = List.replicate M (.bool false) := by simp [takn]
/-- Which places are taken, in memory. -/
def TakB (W : World) (T : Nat) (L : List Int) : Prop := Blk W T 4 (takn L).toArray
theorem TakB.cell {W : World} {T : Nat} {L : List Int} (h : TakB W T L) {i : Nat} (hi : i < L.length) : W.cell? ⟨T, i, none⟩ = some (.bool (decide (L.getD i 0 ≠ -1))) := by
  rw [Blk.cell h i]
  simp [takn, List.getD, List.getElem?_eq_getElem hi]
theorem TakB.set {W : World} {T : Nat} {L : List Int} (h : TakB W T L) (i v : Nat) : TakB (W.setCell ⟨T, i, none⟩ (.bool true)) T (L.set i (v : Int)) := by
  have := Blk.set h i (.bool true)
  unfold TakB
  rw [← takn_set]
  simpa using this
theorem tak_made (w : World) (M : Nat) : TakB (w.alloc (.cells (madeCells #[.bool false] M) 4)) w.heap.size (List.replicate M (-1)) := by
  have h := Blk.new w 4 (madeCells #[.bool false] M)
  have e : madeCells #[.bool false] M = (takn (List.replicate M (-1))).toArray := by
    rw [takn_start, ← toList_madeCells_one, Array.toArray_toList]
  unfold TakB
  rw [← e]
  exact h
theorem Tryz.infoRowV : (Tryz.prog.info? 25).map (fun i => (i.zero, i.size, i.bytes)) = some (some (.slice none 0 0), 1, 24) := by kernel_rfl
theorem Tryz.infoBoolV : (Tryz.prog.info? 4).map (fun i => (i.zero, i.size, i.bytes)) = some (some (.bool false), 1, 1) := by kernel_rfl

/-- The orders of the first backends, as rows in memory. -/
def Ords (W : World) (base M : Nat) (bs : List PS) (vs : List Value) : Prop :=
  ∀ i (h : i < vs.length), ∃ g cap, vs[i] = .slice (some ⟨g, 0, none⟩) M cap ∧ base ≤ g ∧ NumAt W g M (fun j => (ordL M bs i j : Int))
theorem Ords.kept {W W' : World} {base M : Nat} {bs : List PS} {vs : List Value} (h : Ords W base M bs vs) (hb : Below W.heap.size W W') : Ords W' base M bs vs := fun i hi => by
  obtain ⟨g, cap, e, h1, h2⟩ := h i hi
  exact ⟨g, cap, e, h1, h2.kept hb⟩
theorem Ords.push {W W5 W6 : World} {base M go p cap : Nat} {bs : List PS} {vs : List Value} (hM : 0 < M) (h : Ords W base M bs vs) (hown : W.ownsRow base 25 1 (.slice (some ⟨go, 0, none⟩) p cap) p vs) (hlen : p = vs.length)
    (hb : Below W.heap.size W W5) {g cg : Nat} (hg : base ≤ g) (hgo : W.heap.size ≤ g) (hN : NumAt W5 g M (fun j => (ordL M bs p j : Int))) {b} (hgr : (W5.alloc b).grownBy W6 (some go)) :
    Ords W6 base M bs (vs ++ [.slice (some ⟨g, 0, none⟩) M cg]) := fun i hi => by
  have hgo2 : go < W.heap.size := (hown.lt go rfl).2
  rw [List.length_append, List.length_cons, List.length_nil] at hi
  have hkeep : ∀ {g f}, NumAt W5 g M f → g ≠ go → NumAt W6 g M f := fun hn hne => (hn.kept ((Below.refl _ _).alloc (Nat.le_refl _) _)).grown hgr hne
  by_cases e : i = vs.length
  · subst e
    rw [hlen] at hN
    exact ⟨g, cg, by simp, hg, hkeep hN (by omega)⟩
  · obtain ⟨g1, c1, e1, h1, h2⟩ := h i (by omega)
    refine ⟨g1, c1, by rw [List.getElem_append_left (by omega), e1], h1, hkeep (h2.kept hb) ?_⟩
    rintro rfl
    obtain ⟨g2, c2, e2, _, _⟩ := h 0 (by omega)
    have a1 := hown.cellAt 0 (by omega)
    have a2 := h2.2 0 hM
    rw [a1, List.getElem?_eq_getElem (show 0 < vs.length by omega), e2] at a2
    cases a2

/-- What the document's Fill ends with. -/
def RFillEnd (xs : List PS) (m : Int) (w : World) (e : Ending) (w' : World) : Prop := Below w.heap.size w w' ∧
  ((fillE xs m ≠ 0 ∧ e = .returned (.tuple #[.slice none 0 0, .slice none 0 0, .int .i64 (fillE xs m)])) ∨
   (fillE xs m = 0 ∧ ∃ (M : Nat) (ab : Option Addr) (cap S : Nat), m = (M : Int) ∧ e = .returned (.tuple #[.slice ab (psorted xs).length cap, .slice (some ⟨S, 0, none⟩) M M, .int .i64 0]) ∧
     (psorted xs).length ≤ cap ∧ Elems encP 18 w'.heap.size w' ab (psorted xs) ∧ SlotB w' S (fillT (ordL M (psorted xs)) (psorted xs).length M M)))
end Go.Proofs.YtahconkjhneogaaGreatDoor
