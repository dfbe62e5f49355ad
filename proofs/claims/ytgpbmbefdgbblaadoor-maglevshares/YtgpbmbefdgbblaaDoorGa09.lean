/-
  maglev: Moved. · maglev: Moved, whatever the tables; the chapter's example. · Points in strictly rising order: what Compact leaves, what an insertion leaves; there is one such list of the same members. No program. · maglev: the chapter's example. · What the rows of layer 7 share: a listed table of numbers; bytes as an argument; the builder with both the listed variables and the world's shape. · What the rows of layer 9 share: a stride as an argument, taken apart and put together; what a listed error's variable holds. · What the rows of layer 10 ask: a list of points as an argument, taken apart; what is listed.
-/
import Derived.Test.YtgpbmbefdgbblaaDoorGa08
import Derived.Lib.SlicesCompact
import Derived.Test.YtgpbmbefdgbblaaDoorRows
import Derived.Test.YtgpbmbefdgbblaaDoorChecked
import Derived.ProofKit
import Derived.OpenShut
import Derived.HandedShaped
import Derived.LaidMore
import Derived.Lay
import Derived.Lib.LaidU8
import Derived.Shelf.Vars
import Derived.ChangeOld
import Derived.Lib.SmallJoins
import Derived.Stop.Joined
namespace Go.Proofs.YtgpbmbefdgbblaaDoor
open Go.RowKit Go.Lib

set_option linter.unusedSimpArgs false in
set_option linter.unusedVariables false in
set_option maxRecDepth 100000 in
set_option maxHeartbeats 8000000 in
theorem moved_nn (m m' : Int) (bs bs' : List PS) (L L' : List Int) (ab ab' as' as2 : Option Addr) (cb cb' cs cs' : Nat) (hL : L.length ≤ 100000) (hL' : L'.length ≤ 100000) (hb : bs.length ≤ 100000) (hb' : bs'.length ≤ 100000) (hw : wholeT m L = false) (hw' : wholeT m' L' = false) (w : World) (hT : TabIn w.heap.size w ab as' bs L) (hT' : TabIn w.heap.size w ab' as2 bs' L') :
    Calls Tryd.prog 8 #[.agg #[.int .i64 m, .slice ab bs.length cb, .slice as' L.length cs], .agg #[.int .i64 m', .slice ab' bs'.length cb', .slice as2 L'.length cs']] w fun e w' => e = .returned (.int .i64 (mov (fun p : Nat => ownW m bs L (p : Int)) (fun p : Nat => ownW m' bs' L' (p : Int)) (min L.length L'.length) : Nat)) ∧ Below w.heap.size w w' := by
  obtain ⟨l, hl⟩ : ∃ l, l = L.length := ⟨_, rfl⟩
  obtain ⟨l', hl'⟩ : ∃ l, l = L'.length := ⟨_, rfl⟩
  have HOl : Hid (∀ W, Calls Tryd.prog 20 #[.agg #[.int .i64 m, .slice ab bs.length cb, .slice as' l cs]] W fun e w' => e = .returned (.func (.func 32) #[] #[]) ∧ Below W.heap.size W w') := hid (fun W => by rw [hl]; exact owners_no m ab as' bs.length cb cs L hw W)
  have HFl : Hid (∀ (p : Nat) W, Calls Tryd.prog 32 #[.int .i64 p] W fun e w' => e = .returned (.tuple #[.agg (encP ((ownW m bs L p).getD pz)), .bool (ownW m bs L p).isSome]) ∧ Below W.heap.size W w') := hid (fun p W => by
    have e : ownW m bs L p = none := by unfold ownW; rw [if_neg (by rw [hw]; decide)]
    rw [e]
    exact own1_any p W)
  have HOl' : Hid (∀ W, Calls Tryd.prog 20 #[.agg #[.int .i64 m', .slice ab' bs'.length cb', .slice as2 l' cs']] W fun e w' => e = .returned (.func (.func 32) #[] #[]) ∧ Below W.heap.size W w') := hid (fun W => by rw [hl']; exact owners_no m' ab' as2 bs'.length cb' cs' L' hw' W)
  have HFl' : Hid (∀ (p : Nat) W, Calls Tryd.prog 32 #[.int .i64 p] W fun e w' => e = .returned (.tuple #[.agg (encP ((ownW m' bs' L' p).getD pz)), .bool (ownW m' bs' L' p).isSome]) ∧ Below W.heap.size W w') := hid (fun p W => by
    have e : ownW m' bs' L' p = none := by unfold ownW; rw [if_neg (by rw [hw']; decide)]
    rw [e]
    exact own1_any p W)
  obtain ⟨f, hf⟩ : ∃ f : Nat → Option PS, f = fun p : Nat => ownW m bs L (p : Int) := ⟨_, rfl⟩
  obtain ⟨g, hg⟩ : ∃ g : Nat → Option PS, g = fun p : Nat => ownW m' bs' L' (p : Int) := ⟨_, rfl⟩
  rw [← hf, ← hg, ← hl, ← hl']
  obtain ⟨N, hN⟩ : ∃ N, N = min l l' := ⟨_, rfl⟩
  rw [← hN]
  have HN := hid hN
  clear hN
  have HFe : Hid (∀ p : Nat, ownW m bs L p = f p) := hid (fun p => by rw [hf])
  have HGe : Hid (∀ p : Nat, ownW m' bs' L' p = g p) := hid (fun p => by rw [hg])
  rw [← hl] at hL
  rw [← hl'] at hL'
  obtain ⟨W0, hW0⟩ : ∃ W, W = w.alloc (.cells #[.int .i64 m, .slice ab bs.length cb, .slice as' l cs] 26) := ⟨_, rfl⟩
  obtain ⟨W1, hW1⟩ : ∃ W, W = W0.alloc (.cells #[.int .i64 m', .slice ab' bs'.length cb', .slice as2 l' cs'] 26) := ⟨_, rfl⟩
  have s0 : W0.heap.size = w.heap.size + 1 := by rw [hW0]; simp
  have b0 : Below w.heap.size w W0 := hW0 ▸ (Below.refl _ _).alloc (Nat.le_refl _) _
  have b1 : Below W0.heap.size W0 W1 := hW1 ▸ (Below.refl _ _).alloc (Nat.le_refl _) _
  have k0 : Blk W1 w.heap.size 26 #[.int .i64 m, .slice ab bs.length cb, .slice as' l cs] := (hW0 ▸ Blk.new w _ _ : Blk W0 w.heap.size 26 _).kept b1
  have k1 : Blk W1 (w.heap.size + 1) 26 #[.int .i64 m', .slice ab' bs'.length cb', .slice as2 l' cs'] := by rw [← s0]; exact (hW1 ▸ Blk.new W0 _ _ : Blk W1 W0.heap.size 26 _)
  have HW0 := hid hW0.symm
  have HW1 := hid hW1.symm
  have Hb1 := hid (bel2 b0 b1)
  have K0 := hid k0
  have K1 := hid k1
  have hS0 : Below W1.heap.size W1 W1.drew := below_drewN W1 1
  clear hW0 hW1 s0 b0 b1 k0 k1 hf hg hT hT' hw hw' hl hl'
  go_enter Tryd.func8, Tryd.ntmps8
  go_upto_region 1 with fail
  rw [HW0.out]
  rw [HW1.out]
  go_upto_region 2 with fail
  refine wp_region_held_drew (S := fun V => Below W1.heap.size W1 V) (by kernel_rfl) hS0 (fun hS => ?_)
  change wpAnyH _ _ _ _ _ 6 #[false, false, false, false, false, false] _ _
  refine wpAnyH_take (i := 0) (v := .agg #[.int .i64 m, .slice ab bs.length cb, .slice as' l cs]) rfl (by kernel_rfl) (by kernel_rfl) (by kernel_rfl) (fun _ _ _ h => h) (yields_load 26 (.tmp 2) rfl w.heap.size rfl 26 _ _ (fun V h => K0.out.kept h) Tryd.underlying26 rfl 3 Tryd.infoTable rfl (by kernel_rfl)) hS ?_
  simp only [List.getElem_toArray, List.getElem_cons_zero, List.getElem_cons_succ, Act.put, List.setIfInBounds_toArray, List.set_cons_zero, List.set_cons_succ]
  refine wpAnyH_take (i := 2) (v := .agg #[.int .i64 m', .slice ab' bs'.length cb', .slice as2 l' cs']) rfl (by kernel_rfl) (by kernel_rfl) (by kernel_rfl) (fun _ _ _ h => h) (yields_load 26 (.tmp 3) rfl (w.heap.size + 1) rfl 26 _ _ (fun V h => K1.out.kept h) Tryd.underlying26 rfl 3 Tryd.infoTable rfl (by kernel_rfl)) hS ?_
  simp only [List.getElem_toArray, List.getElem_cons_zero, List.getElem_cons_succ, Act.put, List.setIfInBounds_toArray, List.set_cons_zero, List.set_cons_succ]
  refine wpAnyH_ready (rs := [1]) (by kernel_rfl) (by simp) ?_
  refine AllReadyH.cons rfl (fun K' hK => ?_) AllReadyH.nil
  refine step_call 20 #[.agg #[.int .i64 m, .slice ab bs.length cb, .slice as' l cs]] (by kernel_rfl) (by kernel_rfl) (.func (.func 32) #[] #[]) (HOl.out _) (fun A hhA => ?_)
  skip
  have hbA := hhA
  refine hK.out _ _ (hS.trans (hbA.mono hS.size)) (fun hS => ?_)
  simp only [List.getElem_toArray, List.getElem_cons_zero, List.getElem_cons_succ, Act.put, List.setIfInBounds_toArray, List.set_cons_zero, List.set_cons_succ]
  refine wpAnyH_ready (rs := [3]) (by kernel_rfl) (by simp) ?_
  refine AllReadyH.cons rfl (fun K' hK => ?_) AllReadyH.nil
  refine step_call 20 #[.agg #[.int .i64 m', .slice ab' bs'.length cb', .slice as2 l' cs']] (by kernel_rfl) (by kernel_rfl) (.func (.func 32) #[] #[]) (HOl'.out _) (fun B hhB => ?_)
  skip
  have hbB := hhB
  refine hK.out _ _ (hS.trans (hbB.mono hS.size)) (fun hS => ?_)
  simp only [List.getElem_toArray, List.getElem_cons_zero, List.getElem_cons_succ, Act.put, List.setIfInBounds_toArray, List.set_cons_zero, List.set_cons_succ]
  refine wpAnyH_take (i := 4) (v := .func (.func 32) #[] #[]) rfl (by kernel_rfl) (by kernel_rfl) (by kernel_rfl) (fun _ _ _ h => h) (.inl ⟨by kernel_rfl, fun V hV => by unfold execOp; go_simp⟩) hS ?_
  simp only [List.getElem_toArray, List.getElem_cons_zero, List.getElem_cons_succ, Act.put, List.setIfInBounds_toArray, List.set_cons_zero, List.set_cons_succ]
  refine wpAnyH_take (i := 5) (v := .func (.func 32) #[] #[]) rfl (by kernel_rfl) (by kernel_rfl) (by kernel_rfl) (fun _ _ _ h => h) (.inl ⟨by kernel_rfl, fun V hV => by unfold execOp; go_simp⟩) hS ?_
  simp only [List.getElem_toArray, List.getElem_cons_zero, List.getElem_cons_succ, Act.put, List.setIfInBounds_toArray, List.set_cons_zero, List.set_cons_succ]
  refine wpAnyH_done (by kernel_rfl) ?_ _
  have HU := hid (bel2 Hb1.out hS)
  have H1U := hid hS
  have c2 : B.cell? ⟨w.heap.size, 2, none⟩ = some (.slice as' l cs) := (K0.out.kept hS).cell 2
  have d2 : B.cell? ⟨w.heap.size + 1, 2, none⟩ = some (.slice as2 l' cs') := (K1.out.kept hS).cell 2
  clear hS0 hS hbA hbB hhA hhB HOl HOl'
  have HCa : Hid (∀ (p : Nat) W, Below B.heap.size B W → Calls Tryd.prog 32 #[.int .i64 p] W fun e w' => e = .returned (.tuple #[.agg (encP ((f p).getD pz)), .bool (f p).isSome]) ∧ Below W.heap.size W w') := hid (fun p W h => by rw [← HFe.out p]; exact HFl.out p W)
  have HCb : Hid (∀ (p : Nat) W, Below B.heap.size B W → Calls Tryd.prog 32 #[.int .i64 p] W fun e w' => e = .returned (.tuple #[.agg (encP ((g p).getD pz)), .bool (g p).isSome]) ∧ Below W.heap.size W w') := hid (fun p W h => by rw [← HGe.out p]; exact HFl'.out p W)
  go_upto_region 4 with fail
  have hmin : min (l : Int) (l' : Int) = (N : Int) := by have := HN.out; omega
  have hNle : N ≤ 100000 := by have := HN.out; omega
  rw [hmin]
  clear c2 d2 hmin HFl HFl' HFe HGe
  go_loopg [5, 24] N (fun gg s5 s24 wr => ∃ p : Nat, s24 = .int .i64 (p : Int) ∧ s5 = .int .i64 (mov f g p : Nat) ∧ p ≤ N ∧ N - p ≤ gg ∧ Hid (Below B.heap.size B wr))
  case atStart => exact ⟨0, rfl, rfl, by omega, by omega, hid (Below.refl _ _)⟩
  case round =>
    obtain ⟨p, rfl, rfl, hp, hgp, HBe⟩ := hrel
    by_cases hlt : p < N
    · have HA := hid (HCa.out p wr HBe.out)
      have HBp := hid (HCb.out p)
      have hml := mov_le f g p
      have HM : Hid (mov f g (p + 1) = mov f g p + if ((f p).isSome && ((g p).isSome && !decide ((f p).getD pz = (g p).getD pz))) = true then 1 else 0) := hid rfl
      generalize hM0 : mov f g p = M0 at *
      clear hM0
      generalize (f p).getD pz = x at *
      generalize (g p).getD pz = y at *
      generalize (f p).isSome = qa at *
      generalize (g p).isSome = qb at *
      have heq := neq_pt x y
      obtain ⟨qe, hqe⟩ : ∃ qe, qe = !decide (x = y) := ⟨_, rfl⟩
      rw [← hqe] at heq HM
      clear hqe
      have HE := hid heq
      clear heq
      cases qa
      rotate_left
      cases qb
      rotate_left
      cases qe
      all_goals
        simp only [Bool.and_true, Bool.and_false, Bool.true_and, Bool.false_and, if_true, Bool.false_eq_true, if_false, Nat.add_zero] at HM
        have heq := HE.out
        go_wp2_with fail
        refine HA.out.mono ?_
        rintro e w2 ⟨rfl, hb⟩
        have hbv : Below B.heap.size B (w2.alloc (.cells (encP x) 36)) := (HBe.out.trans (hb.mono HBe.out.size)).alloc (Nat.le_trans HBe.out.size hb.size) _
        have HBv := hid hbv
        have HCv := hid (HBp.out _ hbv)
        have HKv := hid (Blk.new w2 36 (encP x))
        clear hb hbv
        go_wp2_with ((show wpList _ _ _ (⟨none, _, _, _, _, _⟩ :: _) _ _); go_must (refine wpl_storeN (.tmp 9) (.tmp 31) rfl _ rfl rfl x rfl rfl ?_))
        refine HCv.out.mono ?_
        rintro e w3 ⟨rfl, hb⟩
        have HK3 := hid ((HKv.out.kept hb).alloc (.cells (encP y) 36))
        have HB3 : Hid (Below B.heap.size B (w3.alloc (.cells (encP y) 36))) := hid ((HBv.out.trans (hb.mono HBv.out.size)).alloc (Nat.le_trans HBv.out.size hb.size) _)
        have HK4 := hid (Blk.new w3 36 (encP y))
        clear hb
        go_wp2_with (first
          | ((show wpList _ _ _ (⟨none, _, _, _, _, _⟩ :: _) _ _); go_must (refine wpl_storeN (.tmp 11) (.tmp 37) rfl _ rfl rfl y rfl rfl ?_))
          | ((show wpList _ _ _ (⟨some 44, _, _, _, _, _⟩ :: _) _ _); refine wpl_loadB (.tmp 9) rfl w2.heap.size rfl x HK3.out rfl ?_)
          | ((show wpList _ _ _ (⟨some 45, _, _, _, _, _⟩ :: _) _ _); refine wpl_loadB (.tmp 11) rfl w3.heap.size rfl y HK4.out rfl ?_))
        go_roundg (N - (p + 1))
        case measure => omega
        case rel => exact ⟨p + 1, by go_num, by rw [HM.out]; try go_num, by omega, Nat.le_refl _, HB3⟩
    · obtain rfl : p = N := by omega
      have FB := hid (bel2 HU.out HBe.out)
      go_wp2
      go_ret
      exact ⟨rfl, FB.out⟩

end Go.Proofs.YtgpbmbefdgbblaaDoor

namespace Go.Proofs.YtgpbmbefdgbblaaDoor
open Go.RowKit Go.Lib

theorem moved_any (m m' : Int) (bs bs' : List PS) (L L' : List Int) (ab ab' as' as2 : Option Addr) (cb cb' cs cs' : Nat) (hL : L.length ≤ 100000) (hL' : L'.length ≤ 100000) (hb : bs.length ≤ 100000) (hb' : bs'.length ≤ 100000) (w : World) (hT : TabIn w.heap.size w ab as' bs L) (hT' : TabIn w.heap.size w ab' as2 bs' L') :
    Calls Tryd.prog 8 #[.agg #[.int .i64 m, .slice ab bs.length cb, .slice as' L.length cs], .agg #[.int .i64 m', .slice ab' bs'.length cb', .slice as2 L'.length cs']] w fun e w' => e = .returned (.int .i64 (mov (fun p : Nat => ownW m bs L (p : Int)) (fun p : Nat => ownW m' bs' L' (p : Int)) (min L.length L'.length) : Nat)) ∧ Below w.heap.size w w' := by
  cases h : wholeT m L <;> cases h' : wholeT m' L'
  · exact moved_nn m m' bs bs' L L' ab ab' as' as2 cb cb' cs cs' hL hL' hb hb' h h' w hT hT'
  · exact moved_ny m m' bs bs' L L' ab ab' as' as2 cb cb' cs cs' hL hL' hb hb' h h' w hT hT'
  · exact moved_yn m m' bs bs' L L' ab ab' as' as2 cb cb' cs cs' hL hL' hb hb' h h' w hT hT'
  · exact moved_yy m m' bs bs' L L' ab ab' as' as2 cb cb' cs cs' hL hL' hb hb' h h' w hT hT'

theorem mov_none_left (f g : Nat → Option PS) (h : ∀ p, f p = none) : ∀ n, mov f g n = 0
  | 0 => rfl
  | n + 1 => by rw [mov, mov_none_left f g h n, h n]; rfl
theorem mov_none_right (f g : Nat → Option PS) (h : ∀ p, g p = none) : ∀ n, mov f g n = 0
  | 0 => rfl
  | n + 1 => by rw [mov, mov_none_right f g h n, h n]; simp
theorem mov_self (f : Nat → Option PS) : ∀ n, mov f f n = 0
  | 0 => rfl
  | n + 1 => by rw [mov, mov_self f n]; simp
theorem mov_comm (f g : Nat → Option PS) : ∀ n, mov f g n = mov g f n
  | 0 => rfl
  | n + 1 => by
    rw [mov, mov, mov_comm f g n]
    congr 2
    cases f n with
    | none => cases g n <;> rfl
    | some x =>
      cases g n with
      | none => rfl
      | some y =>
        simp only [Option.isSome_some, Option.getD_some, Bool.true_and]
        rw [decide_eq_decide.2 (eq_comm : x = y ↔ y = x)]

/-- What a filled table tells of all its places. -/
theorem own_filled {M : Nat} (hM : sizedB (M : Int) = true) (bs : List PS) (h0 : 0 < bs.length) {p : Nat} (hp : p < M) :
    (0 ≤ (fillT (ordL M bs) bs.length M M).getD p 0 ∧ (fillT (ordL M bs) bs.length M M).getD p 0 < bs.length) ∧ ownW M bs (fillT (ordL M bs) bs.length M M) p = some bs[((fillT (ordL M bs) bs.length M M).getD p 0).toNat]! := by
  have hl := fillT_length (ordL M bs) bs.length M M
  have he := fillT_end h0 (ordL_onto M hM bs) ((fillT (ordL M bs) bs.length M M).getD p 0) (by
    rw [List.getD_eq_getElem?_getD, List.getElem?_eq_getElem (by rw [hl]; exact hp)]
    exact List.getElem_mem _)
  refine ⟨he, ?_⟩
  unfold ownW wholeT ownT
  rw [hl, if_pos (by rw [hM]; simp), Int.toNat_natCast, if_pos ⟨by omega, by omega, he.1, he.2⟩]
end Go.Proofs.YtgpbmbefdgbblaaDoor

namespace Go.Proofs.YtgpbmbefdgbblaaDoor
open Go.Lib Go.Sort

abbrev Rising (xs : List PS) : Prop := xs.Pairwise plt

theorem rising_unique : ∀ (xs ys : List PS), Rising xs → Rising ys → (∀ a, a ∈ xs ↔ a ∈ ys) → xs = ys
  | [], [], _, _, _ => rfl
  | [], b :: ys, _, _, h => absurd ((h b).2 (List.mem_cons_self ..)) (by simp)
  | a :: xs, [], _, _, h => absurd ((h a).1 (List.mem_cons_self ..)) (by simp)
  | a :: xs, b :: ys, hx, hy, h => by
    rw [Rising, List.pairwise_cons] at hx hy
    have hab : a = b := by
      rcases List.mem_cons.1 ((h a).1 (List.mem_cons_self ..)) with e | e
      · exact e
      · rcases List.mem_cons.1 ((h b).2 (List.mem_cons_self ..)) with e' | e'
        · exact e'.symm
        · exact absurd (plt_trans (hy.1 a e) (hx.1 b e')) (plt_irrefl b)
    subst hab
    congr 1
    refine rising_unique xs ys hx.2 hy.2 fun c => ⟨fun hc => ?_, fun hc => ?_⟩
    · rcases List.mem_cons.1 ((h c).1 (List.mem_cons_of_mem _ hc)) with e | e
      · subst e; exact absurd (hx.1 c hc) (plt_irrefl c)
      · exact e
    · rcases List.mem_cons.1 ((h c).2 (List.mem_cons_of_mem _ hc)) with e | e
      · subst e; exact absurd (hy.1 c hc) (plt_irrefl c)
      · exact e

theorem upTo_facts (d : Array PS) (hs : ∀ i j, i < j → j < d.size → ¬ plt d[j]! d[i]!) : ∀ m, m ≤ d.size →
    (∀ a, a ∈ compactUpTo d m ↔ ∃ j, j < m ∧ d[j]! = a) ∧ Rising (compactUpTo d m)
  | 0, _ => ⟨fun a => by simp [compactUpTo], by simp [compactUpTo, Rising]⟩
  | m + 1, hm => by
    obtain ⟨h1, h2⟩ := upTo_facts d hs m (by omega)
    rw [compactUpTo_succ]
    by_cases hk : keeps d m = true
    · rw [if_pos hk]
      constructor
      · intro a
        rw [List.mem_append, h1 a, List.mem_singleton]
        constructor
        · rintro (⟨j, hj, e⟩ | e)
          · exact ⟨j, by omega, e⟩
          · exact ⟨m, by omega, e.symm⟩
        · rintro ⟨j, hj, e⟩
          by_cases hjm : j = m
          · subst hjm; exact .inr e.symm
          · exact .inl ⟨j, by omega, e⟩
      · refine List.pairwise_append.2 ⟨h2, List.pairwise_singleton _ _, fun a ha b hb => ?_⟩
        rw [List.mem_singleton] at hb
        subst hb
        obtain ⟨j, hj, rfl⟩ := (h1 a).1 ha
        have n1 := hs j m hj (by omega)
        by_cases hlt : plt d[j]! d[m]!
        · exact hlt
        · exfalso
          have e := plt_total hlt n1
          have hk' : m = 0 ∨ d[m]! ≠ d[m - 1]! := by simpa [keeps] using hk
          rcases hk' with h0 | hne
          · omega
          · by_cases hj1 : j = m - 1
            · subst hj1; exact hne e.symm
            · have n2 := hs j (m - 1) (by omega) (by omega)
              have n3 := hs (m - 1) m (by omega) (by omega)
              rw [e] at n2
              exact hne (plt_total n3 n2)
    · have hk' : m ≠ 0 ∧ d[m]! = d[m - 1]! := by
        simp only [keeps, decide_eq_true_eq, not_or] at hk
        exact ⟨hk.1, Classical.not_not.1 hk.2⟩
      rw [if_neg hk, List.append_nil]
      refine ⟨fun a => ?_, h2⟩
      rw [h1 a]
      constructor
      · rintro ⟨j, hj, e⟩
        exact ⟨j, by omega, e⟩
      · rintro ⟨j, hj, e⟩
        by_cases hjm : j = m
        · subst hjm; exact ⟨j - 1, by omega, by rw [← hk'.2]; exact e⟩
        · exact ⟨j, by omega, e⟩

theorem sorted_facts (xs : List PS) : Rising (compact (psort xs)) ∧ ∀ a, a ∈ compact (psort xs) ↔ a ∈ xs := by
  have hp := List.pairwise_iff_getElem.1 (psort_sorted xs)
  have h := upTo_facts (psort xs).toArray (fun i j hij hj => by
    have hj' : j < (psort xs).length := by simpa using hj
    rw [List.getElem!_toArray, List.getElem!_toArray, getElem!_pos (psort xs) j hj', getElem!_pos (psort xs) i (by omega)]
    exact hp i j (by omega) hj' hij) (psort xs).length (by simp)
  refine ⟨h.2, fun a => ?_⟩
  show a ∈ compactUpTo (psort xs).toArray (psort xs).length ↔ _
  rw [h.1 a, ← (psort_perm xs).mem_iff]
  constructor
  · rintro ⟨j, hj, e⟩
    rw [List.getElem!_toArray, getElem!_pos (psort xs) j hj] at e
    exact e ▸ List.getElem_mem hj
  · intro ha
    obtain ⟨j, hj, e⟩ := List.mem_iff_getElem.1 ha
    exact ⟨j, hj, by rw [List.getElem!_toArray, getElem!_pos (psort xs) j hj, e]⟩

/-- A key is put where it belongs. -/
theorem ins_rising (rs : List PS) (k : PS) (n : Nat) (hn : n ≤ rs.length) (hr : Rising rs) (hlo : ∀ m, m + 1 = n → ¬ plt k rs[m]! ∧ rs[m]! ≠ k) (hhi : ∀ j, n ≤ j → j < rs.length → plt k rs[j]!) :
    Rising (rs.take n ++ (k :: rs.drop n)) ∧ ∀ a, a ∈ rs.take n ++ (k :: rs.drop n) ↔ a = k ∨ a ∈ rs := by
  have hp := List.pairwise_iff_getElem.1 hr
  constructor
  · refine List.pairwise_append.2 ⟨hr.sublist (List.take_sublist _ _), List.pairwise_cons.2 ⟨fun b hb => ?_, hr.sublist (List.drop_sublist _ _)⟩, fun a ha b hb => ?_⟩
    · obtain ⟨j, hj, rfl⟩ := List.mem_iff_getElem.1 hb
      rw [List.getElem_drop]
      have hj' : n + j < rs.length := by simp at hj; omega
      have := hhi (n + j) (by omega) hj'
      rwa [getElem!_pos rs _ hj'] at this
    · obtain ⟨i, hi, rfl⟩ := List.mem_iff_getElem.1 ha
      rw [List.getElem_take]
      have hi' : i < n := by simp at hi; omega
      obtain ⟨m, rfl⟩ : ∃ m, n = m + 1 := ⟨n - 1, by omega⟩
      obtain ⟨h1, h2⟩ := hlo m rfl
      have hm : m < rs.length := by omega
      rw [getElem!_pos rs m hm] at h1 h2
      have hmk : plt rs[m] k := by
        by_cases h : plt rs[m] k
        · exact h
        · exact absurd (plt_total h h1) h2
      have hik : plt rs[i] k := by
        by_cases e : i = m
        · subst e; exact hmk
        · exact plt_trans (hp i m (by omega) hm (by omega)) hmk
      rcases List.mem_cons.1 hb with rfl | hb
      · exact hik
      · obtain ⟨j, hj, rfl⟩ := List.mem_iff_getElem.1 hb
        rw [List.getElem_drop]
        have hj' : m + 1 + j < rs.length := by simp at hj; omega
        exact hp i (m + 1 + j) (by omega) hj' (by omega)
  · intro a
    rw [List.mem_append, List.mem_cons]
    conv => rhs; rw [← List.take_append_drop n rs, List.mem_append]
    constructor
    · rintro (h | h | h)
      · exact .inr (.inl h)
      · exact .inl h
      · exact .inr (.inr h)
    · rintro (h | h | h)
      · exact .inr (.inl h)
      · exact .inl h
      · exact .inr (.inr h)
end Go.Proofs.YtgpbmbefdgbblaaDoor

namespace Go.Proofs.YtgpbmbefdgbblaaDoor
open Go.RowKit Go.Lib

def exP : PS := ⟨(false, [1, 2, 3, 4, 0, 0, 0, 0, 0, 0, 0, 0, 0, 0, 0, 0], 5), by
  refine ⟨rfl, fun x hx => ?_⟩
  simp only [List.mem_cons, List.not_mem_nil, or_false] at hx
  omega⟩
theorem encP_ex : encP exP = #[.bool false, .int .u8 1, .int .u8 2, .int .u8 3, .int .u8 4, .int .u8 0, .int .u8 0, .int .u8 0, .int .u8 0, .int .u8 0, .int .u8 0, .int .u8 0, .int .u8 0, .int .u8 0, .int .u8 0, .int .u8 0, .int .u8 0, .int .i64 5] := rfl

theorem sorted_one : psorted [exP] = [exP] := by
  have h := sorted_facts [exP]
  refine rising_unique _ _ h.1 (List.pairwise_singleton _ _) fun a => ?_
  exact h.2 a
theorem sized_seven : sizedB 7 = true := by
  unfold sizedB
  rw [Bool.and_eq_true, decide_eq_true_eq]
  exact ⟨by decide, (isP_iff 7).2 ⟨by omega, by omega, prm_seven⟩⟩
theorem fill_ex : fillE [exP] 7 = 0 := by
  unfold fillE
  rw [if_neg (by rw [sized_seven]; decide), if_neg, if_neg, if_neg]
  · rw [sorted_one]; decide
  · rw [sorted_one]; decide
  · unfold anyNo
    rw [List.any_eq_true]
    rintro ⟨x, hx, h⟩
    rw [List.mem_singleton] at hx
    subst hx
    have : isPt exP = true := by decide
    rw [this] at h
    cases h
theorem slots_ex : fillT (ordL 7 [exP]) 1 7 7 = [0, 0, 0, 0, 0, 0, 0] := by
  have hl := fillT_length (ordL 7 [exP]) 1 7 7
  have he := fillT_end (show 0 < 1 by omega) (ordL_onto 7 sized_seven [exP])
  apply List.ext_getElem (by rw [hl]; rfl)
  intro i h1 h2
  have := he _ (List.getElem_mem h1)
  have h3 : i < 7 := by rw [hl] at h1; exact h1
  have e : (fillT (ordL 7 [exP]) 1 7 7)[i] = 0 := by omega
  have q : ∀ i, (h : i < ([0, 0, 0, 0, 0, 0, 0] : List Int).length) → ([0, 0, 0, 0, 0, 0, 0] : List Int)[i] = 0 := by decide
  exact e.trans (q i h2).symm
set_option linter.unusedSimpArgs false in
set_option maxRecDepth 100000 in
set_option maxHeartbeats 4000000 in
theorem sameI_any (xs ys : List Int) (ax ay : Option Addr) (cx cy : Nat) (hx : xs.length ≤ 100000) (w : World) (hX : IntsIn w.heap.size w ax xs) (hY : IntsIn w.heap.size w ay ys) :
    Calls Tryd.prog 11 #[.slice ax xs.length cx, .slice ay ys.length cy] w fun e w' => e = .returned (.bool (decide (xs = ys))) ∧ Below w.heap.size w w' := by
  have HX := hid hX
  have HY := hid hY
  obtain ⟨n, hn⟩ : ∃ n, n = xs.length := ⟨_, rfl⟩
  obtain ⟨k, hk⟩ : ∃ k, k = ys.length := ⟨_, rfl⟩
  rw [← hn] at hx
  rw [← hn, ← hk]
  have Hn := hid hn
  have Hk := hid hk
  by_cases hne : n = k
  · subst hne
    have HN : Hid (∀ j, j < n → xs.getD j 0 ≠ ys.getD j 0 → false = decide (xs = ys)) := hid (fun j _ h => by
      symm
      rw [decide_eq_false_iff_not]
      rintro rfl
      exact h rfl)
    have HA : Hid ((∀ j, j < n → xs.getD j 0 = ys.getD j 0) → true = decide (xs = ys)) := hid (fun h => by
      symm
      rw [decide_eq_true_eq]
      apply List.ext_getElem (by omega)
      intro j h1 h2
      have := h j (by omega)
      simpa [List.getD, h1, h2] using this)
    clear hn hk hX hY
    go_enter Tryd.func11, Tryd.ntmps11
    go_wp2
    go_loopg [13] n (fun g s13 wr => ∃ p : Nat, s13 = .int .i64 (p : Int) ∧ p ≤ n ∧ n - p ≤ g ∧ Hid (Below w.heap.size w wr) ∧ Hid (∀ j, j < p → xs.getD j 0 = ys.getD j 0))
    case atStart => exact ⟨0, rfl, by omega, by omega, hid (Below.refl _ _), hid (fun j h => by omega)⟩
    case round =>
      obtain ⟨p, rfl, hp, hgp, HB, HF⟩ := hrel
      by_cases hlt : p < n
      · obtain ⟨gx, ox, rfl, hgx, hcx⟩ := HX.out p (by have := Hn.out; omega)
        obtain ⟨gy, oy, rfl, hgy, hcy⟩ := HY.out p (by have := Hk.out; omega)
        have d1 : wr.cell? ⟨gx, ox + p, none⟩ = some (.int .i64 (xs.getD p 0)) := (HB.out.cell (p := ⟨gx, ox + p, none⟩) hgx).trans hcx
        have d2 : wr.cell? ⟨gy, oy + p, none⟩ = some (.int .i64 (ys.getD p 0)) := (HB.out.cell (p := ⟨gy, oy + p, none⟩) hgy).trans hcy
        have HNp := hid (HN.out p hlt)
        have HFp : Hid (xs.getD p 0 = ys.getD p 0 → ∀ j, j < p + 1 → xs.getD j 0 = ys.getD j 0) := hid (fun h j hj => by
          by_cases e : j = p
          · rw [e]; exact h
          · exact HF.out j (by omega))
        clear hcx hcy
        generalize xs.getD p 0 = u at *
        generalize ys.getD p 0 = v at *
        have d1' : wr.drew.cell? ⟨gx, ox + p, none⟩ = some (.int .i64 u) := d1
        have d2' : wr.drew.cell? ⟨gy, oy + p, none⟩ = some (.int .i64 v) := d2
        have HB2 := hid HB.out.drew
        by_cases huv : u = v
        · have q : (u != v) = false := by rw [huv]; simp
          have HF2 := hid (HFp.out huv)
          clear huv
          go_wp2
          go_quiet (fail)
          go_wp2
          go_roundg (n - (p + 1))
          case measure => omega
          case rel => exact ⟨p + 1, by go_num, by omega, Nat.le_refl _, by first | exact HB | exact HB2 | exact hid (HB.out.trans ((below_drewN _ _).mono HB.out.size)), HF2⟩
        · have q : (u != v) = true := by rw [bne_iff_ne]; exact huv
          have HR := hid (HNp.out huv)
          clear huv
          go_wp2
          go_quiet (fail)
          go_wp2
          go_ret
          exact ⟨ret_b rfl HR.out, by first | exact HB.out | exact HB2.out | exact HB.out.trans ((below_drewN _ _).mono HB.out.size)⟩
      · obtain rfl : p = n := by omega
        have HR := hid (HA.out HF.out)
        go_wp2
        go_ret
        exact ⟨ret_b rfl HR.out, HB.out⟩
  · have HR : Hid (false = decide (xs = ys)) := hid (by
      symm
      rw [decide_eq_false_iff_not]
      rintro rfl
      exact hne (hn.trans hk.symm))
    have q : ((n : Int) != (k : Int)) = true := by rw [bne_iff_ne]; omega
    clear hn hk hX hY
    go_enter Tryd.func11, Tryd.ntmps11
    go_wp2
    go_ret
    exact ⟨ret_b rfl HR.out, Below.refl _ _⟩

set_option linter.unusedSimpArgs false in
set_option maxRecDepth 100000 in
set_option maxHeartbeats 4000000 in
theorem malive_any (E : Nat → TypeId × Value) (w : World) (hE : MEnv E w) : Calls Tryd.prog 5 #[] w fun e w' => e = .returned (.bool true) ∧ Below w.heap.size w w' := by
  obtain ⟨W0, hW0⟩ : ∃ W, W = w.alloc (.cells (encP exP) 36) := ⟨_, rfl⟩
  have b0 : Below w.heap.size w W0 := hW0 ▸ (Below.refl _ _).alloc (Nat.le_refl _) _
  have hel : Elems encP 18 W0.heap.size W0 (some ⟨w.heap.size, 0, none⟩) [exP] := by
    have s0 : W0.heap.size = w.heap.size + 1 := by rw [hW0]; simp
    rw [s0, hW0]
    exact elems_one w exP 36
  have HF : Hid (Calls Tryd.prog 6 #[.slice (some ⟨w.heap.size, 0, none⟩) 1 1, .int .i64 7] W0 (FillEnd E [exP] 7 W0)) := hid (fill_any E (some ⟨w.heap.size, 0, none⟩) 1 [exP] (Nat.le_refl _) (by decide) 7 W0 (hE.kept b0) hel)
  have HW0 := hid hW0.symm
  have Hb0 := hid b0
  have HS := hid (fun (xs ys : List Int) ax ay cx cy h W h1 h2 => sameI_any xs ys ax ay cx cy h W h1 h2)
  clear hW0 b0 hel hE
  go_enter Tryd.func5, Tryd.ntmps5
  go_wp2_with ((show wpList _ _ _ (⟨some 7, _, _, _, _, _⟩ :: _) _ _); go_must (refine wpl_run _ _ (exec_lit1 (.tmp 6) rfl (encP exP) rfl (encP_size exP)) rfl ?_; rw [HW0.out]))
  refine HF.out.mono ?_
  rintro e w1 ⟨hb, ⟨h0, _⟩ | ⟨_, M, ab, cap, S, hM, rfl, h1, h2, h3⟩⟩
  · exact absurd fill_ex h0
  · obtain rfl : M = 7 := by omega
    rw [sorted_one] at h3 ⊢
    have h3' : SlotB w1 S [0, 0, 0, 0, 0, 0, 0] := by
      have := h3
      rw [show ([exP] : List PS).length = 1 from rfl, slots_ex] at this
      exact this
    obtain ⟨W2, hW2⟩ : ∃ W, W = w1.alloc (.cells #[.int .i64 7, .slice ab 1 cap, .slice (some ⟨S, 0, none⟩) 7 7] 26) := ⟨_, rfl⟩
    obtain ⟨W3, hW3⟩ : ∃ W, W = W2.alloc (.cells #[.int .i64 0, .int .i64 0, .int .i64 0, .int .i64 0, .int .i64 0, .int .i64 0, .int .i64 0] 3) := ⟨_, rfl⟩
    have HW2 := hid hW2.symm
    have HW3 := hid hW3.symm
    have b2 : Below w1.heap.size w1 W2 := hW2 ▸ (Below.refl _ _).alloc (Nat.le_refl _) _
    have b3 : Below W2.heap.size W2 W3 := hW3 ▸ (Below.refl _ _).alloc (Nat.le_refl _) _
    have k2 : Blk W2 w1.heap.size 26 #[.int .i64 7, .slice ab 1 cap, .slice (some ⟨S, 0, none⟩) 7 7] := hW2 ▸ Blk.new w1 _ _
    have c2 : W2.cell? ⟨w1.heap.size, 2, none⟩ = some (.slice (some ⟨S, 0, none⟩) 7 7) := k2.cell 2
    have HK3 := hid (k2.kept b3)
    have s2 : W2.heap.size = w1.heap.size + 1 := by rw [hW2]; simp
    have HI1 := hid (SlotB.ints (Blk.kept (Blk.kept h3' b2) b3 : SlotB W3 S [0, 0, 0, 0, 0, 0, 0]))
    have HI2 : Hid (IntsIn W3.heap.size W3 (some ⟨W2.heap.size, 0, none⟩) [0, 0, 0, 0, 0, 0, 0]) := hid (SlotB.ints (hW3 ▸ Blk.new W2 _ _ : Blk W3 W2.heap.size 3 (([0, 0, 0, 0, 0, 0, 0] : List Int).map (Value.int .i64)).toArray))
    have HC : Hid (Calls Tryd.prog 11 #[.slice (some ⟨S, 0, none⟩) 7 7, .slice (some ⟨w1.heap.size + 1, 0, none⟩) 7 7] W3 fun e w' => e = .returned (.bool true) ∧ Below W3.heap.size W3 w') := hid (by rw [← s2]; exact HS.out [0, 0, 0, 0, 0, 0, 0] [0, 0, 0, 0, 0, 0, 0] (some ⟨S, 0, none⟩) (some ⟨W2.heap.size, 0, none⟩) 7 7 (by decide) W3 HI1.out HI2.out)
    have HB3 := hid (bel2 (bel2 (bel2 Hb0.out hb) b2) b3)
    clear hb h1 h2 h3 h3' hM hW2 hW3 b2 b3 k2 HS HF HW0 s2 c2
    have d1 : W3.cell? ⟨w1.heap.size, 1, none⟩ = some (.slice ab 1 cap) := HK3.out.cell 1
    go_wp2_with fail
    rw [HW2.out]
    rw [HW3.out]
    refine HC.out.mono ?_
    rintro e w4 ⟨rfl, hb⟩
    have Hb4 := hid (bel2 HB3.out hb)
    have d2 : w4.cell? ⟨w1.heap.size, 1, none⟩ = some (.slice ab 1 cap) := (HK3.out.kept hb).cell 1
    clear hb
    go_wp2
    go_ret
    exact ⟨rfl, Hb4.out⟩
end Go.Proofs.YtgpbmbefdgbblaaDoor

namespace Go.Proofs.YtgpbmbefdgbblaaDoor
open Go.ChangeShapes Go.WideShapes Go.ChangeAt Go.WideMaps Go.WideElems Go.RowKit

theorem own : ownKnob Tryd.prog.godebug = none := by kernel_rfl
theorem laidOutS : laidOutB Tryd.prog = true := by kernel_rfl

/-- A listed array of numbers. -/
theorem tab_of_reads {P : Program} {W : World} {name : String} {g n : Nat} {t e : TypeId} {k : IntKind} {zs : List Int} (hg : P.globalNamed name = some g) (hty : (P.globals[g]?).map (·.type) = some t) (ht : P.underlying t = some (.array n e)) (he : P.underlying e = some (.int k)) (hc : P.cellsOf e = 1)
    (h : Lib.VarReads P W name (.agg (zs.map fun z => .lit (.int k z)))) (i : Nat) (hi : i < n) (z : Int) (hz : zs[i]? = some z) : W.cell? ⟨g, i, none⟩ = some (.int k z) := by
  obtain ⟨g', t', cs, fuel, p, h1, h2, h3, h4⟩ := h
  obtain rfl := Option.some.inj (hg.symm.trans h1)
  obtain rfl := Option.some.inj (hty.symm.trans h2)
  obtain ⟨f', d, q, hd, htr⟩ := Lib.array_elem ht h4 i hi
  rw [hc] at htr
  obtain ⟨z', hcz, hd', _⟩ := DataW.trod_int he htr
  rw [List.getElem?_map, hz, Option.map_some, Option.some.injEq] at hd
  subst hd
  obtain rfl : z = z' := by simpa using congrArg Prod.fst hd'
  rw [World.var?_cell h1 h3 i, ← Array.getElem?_toList]
  have := congrArg (·[0]?) hcz
  simpa [List.getElem?_take, List.getElem?_drop] using this

theorem cell_lt {W : World} {g i : Nat} {v : Value} (h : W.cell? ⟨g, i, none⟩ = some v) : g < W.heap.size := by
  rcases Nat.lt_or_ge g W.heap.size with hl | hl
  · exact hl
  · unfold World.cell? at h
    rw [Array.getElem?_eq_none hl] at h
    cases h

set_option maxRecDepth 100000 in
theorem open_bs {H : Type} {enc : TypeId × Value → H} {W : World} {base : Nat} {v : Value} {d : DataW H} {p : List MemPlace} (hv : Value.okWide Tryd.prog W .any base 77 v) (h : DataW.Trod enc Tryd.prog W 0 (fun _ => true) true 77 v d p) :
    ∃ ad cap bs, v = .slice ad bs.length cap ∧ bs.length ≤ cap ∧ (ad = none → bs.length = 0 ∧ cap = 0) ∧ Byt bs ∧ Bys W.heap.size W ad bs ∧ (∀ x ∈ p, x.block < W.heap.size) := by
  obtain ⟨a1, len1, cap1, rfl⟩ := okWide_slice Tryd.underlying77 hv
  have lt1 : ∀ x ∈ p, x.block < W.heap.size := by obtain ⟨m, hm⟩ := h; exact DataW.trod_lt m _ _ _ hm
  obtain ⟨fuel, hf⟩ := h
  rcases open_ints Tryd.underlying77 Tryd.underlying5 (by kernel_rfl) hf with ⟨hcs, _⟩ | ⟨x, ln, c, zs, hcs, _, hl, hm, hz, _, hcell, hwz⟩
  · simp [Value.cells] at hcs
    obtain ⟨rfl, rfl, rfl⟩ := hcs
    exact ⟨none, 0, [], rfl, Nat.le_refl _, fun _ => ⟨rfl, rfl⟩, Byt.of (fun x hx => absurd hx (by simp)), (fun j hj => absurd hj (by simp)), lt1⟩
  · simp [Value.cells] at hcs
    obtain ⟨rfl, rfl, rfl⟩ := hcs
    simp only [if_true] at hz
    have e : (zs.take len1).length = len1 := by rw [List.length_take]; omega
    refine ⟨some x, cap1, zs.take len1, by rw [e], by omega, (fun h => by cases h), Byt.of (fun z hz' => bounds_u8 (hwz z (List.mem_of_mem_take hz'))), fun j hj => ?_, lt1⟩
    rw [e] at hj
    obtain ⟨b, off, spot⟩ := x
    have hspot : spot = none := by simpa [Addr.add] using World.cell?_spot (hcell 0 (by omega))
    subst hspot
    have hc := hcell j (by omega)
    rw [show (⟨b, off, none⟩ : Addr).add j = ⟨b, off + j, none⟩ by unfold Addr.add; split <;> simp_all] at hc
    refine ⟨b, off, rfl, cell_lt hc, ?_⟩
    rw [hc]
    simp [List.getD, show j < len1 by omega]

/-- The builder, with both: what is listed, and the world's shape. -/
theorem returnsInHanded_of_change_both {H : Type} {enc : TypeId × Value → H} {a : Assume} {C : Checked} {os : Os} {f : FuncId} {fn : Func} {s : ChangeSpec} {conds : List PathCond} {apart fresh handsOn again : Bool} {X : World → Array Value → Prop}
    (hX : ∀ (w w' : World) (args : Array Value), w.heap = w'.heap → X w args → X w' args)
    (own : ownKnob C.prog.godebug = none) (started : os.Started) (noInit : C.prog.inits.idxOf? f = none) (hfn : C.prog.funcs[f]? = some fn)
    (witness : ∃ (w : World) (tape : Tape) (i : Input), w.os = os ∧ (w.forCall tape i).Shaped C.prog ∧ i.vars = [] ∧ Input.okWide C.prog (w.forCall tape i) .any w.heap.size f i ∧
      ((s.pre enc C.prog fn conds apart (w.forCall tape i).memory i.args ∧ X (w.forCall tape i).memory i.args) ∧ sizedMet enc C.prog fn (OpenSpec.ofChange s) apart (w.forCall tape i).memory i.args) ∧ a.holds C.prog (lone (Frame.enter C.prog f i.args .normal) [] (w.forCall tape i)))
    (contract : ∀ (W : World) (base : Nat) (args : Array Value) (ds gs : List (DataW H)) (before : List MemPlace),
      (∀ (j : Nat) t v, fn.params[j]? = some t → args[j]? = some v → Value.okWide C.prog W .any base t v) →
      DataW.Whole enc C.prog fn.params.toList s.vars apart W args.toList ds gs before → X W args → W.ShapedOpen C.prog →
      Calls C.prog f args W fun e W' => ∃ v, e = .returned v ∧ s.post enc C.prog fn apart fresh handsOn again W args v W') :
    ReturnsInHanded a C os f .any (fun w args => (s.pre enc C.prog fn conds apart w args ∧ X w args) ∧ sizedMet enc C.prog fn (OpenSpec.ofChange s) apart w args) (s.post enc C.prog fn apart fresh handsOn again) := by
  refine returnsInHanded_of_calls own started noInit witness ?_
  intro w tape i _ hsh _ hok hpre _
  obtain ⟨_, _, _, fn', hfn', _, _, _, _, hval⟩ := hok
  have e : fn' = fn := Option.some.inj (hfn'.symm.trans hfn)
  subst e
  obtain ⟨⟨⟨ds, gs, before, hw, _⟩, hx⟩, _⟩ := hpre
  have hw' := DataW.Whole.of_heap (w' := w.forCall tape i) (by rfl) hw
  refine (contract (w.forCall tape i) w.heap.size i.args ds gs before hval hw' (hX _ _ _ (by rfl) hx) hsh).mono fun e W' ⟨v, he, hp⟩ => ?_
  subst he
  exact ChangeSpec.post_blind hp
end Go.Proofs.YtgpbmbefdgbblaaDoor

namespace Go.Proofs.YtgpbmbefdgbblaaDoor
open Go.ChangeShapes Go.WideShapes Go.ChangeAt Go.WideMaps Go.WideElems Go.RowKit Go.Joins

theorem iface_of_reads {P : Program} {W : World} {name nm : String} {d : DataW Unit} {g : Nat} {t : TypeId} {ms : Array (String × TypeId)}
    (hg : P.globalNamed name = some g) (hty : (P.globals[g]?).map (·.type) = some t) (ht : P.underlying t = some (.interface ms))
    (h : Lib.VarReads P W name (.iface nm d)) : ∃ u p, W.cell? ⟨g, 0, none⟩ = some (.iface u p) := by
  obtain ⟨g', t', cs, fuel, p, h1, h2, h3, h4⟩ := h
  obtain rfl := Option.some.inj (hg.symm.trans h1)
  obtain rfl := Option.some.inj (hty.symm.trans h2)
  obtain ⟨_, u, v, e, _, _⟩ := iface_of_trod ht h4
  refine ⟨u, v, ?_⟩
  rw [World.var?_cell h1 h3 0, ← Array.getElem?_toList, e]
  rfl

theorem Tryd.cellsStride : Tryd.prog.cellsOf 74 = 3 := by kernel_rfl

section
variable {H : Type} {enc : TypeId × Value → H}
def strideData (a b c : Int) : DataW H := .agg [.lit (.int .i64 a), .lit (.int .i64 b), .lit (.int .i64 c)]
set_option maxRecDepth 100000 in
theorem open_stride {W : World} {base b0 : Nat} {sp : Nat → Bool} {held : Bool} {r : Reach} {v : Value} {d : DataW H} {ps : List MemPlace} (hv : Value.okWide Tryd.prog W r b0 74 v) (h : DataW.Trod enc Tryd.prog W base sp held 74 v d ps) :
    ∃ a b c, v = .agg #[.int .i64 a, .int .i64 b, .int .i64 c] ∧ d = strideData a b c ∧ ps = [] ∧ (Lit.int .i64 a).wf = true ∧ (Lit.int .i64 b).wf = true ∧ (Lit.int .i64 c).wf = true := by
  obtain ⟨c0, c1, c2, y0, y1, y2, m, rfl, rfl, rfl, hy0, hy1, hy2⟩ := open_agg3 Tryd.underlying74 (by kernel_rfl) Tryd.cellsStride hv h
  obtain ⟨a, e0, rfl, wa⟩ := DataW.trod_int Tryd.underlying3 hy0
  obtain ⟨b, e1, rfl, wb⟩ := DataW.trod_int Tryd.underlying3 hy1
  obtain ⟨c, e2, rfl, wc⟩ := DataW.trod_int Tryd.underlying3 hy2
  simp at e0 e1 e2
  subst e0 e1 e2
  exact ⟨a, b, c, rfl, rfl, rfl, wa, wb, wc⟩
set_option maxRecDepth 100000 in
theorem shut_stride {W : World} {base : Nat} {sp : Nat → Bool} {held : Bool} {a b c : Int} (ha : (Lit.int .i64 a).wf = true) (hb : (Lit.int .i64 b).wf = true) (hc : (Lit.int .i64 c).wf = true) :
    DataW.Trod enc Tryd.prog W base sp held 74 (.agg #[.int .i64 a, .int .i64 b, .int .i64 c]) (strideData a b c) [] :=
  shut_agg3 (y0 := (.lit (.int .i64 a), [])) (y1 := (.lit (.int .i64 b), [])) (y2 := (.lit (.int .i64 c), [])) Tryd.underlying74 (by kernel_rfl) Tryd.cellsStride
    ⟨1, by simp [DataW.trod, Tryd.underlying3, ha]⟩ ⟨1, by simp [DataW.trod, Tryd.underlying3, hb]⟩ ⟨1, by simp [DataW.trod, Tryd.underlying3, hc]⟩
end
end Go.Proofs.YtgpbmbefdgbblaaDoor

namespace Go.Proofs.YtgpbmbefdgbblaaDoor
open Go.ChangeShapes Go.WideShapes Go.RowKit

theorem add_add (a : Addr) (i j : Nat) : (a.add i).add j = a.add (i + j) := by
  rcases a with ⟨g, o, sp⟩
  unfold Addr.add
  by_cases hi : i = 0
  · subst hi
    by_cases hj : j = 0
    · subst hj; simp
    · simp [hj]
  · by_cases hj : j = 0
    · subst hj; simp [hi]
    · simp [hi, hj, Nat.add_assoc]
theorem list_of {α : Type} (P : Nat → α → Prop) : ∀ n, (∀ i, i < n → ∃ x, P i x) → ∃ xs : List α, xs.length = n ∧ ∀ i (h : i < xs.length), P i xs[i]
  | 0, _ => ⟨[], rfl, fun i h => absurd h (by simp)⟩
  | n + 1, h => by
    obtain ⟨xs, h1, h2⟩ := list_of P n (fun i hi => h i (by omega))
    obtain ⟨x, hx⟩ := h n (by omega)
    refine ⟨xs ++ [x], by simp [h1], fun i hi => ?_⟩
    by_cases hin : i < xs.length
    · rw [List.getElem_append_left hin]
      exact h2 i hin
    · have : i = n := by simp at hi; omega
      subst this
      rw [List.getElem_append_right (by omega)]
      simpa [h1] using hx

section
variable {H : Type} {enc : TypeId × Value → H}
def natOf : Value → Nat
  | .int _ n => n.toNat
  | _ => 0
theorem open_bytes16 {W : World} {base : Nat} {sp : Nat → Bool} {held : Bool} {fuel : Nat} {cs : List Value} {x : DataW H × List MemPlace} (h : DataW.trod enc Tryd.prog W base sp held fuel 32 cs = some x) :
    ∃ l : List Nat, l.length = 16 ∧ (∀ n ∈ l, n < 256) ∧ cs = l.map (fun n : Nat => Value.int .u8 n) ∧ x = (.agg (l.map fun n : Nat => .lit (.int .u8 n)), []) := by
  obtain ⟨xs, m, rfl, rfl, hl, hn, hall⟩ := DataW.trod_array Tryd.underlying32 h
  have hc : Tryd.prog.cellsOf 5 = 1 := by kernel_rfl
  have hl : cs.length = 16 := hl.trans (by kernel_rfl)
  simp only [hc, Nat.mul_one] at hall
  have each : ∀ i, i < 16 → ∃ n : Nat, n < 256 ∧ cs[i]? = some (.int .u8 n) ∧ xs[i]? = some (.lit (.int .u8 n), []) := by
    intro i hi
    have hi' : i < xs.length := by omega
    have := hall i hi
    rw [List.getElem?_eq_getElem hi'] at this
    obtain ⟨n, h1, h2, h3⟩ := DataW.trod_int Tryd.underlying5 this
    have hb := bounds_u8 h3
    obtain ⟨m, rfl⟩ : ∃ m : Nat, n = m := ⟨n.toNat, by omega⟩
    refine ⟨m, by omega, ?_, by rw [List.getElem?_eq_getElem hi', h2]⟩
    have := congrArg (·[0]?) h1
    simpa [List.getElem?_take, List.getElem?_drop] using this
  refine ⟨(List.range 16).map fun i => natOf (cs[i]?.getD .nilIface), by simp, ?_, ?_, ?_⟩
  · intro n hn
    obtain ⟨i, hi, rfl⟩ := List.mem_map.1 hn
    obtain ⟨k, hk, h1, _⟩ := each i (List.mem_range.1 hi)
    simp [h1, natOf, hk]
  · apply List.ext_getElem?
    intro i
    by_cases hi : i < 16
    · obtain ⟨k, hk, h1, _⟩ := each i hi
      simp [h1, hi, natOf]
    · rw [List.getElem?_eq_none (by omega), List.getElem?_eq_none (by simp; omega)]
  · have e : xs = ((List.range 16).map fun i => natOf (cs[i]?.getD .nilIface)).map fun n : Nat => ((.lit (.int .u8 n), []) : DataW H × List MemPlace) := by
      apply List.ext_getElem?
      intro i
      by_cases hi : i < 16
      · obtain ⟨k, hk, h1, h2⟩ := each i hi
        simp [h1, h2, hi, natOf]
      · rw [List.getElem?_eq_none (by omega), List.getElem?_eq_none (by simp; omega)]
    rw [e]
    simp
theorem pnt_listY (s : Bool) (x : List Nat) (n : Int) : (pnt s (ints x) n).toList = (.bool s :: x.map fun n : Nat => Value.int .u8 n) ++ [.int .i64 n] := by
  simp [pnt, ints]
set_option maxRecDepth 100000 in
theorem open_pntc {W : World} {base : Nat} {sp : Nat → Bool} {held : Bool} {fuel : Nat} {cs : List Value} {x : DataW H × List MemPlace} (hf : DataW.trod enc Tryd.prog W base sp held fuel 36 cs = some x) (hs : cs.length = 18) : ∃ c : PS, cs = encPL c := by
  obtain ⟨y0, y1, n, hx, hl, h0, h1⟩ := trod_struct2 Tryd.underlying36 hf
  have hca : Tryd.prog.cellsOf 34 = 17 := by kernel_rfl
  have hci : Tryd.prog.cellsOf 3 = 1 := by kernel_rfl
  have hc0 : Tryd.prog.cellsOf 4 = 1 := by kernel_rfl
  have hc1 : Tryd.prog.cellsOf 32 = 16 := by kernel_rfl
  simp only [hca, hci] at h0 h1
  obtain ⟨z0, z1, k, hz, hzl, k0, k1⟩ := trod_struct2 Tryd.underlying34 h0
  simp only [hc0, hc1] at k0 k1
  obtain ⟨s, e0, rfl⟩ := DataW.trod_bool Tryd.underlying4 k0
  obtain ⟨l, hxl, hxb, e1, rfl⟩ := open_bytes16 k1
  obtain ⟨m, e2, rfl, hwf⟩ := DataW.trod_int Tryd.underlying3 h1
  refine ⟨⟨(s, l, m), hxl, hxb⟩, ?_⟩
  show cs = (pnt s (ints l) m).toList
  rw [pnt_listY, ← List.take_append_drop 17 cs]
  simp only [List.drop_zero] at e0 e1
  have a1 : cs.take 17 = .bool s :: l.map fun n : Nat => Value.int .u8 n := by
    rw [← List.take_append_drop 1 (cs.take 17), e0]
    rw [List.take_of_length_le (by simp [hs])] at e1
    rw [e1]
    rfl
  have a2 : cs.drop 17 = [.int .i64 m] := by
    rw [List.take_of_length_le (by simp [hs])] at e2
    exact e2
  rw [a1, a2]
set_option maxRecDepth 100000 in
theorem open_points {W : World} {v : Value} {d : DataW H} {p : List MemPlace} (hsl : ∃ a len cap, v = .slice a len cap) (h : DataW.Trod enc Tryd.prog W 0 (fun _ => true) true 22 v d p) :
    ∃ (ad : Option Addr) (cap : Nat) (xs : List PS), v = .slice ad xs.length cap ∧ xs.length ≤ cap ∧ (ad = none → xs.length = 0 ∧ cap = 0) ∧ Elems encP 18 W.heap.size W ad xs := by
  obtain ⟨a0, len0, cap0, rfl⟩ := hsl
  obtain ⟨fuel, hf⟩ := h
  rcases DataW.trod_slice Tryd.underlying22 hf with ⟨h0, _⟩ | ⟨a, len, cap, elems, rest, n, _, h0, _, _, hl, hm, hlen, hel, _, _⟩
  · have h0' : Value.slice a0 len0 cap0 = .slice none 0 0 := by simpa [Value.cells] using h0
    rw [h0']
    exact ⟨none, 0, [], rfl, Nat.le_refl _, fun _ => ⟨rfl, rfl⟩, fun j hj => absurd hj (by simp)⟩
  · have h0' : Value.slice a0 len0 cap0 = .slice (some a) len cap := by simpa [Value.cells] using h0
    rw [h0']
    have hc : Tryd.prog.cellsOf 36 = 18 := by kernel_rfl
    have each : ∀ i, i < len → ∃ k : PS, ∀ j u, (encPL k)[j]? = some u → W.cell? (a.add (i * 18 + j)) = some u := by
      intro i hi
      have h1 := hel i hi
      rw [List.getElem?_eq_getElem (by omega), hc, Option.bind_eq_some_iff] at h1
      obtain ⟨cs, hcs, ht⟩ := h1
      obtain ⟨_, hcl, hcc⟩ := World.cells?_some hcs
      obtain ⟨k, rfl⟩ := open_pntc ht hcl
      refine ⟨k, fun j u hu => ?_⟩
      have hj : j < 18 := by have h9 := (List.getElem?_eq_some_iff.1 hu).1; rw [encPL_length] at h9; exact h9
      have := hcc j hj
      rw [hu, add_add] at this
      exact this
    obtain ⟨xs, hxl, hx⟩ := list_of _ len each
    refine ⟨some a, cap, xs, by rw [hxl], by omega, (fun e => by cases e), fun j hj => ?_⟩
    have hxj := hx j hj
    have c0 := hxj 0 (.bool xs[j].1.1) rfl
    have hsp : a.spot = none := by
      rcases a with ⟨g, o, sp⟩
      cases sp with
      | none => rfl
      | some s =>
        exfalso
        have c00 := hx 0 (by omega) 0 (.bool (xs[0]'(by omega)).1.1) rfl
        rw [show (⟨g, o, some s⟩ : Addr).add (0 * 18 + 0) = ⟨g, o, some s⟩ by simp [Addr.add]] at c00
        unfold World.cell? at c00
        simp at c00
        split at c00 <;> simp at c00
    rcases a with ⟨g, o, sp⟩
    obtain rfl : sp = none := hsp
    refine ⟨g, o, rfl, ?_, fun i u hu => ?_⟩
    · rw [show (⟨g, o, none⟩ : Addr).add (j * 18 + 0) = ⟨g, o + j * 18, none⟩ by unfold Addr.add; split <;> simp_all] at c0
      rcases Nat.lt_or_ge g W.heap.size with hlt | hge
      · exact hlt
      · have : W.heap[g]? = none := Array.getElem?_eq_none hge
        unfold World.cell? at c0
        rw [this] at c0
        cases c0
    · have := hxj i u hu
      rw [show (⟨g, o, none⟩ : Addr).add (j * 18 + i) = ⟨g, o + j * 18 + i, none⟩ by unfold Addr.add; split <;> simp_all [Nat.add_assoc]] at this
      exact this
end

theorem menv_of {W : World} (hf : FEnv W) (u1 u8 u11 u13 : TypeId) (p1 p8 p11 p13 : Value) (h1 : W.cell? ⟨0, 0, none⟩ = some (.iface u1 p1)) (h8 : W.cell? ⟨1, 0, none⟩ = some (.iface u8 p8)) (h11 : W.cell? ⟨2, 0, none⟩ = some (.iface u11 p11)) (h13 : W.cell? ⟨3, 0, none⟩ = some (.iface u13 p13)) : ∃ E, MEnv E W :=
  ⟨fun i => if i = 1 then (u1, p1) else if i = 8 then (u8, p8) else if i = 11 then (u11, p11) else (u13, p13), hf, h1, h8, h11, h13⟩
end Go.Proofs.YtgpbmbefdgbblaaDoor
