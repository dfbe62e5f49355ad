/-
  Sums: sums.Changed of two lists of one length.
-/
import Derived.Test.YtnlhdeffoalhiaaSchk
import Derived.Test.YtnlhdeffoalhiaaSpch
import Derived.Test.YtnlhdeffoalhiaaRnd
import Derived.BigQuiet
namespace Go.Proofs.Ytnlhdeffoalhiaa
open Go.RowKit Go.Shelf Go.Lib
attribute [local go_sem] Oper.semAt_some

/-- What Changed has come to. -/
def chgd (c : Int) (bs ns : List Int) (pre : List (WordOf bs)) : Int := changes c (pre.map fun x => (x.1.2, wordAt ns x.1.1.toNat))
theorem chgd_snoc (c : Int) (bs ns : List Int) (pre : List (WordOf bs)) (x : WordOf bs) : chgd c bs ns (pre ++ [x]) = change (chgd c bs ns pre) x.1.2 (wordAt ns x.1.1.toNat) := by
  simp [chgd, changes_snoc]
theorem chgd_all (c : Int) (bs ns : List Int) (ys : List (WordOf bs)) (h : ys.map (·.1) = wlist bs (nw bs.length)) : chgd c bs ns ys = changes c (pairs bs ns (nw bs.length)) := by
  unfold chgd
  congr 1
  rw [show (fun x : WordOf bs => (x.1.2, wordAt ns x.1.1.toNat)) = (fun y : Int × Int => (y.2, wordAt ns y.1.toNat)) ∘ (·.1) from rfl, ← List.map_map, h, wlist, pairs, List.map_map]
  rfl

set_option maxRecDepth 100000 in
set_option maxHeartbeats 4000000 in
theorem schanged_any (c0 : Int) (capw capn : Nat) (adw adn : Option Addr) (bs ns : List Int) (hbs : Byt bs) (hns : Byt ns) (hcw : bs.length ≤ capw) (hcn : ns.length ≤ capn) (hm : bs.length ≤ 1000000) (he : ns.length = bs.length) (w : World) (hIw : Bys w.heap.size w adw bs) (hIn : Bys w.heap.size w adn ns) :
    Calls Try.prog 19 #[.int .i64 c0, .slice adw bs.length capw, .slice adn ns.length capn] w fun e w' => e = .returned (.int .i64 (changes c0 (pairs bs ns (nw bs.length)))) ∧ Below w.heap.size w w' := by
  refine (callsIn_wide (n := 8)).1 ?_
  obtain ⟨len, hlen⟩ : ∃ len, bs.length = len := ⟨_, rfl⟩
  rw [he]
  have HE := hid he
  rw [he] at hcn
  rw [hlen] at hcw hcn hm ⊢
  have HL := hid hlen
  clear hlen he
  refine callsIn_of_wp_marks Try.func19 rfl trivial ?_ rfl
  simp only [Try.ntmps19, List.size_toArray, List.length_cons, List.length_nil, Nat.reduceAdd, Nat.reduceSub, Array.replicate_succ, Array.replicate_zero, List.push_toArray, List.append_toArray, List.nil_append, List.cons_append]
  gi_wp2_with (refine ⟨trivial, ?_⟩; gi_at_call 21; refine (words_in Fence.wide _ trivial rfl _ _ _ _).mono ?_; rintro e w' ⟨rfl, rfl⟩)
  have bC := ((Boxed.new w 3 (.int .i64 c0)).alloc (.cells #[.slice adn len capn] 22)).alloc (.cells #[.slice adw len capw] 22)
  have bA := (Boxed.new (w.alloc (.cells #[.int .i64 c0] 3)) 22 (.slice adn len capn)).alloc (.cells #[.slice adw len capw] 22)
  have bN := Boxed.new ((w.alloc (.cells #[.int .i64 c0] 3)).alloc (.cells #[.slice adn len capn] 22)) 22 (.slice adw len capw)
  rw [World.size_alloc] at bA
  rw [World.size_alloc, World.size_alloc] at bN
  have hB1 : Below w.heap.size w (((w.alloc (.cells #[.int .i64 c0] 3)).alloc (.cells #[.slice adn len capn] 22)).alloc (.cells #[.slice adw len capw] 22)) := (((Below.refl _ w).alloc (Nat.le_refl _) _).alloc (by simp) _).alloc (by simp; omega) _
  refine wpIn_rangeFunc_ownG rfl (by omega) (gf := 25) (lb := #[.pointer (some ⟨w.heap.size + 1 + 1, 0, none⟩)]) rfl trivial (enters_of Try.func25 (by kernel_rfl) rfl)
    (words_stopsW Fence.wide _ trivial trivial rfl (by omega) (w.heap.size + 1 + 1) w.heap.size capw adw bs hbs (by rw [HL.out]; exact hcw) (by rw [HL.out]; exact hm) _ (by simp) (by simp; omega) (by rw [HL.out]; exact bN.cell) (hIw.below hB1)) KB.trans (KB.put (by simp; omega) (by simp)) (Below.refl _ _) (fun _ => rfl)
    (fun pre W => ((W.cell? ⟨w.heap.size, 0, none⟩ = some (.int .i64 (chgd c0 bs ns pre)) ∧ W.frozen? ⟨w.heap.size, 0, none⟩ = false) ∧ (W.cell? ⟨w.heap.size + 1, 0, none⟩ = some (.slice adn len capn) ∧ W.frozen? ⟨w.heap.size + 1, 0, none⟩ = false)) ∧ Below w.heap.size w W)
    (fun _ _ _ => False)
    (OwnFrom.and (OwnFrom.and (Own.from (fun s A B row hs hg hr => ⟨cell_kept hs.1 hg hr, (frozen_kept hs.1 hg hr).trans hs.2⟩) _) (Own.from (fun s A B row hs hg hr => ⟨cell_kept hs.1 hg hr, (frozen_kept hs.1 hg hr).trans hs.2⟩) _)) (ownFrom_below (Nat.le_refl _) (by simp; omega)))
    (fun _ _ _ _ _ hs _ _ => hs)
    ⟨⟨⟨bC.cell, bC.frozen⟩, ⟨bA.cell, bA.frozen⟩⟩, hB1⟩
    (fun x => { tmps := #[.int .i64 c0, .slice adw len capw, .slice adn len capn, .pointer (some ⟨w.heap.size, 0, none⟩), undef, .pointer (some ⟨w.heap.size + 1, 0, none⟩), .int .i64 0, .int .i64 x.1.1, .int .i64 x.1.2, .slice adw len capw, .func (.func 25) #[] #[.pointer (some ⟨w.heap.size + 1 + 1, 0, none⟩)], .int .i64 x.1.1, .int .i64 x.1.2, undef, undef, undef, undef, undef, undef, undef, undef, undef, undef, undef, undef], defers := [] }) ?assign ?body ?done ?stop
  case assign =>
    intro l x W K hK
    gi_wp2
    exact hK
  case body =>
    rintro l pre x W ⟨⟨⟨hc, hf⟩, hc2, hf2⟩, hB⟩ _
    have HS := hid (chgd_snoc c0 bs ns pre x)
    obtain ⟨k, hk, hx⟩ := x.2
    obtain ⟨p, hp⟩ : ∃ p, p = 2 * k := ⟨_, rfl⟩
    have e1 : x.1.1 = (p : Int) := by rw [hx, hp]
    obtain ⟨y, e2⟩ : ∃ y, x.1.2 = y := ⟨_, rfl⟩
    rw [e1, e2, Int.toNat_natCast] at HS
    rw [e1, e2]
    clear hx e1 e2
    have hlt : p < len := by have := HL.out; unfold nw at hk; omega
    obtain ⟨T, hT⟩ : ∃ T, chgd c0 bs ns pre = T := ⟨_, rfl⟩
    rw [hT] at hc HS
    obtain ⟨z, hz⟩ : ∃ z, wordAt ns p = z := ⟨_, rfl⟩
    rw [hz] at HS
    have HIn := hid hIn
    have HZ := hid hz
    obtain ⟨g, o, rfl, hg, _⟩ := hIn p (by have := HL.out; have := HE.out; omega)
    have HW : Hid (∀ (W' : World), Below w.heap.size W W' → Calls Try.prog 23 #[.slice (some ⟨g, o + p, none⟩) (len - p) (capn - p)] W' fun e w' => e = .returned (.int .i64 z) ∧ W' = w') := hid fun W' hb => by
      have hI' := HIn.out.below (hB.trans hb)
      have hq := HE.out
      have hq2 := HL.out
      obtain ⟨g0, o0, e0, _, c0'⟩ := hI' p (by omega)
      cases e0
      have h1 : 1 < len - p → W'.cell? ⟨g, o + p + 1, none⟩ = some (.int .u8 (ns.getD (p + 1) 0)) := fun h => by
        obtain ⟨g1, o1, e1, _, c1⟩ := hI' (p + 1) (by omega)
        cases e1
        exact c1
      have h2 : len - p = 1 → ns.getD (p + 1) 0 = 0 := fun h => by rw [List.getD, List.getElem?_eq_none (by omega)]; rfl
      have h3 : ns.getD p 0 * 256 + ns.getD (p + 1) 0 = z := HZ.out
      have h4 := callsIn_wide.1 (word_in Fence.wide 3 trivial rfl g (o + p) (len - p) (capn - p) _ _ z (hns p) (hns (p + 1)) (by omega) h3 W' c0' h1 h2)
      exact h4.mono (fun e w' h => ⟨h.1, h.2.symm⟩)
    clear hz hT hp HIn hk
    have hd : 1 ≤ 8 - 1 - 1 := by omega
    have hmx : Try.prog.follows .mixedOrders = true := by kernel_rfl
    have HCh : Hid (∀ (W' : World), Calls Try.prog 15 #[.int .i64 T, .int .i64 y, .int .i64 z] W' fun e w' => e = .returned (.int .i64 (change T y z)) ∧ W' = w') := hid fun W' =>
      (schange_any T y z W').mono (fun e w' h => ⟨h.1, h.2.symm⟩)
    clear hIw hIn hbs hns
    generalize change T y z = C at HCh HS
    have F : ownPostG ((((w.alloc (.cells #[.int .i64 c0] 3)).alloc (.cells #[.slice (some ⟨g, o, none⟩) len capn] 22)).alloc (.cells #[.slice adw len capw] 22)).heap.size) (KB w.heap.size (w.heap.size + 1 + 1)) (fun pre W => ((W.cell? ⟨w.heap.size, 0, none⟩ = some (.int .i64 (chgd c0 bs ns pre)) ∧ W.frozen? ⟨w.heap.size, 0, none⟩ = false) ∧ (W.cell? ⟨w.heap.size + 1, 0, none⟩ = some (.slice (some ⟨g, o, none⟩) len capn) ∧ W.frozen? ⟨w.heap.size + 1, 0, none⟩ = false)) ∧ Below w.heap.size w W) (fun _ _ _ => False) (pre ++ [x]) W .normal { tmps := #[], defers := [] } (W.drew.setCell ⟨w.heap.size, 0, none⟩ (.int .i64 C)) := by
      have k1 : KB w.heap.size (w.heap.size + 1 + 1) W W.drew := ⟨(Below.refl _ _).drew, rfl⟩
      refine ⟨((KeepsOthers.drew W).trans (KeepsOthers.setCell _ _ _)).from _, k1.trans (KB.set _ (Nat.le_refl _) (by omega) 0 _), ⟨⟨?_, by rw [World.frozen?_setCell]; exact hf⟩, ?_, by rw [World.frozen?_setCell]; exact hf2⟩, (hB.drew).setCell (p := ⟨w.heap.size, 0, none⟩) (Nat.le_refl _) _⟩
      · rw [HS.out]
        exact World.cell?_setCell_same' _ _ _ (by rw [show W.drew.cell? ⟨w.heap.size, 0, none⟩ = W.cell? ⟨w.heap.size, 0, none⟩ from rfl, hc]; rfl)
      · exact ((World.cell?_of_block (Below.heap_setCell W.drew ⟨w.heap.size, 0, none⟩ _ (w.heap.size + 1) (by simp))).trans hc2)
    gi_wp2
    have hSS : W.drew.cell? ⟨w.heap.size + 1, 0, none⟩ = some (.slice (some ⟨g, o, none⟩) len capn) := hc2
    refine wpIn_region_round (S := fun V => V.cell? ⟨w.heap.size + 1, 0, none⟩ = some (.slice (some ⟨g, o, none⟩) len capn)) hmx (by kernel_rfl) (fun ⟨_, _, h⟩ => h) hSS (fun hS => ?_)
    change wpAnyH _ _ _ _ _ 8 #[false, false, false, false, false, false, false, false] _ _
    refine wpAnyH_take (i := 1) (v := .int .i64 y) rfl (by kernel_rfl) (by kernel_rfl) (by kernel_rfl) (fun _ _ _ h => h) (.inl ⟨by kernel_rfl, fun _ _ => by kernel_rfl⟩) hS ?_
    simp only [List.getElem_toArray, List.getElem_cons_zero, List.getElem_cons_succ, Act.put, List.setIfInBounds_toArray, List.set_cons_zero, List.set_cons_succ]
    refine wpAnyH_take (i := 2) (v := .slice (some ⟨g, o, none⟩) len capn) rfl (by kernel_rfl) (by kernel_rfl) (by kernel_rfl) (fun _ _ _ h => h) (.inl ⟨by kernel_rfl, fun w' h => by unfold execOp; simp [go_sem, h]⟩) hS ?_
    simp only [List.getElem_toArray, List.getElem_cons_zero, List.getElem_cons_succ, Act.put, List.setIfInBounds_toArray, List.set_cons_zero, List.set_cons_succ]
    refine wpAnyH_take (i := 3) (v := .int .i64 p) rfl (by kernel_rfl) (by kernel_rfl) (by kernel_rfl) (fun _ _ _ h => h) (.inl ⟨by kernel_rfl, fun _ _ => by kernel_rfl⟩) hS ?_
    simp only [List.getElem_toArray, List.getElem_cons_zero, List.getElem_cons_succ, Act.put, List.setIfInBounds_toArray, List.set_cons_zero, List.set_cons_succ]
    refine wpAnyH_take (i := 4) (v := .slice (some ⟨g, o + p, none⟩) (len - p) (capn - p)) rfl (by kernel_rfl) (by kernel_rfl) (by kernel_rfl) (fun _ _ _ h => h) (.inl ⟨by kernel_rfl, fun w' _ => by unfold execOp; go_simp; rw [if_pos (by omega), if_neg (by omega)]⟩) hS ?_
    simp only [List.getElem_toArray, List.getElem_cons_zero, List.getElem_cons_succ, Act.put, List.setIfInBounds_toArray, List.set_cons_zero, List.set_cons_succ]
    refine wpAnyH_ready (rs := [0, 5]) (by kernel_rfl) (by simp) ?_
    refine AllReadyH.cons rfl (fun K' hK => ?_) (AllReadyH.cons rfl (fun K' hK => ?_) AllReadyH.nil)
    · refine r_run (.int .i64 T) W.drew (by unfold execOp; simp [go_sem, hc]) (by kernel_rfl) (hK.out _ _ hSS (fun hS => ?_))
      simp only [List.getElem_toArray, List.getElem_cons_zero, Act.put, List.setIfInBounds_toArray, List.set_cons_zero, List.set_cons_succ]
      refine wpAnyH_ready (rs := [5]) (by kernel_rfl) (by simp) ?_
      refine AllReadyH.cons rfl (fun K' hK => ?_) AllReadyH.nil
      refine r_call 23 #[.slice (some ⟨g, o + p, none⟩) (len - p) (capn - p)] (by kernel_rfl) (by kernel_rfl) (.int .i64 z) (HW.out _ (Below.refl _ _).drew) (fun w3 h3 => hK.out _ _ (h3 ▸ hSS) (fun hS => ?_))
      subst h3
      simp only [List.getElem_toArray, List.getElem_cons_zero, List.getElem_cons_succ, Act.put, List.setIfInBounds_toArray, List.set_cons_zero, List.set_cons_succ]
      refine wpAnyH_ready (rs := [6]) (by kernel_rfl) (by simp) ?_
      refine AllReadyH.cons rfl (fun K' hK => ?_) AllReadyH.nil
      refine r_call 15 #[.int .i64 T, .int .i64 y, .int .i64 z] (by kernel_rfl) (by kernel_rfl) (.int .i64 C) (HCh.out _) (fun w3 h3 => hK.out _ _ (h3 ▸ hSS) (fun hS => ?_))
      subst h3
      simp only [List.getElem_toArray, List.getElem_cons_zero, List.getElem_cons_succ, Act.put, List.setIfInBounds_toArray, List.set_cons_zero, List.set_cons_succ]
      refine wpAnyH_ready (rs := [7]) (by kernel_rfl) (by simp) ?_
      refine AllReadyH.cons rfl (fun K' hK => ?_) AllReadyH.nil
      refine r_skip (W.drew.setCell ⟨w.heap.size, 0, none⟩ (.int .i64 C)) (by unfold execOp; simp [go_sem, hc, hf]) (by kernel_rfl) (hK.out _ _ ((World.cell?_of_block (Below.heap_setCell W.drew ⟨w.heap.size, 0, none⟩ _ (w.heap.size + 1) (by simp))).trans hc2) (fun hS => ?_))
      simp only [List.getElem_toArray, List.getElem_cons_zero, List.getElem_cons_succ, Act.put, List.setIfInBounds_toArray, List.set_cons_zero, List.set_cons_succ]
      refine wpAnyH_done (by kernel_rfl) ?_ _
      exact F
    · refine r_call 23 #[.slice (some ⟨g, o + p, none⟩) (len - p) (capn - p)] (by kernel_rfl) (by kernel_rfl) (.int .i64 z) (HW.out _ (Below.refl _ _).drew) (fun w3 h3 => hK.out _ _ (h3 ▸ hSS) (fun hS => ?_))
      subst h3
      simp only [List.getElem_toArray, List.getElem_cons_zero, List.getElem_cons_succ, Act.put, List.setIfInBounds_toArray, List.set_cons_zero, List.set_cons_succ]
      refine wpAnyH_ready (rs := [0]) (by kernel_rfl) (by simp) ?_
      refine AllReadyH.cons rfl (fun K' hK => ?_) AllReadyH.nil
      refine r_run (.int .i64 T) W.drew (by unfold execOp; simp [go_sem, hc]) (by kernel_rfl) (hK.out _ _ hSS (fun hS => ?_))
      simp only [List.getElem_toArray, List.getElem_cons_zero, Act.put, List.setIfInBounds_toArray, List.set_cons_zero, List.set_cons_succ]
      refine wpAnyH_ready (rs := [6]) (by kernel_rfl) (by simp) ?_
      refine AllReadyH.cons rfl (fun K' hK => ?_) AllReadyH.nil
      refine r_call 15 #[.int .i64 T, .int .i64 y, .int .i64 z] (by kernel_rfl) (by kernel_rfl) (.int .i64 C) (HCh.out _) (fun w3 h3 => hK.out _ _ (h3 ▸ hSS) (fun hS => ?_))
      subst h3
      simp only [List.getElem_toArray, List.getElem_cons_zero, List.getElem_cons_succ, Act.put, List.setIfInBounds_toArray, List.set_cons_zero, List.set_cons_succ]
      refine wpAnyH_ready (rs := [7]) (by kernel_rfl) (by simp) ?_
      refine AllReadyH.cons rfl (fun K' hK => ?_) AllReadyH.nil
      refine r_skip (W.drew.setCell ⟨w.heap.size, 0, none⟩ (.int .i64 C)) (by unfold execOp; simp [go_sem, hc, hf]) (by kernel_rfl) (hK.out _ _ ((World.cell?_of_block (Below.heap_setCell W.drew ⟨w.heap.size, 0, none⟩ _ (w.heap.size + 1) (by simp))).trans hc2) (fun hS => ?_))
      simp only [List.getElem_toArray, List.getElem_cons_zero, List.getElem_cons_succ, Act.put, List.setIfInBounds_toArray, List.set_cons_zero, List.set_cons_succ]
      refine wpAnyH_done (by kernel_rfl) ?_ _
      exact F
  case done =>
    rintro D ys W hD hys ⟨⟨⟨hc, _⟩, _⟩, hB⟩ hK
    rw [chgd_all c0 bs ns ys hys, HL.out] at hc
    clear hys hIw hIn
    gi_wp2
    refine ⟨by simp, .inl ⟨_, _, rfl, run_takeDeferred hK, ?_⟩⟩
    exact ⟨_, results_tmp rfl _ _ _, rfl, hB.trans (belowK_b (w := w) (Nat.le_refl _) W D _ _ (by simp at hD; omega) hK rfl rfl)⟩
  case stop =>
    rintro D c pre W _ _ h _
    exact h.elim
end Go.Proofs.Ytnlhdeffoalhiaa
