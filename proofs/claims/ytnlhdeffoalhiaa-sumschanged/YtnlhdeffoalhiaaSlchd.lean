/-
  The law SumsChanged at every input.
-/
import Derived.Test.YtnlhdeffoalhiaaSch
import Derived.Test.YtnlhdeffoalhiaaSrch
import Derived.Test.YtnlhdeffoalhiaaSapp
import Derived.Deep.Cut
namespace Go.Proofs.Ytnlhdeffoalhiaa
open Go.RowKit Go.Lib

theorem own_block {w : World} {base : Nat} {v : Value} {n : Nat} {xs : List Value} (h : w.ownsRow base 5 1 v n xs) : ∀ k, v.ownBlock = some k → base ≤ k := fun k e => by
  rcases h.2 with ⟨rfl, _⟩ | ⟨g, cap, cur, rfl, hb, _⟩
  · cases e
  · cases e
    exact hb
theorem pairs_now (xs ns : List Int) (c : Nat) : pairs xs ns c = pairs xs (stood ns 0 (2 * c)) c := by
  unfold pairs
  refine List.map_congr_left fun j hj => ?_
  have := List.mem_range.1 hj
  simp only [wordAt]
  rw [stood_at (by omega), stood_at (by omega), Nat.zero_add, Nat.zero_add]

theorem at_eq (x : Int) (len : Nat) (h : len ≤ 500) : ∃ a : Nat, 2 * a ≤ len ∧ wrap64 (wrap64 ((wrap64 ((IntKind.u64.wrap x).tmod ((len : Int) + 1))).tdiv 2) * 2) = ((2 * a : Nat) : Int) := by
  rw [show IntKind.u64.wrap x = x % 18446744073709551616 by simp [IntKind.wrap, IntKind.bits, IntKind.signed], Int.tmod_eq_emod_of_nonneg (by omega)]
  have h0 := Int.emod_nonneg (x % 18446744073709551616) (show (len : Int) + 1 ≠ 0 by omega)
  have h1 := Int.emod_lt_of_pos (x % 18446744073709551616) (show 0 < (len : Int) + 1 by omega)
  generalize x % 18446744073709551616 % ((len : Int) + 1) = q at *
  rw [show wrap64 q = q by unfold wrap64; omega, Int.tdiv_eq_ediv_of_nonneg h0]
  refine ⟨(q / 2).toNat, by omega, ?_⟩
  unfold wrap64
  omega

set_option maxRecDepth 100000 in
set_option maxHeartbeats 4000000 in
theorem lchanged_short (at' : Int) (adb adn : Option Addr) (capb capn : Nat) (bs ns : List Int) (hbs : Byt bs) (hns : Byt ns) (hcb : bs.length ≤ capb) (hcn : ns.length ≤ capn) (hmb : bs.length ≤ 500) (hmn : ns.length ≤ 500) (w : World) (hIb : Bys w.heap.size w adb bs) (hIn : Bys w.heap.size w adn ns) (hn1 : adb = none → bs.length = 0 ∧ capb = 0) (hn2 : adn = none → ns.length = 0 ∧ capn = 0) :
    Calls Try.prog 5 #[.slice adb bs.length capb, .slice adn ns.length capn, .int .i64 at'] w fun e w' => e = .returned (.bool true) ∧ Below w.heap.size w w' := by
  have HA := hid alive_any
  obtain ⟨len, hlen⟩ : ∃ len, bs.length = len := ⟨_, rfl⟩
  obtain ⟨m, hlm⟩ : ∃ m, ns.length = m := ⟨_, rfl⟩
  rw [hlen] at hcb hmb hn1 ⊢
  rw [hlm] at hcn hmn hn2 ⊢
  go_enter Try.func5, Try.ntmps5
  go_wp2_with fail
  refine (HA.out _).mono ?_
  rintro e w1 ⟨rfl, hb⟩
  have Hb := hid hb
  have H1 := hid hn1
  have H2 := hid hn2
  have H3 := hid hlen
  have H4 := hid hlm
  have HIb := hid hIb
  have HIn := hid hIn
  clear hb hn1 hn2 hlen hlm hIb hIn
  go_upto_region 6 with fail
  obtain ⟨a, ha, e⟩ := at_eq at' len hmb
  rw [e]
  clear e
  obtain ⟨p, hp⟩ : ∃ p, 2 * a = p := ⟨_, rfl⟩
  rw [hp] at ha ⊢
  have HPA := hid hp
  clear hp
  by_cases hc : (len : Int) - (p : Int) < (m : Int)
  all_goals go_upto_region 10 with fail
  · obtain ⟨n, e, k1, k2, k3⟩ : ∃ n : Nat, ((len : Int) - (p : Int)) / 2 * 2 = n ∧ n ≤ m ∧ p + n ≤ len ∧ ∃ c, 2 * c = n := ⟨2 * ((len - p) / 2), by omega, by omega, by omega, _, rfl⟩
    rw [e]
    have K3 := hid k3
    clear e hc k3
    go_upto_region 11 with fail
    obtain ⟨adw, hadw⟩ : ∃ adw, cutA adb capb p = adw := ⟨_, rfl⟩
    rw [show (if capb = p then adb else Option.map (fun x => x.add p) adb) = adw from hadw, show p + n - p = n by omega]
    have HADW := hid hadw
    clear hadw
    refine wp_region_held_drew (S := fun _ => True) (by kernel_rfl) trivial (fun _ => ?_)
    change wpAnyH _ _ _ _ _ 16 #[false, false, false, false, false, false, false, false, false, false, false, false, false, false, false, false] _ _
    refine wpAnyH_take (i := 1) (v := .slice adb len capb) rfl (by kernel_rfl) (by kernel_rfl) (by kernel_rfl) (fun _ _ _ h => h) (.inl ⟨by kernel_rfl, fun _ _ => by kernel_rfl⟩) trivial ?_
    simp only [List.getElem_toArray, List.getElem_cons_zero, List.getElem_cons_succ, Act.put, List.setIfInBounds_toArray, List.set_cons_zero, List.set_cons_succ]
    refine wpAnyH_take (i := 2) (v := .int .i64 p) rfl (by kernel_rfl) (by kernel_rfl) (by kernel_rfl) (fun _ _ _ h => h) (.inl ⟨by kernel_rfl, fun _ _ => by kernel_rfl⟩) trivial ?_
    simp only [List.getElem_toArray, List.getElem_cons_zero, List.getElem_cons_succ, Act.put, List.setIfInBounds_toArray, List.set_cons_zero, List.set_cons_succ]
    refine wpAnyH_take (i := 3) (v := .slice adb p capb) rfl (by kernel_rfl) (by kernel_rfl) (by kernel_rfl) (fun _ _ _ h => h) (.inl ⟨by kernel_rfl, fun _ _ => exec_cutH (.tmp 53) (.tmp 54) rfl adb len capb p (by kernel_rfl) (by kernel_rfl) (by omega)⟩) trivial ?_
    simp only [List.getElem_toArray, List.getElem_cons_zero, List.getElem_cons_succ, Act.put, List.setIfInBounds_toArray, List.set_cons_zero, List.set_cons_succ]
    refine wpAnyH_take (i := 5) (v := .slice adn m capn) rfl (by kernel_rfl) (by kernel_rfl) (by kernel_rfl) (fun _ _ _ h => h) (.inl ⟨by kernel_rfl, fun _ _ => by kernel_rfl⟩) trivial ?_
    simp only [List.getElem_toArray, List.getElem_cons_zero, List.getElem_cons_succ, Act.put, List.setIfInBounds_toArray, List.set_cons_zero, List.set_cons_succ]
    refine wpAnyH_take (i := 6) (v := .int .i64 n) rfl (by kernel_rfl) (by kernel_rfl) (by kernel_rfl) (fun _ _ _ h => h) (.inl ⟨by kernel_rfl, fun _ _ => by kernel_rfl⟩) trivial ?_
    simp only [List.getElem_toArray, List.getElem_cons_zero, List.getElem_cons_succ, Act.put, List.setIfInBounds_toArray, List.set_cons_zero, List.set_cons_succ]
    refine wpAnyH_take (i := 7) (v := .slice adn n capn) rfl (by kernel_rfl) (by kernel_rfl) (by kernel_rfl) (fun _ _ _ h => h) (.inl ⟨by kernel_rfl, fun _ _ => exec_cutH (.tmp 57) (.tmp 58) rfl adn m capn n (by kernel_rfl) (by kernel_rfl) (by omega)⟩) trivial ?_
    simp only [List.getElem_toArray, List.getElem_cons_zero, List.getElem_cons_succ, Act.put, List.setIfInBounds_toArray, List.set_cons_zero, List.set_cons_succ]
    refine wpAnyH_take (i := 9) (v := .slice adb len capb) rfl (by kernel_rfl) (by kernel_rfl) (by kernel_rfl) (fun _ _ _ h => h) (.inl ⟨by kernel_rfl, fun _ _ => by kernel_rfl⟩) trivial ?_
    simp only [List.getElem_toArray, List.getElem_cons_zero, List.getElem_cons_succ, Act.put, List.setIfInBounds_toArray, List.set_cons_zero, List.set_cons_succ]
    refine wpAnyH_take (i := 10) (v := .int .i64 p) rfl (by kernel_rfl) (by kernel_rfl) (by kernel_rfl) (fun _ _ _ h => h) (.inl ⟨by kernel_rfl, fun _ _ => by kernel_rfl⟩) trivial ?_
    simp only [List.getElem_toArray, List.getElem_cons_zero, List.getElem_cons_succ, Act.put, List.setIfInBounds_toArray, List.set_cons_zero, List.set_cons_succ]
    refine wpAnyH_take (i := 11) (v := .int .i64 n) rfl (by kernel_rfl) (by kernel_rfl) (by kernel_rfl) (fun _ _ _ h => h) (.inl ⟨by kernel_rfl, fun _ _ => by kernel_rfl⟩) trivial ?_
    simp only [List.getElem_toArray, List.getElem_cons_zero, List.getElem_cons_succ, Act.put, List.setIfInBounds_toArray, List.set_cons_zero, List.set_cons_succ]
    refine wpAnyH_take (i := 12) (v := .int .i64 ((p + n : Nat) : Int)) rfl (by kernel_rfl) (by kernel_rfl) (by kernel_rfl) (fun _ _ _ h => h) (.inl ⟨by kernel_rfl, fun _ _ => exec_addN _ _ (.tmp 62) (.tmp 63) rfl p n (by kernel_rfl) (by kernel_rfl) (by omega)⟩) trivial ?_
    simp only [List.getElem_toArray, List.getElem_cons_zero, List.getElem_cons_succ, Act.put, List.setIfInBounds_toArray, List.set_cons_zero, List.set_cons_succ]
    refine wpAnyH_take (i := 13) (v := .slice (cutA adb capb (p + n)) (len - (p + n)) (capb - (p + n))) rfl (by kernel_rfl) (by kernel_rfl) (by kernel_rfl) (fun _ _ _ h => h) (.inl ⟨by kernel_rfl, fun _ _ => exec_cutL (.tmp 61) (.tmp 64) rfl adb len capb (p + n) (by kernel_rfl) (by kernel_rfl) (by omega)⟩) trivial ?_
    simp only [List.getElem_toArray, List.getElem_cons_zero, List.getElem_cons_succ, Act.put, List.setIfInBounds_toArray, List.set_cons_zero, List.set_cons_succ]
    refine wpAnyH_ready (rs := [0]) (by kernel_rfl) (by simp) ?_
    refine AllReadyH.cons rfl (fun K' hK => ?_) AllReadyH.nil
    refine r_run (.slice (some ⟨w1.heap.size, 0, none⟩) 0 0) (w1.drew.alloc (.cells #[] 5)) (exec_lit0 rfl) (by kernel_rfl) (hK.out _ _ trivial (fun _ => ?_))
    simp only [List.getElem_toArray, List.getElem_cons_zero, Act.put, List.setIfInBounds_toArray, List.set_cons_zero, List.set_cons_succ]
    obtain ⟨W1, hW1⟩ : ∃ W1, w1.drew.alloc (.cells #[] 5) = W1 := ⟨_, rfl⟩
    have hb1 : Below w.heap.size w W1 := by rw [← hW1]; exact (Hb.out.drew).alloc Hb.out.size _
    have hw1 : w.heap.size ≤ w1.heap.size := Hb.out.size
    have ho1 : W1.ownsRow w.heap.size 5 1 (.slice (some ⟨w1.heap.size, 0, none⟩) 0 0) 0 [] := by rw [← hW1]; exact World.ownsRow_lit w1.drew #[] 0 hw1 (by decide) rfl
    rw [hW1]
    clear hW1
    refine wpAnyH_ready (rs := [4]) (by kernel_rfl) (by simp) ?_
    refine AllReadyH.cons rfl (fun K' hK => ?_) AllReadyH.nil
    refine r_app (.tmp 52) (.tmp 55) rfl w.heap.size _ 0 [] (by kernel_rfl) ho1 adb p capb (stood bs 0 p) (by kernel_rfl) (stood_length (by have := H3.out; omega)) w.heap.size (bys_take (HIb.out.below hb1) p (by have := H3.out; omega)) (fun h => by have := H1.out h; omega) (by omega) hb1.size (by kernel_rfl) (fun v2 W2 ho2 hg2 => hK.out _ _ trivial (fun _ => ?_))
    simp only [List.getElem_toArray, List.getElem_cons_zero, List.getElem_cons_succ, Act.put, List.setIfInBounds_toArray, List.set_cons_zero, List.set_cons_succ]
    have hb2 : Below w.heap.size w W2 := hb1.grown hg2 hb1.size (fun k e => by cases e; exact hw1)
    rw [Nat.zero_add, List.nil_append] at ho2
    refine wpAnyH_ready (rs := [8]) (by kernel_rfl) (by simp) ?_
    refine AllReadyH.cons rfl (fun K' hK => ?_) AllReadyH.nil
    refine r_app (.tmp 56) (.tmp 59) rfl w.heap.size v2 p _ (by kernel_rfl) ho2 adn n capn (stood ns 0 n) (by kernel_rfl) (stood_length (by have := H4.out; omega)) w.heap.size (bys_take (HIn.out.below hb2) n (by have := H4.out; omega)) (fun h => by have := H2.out h; omega) (by omega) hb2.size (by kernel_rfl) (fun v3 W3 ho3 hg3 => hK.out _ _ trivial (fun _ => ?_))
    simp only [List.getElem_toArray, List.getElem_cons_zero, List.getElem_cons_succ, Act.put, List.setIfInBounds_toArray, List.set_cons_zero, List.set_cons_succ]
    have hb3 : Below w.heap.size w W3 := hb2.grown hg3 hb2.size (own_block ho2)
    rw [← List.map_append] at ho3
    have hq := bys_cut (cap := capb) (HIb.out.below hb3) (by have := H3.out; omega) (fun h => by have := H1.out h; have := H3.out; omega) (p + n) (len - (p + n)) (by have := H3.out; omega)
    refine wpAnyH_ready (rs := [14]) (by kernel_rfl) (by simp) ?_
    refine AllReadyH.cons rfl (fun K' hK => ?_) AllReadyH.nil
    refine r_app (.tmp 60) (.tmp 65) rfl w.heap.size v3 (p + n) _ (by kernel_rfl) ho3 (cutA adb capb (p + n)) (len - (p + n)) (capb - (p + n)) (stood bs (p + n) (len - (p + n))) (by kernel_rfl) (stood_length (by have := H3.out; omega)) w.heap.size hq.1 hq.2 (by omega) hb3.size (by kernel_rfl) (fun v4 W4 ho4 hg4 => hK.out _ _ trivial (fun _ => ?_))
    simp only [List.getElem_toArray, List.getElem_cons_zero, List.getElem_cons_succ, Act.put, List.setIfInBounds_toArray, List.set_cons_zero, List.set_cons_succ]
    have hb4 : Below w.heap.size w W4 := hb3.grown hg4 hb3.size (own_block ho3)
    rw [← List.map_append, ← H3.out, put_eq, H3.out, show p + n + (len - (p + n)) = len by omega] at ho4
    obtain ⟨hpl, adx, capx, e4, hcx, hIx⟩ := own_bys ho4
    subst e4
    have HPL := hid hpl
    have HIx := hid hIx
    have Hb4 := hid hb4
    clear ho1 ho2 ho3 ho4 hg2 hg3 hg4 hb1 hb2 hb3 hb4 hq hpl hIx
    refine wpAnyH_take (i := 15) (v := .slice adx len capx) rfl (by kernel_rfl) (by kernel_rfl) (by kernel_rfl) (fun _ _ _ h => h) (.inl ⟨by kernel_rfl, fun _ _ => by kernel_rfl⟩) trivial ?_
    simp only [List.getElem_toArray, List.getElem_cons_zero, List.getElem_cons_succ, Act.put, List.setIfInBounds_toArray, List.set_cons_zero, List.set_cons_succ]
    refine wpAnyH_done (by kernel_rfl) ?_ _
    have HC1 := hid (fun V (h : Below w.heap.size w V) => scheck_any adb capb bs hbs (by have := H3.out; omega) (by have := H3.out; omega) V ((HIb.out.below h).mono h.size))
    have HR1 := hid (fun V (h : Below w.heap.size w V) => rcheck_any adb capb bs hbs (by have := H3.out; omega) V ((HIb.out.below h).mono h.size))
    have hbw := bys_cut (cap := capb) HIb.out (by have := H3.out; omega) (fun h => by have := H1.out h; have := H3.out; omega) p n (by have := H3.out; omega)
    have hbt := bys_take HIn.out n (by have := H4.out; omega)
    rw [HADW.out] at hbw
    have hlw := stood_length (bs := bs) (p := p) (n := n) (by have := H3.out; omega)
    have hlt := stood_length (bs := ns) (p := 0) (n := n) (by have := H4.out; omega)
    have HC2 := hid (fun V (h : Below w.heap.size w V) => schanged_any (check bs) (capb - p) capn adw adn (stood bs p n) (stood ns 0 n) (stood_byt hbs p n) (stood_byt hns 0 n) (by omega) (by omega) (by omega) (by omega) V ((hbw.1.below h).mono h.size) ((hbt.below h).mono h.size))
    have HR2 := hid (fun V (h : Below w.heap.size w V) => rchanged_any (check bs) (check_range bs) (capb - p) capn adw adn (stood bs p n) (stood ns 0 n) (stood_byt hbs p n) (stood_byt hns 0 n) (by omega) (by omega) V ((hbw.1.below h).mono h.size) ((hbt.below h).mono h.size))
    have HC3 := hid (fun V (h : Below W4.heap.size W4 V) => scheck_any adx capx (put bs ns p n) (put_byt (by have := H3.out; omega) (by have := H4.out; omega) hbs hns) (by have := HPL.out; omega) (by have := HPL.out; omega) V ((HIx.out.below h).mono h.size))
    have HSA : Hid (same (changes (check bs) (pairs (stood bs p n) (stood ns 0 n) (nw n))) (check (put bs ns p n)) = true) := hid (by
      obtain ⟨c, rfl⟩ := K3.out
      have := changed_same (bs := bs) (now := ns) (a := a) (m := c) (by have := H3.out; have := HPA.out; omega) (by have := H4.out; omega) hbs hns
      rw [HPA.out, pairs_now] at this
      rw [show nw (2 * c) = c by unfold nw; omega]
      exact this)
    rw [HPL.out] at HC3
    rw [H3.out] at HC1 HR1
    rw [hlw, hlt] at HC2 HR2
    have HS := hid (ssame_any (changes (check bs) (pairs (stood bs p n) (stood ns 0 n) (nw n))) (check (put bs ns p n)))
    rw [HSA.out] at HS
    clear hbw hbt hlw hlt HSA HIx HPL
    generalize changes (check bs) (pairs (stood bs p n) (stood ns 0 n) (nw n)) = kk at *
    generalize check (put bs ns p n) = cx at *
    generalize check bs = cb at *
    go_upto_region 12 with fail
    refine wp_region_held_drew (S := fun _ => True) (by kernel_rfl) trivial (fun _ => ?_)
    change wpAnyH _ _ _ _ _ 8 #[false, false, false, false, false, false, false, false] _ _
    refine wpAnyH_take (i := 0) (v := .slice adb len capb) rfl (by kernel_rfl) (by kernel_rfl) (by kernel_rfl) (fun _ _ _ h => h) (.inl ⟨by kernel_rfl, fun _ _ => by kernel_rfl⟩) trivial ?_
    simp only [List.getElem_toArray, List.getElem_cons_zero, Act.put, List.setIfInBounds_toArray, List.set_cons_zero, List.set_cons_succ]
    refine wpAnyH_take (i := 2) (v := .slice adw n (capb - p)) rfl (by kernel_rfl) (by kernel_rfl) (by kernel_rfl) (fun _ _ _ h => h) (.inl ⟨by kernel_rfl, fun _ _ => by kernel_rfl⟩) trivial ?_
    simp only [List.getElem_toArray, List.getElem_cons_zero, List.getElem_cons_succ, Act.put, List.setIfInBounds_toArray, List.set_cons_zero, List.set_cons_succ]
    refine wpAnyH_take (i := 3) (v := .slice adn m capn) rfl (by kernel_rfl) (by kernel_rfl) (by kernel_rfl) (fun _ _ _ h => h) (.inl ⟨by kernel_rfl, fun _ _ => by kernel_rfl⟩) trivial ?_
    simp only [List.getElem_toArray, List.getElem_cons_zero, List.getElem_cons_succ, Act.put, List.setIfInBounds_toArray, List.set_cons_zero, List.set_cons_succ]
    refine wpAnyH_take (i := 4) (v := .int .i64 n) rfl (by kernel_rfl) (by kernel_rfl) (by kernel_rfl) (fun _ _ _ h => h) (.inl ⟨by kernel_rfl, fun _ _ => by kernel_rfl⟩) trivial ?_
    simp only [List.getElem_toArray, List.getElem_cons_zero, List.getElem_cons_succ, Act.put, List.setIfInBounds_toArray, List.set_cons_zero, List.set_cons_succ]
    refine wpAnyH_take (i := 5) (v := .slice adn n capn) rfl (by kernel_rfl) (by kernel_rfl) (by kernel_rfl) (fun _ _ _ h => h) (.inl ⟨by kernel_rfl, fun _ _ => exec_cutH (.tmp 70) (.tmp 71) rfl adn m capn n (by kernel_rfl) (by kernel_rfl) (by omega)⟩) trivial ?_
    simp only [List.getElem_toArray, List.getElem_cons_zero, List.getElem_cons_succ, Act.put, List.setIfInBounds_toArray, List.set_cons_zero, List.set_cons_succ]
    refine wpAnyH_ready (rs := [1]) (by kernel_rfl) (by simp) ?_
    refine AllReadyH.cons rfl (fun K' hK => ?_) AllReadyH.nil
    refine r_call 8 #[.slice adb len capb] (by kernel_rfl) (by kernel_rfl) (.int .i64 cb) (HC1.out _ Hb4.out.drew) (fun W5 h5 => hK.out _ _ trivial (fun _ => ?_))
    simp only [List.getElem_toArray, List.getElem_cons_zero, List.getElem_cons_succ, Act.put, List.setIfInBounds_toArray, List.set_cons_zero, List.set_cons_succ]
    have Hb5 := hid (Hb4.out.drew.trans (h5.mono Hb4.out.drew.size))
    have Hx5 := hid (((Below.refl W4.heap.size W4).drew).trans (h5.mono (Nat.le_refl _)))
    clear h5
    refine wpAnyH_ready (rs := [6]) (by kernel_rfl) (by simp) ?_
    refine AllReadyH.cons rfl (fun K' hK => ?_) AllReadyH.nil
    refine r_call 19 #[.int .i64 cb, .slice adw n (capb - p), .slice adn n capn] (by kernel_rfl) (by kernel_rfl) (.int .i64 kk) (HC2.out _ Hb5.out) (fun W6 h6 => hK.out _ _ trivial (fun _ => ?_))
    simp only [List.getElem_toArray, List.getElem_cons_zero, List.getElem_cons_succ, Act.put, List.setIfInBounds_toArray, List.set_cons_zero, List.set_cons_succ]
    have Hb6 := hid (Hb5.out.trans (h6.mono Hb5.out.size))
    have Hx6 := hid (Hx5.out.trans (h6.mono Hx5.out.size))
    clear h6
    refine wpAnyH_take (i := 7) (v := .int .i64 kk) rfl (by kernel_rfl) (by kernel_rfl) (by kernel_rfl) (fun _ _ _ h => h) (.inl ⟨by kernel_rfl, fun _ _ => by kernel_rfl⟩) trivial ?_
    simp only [List.getElem_toArray, List.getElem_cons_zero, List.getElem_cons_succ, Act.put, List.setIfInBounds_toArray, List.set_cons_zero, List.set_cons_succ]
    refine wpAnyH_done (by kernel_rfl) ?_ _
    go_upto_region 13 with fail
    refine wp_region_held_drew (S := fun _ => True) (by kernel_rfl) trivial (fun _ => ?_)
    change wpAnyH _ _ _ _ _ 16 #[false, false, false, false, false, false, false, false, false, false, false, false, false, false, false, false] _ _
    refine wpAnyH_take (i := 0) (v := .int .i64 kk) rfl (by kernel_rfl) (by kernel_rfl) (by kernel_rfl) (fun _ _ _ h => h) (.inl ⟨by kernel_rfl, fun _ _ => by kernel_rfl⟩) trivial ?_
    simp only [List.getElem_toArray, List.getElem_cons_zero, Act.put, List.setIfInBounds_toArray, List.set_cons_zero, List.set_cons_succ]
    refine wpAnyH_take (i := 1) (v := .slice adb len capb) rfl (by kernel_rfl) (by kernel_rfl) (by kernel_rfl) (fun _ _ _ h => h) (.inl ⟨by kernel_rfl, fun _ _ => by kernel_rfl⟩) trivial ?_
    simp only [List.getElem_toArray, List.getElem_cons_zero, List.getElem_cons_succ, Act.put, List.setIfInBounds_toArray, List.set_cons_zero, List.set_cons_succ]
    refine wpAnyH_take (i := 3) (v := .slice adw n (capb - p)) rfl (by kernel_rfl) (by kernel_rfl) (by kernel_rfl) (fun _ _ _ h => h) (.inl ⟨by kernel_rfl, fun _ _ => by kernel_rfl⟩) trivial ?_
    simp only [List.getElem_toArray, List.getElem_cons_zero, List.getElem_cons_succ, Act.put, List.setIfInBounds_toArray, List.set_cons_zero, List.set_cons_succ]
    refine wpAnyH_take (i := 4) (v := .slice adn m capn) rfl (by kernel_rfl) (by kernel_rfl) (by kernel_rfl) (fun _ _ _ h => h) (.inl ⟨by kernel_rfl, fun _ _ => by kernel_rfl⟩) trivial ?_
    simp only [List.getElem_toArray, List.getElem_cons_zero, List.getElem_cons_succ, Act.put, List.setIfInBounds_toArray, List.set_cons_zero, List.set_cons_succ]
    refine wpAnyH_take (i := 5) (v := .int .i64 n) rfl (by kernel_rfl) (by kernel_rfl) (by kernel_rfl) (fun _ _ _ h => h) (.inl ⟨by kernel_rfl, fun _ _ => by kernel_rfl⟩) trivial ?_
    simp only [List.getElem_toArray, List.getElem_cons_zero, List.getElem_cons_succ, Act.put, List.setIfInBounds_toArray, List.set_cons_zero, List.set_cons_succ]
    refine wpAnyH_take (i := 6) (v := .slice adn n capn) rfl (by kernel_rfl) (by kernel_rfl) (by kernel_rfl) (fun _ _ _ h => h) (.inl ⟨by kernel_rfl, fun _ _ => exec_cutH (.tmp 78) (.tmp 79) rfl adn m capn n (by kernel_rfl) (by kernel_rfl) (by omega)⟩) trivial ?_
    simp only [List.getElem_toArray, List.getElem_cons_zero, List.getElem_cons_succ, Act.put, List.setIfInBounds_toArray, List.set_cons_zero, List.set_cons_succ]
    refine wpAnyH_ready (rs := [2]) (by kernel_rfl) (by simp) ?_
    refine AllReadyH.cons rfl (fun K' hK => ?_) AllReadyH.nil
    refine r_call 9 #[.slice adb len capb] (by kernel_rfl) (by kernel_rfl) (.int .i64 cb) (HR1.out _ Hb6.out.drew) (fun W7 h7 => hK.out _ _ trivial (fun _ => ?_))
    simp only [List.getElem_toArray, List.getElem_cons_zero, List.getElem_cons_succ, Act.put, List.setIfInBounds_toArray, List.set_cons_zero, List.set_cons_succ]
    subst h7
    refine wpAnyH_ready (rs := [7]) (by kernel_rfl) (by simp) ?_
    refine AllReadyH.cons rfl (fun K' hK => ?_) AllReadyH.nil
    refine r_call 20 #[.int .i64 cb, .slice adw n (capb - p), .slice adn n capn] (by kernel_rfl) (by kernel_rfl) (.int .i64 kk) (HR2.out _ Hb6.out.drew) (fun W8 h8 => hK.out _ _ trivial (fun _ => ?_))
    simp only [List.getElem_toArray, List.getElem_cons_zero, List.getElem_cons_succ, Act.put, List.setIfInBounds_toArray, List.set_cons_zero, List.set_cons_succ]
    subst h8
    refine wpAnyH_take (i := 8) (v := .bool true) rfl (by kernel_rfl) (by kernel_rfl) (by kernel_rfl) (fun _ _ _ h => h) (.inl ⟨by kernel_rfl, fun _ _ => exec_eqlI _ _ (.tmp 74) (.tmp 81) rfl kk (by kernel_rfl) (by kernel_rfl)⟩) trivial ?_
    simp only [List.getElem_toArray, List.getElem_cons_zero, List.getElem_cons_succ, Act.put, List.setIfInBounds_toArray, List.set_cons_zero, List.set_cons_succ]
    refine wpAnyH_take (i := 9) (v := .bool true) rfl (by kernel_rfl) (by kernel_rfl) (by kernel_rfl) (fun _ _ _ h => h) (.inl ⟨by kernel_rfl, fun _ _ => by kernel_rfl⟩) trivial ?_
    simp only [List.getElem_toArray, List.getElem_cons_zero, List.getElem_cons_succ, Act.put, List.setIfInBounds_toArray, List.set_cons_zero, List.set_cons_succ]
    refine wpAnyH_take (i := 10) (v := .int .i64 kk) rfl (by kernel_rfl) (by kernel_rfl) (by kernel_rfl) (fun _ _ _ h => h) (.inl ⟨by kernel_rfl, fun _ _ => by kernel_rfl⟩) trivial ?_
    simp only [List.getElem_toArray, List.getElem_cons_zero, List.getElem_cons_succ, Act.put, List.setIfInBounds_toArray, List.set_cons_zero, List.set_cons_succ]
    refine wpAnyH_take (i := 11) (v := .slice adx len capx) rfl (by kernel_rfl) (by kernel_rfl) (by kernel_rfl) (fun _ _ _ h => h) (.inl ⟨by kernel_rfl, fun _ _ => by kernel_rfl⟩) trivial ?_
    simp only [List.getElem_toArray, List.getElem_cons_zero, List.getElem_cons_succ, Act.put, List.setIfInBounds_toArray, List.set_cons_zero, List.set_cons_succ]
    refine wpAnyH_ready (rs := [12]) (by kernel_rfl) (by simp) ?_
    refine AllReadyH.cons rfl (fun K' hK => ?_) AllReadyH.nil
    rw [if_pos (by kernel_rfl)]
    refine o_call 8 #[.slice adx len capx] (by kernel_rfl) (.int .i64 cx) (HC3.out _ Hx6.out.drew) (fun W9 h9 => hK.out _ _ trivial (fun _ => ?_))
    simp only [List.getElem_toArray, List.getElem_cons_zero, List.getElem_cons_succ, Act.put, List.setIfInBounds_toArray, List.set_cons_zero, List.set_cons_succ]
    have Hb9 := hid (Hb6.out.drew.trans (h9.mono Hb6.out.drew.size))
    clear h9
    refine wpAnyH_ready (rs := [13]) (by kernel_rfl) (by simp) ?_
    refine AllReadyH.cons rfl (fun K' hK => ?_) AllReadyH.nil
    rw [if_pos (by kernel_rfl)]
    refine o_call 17 #[.int .i64 kk, .int .i64 cx] (by kernel_rfl) (.bool true) (HS.out _) (fun W10 h10 => hK.out _ _ trivial (fun _ => ?_))
    simp only [List.getElem_toArray, List.getElem_cons_zero, List.getElem_cons_succ, Act.put, List.setIfInBounds_toArray, List.set_cons_zero, List.set_cons_succ]
    subst h10
    refine wpAnyH_take (i := 14) (v := .bool true) rfl (by kernel_rfl) (by kernel_rfl) (by kernel_rfl) (fun _ _ _ h => h) (.inl ⟨by kernel_rfl, fun _ _ => by kernel_rfl⟩) trivial ?_
    simp only [List.getElem_toArray, List.getElem_cons_zero, List.getElem_cons_succ, Act.put, List.setIfInBounds_toArray, List.set_cons_zero, List.set_cons_succ]
    refine wpAnyH_take (i := 15) (v := .bool true) rfl (by kernel_rfl) (by kernel_rfl) (by kernel_rfl) (fun _ _ _ h => h) (.inl ⟨by kernel_rfl, fun _ _ => by kernel_rfl⟩) trivial ?_
    simp only [List.getElem_toArray, List.getElem_cons_zero, List.getElem_cons_succ, Act.put, List.setIfInBounds_toArray, List.set_cons_zero, List.set_cons_succ]
    refine wpAnyH_done (by kernel_rfl) ?_ _
    go_wp2
    go_ret
    exact ⟨rfl, Hb9.out⟩
  · obtain ⟨n, e, k1, k2, k3⟩ : ∃ n : Nat, (m : Int) / 2 * 2 = n ∧ n ≤ m ∧ p + n ≤ len ∧ ∃ c, 2 * c = n := ⟨2 * (m / 2), by omega, by omega, by omega, _, rfl⟩
    rw [e]
    have K3 := hid k3
    clear e hc k3
    go_upto_region 11 with fail
    obtain ⟨adw, hadw⟩ : ∃ adw, cutA adb capb p = adw := ⟨_, rfl⟩
    rw [show (if capb = p then adb else Option.map (fun x => x.add p) adb) = adw from hadw, show p + n - p = n by omega]
    have HADW := hid hadw
    clear hadw
    refine wp_region_held_drew (S := fun _ => True) (by kernel_rfl) trivial (fun _ => ?_)
    change wpAnyH _ _ _ _ _ 16 #[false, false, false, false, false, false, false, false, false, false, false, false, false, false, false, false] _ _
    refine wpAnyH_take (i := 1) (v := .slice adb len capb) rfl (by kernel_rfl) (by kernel_rfl) (by kernel_rfl) (fun _ _ _ h => h) (.inl ⟨by kernel_rfl, fun _ _ => by kernel_rfl⟩) trivial ?_
    simp only [List.getElem_toArray, List.getElem_cons_zero, List.getElem_cons_succ, Act.put, List.setIfInBounds_toArray, List.set_cons_zero, List.set_cons_succ]
    refine wpAnyH_take (i := 2) (v := .int .i64 p) rfl (by kernel_rfl) (by kernel_rfl) (by kernel_rfl) (fun _ _ _ h => h) (.inl ⟨by kernel_rfl, fun _ _ => by kernel_rfl⟩) trivial ?_
    simp only [List.getElem_toArray, List.getElem_cons_zero, List.getElem_cons_succ, Act.put, List.setIfInBounds_toArray, List.set_cons_zero, List.set_cons_succ]
    refine wpAnyH_take (i := 3) (v := .slice adb p capb) rfl (by kernel_rfl) (by kernel_rfl) (by kernel_rfl) (fun _ _ _ h => h) (.inl ⟨by kernel_rfl, fun _ _ => exec_cutH (.tmp 53) (.tmp 54) rfl adb len capb p (by kernel_rfl) (by kernel_rfl) (by omega)⟩) trivial ?_
    simp only [List.getElem_toArray, List.getElem_cons_zero, List.getElem_cons_succ, Act.put, List.setIfInBounds_toArray, List.set_cons_zero, List.set_cons_succ]
    refine wpAnyH_take (i := 5) (v := .slice adn m capn) rfl (by kernel_rfl) (by kernel_rfl) (by kernel_rfl) (fun _ _ _ h => h) (.inl ⟨by kernel_rfl, fun _ _ => by kernel_rfl⟩) trivial ?_
    simp only [List.getElem_toArray, List.getElem_cons_zero, List.getElem_cons_succ, Act.put, List.setIfInBounds_toArray, List.set_cons_zero, List.set_cons_succ]
    refine wpAnyH_take (i := 6) (v := .int .i64 n) rfl (by kernel_rfl) (by kernel_rfl) (by kernel_rfl) (fun _ _ _ h => h) (.inl ⟨by kernel_rfl, fun _ _ => by kernel_rfl⟩) trivial ?_
    simp only [List.getElem_toArray, List.getElem_cons_zero, List.getElem_cons_succ, Act.put, List.setIfInBounds_toArray, List.set_cons_zero, List.set_cons_succ]
    refine wpAnyH_take (i := 7) (v := .slice adn n capn) rfl (by kernel_rfl) (by kernel_rfl) (by kernel_rfl) (fun _ _ _ h => h) (.inl ⟨by kernel_rfl, fun _ _ => exec_cutH (.tmp 57) (.tmp 58) rfl adn m capn n (by kernel_rfl) (by kernel_rfl) (by omega)⟩) trivial ?_
    simp only [List.getElem_toArray, List.getElem_cons_zero, List.getElem_cons_succ, Act.put, List.setIfInBounds_toArray, List.set_cons_zero, List.set_cons_succ]
    refine wpAnyH_take (i := 9) (v := .slice adb len capb) rfl (by kernel_rfl) (by kernel_rfl) (by kernel_rfl) (fun _ _ _ h => h) (.inl ⟨by kernel_rfl, fun _ _ => by kernel_rfl⟩) trivial ?_
    simp only [List.getElem_toArray, List.getElem_cons_zero, List.getElem_cons_succ, Act.put, List.setIfInBounds_toArray, List.set_cons_zero, List.set_cons_succ]
    refine wpAnyH_take (i := 10) (v := .int .i64 p) rfl (by kernel_rfl) (by kernel_rfl) (by kernel_rfl) (fun _ _ _ h => h) (.inl ⟨by kernel_rfl, fun _ _ => by kernel_rfl⟩) trivial ?_
    simp only [List.getElem_toArray, List.getElem_cons_zero, List.getElem_cons_succ, Act.put, List.setIfInBounds_toArray, List.set_cons_zero, List.set_cons_succ]
    refine wpAnyH_take (i := 11) (v := .int .i64 n) rfl (by kernel_rfl) (by kernel_rfl) (by kernel_rfl) (fun _ _ _ h => h) (.inl ⟨by kernel_rfl, fun _ _ => by kernel_rfl⟩) trivial ?_
    simp only [List.getElem_toArray, List.getElem_cons_zero, List.getElem_cons_succ, Act.put, List.setIfInBounds_toArray, List.set_cons_zero, List.set_cons_succ]
    refine wpAnyH_take (i := 12) (v := .int .i64 ((p + n : Nat) : Int)) rfl (by kernel_rfl) (by kernel_rfl) (by kernel_rfl) (fun _ _ _ h => h) (.inl ⟨by kernel_rfl, fun _ _ => exec_addN _ _ (.tmp 62) (.tmp 63) rfl p n (by kernel_rfl) (by kernel_rfl) (by omega)⟩) trivial ?_
    simp only [List.getElem_toArray, List.getElem_cons_zero, List.getElem_cons_succ, Act.put, List.setIfInBounds_toArray, List.set_cons_zero, List.set_cons_succ]
    refine wpAnyH_take (i := 13) (v := .slice (cutA adb capb (p + n)) (len - (p + n)) (capb - (p + n))) rfl (by kernel_rfl) (by kernel_rfl) (by kernel_rfl) (fun _ _ _ h => h) (.inl ⟨by kernel_rfl, fun _ _ => exec_cutL (.tmp 61) (.tmp 64) rfl adb len capb (p + n) (by kernel_rfl) (by kernel_rfl) (by omega)⟩) trivial ?_
    simp only [List.getElem_toArray, List.getElem_cons_zero, List.getElem_cons_succ, Act.put, List.setIfInBounds_toArray, List.set_cons_zero, List.set_cons_succ]
    refine wpAnyH_ready (rs := [0]) (by kernel_rfl) (by simp) ?_
    refine AllReadyH.cons rfl (fun K' hK => ?_) AllReadyH.nil
    refine r_run (.slice (some ⟨w1.heap.size, 0, none⟩) 0 0) (w1.drew.alloc (.cells #[] 5)) (exec_lit0 rfl) (by kernel_rfl) (hK.out _ _ trivial (fun _ => ?_))
    simp only [List.getElem_toArray, List.getElem_cons_zero, Act.put, List.setIfInBounds_toArray, List.set_cons_zero, List.set_cons_succ]
    obtain ⟨W1, hW1⟩ : ∃ W1, w1.drew.alloc (.cells #[] 5) = W1 := ⟨_, rfl⟩
    have hb1 : Below w.heap.size w W1 := by rw [← hW1]; exact (Hb.out.drew).alloc Hb.out.size _
    have hw1 : w.heap.size ≤ w1.heap.size := Hb.out.size
    have ho1 : W1.ownsRow w.heap.size 5 1 (.slice (some ⟨w1.heap.size, 0, none⟩) 0 0) 0 [] := by rw [← hW1]; exact World.ownsRow_lit w1.drew #[] 0 hw1 (by decide) rfl
    rw [hW1]
    clear hW1
    refine wpAnyH_ready (rs := [4]) (by kernel_rfl) (by simp) ?_
    refine AllReadyH.cons rfl (fun K' hK => ?_) AllReadyH.nil
    refine r_app (.tmp 52) (.tmp 55) rfl w.heap.size _ 0 [] (by kernel_rfl) ho1 adb p capb (stood bs 0 p) (by kernel_rfl) (stood_length (by have := H3.out; omega)) w.heap.size (bys_take (HIb.out.below hb1) p (by have := H3.out; omega)) (fun h => by have := H1.out h; omega) (by omega) hb1.size (by kernel_rfl) (fun v2 W2 ho2 hg2 => hK.out _ _ trivial (fun _ => ?_))
    simp only [List.getElem_toArray, List.getElem_cons_zero, List.getElem_cons_succ, Act.put, List.setIfInBounds_toArray, List.set_cons_zero, List.set_cons_succ]
    have hb2 : Below w.heap.size w W2 := hb1.grown hg2 hb1.size (fun k e => by cases e; exact hw1)
    rw [Nat.zero_add, List.nil_append] at ho2
    refine wpAnyH_ready (rs := [8]) (by kernel_rfl) (by simp) ?_
    refine AllReadyH.cons rfl (fun K' hK => ?_) AllReadyH.nil
    refine r_app (.tmp 56) (.tmp 59) rfl w.heap.size v2 p _ (by kernel_rfl) ho2 adn n capn (stood ns 0 n) (by kernel_rfl) (stood_length (by have := H4.out; omega)) w.heap.size (bys_take (HIn.out.below hb2) n (by have := H4.out; omega)) (fun h => by have := H2.out h; omega) (by omega) hb2.size (by kernel_rfl) (fun v3 W3 ho3 hg3 => hK.out _ _ trivial (fun _ => ?_))
    simp only [List.getElem_toArray, List.getElem_cons_zero, List.getElem_cons_succ, Act.put, List.setIfInBounds_toArray, List.set_cons_zero, List.set_cons_succ]
    have hb3 : Below w.heap.size w W3 := hb2.grown hg3 hb2.size (own_block ho2)
    rw [← List.map_append] at ho3
    have hq := bys_cut (cap := capb) (HIb.out.below hb3) (by have := H3.out; omega) (fun h => by have := H1.out h; have := H3.out; omega) (p + n) (len - (p + n)) (by have := H3.out; omega)
    refine wpAnyH_ready (rs := [14]) (by kernel_rfl) (by simp) ?_
    refine AllReadyH.cons rfl (fun K' hK => ?_) AllReadyH.nil
    refine r_app (.tmp 60) (.tmp 65) rfl w.heap.size v3 (p + n) _ (by kernel_rfl) ho3 (cutA adb capb (p + n)) (len - (p + n)) (capb - (p + n)) (stood bs (p + n) (len - (p + n))) (by kernel_rfl) (stood_length (by have := H3.out; omega)) w.heap.size hq.1 hq.2 (by omega) hb3.size (by kernel_rfl) (fun v4 W4 ho4 hg4 => hK.out _ _ trivial (fun _ => ?_))
    simp only [List.getElem_toArray, List.getElem_cons_zero, List.getElem_cons_succ, Act.put, List.setIfInBounds_toArray, List.set_cons_zero, List.set_cons_succ]
    have hb4 : Below w.heap.size w W4 := hb3.grown hg4 hb3.size (own_block ho3)
    rw [← List.map_append, ← H3.out, put_eq, H3.out, show p + n + (len - (p + n)) = len by omega] at ho4
    obtain ⟨hpl, adx, capx, e4, hcx, hIx⟩ := own_bys ho4
    subst e4
    have HPL := hid hpl
    have HIx := hid hIx
    have Hb4 := hid hb4
    clear ho1 ho2 ho3 ho4 hg2 hg3 hg4 hb1 hb2 hb3 hb4 hq hpl hIx
    refine wpAnyH_take (i := 15) (v := .slice adx len capx) rfl (by kernel_rfl) (by kernel_rfl) (by kernel_rfl) (fun _ _ _ h => h) (.inl ⟨by kernel_rfl, fun _ _ => by kernel_rfl⟩) trivial ?_
    simp only [List.getElem_toArray, List.getElem_cons_zero, List.getElem_cons_succ, Act.put, List.setIfInBounds_toArray, List.set_cons_zero, List.set_cons_succ]
    refine wpAnyH_done (by kernel_rfl) ?_ _
    have HC1 := hid (fun V (h : Below w.heap.size w V) => scheck_any adb capb bs hbs (by have := H3.out; omega) (by have := H3.out; omega) V ((HIb.out.below h).mono h.size))
    have HR1 := hid (fun V (h : Below w.heap.size w V) => rcheck_any adb capb bs hbs (by have := H3.out; omega) V ((HIb.out.below h).mono h.size))
    have hbw := bys_cut (cap := capb) HIb.out (by have := H3.out; omega) (fun h => by have := H1.out h; have := H3.out; omega) p n (by have := H3.out; omega)
    have hbt := bys_take HIn.out n (by have := H4.out; omega)
    rw [HADW.out] at hbw
    have hlw := stood_length (bs := bs) (p := p) (n := n) (by have := H3.out; omega)
    have hlt := stood_length (bs := ns) (p := 0) (n := n) (by have := H4.out; omega)
    have HC2 := hid (fun V (h : Below w.heap.size w V) => schanged_any (check bs) (capb - p) capn adw adn (stood bs p n) (stood ns 0 n) (stood_byt hbs p n) (stood_byt hns 0 n) (by omega) (by omega) (by omega) (by omega) V ((hbw.1.below h).mono h.size) ((hbt.below h).mono h.size))
    have HR2 := hid (fun V (h : Below w.heap.size w V) => rchanged_any (check bs) (check_range bs) (capb - p) capn adw adn (stood bs p n) (stood ns 0 n) (stood_byt hbs p n) (stood_byt hns 0 n) (by omega) (by omega) V ((hbw.1.below h).mono h.size) ((hbt.below h).mono h.size))
    have HC3 := hid (fun V (h : Below W4.heap.size W4 V) => scheck_any adx capx (put bs ns p n) (put_byt (by have := H3.out; omega) (by have := H4.out; omega) hbs hns) (by have := HPL.out; omega) (by have := HPL.out; omega) V ((HIx.out.below h).mono h.size))
    have HSA : Hid (same (changes (check bs) (pairs (stood bs p n) (stood ns 0 n) (nw n))) (check (put bs ns p n)) = true) := hid (by
      obtain ⟨c, rfl⟩ := K3.out
      have := changed_same (bs := bs) (now := ns) (a := a) (m := c) (by have := H3.out; have := HPA.out; omega) (by have := H4.out; omega) hbs hns
      rw [HPA.out, pairs_now] at this
      rw [show nw (2 * c) = c by unfold nw; omega]
      exact this)
    rw [HPL.out] at HC3
    rw [H3.out] at HC1 HR1
    rw [hlw, hlt] at HC2 HR2
    have HS := hid (ssame_any (changes (check bs) (pairs (stood bs p n) (stood ns 0 n) (nw n))) (check (put bs ns p n)))
    rw [HSA.out] at HS
    clear hbw hbt hlw hlt HSA HIx HPL
    generalize changes (check bs) (pairs (stood bs p n) (stood ns 0 n) (nw n)) = kk at *
    generalize check (put bs ns p n) = cx at *
    generalize check bs = cb at *
    go_upto_region 12 with fail
    refine wp_region_held_drew (S := fun _ => True) (by kernel_rfl) trivial (fun _ => ?_)
    change wpAnyH _ _ _ _ _ 8 #[false, false, false, false, false, false, false, false] _ _
    refine wpAnyH_take (i := 0) (v := .slice adb len capb) rfl (by kernel_rfl) (by kernel_rfl) (by kernel_rfl) (fun _ _ _ h => h) (.inl ⟨by kernel_rfl, fun _ _ => by kernel_rfl⟩) trivial ?_
    simp only [List.getElem_toArray, List.getElem_cons_zero, Act.put, List.setIfInBounds_toArray, List.set_cons_zero, List.set_cons_succ]
    refine wpAnyH_take (i := 2) (v := .slice adw n (capb - p)) rfl (by kernel_rfl) (by kernel_rfl) (by kernel_rfl) (fun _ _ _ h => h) (.inl ⟨by kernel_rfl, fun _ _ => by kernel_rfl⟩) trivial ?_
    simp only [List.getElem_toArray, List.getElem_cons_zero, List.getElem_cons_succ, Act.put, List.setIfInBounds_toArray, List.set_cons_zero, List.set_cons_succ]
    refine wpAnyH_take (i := 3) (v := .slice adn m capn) rfl (by kernel_rfl) (by kernel_rfl) (by kernel_rfl) (fun _ _ _ h => h) (.inl ⟨by kernel_rfl, fun _ _ => by kernel_rfl⟩) trivial ?_
    simp only [List.getElem_toArray, List.getElem_cons_zero, List.getElem_cons_succ, Act.put, List.setIfInBounds_toArray, List.set_cons_zero, List.set_cons_succ]
    refine wpAnyH_take (i := 4) (v := .int .i64 n) rfl (by kernel_rfl) (by kernel_rfl) (by kernel_rfl) (fun _ _ _ h => h) (.inl ⟨by kernel_rfl, fun _ _ => by kernel_rfl⟩) trivial ?_
    simp only [List.getElem_toArray, List.getElem_cons_zero, List.getElem_cons_succ, Act.put, List.setIfInBounds_toArray, List.set_cons_zero, List.set_cons_succ]
    refine wpAnyH_take (i := 5) (v := .slice adn n capn) rfl (by kernel_rfl) (by kernel_rfl) (by kernel_rfl) (fun _ _ _ h => h) (.inl ⟨by kernel_rfl, fun _ _ => exec_cutH (.tmp 70) (.tmp 71) rfl adn m capn n (by kernel_rfl) (by kernel_rfl) (by omega)⟩) trivial ?_
    simp only [List.getElem_toArray, List.getElem_cons_zero, List.getElem_cons_succ, Act.put, List.setIfInBounds_toArray, List.set_cons_zero, List.set_cons_succ]
    refine wpAnyH_ready (rs := [1]) (by kernel_rfl) (by simp) ?_
    refine AllReadyH.cons rfl (fun K' hK => ?_) AllReadyH.nil
    refine r_call 8 #[.slice adb len capb] (by kernel_rfl) (by kernel_rfl) (.int .i64 cb) (HC1.out _ Hb4.out.drew) (fun W5 h5 => hK.out _ _ trivial (fun _ => ?_))
    simp only [List.getElem_toArray, List.getElem_cons_zero, List.getElem_cons_succ, Act.put, List.setIfInBounds_toArray, List.set_cons_zero, List.set_cons_succ]
    have Hb5 := hid (Hb4.out.drew.trans (h5.mono Hb4.out.drew.size))
    have Hx5 := hid (((Below.refl W4.heap.size W4).drew).trans (h5.mono (Nat.le_refl _)))
    clear h5
    refine wpAnyH_ready (rs := [6]) (by kernel_rfl) (by simp) ?_
    refine AllReadyH.cons rfl (fun K' hK => ?_) AllReadyH.nil
    refine r_call 19 #[.int .i64 cb, .slice adw n (capb - p), .slice adn n capn] (by kernel_rfl) (by kernel_rfl) (.int .i64 kk) (HC2.out _ Hb5.out) (fun W6 h6 => hK.out _ _ trivial (fun _ => ?_))
    simp only [List.getElem_toArray, List.getElem_cons_zero, List.getElem_cons_succ, Act.put, List.setIfInBounds_toArray, List.set_cons_zero, List.set_cons_succ]
    have Hb6 := hid (Hb5.out.trans (h6.mono Hb5.out.size))
    have Hx6 := hid (Hx5.out.trans (h6.mono Hx5.out.size))
    clear h6
    refine wpAnyH_take (i := 7) (v := .int .i64 kk) rfl (by kernel_rfl) (by kernel_rfl) (by kernel_rfl) (fun _ _ _ h => h) (.inl ⟨by kernel_rfl, fun _ _ => by kernel_rfl⟩) trivial ?_
    simp only [List.getElem_toArray, List.getElem_cons_zero, List.getElem_cons_succ, Act.put, List.setIfInBounds_toArray, List.set_cons_zero, List.set_cons_succ]
    refine wpAnyH_done (by kernel_rfl) ?_ _
    go_upto_region 13 with fail
    refine wp_region_held_drew (S := fun _ => True) (by kernel_rfl) trivial (fun _ => ?_)
    change wpAnyH _ _ _ _ _ 16 #[false, false, false, false, false, false, false, false, false, false, false, false, false, false, false, false] _ _
    refine wpAnyH_take (i := 0) (v := .int .i64 kk) rfl (by kernel_rfl) (by kernel_rfl) (by kernel_rfl) (fun _ _ _ h => h) (.inl ⟨by kernel_rfl, fun _ _ => by kernel_rfl⟩) trivial ?_
    simp only [List.getElem_toArray, List.getElem_cons_zero, Act.put, List.setIfInBounds_toArray, List.set_cons_zero, List.set_cons_succ]
    refine wpAnyH_take (i := 1) (v := .slice adb len capb) rfl (by kernel_rfl) (by kernel_rfl) (by kernel_rfl) (fun _ _ _ h => h) (.inl ⟨by kernel_rfl, fun _ _ => by kernel_rfl⟩) trivial ?_
    simp only [List.getElem_toArray, List.getElem_cons_zero, List.getElem_cons_succ, Act.put, List.setIfInBounds_toArray, List.set_cons_zero, List.set_cons_succ]
    refine wpAnyH_take (i := 3) (v := .slice adw n (capb - p)) rfl (by kernel_rfl) (by kernel_rfl) (by kernel_rfl) (fun _ _ _ h => h) (.inl ⟨by kernel_rfl, fun _ _ => by kernel_rfl⟩) trivial ?_
    simp only [List.getElem_toArray, List.getElem_cons_zero, List.getElem_cons_succ, Act.put, List.setIfInBounds_toArray, List.set_cons_zero, List.set_cons_succ]
    refine wpAnyH_take (i := 4) (v := .slice adn m capn) rfl (by kernel_rfl) (by kernel_rfl) (by kernel_rfl) (fun _ _ _ h => h) (.inl ⟨by kernel_rfl, fun _ _ => by kernel_rfl⟩) trivial ?_
    simp only [List.getElem_toArray, List.getElem_cons_zero, List.getElem_cons_succ, Act.put, List.setIfInBounds_toArray, List.set_cons_zero, List.set_cons_succ]
    refine wpAnyH_take (i := 5) (v := .int .i64 n) rfl (by kernel_rfl) (by kernel_rfl) (by kernel_rfl) (fun _ _ _ h => h) (.inl ⟨by kernel_rfl, fun _ _ => by kernel_rfl⟩) trivial ?_
    simp only [List.getElem_toArray, List.getElem_cons_zero, List.getElem_cons_succ, Act.put, List.setIfInBounds_toArray, List.set_cons_zero, List.set_cons_succ]
    refine wpAnyH_take (i := 6) (v := .slice adn n capn) rfl (by kernel_rfl) (by kernel_rfl) (by kernel_rfl) (fun _ _ _ h => h) (.inl ⟨by kernel_rfl, fun _ _ => exec_cutH (.tmp 78) (.tmp 79) rfl adn m capn n (by kernel_rfl) (by kernel_rfl) (by omega)⟩) trivial ?_
    simp only [List.getElem_toArray, List.getElem_cons_zero, List.getElem_cons_succ, Act.put, List.setIfInBounds_toArray, List.set_cons_zero, List.set_cons_succ]
    refine wpAnyH_ready (rs := [2]) (by kernel_rfl) (by simp) ?_
    refine AllReadyH.cons rfl (fun K' hK => ?_) AllReadyH.nil
    refine r_call 9 #[.slice adb len capb] (by kernel_rfl) (by kernel_rfl) (.int .i64 cb) (HR1.out _ Hb6.out.drew) (fun W7 h7 => hK.out _ _ trivial (fun _ => ?_))
    simp only [List.getElem_toArray, List.getElem_cons_zero, List.getElem_cons_succ, Act.put, List.setIfInBounds_toArray, List.set_cons_zero, List.set_cons_succ]
    subst h7
    refine wpAnyH_ready (rs := [7]) (by kernel_rfl) (by simp) ?_
    refine AllReadyH.cons rfl (fun K' hK => ?_) AllReadyH.nil
    refine r_call 20 #[.int .i64 cb, .slice adw n (capb - p), .slice adn n capn] (by kernel_rfl) (by kernel_rfl) (.int .i64 kk) (HR2.out _ Hb6.out.drew) (fun W8 h8 => hK.out _ _ trivial (fun _ => ?_))
    simp only [List.getElem_toArray, List.getElem_cons_zero, List.getElem_cons_succ, Act.put, List.setIfInBounds_toArray, List.set_cons_zero, List.set_cons_succ]
    subst h8
    refine wpAnyH_take (i := 8) (v := .bool true) rfl (by kernel_rfl) (by kernel_rfl) (by kernel_rfl) (fun _ _ _ h => h) (.inl ⟨by kernel_rfl, fun _ _ => exec_eqlI _ _ (.tmp 74) (.tmp 81) rfl kk (by kernel_rfl) (by kernel_rfl)⟩) trivial ?_
    simp only [List.getElem_toArray, List.getElem_cons_zero, List.getElem_cons_succ, Act.put, List.setIfInBounds_toArray, List.set_cons_zero, List.set_cons_succ]
    refine wpAnyH_take (i := 9) (v := .bool true) rfl (by kernel_rfl) (by kernel_rfl) (by kernel_rfl) (fun _ _ _ h => h) (.inl ⟨by kernel_rfl, fun _ _ => by kernel_rfl⟩) trivial ?_
    simp only [List.getElem_toArray, List.getElem_cons_zero, List.getElem_cons_succ, Act.put, List.setIfInBounds_toArray, List.set_cons_zero, List.set_cons_succ]
    refine wpAnyH_take (i := 10) (v := .int .i64 kk) rfl (by kernel_rfl) (by kernel_rfl) (by kernel_rfl) (fun _ _ _ h => h) (.inl ⟨by kernel_rfl, fun _ _ => by kernel_rfl⟩) trivial ?_
    simp only [List.getElem_toArray, List.getElem_cons_zero, List.getElem_cons_succ, Act.put, List.setIfInBounds_toArray, List.set_cons_zero, List.set_cons_succ]
    refine wpAnyH_take (i := 11) (v := .slice adx len capx) rfl (by kernel_rfl) (by kernel_rfl) (by kernel_rfl) (fun _ _ _ h => h) (.inl ⟨by kernel_rfl, fun _ _ => by kernel_rfl⟩) trivial ?_
    simp only [List.getElem_toArray, List.getElem_cons_zero, List.getElem_cons_succ, Act.put, List.setIfInBounds_toArray, List.set_cons_zero, List.set_cons_succ]
    refine wpAnyH_ready (rs := [12]) (by kernel_rfl) (by simp) ?_
    refine AllReadyH.cons rfl (fun K' hK => ?_) AllReadyH.nil
    rw [if_pos (by kernel_rfl)]
    refine o_call 8 #[.slice adx len capx] (by kernel_rfl) (.int .i64 cx) (HC3.out _ Hx6.out.drew) (fun W9 h9 => hK.out _ _ trivial (fun _ => ?_))
    simp only [List.getElem_toArray, List.getElem_cons_zero, List.getElem_cons_succ, Act.put, List.setIfInBounds_toArray, List.set_cons_zero, List.set_cons_succ]
    have Hb9 := hid (Hb6.out.drew.trans (h9.mono Hb6.out.drew.size))
    clear h9
    refine wpAnyH_ready (rs := [13]) (by kernel_rfl) (by simp) ?_
    refine AllReadyH.cons rfl (fun K' hK => ?_) AllReadyH.nil
    rw [if_pos (by kernel_rfl)]
    refine o_call 17 #[.int .i64 kk, .int .i64 cx] (by kernel_rfl) (.bool true) (HS.out _) (fun W10 h10 => hK.out _ _ trivial (fun _ => ?_))
    simp only [List.getElem_toArray, List.getElem_cons_zero, List.getElem_cons_succ, Act.put, List.setIfInBounds_toArray, List.set_cons_zero, List.set_cons_succ]
    subst h10
    refine wpAnyH_take (i := 14) (v := .bool true) rfl (by kernel_rfl) (by kernel_rfl) (by kernel_rfl) (fun _ _ _ h => h) (.inl ⟨by kernel_rfl, fun _ _ => by kernel_rfl⟩) trivial ?_
    simp only [List.getElem_toArray, List.getElem_cons_zero, List.getElem_cons_succ, Act.put, List.setIfInBounds_toArray, List.set_cons_zero, List.set_cons_succ]
    refine wpAnyH_take (i := 15) (v := .bool true) rfl (by kernel_rfl) (by kernel_rfl) (by kernel_rfl) (fun _ _ _ h => h) (.inl ⟨by kernel_rfl, fun _ _ => by kernel_rfl⟩) trivial ?_
    simp only [List.getElem_toArray, List.getElem_cons_zero, List.getElem_cons_succ, Act.put, List.setIfInBounds_toArray, List.set_cons_zero, List.set_cons_succ]
    refine wpAnyH_done (by kernel_rfl) ?_ _
    go_wp2
    go_ret
    exact ⟨rfl, Hb9.out⟩
end Go.Proofs.Ytnlhdeffoalhiaa
