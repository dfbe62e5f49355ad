/-
  The document's Pseudo.
-/
import Derived.Test.YtnlhdeffoalhiaaDoorSpsd
namespace Go.Proofs.YtnlhdeffoalhiaaDoor
open Go.RowKit Go.Lib

def ReadsAs (w : World) (v : Value) (l : List Int) : Prop := ∃ ad cap, v = .slice ad l.length cap ∧ Bys w.heap.size w ad l
set_option maxRecDepth 100000 in
set_option maxHeartbeats 1000000 in
theorem rbytes_any (s : Bool) (b : List Int) (hl : b.length = 16) (w : World) : Calls Tryd.prog 23 #[.agg (adr s b)] w fun e w' => ∃ v, e = .returned v ∧ (ReadsAs w' v (aB s b) ∧ Below w.heap.size w w') := by
  obtain ⟨W0, hW0⟩ : ∃ W, W = w.alloc (.cells (adr s b) 31) := ⟨_, rfl⟩
  have hB0 : Blk W0 w.heap.size 31 (adr s b) := hW0 ▸ Blk.new w _ _
  have hb0 : Below w.heap.size w W0 := hW0 ▸ (Below.refl _ _).alloc (Nat.le_refl _) _
  have h0 : W0.cell? ⟨w.heap.size, 0, none⟩ = some (.bool s) := by rw [hB0.cell]; rfl
  have HW0 := hid hW0.symm
  have HF : Hid (∀ n, n ≤ 16 → Bys W0.heap.size W0 (some ⟨w.heap.size, 1, none⟩) (b.take n)) := hid fun n hn j hj => by
    rw [List.length_take] at hj
    refine ⟨w.heap.size, 1, rfl, hB0.lt, ?_⟩
    rw [hB0.cell, adr_at s b j (by omega), nth, List.getD, List.getD, List.getElem?_take_of_lt (by omega)]
  have HL : Hid (∀ n, n ≤ 16 → (b.take n).length = n) := hid fun n hn => by rw [List.length_take]; omega
  have Hb0 := hid hb0
  clear hW0 hB0 hl hb0
  cases s with
  | true =>
    go_enter Tryd.func23, Tryd.ntmps23
    go_upto_region 1 with fail
    rw [HW0.out]
    go_wp2
    go_ret
    exact ⟨_, rfl, ⟨_, 16, by rw [show aB true b = b.take 16 from rfl, HL.out 16 (by omega)]; rfl, HF.out 16 (by omega)⟩, Hb0.out⟩
  | false =>
    go_enter Tryd.func23, Tryd.ntmps23
    go_upto_region 1 with fail
    rw [HW0.out]
    go_wp2
    go_ret
    exact ⟨_, rfl, ⟨_, 16, by rw [show aB false b = b.take 4 from rfl, HL.out 4 (by omega)]; rfl, HF.out 4 (by omega)⟩, Hb0.out⟩

theorem own_none {n₀ : Nat} {w : World} {ad : Option Addr} {l : List Int} {c : Nat} (h : Bys n₀ w ad l) (h0 : 0 < l.length) : ad = none → l.length = 0 ∧ c = 0 := fun e => by
  subst e
  obtain ⟨g, o, e, _⟩ := h 0 h0
  cases e

theorem k_eq (n : Int) : (IntKind.u64.wrap n).tmod 4294967296 = n % 4294967296 := by
  rw [show IntKind.u64.wrap n = n % 18446744073709551616 by simp [IntKind.wrap, IntKind.bits, IntKind.signed], Int.tmod_eq_emod_of_nonneg (by omega)]
  omega
theorem p_eq (p : Int) : (IntKind.u64.wrap p).tmod 256 = p % 256 := by
  rw [show IntKind.u64.wrap p = p % 18446744073709551616 by simp [IntKind.wrap, IntKind.bits, IntKind.signed], Int.tmod_eq_emod_of_nonneg (by omega)]
  omega

theorem psT_false (p n : Int) (K P : Nat) (_hl : K < 4294967296) (hK : n % 4294967296 = K) (hP : p % 256 = P) : psT false p n = [0, (P : Int), (K : Int) / 256 % 256, (K : Int) % 256] := by
  have h : (n % 65536).toNat = K % 65536 := by omega
  unfold psT
  rw [if_neg (by decide), hP, h]
  simp only [be, List.cons_append, List.nil_append, List.cons.injEq, and_true, true_and, Nat.pow_one, Nat.pow_zero, Nat.div_one]
  omega
theorem psT_true (p n : Int) (K P : Nat) (hl : K < 4294967296) (hK : n % 4294967296 = K) (hP : p % 256 = P) : psT true p n = [(K : Int) / 16777216, (K : Int) / 65536 % 256, (K : Int) / 256 % 256, (K : Int) % 256, 0, 0, 0, (P : Int)] := by
  have h : (n % 4294967296).toNat = K := by omega
  unfold psT
  rw [if_pos rfl, hP, h]
  simp only [be, List.cons_append, List.nil_append, List.cons.injEq, and_true, Nat.pow_one, Nat.pow_zero, Nat.div_one]
  omega

set_option maxRecDepth 100000 in
set_option maxHeartbeats 4000000 in
theorem rpseudo_any (s1 s2 : Bool) (b1 b2 : List Int) (hl1 : b1.length = 16) (hl2 : b2.length = 16) (p n : Int) (w : World) :
    Calls Tryd.prog 12 #[.agg (adr s1 b1), .agg (adr s2 b2), .int .i64 p, .int .i64 n] w (OwnEnd (psd s1 b1 s2 b2 p n) w) := by
  obtain ⟨W0, hW0⟩ : ∃ W, W = (w.alloc (.cells (adr s1 b1) 31)).alloc (.cells (adr s2 b2) 31) := ⟨_, rfl⟩
  have hB1 : Blk W0 w.heap.size 31 (adr s1 b1) := hW0 ▸ (Blk.new w _ _).alloc _
  have hB2 : Blk W0 (w.heap.size + 1) 31 (adr s2 b2) := by have := Blk.new (w.alloc (.cells (adr s1 b1) 31)) 31 (adr s2 b2); rw [World.size_alloc] at this; exact hW0 ▸ this
  have hb0 : Below w.heap.size w W0 := hW0 ▸ ((Below.refl _ _).alloc (Nat.le_refl _) _).alloc (by simp) _
  have HW0 := hid hW0.symm
  have HB1 := hid hB1
  have HB2 := hid hB2
  have Hb0 := hid hb0
  have L1 : Hid (17 = (adr s1 b1).size) := hid (by rw [adr_size, hl1])
  have L2 : Hid (17 = (adr s2 b2).size) := hid (by rw [adr_size, hl2])
  have HA1 := hid (rbytes_any s1 b1 hl1)
  have HA2 := hid (rbytes_any s2 b2 hl2)
  have HL1 := hid (aB_length s1 b1 hl1)
  have HL2 := hid (aB_length s2 b2 hl2)
  have HX1 : Hid (W0.cell? ⟨w.heap.size, 0, none⟩ = some (.bool s1)) := hid (by rw [hB1.cell]; rfl)
  clear hW0 hB1 hB2 hb0 hl1 hl2
  go_enter Tryd.func12, Tryd.ntmps12
  go_upto_region 1 with fail
  rw [HW0.out]
  have hS0 : Blk W0.drew w.heap.size 31 (adr s1 b1) ∧ Blk W0.drew (w.heap.size + 1) 31 (adr s2 b2) := ⟨HB1.out, HB2.out⟩
  refine wp_region_held_drew (S := fun V => Blk V w.heap.size 31 (adr s1 b1) ∧ Blk V (w.heap.size + 1) 31 (adr s2 b2)) (by kernel_rfl) hS0 (fun hS => ?_)
  change wpAnyH _ _ _ _ _ 8 #[false, false, false, false, false, false, false, false] _ _
  refine wpAnyH_take (i := 1) (v := .agg (adr s1 b1)) rfl (by kernel_rfl) (by kernel_rfl) (by kernel_rfl) (fun _ _ _ h => h) (yields_load 31 (.tmp 4) rfl w.heap.size (by kernel_rfl) 31 _ _ (fun _ h => h.1) Tryd.underlying31 rfl 17 Tryd.infoAddr L1.out (by kernel_rfl)) hS ?_
  simp only [List.getElem_toArray, List.getElem_cons_zero, List.getElem_cons_succ, Act.put, List.setIfInBounds_toArray, List.set_cons_zero, List.set_cons_succ]
  refine wpAnyH_take (i := 4) (v := .agg (adr s2 b2)) rfl (by kernel_rfl) (by kernel_rfl) (by kernel_rfl) (fun _ _ _ h => h) (yields_load 31 (.tmp 5) rfl (w.heap.size + 1) (by kernel_rfl) 31 _ _ (fun _ h => h.2) Tryd.underlying31 rfl 17 Tryd.infoAddr L2.out (by kernel_rfl)) hS ?_
  simp only [List.getElem_toArray, List.getElem_cons_zero, List.getElem_cons_succ, Act.put, List.setIfInBounds_toArray, List.set_cons_zero, List.set_cons_succ]
  refine wpAnyH_ready (rs := [0, 2]) (by kernel_rfl) (by simp) ?_
  refine AllReadyH.cons rfl (fun K' hK => ?_) (AllReadyH.cons rfl (fun K' hK => ?_) AllReadyH.nil)
  · refine r_run (.slice (some ⟨W0.heap.size, 0, none⟩) 0 0) (W0.drew.alloc (.cells #[] 5)) (exec_lit0 rfl) (by kernel_rfl) (hK.out _ _ ⟨hS.1.alloc _, hS.2.alloc _⟩ (fun hS => ?_))
    simp only [List.getElem_toArray, List.getElem_cons_zero, Act.put, List.setIfInBounds_toArray, List.set_cons_zero, List.set_cons_succ]
    refine wpAnyH_ready (rs := [2]) (by kernel_rfl) (by simp) ?_
    refine AllReadyH.cons rfl (fun K' hK => ?_) AllReadyH.nil
    refine step_callE 23 #[.agg (adr s1 b1)] (by kernel_rfl) (by kernel_rfl) (HA1.out _) (fun v1 V1 h1 => hK.out _ _ ⟨hS.1.kept h1.2, hS.2.kept h1.2⟩ (fun hS => ?_))
    simp only [List.getElem_toArray, List.getElem_cons_zero, List.getElem_cons_succ, Act.put, List.setIfInBounds_toArray, List.set_cons_zero, List.set_cons_succ]
    obtain ⟨hr1, h1⟩ := h1
    have hoL : V1.ownsRow W0.heap.size 5 1 (.slice (some ⟨W0.heap.size, 0, none⟩) 0 0) 0 [] := own_below (World.ownsRow_lit W0.drew #[] 0 (Nat.le_refl _) (by decide) rfl) h1
    have hbV : Below W0.heap.size W0 V1 := ((Below.refl W0.heap.size W0).drew.alloc (Nat.le_refl _) _).trans (h1.mono (by simp))
    clear h1
    obtain ⟨ad1, cap1, e1, hI1⟩ := hr1
    subst e1
    have hl1 : 0 < (aB s1 b1).length ∧ (aB s1 b1).length ≤ 16 := by have := HL1.out; cases s1 <;> simp at * <;> omega
    have hl2 : 0 < (aB s2 b2).length ∧ (aB s2 b2).length ≤ 16 := by have := HL2.out; cases s2 <;> simp at * <;> omega
    refine wpAnyH_ready (rs := [3]) (by kernel_rfl) (by simp) ?_
    refine AllReadyH.cons rfl (fun K' hK => ?_) AllReadyH.nil
    refine r_app (.tmp 12) (.tmp 14) rfl W0.heap.size _ 0 [] (by kernel_rfl) hoL ad1 _ cap1 (aB s1 b1) (by kernel_rfl) rfl V1.heap.size hI1 (own_none hI1 hl1.1) (by omega) hbV.size (by kernel_rfl) (fun v3 W3 ho3 hg3 => hK.out _ _ ⟨hS.1.below ((Below.refl W0.heap.size V1).grown hg3 hbV.size (own_blockP hoL)) HB1.out.lt, hS.2.below ((Below.refl W0.heap.size V1).grown hg3 hbV.size (own_blockP hoL)) HB2.out.lt⟩ (fun hS => ?_))
    simp only [List.getElem_toArray, List.getElem_cons_zero, List.getElem_cons_succ, Act.put, List.setIfInBounds_toArray, List.set_cons_zero, List.set_cons_succ]
    have hb3 : Below W0.heap.size W0 W3 := hbV.grown hg3 hbV.size (own_blockP hoL)
    rw [Nat.zero_add, List.nil_append] at ho3
    refine wpAnyH_ready (rs := [5]) (by kernel_rfl) (by simp) ?_
    refine AllReadyH.cons rfl (fun K' hK => ?_) AllReadyH.nil
    refine step_callE 23 #[.agg (adr s2 b2)] (by kernel_rfl) (by kernel_rfl) (HA2.out _) (fun v4 W4 h4 => hK.out _ _ ⟨hS.1.kept h4.2, hS.2.kept h4.2⟩ (fun hS => ?_))
    simp only [List.getElem_toArray, List.getElem_cons_zero, List.getElem_cons_succ, Act.put, List.setIfInBounds_toArray, List.set_cons_zero, List.set_cons_succ]
    obtain ⟨⟨ad4, cap4, e4, hI4⟩, h4⟩ := h4
    subst e4
    have ho4 := own_below ho3 h4
    have hb4 : Below W0.heap.size W0 W4 := hb3.trans (h4.mono hb3.size)
    refine wpAnyH_ready (rs := [6]) (by kernel_rfl) (by simp) ?_
    refine AllReadyH.cons rfl (fun K' hK => ?_) AllReadyH.nil
    refine r_app (.tmp 15) (.tmp 17) rfl W0.heap.size v3 _ _ (by kernel_rfl) ho4 ad4 _ cap4 (aB s2 b2) (by kernel_rfl) rfl W4.heap.size hI4 (own_none hI4 hl2.1) (by omega) hb4.size (by kernel_rfl) (fun v6 W6 ho6 hg6 => hK.out _ _ ⟨hS.1.below ((Below.refl W0.heap.size W4).grown hg6 hb4.size (own_blockP ho4)) HB1.out.lt, hS.2.below ((Below.refl W0.heap.size W4).grown hg6 hb4.size (own_blockP ho4)) HB2.out.lt⟩ (fun hS => ?_))
    simp only [List.getElem_toArray, List.getElem_cons_zero, List.getElem_cons_succ, Act.put, List.setIfInBounds_toArray, List.set_cons_zero, List.set_cons_succ]
    refine wpAnyH_take (i := 7) (v := v6) rfl (by kernel_rfl) (by kernel_rfl) (by kernel_rfl) (fun _ _ _ h => h) (.inl ⟨by kernel_rfl, fun _ _ => by kernel_rfl⟩) hS ?_
    simp only [List.getElem_toArray, List.getElem_cons_zero, List.getElem_cons_succ, Act.put, List.setIfInBounds_toArray, List.set_cons_zero, List.set_cons_succ]
    refine wpAnyH_done (by kernel_rfl) ?_ _
    have hb6 : Below W0.heap.size W0 W6 := hb4.grown hg6 hb4.size (own_blockP ho4)
    have hx6 : W6.cell? ⟨w.heap.size, 0, none⟩ = some (.bool s1) := (hb6.cell (p := ⟨w.heap.size, 0, none⟩) HB1.out.lt).trans HX1.out
    rw [← List.map_append] at ho6
    have HO6 := hid ho6
    have Hb6 : Hid (Below w.heap.size w W6) := hid (Hb0.out.trans (hb6.mono Hb0.out.size))
    have Hz6 : Hid (W0.heap.size ≤ W6.heap.size) := hid hb6.size
    have Hz0 : Hid (w.heap.size ≤ W0.heap.size) := hid Hb0.out.size
    have HP : Hid (psd s1 b1 s2 b2 p n = aB s1 b1 ++ aB s2 b2 ++ psT s1 p n) := hid rfl
    have hln : (aB s1 b1).length + (aB s2 b2).length ≤ 32 := by omega
    have HEl : Hid ((aB s1 b1 ++ aB s2 b2).length = (aB s1 b1).length + (aB s2 b2).length) := hid List.length_append
    generalize aB s1 b1 ++ aB s2 b2 = E at *
    generalize (aB s1 b1).length + (aB s2 b2).length = el at *
    generalize psd s1 b1 s2 b2 p n = R at *
    clear hS hS0 hoL hI1 hbV ho3 hg3 hb3 hI4 h4 ho4 hb4 ho6 hg6 hb6 hl1 hl2
    have u1 := k_eq n
    have u2 := p_eq p
    cases s1
    · go_upto_region 6 with fail
      clear u1 u2
      obtain ⟨K, hK⟩ : ∃ K : Nat, n % 4294967296 = (K : Int) := ⟨(n % 4294967296).toNat, by omega⟩
      have hKl : K < 4294967296 := by omega
      obtain ⟨P, hP⟩ : ∃ P : Nat, p % 256 = (P : Int) := ⟨(p % 256).toNat, by omega⟩
      have hPl : P < 256 := by omega
      rw [hK, hP]
      have HK := hid hK
      have HPp := hid hP
      clear hK hP
      obtain ⟨X, hX⟩ : ∃ X, W6.alloc (.cells #[.int .u8 0, .int .u8 ((P : Int)), .int .u8 ((K : Int) / 256 % 256), .int .u8 ((K : Int) % 256)] 5) = X := ⟨_, rfl⟩
      have hIm : Bys X.heap.size X (some ⟨W6.heap.size, 0, none⟩) [0, (P : Int), (K : Int) / 256 % 256, (K : Int) % 256] := by rw [← hX]; exact bys_new W6 5 [0, (P : Int), (K : Int) / 256 % 256, (K : Int) % 256]
      have hbX : Below W6.heap.size W6 X := by rw [← hX]; exact (Below.refl _ _).alloc (Nat.le_refl _) _
      have HIm := hid hIm
      have HbX := hid hbX
      have HX := hid hX
      clear hIm hbX hX
      go_wp2_with ((show wpList _ _ _ (⟨some 56, _, _, _, _, _⟩ :: _) _ _); go_must (rw [HX.out]; refine wpl_app (.tmp 46) (.tmp 55) rfl W0.heap.size v6 el _ rfl (own_below HO6.out HbX.out) (some ⟨W6.heap.size, 0, none⟩) 4 4 [0, (P : Int), (K : Int) / 256 % 256, (K : Int) % 256] rfl rfl X.heap.size HIm.out (fun h => by cases h) (by omega) (Nat.le_trans Hz6.out HbX.out.size) rfl ?_; intro v7 W7 ho7 hg7))
      have F : Hid (OwnEnd R w (.returned v7) W7) := hid ⟨v7, rfl, by
        rw [HP.out, psT_false p n K P (by omega) HK.out HPp.out, List.length_append, HEl.out, List.map_append]
        exact own_mono ho7 Hz0.out, (sbel2 Hb6.out HbX.out).grown hg7 (sbel2 Hb6.out HbX.out).size (fun q e => Nat.le_trans Hz0.out (own_blockP HO6.out q e))⟩
      clear ho7 hg7
      go_ret
      exact F.out
    · go_upto_region 5 with fail
      clear u1 u2
      obtain ⟨K, hK⟩ : ∃ K : Nat, n % 4294967296 = (K : Int) := ⟨(n % 4294967296).toNat, by omega⟩
      have hKl : K < 4294967296 := by omega
      obtain ⟨P, hP⟩ : ∃ P : Nat, p % 256 = (P : Int) := ⟨(p % 256).toNat, by omega⟩
      have hPl : P < 256 := by omega
      rw [hK, hP]
      have HK := hid hK
      have HPp := hid hP
      clear hK hP
      obtain ⟨X, hX⟩ : ∃ X, W6.alloc (.cells #[.int .u8 ((K : Int) / 16777216), .int .u8 ((K : Int) / 65536 % 256), .int .u8 ((K : Int) / 256 % 256), .int .u8 ((K : Int) % 256), .int .u8 0, .int .u8 0, .int .u8 0, .int .u8 ((P : Int))] 5) = X := ⟨_, rfl⟩
      have hIm : Bys X.heap.size X (some ⟨W6.heap.size, 0, none⟩) [(K : Int) / 16777216, (K : Int) / 65536 % 256, (K : Int) / 256 % 256, (K : Int) % 256, 0, 0, 0, (P : Int)] := by rw [← hX]; exact bys_new W6 5 [(K : Int) / 16777216, (K : Int) / 65536 % 256, (K : Int) / 256 % 256, (K : Int) % 256, 0, 0, 0, (P : Int)]
      have hbX : Below W6.heap.size W6 X := by rw [← hX]; exact (Below.refl _ _).alloc (Nat.le_refl _) _
      have HIm := hid hIm
      have HbX := hid hbX
      have HX := hid hX
      clear hIm hbX hX
      go_wp2_with ((show wpList _ _ _ (⟨some 45, _, _, _, _, _⟩ :: _) _ _); go_must (rw [HX.out]; refine wpl_app (.tmp 28) (.tmp 44) rfl W0.heap.size v6 el _ rfl (own_below HO6.out HbX.out) (some ⟨W6.heap.size, 0, none⟩) 8 8 [(K : Int) / 16777216, (K : Int) / 65536 % 256, (K : Int) / 256 % 256, (K : Int) % 256, 0, 0, 0, (P : Int)] rfl rfl X.heap.size HIm.out (fun h => by cases h) (by omega) (Nat.le_trans Hz6.out HbX.out.size) rfl ?_; intro v7 W7 ho7 hg7))
      have F : Hid (OwnEnd R w (.returned v7) W7) := hid ⟨v7, rfl, by
        rw [HP.out, psT_true p n K P (by omega) HK.out HPp.out, List.length_append, HEl.out, List.map_append]
        exact own_mono ho7 Hz0.out, (sbel2 Hb6.out HbX.out).grown hg7 (sbel2 Hb6.out HbX.out).size (fun q e => Nat.le_trans Hz0.out (own_blockP HO6.out q e))⟩
      clear ho7 hg7
      go_ret
      exact F.out
  · refine step_callE 23 #[.agg (adr s1 b1)] (by kernel_rfl) (by kernel_rfl) (HA1.out _) (fun v1 X1 h1 => hK.out _ _ ⟨hS.1.kept h1.2, hS.2.kept h1.2⟩ (fun hS => ?_))
    simp only [List.getElem_toArray, List.getElem_cons_zero, List.getElem_cons_succ, Act.put, List.setIfInBounds_toArray, List.set_cons_zero, List.set_cons_succ]
    refine wpAnyH_ready (rs := [0]) (by kernel_rfl) (by simp) ?_
    refine AllReadyH.cons rfl (fun K' hK => ?_) AllReadyH.nil
    refine r_run (.slice (some ⟨X1.heap.size, 0, none⟩) 0 0) (X1.alloc (.cells #[] 5)) (exec_lit0 rfl) (by kernel_rfl) (hK.out _ _ ⟨hS.1.alloc _, hS.2.alloc _⟩ (fun hS => ?_))
    simp only [List.getElem_toArray, List.getElem_cons_zero, Act.put, List.setIfInBounds_toArray, List.set_cons_zero, List.set_cons_succ]
    obtain ⟨hr0, h1⟩ := h1
    have hbX : Below W0.heap.size W0 X1 := (Below.refl W0.heap.size W0).drew.trans (h1.mono (Nat.le_refl _))
    obtain ⟨V1, hV1⟩ : ∃ V1, X1.alloc (.cells #[] 5) = V1 := ⟨_, rfl⟩
    have hoL : V1.ownsRow W0.heap.size 5 1 (.slice (some ⟨X1.heap.size, 0, none⟩) 0 0) 0 [] := by rw [← hV1]; exact World.ownsRow_lit X1 #[] 0 hbX.size (by decide) rfl
    have hbV : Below W0.heap.size W0 V1 := by rw [← hV1]; exact hbX.alloc hbX.size _
    have hr1 : ReadsAs V1 v1 (aB s1 b1) := by
      obtain ⟨ad, cap, e, hI⟩ := hr0
      have hq : Below X1.heap.size X1 V1 := by rw [← hV1]; exact (Below.refl _ _).alloc (Nat.le_refl _) _
      exact ⟨ad, cap, e, (hI.below hq).mono hq.size⟩
    rw [hV1] at hS ⊢
    clear hV1 h1 hr0 hbX
    obtain ⟨ad1, cap1, e1, hI1⟩ := hr1
    subst e1
    have hl1 : 0 < (aB s1 b1).length ∧ (aB s1 b1).length ≤ 16 := by have := HL1.out; cases s1 <;> simp at * <;> omega
    have hl2 : 0 < (aB s2 b2).length ∧ (aB s2 b2).length ≤ 16 := by have := HL2.out; cases s2 <;> simp at * <;> omega
    refine wpAnyH_ready (rs := [3]) (by kernel_rfl) (by simp) ?_
    refine AllReadyH.cons rfl (fun K' hK => ?_) AllReadyH.nil
    refine r_app (.tmp 12) (.tmp 14) rfl W0.heap.size _ 0 [] (by kernel_rfl) hoL ad1 _ cap1 (aB s1 b1) (by kernel_rfl) rfl V1.heap.size hI1 (own_none hI1 hl1.1) (by omega) hbV.size (by kernel_rfl) (fun v3 W3 ho3 hg3 => hK.out _ _ ⟨hS.1.below ((Below.refl W0.heap.size V1).grown hg3 hbV.size (own_blockP hoL)) HB1.out.lt, hS.2.below ((Below.refl W0.heap.size V1).grown hg3 hbV.size (own_blockP hoL)) HB2.out.lt⟩ (fun hS => ?_))
    simp only [List.getElem_toArray, List.getElem_cons_zero, List.getElem_cons_succ, Act.put, List.setIfInBounds_toArray, List.set_cons_zero, List.set_cons_succ]
    have hb3 : Below W0.heap.size W0 W3 := hbV.grown hg3 hbV.size (own_blockP hoL)
    rw [Nat.zero_add, List.nil_append] at ho3
    refine wpAnyH_ready (rs := [5]) (by kernel_rfl) (by simp) ?_
    refine AllReadyH.cons rfl (fun K' hK => ?_) AllReadyH.nil
    refine step_callE 23 #[.agg (adr s2 b2)] (by kernel_rfl) (by kernel_rfl) (HA2.out _) (fun v4 W4 h4 => hK.out _ _ ⟨hS.1.kept h4.2, hS.2.kept h4.2⟩ (fun hS => ?_))
    simp only [List.getElem_toArray, List.getElem_cons_zero, List.getElem_cons_succ, Act.put, List.setIfInBounds_toArray, List.set_cons_zero, List.set_cons_succ]
    obtain ⟨⟨ad4, cap4, e4, hI4⟩, h4⟩ := h4
    subst e4
    have ho4 := own_below ho3 h4
    have hb4 : Below W0.heap.size W0 W4 := hb3.trans (h4.mono hb3.size)
    refine wpAnyH_ready (rs := [6]) (by kernel_rfl) (by simp) ?_
    refine AllReadyH.cons rfl (fun K' hK => ?_) AllReadyH.nil
    refine r_app (.tmp 15) (.tmp 17) rfl W0.heap.size v3 _ _ (by kernel_rfl) ho4 ad4 _ cap4 (aB s2 b2) (by kernel_rfl) rfl W4.heap.size hI4 (own_none hI4 hl2.1) (by omega) hb4.size (by kernel_rfl) (fun v6 W6 ho6 hg6 => hK.out _ _ ⟨hS.1.below ((Below.refl W0.heap.size W4).grown hg6 hb4.size (own_blockP ho4)) HB1.out.lt, hS.2.below ((Below.refl W0.heap.size W4).grown hg6 hb4.size (own_blockP ho4)) HB2.out.lt⟩ (fun hS => ?_))
    simp only [List.getElem_toArray, List.getElem_cons_zero, List.getElem_cons_succ, Act.put, List.setIfInBounds_toArray, List.set_cons_zero, List.set_cons_succ]
    refine wpAnyH_take (i := 7) (v := v6) rfl (by kernel_rfl) (by kernel_rfl) (by kernel_rfl) (fun _ _ _ h => h) (.inl ⟨by kernel_rfl, fun _ _ => by kernel_rfl⟩) hS ?_
    simp only [List.getElem_toArray, List.getElem_cons_zero, List.getElem_cons_succ, Act.put, List.setIfInBounds_toArray, List.set_cons_zero, List.set_cons_succ]
    refine wpAnyH_done (by kernel_rfl) ?_ _
    have hb6 : Below W0.heap.size W0 W6 := hb4.grown hg6 hb4.size (own_blockP ho4)
    have hx6 : W6.cell? ⟨w.heap.size, 0, none⟩ = some (.bool s1) := (hb6.cell (p := ⟨w.heap.size, 0, none⟩) HB1.out.lt).trans HX1.out
    rw [← List.map_append] at ho6
    have HO6 := hid ho6
    have Hb6 : Hid (Below w.heap.size w W6) := hid (Hb0.out.trans (hb6.mono Hb0.out.size))
    have Hz6 : Hid (W0.heap.size ≤ W6.heap.size) := hid hb6.size
    have Hz0 : Hid (w.heap.size ≤ W0.heap.size) := hid Hb0.out.size
    have HP : Hid (psd s1 b1 s2 b2 p n = aB s1 b1 ++ aB s2 b2 ++ psT s1 p n) := hid rfl
    have hln : (aB s1 b1).length + (aB s2 b2).length ≤ 32 := by omega
    have HEl : Hid ((aB s1 b1 ++ aB s2 b2).length = (aB s1 b1).length + (aB s2 b2).length) := hid List.length_append
    generalize aB s1 b1 ++ aB s2 b2 = E at *
    generalize (aB s1 b1).length + (aB s2 b2).length = el at *
    generalize psd s1 b1 s2 b2 p n = R at *
    clear hS hS0 hoL hI1 hbV ho3 hg3 hb3 hI4 h4 ho4 hb4 ho6 hg6 hb6 hl1 hl2
    have u1 := k_eq n
    have u2 := p_eq p
    cases s1
    · go_upto_region 6 with fail
      clear u1 u2
      obtain ⟨K, hK⟩ : ∃ K : Nat, n % 4294967296 = (K : Int) := ⟨(n % 4294967296).toNat, by omega⟩
      have hKl : K < 4294967296 := by omega
      obtain ⟨P, hP⟩ : ∃ P : Nat, p % 256 = (P : Int) := ⟨(p % 256).toNat, by omega⟩
      have hPl : P < 256 := by omega
      rw [hK, hP]
      have HK := hid hK
      have HPp := hid hP
      clear hK hP
      obtain ⟨X, hX⟩ : ∃ X, W6.alloc (.cells #[.int .u8 0, .int .u8 ((P : Int)), .int .u8 ((K : Int) / 256 % 256), .int .u8 ((K : Int) % 256)] 5) = X := ⟨_, rfl⟩
      have hIm : Bys X.heap.size X (some ⟨W6.heap.size, 0, none⟩) [0, (P : Int), (K : Int) / 256 % 256, (K : Int) % 256] := by rw [← hX]; exact bys_new W6 5 [0, (P : Int), (K : Int) / 256 % 256, (K : Int) % 256]
      have hbX : Below W6.heap.size W6 X := by rw [← hX]; exact (Below.refl _ _).alloc (Nat.le_refl _) _
      have HIm := hid hIm
      have HbX := hid hbX
      have HX := hid hX
      clear hIm hbX hX
      go_wp2_with ((show wpList _ _ _ (⟨some 56, _, _, _, _, _⟩ :: _) _ _); go_must (rw [HX.out]; refine wpl_app (.tmp 46) (.tmp 55) rfl W0.heap.size v6 el _ rfl (own_below HO6.out HbX.out) (some ⟨W6.heap.size, 0, none⟩) 4 4 [0, (P : Int), (K : Int) / 256 % 256, (K : Int) % 256] rfl rfl X.heap.size HIm.out (fun h => by cases h) (by omega) (Nat.le_trans Hz6.out HbX.out.size) rfl ?_; intro v7 W7 ho7 hg7))
      have F : Hid (OwnEnd R w (.returned v7) W7) := hid ⟨v7, rfl, by
        rw [HP.out, psT_false p n K P (by omega) HK.out HPp.out, List.length_append, HEl.out, List.map_append]
        exact own_mono ho7 Hz0.out, (sbel2 Hb6.out HbX.out).grown hg7 (sbel2 Hb6.out HbX.out).size (fun q e => Nat.le_trans Hz0.out (own_blockP HO6.out q e))⟩
      clear ho7 hg7
      go_ret
      exact F.out
    · go_upto_region 5 with fail
      clear u1 u2
      obtain ⟨K, hK⟩ : ∃ K : Nat, n % 4294967296 = (K : Int) := ⟨(n % 4294967296).toNat, by omega⟩
      have hKl : K < 4294967296 := by omega
      obtain ⟨P, hP⟩ : ∃ P : Nat, p % 256 = (P : Int) := ⟨(p % 256).toNat, by omega⟩
      have hPl : P < 256 := by omega
      rw [hK, hP]
      have HK := hid hK
      have HPp := hid hP
      clear hK hP
      obtain ⟨X, hX⟩ : ∃ X, W6.alloc (.cells #[.int .u8 ((K : Int) / 16777216), .int .u8 ((K : Int) / 65536 % 256), .int .u8 ((K : Int) / 256 % 256), .int .u8 ((K : Int) % 256), .int .u8 0, .int .u8 0, .int .u8 0, .int .u8 ((P : Int))] 5) = X := ⟨_, rfl⟩
      have hIm : Bys X.heap.size X (some ⟨W6.heap.size, 0, none⟩) [(K : Int) / 16777216, (K : Int) / 65536 % 256, (K : Int) / 256 % 256, (K : Int) % 256, 0, 0, 0, (P : Int)] := by rw [← hX]; exact bys_new W6 5 [(K : Int) / 16777216, (K : Int) / 65536 % 256, (K : Int) / 256 % 256, (K : Int) % 256, 0, 0, 0, (P : Int)]
      have hbX : Below W6.heap.size W6 X := by rw [← hX]; exact (Below.refl _ _).alloc (Nat.le_refl _) _
      have HIm := hid hIm
      have HbX := hid hbX
      have HX := hid hX
      clear hIm hbX hX
      go_wp2_with ((show wpList _ _ _ (⟨some 45, _, _, _, _, _⟩ :: _) _ _); go_must (rw [HX.out]; refine wpl_app (.tmp 28) (.tmp 44) rfl W0.heap.size v6 el _ rfl (own_below HO6.out HbX.out) (some ⟨W6.heap.size, 0, none⟩) 8 8 [(K : Int) / 16777216, (K : Int) / 65536 % 256, (K : Int) / 256 % 256, (K : Int) % 256, 0, 0, 0, (P : Int)] rfl rfl X.heap.size HIm.out (fun h => by cases h) (by omega) (Nat.le_trans Hz6.out HbX.out.size) rfl ?_; intro v7 W7 ho7 hg7))
      have F : Hid (OwnEnd R w (.returned v7) W7) := hid ⟨v7, rfl, by
        rw [HP.out, psT_true p n K P (by omega) HK.out HPp.out, List.length_append, HEl.out, List.map_append]
        exact own_mono ho7 Hz0.out, (sbel2 Hb6.out HbX.out).grown hg7 (sbel2 Hb6.out HbX.out).size (fun q e => Nat.le_trans Hz0.out (own_blockP HO6.out q e))⟩
      clear ho7 hg7
      go_ret
      exact F.out
end Go.Proofs.YtnlhdeffoalhiaaDoor
