/-
  sums.Pseudo.
-/
import Derived.Test.YtnlhdeffoalhiaaDoorScat
import Derived.Test.YtnlhdeffoalhiaaDoorSnum
namespace Go.Proofs.YtnlhdeffoalhiaaDoor
open Go.RowKit Go.Lib

/-- The bytes of an address. -/
def aB (s : Bool) (b : List Int) : List Int := if s then b.take 16 else b.take 4
theorem aB_length (s : Bool) (b : List Int) (hl : b.length = 16) : (aB s b).length = if s then 16 else 4 := by cases s <;> simp [aB, hl]
theorem abytes_any (s : Bool) (b : List Int) (hl : b.length = 16) (w : World) : Calls Tryd.prog 20 #[.agg (adr s b)] w (OwnEnd (aB s b) w) := by
  cases s
  · exact abytes_false b hl w
  · exact abytes_true b hl w

/-- What stands behind the addresses. -/
def psT (s : Bool) (p n : Int) : List Int := if s then be (n % 4294967296).toNat 4 ++ [0, 0, 0, p % 256] else [0, p % 256] ++ be (n % 65536).toNat 2
/-- The bytes ahead of a part. -/
def psd (s1 : Bool) (b1 : List Int) (s2 : Bool) (b2 : List Int) (p n : Int) : List Int := aB s1 b1 ++ aB s2 b2 ++ psT s1 p n
theorem u8_wrap (p : Int) : IntKind.u8.wrap p = p % 256 := by simp [IntKind.wrap, IntKind.bits, IntKind.signed]

theorem own_blockP {w : World} {base : Nat} {v : Value} {n : Nat} {xs : List Value} (h : w.ownsRow base 5 1 v n xs) : ∀ k, v.ownBlock = some k → base ≤ k := fun k e => by
  rcases h.2 with ⟨rfl, _⟩ | ⟨g, cap, cur, rfl, hb, _⟩
  · cases e
  · cases e
    exact hb

set_option maxRecDepth 100000 in
set_option maxHeartbeats 4000000 in
theorem spseudo_any (s1 s2 : Bool) (b1 b2 : List Int) (hl1 : b1.length = 16) (hl2 : b2.length = 16) (p n : Int) (w : World) :
    Calls Tryd.prog 11 #[.agg (adr s1 b1), .agg (adr s2 b2), .int .i64 p, .int .i64 n] w (OwnEnd (psd s1 b1 s2 b2 p n) w) := by
  obtain ⟨W0, hW0⟩ : ∃ W, W = (w.alloc (.cells (adr s1 b1) 31)).alloc (.cells (adr s2 b2) 31) := ⟨_, rfl⟩
  have hB1 : Blk W0 w.heap.size 31 (adr s1 b1) := hW0 ▸ (Blk.new w _ _).alloc _
  have hB2 : Blk W0 (w.heap.size + 1) 31 (adr s2 b2) := by have := Blk.new (w.alloc (.cells (adr s1 b1) 31)) 31 (adr s2 b2); rw [World.size_alloc] at this; exact hW0 ▸ this
  have hb0 : Below w.heap.size w W0 := hW0 ▸ ((Below.refl _ _).alloc (Nat.le_refl _) _).alloc (by simp) _
  have HW0 := hid hW0.symm
  have HB1 := hid hB1
  have HB2 := hid hB2
  have Hb0 := hid hb0
  have L1 : Hid (17 = (adr s1 b1).size) := hid (by rw [adr_size, hl1])
  have L2 : Hid (17 = (adr s2 b2).size) := hid (by rw [adr_size, hl2])
  have HA1 := hid (abytes_any s1 b1 hl1)
  have HA2 := hid (abytes_any s2 b2 hl2)
  have HL1 := hid (aB_length s1 b1 hl1)
  have HL2 := hid (aB_length s2 b2 hl2)
  have HX1 : Hid (W0.cell? ⟨w.heap.size, 0, none⟩ = some (.bool s1)) := hid (by rw [hB1.cell]; rfl)
  clear hW0 hB1 hB2 hb0 hl1 hl2
  go_enter Tryd.func11, Tryd.ntmps11
  go_upto_region 1 with fail
  rw [HW0.out]
  have hS0 : Blk W0.drew w.heap.size 31 (adr s1 b1) ∧ Blk W0.drew (w.heap.size + 1) 31 (adr s2 b2) := ⟨HB1.out, HB2.out⟩
  refine wp_region_held_drew (S := fun V => Blk V w.heap.size 31 (adr s1 b1) ∧ Blk V (w.heap.size + 1) 31 (adr s2 b2)) (by kernel_rfl) hS0 (fun hS => ?_)
  change wpAnyH _ _ _ _ _ 6 #[false, false, false, false, false, false] _ _
  refine wpAnyH_take (i := 0) (v := .agg (adr s1 b1)) rfl (by kernel_rfl) (by kernel_rfl) (by kernel_rfl) (fun _ _ _ h => h) (yields_load 31 (.tmp 4) rfl w.heap.size (by kernel_rfl) 31 _ _ (fun _ h => h.1) Tryd.underlying31 rfl 17 Tryd.infoAddr L1.out (by kernel_rfl)) hS ?_
  simp only [List.getElem_toArray, List.getElem_cons_zero, Act.put, List.setIfInBounds_toArray, List.set_cons_zero, List.set_cons_succ]
  refine wpAnyH_take (i := 2) (v := .agg (adr s2 b2)) rfl (by kernel_rfl) (by kernel_rfl) (by kernel_rfl) (fun _ _ _ h => h) (yields_load 31 (.tmp 5) rfl (w.heap.size + 1) (by kernel_rfl) 31 _ _ (fun _ h => h.2) Tryd.underlying31 rfl 17 Tryd.infoAddr L2.out (by kernel_rfl)) hS ?_
  simp only [List.getElem_toArray, List.getElem_cons_zero, List.getElem_cons_succ, Act.put, List.setIfInBounds_toArray, List.set_cons_zero, List.set_cons_succ]
  refine wpAnyH_ready (rs := [1]) (by kernel_rfl) (by simp) ?_
  refine AllReadyH.cons rfl (fun K' hK => ?_) AllReadyH.nil
  refine step_callE 20 #[.agg (adr s1 b1)] (by kernel_rfl) (by kernel_rfl) (HA1.out _) (fun v1 W1 h1 => hK.out _ _ ⟨hS.1.kept h1.2, hS.2.kept h1.2⟩ (fun hS => ?_))
  simp only [List.getElem_toArray, List.getElem_cons_zero, List.getElem_cons_succ, Act.put, List.setIfInBounds_toArray, List.set_cons_zero, List.set_cons_succ]
  refine wpAnyH_ready (rs := [3]) (by kernel_rfl) (by simp) ?_
  refine AllReadyH.cons rfl (fun K' hK => ?_) AllReadyH.nil
  refine step_callE 20 #[.agg (adr s2 b2)] (by kernel_rfl) (by kernel_rfl) (HA2.out _) (fun v2 W2 h2 => hK.out _ _ ⟨hS.1.kept h2.2, hS.2.kept h2.2⟩ (fun hS => ?_))
  simp only [List.getElem_toArray, List.getElem_cons_zero, List.getElem_cons_succ, Act.put, List.setIfInBounds_toArray, List.set_cons_zero, List.set_cons_succ]
  have hb1 : Below w.heap.size w W1 := sbel2 (Hb0.out.drew) h1.2
  have hb2 : Below w.heap.size w W2 := sbel2 hb1 h2.2
  have ho1 := own_below h1.1 h2.2
  obtain ⟨hk2, ad2, cap2, e2, hc2, hI2⟩ := own_bys h2.1
  subst e2
  have hlw : W0.heap.size ≤ W2.heap.size := Nat.le_trans h1.2.size h2.2.size
  have hle0 : w.heap.size ≤ W0.heap.size := Hb0.out.size
  refine wpAnyH_ready (rs := [4]) (by kernel_rfl) (by simp) ?_
  refine AllReadyH.cons rfl (fun K' hK => ?_) AllReadyH.nil
  refine r_app (.tmp 11) (.tmp 13) rfl W0.heap.size v1 _ _ (by kernel_rfl) ho1 ad2 _ cap2 (aB s2 b2) (by kernel_rfl) rfl W2.heap.size hI2 (fun h => by subst h; obtain ⟨g, o, e, _⟩ := hI2 0 (by have := HL2.out; cases s2 <;> simp at this <;> omega); cases e) (by have := HL1.out; have := HL2.out; cases s1 <;> cases s2 <;> simp at * <;> omega) hlw (by kernel_rfl) (fun v3 W3 ho3 hg3 => hK.out _ _ ⟨hS.1.below ((Below.refl W0.heap.size W2).grown hg3 hlw (own_blockP ho1)) HB1.out.lt, hS.2.below ((Below.refl W0.heap.size W2).grown hg3 hlw (own_blockP ho1)) HB2.out.lt⟩ (fun hS => ?_))
  simp only [List.getElem_toArray, List.getElem_cons_zero, List.getElem_cons_succ, Act.put, List.setIfInBounds_toArray, List.set_cons_zero, List.set_cons_succ]
  refine wpAnyH_take (i := 5) (v := v3) rfl (by kernel_rfl) (by kernel_rfl) (by kernel_rfl) (fun _ _ _ h => h) (.inl ⟨by kernel_rfl, fun _ _ => by kernel_rfl⟩) hS ?_
  simp only [List.getElem_toArray, List.getElem_cons_zero, List.getElem_cons_succ, Act.put, List.setIfInBounds_toArray, List.set_cons_zero, List.set_cons_succ]
  refine wpAnyH_done (by kernel_rfl) ?_ _
  rw [← List.map_append] at ho3
  have hb3 : Below w.heap.size w W3 := hb2.grown hg3 hb2.size (fun k e => Nat.le_trans hle0 (own_blockP ho1 k e))
  have hb3' : Below W0.heap.size W0 W3 := (((Below.refl W0.heap.size W0).drew.trans (h1.2.mono (Nat.le_refl _))).trans (h2.2.mono h1.2.size)).grown hg3 hlw (own_blockP ho1)
  obtain ⟨hk3, ad3, cap3, e3, hc3, hI3⟩ := own_bys ho3
  subst e3
  have hx3 : W3.cell? ⟨w.heap.size, 0, none⟩ = some (.bool s1) := (hb3'.cell (p := ⟨w.heap.size, 0, none⟩) HB1.out.lt).trans HX1.out
  have hln : 0 < (aB s1 b1).length + (aB s2 b2).length ∧ (aB s1 b1).length + (aB s2 b2).length ≤ 32 := by have := HL1.out; have := HL2.out; cases s1 <;> cases s2 <;> simp at * <;> omega
  have hno : ad3 = none → (aB s1 b1 ++ aB s2 b2).length = 0 ∧ cap3 = 0 := fun h => by subst h; obtain ⟨g, o, e, _⟩ := hI3 0 (by omega); cases e
  have HI3 := hid hI3
  have HNo := hid hno
  have Hb3 := hid hb3
  have HK3 := hid hk3
  have HP : Hid (psd s1 b1 s2 b2 p n = aB s1 b1 ++ aB s2 b2 ++ psT s1 p n) := hid rfl
  generalize aB s1 b1 ++ aB s2 b2 = E at *
  generalize (aB s1 b1).length + (aB s2 b2).length = el at *
  generalize psd s1 b1 s2 b2 p n = R at *
  clear hS hS0 h1 h2 ho1 ho3 hg3 hb1 hb2 hb3 hb3' hk2 hc2 hI2 hlw hle0 hI3 hno hk3
  obtain rfl : el = E.length := HK3.out.symm
  cases s1
  · obtain ⟨m, hm⟩ : ∃ m, (n % 65536).toNat = m := ⟨_, rfl⟩
    have HLow := hid (low2_any n)
    rw [hm] at HLow
    have HT : Hid (psT false p n = [0, p % 256] ++ be m 2) := hid (by rw [← hm]; rfl)
    clear hm
    unfold LowEnd at HLow
    have hu := u8_wrap p
    obtain ⟨X0, hX0⟩ : ∃ X0, W3.alloc (.cells #[.int .u8 0, .int .u8 (p % 256)] 5) = X0 := ⟨_, rfl⟩
    have hs0 : X0.heap.size = W3.heap.size + 1 := by rw [← hX0]; simp
    have hbX : Below W3.heap.size W3 X0 := by rw [← hX0]; exact (Below.refl _ _).alloc (Nat.le_refl _) _
    have hIm : Bys X0.heap.size X0 (some ⟨W3.heap.size, 0, none⟩) [0, p % 256] := by rw [← hX0]; exact bys_new W3 5 [0, p % 256]
    have HIm := hid hIm
    have HX0 := hid hX0
    have HbX := hid hbX
    have HS0 := hid hs0
    clear hX0 hbX hIm hs0
    go_wp2_with fail
    rw [HX0.out]
    refine (HLow.out _).mono ?_
    rintro e W4 ⟨rfl, ho4, hb4⟩
    obtain ⟨_, ad4, cap4, e4, _, hI4⟩ := own_bys ho4
    cases e4
    have hz4 := hb4.size
    obtain ⟨X, hX⟩ : ∃ X, W4.alloc (.cells #[.slice ad3 E.length cap3, .slice (some ⟨W3.heap.size, 0, none⟩) 2 2, .slice (some ⟨X0.heap.size, 0, none⟩) 2 2] 33) = X := ⟨_, rfl⟩
    have hbX4 : Below W4.heap.size W4 X := by rw [← hX]; exact (Below.refl _ _).alloc (Nat.le_refl _) _
    have HX : Hid (Below w.heap.size w X) := hid (sbel2 (sbel2 (sbel2 Hb3.out HbX.out) hb4) hbX4)
    have hcat := concat_any W4.heap.size [(ad3, cap3, E), (some ⟨W3.heap.size, 0, none⟩, 2, [0, p % 256]), (some ⟨X0.heap.size, 0, none⟩, 2, be m 2)] W4.heap.size (by simp [psum, be_length]) (by have := HK3.out; simp [psum, be_length]; omega) (by simp) X hbX4.size (by rw [← hX]; simp) (fun k hk => by
      rw [← hX, new_cell]
      match k, hk with
      | 0, _ => rfl
      | 1, _ => rfl
      | 2, _ => simp [partV, be_length]) (fun q hq => by
      simp only [List.mem_cons, List.not_mem_nil, or_false] at hq
      rcases hq with rfl | rfl | rfl
      · exact ⟨(((HI3.out.below (HbX.out)).below (hb4.mono (by have := HS0.out; omega))).mono (by have := HS0.out; omega)).below hbX4, HNo.out⟩
      · exact ⟨((HIm.out.below hb4).mono hz4).below hbX4, fun h => by cases h⟩
      · exact ⟨hI4.below hbX4, fun h => by cases h⟩)
    have HCat : Hid (Calls Tryd.prog 21 #[.slice (some ⟨W4.heap.size, 0, none⟩) 3 3] X (OwnEnd (pcat [(ad3, cap3, E), (some ⟨W3.heap.size, 0, none⟩, 2, [0, p % 256]), (some ⟨X0.heap.size, 0, none⟩, 2, be m 2)]) X)) := hid hcat
    have HPC : Hid (E ++ ([0, p % 256] ++ be m 2) = pcat [(ad3, cap3, E), (some ⟨W3.heap.size, 0, none⟩, 2, [0, p % 256]), (some ⟨X0.heap.size, 0, none⟩, 2, be m 2)]) := hid (by simp [pcat])
    have HXX := hid hX
    clear hcat hX hbX4 hI4 ho4 hb4 hz4
    go_wp2_with fail
    rw [HXX.out]
    refine HCat.out.mono ?_
    rintro e V ⟨v5, rfl, ho5, hb5⟩
    have F : Hid (OwnEnd R w (.returned v5) V) := hid ⟨_, rfl, by
      rw [HP.out, HT.out, HPC.out]
      exact own_mono ho5 HX.out.size, sbel2 HX.out hb5⟩
    clear ho5 hb5
    go_wp2
    go_ret
    exact F.out
  · obtain ⟨m, hm⟩ : ∃ m, (n % 4294967296).toNat = m := ⟨_, rfl⟩
    have HLow := hid (low4_any n)
    rw [hm] at HLow
    have HT : Hid (psT true p n = be m 4 ++ [0, 0, 0, p % 256]) := hid (by rw [← hm]; rfl)
    clear hm
    unfold LowEnd at HLow
    have hu := u8_wrap p
    go_wp2_with fail
    refine (HLow.out _).mono ?_
    rintro e W4 ⟨rfl, ho4, hb4⟩
    obtain ⟨_, ad4, cap4, e4, _, hI4⟩ := own_bys ho4
    cases e4
    obtain ⟨X0, hX0⟩ : ∃ X0, W4.alloc (.cells #[.int .u8 0, .int .u8 0, .int .u8 0, .int .u8 (p % 256)] 5) = X0 := ⟨_, rfl⟩
    have hs0 : X0.heap.size = W4.heap.size + 1 := by rw [← hX0]; simp
    have hbX : Below W4.heap.size W4 X0 := by rw [← hX0]; exact (Below.refl _ _).alloc (Nat.le_refl _) _
    have hIm : Bys X0.heap.size X0 (some ⟨W4.heap.size, 0, none⟩) [0, 0, 0, p % 256] := by rw [← hX0]; exact bys_new W4 5 [0, 0, 0, p % 256]
    obtain ⟨X, hX⟩ : ∃ X, X0.alloc (.cells #[.slice ad3 E.length cap3, .slice (some ⟨W3.heap.size, 0, none⟩) 4 4, .slice (some ⟨W4.heap.size, 0, none⟩) 4 4] 33) = X := ⟨_, rfl⟩
    have hbX4 : Below X0.heap.size X0 X := by rw [← hX]; exact (Below.refl _ _).alloc (Nat.le_refl _) _
    have HX : Hid (Below w.heap.size w X) := hid (sbel2 (sbel2 (sbel2 Hb3.out hb4) hbX) hbX4)
    have hcat := concat_any X0.heap.size [(ad3, cap3, E), (some ⟨W3.heap.size, 0, none⟩, 4, be m 4), (some ⟨W4.heap.size, 0, none⟩, 4, [0, 0, 0, p % 256])] X0.heap.size (by simp [psum, be_length]) (by have := HK3.out; simp [psum, be_length]; omega) (by simp) X hbX4.size (by rw [← hX]; simp) (fun k hk => by
      rw [← hX, new_cell]
      match k, hk with
      | 0, _ => rfl
      | 1, _ => simp [partV, be_length]
      | 2, _ => rfl) (fun q hq => by
      simp only [List.mem_cons, List.not_mem_nil, or_false] at hq
      rcases hq with rfl | rfl | rfl
      · exact ⟨((((HI3.out.below hb4).mono hb4.size).below hbX).mono hbX.size).below hbX4, HNo.out⟩
      · exact ⟨((hI4.below hbX).mono hbX.size).below hbX4, fun h => by cases h⟩
      · exact ⟨hIm.below hbX4, fun h => by cases h⟩)
    rw [hs0] at hcat
    have HCat : Hid (Calls Tryd.prog 21 #[.slice (some ⟨W4.heap.size + 1, 0, none⟩) 3 3] X (OwnEnd (pcat [(ad3, cap3, E), (some ⟨W3.heap.size, 0, none⟩, 4, be m 4), (some ⟨W4.heap.size, 0, none⟩, 4, [0, 0, 0, p % 256])]) X)) := hid hcat
    have HPC : Hid (E ++ (be m 4 ++ [0, 0, 0, p % 256]) = pcat [(ad3, cap3, E), (some ⟨W3.heap.size, 0, none⟩, 4, be m 4), (some ⟨W4.heap.size, 0, none⟩, 4, [0, 0, 0, p % 256])]) := hid (by simp [pcat])
    have HXX := hid hX
    have HX0 := hid hX0
    clear hcat hX hX0 hbX4 hbX hI4 ho4 hb4 hIm hs0
    go_wp2_with fail
    rw [HX0.out, HXX.out]
    refine HCat.out.mono ?_
    rintro e V ⟨v5, rfl, ho5, hb5⟩
    have F : Hid (OwnEnd R w (.returned v5) V) := hid ⟨_, rfl, by
      rw [HP.out, HT.out, HPC.out]
      exact own_mono ho5 HX.out.size, sbel2 HX.out hb5⟩
    clear ho5 hb5
    go_wp2
    go_ret
    exact F.out
end Go.Proofs.YtnlhdeffoalhiaaDoor
