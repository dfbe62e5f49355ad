/-
  hash.Tuple and the document's Tuple: the bytes of a protocol and two points.
-/
import Derived.Test.YtijboclcbbnhbaaTput
import Derived.Test.YtijboclcbbnhbaaTcat
import Derived.Test.YtijboclcbbnhbaaHmix
namespace Go.Proofs.Ytijboclcbbnhbaa
open Go.RowKit Go.Lib

/-- A protocol and two points as bytes. -/
def tupB (p : Int) (s1 : Bool) (b1 : List Int) (n1 : Int) (s2 : Bool) (b2 : List Int) (n2 : Int) : List Int := [p % 256] ++ putP s1 b1 n1 ++ putP s2 b2 n2
theorem putP_len (s : Bool) (b : List Int) (n : Int) (hl : b.length = 16) : (putP s b n).length ≤ 19 ∧ 0 < (putP s b n).length := by
  unfold putP
  rw [List.length_append, putA_len s b hl]
  split <;> simp
theorem own_read {w : World} {base : Nat} {v : Value} {l : List Int} (h : w.ownsRow base 5 1 v l.length (l.map (Value.int .u8))) (hp : 0 < l.length) : ∃ ad cap, v = .slice ad l.length cap ∧ Bys w.heap.size w ad l ∧ (ad = none → l.length = 0 ∧ cap = 0) := by
  obtain ⟨_, ad, cap, e, _, hI⟩ := own_bys h
  exact ⟨ad, cap, e, hI, fun h => by subst h; obtain ⟨g, o, e, _⟩ := hI 0 hp; cases e⟩

set_option maxRecDepth 100000 in
set_option maxHeartbeats 8000000 in
theorem htuple_any (p : Int) (s1 : Bool) (b1 : List Int) (n1 : Int) (s2 : Bool) (b2 : List Int) (n2 : Int) (hl1 : b1.length = 16) (hl2 : b2.length = 16) (w : World) :
    Calls Try.prog 5 #[.int .i64 p, .agg (pnt s1 b1 n1), .agg (pnt s2 b2 n2)] w (OwnEnd (tupB p s1 b1 n1 s2 b2 n2) w) := by
  obtain ⟨W0, hW0⟩ : ∃ W, W = (w.alloc (.cells (pnt s1 b1 n1) 26)).alloc (.cells (pnt s2 b2 n2) 26) := ⟨_, rfl⟩
  have hB1 : Blk W0 w.heap.size 26 (pnt s1 b1 n1) := hW0 ▸ (Blk.new w _ _).alloc _
  have hB2 : Blk W0 (w.heap.size + 1) 26 (pnt s2 b2 n2) := by have := Blk.new (w.alloc (.cells (pnt s1 b1 n1) 26)) 26 (pnt s2 b2 n2); rw [World.size_alloc] at this; exact hW0 ▸ this
  have hb0 : Below w.heap.size w W0 := hW0 ▸ ((Below.refl _ _).alloc (Nat.le_refl _) _).alloc (by simp) _
  have HW0 := hid hW0.symm
  have HB1 := hid hB1
  have HB2 := hid hB2
  have Hb0 := hid hb0
  have L1 : Hid (18 = (pnt s1 b1 n1).size) := hid (by rw [pnt_size, hl1])
  have L2 : Hid (18 = (pnt s2 b2 n2).size) := hid (by rw [pnt_size, hl2])
  have HA1 := hid (pput_any s1 b1 hl1 n1)
  have HA2 := hid (pput_any s2 b2 hl2 n2)
  have HL1 := hid (putP_len s1 b1 n1 hl1)
  have HL2 := hid (putP_len s2 b2 n2 hl2)
  have HT : Hid (tupB p s1 b1 n1 s2 b2 n2 = pcat [((none : Option Addr), 0, [p % 256]), (none, 0, putP s1 b1 n1), (none, 0, putP s2 b2 n2)]) := hid (by simp [tupB, pcat])
  clear hW0 hB1 hB2 hb0 hl1 hl2
  go_enter Try.func5, Try.ntmps5
  go_upto_region 1 with fail
  rw [HW0.out]
  have hS0 : Blk W0.drew w.heap.size 26 (pnt s1 b1 n1) ∧ Blk W0.drew (w.heap.size + 1) 26 (pnt s2 b2 n2) := ⟨HB1.out, HB2.out⟩
  have Hd : Hid (Below w.heap.size w W0.drew) := hid Hb0.out.drew
  generalize hbytes1 : putP s1 b1 n1 = B1 at *
  generalize hbytes2 : putP s2 b2 n2 = B2 at *
  generalize tupB p s1 b1 n1 s2 b2 n2 = R at *
  refine wp_region_held_drew (S := fun V => Blk V w.heap.size 26 (pnt s1 b1 n1) ∧ Blk V (w.heap.size + 1) 26 (pnt s2 b2 n2)) (by kernel_rfl) hS0 (fun hS => ?_)
  change wpAnyH _ _ _ _ _ 10 #[false, false, false, false, false, false, false, false, false, false] _ _
  refine wpAnyH_take (i := 0) (v := .int .i64 p) rfl (by kernel_rfl) (by kernel_rfl) (by kernel_rfl) (fun _ _ _ h => h) (.inl ⟨by kernel_rfl, fun _ _ => by kernel_rfl⟩) hS ?_
  simp only [List.getElem_toArray, List.getElem_cons_zero, Act.put, List.setIfInBounds_toArray, List.set_cons_zero, List.set_cons_succ]
  refine wpAnyH_take (i := 1) (v := .int .u8 (p % 256)) rfl (by kernel_rfl) (by kernel_rfl) (by kernel_rfl) (fun _ _ _ h => h) (.inl ⟨by kernel_rfl, fun w' hw' => exec_byte (.tmp 7) rfl p (by kernel_rfl)⟩) hS ?_
  simp only [List.getElem_toArray, List.getElem_cons_zero, List.getElem_cons_succ, Act.put, List.setIfInBounds_toArray, List.set_cons_zero, List.set_cons_succ]
  refine wpAnyH_take (i := 3) (v := .agg (pnt s1 b1 n1)) rfl (by kernel_rfl) (by kernel_rfl) (by kernel_rfl) (fun _ _ _ h => h) (yields_load 26 (.tmp 4) rfl w.heap.size (by kernel_rfl) 26 _ _ (fun _ h => h.1) Try.underlying26 rfl 18 Try.infoPoint L1.out (by kernel_rfl)) hS ?_
  simp only [List.getElem_toArray, List.getElem_cons_zero, List.getElem_cons_succ, Act.put, List.setIfInBounds_toArray, List.set_cons_zero, List.set_cons_succ]
  refine wpAnyH_take (i := 5) (v := .agg (pnt s2 b2 n2)) rfl (by kernel_rfl) (by kernel_rfl) (by kernel_rfl) (fun _ _ _ h => h) (yields_load 26 (.tmp 5) rfl (w.heap.size + 1) (by kernel_rfl) 26 _ _ (fun _ h => h.2) Try.underlying26 rfl 18 Try.infoPoint L2.out (by kernel_rfl)) hS ?_
  simp only [List.getElem_toArray, List.getElem_cons_zero, List.getElem_cons_succ, Act.put, List.setIfInBounds_toArray, List.set_cons_zero, List.set_cons_succ]
  refine wpAnyH_ready (rs := [2, 4]) (by kernel_rfl) (by simp) ?_
  refine AllReadyH.cons rfl (fun K' hK => ?_) (AllReadyH.cons rfl (fun K' hK => ?_) (AllReadyH.nil))
  ·
    obtain ⟨V1, hV1⟩ : ∃ V, V = W0.drew.alloc (.cells #[.int .u8 (p % 256)] 5) := ⟨_, rfl⟩
    have hv1 : Below W0.drew.heap.size W0.drew V1 := hV1 ▸ (Below.refl _ _).alloc (Nat.le_refl _) _
    have f2 : Bys V1.heap.size V1 (some ⟨W0.drew.heap.size, 0, none⟩) [p % 256] := hV1 ▸ bys_new W0.drew 5 [p % 256]
    refine step_run (.slice (some ⟨W0.drew.heap.size, 0, none⟩) 1 1) V1 (by rw [hV1]; kernel_rfl) (by kernel_rfl) (hK.out _ _ ⟨hS.1.kept hv1, hS.2.kept hv1⟩ (fun hS => ?_))
    obtain ⟨gL, hgL⟩ : ∃ gL, W0.drew.heap.size = gL := ⟨_, rfl⟩
    rw [hgL] at f2 ⊢
    clear hV1 hgL
    simp only [List.getElem_toArray, List.getElem_cons_zero, List.getElem_cons_succ, Act.put, List.setIfInBounds_toArray, List.set_cons_zero, List.set_cons_succ]
    refine wpAnyH_ready (rs := [4]) (by kernel_rfl) (by simp) ?_
    refine AllReadyH.cons rfl (fun K' hK => ?_) (AllReadyH.nil)
    refine step_callE 9 #[.agg (pnt s1 b1 n1)] (by kernel_rfl) (by kernel_rfl) (HA1.out _) (fun vA V2 hA => ?_)
    obtain ⟨hoA, hv2⟩ := hA
    obtain ⟨adA, capA, rfl, f4, noA⟩ := own_read hoA HL1.out.2
    refine hK.out _ _ ⟨hS.1.kept hv2, hS.2.kept hv2⟩ (fun hS => ?_)
    clear hoA
    simp only [List.getElem_toArray, List.getElem_cons_zero, List.getElem_cons_succ, Act.put, List.setIfInBounds_toArray, List.set_cons_zero, List.set_cons_succ]
    have f2 := (f2.below hv2).mono hv2.size
    refine wpAnyH_ready (rs := [6]) (by kernel_rfl) (by simp) ?_
    refine AllReadyH.cons rfl (fun K' hK => ?_) (AllReadyH.nil)
    refine step_callE 9 #[.agg (pnt s2 b2 n2)] (by kernel_rfl) (by kernel_rfl) (HA2.out _) (fun vB V3 hB => ?_)
    obtain ⟨hoB, hv3⟩ := hB
    obtain ⟨adB, capB, rfl, f6, noB⟩ := own_read hoB HL2.out.2
    refine hK.out _ _ ⟨hS.1.kept hv3, hS.2.kept hv3⟩ (fun hS => ?_)
    clear hoB
    simp only [List.getElem_toArray, List.getElem_cons_zero, List.getElem_cons_succ, Act.put, List.setIfInBounds_toArray, List.set_cons_zero, List.set_cons_succ]
    have f2 := (f2.below hv3).mono hv3.size
    have f4 := (f4.below hv3).mono hv3.size
    have HB3 : Hid (Below w.heap.size w V3) := hid (sbel2 (sbel2 (sbel2 Hd.out hv1) hv2) hv3)
    refine wpAnyH_ready (rs := [7]) (by kernel_rfl) (by simp) ?_
    refine AllReadyH.cons rfl (fun K' hK => ?_) AllReadyH.nil
    obtain ⟨X, hX⟩ : ∃ X, X = V3.alloc (.cells #[.slice (some ⟨gL, 0, none⟩) 1 1, .slice adA B1.length capA, .slice adB B2.length capB] 29) := ⟨_, rfl⟩
    have hx : Below V3.heap.size V3 X := hX ▸ (Below.refl _ _).alloc (Nat.le_refl _) _
    have hcat := concat_any V3.heap.size [(some ⟨gL, 0, none⟩, 1, [p % 256]), (adA, capA, B1), (adB, capB, B2)] V3.heap.size (by simp [psum]; omega) (by have := HL1.out; have := HL2.out; simp [psum]; omega) (by simp) X hx.size (by rw [hX]; simp) (fun k hk => by
      rw [hX, new_cell]
      match k, hk with
      | 0, _ => rfl
      | 1, _ => rfl
      | 2, _ => rfl) (fun q hq => by
      simp only [List.mem_cons, List.not_mem_nil, or_false] at hq
      rcases hq with rfl | rfl | rfl
      · exact ⟨f2.below hx, fun h => by cases h⟩
      · exact ⟨f4.below hx, noA⟩
      · exact ⟨f6.below hx, noB⟩)
    refine step_run (.slice (some ⟨V3.heap.size, 0, none⟩) 3 3) X (by rw [hX]; kernel_rfl) (by kernel_rfl) (hK.out _ _ ⟨hS.1.kept hx, hS.2.kept hx⟩ (fun hS => ?_))
    simp only [List.getElem_toArray, List.getElem_cons_zero, List.getElem_cons_succ, Act.put, List.setIfInBounds_toArray, List.set_cons_zero, List.set_cons_succ]
    refine wpAnyH_ready (rs := [8]) (by kernel_rfl) (by simp) ?_
    refine AllReadyH.cons rfl (fun K' hK => ?_) AllReadyH.nil
    have hcat' : Calls Try.prog 8 #[.slice (some ⟨V3.heap.size, 0, none⟩) 3 3] X (fun e w' => ∃ v, e = .returned v ∧ (w'.ownsRow X.heap.size 5 1 v R.length (R.map (Value.int .u8)) ∧ Below X.heap.size X w')) := by
      rw [HT.out]
      exact hcat
    refine step_callE 8 #[.slice (some ⟨V3.heap.size, 0, none⟩) 3 3] (by kernel_rfl) (by kernel_rfl) hcat' (fun vZ VZ hZ => hK.out _ _ ⟨hS.1.kept hZ.2, hS.2.kept hZ.2⟩ (fun hS => ?_))
    simp only [List.getElem_toArray, List.getElem_cons_zero, List.getElem_cons_succ, Act.put, List.setIfInBounds_toArray, List.set_cons_zero, List.set_cons_succ]
    have F : Hid (OwnEnd R w (.returned vZ) VZ) := hid ⟨vZ, rfl, own_mono hZ.1 (Nat.le_trans HB3.out.size hx.size), sbel2 (sbel2 HB3.out hx) hZ.2⟩
    refine wpAnyH_take (i := 9) (v := vZ) rfl (by kernel_rfl) (by kernel_rfl) (by kernel_rfl) (fun _ _ _ h => h) (.inl ⟨by kernel_rfl, fun _ _ => by kernel_rfl⟩) hS ?_
    simp only [List.getElem_toArray, List.getElem_cons_zero, List.getElem_cons_succ, Act.put, List.setIfInBounds_toArray, List.set_cons_zero, List.set_cons_succ]
    refine wpAnyH_done (by kernel_rfl) ?_ _
    clear hS hZ hcat hcat' hx hX
    go_wp2
    go_ret
    exact F.out
  ·
    refine step_callE 9 #[.agg (pnt s1 b1 n1)] (by kernel_rfl) (by kernel_rfl) (HA1.out _) (fun vA V1 hA => ?_)
    obtain ⟨hoA, hv1⟩ := hA
    obtain ⟨adA, capA, rfl, f4, noA⟩ := own_read hoA HL1.out.2
    refine hK.out _ _ ⟨hS.1.kept hv1, hS.2.kept hv1⟩ (fun hS => ?_)
    clear hoA
    simp only [List.getElem_toArray, List.getElem_cons_zero, List.getElem_cons_succ, Act.put, List.setIfInBounds_toArray, List.set_cons_zero, List.set_cons_succ]
    refine wpAnyH_ready (rs := [2, 6]) (by kernel_rfl) (by simp) ?_
    refine AllReadyH.cons rfl (fun K' hK => ?_) (AllReadyH.cons rfl (fun K' hK => ?_) (AllReadyH.nil))
    ·
      obtain ⟨V2, hV2⟩ : ∃ V, V = V1.alloc (.cells #[.int .u8 (p % 256)] 5) := ⟨_, rfl⟩
      have hv2 : Below V1.heap.size V1 V2 := hV2 ▸ (Below.refl _ _).alloc (Nat.le_refl _) _
      have f2 : Bys V2.heap.size V2 (some ⟨V1.heap.size, 0, none⟩) [p % 256] := hV2 ▸ bys_new V1 5 [p % 256]
      refine step_run (.slice (some ⟨V1.heap.size, 0, none⟩) 1 1) V2 (by rw [hV2]; kernel_rfl) (by kernel_rfl) (hK.out _ _ ⟨hS.1.kept hv2, hS.2.kept hv2⟩ (fun hS => ?_))
      obtain ⟨gL, hgL⟩ : ∃ gL, V1.heap.size = gL := ⟨_, rfl⟩
      rw [hgL] at f2 ⊢
      clear hV2 hgL
      simp only [List.getElem_toArray, List.getElem_cons_zero, List.getElem_cons_succ, Act.put, List.setIfInBounds_toArray, List.set_cons_zero, List.set_cons_succ]
      have f4 := (f4.below hv2).mono hv2.size
      refine wpAnyH_ready (rs := [6]) (by kernel_rfl) (by simp) ?_
      refine AllReadyH.cons rfl (fun K' hK => ?_) (AllReadyH.nil)
      refine step_callE 9 #[.agg (pnt s2 b2 n2)] (by kernel_rfl) (by kernel_rfl) (HA2.out _) (fun vB V3 hB => ?_)
      obtain ⟨hoB, hv3⟩ := hB
      obtain ⟨adB, capB, rfl, f6, noB⟩ := own_read hoB HL2.out.2
      refine hK.out _ _ ⟨hS.1.kept hv3, hS.2.kept hv3⟩ (fun hS => ?_)
      clear hoB
      simp only [List.getElem_toArray, List.getElem_cons_zero, List.getElem_cons_succ, Act.put, List.setIfInBounds_toArray, List.set_cons_zero, List.set_cons_succ]
      have f4 := (f4.below hv3).mono hv3.size
      have f2 := (f2.below hv3).mono hv3.size
      have HB3 : Hid (Below w.heap.size w V3) := hid (sbel2 (sbel2 (sbel2 Hd.out hv1) hv2) hv3)
      refine wpAnyH_ready (rs := [7]) (by kernel_rfl) (by simp) ?_
      refine AllReadyH.cons rfl (fun K' hK => ?_) AllReadyH.nil
      obtain ⟨X, hX⟩ : ∃ X, X = V3.alloc (.cells #[.slice (some ⟨gL, 0, none⟩) 1 1, .slice adA B1.length capA, .slice adB B2.length capB] 29) := ⟨_, rfl⟩
      have hx : Below V3.heap.size V3 X := hX ▸ (Below.refl _ _).alloc (Nat.le_refl _) _
      have hcat := concat_any V3.heap.size [(some ⟨gL, 0, none⟩, 1, [p % 256]), (adA, capA, B1), (adB, capB, B2)] V3.heap.size (by simp [psum]; omega) (by have := HL1.out; have := HL2.out; simp [psum]; omega) (by simp) X hx.size (by rw [hX]; simp) (fun k hk => by
        rw [hX, new_cell]
        match k, hk with
        | 0, _ => rfl
        | 1, _ => rfl
        | 2, _ => rfl) (fun q hq => by
        simp only [List.mem_cons, List.not_mem_nil, or_false] at hq
        rcases hq with rfl | rfl | rfl
        · exact ⟨f2.below hx, fun h => by cases h⟩
        · exact ⟨f4.below hx, noA⟩
        · exact ⟨f6.below hx, noB⟩)
      refine step_run (.slice (some ⟨V3.heap.size, 0, none⟩) 3 3) X (by rw [hX]; kernel_rfl) (by kernel_rfl) (hK.out _ _ ⟨hS.1.kept hx, hS.2.kept hx⟩ (fun hS => ?_))
      simp only [List.getElem_toArray, List.getElem_cons_zero, List.getElem_cons_succ, Act.put, List.setIfInBounds_toArray, List.set_cons_zero, List.set_cons_succ]
      refine wpAnyH_ready (rs := [8]) (by kernel_rfl) (by simp) ?_
      refine AllReadyH.cons rfl (fun K' hK => ?_) AllReadyH.nil
      have hcat' : Calls Try.prog 8 #[.slice (some ⟨V3.heap.size, 0, none⟩) 3 3] X (fun e w' => ∃ v, e = .returned v ∧ (w'.ownsRow X.heap.size 5 1 v R.length (R.map (Value.int .u8)) ∧ Below X.heap.size X w')) := by
        rw [HT.out]
        exact hcat
      refine step_callE 8 #[.slice (some ⟨V3.heap.size, 0, none⟩) 3 3] (by kernel_rfl) (by kernel_rfl) hcat' (fun vZ VZ hZ => hK.out _ _ ⟨hS.1.kept hZ.2, hS.2.kept hZ.2⟩ (fun hS => ?_))
      simp only [List.getElem_toArray, List.getElem_cons_zero, List.getElem_cons_succ, Act.put, List.setIfInBounds_toArray, List.set_cons_zero, List.set_cons_succ]
      have F : Hid (OwnEnd R w (.returned vZ) VZ) := hid ⟨vZ, rfl, own_mono hZ.1 (Nat.le_trans HB3.out.size hx.size), sbel2 (sbel2 HB3.out hx) hZ.2⟩
      refine wpAnyH_take (i := 9) (v := vZ) rfl (by kernel_rfl) (by kernel_rfl) (by kernel_rfl) (fun _ _ _ h => h) (.inl ⟨by kernel_rfl, fun _ _ => by kernel_rfl⟩) hS ?_
      simp only [List.getElem_toArray, List.getElem_cons_zero, List.getElem_cons_succ, Act.put, List.setIfInBounds_toArray, List.set_cons_zero, List.set_cons_succ]
      refine wpAnyH_done (by kernel_rfl) ?_ _
      clear hS hZ hcat hcat' hx hX
      go_wp2
      go_ret
      exact F.out
    ·
      refine step_callE 9 #[.agg (pnt s2 b2 n2)] (by kernel_rfl) (by kernel_rfl) (HA2.out _) (fun vB V2 hB => ?_)
      obtain ⟨hoB, hv2⟩ := hB
      obtain ⟨adB, capB, rfl, f6, noB⟩ := own_read hoB HL2.out.2
      refine hK.out _ _ ⟨hS.1.kept hv2, hS.2.kept hv2⟩ (fun hS => ?_)
      clear hoB
      simp only [List.getElem_toArray, List.getElem_cons_zero, List.getElem_cons_succ, Act.put, List.setIfInBounds_toArray, List.set_cons_zero, List.set_cons_succ]
      have f4 := (f4.below hv2).mono hv2.size
      refine wpAnyH_ready (rs := [2]) (by kernel_rfl) (by simp) ?_
      refine AllReadyH.cons rfl (fun K' hK => ?_) (AllReadyH.nil)
      obtain ⟨V3, hV3⟩ : ∃ V, V = V2.alloc (.cells #[.int .u8 (p % 256)] 5) := ⟨_, rfl⟩
      have hv3 : Below V2.heap.size V2 V3 := hV3 ▸ (Below.refl _ _).alloc (Nat.le_refl _) _
      have f2 : Bys V3.heap.size V3 (some ⟨V2.heap.size, 0, none⟩) [p % 256] := hV3 ▸ bys_new V2 5 [p % 256]
      refine step_run (.slice (some ⟨V2.heap.size, 0, none⟩) 1 1) V3 (by rw [hV3]; kernel_rfl) (by kernel_rfl) (hK.out _ _ ⟨hS.1.kept hv3, hS.2.kept hv3⟩ (fun hS => ?_))
      obtain ⟨gL, hgL⟩ : ∃ gL, V2.heap.size = gL := ⟨_, rfl⟩
      rw [hgL] at f2 ⊢
      clear hV3 hgL
      simp only [List.getElem_toArray, List.getElem_cons_zero, List.getElem_cons_succ, Act.put, List.setIfInBounds_toArray, List.set_cons_zero, List.set_cons_succ]
      have f4 := (f4.below hv3).mono hv3.size
      have f6 := (f6.below hv3).mono hv3.size
      have HB3 : Hid (Below w.heap.size w V3) := hid (sbel2 (sbel2 (sbel2 Hd.out hv1) hv2) hv3)
      refine wpAnyH_ready (rs := [7]) (by kernel_rfl) (by simp) ?_
      refine AllReadyH.cons rfl (fun K' hK => ?_) AllReadyH.nil
      obtain ⟨X, hX⟩ : ∃ X, X = V3.alloc (.cells #[.slice (some ⟨gL, 0, none⟩) 1 1, .slice adA B1.length capA, .slice adB B2.length capB] 29) := ⟨_, rfl⟩
      have hx : Below V3.heap.size V3 X := hX ▸ (Below.refl _ _).alloc (Nat.le_refl _) _
      have hcat := concat_any V3.heap.size [(some ⟨gL, 0, none⟩, 1, [p % 256]), (adA, capA, B1), (adB, capB, B2)] V3.heap.size (by simp [psum]; omega) (by have := HL1.out; have := HL2.out; simp [psum]; omega) (by simp) X hx.size (by rw [hX]; simp) (fun k hk => by
        rw [hX, new_cell]
        match k, hk with
        | 0, _ => rfl
        | 1, _ => rfl
        | 2, _ => rfl) (fun q hq => by
        simp only [List.mem_cons, List.not_mem_nil, or_false] at hq
        rcases hq with rfl | rfl | rfl
        · exact ⟨f2.below hx, fun h => by cases h⟩
        · exact ⟨f4.below hx, noA⟩
        · exact ⟨f6.below hx, noB⟩)
      refine step_run (.slice (some ⟨V3.heap.size, 0, none⟩) 3 3) X (by rw [hX]; kernel_rfl) (by kernel_rfl) (hK.out _ _ ⟨hS.1.kept hx, hS.2.kept hx⟩ (fun hS => ?_))
      simp only [List.getElem_toArray, List.getElem_cons_zero, List.getElem_cons_succ, Act.put, List.setIfInBounds_toArray, List.set_cons_zero, List.set_cons_succ]
      refine wpAnyH_ready (rs := [8]) (by kernel_rfl) (by simp) ?_
      refine AllReadyH.cons rfl (fun K' hK => ?_) AllReadyH.nil
      have hcat' : Calls Try.prog 8 #[.slice (some ⟨V3.heap.size, 0, none⟩) 3 3] X (fun e w' => ∃ v, e = .returned v ∧ (w'.ownsRow X.heap.size 5 1 v R.length (R.map (Value.int .u8)) ∧ Below X.heap.size X w')) := by
        rw [HT.out]
        exact hcat
      refine step_callE 8 #[.slice (some ⟨V3.heap.size, 0, none⟩) 3 3] (by kernel_rfl) (by kernel_rfl) hcat' (fun vZ VZ hZ => hK.out _ _ ⟨hS.1.kept hZ.2, hS.2.kept hZ.2⟩ (fun hS => ?_))
      simp only [List.getElem_toArray, List.getElem_cons_zero, List.getElem_cons_succ, Act.put, List.setIfInBounds_toArray, List.set_cons_zero, List.set_cons_succ]
      have F : Hid (OwnEnd R w (.returned vZ) VZ) := hid ⟨vZ, rfl, own_mono hZ.1 (Nat.le_trans HB3.out.size hx.size), sbel2 (sbel2 HB3.out hx) hZ.2⟩
      refine wpAnyH_take (i := 9) (v := vZ) rfl (by kernel_rfl) (by kernel_rfl) (by kernel_rfl) (fun _ _ _ h => h) (.inl ⟨by kernel_rfl, fun _ _ => by kernel_rfl⟩) hS ?_
      simp only [List.getElem_toArray, List.getElem_cons_zero, List.getElem_cons_succ, Act.put, List.setIfInBounds_toArray, List.set_cons_zero, List.set_cons_succ]
      refine wpAnyH_done (by kernel_rfl) ?_ _
      clear hS hZ hcat hcat' hx hX
      go_wp2
      go_ret
      exact F.out

set_option maxRecDepth 100000 in
set_option maxHeartbeats 8000000 in
theorem rtuple_any (p : Int) (s1 : Bool) (b1 : List Int) (n1 : Int) (s2 : Bool) (b2 : List Int) (n2 : Int) (hl1 : b1.length = 16) (hl2 : b2.length = 16) (w : World) :
    Calls Try.prog 6 #[.int .i64 p, .agg (pnt s1 b1 n1), .agg (pnt s2 b2 n2)] w (OwnEnd (tupB p s1 b1 n1 s2 b2 n2) w) := by
  obtain ⟨W0, hW0⟩ : ∃ W, W = (w.alloc (.cells (pnt s1 b1 n1) 26)).alloc (.cells (pnt s2 b2 n2) 26) := ⟨_, rfl⟩
  have hB1 : Blk W0 w.heap.size 26 (pnt s1 b1 n1) := hW0 ▸ (Blk.new w _ _).alloc _
  have hB2 : Blk W0 (w.heap.size + 1) 26 (pnt s2 b2 n2) := by have := Blk.new (w.alloc (.cells (pnt s1 b1 n1) 26)) 26 (pnt s2 b2 n2); rw [World.size_alloc] at this; exact hW0 ▸ this
  have hb0 : Below w.heap.size w W0 := hW0 ▸ ((Below.refl _ _).alloc (Nat.le_refl _) _).alloc (by simp) _
  obtain ⟨W1, hW1⟩ : ∃ W, W = W0.alloc (.cells #[.int .u8 (p % 256)] 5) := ⟨_, rfl⟩
  have hb1 : Below W0.heap.size W0 W1 := hW1 ▸ (Below.refl _ _).alloc (Nat.le_refl _) _
  have hO : W1.ownsRow W0.heap.size 5 1 (.slice (some ⟨W0.heap.size, 0, none⟩) 1 1) 1 ([p % 256].map (Value.int .u8)) := hW1 ▸ World.ownsRow_lit W0 _ 1 (Nat.le_refl _) (by decide) rfl
  have HW0 := hid hW0.symm
  have HW1 := hid hW1.symm
  have HB1 := hid (hB1.kept hb1)
  have HB2 := hid (hB2.kept hb1)
  have Hb1 := hid (sbel2 hb0 hb1)
  have HO := hid hO
  have Hlt := hid hB2.lt
  have HszW := hid hb1.size
  have Hsz0 := hid hb0.size
  have L1 : Hid (18 = (pnt s1 b1 n1).size) := hid (by rw [pnt_size, hl1])
  have L2 : Hid (18 = (pnt s2 b2 n2).size) := hid (by rw [pnt_size, hl2])
  have HA1 := hid (rpput_any s1 b1 hl1 n1)
  have HA2 := hid (rpput_any s2 b2 hl2 n2)
  have HL1 := hid (putP_len s1 b1 n1 hl1)
  have HL2 := hid (putP_len s2 b2 n2 hl2)
  have HT : Hid (tupB p s1 b1 n1 s2 b2 n2 = [p % 256] ++ putP s1 b1 n1 ++ putP s2 b2 n2) := hid rfl
  obtain ⟨q, hq⟩ : ∃ q, q = p % 256 := ⟨_, rfl⟩
  have e1 : IntKind.u8.wrap ((IntKind.u64.wrap p).tmod 256) = q := by
    rw [hq, show IntKind.u64.wrap p = p % 18446744073709551616 by simp [IntKind.wrap, IntKind.bits, IntKind.signed], Int.tmod_eq_emod_of_nonneg (by omega)]
    simp only [IntKind.wrap, IntKind.bits, IntKind.signed]
    simp
  have e2 : IntKind.u8.wrap ((IntKind.u64.wrap p) % 256) = q := by
    rw [hq, show IntKind.u64.wrap p = p % 18446744073709551616 by simp [IntKind.wrap, IntKind.bits, IntKind.signed]]
    simp only [IntKind.wrap, IntKind.bits, IntKind.signed]
    simp
  rw [← hq] at HO HW1 HT
  clear hW0 hW1 hB1 hB2 hb0 hb1 hl1 hl2 hO hq
  generalize hbytes1 : putP s1 b1 n1 = B1 at *
  generalize hbytes2 : putP s2 b2 n2 = B2 at *
  generalize tupB p s1 b1 n1 s2 b2 n2 = R at *
  go_enter Try.func6, Try.ntmps6
  go_upto_region 1 with fail
  rw [HW0.out]
  go_wp2_with (first
    | ((show wpList _ _ _ (⟨some 13, _, _, _, _, _⟩ :: _) _ _); go_must (rw [HW1.out]; refine wpl_load 26 _ rfl w.heap.size rfl _ _ _ HB1.out Try.underlying26 rfl 18 Try.infoPoint L1.out rfl ?_)))
  refine (HA1.out _).mono ?_
  rintro e w2 ⟨vA, rfl, hoA, hv2⟩
  obtain ⟨adA, capA, rfl, fA, noA⟩ := own_read hoA HL1.out.2
  have HB2' := hid (HB2.out.kept hv2)
  have HO2 := hid (own_below HO.out hv2)
  have Hsz2 := hid (Nat.le_trans HszW.out hv2.size)
  have Hb2 := hid (sbel2 Hb1.out hv2)
  have FA := hid fA
  have NoA := hid noA
  clear hoA hv2 fA noA
  go_wp2_with (first
    | ((show wpList _ _ _ (⟨some 15, _, _, _, _, _⟩ :: _) _ _); go_must (refine wpl_app (.tmp 12) (.tmp 14) rfl W0.heap.size _ 1 _ rfl HO2.out adA B1.length capA B1 rfl rfl _ FA.out NoA.out (by have := HL1.out; omega) Hsz2.out rfl ?_; intro v3 w3 ho3 hg3))
    | ((show wpList _ _ _ (⟨some 17, _, _, _, _, _⟩ :: _) _ _); go_must (refine wpl_load 26 _ rfl (w.heap.size + 1) rfl _ _ _ (HB2'.out.below ((Below.refl W0.heap.size w2).grown hg3 Hsz2.out (own_blockP HO2.out)) Hlt.out) Try.underlying26 rfl 18 Try.infoPoint L2.out rfl ?_)))
  have hk3 : Below W0.heap.size w2 w3 := (Below.refl W0.heap.size w2).grown hg3 Hsz2.out (own_blockP HO2.out)
  have HB3 := hid (HB2'.out.below hk3 Hlt.out)
  have Hb3 : Hid (Below w.heap.size w w3) := hid (Hb2.out.trans (hk3.mono Hsz0.out))
  have HO3 := hid ho3
  have Hsz3 : Hid (W0.heap.size ≤ w3.heap.size) := hid (Nat.le_trans Hsz2.out hk3.size)
  clear ho3 hg3 hk3
  refine (HA2.out _).mono ?_
  rintro e w4 ⟨vB, rfl, hoB, hv4⟩
  obtain ⟨adB, capB, rfl, fB, noB⟩ := own_read hoB HL2.out.2
  have HO4 := hid (own_below HO3.out hv4)
  have Hb4 := hid (sbel2 Hb3.out hv4)
  have Hsz4 := hid (Nat.le_trans Hsz3.out hv4.size)
  have FB := hid fB
  have NoB := hid noB
  clear hoB hv4 fB noB
  go_wp2_with ((show wpList _ _ _ (⟨some 19, _, _, _, _, _⟩ :: _) _ _); go_must (refine wpl_app (.tmp 16) (.tmp 18) rfl W0.heap.size _ (1 + B1.length) _ rfl HO4.out adB B2.length capB B2 rfl rfl _ FB.out NoB.out (by have := HL1.out; have := HL2.out; omega) Hsz4.out rfl ?_; intro v5 w5 ho5 hg5))
  have F : Hid (OwnEnd R w (.returned v5) w5) := hid ⟨v5, rfl, by
    rw [HT.out]
    simp only [List.length_append, List.map_append]
    exact own_mono ho5 Hsz0.out, Hb4.out.trans (((Below.refl W0.heap.size w4).grown hg5 Hsz4.out (own_blockP HO4.out)).mono Hsz0.out |>.mono (Nat.le_refl _))⟩
  clear ho5 hg5
  go_wp2
  go_ret
  exact F.out
end Go.Proofs.Ytijboclcbbnhbaa
