/-
  frame.Bytes.
-/
import Derived.Test.YtkpjdjenlmodnaaDoorEnm
namespace Go.Proofs.YtkpjdjenlmodnaaDoor
open Go.RowKit Go.Lib

/-- A frame's bytes. -/
def fbs (k : Int) (bs : List Int) : List Int := be (bs.length + 1) 2 ++ [k] ++ bs
theorem fbs_length (k : Int) (bs : List Int) : (fbs k bs).length = bs.length + 3 := by
  unfold fbs
  rw [List.length_append, List.length_append, be_length]
  simp
  omega
theorem cuts_fbs (k : Int) (bs : List Int) (hl : bs.length ≤ 1199) : Cuts (fbs k bs) [(k, bs)] 0 false := by
  have hlen := fbs_length k bs
  have h0 : (fbs k bs).getD 0 0 = (((bs.length + 1) / 256 % 256 : Nat) : Int) := by simp [fbs, be]
  have h1 : (fbs k bs).getD 1 0 = (((bs.length + 1) % 256 : Nat) : Int) := by simp [fbs, be]
  have h2 : (fbs k bs).getD 2 0 = k := by simp [fbs, be]
  have h3 : (fbs k bs).drop 3 = bs := by simp [fbs, be]
  have hh : hdN (fbs k bs) = bs.length + 1 := by
    unfold hdN
    rw [h0, h1]
    omega
  have hf : frm (fbs k bs) = (k, bs) := by
    unfold frm
    rw [h2, h3, hh, Nat.add_sub_cancel, List.take_length]
  have := Cuts.whole (bs := fbs k bs) (F := []) (n := 0) (b := false) (by omega) (by omega) (by omega) (by omega) (by
    rw [hh, List.drop_eq_nil_of_le (by omega)]
    exact .short (bs := []) (by simp))
  rw [hf] at this
  exact this
theorem byt_appF {x y : List Int} (hx : Byt x) (hy : Byt y) : Byt (x ++ y) := fun j => by
  by_cases h : j < x.length
  · rw [getD_app h]; exact hx j
  · have := hy (j - x.length)
    simpa [List.getD, List.getElem?_append_right (show x.length ≤ j by omega)] using this
theorem byt_fbs (k : Int) (bs : List Int) (h1 : 0 ≤ k) (h2 : k ≤ 255) (hb : Byt bs) : Byt (fbs k bs) := by
  have : Byt (be (bs.length + 1) 2 ++ [k]) := Byt.of fun x hx => by
    rcases List.mem_append.1 hx with h | h
    · exact be_bounds _ _ x h
    · obtain rfl := List.mem_singleton.1 h
      exact ⟨h1, h2⟩
  exact byt_appF this hb
theorem exec_lit1B {o : Oper} {a : Act} {w : World} (x : Operand) (ho : o.op = .buildSlice 22 1 #[(0, x)]) (p : Int) (hx : a.eval x = .int .u8 p) :
    (execOp a.eval o).run Tryd.prog w = .ok (.value (.slice (some ⟨w.heap.size, 0, none⟩) 1 1)) (w.alloc (.cells #[.int .u8 p] 5)) := by
  unfold execOp
  simp only [ho, hx, List.map_toArray, List.map_cons, List.map_nil]
  clear hx ho
  go_simp

section
variable {w : World} {ad : Option Addr} {cap : Nat} {bs : List Int} {k : Int} {x : Value}
set_option maxRecDepth 100000 in
set_option maxHeartbeats 4000000 in
theorem fb_range (hk : k < 0 ∨ 255 < k) (hE : w.cell? ⟨0, 0, none⟩ = some x) :
    Calls Tryd.prog 19 #[.agg #[.int .i64 k, .slice ad bs.length cap]] w fun e w' => e = .returned (.tuple #[.slice none 0 0, x]) ∧ Below w.heap.size w w' := by
  obtain ⟨W0, hW0⟩ : ∃ W, W = w.alloc (.cells #[.int .i64 k, .slice ad bs.length cap] 46) := ⟨_, rfl⟩
  have b0 : Below w.heap.size w W0 := hW0 ▸ (Below.refl _ _).alloc (Nat.le_refl _) _
  have k0 : Blk W0 w.heap.size 46 #[.int .i64 k, .slice ad bs.length cap] := hW0 ▸ Blk.new w _ _
  have c0 := k0.cell 0
  have c1 := k0.cell 1
  simp only [List.getElem?_toArray, List.getElem?_cons_zero, List.getElem?_cons_succ] at c0 c1
  have e0 : W0.cell? ⟨0, 0, none⟩ = some x := (b0.cell (World.block_lt_of_cell? w _ hE)).trans hE
  have HB : Hid (∀ n, Below w.heap.size w (W0.drewN n)) := hid fun n => b0.trans ((sbelow_drewN W0 n).mono b0.size)
  have HW0 := hid hW0.symm
  clear hE hW0 b0 k0
  generalize bs.length = l at *
  have HK := hid hk
  by_cases h1 : k < 0
  · go_enter Tryd.func19, Tryd.ntmps19
    go_upto_region 1 with fail
    rw [HW0.out]
    go_wp2
    go_quiet (fail)
    go_wp2
    go_ret2
    exact ⟨rfl, HB.out _⟩
  · have h2 : 255 < k := by omega
    go_enter Tryd.func19, Tryd.ntmps19
    go_upto_region 1 with fail
    rw [HW0.out]
    go_wp2
    go_quiet (fail)
    go_wp2
    go_ret2
    exact ⟨rfl, HB.out _⟩
set_option maxRecDepth 100000 in
set_option maxHeartbeats 4000000 in
theorem fb_long (h1 : 0 ≤ k) (h2 : k ≤ 255) (hl : 1199 < bs.length) (hm : bs.length ≤ 1000000) (hE : w.cell? ⟨2, 0, none⟩ = some x) :
    Calls Tryd.prog 19 #[.agg #[.int .i64 k, .slice ad bs.length cap]] w fun e w' => e = .returned (.tuple #[.slice none 0 0, x]) ∧ Below w.heap.size w w' := by
  obtain ⟨W0, hW0⟩ : ∃ W, W = w.alloc (.cells #[.int .i64 k, .slice ad bs.length cap] 46) := ⟨_, rfl⟩
  have b0 : Below w.heap.size w W0 := hW0 ▸ (Below.refl _ _).alloc (Nat.le_refl _) _
  have k0 : Blk W0 w.heap.size 46 #[.int .i64 k, .slice ad bs.length cap] := hW0 ▸ Blk.new w _ _
  have c0 := k0.cell 0
  have c1 := k0.cell 1
  simp only [List.getElem?_toArray, List.getElem?_cons_zero, List.getElem?_cons_succ] at c0 c1
  have e0 : W0.cell? ⟨2, 0, none⟩ = some x := (b0.cell (World.block_lt_of_cell? w _ hE)).trans hE
  have HB : Hid (∀ n, Below w.heap.size w (W0.drewN n)) := hid fun n => b0.trans ((sbelow_drewN W0 n).mono b0.size)
  have HW0 := hid hW0.symm
  clear hE hW0 b0 k0
  generalize bs.length = l at *
  go_enter Tryd.func19, Tryd.ntmps19
  go_upto_region 1 with fail
  rw [HW0.out]
  go_wp2
  go_quiet (fail)
  go_wp2
  go_ret2
  exact ⟨rfl, HB.out _⟩

set_option linter.unusedSimpArgs false in
set_option maxRecDepth 100000 in
set_option maxHeartbeats 8000000 in
theorem fb_good (h1 : 0 ≤ k) (h2 : k ≤ 255) (hl : bs.length ≤ 1199) (hI : Bys w.heap.size w ad bs) (hn : ad = none → bs.length = 0 ∧ cap = 0) :
    Calls Tryd.prog 19 #[.agg #[.int .i64 k, .slice ad bs.length cap]] w fun e w' => ∃ v, e = .returned (.tuple #[v, .nilIface]) ∧ w'.ownsRow w.heap.size 5 1 v (fbs k bs).length ((fbs k bs).map (Value.int .u8)) ∧ Below w.heap.size w w' := by
  obtain ⟨W0, hW0⟩ : ∃ W, W = w.alloc (.cells #[.int .i64 k, .slice ad bs.length cap] 46) := ⟨_, rfl⟩
  have s0 : W0.heap.size = w.heap.size + 1 := by rw [hW0]; simp
  have b0 : Below w.heap.size w W0 := hW0 ▸ (Below.refl _ _).alloc (Nat.le_refl _) _
  have k0 : Blk W0 w.heap.size 46 #[.int .i64 k, .slice ad bs.length cap] := hW0 ▸ Blk.new w _ _
  have HC : Hid (∀ V, Below (w.heap.size + 1) W0 V → V.cell? ⟨w.heap.size, 0, none⟩ = some (.int .i64 k) ∧ V.cell? ⟨w.heap.size, 1, none⟩ = some (.slice ad bs.length cap)) := hid fun V hV => by
    have k1 := k0.below hV (Nat.lt_succ_self _)
    exact ⟨k1.cell 0, k1.cell 1⟩
  have HI : Hid (∀ V, Below (w.heap.size + 1) W0 V → Bys w.heap.size V ad bs) := hid fun V hV => hI.below (b0.trans (hV.mono (Nat.le_succ _)))
  have HN := hid (octNum_good (bs.length + 1) 2 W0 (by omega) (by omega) (by omega) (by omega))
  have HB0 := hid b0
  have HNn := hid hn
  have HS0 := hid s0
  have c0 := (HC.out W0 (Below.refl _ _)).1
  have c1 := (HC.out W0 (Below.refl _ _)).2
  have HW0 := hid hW0.symm
  have HLen : Hid ((fbs k bs).length = 2 + 1 + bs.length) := hid (by rw [fbs_length]; omega)
  have HX : Hid ((fbs k bs).map (Value.int .u8) = (be (bs.length + 1) 2).map (Value.int .u8) ++ [k].map (Value.int .u8) ++ bs.map (Value.int .u8)) := hid (by unfold fbs; rw [List.map_append, List.map_append])
  have hka : k % 256 = k := by omega
  clear hI hn hW0 b0 k0 s0
  obtain ⟨l, hl'⟩ : ∃ l, l = bs.length := ⟨_, rfl⟩
  have HL := hid hl'
  rw [← hl'] at hl HW0 HC HN HNn c1 HLen HX ⊢
  have hc : ((l + 1 : Nat) : Int) = 1 + (l : Int) := by omega
  rw [hc] at HN
  clear hl' hc
  go_enter Tryd.func19, Tryd.ntmps19
  go_upto_region 1 with fail
  rw [HW0.out]
  go_wp2_with fail
  refine HN.out.mono ?_
  rintro e w1 ⟨rfl, ho, hb1⟩
  have HO := hid ho
  have hb1' : Below (w.heap.size + 1) W0 w1 := by rw [← HS0.out]; exact hb1
  have HB1 := hid hb1'
  clear ho hb1 hb1' HN c0 c1
  go_upto_region 9 with fail
  obtain ⟨W, hW, hbW⟩ : ∃ W, W = w1.drew ∧ Below w1.heap.size w1 W := ⟨_, rfl, (Below.refl _ _).drew⟩
  have HSz : Hid (w.heap.size + 1 ≤ w1.heap.size) := hid (by rw [← HS0.out]; exact HB1.out.size)
  have HBw : Hid (Below (w.heap.size + 1) W0 W) := hid (HB1.out.trans (hbW.mono HSz.out))
  have hown0 : W.ownsRow W0.heap.size 5 1 (.slice (some ⟨W0.heap.size, 0, none⟩) 2 2) 2 ((be (l + 1) 2).map (Value.int .u8)) := own_same HO.out fun g e => hbW.block g (HO.out.lt g e).2
  refine wp_region_held_drew (S := fun V => Below (w.heap.size + 1) W0 V) (by kernel_rfl) (by rw [← hW]; exact HBw.out) (fun hS => ?_)
  rw [← hW] at hS ⊢
  clear hW hbW
  change wpAnyH _ _ _ _ _ 11 #[false, false, false, false, false, false, false, false, false, false, false] _ _
  refine wpAnyH_take (i := 0) (v := .slice (some ⟨W0.heap.size, 0, none⟩) 2 2) rfl (by kernel_rfl) (by kernel_rfl) (by kernel_rfl) (fun _ _ _ h => h) (.inl ⟨by kernel_rfl, fun V hV => by unfold execOp; go_simp⟩) hS ?_
  simp only [List.getElem_toArray, List.getElem_cons_zero, List.getElem_cons_succ, Act.put, List.setIfInBounds_toArray, List.set_cons_zero, List.set_cons_succ]
  refine wpAnyH_take (i := 1) (v := .pointer (some ⟨w.heap.size, 0, none⟩)) rfl (by kernel_rfl) (by kernel_rfl) (by kernel_rfl) (fun _ _ _ h => h) (.inl ⟨by kernel_rfl, fun V hV => by unfold execOp; go_simp⟩) hS ?_
  simp only [List.getElem_toArray, List.getElem_cons_zero, List.getElem_cons_succ, Act.put, List.setIfInBounds_toArray, List.set_cons_zero, List.set_cons_succ]
  refine wpAnyH_take (i := 2) (v := .int .i64 k) rfl (by kernel_rfl) (by kernel_rfl) (by kernel_rfl) (fun _ _ _ h => h) (.inl ⟨by kernel_rfl, fun V hV => by have c0 := (HC.out V hV).1; unfold execOp; go_simp⟩) hS ?_
  simp only [List.getElem_toArray, List.getElem_cons_zero, List.getElem_cons_succ, Act.put, List.setIfInBounds_toArray, List.set_cons_zero, List.set_cons_succ]
  refine wpAnyH_take (i := 3) (v := .int .u8 k) rfl (by kernel_rfl) (by kernel_rfl) (by kernel_rfl) (fun _ _ _ h => h) (.inl ⟨by kernel_rfl, fun V hV => by have wz : IntKind.u8.wrap k = k := (by rw [IntKind.wrap_u8]; omega); unfold execOp; go_simp⟩) hS ?_
  simp only [List.getElem_toArray, List.getElem_cons_zero, List.getElem_cons_succ, Act.put, List.setIfInBounds_toArray, List.set_cons_zero, List.set_cons_succ]
  refine wpAnyH_take (i := 6) (v := .pointer (some ⟨w.heap.size, 1, none⟩)) rfl (by kernel_rfl) (by kernel_rfl) (by kernel_rfl) (fun _ _ _ h => h) (.inl ⟨by kernel_rfl, fun V hV => by unfold execOp; go_simp⟩) hS ?_
  simp only [List.getElem_toArray, List.getElem_cons_zero, List.getElem_cons_succ, Act.put, List.setIfInBounds_toArray, List.set_cons_zero, List.set_cons_succ]
  refine wpAnyH_take (i := 7) (v := .slice ad l cap) rfl (by kernel_rfl) (by kernel_rfl) (by kernel_rfl) (fun _ _ _ h => h) (.inl ⟨by kernel_rfl, fun V hV => by have c0 := (HC.out V hV).2; unfold execOp; go_simp⟩) hS ?_
  simp only [List.getElem_toArray, List.getElem_cons_zero, List.getElem_cons_succ, Act.put, List.setIfInBounds_toArray, List.set_cons_zero, List.set_cons_succ]
  refine wpAnyH_ready (rs := [4]) (by kernel_rfl) (by simp) ?_
  refine AllReadyH.cons rfl (fun K' hK => ?_) AllReadyH.nil
  refine step_run (.slice (some ⟨W.heap.size, 0, none⟩) 1 1) (W.alloc (.cells #[.int .u8 k] 5)) (exec_lit1B (.tmp 34) rfl _ (by kernel_rfl)) (by kernel_rfl) ?_
  obtain ⟨W1, hW1⟩ : ∃ W1, W1 = W.alloc (.cells #[.int .u8 k] 5) := ⟨_, rfl⟩
  have hb1 : Below W.heap.size W W1 := hW1 ▸ (Below.refl _ _).alloc (Nat.le_refl _) _
  have hby1 : Bys W1.heap.size W1 (some ⟨W.heap.size, 0, none⟩) [k] := hW1 ▸ bys_new W 5 [k]
  rw [← hW1]
  clear hW1
  have hsz : w.heap.size + 1 ≤ W.heap.size := by rw [← HS0.out]; exact hS.size
  refine hK.out _ _ (hS.trans (hb1.mono hsz)) (fun hS2 => ?_)
  simp only [List.getElem_toArray, List.getElem_cons_zero, List.getElem_cons_succ, Act.put, List.setIfInBounds_toArray, List.set_cons_zero, List.set_cons_succ]
  have hown1 := own_same hown0 fun g e => hb1.block g (hown0.lt g e).2
  refine wpAnyH_ready (rs := [5]) (by kernel_rfl) (by simp) ?_
  refine AllReadyH.cons rfl (fun K' hK => ?_) AllReadyH.nil
  refine r_app (.tmp 31) (.tmp 35) rfl W0.heap.size _ 2 _ (by kernel_rfl) hown1 (some ⟨W.heap.size, 0, none⟩) 1 1 [k] (by kernel_rfl) rfl W1.heap.size hby1 (fun e => by cases e) (by omega) (by rw [HS0.out]; exact hS2.size |> (fun h => by rw [HS0.out] at h; exact h)) (by kernel_rfl) (fun v2 W2 hown2 hgr2 => ?_)
  have hb2 : Below (w.heap.size + 1) W0 W2 := hS2.grown hgr2 (by have := hb1.size; omega) (fun k e => by have := (hown1.lt k e).1; rw [HS0.out] at this; exact this)
  refine hK.out _ _ hb2 (fun hS3 => ?_)
  simp only [List.getElem_toArray, List.getElem_cons_zero, List.getElem_cons_succ, Act.put, List.setIfInBounds_toArray, List.set_cons_zero, List.set_cons_succ]
  refine wpAnyH_ready (rs := [8]) (by kernel_rfl) (by simp) ?_
  refine AllReadyH.cons rfl (fun K' hK => ?_) AllReadyH.nil
  refine r_app (.tmp 36) (.tmp 38) rfl W0.heap.size v2 (2 + 1) _ (by kernel_rfl) hown2 ad l cap bs (by kernel_rfl) HL.out.symm w.heap.size (HI.out W2 hS3) HNn.out (by omega) hS3.size (by kernel_rfl) (fun v3 W3 hown3 hgr3 => ?_)
  have hb3 : Below (w.heap.size + 1) W0 W3 := hS3.grown hgr3 (by have := hS3.size; rw [HS0.out] at this; exact this) (fun k e => by have := (hown2.lt k e).1; rw [HS0.out] at this; exact this)
  refine hK.out _ _ hb3 (fun hS4 => ?_)
  simp only [List.getElem_toArray, List.getElem_cons_zero, List.getElem_cons_succ, Act.put, List.setIfInBounds_toArray, List.set_cons_zero, List.set_cons_succ]
  refine wpAnyH_take (i := 9) (v := v3) rfl (by kernel_rfl) (by kernel_rfl) (by kernel_rfl) (fun _ _ _ h => h) (.inl ⟨by kernel_rfl, fun V hV => by unfold execOp; go_simp⟩) hS4 ?_
  simp only [List.getElem_toArray, List.getElem_cons_zero, List.getElem_cons_succ, Act.put, List.setIfInBounds_toArray, List.set_cons_zero, List.set_cons_succ]
  refine wpAnyH_take (i := 10) (v := .nilIface) rfl (by kernel_rfl) (by kernel_rfl) (by kernel_rfl) (fun _ _ _ h => h) (.inl ⟨by kernel_rfl, fun V hV => by unfold execOp; go_simp⟩) hS4 ?_
  simp only [List.getElem_toArray, List.getElem_cons_zero, List.getElem_cons_succ, Act.put, List.setIfInBounds_toArray, List.set_cons_zero, List.set_cons_succ]
  refine wpAnyH_done (by kernel_rfl) ?_ _
  have HE : Hid (∃ v, Ending.returned (.tuple #[v3, .nilIface]) = .returned (.tuple #[v, .nilIface]) ∧ W3.ownsRow w.heap.size 5 1 v (fbs k bs).length ((fbs k bs).map (Value.int .u8)) ∧ Below w.heap.size w W3) := hid ⟨v3, rfl, by
    rw [HLen.out, HX.out]
    exact own_monoE hown3 (by rw [HS0.out]; omega), HB0.out.trans (hb3.mono (Nat.le_succ _))⟩
  clear hK K' hS hS2 hS3 hS4 hown0 hown1 hown2 hown3 hgr2 hgr3 hb1 hb2 hb3 hby1 hsz
  go_wp2
  go_ret2
  exact HE.out

end
end Go.Proofs.YtkpjdjenlmodnaaDoor
