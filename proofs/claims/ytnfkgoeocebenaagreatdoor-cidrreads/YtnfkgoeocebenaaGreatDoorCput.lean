/-
  The bytes of a cidr: cidr.Put and the document's.
-/
import Derived.Test.YtnfkgoeocebenaaGreatDoorKput
import Derived.Test.YtnfkgoeocebenaaGreatDoorKdraw
import Derived.Test.YtnfkgoeocebenaaGreatDoorQb
namespace Go.Proofs.YtnfkgoeocebenaaGreatDoor
open Go.RowKit

theorem exec_byte {o : Oper} {a : Act} {w : World} (x : Operand) (ho : o.op = .convert 3 5 x) (n : Int) (hx : a.eval x = .int .i64 n) :
    (execOp a.eval o).run Tryz.prog w = .ok (.value (.int .u8 (n % 256))) w := by
  have e : IntKind.u8.wrap n = n % 256 := by simp [IntKind.wrap, IntKind.signed, IntKind.bits]
  unfold execOp
  simp only [ho, hx]
  simp [convert, run_underlying Tryz.underlying3, run_underlying Tryz.underlying5, go_sem, e]

theorem own_block {w : World} {base : Nat} {e : TypeId} {size : Nat} {v : Value} {n : Nat} {xs : List Value} (h : w.ownsRow base e size v n xs) {k : Nat} (hk : v.ownBlock = some k) : base ≤ k := by
  rcases h.2 with ⟨rfl, _⟩ | ⟨g, cap, cur, rfl, h2, _⟩
  · cases hk
  · cases hk
    exact h2
theorem own_ne {w : World} {base : Nat} {e : TypeId} {size : Nat} {v : Value} {n : Nat} {xs : List Value} (h : w.ownsRow base e size v n xs) {k : Nat} (hk : k < base) : v.ownBlock ≠ some k := fun e => by
  have := own_block h e
  omega
theorem Blk.grown {w w' : World} {g : Nat} {t : TypeId} {cs : Array Value} (h : Blk w g t cs) {o : Option Nat} (hg : w.grownBy w' o) (hne : o ≠ some g) : Blk w' g t cs := by
  unfold Blk
  rw [hg.block g h.lt (fun e => hne e.symm)]
  exact h

/-- The bytes of a cidr as it is put. -/
def putC (s : Bool) (b : List Int) (n : Int) : List Int := putA s b ++ [n % 256]

set_option linter.unusedSimpArgs false in
set_option maxRecDepth 100000 in
set_option maxHeartbeats 4000000 in
theorem cput_any (s : Bool) (b : List Int) (hl : b.length = 16) (n : Int) (w : World) : Calls Tryz.prog 29 #[.agg (cid s b n)] w (OwnEnd (putC s b n) w) := by
  obtain ⟨w1, hw1⟩ : ∃ W, W = w.alloc (.cells (cid s b n) 50) := ⟨_, rfl⟩
  have hB0 : Blk w1 w.heap.size 50 (cid s b n) := hw1 ▸ Blk.new w _ _
  have hb0 : Below w.heap.size w w1 := hw1 ▸ (Below.refl _ _).alloc (Nat.le_refl _) _
  have HW0 := Lib.hid hw1.symm
  have HL := Lib.hid hl
  obtain ⟨i0, hi, hpx⟩ := Option.map_eq_some_iff.1 Tryz.infoByte
  simp only [Prod.mk.injEq] at hpx
  obtain ⟨hz1, hz0, hz2⟩ := hpx
  have CP : Hid (∀ w, Calls Tryz.prog 11 #[.agg (adr s b)] w fun e w' => ∃ v, e = .returned v ∧ (w'.ownsRow w.heap.size 5 1 v (putA s b).length ((putA s b).map (Value.int .u8)) ∧ Below w.heap.size w w')) := Lib.hid (aput_any s b hl)
  have hS0 : Blk w1.drew (w.heap.size) 50 (cid s b n) ∧ Below w.heap.size w w1.drew := ⟨hB0.kept (below_drewN w1 1), bel2 hb0 (below_drewN w1 1)⟩
  clear hw1 hB0 hb0 hl
  go_enter Tryz.func29, Tryz.ntmps29
  go_upto_region 1 with fail
  rw [HW0.out]
  refine wp_region_held_drew (S := fun w' => Blk w' (w.heap.size) 50 (cid s b n) ∧ Below w.heap.size w w') (by kernel_rfl) hS0 (fun hS => ?_)
  change wpAnyH _ _ _ _ _ 9 #[false, false, false, false, false, false, false, false, false] _ _
  refine wpAnyH_take (i := 0) (v := .pointer (some ⟨w.heap.size, 0, none⟩)) rfl (by kernel_rfl) (by kernel_rfl) (by kernel_rfl) (fun _ _ _ h => h) (.inl ⟨by kernel_rfl, fun w _ => by kernel_rfl⟩) hS ?_
  simp only [List.getElem_toArray, List.getElem_cons_zero, List.getElem_cons_succ, Act.put, List.setIfInBounds_toArray, List.set_cons_zero, List.set_cons_succ]
  refine wpAnyH_take (i := 1) (v := .agg (adr s b)) rfl (by kernel_rfl) (by kernel_rfl) (by kernel_rfl) (fun _ _ _ h => h) (yields_addr (.tmp 3) rfl (w.heap.size) (by kernel_rfl) s b n (fun w h => h.1) HL.out (by kernel_rfl)) hS ?_
  simp only [List.getElem_toArray, List.getElem_cons_zero, List.getElem_cons_succ, Act.put, List.setIfInBounds_toArray, List.set_cons_zero, List.set_cons_succ]
  refine wpAnyH_take (i := 3) (v := .pointer (some ⟨w.heap.size, 17, none⟩)) rfl (by kernel_rfl) (by kernel_rfl) (by kernel_rfl) (fun _ _ _ h => h) (.inl ⟨by kernel_rfl, fun w _ => by kernel_rfl⟩) hS ?_
  simp only [List.getElem_toArray, List.getElem_cons_zero, List.getElem_cons_succ, Act.put, List.setIfInBounds_toArray, List.set_cons_zero, List.set_cons_succ]
  refine wpAnyH_take (i := 4) (v := .int .i64 n) rfl (by kernel_rfl) (by kernel_rfl) (by kernel_rfl) (fun _ _ _ h => h) (yields_cell (.tmp 6) rfl (w.heap.size) 17 (by kernel_rfl) n (fun w h => cid_bitsCell h.1 HL.out) (by kernel_rfl)) hS ?_
  simp only [List.getElem_toArray, List.getElem_cons_zero, List.getElem_cons_succ, Act.put, List.setIfInBounds_toArray, List.set_cons_zero, List.set_cons_succ]
  refine wpAnyH_take (i := 5) (v := .int .u8 (n % 256)) rfl (by kernel_rfl) (by kernel_rfl) (by kernel_rfl) (fun _ _ _ h => h) (.inl ⟨by kernel_rfl, fun w _ => exec_byte (.tmp 7) rfl n (by kernel_rfl)⟩) hS ?_
  simp only [List.getElem_toArray, List.getElem_cons_zero, List.getElem_cons_succ, Act.put, List.setIfInBounds_toArray, List.set_cons_zero, List.set_cons_succ]
  refine wpAnyH_ready (rs := [2, 6]) (by kernel_rfl) (by simp) ?_
  refine AllReadyH.cons rfl (fun K' hK => ?_) (AllReadyH.cons rfl (fun K' hK => ?_) AllReadyH.nil)
  · refine step_callE 11 #[.agg (adr s b)] (by kernel_rfl) (by kernel_rfl) (CP.out _) (fun v w2 hR => hK.out _ _ ⟨hS.1.kept hR.2, bel2 hS.2 hR.2⟩ (fun hS2 => ?_))
    simp only [List.getElem_toArray, List.getElem_cons_zero, List.getElem_cons_succ, Act.put, List.setIfInBounds_toArray, List.set_cons_zero, List.set_cons_succ]
    have hown := own_mono hR.1 hS.2.size
    obtain ⟨w3, hw3⟩ : ∃ w3, w3 = w2.alloc (.cells #[.int .u8 (n % 256)] 5) := ⟨_, rfl⟩
    have hb3 : Below w2.heap.size w2 w3 := hw3 ▸ (Below.refl _ _).alloc (Nat.le_refl _) _
    refine wpAnyH_ready (rs := [6]) (by kernel_rfl) (by simp) ?_
    refine AllReadyH.cons rfl (fun K' hK => ?_) AllReadyH.nil
    refine step_run (.slice (some ⟨w2.heap.size, 0, none⟩) 1 1) w3 (by rw [hw3]; kernel_rfl) (by kernel_rfl) (hK.out _ _ ⟨hS2.1.kept hb3, bel2 hS2.2 hb3⟩ (fun hS => ?_))
    simp only [List.getElem_toArray, List.getElem_cons_zero, List.getElem_cons_succ, Act.put, List.setIfInBounds_toArray, List.set_cons_zero, List.set_cons_succ]
    have HO : Hid (w3.ownsRow w.heap.size 5 1 v (putA s b).length ((putA s b).map (Value.int .u8))) := Lib.hid (own_below hown hb3)
    have HN : Hid (∀ j u, ([.int .u8 (n % 256)] : List Value)[j]? = some u → w3.cell? ((⟨w2.heap.size, 0, none⟩ : Addr).add j) = some u) := Lib.hid fun j u hu => by
      have hB : Blk w3 w2.heap.size 5 #[.int .u8 (n % 256)] := hw3 ▸ Blk.new w2 _ _
      rw [add_plain, hB.cell, Nat.zero_add]
      simpa using hu
    have HG : Hid (v.ownBlock ≠ some w.heap.size) := Lib.hid (own_ne hR.1 hS0.1.lt)
    have hlen : (putA s b).length ≤ 17 := by rw [putA_len s b HL.out]; split <;> omega
    refine wpAnyH_ready (rs := [7]) (by kernel_rfl) (by simp) ?_
    refine AllReadyH.cons rfl (fun K' hK => ?_) AllReadyH.nil
    rw [if_pos (by kernel_rfl)]
    refine wp_append_own _ (.tmp 5) (.tmp 9) 25 rfl w.heap.size 5 i0 (.int .u8 0) 1 1 Tryz.underlying25 hi hz0 hz1 hz2 rfl (by decide) v _ _ (by kernel_rfl) HO.out ⟨w2.heap.size, 0, none⟩ 1 1 [.int .u8 (n % 256)] (by kernel_rfl) rfl HN.out (by simp [Value.oneCell']) (by unfold maxLen; omega) (by omega) (by have := hS.2.size; omega) (fun v' w4 hown hgrow _ => hK.out _ _ ⟨hS.1.grown hgrow HG.out, hS.2.grown hgrow hS.2.size (fun k hk => own_block HO.out hk)⟩ (fun hS => ?_))
    simp only [List.getElem_toArray, List.getElem_cons_zero, List.getElem_cons_succ, Act.put, List.setIfInBounds_toArray, List.set_cons_zero, List.set_cons_succ]
    have F : Hid (OwnEnd (putC s b n) w (.returned v') w4) := Lib.hid ⟨v', rfl, by
      unfold putC
      rw [List.length_append, List.map_append]
      exact hown, hS.2⟩
    refine wpAnyH_take (i := 8) (v := v') rfl (by kernel_rfl) (by kernel_rfl) (by kernel_rfl) (fun _ _ _ h => h) (.inl ⟨by kernel_rfl, fun w _ => by kernel_rfl⟩) hS ?_
    simp only [List.getElem_toArray, List.getElem_cons_zero, List.getElem_cons_succ, Act.put, List.setIfInBounds_toArray, List.set_cons_zero, List.set_cons_succ]
    refine wpAnyH_done (by kernel_rfl) ?_ _
    clear hS hown hgrow
    go_wp2
    go_ret
    exact F.out
  · obtain ⟨w2, hw2⟩ : ∃ w2, w2 = w1.drew.alloc (.cells #[.int .u8 (n % 256)] 5) := ⟨_, rfl⟩
    have hb2 : Below w1.drew.heap.size w1.drew w2 := hw2 ▸ (Below.refl _ _).alloc (Nat.le_refl _) _
    refine step_run (.slice (some ⟨w1.drew.heap.size, 0, none⟩) 1 1) w2 (by rw [hw2]; kernel_rfl) (by kernel_rfl) (hK.out _ _ ⟨hS.1.kept hb2, bel2 hS.2 hb2⟩ (fun hS2 => ?_))
    simp only [List.getElem_toArray, List.getElem_cons_zero, List.getElem_cons_succ, Act.put, List.setIfInBounds_toArray, List.set_cons_zero, List.set_cons_succ]
    refine wpAnyH_ready (rs := [2]) (by kernel_rfl) (by simp) ?_
    refine AllReadyH.cons rfl (fun K' hK => ?_) AllReadyH.nil
    refine step_callE 11 #[.agg (adr s b)] (by kernel_rfl) (by kernel_rfl) (CP.out _) (fun v w3 hR => hK.out _ _ ⟨hS2.1.kept hR.2, bel2 hS2.2 hR.2⟩ (fun hS => ?_))
    simp only [List.getElem_toArray, List.getElem_cons_zero, List.getElem_cons_succ, Act.put, List.setIfInBounds_toArray, List.set_cons_zero, List.set_cons_succ]
    have HO : Hid (w3.ownsRow w.heap.size 5 1 v (putA s b).length ((putA s b).map (Value.int .u8))) := Lib.hid (own_mono hR.1 hS2.2.size)
    have HN : Hid (∀ j u, ([.int .u8 (n % 256)] : List Value)[j]? = some u → w3.cell? ((⟨w1.drew.heap.size, 0, none⟩ : Addr).add j) = some u) := Lib.hid fun j u hu => by
      have hB : Blk w3 w1.drew.heap.size 5 #[.int .u8 (n % 256)] := (hw2 ▸ Blk.new w1.drew _ _ : Blk w2 _ _ _).kept hR.2
      rw [add_plain, hB.cell, Nat.zero_add]
      simpa using hu
    have HG : Hid (v.ownBlock ≠ some w.heap.size) := Lib.hid (own_ne hR.1 hS2.1.lt)
    have hlen : (putA s b).length ≤ 17 := by rw [putA_len s b HL.out]; split <;> omega
    refine wpAnyH_ready (rs := [7]) (by kernel_rfl) (by simp) ?_
    refine AllReadyH.cons rfl (fun K' hK => ?_) AllReadyH.nil
    rw [if_pos (by kernel_rfl)]
    refine wp_append_own _ (.tmp 5) (.tmp 9) 25 rfl w.heap.size 5 i0 (.int .u8 0) 1 1 Tryz.underlying25 hi hz0 hz1 hz2 rfl (by decide) v _ _ (by kernel_rfl) HO.out ⟨w1.drew.heap.size, 0, none⟩ 1 1 [.int .u8 (n % 256)] (by kernel_rfl) rfl HN.out (by simp [Value.oneCell']) (by unfold maxLen; omega) (by omega) (by have := hS.2.size; omega) (fun v' w4 hown hgrow _ => hK.out _ _ ⟨hS.1.grown hgrow HG.out, hS.2.grown hgrow hS.2.size (fun k hk => own_block HO.out hk)⟩ (fun hS => ?_))
    simp only [List.getElem_toArray, List.getElem_cons_zero, List.getElem_cons_succ, Act.put, List.setIfInBounds_toArray, List.set_cons_zero, List.set_cons_succ]
    have F : Hid (OwnEnd (putC s b n) w (.returned v') w4) := Lib.hid ⟨v', rfl, by
      unfold putC
      rw [List.length_append, List.map_append]
      exact hown, hS.2⟩
    refine wpAnyH_take (i := 8) (v := v') rfl (by kernel_rfl) (by kernel_rfl) (by kernel_rfl) (fun _ _ _ h => h) (.inl ⟨by kernel_rfl, fun w _ => by kernel_rfl⟩) hS ?_
    simp only [List.getElem_toArray, List.getElem_cons_zero, List.getElem_cons_succ, Act.put, List.setIfInBounds_toArray, List.set_cons_zero, List.set_cons_succ]
    refine wpAnyH_done (by kernel_rfl) ?_ _
    clear hS hown hgrow
    go_wp2
    go_ret
    exact F.out

set_option linter.unusedSimpArgs false in
set_option maxRecDepth 100000 in
set_option maxHeartbeats 4000000 in
theorem crput_any (s : Bool) (b : List Int) (hl : b.length = 16) (n : Int) (w : World) : Calls Tryz.prog 30 #[.agg (cid s b n)] w (OwnEnd (putC s b n) w) := by
  obtain ⟨w1, hw1⟩ : ∃ W, W = w.alloc (.cells (cid s b n) 50) := ⟨_, rfl⟩
  have hB0 : Blk w1 w.heap.size 50 (cid s b n) := hw1 ▸ Blk.new w _ _
  have hb0 : Below w.heap.size w w1 := hw1 ▸ (Below.refl _ _).alloc (Nat.le_refl _) _
  have HW0 := Lib.hid hw1.symm
  have HL := Lib.hid hl
  obtain ⟨i0, hi, hpx⟩ := Option.map_eq_some_iff.1 Tryz.infoByte
  simp only [Prod.mk.injEq] at hpx
  obtain ⟨hz1, hz0, hz2⟩ := hpx
  have CP : Hid (∀ w, Calls Tryz.prog 12 #[.agg (adr s b)] w fun e w' => ∃ v, e = .returned v ∧ (w'.ownsRow w.heap.size 5 1 v (putA s b).length ((putA s b).map (Value.int .u8)) ∧ Below w.heap.size w w')) := Lib.hid (rput_any s b hl)
  have hS0 : Blk w1.drew (w.heap.size) 50 (cid s b n) ∧ Below w.heap.size w w1.drew := ⟨hB0.kept (below_drewN w1 1), bel2 hb0 (below_drewN w1 1)⟩
  clear hw1 hB0 hb0 hl
  go_enter Tryz.func30, Tryz.ntmps30
  go_upto_region 1 with fail
  rw [HW0.out]
  refine wp_region_held_drew (S := fun w' => Blk w' (w.heap.size) 50 (cid s b n) ∧ Below w.heap.size w w') (by kernel_rfl) hS0 (fun hS => ?_)
  change wpAnyH _ _ _ _ _ 9 #[false, false, false, false, false, false, false, false, false] _ _
  refine wpAnyH_take (i := 0) (v := .pointer (some ⟨w.heap.size, 0, none⟩)) rfl (by kernel_rfl) (by kernel_rfl) (by kernel_rfl) (fun _ _ _ h => h) (.inl ⟨by kernel_rfl, fun w _ => by kernel_rfl⟩) hS ?_
  simp only [List.getElem_toArray, List.getElem_cons_zero, List.getElem_cons_succ, Act.put, List.setIfInBounds_toArray, List.set_cons_zero, List.set_cons_succ]
  refine wpAnyH_take (i := 1) (v := .agg (adr s b)) rfl (by kernel_rfl) (by kernel_rfl) (by kernel_rfl) (fun _ _ _ h => h) (yields_addr (.tmp 3) rfl (w.heap.size) (by kernel_rfl) s b n (fun w h => h.1) HL.out (by kernel_rfl)) hS ?_
  simp only [List.getElem_toArray, List.getElem_cons_zero, List.getElem_cons_succ, Act.put, List.setIfInBounds_toArray, List.set_cons_zero, List.set_cons_succ]
  refine wpAnyH_take (i := 3) (v := .pointer (some ⟨w.heap.size, 17, none⟩)) rfl (by kernel_rfl) (by kernel_rfl) (by kernel_rfl) (fun _ _ _ h => h) (.inl ⟨by kernel_rfl, fun w _ => by kernel_rfl⟩) hS ?_
  simp only [List.getElem_toArray, List.getElem_cons_zero, List.getElem_cons_succ, Act.put, List.setIfInBounds_toArray, List.set_cons_zero, List.set_cons_succ]
  refine wpAnyH_take (i := 4) (v := .int .i64 n) rfl (by kernel_rfl) (by kernel_rfl) (by kernel_rfl) (fun _ _ _ h => h) (yields_cell (.tmp 6) rfl (w.heap.size) 17 (by kernel_rfl) n (fun w h => cid_bitsCell h.1 HL.out) (by kernel_rfl)) hS ?_
  simp only [List.getElem_toArray, List.getElem_cons_zero, List.getElem_cons_succ, Act.put, List.setIfInBounds_toArray, List.set_cons_zero, List.set_cons_succ]
  refine wpAnyH_take (i := 5) (v := .int .u8 (n % 256)) rfl (by kernel_rfl) (by kernel_rfl) (by kernel_rfl) (fun _ _ _ h => h) (.inl ⟨by kernel_rfl, fun w _ => exec_byte (.tmp 7) rfl n (by kernel_rfl)⟩) hS ?_
  simp only [List.getElem_toArray, List.getElem_cons_zero, List.getElem_cons_succ, Act.put, List.setIfInBounds_toArray, List.set_cons_zero, List.set_cons_succ]
  refine wpAnyH_ready (rs := [2, 6]) (by kernel_rfl) (by simp) ?_
  refine AllReadyH.cons rfl (fun K' hK => ?_) (AllReadyH.cons rfl (fun K' hK => ?_) AllReadyH.nil)
  · refine step_callE 12 #[.agg (adr s b)] (by kernel_rfl) (by kernel_rfl) (CP.out _) (fun v w2 hR => hK.out _ _ ⟨hS.1.kept hR.2, bel2 hS.2 hR.2⟩ (fun hS2 => ?_))
    simp only [List.getElem_toArray, List.getElem_cons_zero, List.getElem_cons_succ, Act.put, List.setIfInBounds_toArray, List.set_cons_zero, List.set_cons_succ]
    have hown := own_mono hR.1 hS.2.size
    obtain ⟨w3, hw3⟩ : ∃ w3, w3 = w2.alloc (.cells #[.int .u8 (n % 256)] 5) := ⟨_, rfl⟩
    have hb3 : Below w2.heap.size w2 w3 := hw3 ▸ (Below.refl _ _).alloc (Nat.le_refl _) _
    refine wpAnyH_ready (rs := [6]) (by kernel_rfl) (by simp) ?_
    refine AllReadyH.cons rfl (fun K' hK => ?_) AllReadyH.nil
    refine step_run (.slice (some ⟨w2.heap.size, 0, none⟩) 1 1) w3 (by rw [hw3]; kernel_rfl) (by kernel_rfl) (hK.out _ _ ⟨hS2.1.kept hb3, bel2 hS2.2 hb3⟩ (fun hS => ?_))
    simp only [List.getElem_toArray, List.getElem_cons_zero, List.getElem_cons_succ, Act.put, List.setIfInBounds_toArray, List.set_cons_zero, List.set_cons_succ]
    have HO : Hid (w3.ownsRow w.heap.size 5 1 v (putA s b).length ((putA s b).map (Value.int .u8))) := Lib.hid (own_below hown hb3)
    have HN : Hid (∀ j u, ([.int .u8 (n % 256)] : List Value)[j]? = some u → w3.cell? ((⟨w2.heap.size, 0, none⟩ : Addr).add j) = some u) := Lib.hid fun j u hu => by
      have hB : Blk w3 w2.heap.size 5 #[.int .u8 (n % 256)] := hw3 ▸ Blk.new w2 _ _
      rw [add_plain, hB.cell, Nat.zero_add]
      simpa using hu
    have HG : Hid (v.ownBlock ≠ some w.heap.size) := Lib.hid (own_ne hR.1 hS0.1.lt)
    have hlen : (putA s b).length ≤ 17 := by rw [putA_len s b HL.out]; split <;> omega
    refine wpAnyH_ready (rs := [7]) (by kernel_rfl) (by simp) ?_
    refine AllReadyH.cons rfl (fun K' hK => ?_) AllReadyH.nil
    rw [if_pos (by kernel_rfl)]
    refine wp_append_own _ (.tmp 5) (.tmp 9) 25 rfl w.heap.size 5 i0 (.int .u8 0) 1 1 Tryz.underlying25 hi hz0 hz1 hz2 rfl (by decide) v _ _ (by kernel_rfl) HO.out ⟨w2.heap.size, 0, none⟩ 1 1 [.int .u8 (n % 256)] (by kernel_rfl) rfl HN.out (by simp [Value.oneCell']) (by unfold maxLen; omega) (by omega) (by have := hS.2.size; omega) (fun v' w4 hown hgrow _ => hK.out _ _ ⟨hS.1.grown hgrow HG.out, hS.2.grown hgrow hS.2.size (fun k hk => own_block HO.out hk)⟩ (fun hS => ?_))
    simp only [List.getElem_toArray, List.getElem_cons_zero, List.getElem_cons_succ, Act.put, List.setIfInBounds_toArray, List.set_cons_zero, List.set_cons_succ]
    have F : Hid (OwnEnd (putC s b n) w (.returned v') w4) := Lib.hid ⟨v', rfl, by
      unfold putC
      rw [List.length_append, List.map_append]
      exact hown, hS.2⟩
    refine wpAnyH_take (i := 8) (v := v') rfl (by kernel_rfl) (by kernel_rfl) (by kernel_rfl) (fun _ _ _ h => h) (.inl ⟨by kernel_rfl, fun w _ => by kernel_rfl⟩) hS ?_
    simp only [List.getElem_toArray, List.getElem_cons_zero, List.getElem_cons_succ, Act.put, List.setIfInBounds_toArray, List.set_cons_zero, List.set_cons_succ]
    refine wpAnyH_done (by kernel_rfl) ?_ _
    clear hS hown hgrow
    go_wp2
    go_ret
    exact F.out
  · obtain ⟨w2, hw2⟩ : ∃ w2, w2 = w1.drew.alloc (.cells #[.int .u8 (n % 256)] 5) := ⟨_, rfl⟩
    have hb2 : Below w1.drew.heap.size w1.drew w2 := hw2 ▸ (Below.refl _ _).alloc (Nat.le_refl _) _
    refine step_run (.slice (some ⟨w1.drew.heap.size, 0, none⟩) 1 1) w2 (by rw [hw2]; kernel_rfl) (by kernel_rfl) (hK.out _ _ ⟨hS.1.kept hb2, bel2 hS.2 hb2⟩ (fun hS2 => ?_))
    simp only [List.getElem_toArray, List.getElem_cons_zero, List.getElem_cons_succ, Act.put, List.setIfInBounds_toArray, List.set_cons_zero, List.set_cons_succ]
    refine wpAnyH_ready (rs := [2]) (by kernel_rfl) (by simp) ?_
    refine AllReadyH.cons rfl (fun K' hK => ?_) AllReadyH.nil
    refine step_callE 12 #[.agg (adr s b)] (by kernel_rfl) (by kernel_rfl) (CP.out _) (fun v w3 hR => hK.out _ _ ⟨hS2.1.kept hR.2, bel2 hS2.2 hR.2⟩ (fun hS => ?_))
    simp only [List.getElem_toArray, List.getElem_cons_zero, List.getElem_cons_succ, Act.put, List.setIfInBounds_toArray, List.set_cons_zero, List.set_cons_succ]
    have HO : Hid (w3.ownsRow w.heap.size 5 1 v (putA s b).length ((putA s b).map (Value.int .u8))) := Lib.hid (own_mono hR.1 hS2.2.size)
    have HN : Hid (∀ j u, ([.int .u8 (n % 256)] : List Value)[j]? = some u → w3.cell? ((⟨w1.drew.heap.size, 0, none⟩ : Addr).add j) = some u) := Lib.hid fun j u hu => by
      have hB : Blk w3 w1.drew.heap.size 5 #[.int .u8 (n % 256)] := (hw2 ▸ Blk.new w1.drew _ _ : Blk w2 _ _ _).kept hR.2
      rw [add_plain, hB.cell, Nat.zero_add]
      simpa using hu
    have HG : Hid (v.ownBlock ≠ some w.heap.size) := Lib.hid (own_ne hR.1 hS2.1.lt)
    have hlen : (putA s b).length ≤ 17 := by rw [putA_len s b HL.out]; split <;> omega
    refine wpAnyH_ready (rs := [7]) (by kernel_rfl) (by simp) ?_
    refine AllReadyH.cons rfl (fun K' hK => ?_) AllReadyH.nil
    rw [if_pos (by kernel_rfl)]
    refine wp_append_own _ (.tmp 5) (.tmp 9) 25 rfl w.heap.size 5 i0 (.int .u8 0) 1 1 Tryz.underlying25 hi hz0 hz1 hz2 rfl (by decide) v _ _ (by kernel_rfl) HO.out ⟨w1.drew.heap.size, 0, none⟩ 1 1 [.int .u8 (n % 256)] (by kernel_rfl) rfl HN.out (by simp [Value.oneCell']) (by unfold maxLen; omega) (by omega) (by have := hS.2.size; omega) (fun v' w4 hown hgrow _ => hK.out _ _ ⟨hS.1.grown hgrow HG.out, hS.2.grown hgrow hS.2.size (fun k hk => own_block HO.out hk)⟩ (fun hS => ?_))
    simp only [List.getElem_toArray, List.getElem_cons_zero, List.getElem_cons_succ, Act.put, List.setIfInBounds_toArray, List.set_cons_zero, List.set_cons_succ]
    have F : Hid (OwnEnd (putC s b n) w (.returned v') w4) := Lib.hid ⟨v', rfl, by
      unfold putC
      rw [List.length_append, List.map_append]
      exact hown, hS.2⟩
    refine wpAnyH_take (i := 8) (v := v') rfl (by kernel_rfl) (by kernel_rfl) (by kernel_rfl) (fun _ _ _ h => h) (.inl ⟨by kernel_rfl, fun w _ => by kernel_rfl⟩) hS ?_
    simp only [List.getElem_toArray, List.getElem_cons_zero, List.getElem_cons_succ, Act.put, List.setIfInBounds_toArray, List.set_cons_zero, List.set_cons_succ]
    refine wpAnyH_done (by kernel_rfl) ?_ _
    clear hS hown hgrow
    go_wp2
    go_ret
    exact F.out
end Go.Proofs.YtnfkgoeocebenaaGreatDoor
