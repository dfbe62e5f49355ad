/-
  take: bytes wait, till so many do.
-/
import Derived.Test.YtkpjdjenlmodnaaDoorEstr1
import Derived.Laws.IdiomCopy
import Derived.Deep.Cut
import Derived.Deep.LoopGhost
namespace Go.Proofs.YtkpjdjenlmodnaaDoor
open Go.RowKit Go.Lib

section
variable {w w' : World} {c : Nat} {p : List Int} {n : Nat} {b : Bool}
theorem keep_cells (c : Nat) : ∀ (vs : List Value) (o : Nat) (w : World), Keep c w (w.setCells c o vs)
  | [], _, w => Keep.refl c w
  | v :: r, o, w => (Keep.set w c o v).trans (keep_cells c r (o + 1) _)
theorem blk_cells {t : TypeId} (c : Nat) : ∀ (vs : List Value) (o : Nat) (w : World) (cs : Array Value), Blk w c t cs → ∃ cs', Blk (w.setCells c o vs) c t cs' ∧ cs'.size = cs.size
  | [], _, _, cs, h => ⟨cs, h, rfl⟩
  | v :: r, o, w, cs, h => by
    obtain ⟨cs', h1, h2⟩ := blk_cells c r (o + 1) _ _ (h.set o v)
    exact ⟨cs', h1, by simpa using h2⟩
/-- More bytes came. -/
theorem Str.came (h : Str w c p n b) (q : List Int) (hq : p.length + q.length ≤ 1202) (hb : Byt q) : Str ((w.setCells c p.length (q.map (Value.int .u8))).setCell ⟨c, 1202, none⟩ (.int .i64 (p ++ q).length)) c (p ++ q) n b := by
  obtain ⟨cs, h1, h2, h3, h4, h5, h6⟩ := h.obj
  obtain ⟨cs', k1, k2⟩ := blk_cells c (q.map (Value.int .u8)) p.length w cs h1
  have out : ∀ i, p.length + q.length ≤ i → cs'[i]? = cs[i]? := fun i hi => by
    rw [← k1.cell, ← h1.cell]
    exact World.cell?_setCells_out c _ _ w ⟨c, i, none⟩ (fun _ _ => .inr (by simpa using hi))
  have low : ∀ i, i < p.length → cs'[i]? = cs[i]? := fun i hi => by
    rw [← k1.cell, ← h1.cell]
    exact World.cell?_setCells_out c _ _ w ⟨c, i, none⟩ (fun _ _ => .inl hi)
  have hpc : ∀ j, j < (p ++ q).length → cs'[j]? = some (.int .u8 ((p ++ q).getD j 0)) := fun j hj => by
    by_cases hjp : j < p.length
    · rw [low j hjp, h3 j hjp, getD_app hjp]
    · rw [List.length_append] at hj
      have := World.cell?_setCells_in c (q.map (Value.int .u8)) p.length w (fun i hi => by
        rw [List.length_map] at hi
        exact h.there _ (by omega)) (j - p.length) (by rw [List.length_map]; omega)
      rw [k1.cell, show p.length + (j - p.length) = j by omega] at this
      rw [this]
      simp [List.getD, List.getElem?_append_right (show p.length ≤ j by omega), List.getElem?_eq_getElem (show j - p.length < q.length by omega)]
  refine ⟨⟨_, k1.set 1202 _, by simpa [k2] using h2, fun j hj => ?_, ?_, ?_, ?_⟩, by rw [List.length_append]; exact hq, fun j => ?_⟩
  · rw [List.length_append] at hj
    rw [Array.getElem?_setIfInBounds_ne (by omega)]
    exact hpc j (by rw [List.length_append]; exact hj)
  · exact Array.getElem?_setIfInBounds_self_of_lt (by omega)
  · rw [Array.getElem?_setIfInBounds_ne (by omega), out 1203 (by omega)]; exact h5
  · rw [Array.getElem?_setIfInBounds_ne (by omega), out 1204 (by omega)]; exact h6
  · by_cases hjp : j < p.length
    · rw [getD_app hjp]; exact h.byte j
    · have := hb (j - p.length)
      simpa [List.getD, List.getElem?_append_right (show p.length ≤ j by omega)] using this

theorem copy_u8 (c o dl dc : Nat) (ad : Option Addr) (cap k : Nat) (bs : List Int) (A : Nat → Prop) (h : Str w c p n b) (hr : RowA A w ad bs) (hk : k = Nat.min bs.length dl) (ho : o + k ≤ 1205) :
    (Builtin.copy_ #[22, 22] 3 #[.slice (some ⟨c, o, none⟩) dl dc, .slice ad bs.length cap]).run Tryd.prog w = .ok (goInt k) (w.setCells c o ((bs.take k).map (Value.int .u8))) := by
  have hkl : k ≤ bs.length := hk ▸ Nat.min_le_left _ _
  have hlen : ((bs.take k).map (Value.int .u8)).length = k := by rw [List.length_map, List.length_take]; omega
  by_cases h0 : k = 0
  · subst h0
    have := run_copy_none (P := Tryd.prog) w 22 22 3 5 (some ⟨c, o, none⟩) ad dl dc bs.length cap Tryd.underlying22 (by kernel_rfl) hk.symm
    rw [this]
    rfl
  · obtain ⟨g, o', rfl, _, _⟩ := hr 0 (by omega)
    have := run_copy_cells (P := Tryd.prog) w 22 22 3 5 c o dl dc ⟨g, o', none⟩ bs.length cap ((bs.take k).map (Value.int .u8)) Tryd.underlying22 (by kernel_rfl) (by rw [hlen]; exact hk)
      (fun j v hv => by
        rw [List.getElem?_map] at hv
        obtain ⟨x, hx, rfl⟩ := Option.map_eq_some_iff.1 hv
        have hj : j < (bs.take k).length := (List.getElem?_eq_some_iff.1 hx).1
        rw [List.length_take] at hj
        obtain ⟨g2, o2, e, _, hc⟩ := hr j (by omega)
        cases e
        rw [add_plain, hc]
        rw [List.getElem?_take] at hx
        split at hx
        · rw [List.getD, hx]; rfl
        · cases hx)
      (fun j hj => h.there _ (by omega)) (fun j _ => h.free _) (u8_one _)
    rw [hlen] at this
    exact this

theorem slice_arr (c l m : Nat) (h1 : l < m) (h2 : m ≤ 1202) (V : World) : (Instr.sliceAt 53 (.pointer (some ⟨c, 0, none⟩)) (some (.int .i64 l)) (some (.int .i64 m)) none).run Tryd.prog V = .ok (.slice (some ⟨c, l, none⟩) (m - l) (1202 - l)) V := by
  have hlen : Tryd.prog.arrayLen 53 = 1202 := by kernel_rfl
  have he : (sizeOf (Tryd.prog.elem 53)).run Tryd.prog V = .ok 1 V := by kernel_rfl
  rw [run_sliceAt_array_lh V 53 ⟨c, 0, none⟩ (by kernel_rfl) .i64 .i64 l m (by omega) (by omega) (by rw [hlen]; omega), he, hlen]
  simp [slicedAt, show ¬ (1202 = l) by omega, add_plain]
/-- What take ends in. -/
def TakeEnd (w : World) (c : Nat) (p : List Int) (n : Nat) (ad : Option Addr) (cap : Nat) (bs : List Int) (k : Nat) (e : Ending) (w' : World) : Prop :=
  ∃ ad', e = .returned (.slice ad' (bs.drop k).length (cap - k)) ∧ (ad' = none → ad = none) ∧ (∀ A, RowA A w' ad bs → RowA A w' ad' (bs.drop k)) ∧ Str w' c (p ++ bs.take k) n false ∧ Keep c w w'
theorem row_drop {A : Nat → Prop} {ad : Option Addr} {bs : List Int} (h : RowA A w ad bs) (k : Nat) : RowA A w (ad.map (·.add k)) (bs.drop k) := by
  intro j hj
  have hj2 := hj
  rw [List.length_drop] at hj2
  obtain ⟨g, o, rfl, _, _⟩ := h (k + j) (by omega)
  have := h.drop k j hj
  simpa [add_plain] using this

set_option linter.unusedSimpArgs false in
set_option maxRecDepth 100000 in
set_option maxHeartbeats 8000000 in
theorem take_any (h : Str w c p n false) (ad : Option Addr) (cap : Nat) (bs : List Int) (hr : RowA (· ≠ c) w ad bs) (hc : bs.length ≤ cap) (hn : ad = none → cap = 0) (hby : Byt bs) (m k : Nat) (h1 : p.length < m) (h2 : m ≤ 1202) (hk : k = Nat.min bs.length (m - p.length)) (hm : bs.length ≤ 1000000) :
    Calls Tryd.prog 22 #[.pointer (some ⟨c, 0, none⟩), .slice ad bs.length cap, .int .i64 m] w (TakeEnd w c p n ad cap bs k) := by
  have hkl : k ≤ bs.length := hk ▸ Nat.min_le_left _ _
  have hkm : k ≤ m - p.length := hk ▸ Nat.min_le_right _ _
  have hltk : (bs.take k).length = k := by rw [List.length_take]; omega
  have hbt : Byt (bs.take k) := fun j => by
    by_cases hj : j < k
    · have := hby j
      simp only [List.getD, List.getElem?_take, if_pos hj] at *
      exact this
    · simp [List.getD, List.getElem?_take, hj]
  have HC : Hid (∀ V, Below w.heap.size w V → (Builtin.copy_ #[22, 22] 3 #[.slice (some ⟨c, p.length, none⟩) (m - p.length) (1202 - p.length), .slice ad bs.length cap]).run Tryd.prog V = .ok (goInt k) (V.setCells c p.length ((bs.take k).map (Value.int .u8)))) := hid fun V hV =>
    copy_u8 c p.length (m - p.length) (1202 - p.length) ad cap k bs _ (h.kept hV) (hr.kept fun g _ hg => hV.block g hg) hk (by omega)
  have HW : Hid (∀ V, Below w.heap.size w V → V.cell? ⟨c, 1202, none⟩ = some (.int .i64 p.length) ∧ (V.setCells c p.length ((bs.take k).map (Value.int .u8))).cell? ⟨c, 1202, none⟩ = some (.int .i64 p.length) ∧ (V.setCells c p.length ((bs.take k).map (Value.int .u8))).frozen? ⟨c, 1202, none⟩ = false) := hid fun V hV =>
    ⟨(h.kept hV).cellW, by rw [World.cell?_setCells_out c _ _ V ⟨c, 1202, none⟩ (fun _ _ => .inr (by rw [List.length_map, hltk]; simp; omega))]; exact (h.kept hV).cellW, by rw [World.frozen?_setCells]; exact (h.kept hV).free 1202⟩
  have HS : Hid (∀ V, Below w.heap.size w V → ∀ ad', (ad' = ad.map (·.add k) ∨ ad' = ad ∧ bs.length ≤ k) → TakeEnd w c p n ad cap bs k (.returned (.slice ad' (bs.drop k).length (cap - k))) ((V.setCells c p.length ((bs.take k).map (Value.int .u8))).setCell ⟨c, 1202, none⟩ (.int .i64 ((p.length + k : Nat) : Int)))) := hid fun V hV ad' had => by
    have := (h.kept hV).came (bs.take k) (by omega) hbt
    rw [List.length_append, hltk] at this
    refine ⟨_, rfl, fun e => ?_, fun A hA => ?_, this, ((Keep.of hV (Nat.le_of_lt h.lt)).trans (keep_cells c _ _ V)).trans (Keep.set _ c 1202 _)⟩
    · rcases had with rfl | ⟨rfl, _⟩
      · cases ad <;> simp at e ⊢
      · exact e
    · rcases had with rfl | ⟨rfl, hle⟩
      · exact row_drop hA k
      · exact fun j hj => by rw [List.length_drop] at hj; omega
  have HD : Hid ((bs.drop k).length = bs.length - k) := hid (List.length_drop ..)
  have HN := hid hn
  rw [HD.out] at HS
  have HSl := hid (fun V => slice_arr c p.length m h1 h2 V)
  clear h hr hby hk hbt hltk hn
  generalize bs.length = l at *
  generalize (bs.take k).map (Value.int .u8) = q at *
  generalize p.length = pl at *
  clear HD
  go_enter Tryd.func22, Tryd.ntmps22
  go_upto_region 1 with fail
  refine wp_region_held_drew (S := fun V => V.cell? ⟨c, 1202, none⟩ = some (.int .i64 pl)) (by kernel_rfl) (HW.out w.drew (Below.refl _ _).drew).1 (fun hS => ?_)
  change wpAnyH _ _ _ _ _ 12 #[false, false, false, false, false, false, false, false, false, false, false, false] _ _
  refine wpAnyH_take (i := 0) (v := .pointer (some ⟨c, 0, none⟩)) rfl (by kernel_rfl) (by kernel_rfl) (by kernel_rfl) (fun _ _ _ h => h) (.inl ⟨by kernel_rfl, fun V hV => by unfold execOp; go_simp⟩) hS ?_
  simp only [List.getElem_toArray, List.getElem_cons_zero, List.getElem_cons_succ, Act.put, List.setIfInBounds_toArray, List.set_cons_zero, List.set_cons_succ]
  refine wpAnyH_take (i := 1) (v := .pointer (some ⟨c, 0, none⟩)) rfl (by kernel_rfl) (by kernel_rfl) (by kernel_rfl) (fun _ _ _ h => h) (.inl ⟨by kernel_rfl, fun V hV => by unfold execOp; go_simp⟩) hS ?_
  simp only [List.getElem_toArray, List.getElem_cons_zero, List.getElem_cons_succ, Act.put, List.setIfInBounds_toArray, List.set_cons_zero, List.set_cons_succ]
  refine wpAnyH_take (i := 2) (v := .pointer (some ⟨c, 0, none⟩)) rfl (by kernel_rfl) (by kernel_rfl) (by kernel_rfl) (fun _ _ _ h => h) (.inl ⟨by kernel_rfl, fun V hV => by unfold execOp; go_simp⟩) hS ?_
  simp only [List.getElem_toArray, List.getElem_cons_zero, List.getElem_cons_succ, Act.put, List.setIfInBounds_toArray, List.set_cons_zero, List.set_cons_succ]
  refine wpAnyH_take (i := 3) (v := .pointer (some ⟨c, 0, none⟩)) rfl (by kernel_rfl) (by kernel_rfl) (by kernel_rfl) (fun _ _ _ h => h) (.inl ⟨by kernel_rfl, fun V hV => by unfold execOp; go_simp⟩) hS ?_
  simp only [List.getElem_toArray, List.getElem_cons_zero, List.getElem_cons_succ, Act.put, List.setIfInBounds_toArray, List.set_cons_zero, List.set_cons_succ]
  refine wpAnyH_take (i := 4) (v := .pointer (some ⟨c, 0, none⟩)) rfl (by kernel_rfl) (by kernel_rfl) (by kernel_rfl) (fun _ _ _ h => h) (.inl ⟨by kernel_rfl, fun V hV => by unfold execOp; go_simp⟩) hS ?_
  simp only [List.getElem_toArray, List.getElem_cons_zero, List.getElem_cons_succ, Act.put, List.setIfInBounds_toArray, List.set_cons_zero, List.set_cons_succ]
  refine wpAnyH_take (i := 5) (v := .pointer (some ⟨c, 1202, none⟩)) rfl (by kernel_rfl) (by kernel_rfl) (by kernel_rfl) (fun _ _ _ h => h) (.inl ⟨by kernel_rfl, fun V hV => by unfold execOp; go_simp⟩) hS ?_
  simp only [List.getElem_toArray, List.getElem_cons_zero, List.getElem_cons_succ, Act.put, List.setIfInBounds_toArray, List.set_cons_zero, List.set_cons_succ]
  refine wpAnyH_take (i := 6) (v := .int .i64 (pl : Int)) rfl (by kernel_rfl) (by kernel_rfl) (by kernel_rfl) (fun _ _ _ h => h) (.inl ⟨by kernel_rfl, fun V hV => by have c0 := hV; unfold execOp; go_simp⟩) hS ?_
  simp only [List.getElem_toArray, List.getElem_cons_zero, List.getElem_cons_succ, Act.put, List.setIfInBounds_toArray, List.set_cons_zero, List.set_cons_succ]
  refine wpAnyH_take (i := 7) (v := .int .i64 (m : Int)) rfl (by kernel_rfl) (by kernel_rfl) (by kernel_rfl) (fun _ _ _ h => h) (.inl ⟨by kernel_rfl, fun V hV => by unfold execOp; go_simp⟩) hS ?_
  simp only [List.getElem_toArray, List.getElem_cons_zero, List.getElem_cons_succ, Act.put, List.setIfInBounds_toArray, List.set_cons_zero, List.set_cons_succ]
  refine wpAnyH_take (i := 8) (v := .slice (some ⟨c, pl, none⟩) (m - pl) (1202 - pl)) rfl (by kernel_rfl) (by kernel_rfl) (by kernel_rfl) (fun _ _ _ h => h) (.inl ⟨by kernel_rfl, fun V hV => by have s0 := HSl.out V; unfold execOp; go_simp⟩) hS ?_
  simp only [List.getElem_toArray, List.getElem_cons_zero, List.getElem_cons_succ, Act.put, List.setIfInBounds_toArray, List.set_cons_zero, List.set_cons_succ]
  refine wpAnyH_take (i := 9) (v := .slice ad l cap) rfl (by kernel_rfl) (by kernel_rfl) (by kernel_rfl) (fun _ _ _ h => h) (.inl ⟨by kernel_rfl, fun V hV => by unfold execOp; go_simp⟩) hS ?_
  simp only [List.getElem_toArray, List.getElem_cons_zero, List.getElem_cons_succ, Act.put, List.setIfInBounds_toArray, List.set_cons_zero, List.set_cons_succ]
  refine wpAnyH_ready (rs := [10]) (by kernel_rfl) (by simp) ?_
  refine AllReadyH.cons rfl (fun K' hK => ?_) AllReadyH.nil
  have hcp := HC.out w.drew (Below.refl _ _).drew
  refine step_run (goInt k) (w.drew.setCells c pl q) (by unfold execOp; simp only [resolve, invoke, builtin, Sem.run_bind, Sem.run_pure, Result.andThen_ok, List.map_toArray, List.map_cons, List.map_nil]; go_simp) (by kernel_rfl) (hK.out _ _ (HW.out w.drew (Below.refl _ _).drew).2.1 (fun hS2 => ?_))
  simp only [List.getElem_toArray, List.getElem_cons_zero, List.getElem_cons_succ, Act.put, List.setIfInBounds_toArray, List.set_cons_zero, List.set_cons_succ]
  refine wpAnyH_take (i := 11) (v := goInt k) rfl (by kernel_rfl) (by kernel_rfl) (by kernel_rfl) (fun _ _ _ h => h) (.inl ⟨by kernel_rfl, fun V hV => by unfold execOp; go_simp⟩) hS2 ?_
  simp only [List.getElem_toArray, List.getElem_cons_zero, List.getElem_cons_succ, Act.put, List.setIfInBounds_toArray, List.set_cons_zero, List.set_cons_succ]
  refine wpAnyH_done (by kernel_rfl) ?_ _
  have hfz := (HW.out w.drew (Below.refl _ _).drew).2.2
  have HF := hid (HS.out w.drew (Below.refl _ _).drew)
  clear HS HC HW HSl
  go_wp2
  all_goals
    go_ret
    first
      | exact HF.out _ (.inl rfl)
      | (have hz := HF.out ad (.inr ⟨rfl, by omega⟩); subst h; rw [Nat.sub_self] at hz; exact hz)
end
end Go.Proofs.YtkpjdjenlmodnaaDoor
