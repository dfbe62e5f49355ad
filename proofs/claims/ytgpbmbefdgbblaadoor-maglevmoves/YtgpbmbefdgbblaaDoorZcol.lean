/-
  slices.AppendSeq and slices.Collect at api.Point.
-/
import Derived.Test.YtgpbmbefdgbblaaDoorZval
import Derived.Great.BuildSlice
import Derived.Great.FillDense
namespace Go.Proofs.YtgpbmbefdgbblaaDoor
open Go.RowKit Go.Shelf Go.Lib
attribute [local go_sem] Oper.semAt_some

theorem Tryd.info3PntY : (Tryd.prog.info? 36).map (fun i => (i.size, i.bytes)) = some (18, 32) := by kernel_rfl

theorem Tryd.info4PntY : (Tryd.prog.info? 36).map (fun i => (i.zero.isSome, i.size)) = some (true, 18) := by kernel_rfl
theorem Tryd.info5PntY : (Tryd.prog.info? 36).map (fun i => i.zero.map (·.cells.size)) = some (some 18) := by kernel_rfl

section
variable {α : Type} {enc : α → Array Value}

/-- The cells of elements. -/
def flatY (enc : α → Array Value) (xs : List α) : List Value := xs.flatMap fun x => (enc x).toList
theorem flat_snoc (xs : List α) (x : α) : flatY enc (xs ++ [x]) = flatY enc xs ++ (enc x).toList := by simp [flatY]
theorem flat_length (k : Nat) (hk : ∀ x, (enc x).size = k) : ∀ xs : List α, (flatY enc xs).length = xs.length * k
  | [] => by simp [flatY]
  | x :: xs => by
    have := flat_length k hk xs
    simp only [flatY, List.flatMap_cons, List.length_append, Array.length_toList, hk] at this ⊢
    rw [this, List.length_cons, Nat.add_mul]
    omega

theorem exec_lit1 {o : Oper} {a : Act} {w : World} (x : Operand) (ho : o.op = .buildSlice 22 1 #[(0, x)]) (cs : Array Value) (hx : a.eval x = .agg cs) (hk : cs.size = 18) :
    (execOp a.eval o).run Tryd.prog w = .ok (.value (.slice (some ⟨w.heap.size, 0, none⟩) 1 1)) (w.alloc (.cells cs 36)) := by
  obtain ⟨i, hi, h2⟩ := Option.map_eq_some_iff.1 Tryd.info4PntY
  simp only [Prod.mk.injEq] at h2
  obtain ⟨hz, hs⟩ := h2
  obtain ⟨z, hz⟩ := Option.isSome_iff_exists.1 hz
  have hr := run_buildSlice (P := Tryd.prog) w 22 36 1 #[(0, .agg cs)] cs i z Tryd.underlying22 hi hz (by rw [hs]; decide) (by rw [hs]; decide) (by
    rw [hs]
    have := Great.fill_whole (s := 18) (by decide) [.agg cs] ((Array.range (1 * 18)).map (z.cells[· % z.cells.size]!)) (by simp [Value.cells, hk]) (by simp)
    simpa [Value.cells] using this)
  unfold execOp
  simp only [ho, List.map_toArray, List.map_cons, List.map_nil, hx, Sem.run_bind, hr, Result.andThen_ok, Sem.run_pure]

theorem cells_news {w : World} {cs : Array Value} {t : TypeId} : ∀ j u, cs.toList[j]? = some u → (w.alloc (.cells cs t)).cell? ((⟨w.heap.size, 0, none⟩ : Addr).add j) = some u := fun j u hu => by
  rw [show (⟨w.heap.size, 0, none⟩ : Addr).add j = ⟨w.heap.size, j, none⟩ by unfold Addr.add; split <;> simp_all, (Blk.new w t cs).cell, ← Array.getElem?_toList]
  exact hu

theorem blk_ownf {B : Nat} {X Y : World} {row : Option Nat} {g : Nat} {t : TypeId} {cs : Array Value} (h : Blk X g t cs) (hg : X.grownBy Y row) (hr : ∀ r, row = some r → B ≤ r ∧ ∃ o : Obj, X.heap[r]? = some o ∧ o.isCells = false) : Blk Y g t cs := by
  unfold Blk
  rw [hg.block g h.lt (fun e => ?_)]
  · exact h
  · obtain ⟨_, o, ho, hc⟩ := hr g e.symm
    rw [show X.heap[g]? = _ from h] at ho
    cases ho
    cases hc

def CollEnd (xs : List α) (enc : α → Array Value) (w : World) (e : Ending) (w' : World) : Prop := ∃ v, e = .returned v ∧ w'.ownsRow w.heap.size 36 18 v xs.length (flatY enc xs) ∧ Below w.heap.size w w'

set_option maxRecDepth 100000 in
set_option maxHeartbeats 4000000 in
theorem appendseq_w (hk : ∀ x, (enc x).size = 18) (h1c : ∀ x, (enc x).all (·.oneCell') = true) (n : Nat) (hn : 4 ≤ n) (gf : Nat) (lb : Array Value) (eg : ∀ args w, (callFunc gf args).run Tryd.prog w = .ok (.enter gf args) w) (xs : List α) (hm : xs.length ≤ 100000) (Sp : List α → Prop) (w : World)
    (hseq : ∀ W, Below w.heap.size w W → SeqStopsK Fence.wide (n - 1) Tryd.prog gf lb (fun x : α => #[Value.agg (enc x)]) (Below w.heap.size) (fun ys => ys = xs) Sp xs.length W) :
    CallsIn Fence.wide n Tryd.prog 49 #[.slice none 0 0, .func (.func gf) #[] lb] w (CollEnd xs enc w) := by
  obtain ⟨i0, hi, h2⟩ := Option.map_eq_some_iff.1 Tryd.info3PntY
  simp only [Prod.mk.injEq] at h2
  obtain ⟨hz1, hz2⟩ := h2
  obtain ⟨z, hz0, hzs⟩ : ∃ z, i0.zero = some z ∧ z.cells.size = 18 := by
    have h5 := Tryd.info5PntY
    rw [hi] at h5
    simp only [Option.map_some, Option.some.injEq] at h5
    obtain ⟨z, hz, h6⟩ := Option.map_eq_some_iff.1 h5
    exact ⟨z, hz, h6⟩
  refine callsIn_of_wp_marks Tryd.func49 rfl trivial ?_ rfl
  simp only [Tryd.ntmps49, List.size_toArray, List.length_cons, List.length_nil, Nat.reduceAdd, Nat.reduceSub, Array.replicate_succ, Array.replicate_zero, List.push_toArray, List.append_toArray, List.nil_append, List.cons_append]
  gi_wp2
  have bS := Boxed.new w 22 (.slice none 0 0)
  have hB1 : Below w.heap.size w (w.alloc (.cells #[.slice none 0 0] 22)) := (Below.refl _ w).alloc (Nat.le_refl _) _
  refine wpIn_rangeFunc_ownH rfl (by omega) (gf := gf) (lb := lb) rfl trivial eg
    (hseq _ hB1) belowK_t (belowK_b (by simp)) (Below.refl _ _) (fun _ => rfl)
    (fun pre W => (∃ v, Boxed W w.heap.size 22 v ∧ W.ownsRow w.heap.size 36 18 v pre.length (flatY enc pre) ∧ True) ∧ Below w.heap.size w W)
    (fun _ _ _ => False)
    (OwnFrom.and (Own.from (holdsRow_own w.heap.size w.heap.size 22 36 18 (fun pre : List α => pre.length) (fun pre => flatY enc pre) (fun _ _ => True)) _) (ownFrom_below (Nat.le_refl _) (by simp)))
    (fun _ _ _ _ _ hs _ _ => hs)
    ⟨⟨_, bS, ⟨rfl, .inl ⟨rfl, rfl⟩⟩, trivial⟩, hB1⟩
    (fun x a' W => ∃ Bx, w.heap.size < Bx ∧ Blk W Bx 36 (enc x) ∧ a' = { tmps := #[.slice none 0 0, .func (.func gf) #[] lb, .pointer (some ⟨w.heap.size, 0, none⟩), undef, .slice none 0 0, .pointer (some ⟨Bx, 0, none⟩), .func (.func gf) #[] lb, .agg (enc x), undef, undef, undef, undef, undef], defers := [] })
    (fun x a' _ X Y row hs hg hr => by obtain ⟨Bx, h1, h2, h3⟩ := hs; exact ⟨Bx, h1, blk_ownf h2 hg hr, h3⟩)
    ?assign ?body ?done ?stop
  case assign =>
    rintro l pre x W K ⟨⟨v, hv, hrow, _⟩, hB⟩ hK
    have HKx := hid (hk x)
    have H1 := hid (h1c x)
    have HK := hid hK
    have HV := hid hv
    have HRo := hid hrow
    have hlt := hv.lt
    clear hK hv hrow
    gi_wp2_with ((show wpListIn _ _ _ _ _ (⟨none, _, _, _, _, _⟩ :: _) _ _); go_must (refine wlIn_store (.inr ⟨l, rfl⟩) 36 (.tmp 5) (.tmp 7) rfl W.heap.size (enc x) rfl rfl 36 _ (Blk.new W _ _) 18 Tryd.infoPntY HKx.out.symm rfl H1.out rfl rfl ?_; rw [setRow_new]))
    exact HK.out _ _ ((KeepsOthers.alloc _ _).from _) ((Below.refl _ W).alloc (Nat.le_of_lt hlt) _) ⟨⟨_, HV.out.alloc _, HRo.out.alloc _, trivial⟩, hB.alloc (Nat.le_of_lt hlt) _⟩ ⟨W.heap.size, hlt, Blk.new W _ _, rfl⟩
  case body =>
    rintro l pre x a' W hl hrec ⟨⟨v, hv, hrow, _⟩, hB⟩ ⟨Bx, hBx, bX, rfl⟩ hlt
    have HKx := hid (hk x)
    have H1 := hid (h1c x)
    have HBX := hid bX
    have HRo := hid hrow
    have HV := hid hv
    have HLen : Hid ((enc x).toList.length = 1 * 18) := hid (by rw [Array.length_toList, hk])
    have HOne : Hid (∀ u ∈ (enc x).toList, u.oneCell' = true) := hid (fun u hu => by
      have h := h1c x
      rw [Array.all_eq_true_iff_forall_mem] at h
      exact h u (by simpa using hu))
    have hc := hv.cell
    have hBs := hB.size
    clear hrow hv bX
    gi_wp2_with (first
      | ((show wpListIn _ _ _ _ _ (⟨some 9, _, _, _, _, _⟩ :: _) _ _); go_must (refine wlIn_load (.inr ⟨l, rfl⟩) 36 (.tmp 5) rfl Bx rfl 36 _ _ HBX.out Tryd.underlying36 rfl 18 Tryd.infoPntY HKx.out.symm rfl rfl ?_))
      | ((show wpListIn _ _ _ _ _ (⟨some 10, _, _, _, _, _⟩ :: _) _ _); go_must (refine wlIn_run (.inr ⟨l, rfl⟩) _ _ (exec_lit1 (.tmp 9) rfl (enc x) rfl HKx.out) rfl rfl ?_))
      | ((show wpListIn _ _ _ _ _ (⟨some 11, _, _, _, _, _⟩ :: _) _ _); go_must (refine wpListIn_append_own _ rfl _ _ 22 rfl w.heap.size 36 i0 z 18 32 Tryd.underlying22 hi hz0 hz1 hz2 hzs (by decide) v pre.length _ rfl (HRo.out.alloc _) ⟨W.heap.size, 0, none⟩ 1 1 (enc x).toList rfl HLen.out cells_news HOne.out (by unfold maxLen; omega) (by omega) (by simp; omega) ?_; intro v' w1 hown' hgrow _; obtain ⟨g', cap', rfl⟩ := ownsRow_succ hown'; obtain ⟨hv1, hv2, hr2, hk2, hb2⟩ := HV.out.appended (by decide) HRo.out hBs (Nat.le_refl _) hown' hgrow; have hc1 := hv1.cell; have hf1 := hv1.frozen)))
    exact ⟨hk2.from _, hb2, ⟨_, hv2, by rw [List.length_append, flat_snoc]; exact hr2, trivial⟩, hB.trans hb2⟩
  case done =>
    rintro D ys W hD rfl ⟨⟨v, hv, hrow, _⟩, hB⟩ hK
    have hc := hv.cell
    have F : Hid (CollEnd ys enc w (.returned v) (W.putObj D (.deferred none))) := hid ⟨v, rfl, ownsRow_putObj hrow _ hK rfl, hB.trans (belowK_b (w := w) (Nat.le_refl _) W D _ _ (by simp at hD; omega) hK rfl rfl)⟩
    clear hrow hv
    gi_wp2
    refine ⟨by simp, .inl ⟨_, _, rfl, run_takeDeferred hK, ?_⟩⟩
    refine ⟨_, results_tmp rfl _ _ _, ?_⟩
    exact F.out
  case stop =>
    rintro D c pre W _ _ h _
    exact h.elim
end
end Go.Proofs.YtgpbmbefdgbblaaDoor
