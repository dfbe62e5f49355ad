/-
  slices.Repeat of one number.
-/
import Derived.Test.YtgpbmbefdgbblaaDoorShelf
import Derived.Test.YtgpbmbefdgbblaaDoorLtk1
import Derived.Laws.CopyOwn
import Derived.Deep.DeepMust
namespace Go.Proofs.YtgpbmbefdgbblaaDoor
open Go.RowKit Go.Lib

theorem splice_row {c : Array Value} {M n k : Nat} {v z : Value} (hs : c.size = M) (h : ∀ i, i < M → c[i]? = some (if i < n then v else z)) (hk : n + k ≤ M) :
    (splice c.toList n (List.replicate k v)).toArray.size = M ∧ ∀ i, i < M → (splice c.toList n (List.replicate k v)).toArray[i]? = some (if i < n + k then v else z) := by
  refine ⟨by rw [List.size_toArray, length_splice _ _ _ (by simp; omega)]; exact hs, fun i hi => ?_⟩
  rw [List.getElem?_toArray]
  unfold splice
  by_cases h1 : i < n
  · rw [List.getElem?_append_left (by simp; omega), List.getElem?_take_of_lt h1, Array.getElem?_toList, h i hi, if_pos h1, if_pos (by omega)]
  · rw [List.getElem?_append_right (by simp; omega)]
    have e : (List.take n c.toList).length = n := by rw [List.length_take, Array.length_toList]; omega
    rw [e]
    by_cases h2 : i < n + k
    · rw [List.getElem?_append_left (by simp; omega), List.getElem?_replicate, if_pos (by omega), if_pos h2]
    · rw [List.getElem?_append_right (by simp; omega), List.length_replicate, List.getElem?_drop, show n + k + (i - n - k) = i by omega, Array.getElem?_toList, h i hi, if_neg h1, if_neg h2]

def filledF (n : Nat) (j : Nat) : Value := if j < n then .int .i64 (-1) else .int .i64 0
theorem row_cur {w : World} {g M n : Nat} (h : w.rowIs g 3 M (filledF n)) : ∃ cur : List Value, w.heap[g]? = some (.cells cur.toArray 3 (0, 0)) ∧ cur.length = M ∧ ∀ k, n + k ≤ M → ∀ w' : World, w'.heap[g]? = some (.cells (splice cur n (List.replicate k (.int .i64 (-1)))).toArray 3 (0, 0)) → w'.rowIs g 3 M (filledF (n + k)) := by
  obtain ⟨c, h1, h2, h3⟩ := h
  refine ⟨c.toList, by simpa using h1, h2, fun k hk w' h4 => ⟨_, h4, (splice_row h2 h3 hk).1, (splice_row h2 h3 hk).2⟩⟩

theorem Tryd.infoInt1 : (Tryd.prog.info? 3).map (·.size) = some 1 := by kernel_rfl
section
variable {o : Oper} {a : Act} {w : World}
theorem exec_cutLI (x lo : Operand) (ho : o.op = .slice 24 x (some lo) none none) (g M n : Nat) (hx : a.eval x = .slice (some ⟨g, 0, none⟩) M M) (hlo : a.eval lo = .int .i64 n) (h : n < M) :
    (execOp a.eval o).run Tryd.prog w = .ok (.value (.slice (some ⟨g, n, none⟩) (M - n) (M - n))) w := by
  unfold execOp
  simp only [ho, Option.map_some, Option.map_none, hx, hlo]
  clear hx hlo ho
  go_simp
  rw [if_pos (by omega), if_neg (by omega)]
theorem exec_cutHI (x hi : Operand) (ho : o.op = .slice 24 x none (some hi) none) (g M n : Nat) (hx : a.eval x = .slice (some ⟨g, 0, none⟩) M M) (hhi : a.eval hi = .int .i64 n) (h : n < M) :
    (execOp a.eval o).run Tryd.prog w = .ok (.value (.slice (some ⟨g, 0, none⟩) n M)) w := by
  unfold execOp
  simp only [ho, Option.map_some, Option.map_none, hx, hhi]
  clear hx hhi ho
  go_simp
  intro h
  omega
end

set_option linter.unusedSimpArgs false in
set_option maxRecDepth 100000 in
set_option maxHeartbeats 8000000 in
theorem repeat_any (M : Nat) (h0 : 1 ≤ M) (h1 : M ≤ 1000) (g : Nat) (w : World) (hg : Blk w g 3 #[.int .i64 (-1)]) :
    Calls Tryd.prog 30 #[.slice (some ⟨g, 0, none⟩) 1 1, .int .i64 M] w fun e w' => ∃ S, e = .returned (.slice (some ⟨S, 0, none⟩) M M) ∧ w.heap.size ≤ S ∧ SlotB w' S (List.replicate M (-1)) ∧ Below w.heap.size w w' := by
  have HM := hid (Tryd.bits_Mul 1 M (by omega) (by omega))
  have e1 : 1 * M / 18446744073709551616 = 0 := by omega
  have e2 : 1 * M % 18446744073709551616 = M := by omega
  rw [e1, e2] at HM
  have q1 : IntKind.u64.wrap (M : Int) = M := by rw [IntKind.wrap_u64]; omega
  have q2 : IntKind.i64.wrap (M : Int) = M := IntWalk.i64_in _ (by omega)
  have hmk := run_make_row' (P := Tryd.prog) 24 3 (.int .i64 0) 8 Tryd.underlying24 Tryd.infoIntV rfl .i64 .i64 M (by omega) (by omega)
  have HG : Hid ((w.alloc (.cells (madeCells #[.int .i64 0] M) 3)).cell? ⟨g, 0, none⟩ = some (.int .i64 (-1))) := hid ((hg.alloc _).cell 0)
  have HRow : Hid ((w.alloc (.cells (madeCells #[.int .i64 0] M) 3)).rowIs w.heap.size 3 M (filledF 0)) := hid ((World.rowIs_made w (.int .i64 0) M 3).congr fun j _ => by simp [filledF])
  have HBel : Hid (Below w.heap.size w (w.alloc (.cells (madeCells #[.int .i64 0] M) 3))) := hid ((Below.refl _ w).alloc (Nat.le_refl _) _)
  clear hg e1 e2
  go_enter Tryd.func30, Tryd.ntmps30
  go_wp2_with fail
  refine (HM.out _).mono ?_
  rintro e w1 ⟨rfl, hw⟩
  rw [hw]
  clear hw
  obtain ⟨cur, k1, k2, k3⟩ := row_cur HRow.out
  have K1 := hid k1
  have K2 := hid k2
  have K3 := hid k3
  clear k1 k2 k3
  go_wp2_with ((show wpList _ _ _ (⟨some 33, _, _, _, _, _⟩ :: _) _ _); go_must (refine wpList_copy_splice rfl (.tmp 31) (.tmp 32) 24 24 rfl 3 Tryd.underlying24 Tryd.infoInt1 (some ⟨w.heap.size, 0, none⟩) (some ⟨g, 0, none⟩) M M 1 1 rfl rfl w.heap.size 0 cur 3 K1.out [.int .i64 (-1)] (Nat.min_eq_left h0).symm (fun _ => ⟨rfl, _, rfl, fun j v hj => ?_⟩) (by rw [K2.out]; simp; omega) (by simp [Value.oneCell']) w.heap.size w HBel.out (Nat.le_refl _) (fun w3 hw3 hb3 => ?_)))
  · rcases j with _ | j
    · simp only [List.getElem?_cons_zero, Option.some.injEq] at hj
      subst hj
      exact HG.out
    · simp at hj
  have HR1 : Hid (w3.rowIs w.heap.size 3 M (filledF 1)) := hid (by have := K3.out 1 (by omega) w3 hw3.out; simpa using this)
  have HB1 := hid hb3
  clear hw3 hb3 hmk HG HRow HBel K1 K2 K3 HM
  go_wp2
  go_loopg [8] M (fun gg s8 wr => ∃ n : Nat, 1 ≤ n ∧ n ≤ M ∧ M - n ≤ gg ∧ s8 = .int .i64 n ∧ Hid (wr.rowIs w.heap.size 3 M (filledF n)) ∧ Hid (Below w.heap.size w wr))
  case atStart => exact ⟨1, by omega, h0, by omega, rfl, HR1, HB1⟩
  case round =>
    obtain ⟨n, hn1, hnM, hgn, rfl, HR, HB⟩ := hrel
    by_cases hlt : n < M
    · obtain ⟨cur, k1, k2, k3⟩ := row_cur (show wr.drew.rowIs w.heap.size 3 M (filledF n) from HR.out.of_block rfl)
      obtain ⟨k, hk⟩ : ∃ k, k = min n (M - n) := ⟨_, rfl⟩
      have hk1 : n + k ≤ M := by omega
      have hk0 : 1 ≤ k := by omega
      have K1 := hid k1
      have K2 := hid k2
      have K3 := hid (k3 k hk1)
      have HK := hid hk
      have HW : Hid (IntKind.i64.wrap ((n : Int) + (k : Int)) = ((n + k : Nat) : Int)) := hid (by rw [IntWalk.i64_in _ (by omega)]; omega)
      have HSrc : Hid (∀ j v, (List.replicate k (Value.int .i64 (-1)))[j]? = some v → wr.drew.cell? ((⟨w.heap.size, 0, none⟩ : Addr).add j) = some v) := hid fun j v hj => by
        rw [add_plain, Nat.zero_add]
        rw [List.getElem?_replicate] at hj
        by_cases hjk : j < k
        · rw [if_pos hjk] at hj
          have hjn : j < n := by omega
          have := (show wr.drew.rowIs w.heap.size 3 M (filledF n) from HR.out.of_block rfl).cell (show j < M by omega)
          rw [this, ← hj]
          simp [filledF, hjn]
        · rw [if_neg hjk] at hj; cases hj
      have hS0 : Below w.heap.size w wr.drew := HB.out.drew
      clear hk k1 k2 k3
      go_wp2_with fail
      refine wp_region_held_drew (S := fun V => Below w.heap.size w V) (by kernel_rfl) hS0 (fun hS => ?_)
      change wpAnyH _ _ _ _ _ 10 #[false, false, false, false, false, false, false, false, false, false] _ _
      refine wpAnyH_take (i := 0) (v := .int .i64 n) rfl (by kernel_rfl) (by kernel_rfl) (by kernel_rfl) (fun _ _ _ h => h) (.inl ⟨by kernel_rfl, fun w' _ => by unfold execOp; go_simp⟩) hS ?_
      simp only [List.getElem_toArray, List.getElem_cons_zero, List.getElem_cons_succ, Act.put, List.setIfInBounds_toArray, List.set_cons_zero, List.set_cons_succ]
      refine wpAnyH_take (i := 1) (v := .slice (some ⟨w.heap.size, 0, none⟩) M M) rfl (by kernel_rfl) (by kernel_rfl) (by kernel_rfl) (fun _ _ _ h => h) (.inl ⟨by kernel_rfl, fun w' _ => by unfold execOp; go_simp⟩) hS ?_
      simp only [List.getElem_toArray, List.getElem_cons_zero, List.getElem_cons_succ, Act.put, List.setIfInBounds_toArray, List.set_cons_zero, List.set_cons_succ]
      refine wpAnyH_take (i := 2) (v := .int .i64 n) rfl (by kernel_rfl) (by kernel_rfl) (by kernel_rfl) (fun _ _ _ h => h) (.inl ⟨by kernel_rfl, fun w' _ => by unfold execOp; go_simp⟩) hS ?_
      simp only [List.getElem_toArray, List.getElem_cons_zero, List.getElem_cons_succ, Act.put, List.setIfInBounds_toArray, List.set_cons_zero, List.set_cons_succ]
      refine wpAnyH_take (i := 3) (v := .slice (some ⟨w.heap.size, n, none⟩) (M - n) (M - n)) rfl (by kernel_rfl) (by kernel_rfl) (by kernel_rfl) (fun _ _ _ h => h) (.inl ⟨by kernel_rfl, fun w' _ => exec_cutLI (.tmp 39) (.tmp 40) rfl w.heap.size M n rfl rfl hlt⟩) hS ?_
      simp only [List.getElem_toArray, List.getElem_cons_zero, List.getElem_cons_succ, Act.put, List.setIfInBounds_toArray, List.set_cons_zero, List.set_cons_succ]
      refine wpAnyH_take (i := 4) (v := .slice (some ⟨w.heap.size, 0, none⟩) M M) rfl (by kernel_rfl) (by kernel_rfl) (by kernel_rfl) (fun _ _ _ h => h) (.inl ⟨by kernel_rfl, fun w' _ => by unfold execOp; go_simp⟩) hS ?_
      simp only [List.getElem_toArray, List.getElem_cons_zero, List.getElem_cons_succ, Act.put, List.setIfInBounds_toArray, List.set_cons_zero, List.set_cons_succ]
      refine wpAnyH_take (i := 5) (v := .int .i64 n) rfl (by kernel_rfl) (by kernel_rfl) (by kernel_rfl) (fun _ _ _ h => h) (.inl ⟨by kernel_rfl, fun w' _ => by unfold execOp; go_simp⟩) hS ?_
      simp only [List.getElem_toArray, List.getElem_cons_zero, List.getElem_cons_succ, Act.put, List.setIfInBounds_toArray, List.set_cons_zero, List.set_cons_succ]
      refine wpAnyH_take (i := 6) (v := .slice (some ⟨w.heap.size, 0, none⟩) n M) rfl (by kernel_rfl) (by kernel_rfl) (by kernel_rfl) (fun _ _ _ h => h) (.inl ⟨by kernel_rfl, fun w' _ => exec_cutHI (.tmp 42) (.tmp 43) rfl w.heap.size M n rfl rfl hlt⟩) hS ?_
      simp only [List.getElem_toArray, List.getElem_cons_zero, List.getElem_cons_succ, Act.put, List.setIfInBounds_toArray, List.set_cons_zero, List.set_cons_succ]
      refine wpAnyH_ready (rs := [7]) (by kernel_rfl) (by simp) ?_
      refine AllReadyH.cons rfl (fun K' hK => ?_) AllReadyH.nil
      refine step_copy_splice rfl (.tmp 41) (.tmp 44) 24 24 rfl 3 Tryd.underlying24 Tryd.infoInt1 (some ⟨w.heap.size, n, none⟩) (some ⟨w.heap.size, 0, none⟩) (M - n) (M - n) n M rfl rfl w.heap.size n cur 3 K1.out (List.replicate k (.int .i64 (-1))) (by rw [List.length_replicate]; exact HK.out) (fun _ => ⟨rfl, _, rfl, HSrc.out⟩) (by rw [K2.out, List.length_replicate]; omega) (by intro v hv; rw [(List.mem_replicate.1 hv).2]; rfl) w.heap.size w hS (Nat.le_refl _) (fun w3 hw3 hb3 => hK.out _ _ hb3 (fun hS => ?_))
      rw [List.length_replicate]
      simp only [List.getElem_toArray, List.getElem_cons_zero, List.getElem_cons_succ, Act.put, List.setIfInBounds_toArray, List.set_cons_zero, List.set_cons_succ]
      refine wpAnyH_take (i := 8) (v := .int .i64 ((n + k : Nat) : Int)) rfl (by kernel_rfl) (by kernel_rfl) (by kernel_rfl) (fun _ _ _ h => h) (.inl ⟨by kernel_rfl, fun w' _ => by unfold execOp; go_simp; exact HW.out⟩) hS ?_
      simp only [List.getElem_toArray, List.getElem_cons_zero, List.getElem_cons_succ, Act.put, List.setIfInBounds_toArray, List.set_cons_zero, List.set_cons_succ]
      refine wpAnyH_take (i := 9) (v := .int .i64 ((n + k : Nat) : Int)) rfl (by kernel_rfl) (by kernel_rfl) (by kernel_rfl) (fun _ _ _ h => h) (.inl ⟨by kernel_rfl, fun w' _ => by unfold execOp; go_simp⟩) hS ?_
      simp only [List.getElem_toArray, List.getElem_cons_zero, List.getElem_cons_succ, Act.put, List.setIfInBounds_toArray, List.set_cons_zero, List.set_cons_succ]
      refine wpAnyH_done (by kernel_rfl) ?_ _
      have HR3 := hid (K3.out w3 hw3.out)
      have HB3 := hid hb3
      clear hw3 hb3 hS
      go_wp2
      go_roundg (M - (n + k))
      case measure => omega
      case rel => exact ⟨n + k, by omega, hk1, Nat.le_refl _, rfl, HR3, HB3⟩
    · obtain rfl : n = M := by omega
      have F : Hid (SlotB wr w.heap.size (List.replicate n (-1))) := hid (by
        obtain ⟨c, h1, h2, h3⟩ := HR.out
        unfold SlotB Blk
        rw [h1]
        congr 2
        apply Array.ext_getElem?
        intro i
        rw [show ((List.replicate n (-1 : Int)).map (Value.int .i64)).toArray[i]? = (List.replicate n (Value.int .i64 (-1)))[i]? by rw [List.getElem?_toArray, List.map_replicate], List.getElem?_replicate]
        by_cases hi : i < n
        · rw [h3 i hi, if_pos hi]
          simp [filledF, hi]
        · rw [if_neg hi, Array.getElem?_eq_none (by omega)])
      go_wp2
      go_ret
      exact ⟨_, rfl, Nat.le_refl _, F.out, HB.out⟩
end Go.Proofs.YtgpbmbefdgbblaaDoor
