/-
  prime: what is tried, one behind another (an iterator).
-/
import Derived.Test.YtgpbmbefdgbblaaDoorFnum
import Derived.Test.YtgpbmbefdgbblaaDoorNbase
import Derived.RangeFuncNested
import Derived.RangeFuncBound
import Derived.RangeFuncCalls
import Derived.RangeFuncLeaves
import Derived.RangeFuncWrites
import Derived.RangeFuncBox
import Derived.Shelf.Abstract
import Derived.Shelf.RegionOpen
import Derived.WalkKit
import Derived.OwnWalkIn
import Derived.LoopNIn
import Derived.LoopIn
import Derived.TacticsInMore
namespace Go.Proofs.YtgpbmbefdgbblaaDoor
open Go.RowKit Go.Shelf Go.Lib
attribute [local go_sem] Oper.semAt_some

/-- What lies below n₀ stays, and so does block B. -/
structure KB (n₀ B : Nat) (W W' : World) : Prop where
  low : Below n₀ W W'
  box : W'.heap[B]? = W.heap[B]?
theorem KB.refl (n₀ B : Nat) (W : World) : KB n₀ B W W := ⟨Below.refl _ _, rfl⟩
theorem KB.trans {n₀ B : Nat} {W W' W2 : World} (h : KB n₀ B W W') (k : KB n₀ B W' W2) : KB n₀ B W W2 := ⟨h.low.trans k.low, k.box.trans h.box⟩
theorem KB.cell {n₀ B : Nat} {W W' : World} (h : KB n₀ B W W') (o : Nat) : W'.cell? ⟨B, o, none⟩ = W.cell? ⟨B, o, none⟩ := World.cell?_of_block h.box
theorem KB.put {n₀ B : Nat} {w : World} (h1 : n₀ ≤ w.heap.size) (h2 : B < w.heap.size) (W : World) (l : Nat) (o o' : Obj) (hl : w.heap.size ≤ l) (h : W.heap[l]? = some o) (hc : o.isCells = false) (hw : o.isWalk = false) : KB n₀ B W (W.putObj l o') :=
  ⟨belowK_b h1 W l o o' hl h hc hw, (belowK_b (w := w) (Nat.le_refl _) W l o o' hl h hc hw).block B h2⟩
theorem KB.set {n₀ B g : Nat} (W : World) (h1 : n₀ ≤ g) (h2 : B ≠ g) (i : Nat) (v : Value) : KB n₀ B W (W.setCell ⟨g, i, none⟩ v) :=
  ⟨(Below.refl _ W).setCell (p := ⟨g, i, none⟩) h1 v, Below.heap_setCell W ⟨g, i, none⟩ v B h2⟩
theorem KB.below {n₀ B n : Nat} {W W' : World} (h : Below n W W') (h1 : n₀ ≤ n) (h2 : B < n) : KB n₀ B W W' := ⟨h.mono h1, h.block B h2⟩

theorem sq_small {d : Int} (h0 : 0 ≤ d) (h : d * d ≤ 2147483648) : d ≤ 46340 := by
  rcases Int.lt_or_le 46340 d with h1 | h1
  · have := Int.mul_le_mul (show 46341 ≤ d by omega) (show 46341 ≤ d by omega) (by omega) h0
    omega
  · exact h1
theorem sq_great {d : Int} (h0 : 0 ≤ d) (h : d ≤ 46342) : 0 ≤ d * d ∧ d * d ≤ 2147580964 := by
  have h1 := Int.mul_le_mul h h h0 (by omega)
  exact ⟨Int.mul_nonneg h0 h0, by omega⟩
theorem tri_pos {k : Nat} (h : 1 ≤ k) : tri k = 2 * (k : Int) + 1 := by unfold tri; rw [if_neg (by omega)]

set_option maxRecDepth 100000 in
set_option maxHeartbeats 4000000 in
theorem trials1_in (F : Fence) (n : Nat) (hf : F.fn 61) (hro : F.round = none) (hn : 1 ≤ n) (l Bs n₀ : Nat) (N : Int) (hN : 2 ≤ N ∧ N ≤ 2147483648) (J Jx : List Int → World → Prop)
    (hY : ∀ pre x W, J pre W → pre.length < 30000 → x = tri pre.length → YieldAt F (n - 1) Tryd.prog l #[.int .i64 x] W fun e W' =>
      (e = .returned (.bool true) ∧ J (pre ++ [x]) W' ∧ KB n₀ Bs W W') ∨ (e = .returned (.bool false) ∧ Jx (pre ++ [x]) W'))
    (W : World) (hBs : W.cell? ⟨Bs, 0, none⟩ = some (.int .i64 N)) (h0 : J [] W) :
    CallsIn F n Tryd.prog 61 #[.func (.yield l) #[] #[], .pointer (some ⟨Bs, 0, none⟩)] W fun e W' => (∃ v, e = .returned v) ∧
      ((∃ ys, (∃ k, 1 ≤ k ∧ ys = trl k ∧ N < tri k * tri k) ∧ J ys W') ∨ (∃ pre, (∃ k, pre = trl (k + 1)) ∧ Jx pre W')) := by
  have h1 : 1 ≤ n - 1 + 1 := by omega
  obtain ⟨fn, tmps, assign, body, hyy, hR⟩ := hY [] 2 W h0 (by simp) rfl
  refine callsIn_of_wp Tryd.func61 rfl hf ?_ hro
  simp only [Tryd.ntmps61, List.size_toArray, List.length_cons, List.length_nil, Nat.reduceAdd, Nat.reduceSub, Array.replicate_succ, Array.replicate_zero, List.push_toArray, List.append_toArray, List.nil_append, List.cons_append]
  gi_wp2
  refine hR.mono ?_
  rintro e W1 (⟨rfl, hJ1, hk1⟩ | ⟨rfl, hJx1⟩)
  · have HJ : Hid (J (trl 1) W1) := hid hJ1
    clear hyy hR hJ1
    gi_wp2
    gi_loopw [3] (fun i wr => ∃ k : Nat, ∃ d : Int, Hid (1 ≤ k ∧ d = tri k ∧ d = 2 * (k : Int) + 1) ∧ 3 ≤ d ∧ d ≤ 46342 ∧ i = .int .i64 d ∧ J (trl k) wr ∧ KB n₀ Bs W wr) (fun i _ => 46344 - (intOf i).toNat)
    case atStart => exact ⟨1, 3, hid ⟨by omega, rfl, rfl⟩, by omega, by omega, rfl, HJ.out, hk1⟩
    case round =>
      obtain ⟨k, d, HK, hd1, hd2, rfl, hJs, hnx⟩ := hrel
      have hBx : wr.cell? ⟨Bs, 0, none⟩ = some (.int .i64 N) := (hnx.cell 0).trans hBs
      have hq := sq_great (d := d) (by omega) hd2
      by_cases hlt : d * d ≤ N
      · have hd3 : d ≤ 46340 := sq_small (by omega) (by omega)
        obtain ⟨fn, tmps, assign, body, hyy, hR⟩ := hY _ d wr hJs (by rw [trl_length]; have := HK.out; omega) (by rw [trl_length]; exact HK.out.2.1)
        gi_wp2
        refine hR.mono ?_
        rintro e W3 (⟨rfl, hJ3, hk3⟩ | ⟨rfl, hJx3⟩)
        · gi_wp2
          go_roundw
          case rel => exact ⟨k + 1, d + 2, hid ⟨by omega, by rw [tri_pos (by omega)]; have := HK.out.2.2; omega, by have := HK.out.2.2; omega⟩, by omega, by omega, rfl, by rw [trl_succ, ← HK.out.2.1]; exact hJ3, hnx.trans hk3⟩
          case measure => simp [intOf]; omega
        · gi_wp2
          refine bodyPost_ret (results_none rfl _ _ _) rfl ?_
          exact ⟨⟨_, rfl⟩, .inr ⟨_, ⟨k, by rw [trl_succ, ← HK.out.2.1]⟩, hJx3⟩⟩
      · gi_wp2
        go_end0
        exact ⟨⟨_, rfl⟩, .inl ⟨_, ⟨k, HK.out.1, rfl, by rw [← HK.out.2.1]; omega⟩, hJs⟩⟩
  · gi_wp2
    refine bodyPost_ret (results_none rfl _ _ _) rfl ?_
    exact ⟨⟨_, rfl⟩, .inr ⟨_, ⟨0, rfl⟩, hJx1⟩⟩

set_option maxHeartbeats 1000000 in
theorem trials_in (F : Fence) (n : Nat) (hf : F.fn 48) (hro : F.round = none) (N : Int) (w : World) :
    CallsIn F n Tryd.prog 48 #[.int .i64 N] w fun e w' => e = .returned (.func (.func 61) #[] #[.pointer (some ⟨w.heap.size, 0, none⟩)]) ∧ w' = w.alloc (.cells #[.int .i64 N] 3) := by
  refine callsIn_of_wp Tryd.func48 rfl hf ?_ hro
  simp only [Tryd.ntmps48, List.size_toArray, List.length_cons, List.length_nil, Nat.reduceAdd, Nat.reduceSub, Array.replicate_succ, Array.replicate_zero, List.push_toArray, List.append_toArray, List.nil_append, List.cons_append]
  gi_wp2
  go_ret
  exact ⟨rfl, rfl⟩

/-- What is handed to a round: a number from 2 on, not too great. -/
abbrev Tr := { x : Int // 2 ≤ x ∧ x ≤ 100000 }
theorem tri_ok {k : Nat} (h : k < 30000) : 2 ≤ tri k ∧ tri k ≤ 100000 := by unfold tri; split <;> omega

theorem trials_stops (F : Fence) (n : Nat) (hf : F.fn 61) (hro : F.round = none) (hn : 1 ≤ n) (Bs n₀ : Nat) (N : Int) (hN : 2 ≤ N ∧ N ≤ 2147483648) (w : World) (hBn : Bs < w.heap.size)
    (hc : w.cell? ⟨Bs, 0, none⟩ = some (.int .i64 N)) :
    SeqStopsK F n Tryd.prog 61 #[.pointer (some ⟨Bs, 0, none⟩)] (fun x : Tr => #[Value.int .i64 x.1]) (KB n₀ Bs) (fun ys => ∃ k, 1 ≤ k ∧ ys.map (·.1) = trl k ∧ N < tri k * tri k) (fun pre => ∃ k, pre.map (·.1) = trl (k + 1)) 30000 w := fun l J Jx W hW _ _ hY h0 => by
  have hc' := (hW.cell (p := ⟨Bs, 0, none⟩) hBn).trans hc
  refine (trials1_in F n hf hro hn l Bs n₀ N hN (fun pre W => ∃ pre' : List Tr, pre = pre'.map (·.1) ∧ J pre' W) (fun pre W => ∃ pre' : List Tr, pre = pre'.map (·.1) ∧ Jx pre' W) ?_ W hc' ⟨[], rfl, h0⟩).mono ?_
  · rintro pre x W1 ⟨pre', rfl, hj⟩ hk hx
    rw [List.length_map] at hk hx
    obtain ⟨fn, tmps, assign, body, hyy, hR⟩ := hY pre' ⟨x, hx ▸ tri_ok hk⟩ W1 hj hk
    refine ⟨fn, tmps, assign, body, hyy, hR.mono ?_⟩
    rintro e W2 (⟨h1, h2, h3⟩ | ⟨h1, h2⟩)
    · exact .inl ⟨h1, ⟨_, by simp, h2⟩, h3⟩
    · exact .inr ⟨h1, _, by simp, h2⟩
  · rintro e W2 ⟨he, ⟨ys, ⟨k, hk, rfl, hs⟩, pre', e1, hj⟩ | ⟨pre, ⟨k, rfl⟩, pre', e1, hj⟩⟩
    · exact ⟨he, .inl ⟨pre', ⟨k, hk, e1.symm, hs⟩, hj⟩⟩
    · exact ⟨he, .inr ⟨pre', ⟨k, e1.symm⟩, hj⟩⟩
end Go.Proofs.YtgpbmbefdgbblaaDoor
