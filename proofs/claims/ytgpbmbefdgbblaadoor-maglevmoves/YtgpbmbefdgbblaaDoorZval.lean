/-
  slices.Values at api.Point: the iterator, and its contract.
-/
import Derived.Test.YtgpbmbefdgbblaaDoorZgen
namespace Go.Proofs.YtgpbmbefdgbblaaDoor
open Go.RowKit Go.Shelf Go.Lib
attribute [local go_sem] Oper.semAt_some

section
variable {α : Type} {enc : α → Array Value}

set_option maxHeartbeats 1000000 in
theorem values_w (n : Nat) (a : Option Addr) (len cap : Nat) (w : World) :
    CallsIn Fence.wide n Tryd.prog 28 #[.slice a len cap] w fun e w' => e = .returned (.func (.func 38) #[] #[.pointer (some ⟨w.heap.size, 0, none⟩)]) ∧ w' = w.alloc (.cells #[.slice a len cap] 22) := by
  refine callsIn_of_wp Tryd.func28 rfl trivial ?_ rfl
  simp only [Tryd.ntmps28, List.size_toArray, List.length_cons, List.length_nil, Nat.reduceAdd, Nat.reduceSub, Array.replicate_succ, Array.replicate_zero, List.push_toArray, List.append_toArray, List.nil_append, List.cons_append]
  gi_wp2
  go_ret
  exact ⟨rfl, rfl⟩

theorem take_snoc' {xs : List α} {p : Nat} (hp : p < xs.length) : xs.take (p + 1) = xs.take p ++ [xs[p]] := List.take_succ_eq_append_getElem hp

set_option maxRecDepth 100000 in
set_option maxHeartbeats 4000000 in
theorem values1_w (hk : ∀ x, (enc x).size = 18) (h1c : ∀ x, (enc x).all (·.oneCell') = true) (n : Nat) (hn : 2 ≤ n) (l Bs n₀ g o cap : Nat) (xs : List α) (hcap : xs.length ≤ cap) (hm : xs.length ≤ 1000000) (hb : g < n₀) (J Jx : List α → World → Prop) (B : Nat) (hJ : AbidesFrom B J)
    (hY : ∀ pre x W, J pre W → pre.length < xs.length → YieldAt Fence.wide (n - 1) Tryd.prog l #[.agg (enc x)] W fun e W' =>
      (e = .returned (.bool true) ∧ J (pre ++ [x]) W' ∧ Below n₀ W W') ∨ (e = .returned (.bool false) ∧ Jx (pre ++ [x]) W'))
    (W : World) (hn₀ : n₀ ≤ W.heap.size) (hBs : W.cell? ⟨Bs, 0, none⟩ = some (.slice (some ⟨g, o, none⟩) xs.length cap)) (hc : ∀ j (hj : j < xs.length), W.rangeAt g (o + j * 18) (enc xs[j]).toList) (h0 : J [] W) :
    CallsIn Fence.wide n Tryd.prog 38 #[.func (.yield l) #[] #[], .pointer (some ⟨Bs, 0, none⟩)] W fun e W' => (∃ v, e = .returned v) ∧
      ((∃ ys, ys = xs ∧ J ys W') ∨ (∃ pre, pre <+: xs ∧ Jx pre W')) := by
  have h1 : 1 ≤ n := by omega
  have h1' : 1 ≤ n - 1 := by omega
  obtain ⟨len, hlen⟩ : ∃ len, xs.length = len := ⟨_, rfl⟩
  rw [hlen] at hcap hm hBs hY
  have HL := hid hlen
  have HC := hid hc
  clear hlen hc
  refine callsIn_of_wp Tryd.func38 rfl trivial ?_ rfl
  simp only [Tryd.ntmps38, List.size_toArray, List.length_cons, List.length_nil, Nat.reduceAdd, Nat.reduceSub, Array.replicate_succ, Array.replicate_zero, List.push_toArray, List.append_toArray, List.nil_append, List.cons_append]
  gi_wp2
  gi_loopw [7] (fun i wr => ∃ p : Nat, p ≤ len ∧ i = .int .i64 p ∧ Hid (J (xs.take p) wr) ∧ Hid (Below n₀ W wr)) (fun i _ => len - (intOf i).toNat)
  case atStart => exact ⟨0, by omega, rfl, hid h0, hid (Below.refl _ _)⟩
  case round =>
    obtain ⟨p, hp1, rfl, HJ, HB⟩ := hrel
    by_cases hlt : p < len
    · have hpx : p < xs.length := by have := HL.out; omega
      obtain ⟨x, hx⟩ : ∃ x, x = xs[p] := ⟨_, rfl⟩
      have hr : wr.rangeAt g (o + p * 18) (enc x).toList := hx ▸ rangeAt_below HB.out hb (HC.out p hpx)
      have HR := hid hr
      have HS : Hid (xs.take (p + 1) = xs.take p ++ [x]) := hid (hx ▸ take_snoc' hpx)
      obtain ⟨V, hV⟩ : ∃ V, V = wr.alloc (.cells (enc x) 36) := ⟨_, rfl⟩
      have hg0 : wr.grownBy V none := hV ▸ World.grownBy_alloc wr _ none
      have HJV := hid (hJ _ _ _ none HJ.out hg0 (fun r e => by cases e))
      have HBV : Hid (Below n₀ W V) := hid (hV ▸ HB.out.alloc (Nat.le_trans hn₀ HB.out.size) _)
      have HKV : Hid (Blk V wr.heap.size 36 (enc x)) := hid (hV ▸ Blk.new wr _ _)
      have HV := hid hV
      obtain ⟨fn, tmps, assign, body, hyy, hR⟩ := hY _ x V HJV.out (by rw [List.length_take]; have := HL.out; omega)
      have HRR := hid hR
      have HK := hid (hk x)
      have H1 := hid (h1c x)
      clear hx hr hV hg0 hR
      gi_wp2_with (first
        | ((show wpListIn _ _ _ _ _ (⟨some 10, _, _, _, _, _⟩ :: _) _ _); go_must (refine wlIn_load_mid (.inl rfl) 36 (.tmp 9) rfl g (o + p * 18) rfl (enc x).toList _ HR.out Tryd.underlying36 rfl (by rw [Array.length_toList, HK.out]; exact Tryd.infoPntY) rfl rfl ?_))
        | ((show wpListIn _ _ _ _ _ (⟨none, _, _, _, _, _⟩ :: _) _ _); go_must (refine wlIn_store (.inl rfl) 36 (.tmp 4) (.tmp 10) rfl wr.heap.size (enc x) rfl rfl 36 _ (Blk.new wr _ _) 18 Tryd.infoPntY HK.out.symm rfl H1.out rfl rfl ?_; rw [setRow_new, ← HV.out]))
        | ((show wpListIn _ _ _ _ _ (⟨some 12, _, _, _, _, _⟩ :: _) _ _); go_must (refine wlIn_load (.inl rfl) 36 (.tmp 4) rfl wr.heap.size rfl 36 _ _ HKV.out Tryd.underlying36 rfl 18 Tryd.infoPntY HK.out.symm rfl rfl ?_)))
      refine HRR.out.mono ?_
      rintro e W3 (⟨rfl, hJ3, hk3⟩ | ⟨rfl, hJx3⟩)
      · have HJ3 := hid hJ3
        have HK3 := hid hk3
        clear hJ3 hk3
        gi_wp2
        go_roundw
        case rel => exact ⟨p + 1, by omega, by simp, hid (by rw [HS.out]; exact HJ3.out), hid (HBV.out.trans HK3.out)⟩
        case measure => simp [intOf]; omega
      · have HJx := hid hJx3
        clear hJx3
        gi_wp2
        refine bodyPost_ret (results_none rfl _ _ _) rfl ?_
        exact ⟨⟨_, rfl⟩, .inr ⟨_, ⟨xs.drop (p + 1), by rw [← HS.out, List.take_append_drop]⟩, HJx.out⟩⟩
    · obtain rfl : p = len := by omega
      have HE : Hid (xs.take p = xs) := hid (List.take_of_length_le (by have := HL.out; omega))
      gi_wp2
      go_end0
      exact ⟨⟨_, rfl⟩, .inl ⟨_, HE.out, HJ.out⟩⟩

set_option maxRecDepth 100000 in
set_option maxHeartbeats 1000000 in
theorem values1_none (n : Nat) (l Bs cap : Nat) (ad : Option Addr) (J : List α → World → Prop) (W : World) (hBs : W.cell? ⟨Bs, 0, none⟩ = some (.slice ad 0 cap)) (h0 : J [] W) :
    CallsIn Fence.wide n Tryd.prog 38 #[.func (.yield l) #[] #[], .pointer (some ⟨Bs, 0, none⟩)] W fun e W' => (∃ v, e = .returned v) ∧ J [] W' := by
  refine callsIn_of_wp Tryd.func38 rfl trivial ?_ rfl
  simp only [Tryd.ntmps38, List.size_toArray, List.length_cons, List.length_nil, Nat.reduceAdd, Nat.reduceSub, Array.replicate_succ, Array.replicate_zero, List.push_toArray, List.append_toArray, List.nil_append, List.cons_append]
  gi_wp2
  gi_loopw [7] (fun i wr => i = .int .i64 0 ∧ J [] wr) (fun _ _ => 0)
  case atStart => exact ⟨rfl, h0⟩
  case round =>
    obtain ⟨rfl, hJs⟩ := hrel
    gi_wp2
    go_end0
    exact ⟨⟨_, rfl⟩, hJs⟩

theorem values_stopsW (hk : ∀ x, (enc x).size = 18) (h1c : ∀ x, (enc x).all (·.oneCell') = true) (n : Nat) (hn : 2 ≤ n) (Bs n₀ cap : Nat) (ad : Option Addr) (xs : List α) (hcap : xs.length ≤ cap) (hm : xs.length ≤ 1000000) (w : World) (hBn : Bs < w.heap.size) (hn₀ : n₀ ≤ w.heap.size)
    (hc : w.cell? ⟨Bs, 0, none⟩ = some (.slice ad xs.length cap)) (hI : Elems enc 18 n₀ w ad xs) :
    SeqStopsK Fence.wide n Tryd.prog 38 #[.pointer (some ⟨Bs, 0, none⟩)] (fun x : α => #[Value.agg (enc x)]) (Below n₀) (fun ys => ys = xs) (fun pre => pre <+: xs) xs.length w := fun l J Jx W hW hJ _ hY h0 => by
  have hc' := (hW.cell (p := ⟨Bs, 0, none⟩) hBn).trans hc
  have hI' := hI.below (hW.mono hn₀)
  by_cases hl : xs.length = 0
  · obtain rfl : xs = [] := List.length_eq_zero_iff.1 hl
    exact (values1_none n l Bs cap ad J W hc' h0).mono fun e W' ⟨he, hj⟩ => ⟨he, .inl ⟨_, rfl, hj⟩⟩
  · obtain ⟨g, o, rfl, hg, _⟩ := hI' 0 (by omega)
    exact values1_w hk h1c n hn l Bs n₀ g o cap xs hcap hm hg J Jx W.heap.size hJ hY W (Nat.le_trans hn₀ hW.size) hc' (fun j hj => by
      obtain ⟨g', o', e, _, h⟩ := hI' j hj
      cases e
      exact h) h0
end
end Go.Proofs.YtgpbmbefdgbblaaDoor
