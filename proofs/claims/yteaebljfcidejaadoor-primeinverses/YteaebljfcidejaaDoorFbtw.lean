/-
  prime: the primes between two numbers (an iterator), and Next.
-/
import Derived.Test.YteaebljfcidejaaDoorFref
namespace Go.Proofs.YteaebljfcidejaaDoor
open Go.RowKit Go.Shelf Go.Lib
attribute [local go_sem] Oper.semAt_some

/-- Where the iterator begins. -/
def fr (a : Int) : Int := max a 2

theorem grown_none {w w' : World} (h : Below w.heap.size w w') : w.grownBy w' none := ⟨h.os, h.tape, h.output, h.size, fun k hk _ => h.block k hk⟩

set_option maxRecDepth 100000 in
set_option maxHeartbeats 4000000 in
theorem between1_in (F : Fence) (n : Nat) (hf : F.fn 25) (h8 : F.fn 8) (h11 : F.fn 11) (h19 : F.fn 19) (h24 : F.fn 24) (hro : F.round = none) (hn : 5 ≤ n) (l Ba Bb n₀ : Nat) (a b : Int) (ha : a ≤ 9223372036854775807) (hb : b ≤ 2147483648) (J Jx : List Int → World → Prop)
    (hJ : ∀ pre W W', J pre W → Below W.heap.size W W' → J pre W')
    (hY : ∀ pre x W, J pre W → pre.length < 2147483648 → 2 ≤ x ∧ x ≤ 2147483648 → YieldAt F (n - 1) Tryd.prog l #[.int .i64 x] W fun e W' =>
      (e = .returned (.bool true) ∧ J (pre ++ [x]) W' ∧ KB n₀ Bb W W') ∨ (e = .returned (.bool false) ∧ Jx (pre ++ [x]) W'))
    (W : World) (hn₀ : n₀ ≤ W.heap.size) (hBl : Bb < W.heap.size) (hBa : W.cell? ⟨Ba, 0, none⟩ = some (.int .i64 a)) (hBb : W.cell? ⟨Bb, 0, none⟩ = some (.int .i64 b)) (h0 : J [] W) :
    CallsIn F n Tryd.prog 25 #[.func (.yield l) #[] #[], .pointer (some ⟨Ba, 0, none⟩), .pointer (some ⟨Bb, 0, none⟩)] W fun e W' => (∃ v, e = .returned v) ∧
      ((∃ ys, ys = pls (fr a) (b + 1 - fr a).toNat ∧ J ys W') ∨ (∃ pre, (∃ k : Nat, fr a + k ≤ b + 1 ∧ pre = pls (fr a) k) ∧ Jx pre W')) := by
  have h1 : 1 ≤ n := by omega
  have HJ := hid hJ
  clear hJ
  have HI := hid (fun N W => is_in F (n - 1) h8 h11 h19 h24 hro (by omega) N W)
  have HS : Hid (n₀ ≤ W.heap.size ∧ Bb < W.heap.size) := hid ⟨hn₀, hBl⟩
  clear hn₀ hBl
  refine callsIn_of_wp Tryd.func25 rfl hf ?_ hro
  simp only [Tryd.ntmps25, List.size_toArray, List.length_cons, List.length_nil, Nat.reduceAdd, Nat.reduceSub, Array.replicate_succ, Array.replicate_zero, List.push_toArray, List.append_toArray, List.nil_append, List.cons_append]
  gi_wp2
  all_goals
    gi_loopw [4] (fun i wr => ∃ k : Nat, ∃ d : Int, Hid (d = fr a + k ∧ (k = 0 ∨ fr a + k ≤ b + 1)) ∧ 2 ≤ d ∧ d ≤ 9223372036854775807 ∧ i = .int .i64 d ∧ J (pls (fr a) k) wr ∧ KB n₀ Bb W wr) (fun i _ => (b + 1 - intOf i).toNat)
    case atStart => exact ⟨0, _, hid ⟨by unfold fr; omega, .inl rfl⟩, by omega, by omega, rfl, h0, KB.refl _ _ _⟩
    case round =>
      obtain ⟨k, d, HK, hd1, hd2, rfl, hJs, hnx⟩ := hrel
      have hBx : wr.cell? ⟨Bb, 0, none⟩ = some (.int .i64 b) := (hnx.cell 0).trans hBb
      by_cases hlt : d ≤ b
      · have HQ := hid (HI.out d wr)
        cases hp : isP d with
        | false =>
          rw [hp] at HQ
          gi_wp2_with (gi_at_call 8; refine HQ.out.mono ?_; rintro e w2 ⟨rfl, hb2⟩; have Hb := hid hb2; clear hb2)
          refine ⟨fun _ h => (by cases h), ?_⟩
          gi_wp2
          go_roundw
          case rel => exact ⟨k + 1, d + 1, hid ⟨by have := HK.out.1; omega, .inr (by have := HK.out.1; omega)⟩, by omega, by omega, rfl, by rw [pls_no (by rw [← HK.out.1]; exact hp)]; exact HJ.out _ _ _ hJs Hb.out, hnx.trans (KB.below Hb.out (Nat.le_trans HS.out.1 hnx.low.size) (Nat.lt_of_lt_of_le HS.out.2 hnx.low.size))⟩
          case measure => simp [intOf]; omega
        | true =>
          rw [hp] at HQ
          have HY : Hid (∀ w2, Below wr.heap.size wr w2 → YieldAt F (n - 1) Tryd.prog l #[.int .i64 d] w2 fun e W' =>
              (e = .returned (.bool true) ∧ J (pls (fr a) (k + 1)) W' ∧ KB n₀ Bb W W') ∨ (e = .returned (.bool false) ∧ Jx (pls (fr a) (k + 1)) W')) := hid fun w2 hb2 => by
            have hl1 := pls_length (fr a) k
            have hl2 := HK.out.1
            have hl3 : 2 ≤ fr a := by unfold fr; omega
            obtain ⟨fn, tmps, assign, body, hyy, hR⟩ := hY _ d w2 (HJ.out _ _ _ hJs hb2) (by omega) ⟨by omega, by omega⟩
            have e1 : pls (fr a) (k + 1) = pls (fr a) k ++ [d] := by rw [pls_yes (by rw [← HK.out.1]; exact hp), ← HK.out.1]
            refine ⟨fn, tmps, assign, body, hyy, hR.mono ?_⟩
            rintro e W3 (⟨h1, h2, h3⟩ | ⟨h1, h2⟩)
            · exact .inl ⟨h1, by rw [e1]; exact h2, hnx.trans ((KB.below hb2 (Nat.le_trans HS.out.1 hnx.low.size) (Nat.lt_of_lt_of_le HS.out.2 hnx.low.size)).trans h3)⟩
            · exact .inr ⟨h1, by rw [e1]; exact h2⟩
          gi_wp2_with (gi_at_call 8; refine HQ.out.mono ?_; rintro e w2 ⟨rfl, hb2⟩; obtain ⟨fn, tmps, assign, body, hyy, hR⟩ := HY.out w2 hb2; have Hb := hid hb2; clear hb2)
          refine hR.mono ?_
          rintro e W3 (⟨rfl, hJ3, hk3⟩ | ⟨rfl, hJx3⟩)
          · gi_wp2
            go_roundw
            case rel => exact ⟨k + 1, d + 1, hid ⟨by have := HK.out.1; omega, .inr (by have := HK.out.1; omega)⟩, by omega, by omega, rfl, hJ3, hk3⟩
            case measure => simp [intOf]; omega
          · gi_wp2
            refine bodyPost_ret (results_none rfl _ _ _) rfl ?_
            exact ⟨⟨_, rfl⟩, .inr ⟨_, ⟨k + 1, by have := HK.out.1; omega, rfl⟩, hJx3⟩⟩
      · have HE : Hid ((b + 1 - fr a).toNat = k) := hid (by have := HK.out; omega)
        gi_wp2
        go_end0
        exact ⟨⟨_, rfl⟩, .inl (by rw [HE.out]; exact hJs)⟩

set_option maxHeartbeats 1000000 in
theorem between_in (F : Fence) (n : Nat) (hf : F.fn 20) (hro : F.round = none) (a b : Int) (w : World) :
    CallsIn F n Tryd.prog 20 #[.int .i64 a, .int .i64 b] w fun e w' => e = .returned (.func (.func 25) #[] #[.pointer (some ⟨w.heap.size, 0, none⟩), .pointer (some ⟨w.heap.size + 1, 0, none⟩)]) ∧ w' = (w.alloc (.cells #[.int .i64 a] 3)).alloc (.cells #[.int .i64 b] 3) := by
  refine callsIn_of_wp Tryd.func20 rfl hf ?_ hro
  simp only [Tryd.ntmps20, List.size_toArray, List.length_cons, List.length_nil, Nat.reduceAdd, Nat.reduceSub, Array.replicate_succ, Array.replicate_zero, List.push_toArray, List.append_toArray, List.nil_append, List.cons_append]
  gi_wp2
  go_ret
  exact ⟨rfl, rfl⟩

/-- What is handed to a round: a number from 2 on, up to the greatest. -/
abbrev Pn := { x : Int // 2 ≤ x ∧ x ≤ 2147483648 }

theorem between_stops (F : Fence) (n : Nat) (hf : F.fn 25) (h8 : F.fn 8) (h11 : F.fn 11) (h19 : F.fn 19) (h24 : F.fn 24) (hro : F.round = none) (hn : 5 ≤ n) (Ba Bb n₀ : Nat) (a b : Int) (ha : a ≤ 9223372036854775807) (hb : b ≤ 2147483648) (w : World) (hn₀ : n₀ ≤ w.heap.size) (hAn : Ba < w.heap.size) (hBn : Bb < w.heap.size)
    (hc : w.cell? ⟨Ba, 0, none⟩ = some (.int .i64 a)) (hd : w.cell? ⟨Bb, 0, none⟩ = some (.int .i64 b)) :
    SeqStopsK F n Tryd.prog 25 #[.pointer (some ⟨Ba, 0, none⟩), .pointer (some ⟨Bb, 0, none⟩)] (fun x : Pn => #[Value.int .i64 x.1]) (KB n₀ Bb) (fun ys => ys.map (·.1) = pls (fr a) (b + 1 - fr a).toNat) (fun pre => ∃ k : Nat, fr a + k ≤ b + 1 ∧ pre.map (·.1) = pls (fr a) k) 2147483648 w := fun l J Jx W hW hJ _ hY h0 => by
  have hc' := (hW.cell (p := ⟨Ba, 0, none⟩) hAn).trans hc
  have hd' := (hW.cell (p := ⟨Bb, 0, none⟩) hBn).trans hd
  refine (between1_in F n hf h8 h11 h19 h24 hro hn l Ba Bb n₀ a b ha hb (fun pre W => ∃ pre' : List Pn, pre = pre'.map (·.1) ∧ J pre' W) (fun pre W => ∃ pre' : List Pn, pre = pre'.map (·.1) ∧ Jx pre' W) ?_ ?_ W (Nat.le_trans hn₀ hW.size) (Nat.lt_of_lt_of_le hBn hW.size) hc' hd' ⟨[], rfl, h0⟩).mono ?_
  · rintro pre W1 W2 ⟨pre', rfl, hj⟩ hb2
    exact ⟨pre', rfl, hJ _ _ _ none hj (grown_none hb2) (fun r e => by cases e)⟩
  · rintro pre x W1 ⟨pre', rfl, hj⟩ hk hx
    rw [List.length_map] at hk
    obtain ⟨fn, tmps, assign, body, hyy, hR⟩ := hY pre' ⟨x, hx⟩ W1 hj hk
    refine ⟨fn, tmps, assign, body, hyy, hR.mono ?_⟩
    rintro e W2 (⟨h1, h2, h3⟩ | ⟨h1, h2⟩)
    · exact .inl ⟨h1, ⟨_, by simp, h2⟩, h3⟩
    · exact .inr ⟨h1, _, by simp, h2⟩
  · rintro e W2 ⟨he, ⟨ys, rfl, pre', e1, hj⟩ | ⟨pre, ⟨k, hk, rfl⟩, pre', e1, hj⟩⟩
    · exact ⟨he, .inl ⟨pre', e1.symm, hj⟩⟩
    · exact ⟨he, .inr ⟨pre', ⟨k, hk, e1.symm⟩, hj⟩⟩
end Go.Proofs.YteaebljfcidejaaDoor
