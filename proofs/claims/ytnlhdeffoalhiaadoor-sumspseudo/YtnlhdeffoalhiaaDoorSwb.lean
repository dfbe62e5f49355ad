/-
  Sums: the iterator over the numbers of bytes.
-/
import Derived.Test.YtnlhdeffoalhiaaDoorSwa
namespace Go.Proofs.YtnlhdeffoalhiaaDoor
open Go.RowKit Go.Shelf Go.Lib
attribute [local go_sem] Oper.semAt_some

set_option maxRecDepth 100000 in
set_option maxHeartbeats 4000000 in
theorem words1_in (F : Fence) (n : Nat) (h25 : F.fn 53) (h23 : F.fn 54) (hro : F.round = none) (hn : 2 ≤ n) (l Bs n₀ g o cap : Nat) (bs : List Int) (hby : Byt bs) (hcap : bs.length ≤ cap) (hm : bs.length ≤ 1000000) (hb : g < n₀) (J Jx : List (Int × Int) → World → Prop)
    (hY : ∀ pre x W, J pre W → pre.length < nw bs.length → x = (((2 * pre.length : Nat) : Int), wordAt bs (2 * pre.length)) → YieldAt F (n - 1) Tryd.prog l #[.int .i64 x.1, .int .i64 x.2] W fun e W' =>
      (e = .returned (.bool true) ∧ J (pre ++ [x]) W' ∧ KB n₀ Bs W W') ∨ (e = .returned (.bool false) ∧ Jx (pre ++ [x]) W'))
    (W : World) (hBs : W.cell? ⟨Bs, 0, none⟩ = some (.slice (some ⟨g, o, none⟩) bs.length cap)) (hc : ∀ j, j < bs.length → W.cell? ⟨g, o + j, none⟩ = some (.int .u8 (bs.getD j 0))) (h0 : J [] W) :
    CallsIn F n Tryd.prog 53 #[.func (.yield l) #[] #[], .pointer (some ⟨Bs, 0, none⟩)] W fun e W' => (∃ v, e = .returned v) ∧
      ((∃ ys, ys = wlist bs (nw bs.length) ∧ J ys W') ∨ (∃ pre, (∃ k, k ≤ nw bs.length ∧ pre = wlist bs k) ∧ Jx pre W')) := by
  have h1 : 1 ≤ n := by omega
  have h1' : 1 ≤ n - 1 := by omega
  obtain ⟨len, hlen⟩ : ∃ len, len = bs.length := ⟨_, rfl⟩
  rw [← hlen] at hcap hm hBs hc
  have hnw : nw bs.length = (len + 1) / 2 := by rw [← hlen]; rfl
  rw [hnw] at hY ⊢
  have HL := hid hlen
  clear hlen hnw
  refine callsIn_of_wp Tryd.func53 rfl h25 ?_ hro
  simp only [Tryd.ntmps53, List.size_toArray, List.length_cons, List.length_nil, Nat.reduceAdd, Nat.reduceSub, Array.replicate_succ, Array.replicate_zero, List.push_toArray, List.append_toArray, List.nil_append, List.cons_append]
  gi_wp2
  gi_loopw [3] (fun i wr => ∃ k p : Nat, Hid (p = 2 * k ∧ k ≤ (len + 1) / 2) ∧ p ≤ len + 1 ∧ i = .int .i64 p ∧ J (wlist bs k) wr ∧ KB n₀ Bs W wr) (fun i _ => len + 1 - (intOf i).toNat)
  case atStart => exact ⟨0, 0, hid ⟨rfl, by omega⟩, by omega, rfl, h0, KB.refl _ _ _⟩
  case round =>
    obtain ⟨k, p, HK, hp1, rfl, hJs, hnx⟩ := hrel
    have hBx : wr.cell? ⟨Bs, 0, none⟩ = some (.slice (some ⟨g, o, none⟩) len cap) := (hnx.cell 0).trans hBs
    by_cases hlt : p < len
    · obtain ⟨x, hx⟩ : ∃ x, x = bs.getD p 0 := ⟨_, rfl⟩
      obtain ⟨y, hy⟩ : ∃ y, y = bs.getD (p + 1) 0 := ⟨_, rfl⟩
      obtain ⟨z, hz⟩ : ∃ z, z = wordAt bs p := ⟨_, rfl⟩
      have c0 : wr.cell? ⟨g, o + p, none⟩ = some (.int .u8 x) := ((hnx.low.cell (p := ⟨g, o + p, none⟩) hb).trans (hc p hlt)).trans (by rw [hx])
      have c1 : 1 < len - p → wr.cell? ⟨g, o + p + 1, none⟩ = some (.int .u8 y) := fun h => ((hnx.low.cell (p := ⟨g, o + (p + 1), none⟩) hb).trans (hc (p + 1) (by omega))).trans (by rw [hy])
      have y0 : len - p = 1 → y = 0 := fun h => by rw [hy, List.getD, List.getElem?_eq_none (by have := HL.out; omega)]; rfl
      have hw := hid (word_in F (n - 1) h23 hro g (o + p) (len - p) (cap - p) x y z (hx ▸ hby p) (hy ▸ hby (p + 1)) (by omega) (by rw [hz, hx, hy]; rfl) wr c0 c1 y0)
      obtain ⟨fn, tmps, assign, body, hyy, hR⟩ := hY _ ((p : Int), z) wr hJs (by rw [wlist_length]; have := HK.out; omega) (by rw [wlist_length, hz, ← HK.out.1])
      dsimp only at hyy
      have HX := hid (And.intro hx (And.intro hy hz))
      clear hx hy hz
      gi_wp2_with (gi_at_call 54; refine hw.out.mono ?_; rintro e w' ⟨rfl, rfl⟩)
      refine hR.mono ?_
      rintro e W3 (⟨rfl, hJ3, hk3⟩ | ⟨rfl, hJx3⟩)
      · gi_wp2
        go_roundw
        case rel => exact ⟨k + 1, p + 2, hid (by have := HK.out; omega), by omega, by simp, by rw [wlist_succ, ← HK.out.1, ← HX.out.2.2]; exact hJ3, hnx.trans hk3⟩
        case measure => simp [intOf]; omega
      · gi_wp2
        refine bodyPost_ret (results_none rfl _ _ _) rfl ?_
        exact ⟨⟨_, rfl⟩, .inr ⟨_, ⟨k + 1, by have := HK.out; omega, rfl⟩, by rw [wlist_succ, ← HK.out.1, ← HX.out.2.2]; exact hJx3⟩⟩
    · have HE : Hid (k = (len + 1) / 2) := hid (by have := HK.out; omega)
      gi_wp2
      go_end0
      exact ⟨⟨_, rfl⟩, .inl ⟨_, by rw [HE.out], hJs⟩⟩

set_option maxRecDepth 100000 in
set_option maxHeartbeats 1000000 in
theorem words1_none (F : Fence) (n : Nat) (h25 : F.fn 53) (hro : F.round = none) (l Bs cap : Nat) (ad : Option Addr) (J : List (Int × Int) → World → Prop) (W : World) (hBs : W.cell? ⟨Bs, 0, none⟩ = some (.slice ad 0 cap)) (h0 : J [] W) :
    CallsIn F n Tryd.prog 53 #[.func (.yield l) #[] #[], .pointer (some ⟨Bs, 0, none⟩)] W fun e W' => (∃ v, e = .returned v) ∧ J [] W' := by
  refine callsIn_of_wp Tryd.func53 rfl h25 ?_ hro
  simp only [Tryd.ntmps53, List.size_toArray, List.length_cons, List.length_nil, Nat.reduceAdd, Nat.reduceSub, Array.replicate_succ, Array.replicate_zero, List.push_toArray, List.append_toArray, List.nil_append, List.cons_append]
  gi_wp2
  gi_loopw [3] (fun i wr => i = .int .i64 0 ∧ J [] wr ∧ wr.cell? ⟨Bs, 0, none⟩ = some (.slice ad 0 cap)) (fun _ _ => 0)
  case atStart => exact ⟨rfl, h0, hBs⟩
  case round =>
    obtain ⟨rfl, hJs, hcx⟩ := hrel
    gi_wp2
    go_end0
    exact ⟨⟨_, rfl⟩, hJs⟩

theorem words_stops (F : Fence) (n : Nat) (h25 : F.fn 53) (h23 : F.fn 54) (hro : F.round = none) (hn : 2 ≤ n) (Bs n₀ cap : Nat) (ad : Option Addr) (bs : List Int) (hby : Byt bs) (hcap : bs.length ≤ cap) (hm : bs.length ≤ 1000000) (w : World) (hBn : Bs < w.heap.size) (hn₀ : n₀ ≤ w.heap.size)
    (hc : w.cell? ⟨Bs, 0, none⟩ = some (.slice ad bs.length cap)) (hI : Bys n₀ w ad bs) :
    SeqStopsK F n Tryd.prog 53 #[.pointer (some ⟨Bs, 0, none⟩)] (fun x : Int × Int => #[Value.int .i64 x.1, Value.int .i64 x.2]) (KB n₀ Bs) (fun ys => ys = wlist bs (nw bs.length)) (fun pre => ∃ k, k ≤ nw bs.length ∧ pre = wlist bs k) (nw bs.length) w := fun l J Jx W hW _ _ hY h0 => by
  have hc' := (hW.cell (p := ⟨Bs, 0, none⟩) hBn).trans hc
  have hI' := hI.below (hW.mono hn₀)
  by_cases hl : bs.length = 0
  · obtain rfl : bs = [] := List.length_eq_zero_iff.1 hl
    exact (words1_none F n h25 hro l Bs cap ad J W hc' h0).mono fun e W' ⟨he, hj⟩ => ⟨he, .inl ⟨_, rfl, hj⟩⟩
  · obtain ⟨g, o, rfl, hg, _⟩ := hI' 0 (by omega)
    exact words1_in F n h25 h23 hro hn l Bs n₀ g o cap bs hby hcap hm hg J Jx (fun pre x W h k _ => hY pre x W h k) W hc' (fun j hj => by
      obtain ⟨g', o', e, _, h⟩ := hI' j hj
      cases e
      exact h) h0


/-- A place and the number there. -/
abbrev WordOf (bs : List Int) := { x : Int × Int // ∃ k, k < nw bs.length ∧ x = (((2 * k : Nat) : Int), wordAt bs (2 * k)) }

theorem words_stopsW (F : Fence) (n : Nat) (h25 : F.fn 53) (h23 : F.fn 54) (hro : F.round = none) (hn : 2 ≤ n) (Bs n₀ cap : Nat) (ad : Option Addr) (bs : List Int) (hby : Byt bs) (hcap : bs.length ≤ cap) (hm : bs.length ≤ 1000000) (w : World) (hBn : Bs < w.heap.size) (hn₀ : n₀ ≤ w.heap.size)
    (hc : w.cell? ⟨Bs, 0, none⟩ = some (.slice ad bs.length cap)) (hI : Bys n₀ w ad bs) :
    SeqStopsK F n Tryd.prog 53 #[.pointer (some ⟨Bs, 0, none⟩)] (fun x : WordOf bs => #[Value.int .i64 x.1.1, Value.int .i64 x.1.2]) (KB n₀ Bs) (fun ys => ys.map (·.1) = wlist bs (nw bs.length)) (fun pre => ∃ k, k ≤ nw bs.length ∧ pre.map (·.1) = wlist bs k) (nw bs.length) w := fun l J Jx W hW _ _ hY h0 => by
  have hc' := (hW.cell (p := ⟨Bs, 0, none⟩) hBn).trans hc
  have hI' := hI.below (hW.mono hn₀)
  by_cases hl : bs.length = 0
  · obtain rfl : bs = [] := List.length_eq_zero_iff.1 hl
    exact (words1_none F n h25 hro l Bs cap ad (fun pre W => ∃ pre' : List (WordOf []), pre = pre'.map (·.1) ∧ J pre' W) W hc' ⟨[], rfl, h0⟩).mono fun e W' ⟨he, pre', e1, hj⟩ => ⟨he, .inl ⟨pre', e1.symm, hj⟩⟩
  · obtain ⟨g, o, rfl, hg, _⟩ := hI' 0 (by omega)
    refine (words1_in F n h25 h23 hro hn l Bs n₀ g o cap bs hby hcap hm hg (fun pre W => ∃ pre' : List (WordOf bs), pre = pre'.map (·.1) ∧ J pre' W) (fun pre W => ∃ pre' : List (WordOf bs), pre = pre'.map (·.1) ∧ Jx pre' W) ?_ W hc' (fun j hj => by
      obtain ⟨g', o', e, _, h⟩ := hI' j hj
      cases e
      exact h) ⟨[], rfl, h0⟩).mono ?_
    · rintro pre x W1 ⟨pre', rfl, hj⟩ hk hx
      rw [List.length_map] at hk hx
      obtain ⟨fn, tmps, assign, body, hyy, hR⟩ := hY pre' ⟨x, pre'.length, hk, hx⟩ W1 hj hk
      refine ⟨fn, tmps, assign, body, hyy, hR.mono ?_⟩
      rintro e W2 (⟨h1, h2, h3⟩ | ⟨h1, h2⟩)
      · exact .inl ⟨h1, ⟨_, by simp, h2⟩, h3⟩
      · exact .inr ⟨h1, _, by simp, h2⟩
    · rintro e W2 ⟨he, ⟨ys, rfl, pre', e1, hj⟩ | ⟨pre, ⟨k, hk, rfl⟩, pre', e1, hj⟩⟩
      · exact ⟨he, .inl ⟨pre', e1.symm, hj⟩⟩
      · exact ⟨he, .inr ⟨pre', ⟨k, hk, e1.symm⟩, hj⟩⟩
end Go.Proofs.YtnlhdeffoalhiaaDoor
