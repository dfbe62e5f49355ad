/-
  The law MaglevMoves. · The law MaglevShares: another order, and one once more, have the same members. · The law MaglevShares, in parts. · The law MaglevShares, in parts. · The law MaglevShares, at every input.
-/
import Derived.Test.YtgpbmbefdgbblaaDoorGa09
import Derived.Deep.AppendLies
import Derived.Deep.Cut
namespace Go.Proofs.YtgpbmbefdgbblaaDoor
open Go.RowKit Go.Lib

/-- What a filling ends with, as a table in memory. -/
theorem FillEnd.tab {E : Nat → TypeId × Value} {xs : List PS} {m : Int} {w : World} {e : Ending} {w' : World} (h : FillEnd E xs m w e w') :
    Below w.heap.size w w' ∧ ((fillE xs m ≠ 0 ∧ e = .returned (.tuple #[.agg #[.int .i64 0, .slice none 0 0, .slice none 0 0], .iface (E (fillE xs m)).1 (E (fillE xs m)).2])) ∨
      (fillE xs m = 0 ∧ ∃ (M : Nat) (ab : Option Addr) (cap S : Nat), m = (M : Int) ∧ sizedB (M : Int) = true ∧ 0 < (psorted xs).length ∧ (psorted xs).length ≤ 24 ∧ (psorted xs).length ≤ M ∧ e = .returned (.tuple #[.agg #[.int .i64 (M : Int), .slice ab (psorted xs).length cap, .slice (some ⟨S, 0, none⟩) (fillT (ordL M (psorted xs)) (psorted xs).length M M).length M], .nilIface]) ∧
        TabIn w'.heap.size w' ab (some ⟨S, 0, none⟩) (psorted xs) (fillT (ordL M (psorted xs)) (psorted xs).length M M))) := by
  obtain ⟨hb, h | ⟨h0, M, ab, cap, S, hM, he, h1, h2, h3⟩⟩ := h
  · exact ⟨hb, .inl h⟩
  · refine ⟨hb, .inr ⟨h0, M, ab, cap, S, hM, ?_, ?_, ?_, ?_, by rw [fillT_length]; exact he, h2, h3.ints⟩⟩
    · unfold fillE at h0
      cases hs : sizedB m
      · rw [if_pos hs] at h0; cases h0
      · rw [← hM]; exact hs
    all_goals
      unfold fillE at h0
      cases hs : sizedB m
      · rw [if_pos hs] at h0; cases h0
      · rw [if_neg (by rw [hs]; decide)] at h0
        cases ha : anyNo xs
        · rw [if_neg (by rw [ha]; decide)] at h0
          by_cases h4 : (psorted xs).length = 0
          · rw [if_pos h4] at h0; cases h0
          · rw [if_neg h4] at h0
            by_cases h5 : min 24 m < (psorted xs).length
            · rw [if_pos h5] at h0; cases h0
            · omega
        · rw [if_pos ha] at h0; cases h0
theorem tab_zero (n₀ : Nat) (w : World) : TabIn n₀ w none none [] [] := ⟨fun j hj => by simp at hj, fun j hj => by simp at hj⟩
theorem whole_zero : wholeT 0 [] = false := by
  unfold wholeT
  cases hs : sizedB 0
  · rfl
  · have := (sized_range hs).1
    omega
theorem own_zero (p : Int) : ownW 0 [] [] p = none := by unfold ownW; rw [if_neg (by rw [whole_zero]; decide)]

end Go.Proofs.YtgpbmbefdgbblaaDoor

namespace Go.Proofs.YtgpbmbefdgbblaaDoor
open Go.RowKit Go.Lib Go.Sort

theorem psorted_same (xs ys : List PS) (h : ∀ a, a ∈ xs ↔ a ∈ ys) : psorted xs = psorted ys := by
  have h1 := sorted_facts xs
  have h2 := sorted_facts ys
  exact rising_unique _ _ h1.1 h2.1 fun a => by
    rw [show (a ∈ psorted xs ↔ a ∈ xs) from h1.2 a, show (a ∈ psorted ys ↔ a ∈ ys) from h2.2 a]
    exact h a
theorem anyNo_same (xs ys : List PS) (h : ∀ a, a ∈ xs ↔ a ∈ ys) : anyNo xs = anyNo ys := by
  unfold anyNo
  rw [Bool.eq_iff_iff, List.any_eq_true, List.any_eq_true]
  exact ⟨fun ⟨x, hx, hp⟩ => ⟨x, (h x).1 hx, hp⟩, fun ⟨x, hx, hp⟩ => ⟨x, (h x).2 hx, hp⟩⟩
theorem fillE_same (xs ys : List PS) (m : Int) (h : ∀ a, a ∈ xs ↔ a ∈ ys) : fillE xs m = fillE ys m := by
  unfold fillE
  rw [anyNo_same xs ys h, psorted_same xs ys h]
theorem other_mem (xs : List PS) (k : Nat) (x : PS) (hx : x ∈ xs) (a : PS) : a ∈ (xs.drop k ++ xs.take k) ++ [x] ↔ a ∈ xs := by
  rw [List.mem_append, List.mem_append, List.mem_singleton]
  constructor
  · rintro ((h | h) | rfl)
    · exact List.mem_of_mem_drop h
    · exact List.mem_of_mem_take h
    · exact hx
  · intro h
    have := List.take_append_drop k xs
    rw [← this, List.mem_append] at h
    rcases h with h | h
    · exact .inl (.inr h)
    · exact .inl (.inl h)
theorem psorted_nil_of (xs : List PS) (h : 0 < (psorted xs).length) : 0 < xs.length := by
  rcases xs with _ | ⟨a, xs⟩
  · simp [psorted, psort, Lib.compact, Lib.compactUpTo] at h
  · simp

theorem own_lt {w : World} {b : Nat} {e : TypeId} {k : Nat} {v : Value} {n : Nat} {xs : List Value} (h : w.ownsRow b e k v n xs) {g : Nat} (hg : v.ownBlock = some g) : g < w.heap.size := by
  obtain ⟨h0, ⟨rfl, h⟩ | ⟨g', cap, cur, rfl, h2, h3, _⟩⟩ := h
  · cases hg
  · cases hg
    exact (Array.getElem?_eq_some_iff.1 h3).1
section
variable {ops : Array Oper} {o : Oper} {a : Act} {w : World} {K : Act → World → Prop} {Q : Exit → Act → World → Prop} {E : Prop}
/-- append of something: where the new slice lies. -/
theorem r_appL (s x : Operand) (ho : o.op = .call { callee := .builtin .append, args := #[s, x], argTypes := #[22, 22] }) (base : Nat) (v : Value) (n : Nat) (xs : List Value) (hs : a.eval s = v) (hown : w.ownsRow base 36 18 v n xs)
    (ao : Option Addr) (m c : Nat) (ks : List PS) (hx : a.eval x = .slice ao m c) (hl : ks.length = m) (n₀ : Nat) (hb : Elems encP 18 n₀ w ao ks) (hn : ao = none → m = 0 ∧ c = 0) (hm : 0 < m)
    (h63 : n + m ≤ 1000000) (hbase : base ≤ w.heap.size) (hw : Region.wanted o (yielded ops a.tmps) = true)
    (h : ∀ g cap w', w'.ownsRow base 36 18 (.slice (some ⟨g, 0, none⟩) (n + m) cap) (n + m) (xs ++ flatY encP ks) → w.grownBy w' v.ownBlock → (v.ownBlock = some g ∨ g = w.heap.size) → K (a.put o.dst (.slice (some ⟨g, 0, none⟩) (n + m) cap)) w') : if Region.wanted o (yielded ops a.tmps) = true then Oper.wp Tryd.prog o a w K Q else E := by
  obtain ⟨i0, hi, h2⟩ := Option.map_eq_some_iff.1 Tryd.info3PntY
  simp only [Prod.mk.injEq] at h2
  obtain ⟨hz1, hz2⟩ := h2
  obtain ⟨z, hz0, hzs⟩ : ∃ z, i0.zero = some z ∧ z.cells.size = 18 := by
    have h5 := Tryd.info5PntY
    rw [hi] at h5
    simp only [Option.map_some, Option.some.injEq] at h5
    obtain ⟨z, hz, h6⟩ := Option.map_eq_some_iff.1 h5
    exact ⟨z, hz, h6⟩
  rw [if_pos hw]
  cases ao with
  | none => have := hn rfl; omega
  | some ad =>
    have hfl : (flatY encP ks).length = m * 18 := by rw [flat_length 18 encP_size, hl]
    refine wp_append_lies w s x 22 ho base 36 i0 z 18 32 Tryd.underlying22 hi hz0 hz1 hz2 hzs (by decide) v n xs hs hown ad m c (flatY encP ks) hx hfl ?_ ?_ hm (by unfold maxLen; omega) (by omega) hbase _ rfl (fun g cap w' h2 h3 h4 _ => h g cap w' h2 h3 h4)
    · intro j u hu
      have hj : j < (flatY encP ks).length := (List.getElem?_eq_some_iff.1 hu).1
      have hj2 : j < ks.length * 18 := by omega
      have hq : j / 18 < ks.length := by omega
      have h1 := flat_get 18 encPL_length encP_list ks j hj2
      obtain ⟨g, of, e, hg, hc⟩ := hb (j / 18) hq
      cases e
      have h4 := hc (j % 18) u (by
        rw [encP_list]
        have h3 : j % 18 < (encPL ks[j / 18]).length := by rw [encPL_length]; omega
        rw [List.getElem?_eq_getElem hj] at hu
        rw [getElem!_pos (flatY encP ks) j hj, getElem!_pos ks (j / 18) hq, getElem!_pos (encPL ks[j / 18]) (j % 18) h3] at h1
        rw [List.getElem?_eq_getElem h3, ← h1]
        exact hu)
      rw [show of + j / 18 * 18 + j % 18 = of + j by omega] at h4
      rw [show (⟨g, of, none⟩ : Addr).add j = ⟨g, of + j, none⟩ by unfold Addr.add; split <;> simp_all]
      exact h4
    · intro u hu
      simp only [flatY, List.mem_flatMap] at hu
      obtain ⟨y, _, hy⟩ := hu
      exact encPL_one y u hy
end

theorem exec_quo {P : Program} {o : Oper} {a : Act} {w : World} (x y : Operand) (t t' : TypeId) (ho : o.op = .binOp .quo t x y t') (n k q : Nat) (hx : a.eval x = .int .i64 n) (hy : a.eval y = .int .i64 k) (hk : 1 ≤ k) (hn : n ≤ 100000) (hq : q = n / k) :
    (execOp a.eval o).run P w = .ok (.value (.int .i64 (q : Int))) w := by
  have h1 : IntKind.i64.wrap ((n : Int) / (k : Int)) = (q : Int) := by
    rw [show (n : Int) / (k : Int) = ((n / k : Nat) : Int) from rfl, ← hq]
    have := Nat.div_le_self n k
    exact IntWalk.i64_in _ (by omega)
  have h3 : ¬ k = 0 := by omega
  clear hq hn hk
  unfold execOp
  simp only [ho, hx, hy]
  clear hx hy ho
  simp [go_sem, h1, h3]

theorem wpl_r2s8 {P : Program} {ops : Array Oper} {rest : List Oper} {r1 r2 s1 s2 s3 s4 s5 s6 s7 s8 : Oper} {a : Act} {w : World} {Q : Exit → Act → World → Prop} (v1 v2 : Value)
    (h1 : (execOp a.eval r1).run P w = .ok (.value v1) w) (w1 : Region.wanted r1 (yielded ops a.tmps) = true) (h2 : (execOp (a.put r1.dst v1).eval r2).run P w = .ok (.value v2) w) (w2 : Region.wanted r2 (yielded ops (a.put r1.dst v1).tmps) = true)
    (k1 : Region.wanted s1 (yielded ops ((a.put r1.dst v1).put r2.dst v2).tmps) = false) (k2 : Region.wanted s2 (yielded ops (((a.put r1.dst v1).put r2.dst v2).put s1.dst undef).tmps) = false) (k3 : Region.wanted s3 (yielded ops ((((a.put r1.dst v1).put r2.dst v2).put s1.dst undef).put s2.dst undef).tmps) = false) (k4 : Region.wanted s4 (yielded ops (((((a.put r1.dst v1).put r2.dst v2).put s1.dst undef).put s2.dst undef).put s3.dst undef).tmps) = false) (k5 : Region.wanted s5 (yielded ops ((((((a.put r1.dst v1).put r2.dst v2).put s1.dst undef).put s2.dst undef).put s3.dst undef).put s4.dst undef).tmps) = false) (k6 : Region.wanted s6 (yielded ops (((((((a.put r1.dst v1).put r2.dst v2).put s1.dst undef).put s2.dst undef).put s3.dst undef).put s4.dst undef).put s5.dst undef).tmps) = false) (k7 : Region.wanted s7 (yielded ops ((((((((a.put r1.dst v1).put r2.dst v2).put s1.dst undef).put s2.dst undef).put s3.dst undef).put s4.dst undef).put s5.dst undef).put s6.dst undef).tmps) = false) (k8 : Region.wanted s8 (yielded ops (((((((((a.put r1.dst v1).put r2.dst v2).put s1.dst undef).put s2.dst undef).put s3.dst undef).put s4.dst undef).put s5.dst undef).put s6.dst undef).put s7.dst undef).tmps) = false) (h : wpList P ops Q rest ((((((((((a.put r1.dst v1).put r2.dst v2).put s1.dst undef).put s2.dst undef).put s3.dst undef).put s4.dst undef).put s5.dst undef).put s6.dst undef).put s7.dst undef).put s8.dst undef) w) : wpList P ops Q (r1 :: r2 :: s1 :: s2 :: s3 :: s4 :: s5 :: s6 :: s7 :: s8 :: rest) a w :=
  wpl_run v1 w h1 w1 (wpl_run v2 w h2 w2 (wpList_skip k1 (wpList_skip k2 (wpList_skip k3 (wpList_skip k4 (wpList_skip k5 (wpList_skip k6 (wpList_skip k7 (wpList_skip k8 h)))))))))

theorem sumTurns_mono (n M : Nat) : ∀ d k, sumTurns n M k ≤ sumTurns n M (k + d)
  | 0, k => Nat.le_refl _
  | d + 1, k => Nat.le_trans (sumTurns_mono n M d k) (by rw [← Nat.add_assoc, sumTurns]; omega)
theorem sumTurns_le {n M p : Nat} (hp : p < n) : sumTurns n M (p + 1) ≤ M := by
  have h1 := sumTurns_mono n M (n - (p + 1)) (p + 1)
  rw [show p + 1 + (n - (p + 1)) = n by omega, sumTurns_all (by omega) M] at h1
  exact h1

/-- The counts of a filled table. -/
theorem count_filled {M : Nat} (hM : sizedB (M : Int) = true) (bs : List PS) (h0 : 0 < bs.length) {i : Nat} (hi : i < bs.length) :
    (countsT bs.length (fillT (ordL M bs) bs.length M M)).getD i 0 = (turns bs.length i M : Int) := by
  rw [countsT_get _ _ hi, (fillT_facts h0 (ordL_onto M hM bs) M (Nat.le_refl _)).2.1 i hi]
end Go.Proofs.YtgpbmbefdgbblaaDoor

namespace Go.Proofs.YtgpbmbefdgbblaaDoor
open Go.RowKit Go.Lib Go.Sort

set_option linter.unusedSimpArgs false in
set_option linter.unusedVariables false in
set_option maxRecDepth 100000 in
set_option maxHeartbeats 8000000 in
theorem shares_long (E : Nat → TypeId × Value) (ax : Option Addr) (cx : Nat) (xs : List PS) (hcx : xs.length ≤ cx) (hnx : ax = none → xs.length = 0 ∧ cx = 0) (m z : Int) (h : 40 < xs.length) (w : World) (hE : MEnv E w) (hX : Elems encP 18 w.heap.size w ax xs) :
    Calls Tryd.prog 3 #[.slice ax xs.length cx, .int .i64 m, .int .i64 z] w fun e w' => e = .returned (.bool true) ∧ Below w.heap.size w w' := by
  have HA := hid (malive_any E w hE)
  go_enter Tryd.func3, Tryd.ntmps3
  go_wp2_with fail
  refine HA.out.mono ?_
  rintro e w1 ⟨rfl, hb⟩
  have Hb1 := hid hb
  clear hb
  go_wp2
  go_ret
  exact ⟨rfl, Hb1.out⟩

set_option linter.unusedSimpArgs false in
set_option linter.unusedVariables false in
set_option maxRecDepth 100000 in
set_option maxHeartbeats 8000000 in
theorem shares_err (E : Nat → TypeId × Value) (ax : Option Addr) (cx : Nat) (xs : List PS) (hcx : xs.length ≤ cx) (hnx : ax = none → xs.length = 0 ∧ cx = 0) (m z : Int) (h : xs.length ≤ 40) (hf1 : fillE xs m ≠ 0) (w : World) (hE : MEnv E w) (hX : Elems encP 18 w.heap.size w ax xs) :
    Calls Tryd.prog 3 #[.slice ax xs.length cx, .int .i64 m, .int .i64 z] w fun e w' => e = .returned (.bool true) ∧ Below w.heap.size w w' := by
  have HA := hid (malive_any E w hE)
  have HF1 : Hid (∀ W, Below w.heap.size w W → Calls Tryd.prog 6 #[.slice ax xs.length cx, .int .i64 m] W (FillEnd E xs m W)) := hid (fun W hb => fill_any E ax cx xs hcx (by omega) m W (hE.kept hb) ((hX.below hb).mono hb.size))
  clear hE hcx
  go_enter Tryd.func3, Tryd.ntmps3
  go_wp2_with fail
  refine HA.out.mono ?_
  rintro e w1 ⟨rfl, hb⟩
  have Hb1 := hid hb
  clear hb
  go_wp2_with fail
  refine (HF1.out _ Hb1.out).mono ?_
  intro e w2 hf
  obtain ⟨hb2, hf⟩ := hf.tab
  have Hb2 := hid (bel2 Hb1.out hb2)
  have HF := hid hf
  clear hf hb2 HF1 HA
  rcases HF.out with ⟨_, rfl⟩ | ⟨h0, _⟩
  rotate_left
  · exact absurd h0 hf1
  have FB : Hid (Below w.heap.size w (w2.alloc (.cells #[.int .i64 0, .slice none 0 0, .slice none 0 0] 26))) := hid (Hb2.out.alloc Hb2.out.size _)
  clear HF hX
  go_wp2
  go_ret
  exact ⟨rfl, FB.out⟩

end Go.Proofs.YtgpbmbefdgbblaaDoor

namespace Go.Proofs.YtgpbmbefdgbblaaDoor
open Go.RowKit Go.Lib Go.Sort

set_option linter.unusedSimpArgs false in
set_option linter.unusedVariables false in
set_option maxRecDepth 100000 in
set_option maxHeartbeats 8000000 in
theorem shares_ok (E : Nat → TypeId × Value) (ax : Option Addr) (cx : Nat) (xs : List PS) (hcx : xs.length ≤ cx) (hnx : ax = none → xs.length = 0 ∧ cx = 0) (m z : Int) (h : xs.length ≤ 40) (hf1 : fillE xs m = 0) (w : World) (hE : MEnv E w) (hX : Elems encP 18 w.heap.size w ax xs) :
    Calls Tryd.prog 3 #[.slice ax xs.length cx, .int .i64 m, .int .i64 z] w fun e w' => e = .returned (.bool true) ∧ Below w.heap.size w w' := by
  have HA := hid (malive_any E w hE)
  obtain ⟨n, hn⟩ : ∃ n, n = xs.length := ⟨_, rfl⟩
  have hpos : ∀ M : Nat, 0 < (psorted xs).length → 0 < n := fun _ hh => hn ▸ psorted_nil_of xs hh
  have HF1 : Hid (∀ W, Below w.heap.size w W → Calls Tryd.prog 6 #[.slice ax xs.length cx, .int .i64 m] W (FillEnd E xs m W)) := hid (fun W hb => fill_any E ax cx xs hcx (by omega) m W (hE.kept hb) ((hX.below hb).mono hb.size))
  have HF2 : Hid (∀ W g c (ys : List PS), ys.length ≤ c → ys.length ≤ 1000 → Below w.heap.size w W → Elems encP 18 W.heap.size W (some ⟨g, 0, none⟩) ys → Calls Tryd.prog 6 #[.slice (some ⟨g, 0, none⟩) ys.length c, .int .i64 m] W (FillEnd E ys m W)) := hid (fun W g c ys h1 h2 hb hel => fill_any E (some ⟨g, 0, none⟩) c ys h1 h2 m W (hE.kept hb) hel)
  have HX := hid hX
  have hcx' : n ≤ cx := by omega
  have HPos := hid hpos
  rw [← hn] at h HF1 hnx ⊢
  have Hn := hid hn
  clear hn hX hpos
  clear hE hcx
  go_enter Tryd.func3, Tryd.ntmps3
  go_wp2_with fail
  refine HA.out.mono ?_
  rintro e w1 ⟨rfl, hb⟩
  have Hb1 := hid hb
  clear hb
  go_wp2_with fail
  refine (HF1.out _ Hb1.out).mono ?_
  intro e w2 hf
  obtain ⟨hb2, hf⟩ := hf.tab
  have Hb2 := hid (bel2 Hb1.out hb2)
  have HF := hid hf
  clear hf hb2 HF1 HA
  rcases HF.out with ⟨h0, _⟩ | ⟨_, M, ab, cap, S, hM, hs, hn0, hn24, hnM, he1, hT1⟩
  · exact absurd hf1 h0
  subst hM
  have h0n : 0 < n := HPos.out M hn0
  have HLM : Hid ((fillT (ordL M (psorted xs)) (psorted xs).length M M).length = M) := hid (fillT_length _ _ _ _)
  have HPs : Hid (∀ ys : List PS, (∀ a, a ∈ ys ↔ a ∈ xs) → psorted ys = psorted xs ∧ fillE ys M = 0) := hid (fun ys hy => ⟨psorted_same ys xs hy, by rw [fillE_same ys xs M hy]; exact hf1⟩)
  have HOw : Hid (∀ p : Nat, p < M → (0 ≤ (fillT (ordL M (psorted xs)) (psorted xs).length M M).getD p 0 ∧ (fillT (ordL M (psorted xs)) (psorted xs).length M M).getD p 0 < (psorted xs).length) ∧ ownW M (psorted xs) (fillT (ordL M (psorted xs)) (psorted xs).length M M) p = some (psorted xs)[((fillT (ordL M (psorted xs)) (psorted xs).length M M).getD p 0).toNat]!) := hid (fun p hp => own_filled hs (psorted xs) hn0 hp)
  have HCt : Hid (∀ i, i < (psorted xs).length → (countsT (psorted xs).length (fillT (ordL M (psorted xs)) (psorted xs).length M M)).getD i 0 = (turns (psorted xs).length i M : Int)) := hid (fun i hi => count_filled hs (psorted xs) hn0 hi)
  have HFT : Hid (∀ (bs : List PS), bs = psorted xs → fillT (ordL M bs) bs.length M M = fillT (ordL M (psorted xs)) (psorted xs).length M M) := hid (fun bs e => by rw [e])
  generalize hL : fillT (ordL M (psorted xs)) (psorted xs).length M M = L at *
  generalize hbs : psorted xs = bs at *
  have HL := hid hL
  clear hL hbs
  subst he1
  have hM251 := (sized_range hs).2.1
  have hM2 := (sized_range hs).1
  obtain ⟨b, hb⟩ : ∃ b, b = bs.length := ⟨_, rfl⟩
  have Hbb := hid hb
  have hb0 : 0 < b := by omega
  have hb24 : b ≤ 24 := by omega
  have hbM : b ≤ M := by omega
  have HS := hid hs
  clear hs hn0 hn24 hnM hf1 hb HF
  obtain ⟨W2, hW2⟩ : ∃ W, W = w2.alloc (.cells #[.int .i64 (M : Int), .slice ab bs.length cap, .slice (some ⟨S, 0, none⟩) L.length M] 26) := ⟨_, rfl⟩
  have HW2 := hid hW2.symm
  have b2 : Below w2.heap.size w2 W2 := hW2 ▸ (Below.refl _ _).alloc (Nat.le_refl _) _
  have K2 : Hid (Blk W2 w2.heap.size 26 #[.int .i64 (M : Int), .slice ab bs.length cap, .slice (some ⟨S, 0, none⟩) L.length M]) := hid (hW2 ▸ Blk.new w2 _ _)
  have HB2 := hid (bel2 Hb2.out b2)
  have HT2 := hid (hT1.kept b2)
  clear hW2 b2 hT1
  -- the turn
  obtain ⟨Z, hZ⟩ : ∃ Z : Nat, IntKind.u64.wrap z = (Z : Int) := ⟨(IntKind.u64.wrap z).toNat, by rw [IntKind.wrap_u64]; omega⟩
  obtain ⟨k, hk⟩ : ∃ k, k = Z % n := ⟨_, rfl⟩
  have hkn : k < n := by rw [hk]; exact Nat.mod_lt _ h0n
  have q1 : IntKind.u64.wrap (n : Int) = (n : Int) := by rw [IntKind.wrap_u64]; omega
  have q2 : (Z : Int).tmod (n : Int) = (k : Int) := by rw [hk]; rfl
  have q3 : (Z : Int) % (n : Int) = (k : Int) := by rw [hk]; rfl
  have q4 : ¬ (n : Int) = 0 := by omega
  have q5 : ¬ n = 0 := by omega
  have q6 : IntKind.i64.wrap (k : Int) = (k : Int) := IntWalk.i64_in _ (by omega)
  have q7 : IntKind.u64.wrap (k : Int) = (k : Int) := by rw [IntKind.wrap_u64]; omega
  clear hk
  obtain ⟨go, oo, hax, hgo, hr0⟩ := HX.out 0 (by rw [← Hn.out]; exact h0n)
  obtain ⟨x0, hx0⟩ : ∃ x0, x0 = xs[0]'(by rw [← Hn.out]; exact h0n) := ⟨_, rfl⟩
  rw [← hx0, Nat.zero_mul, Nat.add_zero] at hr0
  have HMem : Hid (∀ a, a ∈ (xs.drop k ++ xs.take k) ++ [x0] ↔ a ∈ xs) := hid (other_mem xs k x0 (by rw [hx0]; exact List.getElem_mem _))
  have HR0 := hid hr0
  have HGo := hid hgo
  clear hx0 hr0 hgo
  subst hax
  clear hnx
  go_upto_region 9 with fail
  rw [HW2.out]
  clear HW2 q1 q2 q3 q4 q5 q6 q7 hZ
  have HD := elems_drop (HX.out.below HB2.out) (by rw [← Hn.out]; exact hcx') (fun e => by cases e) k (by rw [← Hn.out]; omega)
  have HD := hid HD
  have HTk := hid (elems_take (HX.out.below HB2.out) k)
  have HTL : Hid ((xs.take k).length = k) := hid (by rw [List.length_take, ← Hn.out]; omega)
  have HDL : Hid ((xs.drop k).length = n - k) := hid (by rw [List.length_drop, ← Hn.out])
  go_cut [10] from 45 (fun s10 wx => ∃ g c : Nat, s10 = .slice (some ⟨g, 0, none⟩) (n + 1) c ∧ n + 1 ≤ c ∧ Hid (Elems encP 18 wx.heap.size wx (some ⟨g, 0, none⟩) ((xs.drop k ++ xs.take k) ++ [x0])) ∧ Hid (Below W2.heap.size W2 wx))
  case first =>
    have hw2 := HB2.out.size
    refine wp_region_held_drew (S := fun V => Below W2.heap.size W2.drew V) (by kernel_rfl) (Below.refl _ _) (fun hS => ?_)
    change wpAnyH _ _ _ _ _ 15 #[false, false, false, false, false, false, false, false, false, false, false, false, false, false, false] _ _
    refine wpAnyH_take (i := 1) (v := .slice (some ⟨go, oo, none⟩) n cx) rfl (by kernel_rfl) (by kernel_rfl) (by kernel_rfl) (fun _ _ _ h => h) (.inl ⟨by kernel_rfl, fun V hV => by unfold execOp; go_simp; try (intro h; omega)⟩) hS ?_
    simp only [List.getElem_toArray, List.getElem_cons_zero, List.getElem_cons_succ, Act.put, List.setIfInBounds_toArray, List.set_cons_zero, List.set_cons_succ]
    refine wpAnyH_take (i := 2) (v := .int .i64 (k : Int)) rfl (by kernel_rfl) (by kernel_rfl) (by kernel_rfl) (fun _ _ _ h => h) (.inl ⟨by kernel_rfl, fun V hV => by unfold execOp; go_simp; try (intro h; omega)⟩) hS ?_
    simp only [List.getElem_toArray, List.getElem_cons_zero, List.getElem_cons_succ, Act.put, List.setIfInBounds_toArray, List.set_cons_zero, List.set_cons_succ]
    refine wpAnyH_take (i := 3) (v := .slice (cutK (some ⟨go, oo, none⟩) cx k) (n - k) (cx - k)) rfl (by kernel_rfl) (by kernel_rfl) (by kernel_rfl) (fun _ _ _ h => h) (.inl ⟨by kernel_rfl, fun V hV => exec_cutLK (.tmp 46) (.tmp 47) rfl (some ⟨go, oo, none⟩) n cx k rfl rfl (by omega)⟩) hS ?_
    simp only [List.getElem_toArray, List.getElem_cons_zero, List.getElem_cons_succ, Act.put, List.setIfInBounds_toArray, List.set_cons_zero, List.set_cons_succ]
    refine wpAnyH_take (i := 5) (v := .slice (some ⟨go, oo, none⟩) n cx) rfl (by kernel_rfl) (by kernel_rfl) (by kernel_rfl) (fun _ _ _ h => h) (.inl ⟨by kernel_rfl, fun V hV => by unfold execOp; go_simp; try (intro h; omega)⟩) hS ?_
    simp only [List.getElem_toArray, List.getElem_cons_zero, List.getElem_cons_succ, Act.put, List.setIfInBounds_toArray, List.set_cons_zero, List.set_cons_succ]
    refine wpAnyH_take (i := 6) (v := .int .i64 (k : Int)) rfl (by kernel_rfl) (by kernel_rfl) (by kernel_rfl) (fun _ _ _ h => h) (.inl ⟨by kernel_rfl, fun V hV => by unfold execOp; go_simp; try (intro h; omega)⟩) hS ?_
    simp only [List.getElem_toArray, List.getElem_cons_zero, List.getElem_cons_succ, Act.put, List.setIfInBounds_toArray, List.set_cons_zero, List.set_cons_succ]
    refine wpAnyH_take (i := 7) (v := .slice (some ⟨go, oo, none⟩) k cx) rfl (by kernel_rfl) (by kernel_rfl) (by kernel_rfl) (fun _ _ _ h => h) (.inl ⟨by kernel_rfl, fun V hV => exec_cutHK (.tmp 50) (.tmp 51) rfl (some ⟨go, oo, none⟩) n cx k rfl rfl (by omega)⟩) hS ?_
    simp only [List.getElem_toArray, List.getElem_cons_zero, List.getElem_cons_succ, Act.put, List.setIfInBounds_toArray, List.set_cons_zero, List.set_cons_succ]
    refine wpAnyH_take (i := 9) (v := .slice (some ⟨go, oo, none⟩) n cx) rfl (by kernel_rfl) (by kernel_rfl) (by kernel_rfl) (fun _ _ _ h => h) (.inl ⟨by kernel_rfl, fun V hV => by unfold execOp; go_simp; try (intro h; omega)⟩) hS ?_
    simp only [List.getElem_toArray, List.getElem_cons_zero, List.getElem_cons_succ, Act.put, List.setIfInBounds_toArray, List.set_cons_zero, List.set_cons_succ]
    refine wpAnyH_take (i := 10) (v := .pointer (some ⟨go, oo, none⟩)) rfl (by kernel_rfl) (by kernel_rfl) (by kernel_rfl) (fun _ _ _ h => h) (.inl ⟨by kernel_rfl, fun V hV => by unfold execOp; go_simp; try (intro h; omega)⟩) hS ?_
    simp only [List.getElem_toArray, List.getElem_cons_zero, List.getElem_cons_succ, Act.put, List.setIfInBounds_toArray, List.set_cons_zero, List.set_cons_succ]
    refine wpAnyH_take (i := 11) (v := .agg (encP x0)) rfl (by kernel_rfl) (by kernel_rfl) (by kernel_rfl) (fun _ _ _ h => h) (yieldsIf_load_mid (by kernel_rfl) 36 (.tmp 55) rfl go oo rfl (encPL x0) _ (fun V hV => rangeAt_below ((HB2.out.drew).trans (hV.mono hw2)) HGo.out HR0.out) Tryd.underlying36 rfl (encPL_info0 x0)) hS ?_
    simp only [List.getElem_toArray, List.getElem_cons_zero, List.getElem_cons_succ, Act.put, List.setIfInBounds_toArray, List.set_cons_zero, List.set_cons_succ]
    refine wpAnyH_ready (rs := [0, 12]) (by kernel_rfl) (by simp) ?_
    refine AllReadyH.cons rfl (fun K' hK => ?_) (AllReadyH.cons rfl (fun K' hK => ?_) AllReadyH.nil)
    ·
      refine r_lit0 rfl W2.heap.size (by first | exact Nat.le_refl _ | exact hS.size) (by kernel_rfl) (fun A hoA hzA hgA => hK.out _ _ (hS.grown hgA (by first | exact Nat.le_refl _ | exact hS.size) (fun k e => by cases e)) (fun hS => ?_))
      simp only [List.getElem_toArray, List.getElem_cons_zero, List.getElem_cons_succ, Act.put, List.setIfInBounds_toArray, List.set_cons_zero, List.set_cons_succ]
      refine wpAnyH_ready (rs := [4, 12]) (by kernel_rfl) (by simp) ?_
      refine AllReadyH.cons rfl (fun K' hK => ?_) (AllReadyH.cons rfl (fun K' hK => ?_) AllReadyH.nil)
      ·
        have own0 := hoA
        refine r_appL (.tmp 45) (.tmp 48) rfl W2.heap.size _ 0 (flatY encP []) rfl own0 (cutK (some ⟨go, oo, none⟩) cx k) (n - k) (cx - k) (xs.drop k) rfl HDL.out w.heap.size (HD.out.1.below (show Below w.heap.size W2 _ from (Below.refl _ _).drew.trans (hS.mono hw2))) (fun e => by have := HD.out.2 e; have := Hn.out; omega) (by omega) (by omega) hS.size (by kernel_rfl) (fun g1 cap1 w1 h1 q1 hg1 => hK.out _ _ (hS.grown q1 (by first | exact Nat.le_refl _ | exact hS.size) (fun k e => own_block_le own0 e)) (fun hS => ?_))
        simp only [List.getElem_toArray, List.getElem_cons_zero, List.getElem_cons_succ, Act.put, List.setIfInBounds_toArray, List.set_cons_zero, List.set_cons_succ]
        refine wpAnyH_ready (rs := [8, 12]) (by kernel_rfl) (by simp) ?_
        refine AllReadyH.cons rfl (fun K' hK => ?_) (AllReadyH.cons rfl (fun K' hK => ?_) AllReadyH.nil)
        ·
          have own1 := h1
          refine r_appK (.tmp 49) (.tmp 52) rfl W2.heap.size _ _ _ rfl own1 (some ⟨go, oo, none⟩) k cx (xs.take k) rfl HTL.out w.heap.size (HTk.out.below (show Below w.heap.size W2 _ from (Below.refl _ _).drew.trans (hS.mono hw2))) (fun e => by cases e) (by omega) hS.size (by kernel_rfl) (fun v2 w2' h2 q2 => hK.out _ _ (hS.grown q2 (by first | exact Nat.le_refl _ | exact hS.size) (fun k e => own_block_le own1 e)) (fun hS => ?_))
          simp only [List.getElem_toArray, List.getElem_cons_zero, List.getElem_cons_succ, Act.put, List.setIfInBounds_toArray, List.set_cons_zero, List.set_cons_succ]
          refine wpAnyH_ready (rs := [12]) (by kernel_rfl) (by simp) ?_
          refine AllReadyH.cons rfl (fun K' hK => ?_) AllReadyH.nil
          refine r_lit1 (.tmp 56) rfl x0 rfl (by kernel_rfl) (fun C hlC hzC hgC => hK.out _ _ (hS.grown hgC (by first | exact Nat.le_refl _ | exact hS.size) (fun k e => by cases e)) (fun hS => ?_))
          simp only [List.getElem_toArray, List.getElem_cons_zero, List.getElem_cons_succ, Act.put, List.setIfInBounds_toArray, List.set_cons_zero, List.set_cons_succ]
          refine wpAnyH_ready (rs := [13]) (by kernel_rfl) (by simp) ?_
          refine AllReadyH.cons rfl (fun K' hK => ?_) AllReadyH.nil
          have own2 := ownsRow_below h2 (grown_belowP hgC)
          have lit1 := hlC
          refine r_appK (.tmp 53) (.tmp 57) rfl W2.heap.size v2 _ _ rfl own2 _ 1 1 [x0] rfl rfl _ lit1 (fun e => by cases e) (by omega) hS.size (by kernel_rfl) (fun v3 w3' h3 q3 => ?_)
          have h4 : w3'.ownsRow W2.heap.size 36 18 v3 (n + 1) (flatY encP ((xs.drop k ++ xs.take k) ++ [x0])) := by
            rw [flat_append, flat_append, show n + 1 = 0 + (n - k) + k + 1 by omega]
            simpa [flatY] using h3
          obtain ⟨_, g', cap', rfl, hc9, _, hel9⟩ := own_shapeP h4 (by omega)
          refine hK.out _ _ (hS.grown q3 (by first | exact Nat.le_refl _ | exact hS.size) (fun k e => own_block_le own2 e)) (fun hS => ?_)
          simp only [List.getElem_toArray, List.getElem_cons_zero, List.getElem_cons_succ, Act.put, List.setIfInBounds_toArray, List.set_cons_zero, List.set_cons_succ]
          refine wpAnyH_take (i := 14) (v := .slice (some ⟨g', 0, none⟩) (n + 1) cap') rfl (by kernel_rfl) (by kernel_rfl) (by kernel_rfl) (fun _ _ _ h => h) (.inl ⟨by kernel_rfl, fun V hV => by unfold execOp; go_simp; try (intro h; omega)⟩) hS ?_
          simp only [List.getElem_toArray, List.getElem_cons_zero, List.getElem_cons_succ, Act.put, List.setIfInBounds_toArray, List.set_cons_zero, List.set_cons_succ]
          refine wpAnyH_done (by kernel_rfl) ?_ _
          have HEl9 := hid hel9
          have HB9 : Hid (Below W2.heap.size W2 w3') := hid ((Below.refl _ _).drew.trans hS)
          clear hS h4 h3 own2 own1 own0 lit1 hel9
          go_wp2
          go_meet
          case rel => exact ⟨g', cap', rfl, hc9, HEl9, HB9⟩
        ·
          refine r_lit1 (.tmp 56) rfl x0 rfl (by kernel_rfl) (fun C hlC hzC hgC => hK.out _ _ (hS.grown hgC (by first | exact Nat.le_refl _ | exact hS.size) (fun k e => by cases e)) (fun hS => ?_))
          simp only [List.getElem_toArray, List.getElem_cons_zero, List.getElem_cons_succ, Act.put, List.setIfInBounds_toArray, List.set_cons_zero, List.set_cons_succ]
          refine wpAnyH_ready (rs := [8]) (by kernel_rfl) (by simp) ?_
          refine AllReadyH.cons rfl (fun K' hK => ?_) AllReadyH.nil
          have own1 := ownsRow_below h1 (grown_belowP hgC)
          refine r_appK (.tmp 49) (.tmp 52) rfl W2.heap.size _ _ _ rfl own1 (some ⟨go, oo, none⟩) k cx (xs.take k) rfl HTL.out w.heap.size (HTk.out.below (show Below w.heap.size W2 _ from (Below.refl _ _).drew.trans (hS.mono hw2))) (fun e => by cases e) (by omega) hS.size (by kernel_rfl) (fun v2 w2' h2 q2 => hK.out _ _ (hS.grown q2 (by first | exact Nat.le_refl _ | exact hS.size) (fun k e => own_block_le own1 e)) (fun hS => ?_))
          simp only [List.getElem_toArray, List.getElem_cons_zero, List.getElem_cons_succ, Act.put, List.setIfInBounds_toArray, List.set_cons_zero, List.set_cons_succ]
          refine wpAnyH_ready (rs := [13]) (by kernel_rfl) (by simp) ?_
          refine AllReadyH.cons rfl (fun K' hK => ?_) AllReadyH.nil
          have own2 := h2
          have lit1 := elems_grown hlC (by omega) q2 (fun e => absurd (own_lt h1 e.symm) (Nat.lt_irrefl _))
          refine r_appK (.tmp 53) (.tmp 57) rfl W2.heap.size v2 _ _ rfl own2 _ 1 1 [x0] rfl rfl _ lit1 (fun e => by cases e) (by omega) hS.size (by kernel_rfl) (fun v3 w3' h3 q3 => ?_)
          have h4 : w3'.ownsRow W2.heap.size 36 18 v3 (n + 1) (flatY encP ((xs.drop k ++ xs.take k) ++ [x0])) := by
            rw [flat_append, flat_append, show n + 1 = 0 + (n - k) + k + 1 by omega]
            simpa [flatY] using h3
          obtain ⟨_, g', cap', rfl, hc9, _, hel9⟩ := own_shapeP h4 (by omega)
          refine hK.out _ _ (hS.grown q3 (by first | exact Nat.le_refl _ | exact hS.size) (fun k e => own_block_le own2 e)) (fun hS => ?_)
          simp only [List.getElem_toArray, List.getElem_cons_zero, List.getElem_cons_succ, Act.put, List.setIfInBounds_toArray, List.set_cons_zero, List.set_cons_succ]
          refine wpAnyH_take (i := 14) (v := .slice (some ⟨g', 0, none⟩) (n + 1) cap') rfl (by kernel_rfl) (by kernel_rfl) (by kernel_rfl) (fun _ _ _ h => h) (.inl ⟨by kernel_rfl, fun V hV => by unfold execOp; go_simp; try (intro h; omega)⟩) hS ?_
          simp only [List.getElem_toArray, List.getElem_cons_zero, List.getElem_cons_succ, Act.put, List.setIfInBounds_toArray, List.set_cons_zero, List.set_cons_succ]
          refine wpAnyH_done (by kernel_rfl) ?_ _
          have HEl9 := hid hel9
          have HB9 : Hid (Below W2.heap.size W2 w3') := hid ((Below.refl _ _).drew.trans hS)
          clear hS h4 h3 own2 own1 own0 lit1 hel9
          go_wp2
          go_meet
          case rel => exact ⟨g', cap', rfl, hc9, HEl9, HB9⟩
      ·
        refine r_lit1 (.tmp 56) rfl x0 rfl (by kernel_rfl) (fun B hlB hzB hgB => hK.out _ _ (hS.grown hgB (by first | exact Nat.le_refl _ | exact hS.size) (fun k e => by cases e)) (fun hS => ?_))
        simp only [List.getElem_toArray, List.getElem_cons_zero, List.getElem_cons_succ, Act.put, List.setIfInBounds_toArray, List.set_cons_zero, List.set_cons_succ]
        refine wpAnyH_ready (rs := [4]) (by kernel_rfl) (by simp) ?_
        refine AllReadyH.cons rfl (fun K' hK => ?_) AllReadyH.nil
        have own0 := ownsRow_below hoA (grown_belowP hgB)
        refine r_appL (.tmp 45) (.tmp 48) rfl W2.heap.size _ 0 (flatY encP []) rfl own0 (cutK (some ⟨go, oo, none⟩) cx k) (n - k) (cx - k) (xs.drop k) rfl HDL.out w.heap.size (HD.out.1.below (show Below w.heap.size W2 _ from (Below.refl _ _).drew.trans (hS.mono hw2))) (fun e => by have := HD.out.2 e; have := Hn.out; omega) (by omega) (by omega) hS.size (by kernel_rfl) (fun g1 cap1 w1 h1 q1 hg1 => hK.out _ _ (hS.grown q1 (by first | exact Nat.le_refl _ | exact hS.size) (fun k e => own_block_le own0 e)) (fun hS => ?_))
        simp only [List.getElem_toArray, List.getElem_cons_zero, List.getElem_cons_succ, Act.put, List.setIfInBounds_toArray, List.set_cons_zero, List.set_cons_succ]
        refine wpAnyH_ready (rs := [8]) (by kernel_rfl) (by simp) ?_
        refine AllReadyH.cons rfl (fun K' hK => ?_) AllReadyH.nil
        have own1 := h1
        refine r_appK (.tmp 49) (.tmp 52) rfl W2.heap.size _ _ _ rfl own1 (some ⟨go, oo, none⟩) k cx (xs.take k) rfl HTL.out w.heap.size (HTk.out.below (show Below w.heap.size W2 _ from (Below.refl _ _).drew.trans (hS.mono hw2))) (fun e => by cases e) (by omega) hS.size (by kernel_rfl) (fun v2 w2' h2 q2 => hK.out _ _ (hS.grown q2 (by first | exact Nat.le_refl _ | exact hS.size) (fun k e => own_block_le own1 e)) (fun hS => ?_))
        simp only [List.getElem_toArray, List.getElem_cons_zero, List.getElem_cons_succ, Act.put, List.setIfInBounds_toArray, List.set_cons_zero, List.set_cons_succ]
        refine wpAnyH_ready (rs := [13]) (by kernel_rfl) (by simp) ?_
        refine AllReadyH.cons rfl (fun K' hK => ?_) AllReadyH.nil
        have own2 := h2
        have lit1 := elems_grown (elems_grown hlB (by omega) q1 (fun e => absurd (Option.some.inj (show some A.heap.size = some W2.drew.heap.size from e)) (by omega))) (by have := q1.size; omega) q2 (fun e => by
          have e1 := Option.some.inj (show some A.heap.size = some g1 from e)
          rcases hg1 with hh | hh
          · have := Option.some.inj (show some W2.drew.heap.size = some g1 from hh); omega
          · omega)
        refine r_appK (.tmp 53) (.tmp 57) rfl W2.heap.size v2 _ _ rfl own2 _ 1 1 [x0] rfl rfl _ lit1 (fun e => by cases e) (by omega) hS.size (by kernel_rfl) (fun v3 w3' h3 q3 => ?_)
        have h4 : w3'.ownsRow W2.heap.size 36 18 v3 (n + 1) (flatY encP ((xs.drop k ++ xs.take k) ++ [x0])) := by
          rw [flat_append, flat_append, show n + 1 = 0 + (n - k) + k + 1 by omega]
          simpa [flatY] using h3
        obtain ⟨_, g', cap', rfl, hc9, _, hel9⟩ := own_shapeP h4 (by omega)
        refine hK.out _ _ (hS.grown q3 (by first | exact Nat.le_refl _ | exact hS.size) (fun k e => own_block_le own2 e)) (fun hS => ?_)
        simp only [List.getElem_toArray, List.getElem_cons_zero, List.getElem_cons_succ, Act.put, List.setIfInBounds_toArray, List.set_cons_zero, List.set_cons_succ]
        refine wpAnyH_take (i := 14) (v := .slice (some ⟨g', 0, none⟩) (n + 1) cap') rfl (by kernel_rfl) (by kernel_rfl) (by kernel_rfl) (fun _ _ _ h => h) (.inl ⟨by kernel_rfl, fun V hV => by unfold execOp; go_simp; try (intro h; omega)⟩) hS ?_
        simp only [List.getElem_toArray, List.getElem_cons_zero, List.getElem_cons_succ, Act.put, List.setIfInBounds_toArray, List.set_cons_zero, List.set_cons_succ]
        refine wpAnyH_done (by kernel_rfl) ?_ _
        have HEl9 := hid hel9
        have HB9 : Hid (Below W2.heap.size W2 w3') := hid ((Below.refl _ _).drew.trans hS)
        clear hS h4 h3 own2 own1 own0 lit1 hel9
        go_wp2
        go_meet
        case rel => exact ⟨g', cap', rfl, hc9, HEl9, HB9⟩
    ·
      refine r_lit1 (.tmp 56) rfl x0 rfl (by kernel_rfl) (fun A hlA hzA hgA => hK.out _ _ (hS.grown hgA (by first | exact Nat.le_refl _ | exact hS.size) (fun k e => by cases e)) (fun hS => ?_))
      simp only [List.getElem_toArray, List.getElem_cons_zero, List.getElem_cons_succ, Act.put, List.setIfInBounds_toArray, List.set_cons_zero, List.set_cons_succ]
      refine wpAnyH_ready (rs := [0]) (by kernel_rfl) (by simp) ?_
      refine AllReadyH.cons rfl (fun K' hK => ?_) AllReadyH.nil
      refine r_lit0 rfl W2.heap.size (by first | exact Nat.le_refl _ | exact hS.size) (by kernel_rfl) (fun B hoB hzB hgB => hK.out _ _ (hS.grown hgB (by first | exact Nat.le_refl _ | exact hS.size) (fun k e => by cases e)) (fun hS => ?_))
      simp only [List.getElem_toArray, List.getElem_cons_zero, List.getElem_cons_succ, Act.put, List.setIfInBounds_toArray, List.set_cons_zero, List.set_cons_succ]
      refine wpAnyH_ready (rs := [4]) (by kernel_rfl) (by simp) ?_
      refine AllReadyH.cons rfl (fun K' hK => ?_) AllReadyH.nil
      have own0 := hoB
      refine r_appL (.tmp 45) (.tmp 48) rfl W2.heap.size _ 0 (flatY encP []) rfl own0 (cutK (some ⟨go, oo, none⟩) cx k) (n - k) (cx - k) (xs.drop k) rfl HDL.out w.heap.size (HD.out.1.below (show Below w.heap.size W2 _ from (Below.refl _ _).drew.trans (hS.mono hw2))) (fun e => by have := HD.out.2 e; have := Hn.out; omega) (by omega) (by omega) hS.size (by kernel_rfl) (fun g1 cap1 w1 h1 q1 hg1 => hK.out _ _ (hS.grown q1 (by first | exact Nat.le_refl _ | exact hS.size) (fun k e => own_block_le own0 e)) (fun hS => ?_))
      simp only [List.getElem_toArray, List.getElem_cons_zero, List.getElem_cons_succ, Act.put, List.setIfInBounds_toArray, List.set_cons_zero, List.set_cons_succ]
      refine wpAnyH_ready (rs := [8]) (by kernel_rfl) (by simp) ?_
      refine AllReadyH.cons rfl (fun K' hK => ?_) AllReadyH.nil
      have own1 := h1
      refine r_appK (.tmp 49) (.tmp 52) rfl W2.heap.size _ _ _ rfl own1 (some ⟨go, oo, none⟩) k cx (xs.take k) rfl HTL.out w.heap.size (HTk.out.below (show Below w.heap.size W2 _ from (Below.refl _ _).drew.trans (hS.mono hw2))) (fun e => by cases e) (by omega) hS.size (by kernel_rfl) (fun v2 w2' h2 q2 => hK.out _ _ (hS.grown q2 (by first | exact Nat.le_refl _ | exact hS.size) (fun k e => own_block_le own1 e)) (fun hS => ?_))
      simp only [List.getElem_toArray, List.getElem_cons_zero, List.getElem_cons_succ, Act.put, List.setIfInBounds_toArray, List.set_cons_zero, List.set_cons_succ]
      refine wpAnyH_ready (rs := [13]) (by kernel_rfl) (by simp) ?_
      refine AllReadyH.cons rfl (fun K' hK => ?_) AllReadyH.nil
      have own2 := h2
      have lit1 := elems_grown (elems_grown (elems_grown hlA (by omega) hgB (fun e => by cases e)) (by omega) q1 (fun e => absurd (Option.some.inj (show some W2.drew.heap.size = some A.heap.size from e)) (by omega))) (by have := q1.size; omega) q2 (fun e => by
        have e1 := Option.some.inj (show some W2.drew.heap.size = some g1 from e)
        rcases hg1 with hh | hh
        · have := Option.some.inj (show some A.heap.size = some g1 from hh); omega
        · omega)
      refine r_appK (.tmp 53) (.tmp 57) rfl W2.heap.size v2 _ _ rfl own2 _ 1 1 [x0] rfl rfl _ lit1 (fun e => by cases e) (by omega) hS.size (by kernel_rfl) (fun v3 w3' h3 q3 => ?_)
      have h4 : w3'.ownsRow W2.heap.size 36 18 v3 (n + 1) (flatY encP ((xs.drop k ++ xs.take k) ++ [x0])) := by
        rw [flat_append, flat_append, show n + 1 = 0 + (n - k) + k + 1 by omega]
        simpa [flatY] using h3
      obtain ⟨_, g', cap', rfl, hc9, _, hel9⟩ := own_shapeP h4 (by omega)
      refine hK.out _ _ (hS.grown q3 (by first | exact Nat.le_refl _ | exact hS.size) (fun k e => own_block_le own2 e)) (fun hS => ?_)
      simp only [List.getElem_toArray, List.getElem_cons_zero, List.getElem_cons_succ, Act.put, List.setIfInBounds_toArray, List.set_cons_zero, List.set_cons_succ]
      refine wpAnyH_take (i := 14) (v := .slice (some ⟨g', 0, none⟩) (n + 1) cap') rfl (by kernel_rfl) (by kernel_rfl) (by kernel_rfl) (fun _ _ _ h => h) (.inl ⟨by kernel_rfl, fun V hV => by unfold execOp; go_simp; try (intro h; omega)⟩) hS ?_
      simp only [List.getElem_toArray, List.getElem_cons_zero, List.getElem_cons_succ, Act.put, List.setIfInBounds_toArray, List.set_cons_zero, List.set_cons_succ]
      refine wpAnyH_done (by kernel_rfl) ?_ _
      have HEl9 := hid hel9
      have HB9 : Hid (Below W2.heap.size W2 w3') := hid ((Below.refl _ _).drew.trans hS)
      clear hS h4 h3 own2 own1 own0 lit1 hel9
      go_wp2
      go_meet
      case rel => exact ⟨g', cap', rfl, hc9, HEl9, HB9⟩
  case rest =>
  obtain ⟨g, c, rfl, hc, HEl, HBx⟩ := hcut
  obtain ⟨ys, hys⟩ : ∃ ys, ys = (xs.drop k ++ xs.take k) ++ [x0] := ⟨_, rfl⟩
  have hyl : ys.length = n + 1 := by
    rw [hys, List.length_append, List.length_append, HTL.out, HDL.out]
    simp only [List.length_cons, List.length_nil]
    omega
  obtain ⟨hps, hfe⟩ := HPs.out ys (by rw [hys]; exact HMem.out)
  rw [← hys] at HEl
  have HBw : Hid (Below w.heap.size w wc) := hid (HB2.out.trans (HBx.out.mono HB2.out.size))
  have HFill : Hid (Calls Tryd.prog 6 #[.slice (some ⟨g, 0, none⟩) (n + 1) c, .int .i64 M] wc (FillEnd E ys M wc)) := hid (by
    rw [← hyl]
    exact HF2.out wc g c ys (by omega) (by omega) HBw.out HEl.out)
  have Hfe := hid hfe
  have Hps := hid hps
  clear hyl hys hps hfe HF2 HPs HMem HTL HDL HTk HD HR0 HGo HEl
  go_wp2_with fail
  refine HFill.out.mono ?_
  intro e w3 hf
  obtain ⟨hb3, hf⟩ := hf.tab
  rcases hf with ⟨h0, _⟩ | ⟨_, M', ab', cap', S', hM', _, _, _, _, he2, hT2⟩
  · exact absurd Hfe.out h0
  obtain rfl : M = M' := by omega
  rw [Hps.out, HL.out] at he2 hT2
  subst he2
  have Hb3 := hid (bel2 HBw.out hb3)
  have HT3 := hid ((HT2.out.kept HBx.out).kept hb3)
  have K3 := hid ((K2.out.kept HBx.out).kept hb3)
  clear hM' hb3 HFill Hfe Hps HT2 K2 HBx HBw
  obtain ⟨W4, hW4⟩ : ∃ W, W = w3.alloc (.cells #[.int .i64 (M : Int), .slice ab' bs.length cap', .slice (some ⟨S', 0, none⟩) L.length M] 26) := ⟨_, rfl⟩
  have HW4 := hid hW4.symm
  have b4 : Below w3.heap.size w3 W4 := hW4 ▸ (Below.refl _ _).alloc (Nat.le_refl _) _
  have K4 : Hid (Blk W4 w3.heap.size 26 #[.int .i64 (M : Int), .slice ab' bs.length cap', .slice (some ⟨S', 0, none⟩) L.length M]) := hid (hW4 ▸ Blk.new w3 _ _)
  have J4 := hid (K3.out.kept b4)
  have HB4 := hid (bel2 Hb3.out b4)
  have HT4 := hid (HT3.out.kept b4)
  have HU4 := hid (hT2.kept b4)
  clear hW4 b4 hT2 K3 HT3
  have hl5 : L.length ≤ 100000 := by rw [HLM.out]; omega
  have hb5 : bs.length ≤ 100000 := by rw [← Hbb.out]; omega
  have HSame : Hid (Calls Tryd.prog 7 #[.agg #[.int .i64 (M : Int), .slice ab bs.length cap, .slice (some ⟨S, 0, none⟩) L.length M], .agg #[.int .i64 (M : Int), .slice ab' bs.length cap', .slice (some ⟨S', 0, none⟩) L.length M]] W4 fun e w' => e = .returned (.bool true) ∧ Below W4.heap.size W4 w') := hid (by
    have := same_tabs M M bs bs L L ab ab' (some ⟨S, 0, none⟩) (some ⟨S', 0, none⟩) cap cap' M M hl5 hb5 W4 HT4.out HU4.out
    rw [show sameT (M : Int) M bs bs L L = true by simp [sameT]] at this
    exact this)
  have HMov : Hid (∀ W, Below W4.heap.size W4 W → Calls Tryd.prog 8 #[.agg #[.int .i64 (M : Int), .slice ab bs.length cap, .slice (some ⟨S, 0, none⟩) L.length M], .agg #[.int .i64 (M : Int), .slice ab' bs.length cap', .slice (some ⟨S', 0, none⟩) L.length M]] W fun e w' => e = .returned (.int .i64 0) ∧ Below W.heap.size W w') := hid (fun W hb => by
    have := moved_any M M bs bs L L ab ab' (some ⟨S, 0, none⟩) (some ⟨S', 0, none⟩) cap cap' M M hl5 hl5 hb5 hb5 W (HT4.out.kept hb) (HU4.out.kept hb)
    rw [mov_self] at this
    exact this)
  have HCnt : Hid (∀ W, Below W4.heap.size W4 W → Calls Tryd.prog 9 #[.agg #[.int .i64 (M : Int), .slice ab bs.length cap, .slice (some ⟨S, 0, none⟩) L.length M]] W fun e w' => ∃ C, e = .returned (.slice (some ⟨C, 0, none⟩) bs.length bs.length) ∧ W.heap.size ≤ C ∧ SlotB w' C (countsT bs.length L) ∧ Below W.heap.size W w') := hid (fun W hb => counts_any M bs L ab (some ⟨S, 0, none⟩) cap M hl5 hb5 W (HT4.out.kept hb))
  have HAt : Hid (∀ (p : Nat) W, p < M → Below W4.heap.size W4 W → ∃ (h : Nat) (x : PS), Hid (L.getD p 0 = (h : Int) ∧ bs[h]? = some x) ∧ h < bs.length ∧ Hid (Calls Tryd.prog 10 #[.agg #[.int .i64 (M : Int), .slice ab bs.length cap, .slice (some ⟨S, 0, none⟩) L.length M], .int .i64 p] W fun e w' => e = .returned (.tuple #[.agg (encP x), .bool true]) ∧ Below W.heap.size W w')) := hid (fun p W hp hb => by
    obtain ⟨⟨h1, h2⟩, h3⟩ := HOw.out p hp
    have hh : (L.getD p 0).toNat < bs.length := by omega
    refine ⟨(L.getD p 0).toNat, bs[(L.getD p 0).toNat]!, hid ⟨by omega, by rw [getElem!_pos bs _ hh, List.getElem?_eq_getElem hh]⟩, hh, hid ?_⟩
    have := at_any M bs L ab (some ⟨S, 0, none⟩) cap M p hl5 hb5 W (HT4.out.kept hb)
    rw [h3] at this
    exact this)
  have HElB : Hid (∀ (h : Nat) x W, bs[h]? = some x → Below W4.heap.size W4 W → ∃ gb ob, ab = some ⟨gb, ob, none⟩ ∧ Hid (W.rangeAt gb (ob + h * 18) (encPL x))) := hid (fun h x W hx hb => by
    obtain ⟨hl, he⟩ := List.getElem?_eq_some_iff.1 hx
    obtain ⟨gb, ob, e1, hg1, hr1⟩ := HT4.out.els h hl
    exact ⟨gb, ob, e1, hid (he ▸ rangeAt_below hb hg1 hr1)⟩)
  have HSl : Hid (∀ p W, p < L.length → Below W4.heap.size W4 W → W.cell? ⟨S, p, none⟩ = some (.int .i64 (L.getD p 0))) := hid (fun p W hp hb => by
    obtain ⟨gs, os, e1, hg1, hc1⟩ := HT4.out.ints p hp
    cases e1
    rw [Nat.zero_add] at hc1
    exact (hb.cell (p := ⟨S, p, none⟩) hg1).trans hc1)
  have hbl0 : 0 < bs.length := by rw [← Hbb.out]; exact hb0
  have hbl24 : bs.length ≤ 24 := by rw [← Hbb.out]; exact hb24
  have HLM1 := HLM
  clear HT4 HU4 HOw HL HFT HX hb0 hb24 hbM
  go_upto_region 11 with fail
  rw [HW4.out]
  have c0 : W4.cell? ⟨w2.heap.size, 0, none⟩ = some (.int .i64 (M : Int)) := J4.out.cell 0
  have c1 : W4.cell? ⟨w2.heap.size, 1, none⟩ = some (.slice ab bs.length cap) := J4.out.cell 1
  have c2 : W4.cell? ⟨w2.heap.size, 2, none⟩ = some (.slice (some ⟨S, 0, none⟩) L.length M) := J4.out.cell 2
  have d0 : W4.cell? ⟨w3.heap.size, 0, none⟩ = some (.int .i64 (M : Int)) := K4.out.cell 0
  have d1 : W4.cell? ⟨w3.heap.size, 1, none⟩ = some (.slice ab' bs.length cap') := K4.out.cell 1
  have d2 : W4.cell? ⟨w3.heap.size, 2, none⟩ = some (.slice (some ⟨S', 0, none⟩) L.length M) := K4.out.cell 2
  go_wp2_with fail
  refine HSame.out.mono ?_
  rintro e w5 ⟨rfl, hb⟩
  have HB5 := hid hb
  clear hb c0 c1 c2 d0 d1 d2
  have c0 : w5.cell? ⟨w2.heap.size, 0, none⟩ = some (.int .i64 (M : Int)) := (J4.out.kept HB5.out).cell 0
  have c1 : w5.cell? ⟨w2.heap.size, 1, none⟩ = some (.slice ab bs.length cap) := (J4.out.kept HB5.out).cell 1
  have c2 : w5.cell? ⟨w2.heap.size, 2, none⟩ = some (.slice (some ⟨S, 0, none⟩) L.length M) := (J4.out.kept HB5.out).cell 2
  have d0 : w5.cell? ⟨w3.heap.size, 0, none⟩ = some (.int .i64 (M : Int)) := (K4.out.kept HB5.out).cell 0
  have d1 : w5.cell? ⟨w3.heap.size, 1, none⟩ = some (.slice ab' bs.length cap') := (K4.out.kept HB5.out).cell 1
  have d2 : w5.cell? ⟨w3.heap.size, 2, none⟩ = some (.slice (some ⟨S', 0, none⟩) L.length M) := (K4.out.kept HB5.out).cell 2
  go_wp2_with fail
  refine (HMov.out _ HB5.out).mono ?_
  rintro e w6 ⟨rfl, hb⟩
  have HB6 := hid (bel2 HB5.out hb)
  clear hb c0 c1 c2 d0 d1 d2
  have c0 : w6.cell? ⟨w2.heap.size, 0, none⟩ = some (.int .i64 (M : Int)) := (J4.out.kept HB6.out).cell 0
  have c1 : w6.cell? ⟨w2.heap.size, 1, none⟩ = some (.slice ab bs.length cap) := (J4.out.kept HB6.out).cell 1
  have c2 : w6.cell? ⟨w2.heap.size, 2, none⟩ = some (.slice (some ⟨S, 0, none⟩) L.length M) := (J4.out.kept HB6.out).cell 2
  go_wp2_with fail
  refine (HCnt.out _ HB6.out).mono ?_
  rintro e w7 ⟨C, rfl, _, hC, hb⟩
  have HB7 := hid (bel2 HB6.out hb)
  have HC := hid hC
  clear hb hC c0 c1 c2
  have HCell : Hid (∀ p, p < bs.length → w7.cell? ⟨C, p, none⟩ = some (.int .i64 (turns bs.length p M : Int))) := hid (fun p hp => by rw [HC.out.cell (by rw [countsT_length]; exact hp), HCt.out p hp])
  obtain ⟨Q1, hQ1⟩ : ∃ Q1, Q1 = M / bs.length := ⟨_, rfl⟩
  obtain ⟨Q2, hQ2⟩ : ∃ Q2, Q2 = (M + bs.length - 1) / bs.length := ⟨_, rfl⟩
  have HSh : Hid (∀ p, p < bs.length → turns bs.length p M = Q1 ∨ turns bs.length p M = Q2) := hid (fun p hp => by rw [hQ1, hQ2]; exact turns_share hp M)
  have HSum : Hid (∀ p, p < bs.length → sumTurns bs.length M (p + 1) = sumTurns bs.length M p + turns bs.length p M ∧ sumTurns bs.length M (p + 1) ≤ M) := hid (fun p hp => ⟨rfl, sumTurns_le hp⟩)
  have HAll : Hid (sumTurns bs.length M bs.length = M) := hid (sumTurns_all hbl0 M)
  have hQ1' := hid hQ1
  have hQ2' := hid hQ2
  have ed : decide ((bs.length : Int) < 1) = false := decide_eq_false (by omega)
  have HFB : Hid (∀ W, Below W4.heap.size W4 W → Below w.heap.size w W) := hid (fun W h => HB4.out.trans (h.mono HB4.out.size))
  have c1 : w7.cell? ⟨w2.heap.size, 1, none⟩ = some (.slice ab bs.length cap) := (J4.out.kept HB7.out).cell 1
  have c2 : w7.cell? ⟨w2.heap.size, 2, none⟩ = some (.slice (some ⟨S, 0, none⟩) L.length M) := (J4.out.kept HB7.out).cell 2
  clear hQ1 hQ2 HSame HMov HCnt HC HCt HW4
  go_wp2_with fail
  go_loopg [13, 94] bs.length (fun gg s13 s94 wr => ∃ p : Nat, s94 = .int .i64 (p : Int) ∧ s13 = .int .i64 (sumTurns bs.length M p : Nat) ∧ p ≤ bs.length ∧ bs.length - p ≤ gg ∧ wr = w7)
  case atStart => exact ⟨0, rfl, rfl, by omega, by omega, rfl⟩
  case round =>
    obtain ⟨p, rfl, rfl, hp, hgp, hwr⟩ := hrel
    rw [hwr]
    clear hwr
    by_cases hlt : p < bs.length
    · have d0 := HCell.out p hlt
      have hsh := HSh.out p hlt
      obtain ⟨hs1, hs2⟩ := HSum.out p hlt
      rw [hs1] at hs2
      have HS1 := hid hs1
      clear hs1
      generalize sumTurns bs.length M p = s0 at *
      generalize turns bs.length p M = tp at *
      by_cases hq : tp = Q1
      · have u1 : ((tp : Int) != (Q1 : Int)) = false := by rw [hq]; simp
        clear hsh hq
        go_upto_region 21 with fail
        refine wp_region_lit ?_
        refine wpl_run (.int .i64 (tp : Int)) w7 (by unfold execOp; go_simp) (by kernel_rfl) ?_
        simp only [Act.put, List.setIfInBounds_toArray, List.set_cons_zero, List.set_cons_succ]
        refine wpl_run (.int .i64 (M : Int)) w7 (by unfold execOp; go_simp) (by kernel_rfl) ?_
        simp only [Act.put, List.setIfInBounds_toArray, List.set_cons_zero, List.set_cons_succ]
        refine wpl_run (.int .i64 (bs.length : Int)) w7 (by unfold execOp; go_simp) (by kernel_rfl) ?_
        simp only [Act.put, List.setIfInBounds_toArray, List.set_cons_zero, List.set_cons_succ]
        refine wpl_run (.int .i64 (Q1 : Int)) w7 (exec_quo _ _ _ _ rfl M bs.length Q1 rfl rfl (by omega) (by omega) hQ1'.out) (by kernel_rfl) ?_
        simp only [Act.put, List.setIfInBounds_toArray, List.set_cons_zero, List.set_cons_succ]
        refine wpl_r2s8 (.bool false) (.bool false) (by unfold execOp; go_simp) (by kernel_rfl) (by kernel_rfl) (by kernel_rfl) (by kernel_rfl) (by kernel_rfl) (by kernel_rfl) (by kernel_rfl) (by kernel_rfl) (by kernel_rfl) (by kernel_rfl) (by kernel_rfl) ?_
        simp only [Act.put, List.setIfInBounds_toArray, List.set_cons_zero, List.set_cons_succ]
        go_wp2
        go_roundg (bs.length - (p + 1))
        case measure => omega
        case rel => exact ⟨p + 1, by go_num, by rw [HS1.out]; go_num, by omega, Nat.le_refl _, rfl⟩
      · have u1 : ((tp : Int) != (Q1 : Int)) = true := by rw [bne_iff_ne]; omega
        have u2 : ((tp : Int) != (Q2 : Int)) = false := by
          rcases hsh with h | h
          · exact absurd h hq
          · rw [h]; simp
        have hw1 : IntKind.i64.wrap ((M : Int) + (bs.length : Int)) = ((M + bs.length : Nat) : Int) := by rw [IntWalk.i64_in _ (by omega)]; omega
        have hw2 : IntKind.i64.wrap (((M + bs.length : Nat) : Int) - 1) = ((M + bs.length - 1 : Nat) : Int) := by rw [IntWalk.i64_in _ (by omega)]; omega
        clear hsh hq
        go_upto_region 21 with fail
        refine wp_region_lit ?_
        refine wpl_run (.int .i64 (tp : Int)) w7 (by unfold execOp; go_simp) (by kernel_rfl) ?_
        simp only [Act.put, List.setIfInBounds_toArray, List.set_cons_zero, List.set_cons_succ]
        refine wpl_run (.int .i64 (M : Int)) w7 (by unfold execOp; go_simp) (by kernel_rfl) ?_
        simp only [Act.put, List.setIfInBounds_toArray, List.set_cons_zero, List.set_cons_succ]
        refine wpl_run (.int .i64 (bs.length : Int)) w7 (by unfold execOp; go_simp) (by kernel_rfl) ?_
        simp only [Act.put, List.setIfInBounds_toArray, List.set_cons_zero, List.set_cons_succ]
        refine wpl_run (.int .i64 (Q1 : Int)) w7 (exec_quo _ _ _ _ rfl M bs.length Q1 rfl rfl (by omega) (by omega) hQ1'.out) (by kernel_rfl) ?_
        simp only [Act.put, List.setIfInBounds_toArray, List.set_cons_zero, List.set_cons_succ]
        refine wpl_run (.bool true) w7 (by unfold execOp; go_simp) (by kernel_rfl) ?_
        simp only [Act.put, List.setIfInBounds_toArray, List.set_cons_zero, List.set_cons_succ]
        refine wpl_run (.bool true) w7 (by unfold execOp; go_simp) (by kernel_rfl) ?_
        simp only [Act.put, List.setIfInBounds_toArray, List.set_cons_zero, List.set_cons_succ]
        refine wpl_run (.int .i64 (tp : Int)) w7 (by unfold execOp; go_simp) (by kernel_rfl) ?_
        simp only [Act.put, List.setIfInBounds_toArray, List.set_cons_zero, List.set_cons_succ]
        refine wpl_run (.int .i64 (M : Int)) w7 (by unfold execOp; go_simp) (by kernel_rfl) ?_
        simp only [Act.put, List.setIfInBounds_toArray, List.set_cons_zero, List.set_cons_succ]
        refine wpl_run (.int .i64 (bs.length : Int)) w7 (by unfold execOp; go_simp) (by kernel_rfl) ?_
        simp only [Act.put, List.setIfInBounds_toArray, List.set_cons_zero, List.set_cons_succ]
        refine wpl_run (.int .i64 ((M + bs.length : Nat) : Int)) w7 (by unfold execOp; go_simp; try exact hw1) (by kernel_rfl) ?_
        simp only [Act.put, List.setIfInBounds_toArray, List.set_cons_zero, List.set_cons_succ]
        refine wpl_run (.int .i64 ((M + bs.length - 1 : Nat) : Int)) w7 (by unfold execOp; go_simp; try exact hw2) (by kernel_rfl) ?_
        simp only [Act.put, List.setIfInBounds_toArray, List.set_cons_zero, List.set_cons_succ]
        refine wpl_run (.int .i64 (bs.length : Int)) w7 (by unfold execOp; go_simp) (by kernel_rfl) ?_
        simp only [Act.put, List.setIfInBounds_toArray, List.set_cons_zero, List.set_cons_succ]
        refine wpl_run (.int .i64 (Q2 : Int)) w7 (exec_quo _ _ _ _ rfl (M + bs.length - 1) bs.length Q2 rfl rfl (by omega) (by omega) hQ2'.out) (by kernel_rfl) ?_
        simp only [Act.put, List.setIfInBounds_toArray, List.set_cons_zero, List.set_cons_succ]
        refine wpl_run (.bool false) w7 (by unfold execOp; go_simp) (by kernel_rfl) ?_
        simp only [Act.put, List.setIfInBounds_toArray, List.set_cons_zero, List.set_cons_succ]
        go_wp2
        go_roundg (bs.length - (p + 1))
        case measure => omega
        case rel => exact ⟨p + 1, by go_num, by rw [HS1.out]; go_num, by omega, Nat.le_refl _, rfl⟩
    · obtain rfl : p = bs.length := by omega
      rw [HAll.out]
      have qL : ((L.length : Int) != (M : Int)) = false := by rw [HLM1.out]; simp
      have hLl : L.length ≤ 251 := by rw [HLM1.out]; omega
      clear HCell HSh HSum HAll hQ1' hQ2'
      go_wp2_with fail
      go_loopg [125] L.length (fun gg s125 wr => ∃ p : Nat, s125 = .int .i64 (p : Int) ∧ p ≤ L.length ∧ L.length - p ≤ gg ∧ Hid (Below w7.heap.size w7 wr))
      case atStart => exact ⟨0, rfl, by omega, by omega, hid (Below.refl _ _)⟩
      case round =>
      obtain ⟨p, rfl, hp, hgp, HBe⟩ := hrel
      by_cases hlt : p < L.length
      · have hbe : Below W4.heap.size W4 wr := bel2 HB7.out HBe.out
        obtain ⟨h, x, HX1, hh, HAtp⟩ := HAt.out p wr (by rw [← HLM1.out]; exact hlt) hbe
        have d0 := HSl.out p wr hlt hbe
        rw [HX1.out.1] at d0
        obtain ⟨gb, ob, eab, _⟩ := HElB.out h x wr HX1.out.2 hbe
        have c0 : wr.cell? ⟨w2.heap.size, 0, none⟩ = some (.int .i64 (M : Int)) := (J4.out.kept hbe).cell 0
        have c1 : wr.cell? ⟨w2.heap.size, 1, none⟩ = some (.slice ab bs.length cap) := (J4.out.kept hbe).cell 1
        have c2 : wr.cell? ⟨w2.heap.size, 2, none⟩ = some (.slice (some ⟨S, 0, none⟩) L.length M) := (J4.out.kept hbe).cell 2
        have Hbe := hid hbe
        have Heab := hid eab
        have HSx := hid (encP_size x)
        clear hbe eab
        go_wp2_with fail
        refine HAtp.out.mono ?_
        rintro e w8 ⟨rfl, hb⟩
        obtain ⟨V, hV⟩ : ∃ V, V = w8.alloc (.cells (encP x) 36) := ⟨_, rfl⟩
        have HV := hid hV.symm
        have HBV : Hid (Below w7.heap.size w7 V) := hid (hV ▸ (HBe.out.trans (hb.mono HBe.out.size)).alloc (Nat.le_trans HBe.out.size hb.size) _)
        have HKv : Hid (Blk V w8.heap.size 36 (encP x)) := hid (hV ▸ Blk.new w8 _ _)
        have HW4V : Hid (Below W4.heap.size W4 V) := hid (bel2 HB7.out HBV.out)
        have JV := hid (J4.out.kept HW4V.out)
        have HRX : Hid (∀ Y, Below V.heap.size V Y → Y.rangeAt gb (ob + h * 18) (encPL x)) := hid (fun Y hy => by
          obtain ⟨gb', ob', e', hr'⟩ := HElB.out h x Y HX1.out.2 (bel2 HW4V.out hy)
          rw [Heab.out] at e'
          cases e'
          exact hr'.out)
        rw [Heab.out] at JV
        clear hb hV c0 c1 c2 d0
        go_upto_region 31 with ((show wpList _ _ _ (⟨none, _, _, _, _, _⟩ :: _) _ _); go_must (refine wpl_storeN (.tmp 19) (.tmp 134) rfl _ rfl rfl x rfl rfl ?_))
        rw [HV.out]
        have heq := neq_pt x x
        rw [decide_eq_true (rfl : x = x)] at heq
        refine wp_region_held_drew (S := fun Y => Below V.heap.size V Y) (by kernel_rfl) (below_drewN V 1) (fun hS => ?_)
        change wpAnyH _ _ _ _ _ 20 #[false, false, false, false, false, false, false, false, false, false, false, false, false, false, false, false, false, false, false, false] _ _
        refine wpAnyH_take (i := 0) (v := .bool true) rfl (by kernel_rfl) (by kernel_rfl) (by kernel_rfl) (fun _ _ _ h => h) (.inl ⟨by kernel_rfl, fun V hV => by unfold execOp; go_simp; try (first | omega | (intro h; omega))⟩) hS ?_
        simp only [List.getElem_toArray, List.getElem_cons_zero, List.getElem_cons_succ, Act.put, List.setIfInBounds_toArray, List.set_cons_zero, List.set_cons_succ]
        refine wpAnyH_take (i := 1) (v := .bool false) rfl (by kernel_rfl) (by kernel_rfl) (by kernel_rfl) (fun _ _ _ h => h) (.inl ⟨by kernel_rfl, fun V hV => by unfold execOp; go_simp; try (first | omega | (intro h; omega))⟩) hS ?_
        simp only [List.getElem_toArray, List.getElem_cons_zero, List.getElem_cons_succ, Act.put, List.setIfInBounds_toArray, List.set_cons_zero, List.set_cons_succ]
        refine wpAnyH_take (i := 2) (v := .bool false) rfl (by kernel_rfl) (by kernel_rfl) (by kernel_rfl) (fun _ _ _ h => h) (.inl ⟨by kernel_rfl, fun V hV => by unfold execOp; go_simp; try (first | omega | (intro h; omega))⟩) hS ?_
        simp only [List.getElem_toArray, List.getElem_cons_zero, List.getElem_cons_succ, Act.put, List.setIfInBounds_toArray, List.set_cons_zero, List.set_cons_succ]
        refine wpAnyH_take (i := 3) (v := .int .i64 (h : Int)) rfl (by kernel_rfl) (by kernel_rfl) (by kernel_rfl) (fun _ _ _ h => h) (.inl ⟨by kernel_rfl, fun V hV => by unfold execOp; go_simp; try (first | omega | (intro h; omega))⟩) hS ?_
        simp only [List.getElem_toArray, List.getElem_cons_zero, List.getElem_cons_succ, Act.put, List.setIfInBounds_toArray, List.set_cons_zero, List.set_cons_succ]
        refine wpAnyH_take (i := 4) (v := .bool false) rfl (by kernel_rfl) (by kernel_rfl) (by kernel_rfl) (fun _ _ _ h => h) (.inl ⟨by kernel_rfl, fun V hV => by unfold execOp; go_simp; try (first | omega | (intro h; omega))⟩) hS ?_
        simp only [List.getElem_toArray, List.getElem_cons_zero, List.getElem_cons_succ, Act.put, List.setIfInBounds_toArray, List.set_cons_zero, List.set_cons_succ]
        refine wpAnyH_take (i := 5) (v := .bool false) rfl (by kernel_rfl) (by kernel_rfl) (by kernel_rfl) (fun _ _ _ h => h) (.inl ⟨by kernel_rfl, fun V hV => by unfold execOp; go_simp; try (first | omega | (intro h; omega))⟩) hS ?_
        simp only [List.getElem_toArray, List.getElem_cons_zero, List.getElem_cons_succ, Act.put, List.setIfInBounds_toArray, List.set_cons_zero, List.set_cons_succ]
        refine wpAnyH_take (i := 6) (v := .bool false) rfl (by kernel_rfl) (by kernel_rfl) (by kernel_rfl) (fun _ _ _ h => h) (.inl ⟨by kernel_rfl, fun V hV => by unfold execOp; go_simp; try (first | omega | (intro h; omega))⟩) hS ?_
        simp only [List.getElem_toArray, List.getElem_cons_zero, List.getElem_cons_succ, Act.put, List.setIfInBounds_toArray, List.set_cons_zero, List.set_cons_succ]
        refine wpAnyH_take (i := 7) (v := .int .i64 (h : Int)) rfl (by kernel_rfl) (by kernel_rfl) (by kernel_rfl) (fun _ _ _ h => h) (.inl ⟨by kernel_rfl, fun V hV => by unfold execOp; go_simp; try (first | omega | (intro h; omega))⟩) hS ?_
        simp only [List.getElem_toArray, List.getElem_cons_zero, List.getElem_cons_succ, Act.put, List.setIfInBounds_toArray, List.set_cons_zero, List.set_cons_succ]
        refine wpAnyH_take (i := 8) (v := .int .i64 (bs.length : Int)) rfl (by kernel_rfl) (by kernel_rfl) (by kernel_rfl) (fun _ _ _ h => h) (.inl ⟨by kernel_rfl, fun V hV => by unfold execOp; go_simp; try (first | omega | (intro h; omega))⟩) hS ?_
        simp only [List.getElem_toArray, List.getElem_cons_zero, List.getElem_cons_succ, Act.put, List.setIfInBounds_toArray, List.set_cons_zero, List.set_cons_succ]
        refine wpAnyH_take (i := 9) (v := .bool false) rfl (by kernel_rfl) (by kernel_rfl) (by kernel_rfl) (fun _ _ _ h => h) (.inl ⟨by kernel_rfl, fun V hV => by unfold execOp; go_simp; try (first | omega | (intro h; omega))⟩) hS ?_
        simp only [List.getElem_toArray, List.getElem_cons_zero, List.getElem_cons_succ, Act.put, List.setIfInBounds_toArray, List.set_cons_zero, List.set_cons_succ]
        refine wpAnyH_take (i := 10) (v := .bool false) rfl (by kernel_rfl) (by kernel_rfl) (by kernel_rfl) (fun _ _ _ h => h) (.inl ⟨by kernel_rfl, fun V hV => by unfold execOp; go_simp; try (first | omega | (intro h; omega))⟩) hS ?_
        simp only [List.getElem_toArray, List.getElem_cons_zero, List.getElem_cons_succ, Act.put, List.setIfInBounds_toArray, List.set_cons_zero, List.set_cons_succ]
        refine wpAnyH_take (i := 11) (v := .bool false) rfl (by kernel_rfl) (by kernel_rfl) (by kernel_rfl) (fun _ _ _ h => h) (.inl ⟨by kernel_rfl, fun V hV => by unfold execOp; go_simp; try (first | omega | (intro h; omega))⟩) hS ?_
        simp only [List.getElem_toArray, List.getElem_cons_zero, List.getElem_cons_succ, Act.put, List.setIfInBounds_toArray, List.set_cons_zero, List.set_cons_succ]
        refine wpAnyH_take (i := 12) (v := .agg (encP x)) rfl (by kernel_rfl) (by kernel_rfl) (by kernel_rfl) (fun _ _ _ h => h) (yields_load 36 (.tmp 19) rfl w8.heap.size rfl 36 _ _ (fun Y hy => HKv.out.kept hy) Tryd.underlying36 rfl 18 Tryd.infoPoint HSx.out.symm (by kernel_rfl)) hS ?_
        simp only [List.getElem_toArray, List.getElem_cons_zero, List.getElem_cons_succ, Act.put, List.setIfInBounds_toArray, List.set_cons_zero, List.set_cons_succ]
        refine wpAnyH_take (i := 13) (v := .pointer (some ⟨w2.heap.size, 1, none⟩)) rfl (by kernel_rfl) (by kernel_rfl) (by kernel_rfl) (fun _ _ _ h => h) (.inl ⟨by kernel_rfl, fun V hV => by unfold execOp; go_simp⟩) hS ?_
        simp only [List.getElem_toArray, List.getElem_cons_zero, List.getElem_cons_succ, Act.put, List.setIfInBounds_toArray, List.set_cons_zero, List.set_cons_succ]
        refine wpAnyH_take (i := 14) (v := .slice (some ⟨gb, ob, none⟩) bs.length cap) rfl (by kernel_rfl) (by kernel_rfl) (by kernel_rfl) (fun _ _ _ h => h) (.inl ⟨by kernel_rfl, fun V hV => by unfold execOp; have c := (JV.out.kept hV).cell 1; go_simp⟩) hS ?_
        simp only [List.getElem_toArray, List.getElem_cons_zero, List.getElem_cons_succ, Act.put, List.setIfInBounds_toArray, List.set_cons_zero, List.set_cons_succ]
        refine wpAnyH_take (i := 15) (v := .int .i64 (h : Int)) rfl (by kernel_rfl) (by kernel_rfl) (by kernel_rfl) (fun _ _ _ h => h) (.inl ⟨by kernel_rfl, fun V hV => by unfold execOp; go_simp; try (first | omega | (intro h; omega))⟩) hS ?_
        simp only [List.getElem_toArray, List.getElem_cons_zero, List.getElem_cons_succ, Act.put, List.setIfInBounds_toArray, List.set_cons_zero, List.set_cons_succ]
        refine wpAnyH_take (i := 16) (v := .pointer (some ⟨gb, ob + h * 18, none⟩)) rfl (by kernel_rfl) (by kernel_rfl) (by kernel_rfl) (fun _ _ _ h => h) (.inl ⟨by kernel_rfl, fun V hV => by unfold execOp; go_simp; try (intro h; omega)⟩) hS ?_
        simp only [List.getElem_toArray, List.getElem_cons_zero, List.getElem_cons_succ, Act.put, List.setIfInBounds_toArray, List.set_cons_zero, List.set_cons_succ]
        refine wpAnyH_take (i := 17) (v := .agg (encP x)) rfl (by kernel_rfl) (by kernel_rfl) (by kernel_rfl) (fun _ _ _ h => h) (yieldsIf_load_mid (by kernel_rfl) 36 (.tmp 152) rfl gb (ob + h * 18) rfl (encPL x) _ (fun Y hy => HRX.out Y hy) Tryd.underlying36 rfl (encPL_info0 x)) hS ?_
        simp only [List.getElem_toArray, List.getElem_cons_zero, List.getElem_cons_succ, Act.put, List.setIfInBounds_toArray, List.set_cons_zero, List.set_cons_succ]
        refine wpAnyH_take (i := 18) (v := .bool false) rfl (by kernel_rfl) (by kernel_rfl) (by kernel_rfl) (fun _ _ _ h => h) (.inl ⟨by kernel_rfl, fun V hV => by unfold execOp; simp [go_sem, heq]⟩) hS ?_
        simp only [List.getElem_toArray, List.getElem_cons_zero, List.getElem_cons_succ, Act.put, List.setIfInBounds_toArray, List.set_cons_zero, List.set_cons_succ]
        refine wpAnyH_take (i := 19) (v := .bool false) rfl (by kernel_rfl) (by kernel_rfl) (by kernel_rfl) (fun _ _ _ h => h) (.inl ⟨by kernel_rfl, fun V hV => by unfold execOp; go_simp; try (first | omega | (intro h; omega))⟩) hS ?_
        simp only [List.getElem_toArray, List.getElem_cons_zero, List.getElem_cons_succ, Act.put, List.setIfInBounds_toArray, List.set_cons_zero, List.set_cons_succ]
        refine wpAnyH_done (by kernel_rfl) ?_ _
        have HB9 : Hid (Below w7.heap.size w7 _) := hid (HBV.out.trans (hS.mono HBV.out.size))
        clear hS
        clear heq
        go_wp2
        go_roundg (L.length - (p + 1))
        case measure => omega
        case rel => exact ⟨p + 1, by go_num, by omega, Nat.le_refl _, HB9⟩
      · obtain rfl : p = L.length := by omega
        have FB := hid (HFB.out _ (bel2 HB7.out HBe.out))
        go_wp2
        go_ret
        exact ⟨rfl, FB.out⟩
end Go.Proofs.YtgpbmbefdgbblaaDoor

namespace Go.Proofs.YtgpbmbefdgbblaaDoor
open Go.RowKit Go.Lib

theorem lshares_any (E : Nat → TypeId × Value) (ax : Option Addr) (cx : Nat) (xs : List PS) (hcx : xs.length ≤ cx) (hnx : ax = none → xs.length = 0 ∧ cx = 0) (m z : Int) (w : World) (hE : MEnv E w) (hX : Elems encP 18 w.heap.size w ax xs) :
    Calls Tryd.prog 3 #[.slice ax xs.length cx, .int .i64 m, .int .i64 z] w fun e w' => e = .returned (.bool true) ∧ Below w.heap.size w w' := by
  by_cases h : xs.length ≤ 40
  · by_cases f1 : fillE xs m = 0
    · exact shares_ok E ax cx xs hcx hnx m z h f1 w hE hX
    · exact shares_err E ax cx xs hcx hnx m z h f1 w hE hX
  · exact shares_long E ax cx xs hcx hnx m z (by omega) w hE hX
end Go.Proofs.YtgpbmbefdgbblaaDoor
