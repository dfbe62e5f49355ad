/-
  What is formatted is parsed as it was.
-/
import Derived.Test.YtnfkgoeocebenaaGreatDoorRsix
import Derived.Test.YtnfkgoeocebenaaGreatDoorParsed
import Derived.Lib.IndexLaws
namespace Go.Proofs.YtnfkgoeocebenaaGreatDoor
open Go.Lib

theorem join_two (x y : List UInt8) (r : List (List UInt8)) (c : UInt8) : join (x :: y :: r) [c] = x ++ c :: join (y :: r) [c] := by
  rw [join_cons, join_cons, joinTail, joinTail]
  simp
theorem pieces_join (c : UInt8) : ∀ l : List (List UInt8), l ≠ [] → (∀ x ∈ l, c ∉ x) → pieces c (join l [c]) = l
  | [], h, _ => absurd rfl h
  | [x], _, h => by rw [join_one]; exact pieces_none (h x (by simp))
  | x :: y :: r, _, h => by
    rw [join_two, pieces_hit _ (h x (by simp)), pieces_join c (y :: r) (by simp) (fun z hz => h z (by simp [hz]))]

theorem allOf_map (f : List UInt8 → Option Nat) (t : Nat → List UInt8) : ∀ ns : List Nat, (∀ n ∈ ns, f (t n) = some n) → allOf f (ns.map t) = some ns
  | [], _ => rfl
  | n :: ns, h => by
    rw [List.map_cons, allOf, h n (by simp), allOf_map f t ns (fun m hm => h m (by simp [hm]))]

theorem fig_dg : ∀ d : Fin 16, fig (dg d.val) = d.val ∧ dg d.val ≠ 58 ∧ dg d.val ≠ 46 := by decide +kernel
theorem num10_all : ∀ n : Fin 256, num10 (digs 10 3 n.val) = some n.val := by decide +kernel
theorem num10_dec (n : Nat) (h : n < 256) : num10 (decDigits n) = some n := by rw [← digs10 n h]; exact num10_all ⟨n, h⟩
theorem dec_clean : ∀ n : Fin 256, ∀ c ∈ digs 10 3 n.val, c ≠ 46 ∧ c ≠ 58 := by decide +kernel

theorem hlow_figs (n : Nat) : ∀ k, figs 16 (hlow n k) = true
  | 0 => rfl
  | k + 1 => by
    have := (fig_dg ⟨n / 16 ^ k % 16, Nat.mod_lt _ (by omega)⟩).1
    simp only [hlow, figs, List.all_cons, Bool.and_eq_true, decide_eq_true_eq]
    refine ⟨?_, hlow_figs n k⟩
    simp only at this
    rw [this]
    exact Nat.mod_lt _ (by omega)
theorem hlow_numb (n : Nat) : ∀ k a, numb 16 a (hlow n k) = a * 16 ^ k + n % 16 ^ k
  | 0, a => by simp [hlow, numb, Nat.mod_one]
  | k + 1, a => by
    have := (fig_dg ⟨n / 16 ^ k % 16, Nat.mod_lt _ (by omega)⟩).1
    simp only at this
    rw [hlow, numb, this, hlow_numb n k, Nat.mod_pow_succ, Nat.pow_succ, Nat.add_mul, Nat.mul_assoc, Nat.mul_comm 16, Nat.mul_comm (n / 16 ^ k % 16)]
    omega
theorem hlow_clean (n : Nat) : ∀ k, (58 : UInt8) ∉ hlow n k
  | 0 => by simp [hlow]
  | k + 1 => by
    have := (fig_dg ⟨n / 16 ^ k % 16, Nat.mod_lt _ (by omega)⟩).2.1
    simp only [hlow, List.mem_cons, not_or]
    exact ⟨fun e => this e.symm, hlow_clean n k⟩
theorem grp_hexs (n : Nat) (h : n < 65536) : grp (hexs n) = some n := by
  have hp := hexs_pos n
  have hl := hexs_le n
  unfold grp
  rw [if_pos ⟨hp, hl, hlow_figs n (nd n)⟩]
  unfold hexs
  rw [hlow_numb, Nat.zero_mul, Nat.zero_add, Nat.mod_eq_of_lt]
  unfold nd
  split
  · omega
  · split
    · omega
    · split <;> omega

def sh (k : Nat) (i : Int) : Int := if i = -1 then -1 else i + k
theorem sh_sh (k m : Nat) (i : Int) (h : -1 ≤ i) : sh k (sh m i) = sh (k + m) i := by
  unfold sh
  by_cases e : i = -1
  · simp [e]
  · rw [if_neg e, if_neg e, if_neg (by omega)]
    omega
theorem index_cons (b : UInt8) (l : List UInt8) (h : List.isPrefixOf [58, 58] (b :: l) = false) : index (b :: l) [58, 58] = sh 1 (index l [58, 58]) := by
  rw [index, h]
  simp only [Bool.false_eq_true, if_false, sh, beq_iff_eq]
  rfl
theorem index_clean : ∀ (x r : List UInt8), (58 : UInt8) ∉ x → index (x ++ r) [58, 58] = sh x.length (index r [58, 58])
  | [], r, _ => by
    have := index_ge r [58, 58]
    unfold sh
    split
    · simp [*]
    · simp
  | b :: x, r, h => by
    have hb : (58 : UInt8) ≠ b := fun e => h (by simp [e])
    rw [List.cons_append, index_cons _ _ (by simp [List.isPrefixOf, hb]), index_clean x r (fun e => h (by simp [e])), sh_sh _ _ _ (index_ge _ _), List.length_cons, Nat.add_comm]
theorem index_join : ∀ (l : List (List UInt8)) (r : List UInt8), (∀ x ∈ l, x ≠ [] ∧ (58 : UInt8) ∉ x) → index (join l [58] ++ r) [58, 58] = sh (join l [58]).length (index r [58, 58])
  | [], r, _ => by rw [join_nil]; exact index_clean [] r (by simp)
  | [x], r, h => by rw [join_one]; exact index_clean x r (h x (by simp)).2
  | x :: y :: t, r, h => by
    have hy : ∃ b l, join (y :: t) [58] ++ r = b :: l ∧ (58 : UInt8) ≠ b := by
      obtain ⟨h1, h2⟩ := h y (by simp)
      match y, h1 with
      | b :: y', _ => exact ⟨b, _, by rw [join_cons]; rfl, fun e => h2 (by simp [e])⟩
    obtain ⟨b, l, e, hb⟩ := hy
    have ih := index_join (y :: t) r (fun z hz => h z (by simp [hz]))
    rw [join_two, List.append_assoc, index_clean x _ (h x (by simp)).2, List.cons_append, index_cons _ _ (by rw [e]; simp [List.isPrefixOf, hb]), ih, sh_sh _ _ _ (index_ge _ _), sh_sh _ _ _ (index_ge _ _)]
    congr 1
    simp [List.length_append]
    omega

theorem hexs_ok (ns : List Nat) : ∀ x ∈ ns.map hexs, x ≠ [] ∧ (58 : UInt8) ∉ x := by
  intro x hx
  obtain ⟨n, _, rfl⟩ := List.mem_map.1 hx
  exact ⟨fun e => by have := hexs_pos n; rw [e] at this; simp at this, hlow_clean n (nd n)⟩
theorem cut_yes (a b : List Nat) : cut (gtext a ++ ([58, 58] ++ gtext b)) [58, 58] = (gtext a, gtext b, true) := by
  have h : index (gtext a ++ ([58, 58] ++ gtext b)) [58, 58] = (gtext a).length := by
    unfold gtext
    rw [index_join _ _ (hexs_ok a)]
    have : index ([58, 58] ++ join (b.map hexs) [58]) [58, 58] = 0 := by simp [index, List.isPrefixOf]
    rw [this]
    simp [sh]
  unfold cut
  rw [h, if_pos (by omega)]
  simp [List.drop_append]
theorem cut_no (a : List Nat) : cut (gtext a) [58, 58] = (gtext a, [], false) := by
  have h : index (gtext a) [58, 58] = -1 := by
    have := index_join _ [] (hexs_ok a)
    rw [List.append_nil] at this
    unfold gtext
    rw [this]
    simp [sh, index]
  unfold cut
  rw [h, if_neg (by omega)]

theorem groups_gtext (ns : List Nat) (h : ∀ n ∈ ns, n < 65536) : groups (gtext ns) = some ns := by
  unfold groups
  cases ns with
  | nil => rfl
  | cons n ns =>
    have hne : gtext (n :: ns) ≠ [] := by
      intro e
      have hp := hexs_pos n
      unfold gtext at e
      rw [List.map_cons, join_cons] at e
      rw [(List.append_eq_nil_iff.1 e).1] at hp
      simp at hp
    rw [if_neg hne]
    unfold gtext
    rw [pieces_join 58 _ (by simp) (fun x hx => (hexs_ok _ x hx).2)]
    exact allOf_map grp hexs _ (fun m hm => grp_hexs m (h m hm))

theorem six_text6 (g : List Nat) (h8 : g.length = 8) (hg : ∀ n ∈ g, n < 65536) : six (text6 g) = some g := by
  obtain ⟨n1, n2, n3, n4⟩ := nz_of g h8
  unfold text6
  by_cases e : (nzB (zeros g) 8).2.1 = (nzB (zeros g) 8).2.2
  · rw [if_pos e]
    unfold six
    rw [cut_no g]
    simp only [groups_gtext g hg, show groups [] = some [] from rfl]
    rw [if_pos (by simp [h8])]
    simp [h8]
  · rw [if_neg e]
    obtain ⟨f, hf⟩ : ∃ f, f = (nzB (zeros g) 8).2.1 := ⟨_, rfl⟩
    obtain ⟨t, ht⟩ : ∃ t, t = (nzB (zeros g) 8).2.2 := ⟨_, rfl⟩
    rw [← hf, ← ht] at n1 n3 n4 e ⊢
    rw [← ht] at n2
    have n3 : f + 2 ≤ t := by rcases n3 with h | h; exact absurd h e; exact h
    unfold six
    rw [cut_yes]
    simp only [groups_gtext (g.take f) (fun n hn => hg n (List.mem_of_mem_take hn)), groups_gtext (g.drop t) (fun n hn => hg n (List.mem_of_mem_drop hn))]
    have l1 : (g.take f).length = f := by rw [List.length_take]; omega
    have l2 : (g.drop t).length = 8 - t := by rw [List.length_drop]; omega
    rw [if_pos (by left; exact ⟨trivial, by omega⟩), l1, l2]
    congr 1
    apply List.ext_getElem?
    intro i
    by_cases h1 : i < f
    · rw [List.getElem?_append_left (by omega), List.getElem?_take, if_pos h1]
    · rw [List.getElem?_append_right (by omega), l1]
      by_cases h2 : i < t
      · rw [List.getElem?_append_left (by simp; omega)]
        have := n4 i (by omega) h2
        rw [List.getElem?_replicate, if_pos (by omega), List.getElem?_eq_getElem (show i < g.length by omega)]
        simp [List.getD, List.getElem?_eq_getElem (show i < g.length by omega)] at this
        rw [this]
      · rw [List.getElem?_append_right (by simp; omega), List.length_replicate, List.getElem?_drop]
        congr 1
        omega

theorem by2_gr (B : List Nat) (hl : B.length = 16) (hB : ∀ x ∈ B, x < 256) : by2 (gr B) = B := by
  match B, hl with
  | [a0, a1, a2, a3, a4, a5, a6, a7, a8, a9, a10, a11, a12, a13, a14, a15], _ =>
    simp only [List.mem_cons, List.not_mem_nil, or_false, forall_eq_or_imp, forall_eq] at hB
    simp only [gr, by2, show List.range 8 = [0, 1, 2, 3, 4, 5, 6, 7] from rfl, List.map_cons, List.map_nil, List.flatMap_cons, List.flatMap_nil, List.getD, List.cons_append, List.nil_append]
    simp
    omega

theorem indexByte_in (c : UInt8) (l : List UInt8) (h : c ∈ l) : 0 ≤ indexByte l c := by
  have h1 := indexByte_ge l c
  rcases Int.lt_or_le (indexByte l c) 0 with h2 | h2
  · exfalso
    obtain ⟨k, hk, e⟩ := List.getElem_of_mem h
    exact indexByte_none (show indexByte l c = -1 by omega) k (by rw [List.getElem?_eq_getElem hk, e])
  · exact h2
theorem indexByte_out (c : UInt8) : ∀ l : List UInt8, c ∉ l → indexByte l c = -1
  | [], _ => rfl
  | b :: l, h => by
    rw [indexByte, indexByte_out c l (fun e => h (by simp [e]))]
    have : (b == c) = false := by rw [beq_eq_false_iff_ne]; exact fun e => h (by simp [e])
    simp [this]

theorem parsed_text6 (B : List Nat) (hl : B.length = 16) (hB : ∀ x ∈ B, x < 256) (hg : ∀ n ∈ gr B, n < 65536) : parsed (text6 (gr B)) = some (true, ints B) := by
  have hc : (58 : UInt8) ∈ text6 (gr B) := by
    unfold text6
    split
    · have h8 := gr_length B
      match gr B, h8 with
      | a :: b :: r, _ => unfold gtext; rw [List.map_cons, List.map_cons, join_two]; simp
    · simp
  unfold parsed
  rw [if_pos (indexByte_in 58 _ hc), six_text6 (gr B) (gr_length B) hg, Option.map_some, by2_gr B hl hB]
  rfl

theorem dec_mem (n : Nat) (h : n < 256) (c : UInt8) (hc : c ∈ decDigits n) : c ≠ 46 ∧ c ≠ 58 := by
  rw [← digs10 n h] at hc
  exact dec_clean ⟨n, h⟩ c hc
theorem mem_join (c : UInt8) : ∀ l : List (List UInt8), c ∈ join l [46] → c = 46 ∨ ∃ x ∈ l, c ∈ x
  | [], h => by simp [join_nil] at h
  | [x], h => by rw [join_one] at h; exact .inr ⟨x, by simp, h⟩
  | x :: y :: r, h => by
    rw [join_two, List.mem_append, List.mem_cons] at h
    rcases h with h | h | h
    · exact .inr ⟨x, by simp, h⟩
    · exact .inl h
    · rcases mem_join c (y :: r) h with h | ⟨z, hz, hc⟩
      · exact .inl h
      · exact .inr ⟨z, by simp [hz], hc⟩

theorem parsed_text4 (B : List Nat) (hl : B.length = 16) (hB : ∀ x ∈ B, x < 256) (hf : flat (ints B) = true) : parsed (text4 B) = some (false, ints B) := by
  have hn : (58 : UInt8) ∉ text4 B := by
    intro h
    rcases mem_join 58 _ h with h | ⟨x, hx, hc⟩
    · exact absurd h (by decide)
    · obtain ⟨n, hn, rfl⟩ := List.mem_map.1 hx
      exact (dec_mem n (hB n (List.mem_of_mem_take hn)) 58 hc).2 rfl
  have h4 : (B.take 4).length = 4 := by rw [List.length_take]; omega
  have hp : pieces 46 (text4 B) = (B.take 4).map decDigits := pieces_join 46 _ (by intro e; have := congrArg List.length e; rw [List.length_map, h4] at this; cases this) (fun x hx hc => by
    obtain ⟨n, hn, rfl⟩ := List.mem_map.1 hx
    exact (dec_mem n (hB n (List.mem_of_mem_take hn)) 46 hc).1 rfl)
  have hfo : four (text4 B) = some (B.take 4) := by
    unfold four
    rw [hp, List.length_map, h4, if_pos rfl]
    exact allOf_map num10 decDigits _ (fun n hn => num10_dec n (hB n (List.mem_of_mem_take hn)))
  unfold parsed
  rw [indexByte_out 58 _ hn, if_neg (by omega), hfo, Option.map_some]
  have hz : rowOf (B.take 4) 16 = ints B := by
    have := beq_iff_eq.1 hf
    match B, hl with
    | [a0, a1, a2, a3, a4, a5, a6, a7, a8, a9, a10, a11, a12, a13, a14, a15], _ =>
      rw [this]
      rfl
  rw [hz]
end Go.Proofs.YtnfkgoeocebenaaGreatDoor
