/-
  The walk of NamesSorts.
-/
import Derived.Test.YtnlhdeffoalhiaaDoorKref
import Derived.Test.YtnlhdeffoalhiaaDoorKsort
import Derived.Test.YtnlhdeffoalhiaaDoorNparse
namespace Go.Proofs.YtnlhdeffoalhiaaDoor
open Go.RowKit Go.Shelf Go.Lib Go.Sort

set_option maxHeartbeats 1000000 in
theorem rsort_nil (ad : Option Addr) (cap0 : Nat) (w : World) :
    Calls Tryd.prog 7 #[.slice ad 0 cap0] w fun e w' => ∃ v rs, e = .returned v ∧ w'.ownsRow w.heap.size 25 2 v rs.length (flat encK rs) ∧ Below w.heap.size w w' ∧ Rising rs ∧ ∀ a, a ∈ rs ↔ a ∈ ([] : List KT) := by
  obtain ⟨W0, hW0⟩ : ∃ W, W = w.alloc (.cells #[] 25) := ⟨_, rfl⟩
  have HW0 := hid hW0.symm
  have F : Hid (∃ v rs, Ending.returned (.slice (some ⟨w.heap.size, 0, none⟩) 0 0) = .returned v ∧ W0.ownsRow w.heap.size 25 2 v rs.length (flat encK rs) ∧ Below w.heap.size w W0 ∧ Rising rs ∧ ∀ a, a ∈ rs ↔ a ∈ ([] : List KT)) := hid (by
    subst hW0
    exact ⟨_, [], rfl, lit0_own w _ (Nat.le_refl _), (Below.refl _ _).alloc (Nat.le_refl _) _, List.Pairwise.nil, fun a => Iff.rfl⟩)
  clear hW0
  go_enter Tryd.func7, Tryd.ntmps7
  go_wp2
  rw [HW0.out]
  go_loopg [3, 10] 0 (fun g s3 s10 wr => s3 = .slice (some ⟨w.heap.size, 0, none⟩) 0 0 ∧ s10 = .int .i64 0 ∧ wr = W0)
  case atStart => exact ⟨rfl, rfl, rfl⟩
  case round =>
    obtain ⟨rfl, rfl, rfl⟩ := hrel
    go_wp2
    go_ret
    exact F.out

/-- The document's Sort, of whatever list: the keys, each once, in their order. -/
theorem rsort_any (ad : Option Addr) (cap0 : Nat) (xs : List KT) (hcap : xs.length ≤ cap0) (hm : xs.length ≤ 1000) (w : World) (hI : Elems encK 2 w.heap.size w ad xs) :
    Calls Tryd.prog 7 #[.slice ad xs.length cap0] w (CollEnd (ksorted xs) encK w) := by
  have hu : ∀ rs, Rising rs → (∀ a, a ∈ rs ↔ a ∈ xs) → rs = ksorted xs := fun rs h1 h2 => rising_unique _ _ h1 (sorted_facts xs).1 (fun a => (h2 a).trans ((sorted_facts xs).2 a).symm)
  cases xs with
  | nil =>
    refine (rsort_nil ad cap0 w).mono ?_
    rintro e w' ⟨v, rs, rfl, h1, h2, h3, h4⟩
    have := hu rs h3 h4
    subst this
    exact ⟨v, rfl, h1, h2⟩
  | cons x xs =>
    obtain ⟨g, of, rfl, hg, _⟩ := hI 0 (by simp)
    refine (rsort_some cap0 g of (x :: xs) hcap hm w hg (fun j hj => ?_)).mono ?_
    · obtain ⟨g1, o1, e, _, h⟩ := hI j hj
      cases e
      exact h
    · rintro e w' ⟨v, rs, rfl, h1, h2, h3, h4⟩
      have := hu rs h3 h4
      subst this
      exact ⟨v, rfl, h1, h2⟩

theorem wpl_appK {ops : Array Oper} {rest : List Oper} {o : Oper} {a : Act} {w : World} {Q : Exit → Act → World → Prop} (s x : Operand) (ho : o.op = .call { callee := .builtin .append, args := #[s, x], argTypes := #[22, 22] }) (base : Nat) (v : Value) (n : Nat) (xs : List Value) (hs : a.eval s = v) (hown : w.ownsRow base 25 2 v n xs)
    (ao : Option Addr) (m c : Nat) (ks : List KT) (hx : a.eval x = .slice ao m c) (hl : ks.length = m) (n₀ : Nat) (hb : Elems encK 2 n₀ w ao ks) (hn : ao = none → m = 0 ∧ c = 0)
    (h63 : n + m ≤ 1000000) (hbase : base ≤ w.heap.size) (hw : Region.wanted o (yielded ops a.tmps) = true)
    (h : ∀ v' w', w'.ownsRow base 25 2 v' (n + m) (xs ++ flat encK ks) → w.grownBy w' v.ownBlock → wpList Tryd.prog ops Q rest (a.put o.dst v') w') : wpList Tryd.prog ops Q (o :: rest) a w :=
  BigFrame.wpList_want hw fun K hK => by
    have := r_appK (ops := ops) (K := K) (Q := Q) (E := False) s x ho base v n xs hs hown ao m c ks hx hl n₀ hb hn h63 hbase hw (fun v' w' h1 h2 => hK _ _ (h v' w' h1 h2))
    rw [if_pos hw] at this
    exact this

set_option maxRecDepth 100000 in
set_option maxHeartbeats 8000000 in
theorem lsorts_any (ad : Option Addr) (cap : Nat) (xs : List KT) (hcap : xs.length ≤ cap) (hnil : ad = none → xs.length = 0 ∧ cap = 0) (w : World) (hI : Elems encK 2 w.heap.size w ad xs) (E : Value) (hE : NEnv E w) :
    Calls Tryd.prog 3 #[.slice ad xs.length cap] w fun e w' => e = .returned (.bool true) ∧ Below w.heap.size w w' := by
  have HA := hid (nalive_any E w hE)
  obtain ⟨n, hn⟩ : ∃ n, n = xs.length := ⟨_, rfl⟩
  have Hn := hid hn
  have HI := hid hI
  have Hnil := hid hnil
  have Hnil2 : Hid (ad = none → n = 0 ∧ cap = 0) := hid (hn ▸ hnil)
  rw [← hn] at hcap ⊢
  clear hI hE hn hnil
  by_cases h40 : 40 < n
  · go_enter Tryd.func3, Tryd.ntmps3
    go_wp2_with fail
    refine HA.out.mono ?_
    rintro e w1 ⟨rfl, hb1⟩
    go_wp2
    go_ret
    exact ⟨rfl, hb1⟩
  · go_enter Tryd.func3, Tryd.ntmps3
    go_wp2_with fail
    refine HA.out.mono ?_
    rintro e w1 ⟨rfl, hb1⟩
    have Hb1 := hid hb1
    clear hb1 HA
    go_wp2
    go_loopg [18] n (fun g s18 wr => ∃ p : Nat, s18 = .int .i64 (p : Int) ∧ p ≤ n ∧ n - p ≤ g ∧ Hid (Below w.heap.size w wr))
    case atStart => exact ⟨0, rfl, by omega, by omega, Hb1⟩
    case round =>
      obtain ⟨p, rfl, hp, hgp, HB⟩ := hrel
      by_cases hlt : p < n
      · have hpx : p < xs.length := by have := Hn.out; omega
        obtain ⟨g0, o0, rfl, hg0, hr0⟩ := HI.out p hpx
        obtain ⟨x, hx⟩ : ∃ x, x = xs[p] := ⟨_, rfl⟩
        have HX : Hid (wr.rangeAt g0 (o0 + p * 2) (encKL x)) := hid (hx ▸ rangeAt_below HB.out hg0 hr0)
        obtain ⟨V, hV⟩ : ∃ V, V = wr.alloc (.cells #[.string x.1, .string x.2] 25) := ⟨_, rfl⟩
        have HV := hid hV.symm
        have HBV : Hid (Below w.heap.size w V) := hid (hV ▸ HB.out.alloc HB.out.size _)
        have hKV : Blk V wr.heap.size 25 #[.string x.1, .string x.2] := hV ▸ Blk.new wr _ _
        have c0 : V.cell? ⟨wr.heap.size, 0, none⟩ = some (.string x.1) := hKV.cell 0
        have c1 : V.cell? ⟨wr.heap.size, 1, none⟩ = some (.string x.2) := hKV.cell 1
        clear hx hV hKV hr0
        by_cases h1 : 100 < x.1.size
        · go_wp2_with (first
            | ((show wpList _ _ _ (⟨some 21, _, _, _, _, _⟩ :: _) _ _); go_must (refine wpList_load_mid rfl 25 (.tmp 20) rfl g0 (o0 + p * 2) rfl (encKL x) _ HX.out Tryd.underlying25 rfl Tryd.info3s ?_))
            | ((show wpList _ _ _ (⟨none, _, _, _, _, _⟩ :: _) _ _); go_must (refine wpl_store 25 (.tmp 4) (.tmp 21) rfl wr.heap.size #[.string x.1, .string x.2] rfl rfl 25 _ (Blk.new wr _ _) 2 Tryd.infoKey rfl rfl (encK_one x) rfl ?_; rw [setRow_new, HV.out])))
          go_ret
          exact ⟨rfl, HBV.out⟩
        · by_cases h2 : 100 < x.2.size
          · go_wp2_with (first
              | ((show wpList _ _ _ (⟨some 21, _, _, _, _, _⟩ :: _) _ _); go_must (refine wpList_load_mid rfl 25 (.tmp 20) rfl g0 (o0 + p * 2) rfl (encKL x) _ HX.out Tryd.underlying25 rfl Tryd.info3s ?_))
              | ((show wpList _ _ _ (⟨none, _, _, _, _, _⟩ :: _) _ _); go_must (refine wpl_store 25 (.tmp 4) (.tmp 21) rfl wr.heap.size #[.string x.1, .string x.2] rfl rfl 25 _ (Blk.new wr _ _) 2 Tryd.infoKey rfl rfl (encK_one x) rfl ?_; rw [setRow_new, HV.out])))
            go_ret
            exact ⟨rfl, HBV.out⟩
          · go_wp2_with (first
              | ((show wpList _ _ _ (⟨some 21, _, _, _, _, _⟩ :: _) _ _); go_must (refine wpList_load_mid rfl 25 (.tmp 20) rfl g0 (o0 + p * 2) rfl (encKL x) _ HX.out Tryd.underlying25 rfl Tryd.info3s ?_))
              | ((show wpList _ _ _ (⟨none, _, _, _, _, _⟩ :: _) _ _); go_must (refine wpl_store 25 (.tmp 4) (.tmp 21) rfl wr.heap.size #[.string x.1, .string x.2] rfl rfl 25 _ (Blk.new wr _ _) 2 Tryd.infoKey rfl rfl (encK_one x) rfl ?_; rw [setRow_new, HV.out])))
            go_roundg (n - (p + 1))
            case measure => omega
            case rel => exact ⟨p + 1, by go_num, by omega, Nat.le_refl _, HBV⟩
      · obtain rfl : p = n := by omega
        have HB' : Hid (Below w.heap.size w (wr.alloc (.cells #[] 25))) := hid (HB.out.alloc HB.out.size _)
        have HL0 := hid (lit0_own wr wr.heap.size (Nat.le_refl _))
        have HEx : Hid (Elems encK 2 w.heap.size (wr.alloc (.cells #[] 25)) ad xs) := hid (HI.out.below HB'.out)
        have Hsz : Hid (wr.heap.size ≤ (wr.alloc (.cells #[] 25)).heap.size) := hid (by rw [World.size_alloc]; omega)
        go_wp2_with (first
          | ((show wpList _ _ _ (⟨some 35, _, _, _, _, _⟩ :: _) _ _); go_must (refine wpl_appK (.tmp 33) (.tmp 34) rfl wr.heap.size _ 0 (flat encK []) rfl HL0.out ad p cap xs rfl Hn.out.symm w.heap.size HEx.out Hnil2.out (by omega) Hsz.out rfl ?_; intro v1 w1 h1 q1; have hb1 := HB'.out.grown q1 (Nat.le_trans HB.out.size Hsz.out) (fun k e => Nat.le_trans HB.out.size (own_block_le HL0.out e)); have own1 : w1.ownsRow wr.heap.size 25 2 v1 p (flat encK xs) := (by simpa [flat] using h1); obtain ⟨_, adi, capi, rfl, hki, _, _, hEi⟩ := own_elems own1; have HEi := hid hEi; have Hb1' := hid hb1; have Hki := hid hki; clear h1 q1 own1 hb1 hki hEi)))
        have hS1 := sort_any capi adi xs (by rw [← Hn.out]; exact Hki.out) (by have := Hn.out; omega) w1 HEi.out
        rw [← Hn.out] at hS1
        refine hS1.mono ?_
        rintro e w2 ⟨l, rfl, hl, hb2⟩
        obtain ⟨_, adl, capl, rfl, hkl, _, _, hEl⟩ := own_elems hl
        have hS2 := rsort_any ad cap xs (by rw [← Hn.out]; exact hcap) (by have := Hn.out; omega) w2 ((HI.out.below (Hb1'.out.trans (hb2.mono Hb1'.out.size))).mono (Nat.le_trans Hb1'.out.size hb2.size))
        rw [← Hn.out] at hS2
        have HS2 := hid hS2
        have HEl := hid hEl
        have Hb2 : Hid (Below w.heap.size w w2) := hid (Hb1'.out.trans (hb2.mono Hb1'.out.size))
        have HEi2 : Hid (Elems encK 2 w2.heap.size w2 adi xs) := hid ((HEi.out.below hb2).mono hb2.size)
        clear hS1 hS2 hl hb2 hEl
        go_wp2_with fail
        refine HS2.out.mono ?_
        rintro e w3 ⟨l', rfl, hr, hb3⟩
        obtain ⟨_, adr, capr, rfl, hkr, _, _, hEr⟩ := own_elems hr
        have HEr := hid hEr
        have HEl3 : Hid (Elems encK 2 w3.heap.size w3 adl (ksorted xs)) := hid ((HEl.out.below hb3).mono hb3.size)
        have HEi3 : Hid (Elems encK 2 w3.heap.size w3 adi xs) := hid ((HEi2.out.below hb3).mono hb3.size)
        have Hb3 : Hid (Below w.heap.size w w3) := hid (Hb2.out.trans (hb3.mono Hb2.out.size))
        have HLL : Hid ((ksorted xs).length ≤ 1000) := hid (by
          have h := (compact_le (ksort xs))
          rw [ksort_length] at h
          have := Hn.out
          exact Nat.le_trans h (by omega))
        clear hr hb3 hEr HS2 HEl HEi2 HEi
        generalize hks : ksorted xs = ks at *
        obtain ⟨L, hL⟩ : ∃ L, L = ks.length := ⟨_, rfl⟩
        rw [← hL] at hkl hkr ⊢
        have hLm : L ≤ 1000 := hL ▸ HLL.out
        have HLk := hid hL
        clear hL hks
        go_wp2
        go_loopg [47] L (fun g s47 wr => ∃ q : Nat, s47 = .int .i64 (q : Int) ∧ q ≤ L ∧ L - q ≤ g ∧ Hid (Below w3.heap.size w3 wr))
        case atStart => exact ⟨0, rfl, by omega, by omega, hid (Below.refl _ _)⟩
        case round =>
          obtain ⟨q, rfl, hq, hgq, HB4⟩ := hrel
          by_cases hlq : q < L
          · have hqx : q < ks.length := by have := HLk.out; omega
            obtain ⟨gl, ol, rfl, hgl, hrl⟩ := HEl3.out q hqx
            obtain ⟨gr, or', rfl, hgr, hrr⟩ := HEr.out q hqx
            obtain ⟨x, hx⟩ : ∃ x, x = ks[q] := ⟨_, rfl⟩
            have HXl : Hid (wr.drew.rangeAt gl (ol + q * 2) (encKL x)) := hid (hx ▸ rangeAt_below HB4.out hgl hrl)
            have HXr : Hid (wr.drew.rangeAt gr (or' + q * 2) (encKL x)) := hid (hx ▸ rangeAt_below HB4.out hgr hrr)
            have heqx := neq_key x.1 x.2 x.1 x.2
            have hxx : (x.1.toList == x.1.toList && x.2.toList == x.2.toList) = true := by simp
            rw [hxx] at heqx
            clear hxx hx hrl hrr
            go_wp2_with fail
            refine wp_region_held_drew (S := fun W => W = wr.drew) (by kernel_rfl) rfl (fun hS => ?_)
            change wpAnyH _ _ _ _ _ 9 #[false, false, false, false, false, false, false, false, false] _ _
            refine wpAnyH_take (i := 0) (v := .slice (some ⟨gl, ol, none⟩) L capl) rfl (by kernel_rfl) (by kernel_rfl) (by kernel_rfl) (fun _ _ _ h => h) (.inl ⟨by kernel_rfl, fun w' _ => by unfold execOp; go_simp⟩) hS ?_
            simp only [List.getElem_toArray, List.getElem_cons_zero, Act.put, List.setIfInBounds_toArray, List.set_cons_zero, List.set_cons_succ]
            refine wpAnyH_take (i := 1) (v := .int .i64 (q : Int)) rfl (by kernel_rfl) (by kernel_rfl) (by kernel_rfl) (fun _ _ _ h => h) (.inl ⟨by kernel_rfl, fun w' _ => by unfold execOp; go_simp⟩) hS ?_
            simp only [List.getElem_toArray, List.getElem_cons_zero, List.getElem_cons_succ, Act.put, List.setIfInBounds_toArray, List.set_cons_zero, List.set_cons_succ]
            refine wpAnyH_take (i := 2) (v := .pointer (some ⟨gl, ol + q * 2, none⟩)) rfl (by kernel_rfl) (by kernel_rfl) (by kernel_rfl) (fun _ _ _ h => h) (.inl ⟨by kernel_rfl, fun w' _ => by unfold execOp; go_simp; try (intro h; omega)⟩) hS ?_
            simp only [List.getElem_toArray, List.getElem_cons_zero, List.getElem_cons_succ, Act.put, List.setIfInBounds_toArray, List.set_cons_zero, List.set_cons_succ]
            refine wpAnyH_take (i := 3) (v := .agg #[.string x.1, .string x.2]) rfl (by kernel_rfl) (by kernel_rfl) (by kernel_rfl) (fun _ _ _ h => h) (yieldsIf_load_mid (by kernel_rfl) 25 (.tmp 52) rfl (gl) (ol + q * 2) rfl (encKL x) _ (fun w' hw' => hw' ▸ HXl.out) Tryd.underlying25 rfl Tryd.info3s) hS ?_
            simp only [List.getElem_toArray, List.getElem_cons_zero, List.getElem_cons_succ, Act.put, List.setIfInBounds_toArray, List.set_cons_zero, List.set_cons_succ]
            refine wpAnyH_take (i := 4) (v := .slice (some ⟨gr, or', none⟩) L capr) rfl (by kernel_rfl) (by kernel_rfl) (by kernel_rfl) (fun _ _ _ h => h) (.inl ⟨by kernel_rfl, fun w' _ => by unfold execOp; go_simp⟩) hS ?_
            simp only [List.getElem_toArray, List.getElem_cons_zero, List.getElem_cons_succ, Act.put, List.setIfInBounds_toArray, List.set_cons_zero, List.set_cons_succ]
            refine wpAnyH_take (i := 5) (v := .int .i64 (q : Int)) rfl (by kernel_rfl) (by kernel_rfl) (by kernel_rfl) (fun _ _ _ h => h) (.inl ⟨by kernel_rfl, fun w' _ => by unfold execOp; go_simp⟩) hS ?_
            simp only [List.getElem_toArray, List.getElem_cons_zero, List.getElem_cons_succ, Act.put, List.setIfInBounds_toArray, List.set_cons_zero, List.set_cons_succ]
            refine wpAnyH_take (i := 6) (v := .pointer (some ⟨gr, or' + q * 2, none⟩)) rfl (by kernel_rfl) (by kernel_rfl) (by kernel_rfl) (fun _ _ _ h => h) (.inl ⟨by kernel_rfl, fun w' _ => by unfold execOp; go_simp; try (intro h; omega)⟩) hS ?_
            simp only [List.getElem_toArray, List.getElem_cons_zero, List.getElem_cons_succ, Act.put, List.setIfInBounds_toArray, List.set_cons_zero, List.set_cons_succ]
            refine wpAnyH_take (i := 7) (v := .agg #[.string x.1, .string x.2]) rfl (by kernel_rfl) (by kernel_rfl) (by kernel_rfl) (fun _ _ _ h => h) (yieldsIf_load_mid (by kernel_rfl) 25 (.tmp 56) rfl (gr) (or' + q * 2) rfl (encKL x) _ (fun w' hw' => hw' ▸ HXr.out) Tryd.underlying25 rfl Tryd.info3s) hS ?_
            simp only [List.getElem_toArray, List.getElem_cons_zero, List.getElem_cons_succ, Act.put, List.setIfInBounds_toArray, List.set_cons_zero, List.set_cons_succ]
            refine wpAnyH_take (i := 8) (v := .bool false) rfl (by kernel_rfl) (by kernel_rfl) (by kernel_rfl) (fun _ _ _ h => h) (.inl ⟨by kernel_rfl, fun w' _ => by unfold execOp; simp [go_sem, heqx]⟩) hS ?_
            simp only [List.getElem_toArray, List.getElem_cons_zero, List.getElem_cons_succ, Act.put, List.setIfInBounds_toArray, List.set_cons_zero, List.set_cons_succ]
            refine wpAnyH_done (by kernel_rfl) ?_ _
            clear hS heqx
            go_wp2
            go_roundg (L - (q + 1))
            case measure => omega
            case rel => exact ⟨q + 1, by go_num, by omega, Nat.le_refl _, hid HB4.out.drew⟩
          · obtain rfl : q = L := by omega
            go_wp2
            go_loopg [62] p (fun g s62 wr => ∃ r : Nat, s62 = .int .i64 (r : Int) ∧ r ≤ p ∧ p - r ≤ g ∧ Hid (Below w3.heap.size w3 wr))
            case atStart => exact ⟨0, rfl, by omega, by omega, HB4⟩
            case round =>
              obtain ⟨r, rfl, hr, hgr, HB5⟩ := hrel
              by_cases hlr : r < p
              · have hrx : r < xs.length := by have := Hn.out; omega
                obtain ⟨g0, o0, rfl, hg0, hr0⟩ := HI.out r hrx
                obtain ⟨gi, oi, rfl, hgi, hri⟩ := HEi3.out r hrx
                obtain ⟨g1, o1, e1, hg1, hr1⟩ := HI.out 0 (by omega)
                cases e1
                have hn0 : 0 < p := by omega
                obtain ⟨x, hx⟩ : ∃ x, x = xs[r] := ⟨_, rfl⟩
                obtain ⟨y, hy⟩ : ∃ y, y = xs[0] := ⟨_, rfl⟩
                obtain ⟨V, hV⟩ : ∃ V, V = wr.alloc (.cells #[.string x.1, .string x.2] 25) := ⟨_, rfl⟩
                have HV := hid hV.symm
                have hw3 : Below w.heap.size w wr := Hb3.out.trans (HB5.out.mono Hb3.out.size)
                have HX : Hid (wr.rangeAt g0 (o0 + r * 2) (encKL x)) := hid (hx ▸ rangeAt_below hw3 hg0 hr0)
                have hBV : Below wr.heap.size wr V := hV ▸ (Below.refl _ _).alloc (Nat.le_refl _) _
                have HB5V : Hid (Below w3.heap.size w3 V) := hid (HB5.out.trans (hBV.mono HB5.out.size))
                have hwV : Below w.heap.size w V := hw3.trans (hBV.mono hw3.size)
                have HI1 : Hid (V.drew.rangeAt gi (oi + r * 2) (encKL x) ∧ gi < V.heap.size) := hid ⟨hx ▸ rangeAt_below HB5V.out hgi hri, Nat.lt_of_lt_of_le hgi HB5V.out.size⟩
                have HY1 : Hid (V.drew.rangeAt g0 o0 (encKL y) ∧ g0 < V.heap.size) := hid ⟨by have := rangeAt_below hwV hg0 hr1; rw [Nat.zero_mul, Nat.add_zero] at this; rw [hy]; exact this, Nat.lt_of_lt_of_le hg0 hwV.size⟩
                obtain ⟨gk, hgk⟩ : ∃ gk, gk = wr.heap.size := ⟨_, rfl⟩
                have Hgk := hid hgk.symm
                have HK1 : Hid (V.drew.rangeAt gk 0 (encKL x) ∧ gk < V.heap.size) := hid (by
                  obtain ⟨g1', o1', e1', _, hr1'⟩ := (elems_one wr x 25) 0 (by simp)
                  cases e1'
                  rw [hgk, ← HV.out]
                  exact ⟨hr1', by rw [World.size_alloc]; omega⟩)
                have heqx := neq_key x.1 x.2 x.1 x.2
                have hxx : (x.1.toList == x.1.toList && x.2.toList == x.2.toList) = true := by simp
                rw [hxx] at heqx
                have HC := hid (kcompare_any x.1 x.2 y.1 y.2)
                have HD := hid (rkcompare_any x.1 x.2 y.1 y.2)
                generalize kcmp x.1 x.2 y.1 y.2 = c at HC HD
                clear hxx hx hy hr0 hri hr1 hV hgk hBV hwV hw3
                go_wp2_with (first
                  | ((show wpList _ _ _ (⟨some 66, _, _, _, _, _⟩ :: _) _ _); go_must (refine wpList_load_mid rfl 25 (.tmp 65) rfl g0 (o0 + r * 2) rfl (encKL x) _ HX.out Tryd.underlying25 rfl Tryd.info3s ?_))
                  | ((show wpList _ _ _ (⟨none, _, _, _, _, _⟩ :: _) _ _); go_must (refine wpl_store 25 (.tmp 10) (.tmp 66) rfl wr.heap.size #[.string x.1, .string x.2] rfl rfl 25 _ (Blk.new wr _ _) 2 Tryd.infoKey rfl rfl (encK_one x) rfl ?_; rw [setRow_new, HV.out, Hgk.out])))

                refine wp_region_held_drew (S := fun W => Below V.heap.size V.drew W) (by kernel_rfl) (Below.refl _ _) (fun hS => ?_)
                change wpAnyH _ _ _ _ _ 19 #[false, false, false, false, false, false, false, false, false, false, false, false, false, false, false, false, false, false, false] _ _
                refine wpAnyH_take (i := 0) (v := .slice (some ⟨gi, oi, none⟩) p capi) rfl (by kernel_rfl) (by kernel_rfl) (by kernel_rfl) (fun _ _ _ h => h) (.inl ⟨by kernel_rfl, fun w' _ => by unfold execOp; go_simp⟩) hS ?_
                simp only [List.getElem_toArray, List.getElem_cons_zero, Act.put, List.setIfInBounds_toArray, List.set_cons_zero, List.set_cons_succ]
                refine wpAnyH_take (i := 1) (v := .int .i64 (r : Int)) rfl (by kernel_rfl) (by kernel_rfl) (by kernel_rfl) (fun _ _ _ h => h) (.inl ⟨by kernel_rfl, fun w' _ => by unfold execOp; go_simp⟩) hS ?_
                simp only [List.getElem_toArray, List.getElem_cons_zero, List.getElem_cons_succ, Act.put, List.setIfInBounds_toArray, List.set_cons_zero, List.set_cons_succ]
                refine wpAnyH_take (i := 2) (v := .pointer (some ⟨gi, oi + r * 2, none⟩)) rfl (by kernel_rfl) (by kernel_rfl) (by kernel_rfl) (fun _ _ _ h => h) (.inl ⟨by kernel_rfl, fun w' _ => by unfold execOp; go_simp; try (intro h; omega)⟩) hS ?_
                simp only [List.getElem_toArray, List.getElem_cons_zero, List.getElem_cons_succ, Act.put, List.setIfInBounds_toArray, List.set_cons_zero, List.set_cons_succ]
                refine wpAnyH_take (i := 3) (v := .agg #[.string x.1, .string x.2]) rfl (by kernel_rfl) (by kernel_rfl) (by kernel_rfl) (fun _ _ _ h => h) (yieldsIf_load_mid (by kernel_rfl) 25 (.tmp 69) rfl (gi) (oi + r * 2) rfl (encKL x) _ (fun w' hw' => rangeAt_below hw' HI1.out.2 HI1.out.1) Tryd.underlying25 rfl Tryd.info3s) hS ?_
                simp only [List.getElem_toArray, List.getElem_cons_zero, List.getElem_cons_succ, Act.put, List.setIfInBounds_toArray, List.set_cons_zero, List.set_cons_succ]
                refine wpAnyH_take (i := 4) (v := .agg #[.string x.1, .string x.2]) rfl (by kernel_rfl) (by kernel_rfl) (by kernel_rfl) (fun _ _ _ h => h) (yieldsIf_load_mid (by kernel_rfl) 25 (.tmp 10) rfl (gk) (0) rfl (encKL x) _ (fun w' hw' => rangeAt_below hw' HK1.out.2 HK1.out.1) Tryd.underlying25 rfl Tryd.info3s) hS ?_
                simp only [List.getElem_toArray, List.getElem_cons_zero, List.getElem_cons_succ, Act.put, List.setIfInBounds_toArray, List.set_cons_zero, List.set_cons_succ]
                refine wpAnyH_take (i := 5) (v := .bool false) rfl (by kernel_rfl) (by kernel_rfl) (by kernel_rfl) (fun _ _ _ h => h) (.inl ⟨by kernel_rfl, fun w' _ => by unfold execOp; simp [go_sem, heqx]⟩) hS ?_
                simp only [List.getElem_toArray, List.getElem_cons_zero, List.getElem_cons_succ, Act.put, List.setIfInBounds_toArray, List.set_cons_zero, List.set_cons_succ]
                refine wpAnyH_take (i := 6) (v := .bool false) rfl (by kernel_rfl) (by kernel_rfl) (by kernel_rfl) (fun _ _ _ h => h) (.inl ⟨by kernel_rfl, fun w' _ => by unfold execOp; go_simp⟩) hS ?_
                simp only [List.getElem_toArray, List.getElem_cons_zero, List.getElem_cons_succ, Act.put, List.setIfInBounds_toArray, List.set_cons_zero, List.set_cons_succ]
                refine wpAnyH_take (i := 7) (v := .agg #[.string x.1, .string x.2]) rfl (by kernel_rfl) (by kernel_rfl) (by kernel_rfl) (fun _ _ _ h => h) (yieldsIf_load_mid (by kernel_rfl) 25 (.tmp 10) rfl (gk) (0) rfl (encKL x) _ (fun w' hw' => rangeAt_below hw' HK1.out.2 HK1.out.1) Tryd.underlying25 rfl Tryd.info3s) hS ?_
                simp only [List.getElem_toArray, List.getElem_cons_zero, List.getElem_cons_succ, Act.put, List.setIfInBounds_toArray, List.set_cons_zero, List.set_cons_succ]
                refine wpAnyH_take (i := 8) (v := .slice (some ⟨g0, o0, none⟩) p cap) rfl (by kernel_rfl) (by kernel_rfl) (by kernel_rfl) (fun _ _ _ h => h) (.inl ⟨by kernel_rfl, fun w' _ => by unfold execOp; go_simp⟩) hS ?_
                simp only [List.getElem_toArray, List.getElem_cons_zero, List.getElem_cons_succ, Act.put, List.setIfInBounds_toArray, List.set_cons_zero, List.set_cons_succ]
                refine wpAnyH_take (i := 9) (v := .pointer (some ⟨g0, o0, none⟩)) rfl (by kernel_rfl) (by kernel_rfl) (by kernel_rfl) (fun _ _ _ h => h) (.inl ⟨by kernel_rfl, fun w' _ => by unfold execOp; go_simp; try (intro h; omega)⟩) hS ?_
                simp only [List.getElem_toArray, List.getElem_cons_zero, List.getElem_cons_succ, Act.put, List.setIfInBounds_toArray, List.set_cons_zero, List.set_cons_succ]
                refine wpAnyH_take (i := 10) (v := .agg #[.string y.1, .string y.2]) rfl (by kernel_rfl) (by kernel_rfl) (by kernel_rfl) (fun _ _ _ h => h) (yieldsIf_load_mid (by kernel_rfl) 25 (.tmp 76) rfl (g0) (o0) rfl (encKL y) _ (fun w' hw' => rangeAt_below hw' HY1.out.2 HY1.out.1) Tryd.underlying25 rfl Tryd.info3s) hS ?_
                simp only [List.getElem_toArray, List.getElem_cons_zero, List.getElem_cons_succ, Act.put, List.setIfInBounds_toArray, List.set_cons_zero, List.set_cons_succ]
                refine wpAnyH_take (i := 12) (v := .agg #[.string x.1, .string x.2]) rfl (by kernel_rfl) (by kernel_rfl) (by kernel_rfl) (fun _ _ _ h => h) (yieldsIf_load_mid (by kernel_rfl) 25 (.tmp 10) rfl (gk) (0) rfl (encKL x) _ (fun w' hw' => rangeAt_below hw' HK1.out.2 HK1.out.1) Tryd.underlying25 rfl Tryd.info3s) hS ?_
                simp only [List.getElem_toArray, List.getElem_cons_zero, List.getElem_cons_succ, Act.put, List.setIfInBounds_toArray, List.set_cons_zero, List.set_cons_succ]
                refine wpAnyH_take (i := 13) (v := .slice (some ⟨g0, o0, none⟩) p cap) rfl (by kernel_rfl) (by kernel_rfl) (by kernel_rfl) (fun _ _ _ h => h) (.inl ⟨by kernel_rfl, fun w' _ => by unfold execOp; go_simp⟩) hS ?_
                simp only [List.getElem_toArray, List.getElem_cons_zero, List.getElem_cons_succ, Act.put, List.setIfInBounds_toArray, List.set_cons_zero, List.set_cons_succ]
                refine wpAnyH_take (i := 14) (v := .pointer (some ⟨g0, o0, none⟩)) rfl (by kernel_rfl) (by kernel_rfl) (by kernel_rfl) (fun _ _ _ h => h) (.inl ⟨by kernel_rfl, fun w' _ => by unfold execOp; go_simp; try (intro h; omega)⟩) hS ?_
                simp only [List.getElem_toArray, List.getElem_cons_zero, List.getElem_cons_succ, Act.put, List.setIfInBounds_toArray, List.set_cons_zero, List.set_cons_succ]
                refine wpAnyH_take (i := 15) (v := .agg #[.string y.1, .string y.2]) rfl (by kernel_rfl) (by kernel_rfl) (by kernel_rfl) (fun _ _ _ h => h) (yieldsIf_load_mid (by kernel_rfl) 25 (.tmp 81) rfl (g0) (o0) rfl (encKL y) _ (fun w' hw' => rangeAt_below hw' HY1.out.2 HY1.out.1) Tryd.underlying25 rfl Tryd.info3s) hS ?_
                simp only [List.getElem_toArray, List.getElem_cons_zero, List.getElem_cons_succ, Act.put, List.setIfInBounds_toArray, List.set_cons_zero, List.set_cons_succ]
                refine wpAnyH_ready (rs := [11]) (by kernel_rfl) (by simp) ?_
                refine AllReadyH.cons rfl (fun K' hK => ?_) AllReadyH.nil
                refine r_call 8 #[.agg #[.string x.1, .string x.2], .agg #[.string y.1, .string y.2]] (by kernel_rfl) (by kernel_rfl) (.int .i64 c) (HC.out _) (fun W1 h => hK.out _ _ (hS.trans (h.1.mono hS.size)) (fun hS => ?_))
                simp only [List.getElem_toArray, List.getElem_cons_zero, List.getElem_cons_succ, Act.put, List.setIfInBounds_toArray, List.set_cons_zero, List.set_cons_succ]
                refine wpAnyH_ready (rs := [16]) (by kernel_rfl) (by simp) ?_
                refine AllReadyH.cons rfl (fun K' hK => ?_) AllReadyH.nil
                refine r_call 9 #[.agg #[.string x.1, .string x.2], .agg #[.string y.1, .string y.2]] (by kernel_rfl) (by kernel_rfl) (.int .i64 c) (HD.out _) (fun W2 h => hK.out _ _ (hS.trans (h.mono hS.size)) (fun hS => ?_))
                simp only [List.getElem_toArray, List.getElem_cons_zero, List.getElem_cons_succ, Act.put, List.setIfInBounds_toArray, List.set_cons_zero, List.set_cons_succ]
                refine wpAnyH_take (i := 17) (v := .bool false) rfl (by kernel_rfl) (by kernel_rfl) (by kernel_rfl) (fun _ _ _ h => h) (.inl ⟨by kernel_rfl, fun w' _ => by unfold execOp; simp [go_sem]⟩) hS ?_
                simp only [List.getElem_toArray, List.getElem_cons_zero, List.getElem_cons_succ, Act.put, List.setIfInBounds_toArray, List.set_cons_zero, List.set_cons_succ]
                refine wpAnyH_take (i := 18) (v := .bool false) rfl (by kernel_rfl) (by kernel_rfl) (by kernel_rfl) (fun _ _ _ h => h) (.inl ⟨by kernel_rfl, fun w' _ => by unfold execOp; go_simp⟩) hS ?_
                simp only [List.getElem_toArray, List.getElem_cons_zero, List.getElem_cons_succ, Act.put, List.setIfInBounds_toArray, List.set_cons_zero, List.set_cons_succ]
                refine wpAnyH_done (by kernel_rfl) ?_ _
                have HBE : Hid (Below w3.heap.size w3 W2) := hid (HB5V.out.drew.trans (hS.mono HB5V.out.size))
                clear hS heqx
                go_wp2
                go_roundg (p - (r + 1))
                case measure => omega
                case rel => exact ⟨r + 1, by go_num, by omega, Nat.le_refl _, HBE⟩
              · obtain rfl : r = p := by omega
                have F : Hid (Below w.heap.size w wr) := hid (Hb3.out.trans (HB5.out.mono Hb3.out.size))
                go_wp2
                go_ret
                exact ⟨rfl, F.out⟩
end Go.Proofs.YtnlhdeffoalhiaaDoor
