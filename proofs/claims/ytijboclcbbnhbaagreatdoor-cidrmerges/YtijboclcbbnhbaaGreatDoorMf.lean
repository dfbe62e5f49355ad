/-
  The document's Merge of whatever list; two rows of cidrs held against each other; what one of all contains, one of the merged ones contains.
  The walk of CidrMerges.
-/
import Derived.Test.YtijboclcbbnhbaaGreatDoorMe
namespace Go.Proofs.YtijboclcbbnhbaaGreatDoor
open Go.RowKit Go.Shelf Go.Lib Go.Sort

theorem csort_cmp (xs : List CS) : (csort xs).Pairwise fun a b => cmpS a b ≤ 0 := List.pairwise_map.1 (csort_sorted xs)
theorem csort_in (xs : List CS) (a : CS) : a ∈ csort xs ↔ a ∈ xs := (csort_perm xs).mem_iff
theorem kept_doc (xs rs : List CS) (h : DocOf cmpS covS rightS xs xs.length rs) : rs = kept (csort xs) := (merge_same cidrS_cov xs (csort xs) rs (fun _ _ => trivial) (csort_cmp xs) (csort_in xs) h).symm
theorem kept_mem (xs : List CS) (a : CS) : a ∈ kept (csort xs) ↔ Top covS rightS xs a := by
  have h := keep_all cidrS_cov xs (fun _ _ => trivial) (csort xs) [] [] (by simpa using csort_cmp xs) (fun a => by simpa using csort_in xs a) ⟨List.Pairwise.nil, fun a => by simp⟩
  have h2 := h.2 a
  rw [List.nil_append] at h2
  exact h2.trans ⟨fun h => h.2, fun h => ⟨(csort_in xs a).2 h.1, h⟩⟩
theorem anyS_kept (xs : List CS) (sa : Bool) (A : List Nat) : anyS (kept (csort xs)) sa A = anyS xs sa A := by
  unfold anyS
  rw [Bool.eq_iff_iff, List.any_eq_true, List.any_eq_true]
  constructor
  · rintro ⟨c, hc, h⟩
    exact ⟨c, ((kept_mem xs c).1 hc).1, h⟩
  · rintro ⟨c, hc, h⟩
    have hr : rightS c = true := by
      simp only [contT, containsC, Bool.and_eq_true] at h
      exact h.1
    obtain ⟨t, ht, hcov⟩ := least_top cidrS_cov xs (fun _ _ => trivial) c hc _ c hc (cidrS_cov.self c trivial hr) (Nat.le_refl _)
    exact ⟨t, (kept_mem xs t).2 ht, cont_through t.1 c.1 t.2 c.2 hcov sa A h⟩

set_option maxHeartbeats 1000000 in
theorem rmerge_nil (ad : Option Addr) (cap0 : Nat) (w : World) : Calls Tryz.prog 8 #[.slice ad 0 cap0] w (CollEnd [] encA w) := by
  obtain ⟨W0, hW0⟩ : ∃ W, W = w.alloc (.cells #[] 29) := ⟨_, rfl⟩
  have HW0 := hid hW0.symm
  have F : Hid (CollEnd [] encA w (.returned (.slice (some ⟨w.heap.size, 0, none⟩) 0 0)) W0) := hid (by
    subst hW0
    exact ⟨_, rfl, lit0_own w _ (Nat.le_refl _), (Below.refl _ _).alloc (Nat.le_refl _) _⟩)
  clear hW0
  go_enter Tryz.func8, Tryz.ntmps8
  go_wp2
  rw [HW0.out]
  go_loopg [3, 13] 0 (fun g s3 s13 wr => s3 = .slice (some ⟨w.heap.size, 0, none⟩) 0 0 ∧ s13 = .int .i64 0 ∧ wr = W0)
  case atStart => exact ⟨rfl, rfl, rfl⟩
  case round =>
    obtain ⟨rfl, rfl, rfl⟩ := hrel
    go_wp2
    go_ret
    exact F.out

theorem rmerge_any (ad : Option Addr) (cap0 : Nat) (xs : List CS) (hcap : xs.length ≤ cap0) (hm : xs.length ≤ 1000) (w : World) (hI : Elems encA 18 w.heap.size w ad xs) :
    Calls Tryz.prog 8 #[.slice ad xs.length cap0] w (CollEnd (kept (csort xs)) encA w) := by
  cases xs with
  | nil =>
    have e : kept (csort []) = [] := by simp [csort, kept]
    rw [e]
    exact rmerge_nil ad cap0 w
  | cons x xs =>
    obtain ⟨g, of, rfl, hg, _⟩ := hI 0 (by simp)
    refine (rmerge_some cap0 g of (x :: xs) hcap hm w hg (fun j hj => ?_)).mono ?_
    · obtain ⟨g1, o1, e, _, h⟩ := hI j hj
      cases e
      exact h
    · rintro e w' ⟨v, rs, rfl, h1, h2, h3⟩
      have := kept_doc _ rs h3
      subst this
      exact ⟨v, rfl, h1, h2⟩

set_option maxRecDepth 100000 in
set_option maxHeartbeats 4000000 in
theorem same_any (ad1 ad2 : Option Addr) (cap1 cap2 : Nat) (xs : List CS) (h1 : xs.length ≤ cap1) (h2 : xs.length ≤ cap2) (hm : xs.length ≤ 1000) (w : World) (hI1 : Elems encA 18 w.heap.size w ad1 xs) (hI2 : Elems encA 18 w.heap.size w ad2 xs) :
    Calls Tryz.prog 7 #[.slice ad1 xs.length cap1, .slice ad2 xs.length cap2] w fun e w' => e = .returned (.bool true) ∧ Below w.heap.size w w' := by
  obtain ⟨n, hn⟩ : ∃ n, n = xs.length := ⟨_, rfl⟩
  rw [← hn] at h1 h2 hm ⊢
  have Hn := hid hn
  have HI1 := hid hI1
  have HI2 := hid hI2
  clear hn hI1 hI2
  go_enter Tryz.func7, Tryz.ntmps7
  go_wp2
  go_loopg [13] n (fun g s13 wr => ∃ p : Nat, s13 = .int .i64 (p : Int) ∧ p ≤ n ∧ n - p ≤ g ∧ Hid (Below w.heap.size w wr))
  case atStart => exact ⟨0, rfl, by omega, by omega, hid (Below.refl _ _)⟩
  case round =>
    obtain ⟨p, rfl, hp, hgp, HB⟩ := hrel
    by_cases hlt : p < n
    · have hpx : p < xs.length := by have := Hn.out; omega
      obtain ⟨gl, ol, rfl, hgl, hrl⟩ := HI1.out p hpx
      obtain ⟨gr, or', rfl, hgr, hrr⟩ := HI2.out p hpx
      obtain ⟨x, hx⟩ : ∃ x, x = xs[p] := ⟨_, rfl⟩
      have HXl : Hid (wr.drew.rangeAt gl (ol + p * 18) (encC x)) := hid (hx ▸ rangeAt_below HB.out hgl hrl)
      have HXr : Hid (wr.drew.rangeAt gr (or' + p * 18) (encC x)) := hid (hx ▸ rangeAt_below HB.out hgr hrr)
      have hneq := neqS x x
      rw [show decide (x ≠ x) = false by simp] at hneq
      clear hx hrl hrr
      go_wp2_with fail
      refine wp_region_held_drew (S := fun W => W = wr.drew) (by kernel_rfl) rfl (fun hS => ?_)
      change wpAnyH _ _ _ _ _ 9 #[false, false, false, false, false, false, false, false, false] _ _
      refine wpAnyH_take (i := 0) (v := .slice (some ⟨gl, ol, none⟩) n cap1) rfl (by kernel_rfl) (by kernel_rfl) (by kernel_rfl) (fun _ _ _ h => h) (.inl ⟨by kernel_rfl, fun w' _ => by unfold execOp; go_simp⟩) hS ?_
      simp only [List.getElem_toArray, List.getElem_cons_zero, Act.put, List.setIfInBounds_toArray, List.set_cons_zero, List.set_cons_succ]
      refine wpAnyH_take (i := 1) (v := .int .i64 (p : Int)) rfl (by kernel_rfl) (by kernel_rfl) (by kernel_rfl) (fun _ _ _ h => h) (.inl ⟨by kernel_rfl, fun w' _ => by unfold execOp; go_simp⟩) hS ?_
      simp only [List.getElem_toArray, List.getElem_cons_zero, List.getElem_cons_succ, Act.put, List.setIfInBounds_toArray, List.set_cons_zero, List.set_cons_succ]
      refine wpAnyH_take (i := 2) (v := .pointer (some ⟨gl, ol + p * 18, none⟩)) rfl (by kernel_rfl) (by kernel_rfl) (by kernel_rfl) (fun _ _ _ h => h) (.inl ⟨by kernel_rfl, fun w' _ => by unfold execOp; go_simp; try (intro h; omega)⟩) hS ?_
      simp only [List.getElem_toArray, List.getElem_cons_zero, List.getElem_cons_succ, Act.put, List.setIfInBounds_toArray, List.set_cons_zero, List.set_cons_succ]
      refine wpAnyH_take (i := 3) (v := .agg (encA x)) rfl (by kernel_rfl) (by kernel_rfl) (by kernel_rfl) (fun _ _ _ h => h) (yieldsC (by kernel_rfl) (.tmp 18) rfl (gl) (ol + p * 18) rfl x (fun w' hw' => hw' ▸ HXl.out)) hS ?_
      simp only [List.getElem_toArray, List.getElem_cons_zero, List.getElem_cons_succ, Act.put, List.setIfInBounds_toArray, List.set_cons_zero, List.set_cons_succ]
      refine wpAnyH_take (i := 4) (v := .slice (some ⟨gr, or', none⟩) n cap2) rfl (by kernel_rfl) (by kernel_rfl) (by kernel_rfl) (fun _ _ _ h => h) (.inl ⟨by kernel_rfl, fun w' _ => by unfold execOp; go_simp⟩) hS ?_
      simp only [List.getElem_toArray, List.getElem_cons_zero, List.getElem_cons_succ, Act.put, List.setIfInBounds_toArray, List.set_cons_zero, List.set_cons_succ]
      refine wpAnyH_take (i := 5) (v := .int .i64 (p : Int)) rfl (by kernel_rfl) (by kernel_rfl) (by kernel_rfl) (fun _ _ _ h => h) (.inl ⟨by kernel_rfl, fun w' _ => by unfold execOp; go_simp⟩) hS ?_
      simp only [List.getElem_toArray, List.getElem_cons_zero, List.getElem_cons_succ, Act.put, List.setIfInBounds_toArray, List.set_cons_zero, List.set_cons_succ]
      refine wpAnyH_take (i := 6) (v := .pointer (some ⟨gr, or' + p * 18, none⟩)) rfl (by kernel_rfl) (by kernel_rfl) (by kernel_rfl) (fun _ _ _ h => h) (.inl ⟨by kernel_rfl, fun w' _ => by unfold execOp; go_simp; try (intro h; omega)⟩) hS ?_
      simp only [List.getElem_toArray, List.getElem_cons_zero, List.getElem_cons_succ, Act.put, List.setIfInBounds_toArray, List.set_cons_zero, List.set_cons_succ]
      refine wpAnyH_take (i := 7) (v := .agg (encA x)) rfl (by kernel_rfl) (by kernel_rfl) (by kernel_rfl) (fun _ _ _ h => h) (yieldsC (by kernel_rfl) (.tmp 22) rfl (gr) (or' + p * 18) rfl x (fun w' hw' => hw' ▸ HXr.out)) hS ?_
      simp only [List.getElem_toArray, List.getElem_cons_zero, List.getElem_cons_succ, Act.put, List.setIfInBounds_toArray, List.set_cons_zero, List.set_cons_succ]
      refine wpAnyH_take (i := 8) (v := .bool false) rfl (by kernel_rfl) (by kernel_rfl) (by kernel_rfl) (fun _ _ _ h => h) (.inl ⟨by kernel_rfl, fun w' _ => by unfold execOp; simp [go_sem, hneq]⟩) hS ?_
      simp only [List.getElem_toArray, List.getElem_cons_zero, List.getElem_cons_succ, Act.put, List.setIfInBounds_toArray, List.set_cons_zero, List.set_cons_succ]
      refine wpAnyH_done (by kernel_rfl) ?_ _
      have HB2 : Hid (Below w.heap.size w wr.drew) := hid HB.out.drew
      clear hS hneq
      go_wp2
      go_roundg (n - (p + 1))
      case measure => omega
      case rel => exact ⟨p + 1, by go_num, by omega, Nat.le_refl _, HB2⟩
    · obtain rfl : p = n := by omega
      go_wp2
      go_ret
      exact ⟨rfl, HB.out⟩
end Go.Proofs.YtijboclcbbnhbaaGreatDoor

namespace Go.Proofs.YtijboclcbbnhbaaGreatDoor
open Go.RowKit Go.Shelf Go.Lib Go.Sort

theorem anyS_take (xs : List CS) (sa : Bool) (A : List Nat) (p : Nat) (hp : p < xs.length) : anyS (xs.take (p + 1)) sa A = (anyS (xs.take p) sa A || contT xs[p].1 sa A) := by
  unfold anyS
  rw [List.take_succ_eq_append_getElem hp, List.any_append]
  simp

set_option maxHeartbeats 1000000 in
theorem lmerges_long (ad : Option Addr) (cap len : Nat) (hl : 30 < len) (sa : Bool) (A : List Nat) (w : World) (hE : CEnv w) :
    Calls Tryz.prog 3 #[.slice ad len cap, .agg (adr sa (ints A))] w fun e w' => e = .returned (.bool true) ∧ Below w.heap.size w w' := by
  obtain ⟨W0, hW0⟩ : ∃ W, W = w.alloc (.cells (adr sa (ints A)) 25) := ⟨_, rfl⟩
  have hb0 : Below w.heap.size w W0 := hW0 ▸ (Below.refl _ _).alloc (Nat.le_refl _) _
  have HW0 := hid hW0.symm
  have Hb0 := hid hb0
  have HA := hid (calive_s W0 (hE.kept hb0))
  clear hW0 hb0 hE
  go_enter Tryz.func3, Tryz.ntmps3
  go_upto_region 1 with fail
  rw [HW0.out]
  go_wp2_with fail
  refine HA.out.mono ?_
  rintro e w1 ⟨rfl, hb⟩
  have Hb := hid (bel2 Hb0.out hb)
  clear hb
  go_wp2
  go_ret
  exact ⟨rfl, Hb.out⟩

set_option maxRecDepth 100000 in
set_option maxHeartbeats 8000000 in
theorem lmerges_short (ad : Option Addr) (cap : Nat) (xs : List CS) (hcap : xs.length ≤ cap) (hm : xs.length ≤ 30) (hnil : ad = none → xs.length = 0 ∧ cap = 0) (sa : Bool) (A : List Nat) (hla : A.length = 16) (hA : ∀ x ∈ A, x < 256) (w : World) (hE : CEnv w) (hI : Elems encA 18 w.heap.size w ad xs) :
    Calls Tryz.prog 3 #[.slice ad xs.length cap, .agg (adr sa (ints A))] w fun e w' => e = .returned (.bool true) ∧ Below w.heap.size w w' := by
  obtain ⟨W0, hW0⟩ : ∃ W, W = w.alloc (.cells (adr sa (ints A)) 25) := ⟨_, rfl⟩
  have hb0 : Below w.heap.size w W0 := hW0 ▸ (Below.refl _ _).alloc (Nat.le_refl _) _
  have hB0 : Blk W0 w.heap.size 25 (adr sa (ints A)) := hW0 ▸ Blk.new w _ _
  have HW0 := hid hW0.symm
  have HA := hid (calive_s W0 (hE.kept hb0))
  have Hb0 := hid hb0
  have HB0 := hid hB0
  have HE := hid (hE.kept hb0)
  obtain ⟨n, hn⟩ : ∃ n, n = xs.length := ⟨_, rfl⟩
  have Hn := hid hn
  have HI := hid ((hI.below hb0).mono hb0.size)
  have Hnil : Hid (ad = none → n = 0 ∧ cap = 0) := hid (hn ▸ hnil)
  have L17 : Hid (17 = (adr sa (ints A)).size) := hid (by rw [adr_size, ints_length, hla])
  have HCon := hid (fun x W => rcont_s x sa A hla hA W)
  have HAny : Hid (∀ ad cap xs, xs.length ≤ cap → xs.length ≤ 100000 → ∀ W, CEnv W → Elems encA 18 W.heap.size W ad xs → Calls Tryz.prog 9 #[.slice ad xs.length cap, .agg (adr sa (ints A))] W fun e w' => e = .returned (.bool (anyS xs sa A)) ∧ Below W.heap.size W w') := hid (fun ad cap xs h1 h2 W h3 h4 => cany_any sa A hla hA ad cap xs h1 h2 W h3 h4)
  rw [← hn] at hcap hm ⊢
  clear hW0 hb0 hB0 hE hn hI hnil hla hA
  go_enter Tryz.func3, Tryz.ntmps3
  go_upto_region 1 with fail
  rw [HW0.out]
  go_wp2_with fail
  refine HA.out.mono ?_
  rintro e w1 ⟨rfl, hb1⟩
  have Hb1 : Hid (Below W0.heap.size W0 w1) := hid hb1
  obtain ⟨W1, hW1⟩ : ∃ W, W = w1.alloc (.cells #[] 29) := ⟨_, rfl⟩
  have hbW1 : Below w1.heap.size w1 W1 := hW1 ▸ (Below.refl _ _).alloc (Nat.le_refl _) _
  have HW1 := hid hW1.symm
  have HbW1 : Hid (Below W0.heap.size W0 W1) := hid (bel2 hb1 hbW1)
  have HO1 : Hid (W1.ownsRow W0.heap.size 29 18 (.slice (some ⟨w1.heap.size, 0, none⟩) 0 0) 0 (flatY encA [])) := hid (hW1 ▸ lit0_own w1 W0.heap.size hb1.size)
  have HI1 : Hid (Elems encA 18 W0.heap.size W1 ad xs) := hid (HI.out.below (bel2 hb1 hbW1))
  clear hb1 hW1 hbW1 HA
  go_wp2_with ((show wpList _ _ _ (⟨some 17, _, _, _, _, _⟩ :: _) _ _); go_must ((try rw [HW1.out]); refine wpl_appY (.tmp 15) (.tmp 16) rfl W0.heap.size _ 0 _ rfl HO1.out ad n cap xs rfl Hn.out.symm W0.heap.size HI1.out Hnil.out (by omega) HbW1.out.size rfl ?_; intro v2 w2 h2 q2; have hb2 := HbW1.out.grown q2 HbW1.out.size (fun k e => own_block_le HO1.out e); have own2 : w2.ownsRow W0.heap.size 29 18 v2 n (flatY encA xs) := (by simpa [flatY] using h2); obtain ⟨_, adi, capi, rfl, hki, _, _, hEi⟩ := own_elems own2; have HEi := hid hEi; have Hb2 := hid hb2; have Hki := hid hki; clear h2 q2 own2 hb2 hki hEi))
  have hS1 := cmerge_any adi capi xs (by rw [← Hn.out]; exact Hki.out) (by have := Hn.out; omega) w2 (HE.out.kept Hb2.out) HEi.out
  rw [← Hn.out] at hS1
  refine hS1.mono ?_
  rintro e w3 ⟨l, rfl, hl, hb3⟩
  obtain ⟨hll, adl, capl, rfl, hkl, _, _, hEl⟩ := own_elems hl
  obtain ⟨ks, hks⟩ : ∃ ks, ks = kept (csort xs) := ⟨_, rfl⟩
  rw [← hks] at hll hkl hEl hl ⊢
  obtain ⟨K, hK⟩ : ∃ K, K = ks.length := ⟨_, rfl⟩
  rw [← hK] at hll hkl ⊢
  have HK := hid hK
  have HKs := hid hks
  have HKl : Hid (K ≤ 30) := hid (by
    have h := kept_len (csort xs) []
    rw [csort_length] at h
    have h3 : ks.length ≤ xs.length := by rw [hks]; unfold kept; simpa using h
    have := Hn.out
    omega)
  have Hkl := hid hkl
  have HEl := hid hEl
  have Hb3 : Hid (Below W0.heap.size W0 w3) := hid (Hb2.out.trans (hb3.mono Hb2.out.size))
  have HEi3 : Hid (Elems encA 18 w3.heap.size w3 adi xs) := hid ((HEi.out.below hb3).mono hb3.size)
  have HI3 : Hid (Elems encA 18 w3.heap.size w3 ad xs) := hid ((HI.out.below Hb3.out).mono Hb3.out.size)
  clear hS1 hl hb3 hll hkl hEl hK hks HEi HI1 HO1 HbW1
  go_wp2
  go_loopg [7, 22] n (fun g s7 s22 wr => ∃ (p : Nat) (b : Bool), s22 = .int .i64 (p : Int) ∧ p ≤ n ∧ n - p ≤ g ∧ s7 = .bool b ∧ Hid (Below w3.heap.size w3 wr) ∧ Hid (b = anyS (xs.take p) sa A))
  case atStart => exact ⟨0, false, rfl, by omega, by omega, rfl, hid (Below.refl _ _), hid rfl⟩
  case round =>
    obtain ⟨p, b, rfl, hp, hgp, rfl, HB, HF⟩ := hrel
    by_cases hlt : p < n
    · have hpx : p < xs.length := by have := Hn.out; omega
      obtain ⟨g0, o0, rfl, hg0, hr0⟩ := HI3.out p hpx
      obtain ⟨x, hx⟩ : ∃ x, x = xs[p] := ⟨_, rfl⟩
      have HX : Hid (wr.rangeAt g0 (o0 + p * 18) (encC x)) := hid (hx ▸ rangeAt_below HB.out hg0 hr0)
      have HT : Hid (anyS (xs.take (p + 1)) sa A = (b || contT x.1 sa A)) := hid (by rw [anyS_take xs sa A p hpx, HF.out, hx])
      obtain ⟨V, hV⟩ : ∃ V, V = wr.alloc (.cells (encA x) 29) := ⟨_, rfl⟩
      have hbV : Below wr.heap.size wr V := hV ▸ (Below.refl _ _).alloc (Nat.le_refl _) _
      have HV := hid hV.symm
      have HBV : Hid (Below w3.heap.size w3 V) := hid (bel2 HB.out hbV)
      obtain ⟨g9, hg9⟩ : ∃ g9, g9 = wr.heap.size := ⟨_, rfl⟩
      have HK9 : Hid (Blk V g9 29 (encA x)) := hid (hV ▸ hg9 ▸ Blk.new wr _ _)
      have L9 : Hid (wr.heap.size = g9) := hid hg9.symm
      have HBa : Hid (Blk V w.heap.size 25 (adr sa (ints A))) := hid ((HB0.out.kept Hb3.out).kept HBV.out)
      have HCx := hid (HCon.out x V)
      clear hx hr0 hV hbV hg9
      cases b
      · generalize contT x.1 sa A = c at HCx HT
        have HF2 : Hid (c = anyS (xs.take (p + 1)) sa A) := hid (by rw [HT.out]; rfl)
        go_wp2_with (first
          | ((show wpList _ _ _ (⟨some 25, _, _, _, _, _⟩ :: _) _ _); go_must (refine wpl_loadC (.tmp 24) rfl g0 (o0 + p * 18) rfl x HX.out rfl ?_))
          | ((show wpList _ _ _ (⟨none, _, _, _, _, _⟩ :: _) _ _); go_must (refine wpl_storeN (.tmp 9) (.tmp 25) rfl _ rfl rfl x rfl rfl ?_; rw [HV.out, L9.out]))
          | ((show wpList _ _ _ (⟨some 28, _, _, _, _, _⟩ :: _) _ _); go_must (refine wpl_loadB (.tmp 9) rfl g9 rfl x HK9.out rfl ?_))
          | ((show wpList _ _ _ (⟨some 29, _, _, _, _, _⟩ :: _) _ _); go_must (refine wpl_load 25 (.tmp 3) rfl w.heap.size rfl _ _ _ HBa.out Tryz.underlying25 rfl 17 Tryz.infoAddr L17.out rfl ?_)))
        refine HCx.out.mono ?_
        rintro e w5 ⟨rfl, hb5⟩
        have HB5 : Hid (Below w3.heap.size w3 w5) := hid (bel2 HBV.out hb5)
        clear hb5
        go_wp2
        go_roundg (n - (p + 1))
        case measure => omega
        case rel => exact ⟨p + 1, c, by go_num, by omega, Nat.le_refl _, rfl, HB5, HF2⟩
      · have HF2 : Hid (true = anyS (xs.take (p + 1)) sa A) := hid (by rw [HT.out]; rfl)
        clear HCx HCon HT
        go_wp2_with (first
          | ((show wpList _ _ _ (⟨some 25, _, _, _, _, _⟩ :: _) _ _); go_must (refine wpl_loadC (.tmp 24) rfl g0 (o0 + p * 18) rfl x HX.out rfl ?_))
          | ((show wpList _ _ _ (⟨none, _, _, _, _, _⟩ :: _) _ _); go_must (refine wpl_storeN (.tmp 9) (.tmp 25) rfl _ rfl rfl x rfl rfl ?_; rw [HV.out, L9.out])))
        go_roundg (n - (p + 1))
        case measure => omega
        case rel => exact ⟨p + 1, true, by go_num, by omega, Nat.le_refl _, rfl, HBV, HF2⟩
    · obtain rfl : p = n := by omega
      have HFn : Hid (b = anyS xs sa A) := hid (by rw [HF.out, List.take_of_length_le (by have := Hn.out; omega)])
      have HFk : Hid (b = anyS ks sa A) := hid (by rw [HFn.out, HKs.out, anyS_kept])
      have hR := rmerge_any ad cap xs (by rw [← Hn.out]; exact hcap) (by have := Hn.out; omega) wr ((HI3.out.below HB.out).mono HB.out.size)
      rw [← Hn.out, ← HKs.out] at hR
      have HR := hid hR
      clear hR
      go_wp2_with fail
      refine HR.out.mono ?_
      rintro e w6 ⟨l', rfl, hr, hb6⟩
      obtain ⟨_, adr', capr, rfl, hkr, _, _, hEr⟩ := own_elems hr
      have HB6 : Hid (Below w3.heap.size w3 w6) := hid (bel2 HB.out hb6)
      have hS := same_any adl adr' capl capr ks (by rw [← HK.out]; exact Hkl.out) hkr (by rw [← HK.out]; have := HKl.out; omega) w6 ((HEl.out.below HB6.out).mono HB6.out.size) hEr
      rw [← HK.out] at hS hkr ⊢
      have HS := hid hS
      clear hS hr hb6 hkr hEr HR
      go_wp2_with fail
      refine HS.out.mono ?_
      rintro e w7 ⟨rfl, hb7⟩
      have HB7 : Hid (Below w3.heap.size w3 w7) := hid (bel2 HB6.out hb7)
      have hS := same_any adi ad capi cap xs (by rw [← Hn.out]; exact Hki.out) (by rw [← Hn.out]; exact hcap) (by have := Hn.out; omega) w7 ((HEi3.out.below HB7.out).mono HB7.out.size) ((HI3.out.below HB7.out).mono HB7.out.size)
      rw [← Hn.out] at hS
      have HS2 := hid hS
      clear hS hb7 HS
      go_wp2_with fail
      refine HS2.out.mono ?_
      rintro e w8 ⟨rfl, hb8⟩
      have HB8 : Hid (Below w3.heap.size w3 w8) := hid (bel2 HB7.out hb8)
      have HBa8 : Hid (Blk w8 w.heap.size 25 (adr sa (ints A))) := hid ((HB0.out.kept Hb3.out).kept HB8.out)
      have hA1 := HAny.out ad cap xs (by rw [← Hn.out]; exact hcap) (by have := Hn.out; omega) w8 ((HE.out.kept Hb3.out).kept HB8.out) ((HI3.out.below HB8.out).mono HB8.out.size)
      rw [← Hn.out, ← HFn.out] at hA1
      have HA1 := hid hA1
      clear hA1 hb8 HS2
      go_wp2_with ((show wpList _ _ _ (⟨some 44, _, _, _, _, _⟩ :: _) _ _); go_must (refine wpl_load 25 (.tmp 3) rfl w.heap.size rfl _ _ _ HBa8.out Tryz.underlying25 rfl 17 Tryz.infoAddr L17.out rfl ?_))
      refine HA1.out.mono ?_
      rintro e w9 ⟨rfl, hb9⟩
      have HB9 : Hid (Below w3.heap.size w3 w9) := hid (bel2 HB8.out hb9)
      have HBa9 : Hid (Blk w9 w.heap.size 25 (adr sa (ints A))) := hid ((HB0.out.kept Hb3.out).kept HB9.out)
      have hA2 := HAny.out adl capl ks (by rw [← HK.out]; exact Hkl.out) (by rw [← HK.out]; have := HKl.out; omega) w9 ((HE.out.kept Hb3.out).kept HB9.out) ((HEl.out.below HB9.out).mono HB9.out.size)
      rw [← HK.out, ← HFk.out] at hA2
      have HA2 := hid hA2
      clear hA2 hb9 HA1
      go_wp2_with ((show wpList _ _ _ (⟨some 51, _, _, _, _, _⟩ :: _) _ _); go_must (refine wpl_load 25 (.tmp 3) rfl w.heap.size rfl _ _ _ HBa9.out Tryz.underlying25 rfl 17 Tryz.infoAddr L17.out rfl ?_))
      refine HA2.out.mono ?_
      rintro e w10 ⟨rfl, hb10⟩
      have F : Hid (Below w.heap.size w w10) := hid (bel2 (bel2 (bel2 Hb0.out Hb3.out) HB9.out) hb10)
      clear hb10
      go_wp2
      go_ret
      exact ⟨by simp, F.out⟩

theorem lmerges_any (ad : Option Addr) (cap : Nat) (xs : List CS) (hcap : xs.length ≤ cap) (hnil : ad = none → xs.length = 0 ∧ cap = 0) (sa : Bool) (A : List Nat) (hla : A.length = 16) (hA : ∀ x ∈ A, x < 256) (w : World) (hE : CEnv w) (hI : Elems encA 18 w.heap.size w ad xs) :
    Calls Tryz.prog 3 #[.slice ad xs.length cap, .agg (adr sa (ints A))] w fun e w' => e = .returned (.bool true) ∧ Below w.heap.size w w' := by
  by_cases h : xs.length ≤ 30
  · exact lmerges_short ad cap xs hcap h hnil sa A hla hA w hE hI
  · exact lmerges_long ad cap xs.length (by omega) sa A w hE
end Go.Proofs.YtijboclcbbnhbaaGreatDoor
