/-
  The document's Merge of whatever list; two rows of cidrs held against each other; what one of all contains, one of the merged ones contains.
-/
import Derived.Test.YtijboclcbbnhbaaGreatDoorYref
import Derived.Test.YtijboclcbbnhbaaGreatDoorYmrg
namespace Go.Proofs.YtijboclcbbnhbaaGreatDoor
open Go.RowKit Go.Shelf Go.Lib Go.Sort

theorem csort_cmp (xs : List CS) : (csort xs).Pairwise fun a b => cmpS a b ≤ 0 := List.pairwise_map.1 (csort_sorted xs)
theorem csort_in (xs : List CS) (a : CS) : a ∈ csort xs ↔ a ∈ xs := (csort_perm xs).mem_iff
theorem kept_doc (xs rs : List CS) (h : DocOf cmpS covS rightS xs xs.length rs) : rs = kept (csort xs) := (merge_same cidrS_cov xs (csort xs) rs (fun _ _ => trivial) (csort_cmp xs) (csort_in xs) h).symm
theorem kept_mem (xs : List CS) (a : CS) : a ∈ kept (csort xs) ↔ Top covS rightS xs a := by
  have h := keep_all cidrS_cov xs (fun _ _ => trivial) (csort xs) [] [] (by simpa using csort_cmp xs) (fun a => by simpa using csort_in xs a) ⟨List.Pairwise.nil, fun a => by simp⟩
  have h2 := h.2 a
  rw [List.nil_append] at h2
  exact h2.trans ⟨fun h => h.2, fun h => ⟨(csort_in xs a).2 h.1, h⟩⟩
theorem anyS_kept (xs : List CS) (sa : Bool) (A : List Nat) : anyS (kept (csort xs)) sa A = anyS xs sa A := by
  unfold anyS
  rw [Bool.eq_iff_iff, List.any_eq_true, List.any_eq_true]
  constructor
  · rintro ⟨c, hc, h⟩
    exact ⟨c, ((kept_mem xs c).1 hc).1, h⟩
  · rintro ⟨c, hc, h⟩
    have hr : rightS c = true := by
      simp only [contT, containsC, Bool.and_eq_true] at h
      exact h.1
    obtain ⟨t, ht, hcov⟩ := least_top cidrS_cov xs (fun _ _ => trivial) c hc _ c hc (cidrS_cov.self c trivial hr) (Nat.le_refl _)
    exact ⟨t, (kept_mem xs t).2 ht, cont_through t.1 c.1 t.2 c.2 hcov sa A h⟩

set_option maxHeartbeats 1000000 in
theorem rmerge_nil (ad : Option Addr) (cap0 : Nat) (w : World) : Calls Tryz.prog 8 #[.slice ad 0 cap0] w (CollEnd [] encA w) := by
  obtain ⟨W0, hW0⟩ : ∃ W, W = w.alloc (.cells #[] 29) := ⟨_, rfl⟩
  have HW0 := hid hW0.symm
  have F : Hid (CollEnd [] encA w (.returned (.slice (some ⟨w.heap.size, 0, none⟩) 0 0)) W0) := hid (by
    subst hW0
    exact ⟨_, rfl, lit0_own w _ (Nat.le_refl _), (Below.refl _ _).alloc (Nat.le_refl _) _⟩)
  clear hW0
  go_enter Tryz.func8, Tryz.ntmps8
  go_wp2
  rw [HW0.out]
  go_loopg [3, 13] 0 (fun g s3 s13 wr => s3 = .slice (some ⟨w.heap.size, 0, none⟩) 0 0 ∧ s13 = .int .i64 0 ∧ wr = W0)
  case atStart => exact ⟨rfl, rfl, rfl⟩
  case round =>
    obtain ⟨rfl, rfl, rfl⟩ := hrel
    go_wp2
    go_ret
    exact F.out

theorem rmerge_any (ad : Option Addr) (cap0 : Nat) (xs : List CS) (hcap : xs.length ≤ cap0) (hm : xs.length ≤ 1000) (w : World) (hI : Elems encA 18 w.heap.size w ad xs) :
    Calls Tryz.prog 8 #[.slice ad xs.length cap0] w (CollEnd (kept (csort xs)) encA w) := by
  cases xs with
  | nil =>
    have e : kept (csort []) = [] := by simp [csort, kept]
    rw [e]
    exact rmerge_nil ad cap0 w
  | cons x xs =>
    obtain ⟨g, of, rfl, hg, _⟩ := hI 0 (by simp)
    refine (rmerge_some cap0 g of (x :: xs) hcap hm w hg (fun j hj => ?_)).mono ?_
    · obtain ⟨g1, o1, e, _, h⟩ := hI j hj
      cases e
      exact h
    · rintro e w' ⟨v, rs, rfl, h1, h2, h3⟩
      have := kept_doc _ rs h3
      subst this
      exact ⟨v, rfl, h1, h2⟩

set_option maxRecDepth 100000 in
set_option maxHeartbeats 4000000 in
theorem same_any (ad1 ad2 : Option Addr) (cap1 cap2 : Nat) (xs : List CS) (h1 : xs.length ≤ cap1) (h2 : xs.length ≤ cap2) (hm : xs.length ≤ 1000) (w : World) (hI1 : Elems encA 18 w.heap.size w ad1 xs) (hI2 : Elems encA 18 w.heap.size w ad2 xs) :
    Calls Tryz.prog 7 #[.slice ad1 xs.length cap1, .slice ad2 xs.length cap2] w fun e w' => e = .returned (.bool true) ∧ Below w.heap.size w w' := by
  obtain ⟨n, hn⟩ : ∃ n, n = xs.length := ⟨_, rfl⟩
  rw [← hn] at h1 h2 hm ⊢
  have Hn := hid hn
  have HI1 := hid hI1
  have HI2 := hid hI2
  clear hn hI1 hI2
  go_enter Tryz.func7, Tryz.ntmps7
  go_wp2
  go_loopg [13] n (fun g s13 wr => ∃ p : Nat, s13 = .int .i64 (p : Int) ∧ p ≤ n ∧ n - p ≤ g ∧ Hid (Below w.heap.size w wr))
  case atStart => exact ⟨0, rfl, by omega, by omega, hid (Below.refl _ _)⟩
  case round =>
    obtain ⟨p, rfl, hp, hgp, HB⟩ := hrel
    by_cases hlt : p < n
    · have hpx : p < xs.length := by have := Hn.out; omega
      obtain ⟨gl, ol, rfl, hgl, hrl⟩ := HI1.out p hpx
      obtain ⟨gr, or', rfl, hgr, hrr⟩ := HI2.out p hpx
      obtain ⟨x, hx⟩ : ∃ x, x = xs[p] := ⟨_, rfl⟩
      have HXl : Hid (wr.drew.rangeAt gl (ol + p * 18) (encC x)) := hid (hx ▸ rangeAt_below HB.out hgl hrl)
      have HXr : Hid (wr.drew.rangeAt gr (or' + p * 18) (encC x)) := hid (hx ▸ rangeAt_below HB.out hgr hrr)
      have hneq := neqS x x
      rw [show decide (x ≠ x) = false by simp] at hneq
      clear hx hrl hrr
      go_wp2_with fail
      refine wp_region_held_drew (S := fun W => W = wr.drew) (by kernel_rfl) rfl (fun hS => ?_)
      change wpAnyH _ _ _ _ _ 9 #[false, false, false, false, false, false, false, false, false] _ _
      refine wpAnyH_take (i := 0) (v := .slice (some ⟨gl, ol, none⟩) n cap1) rfl (by kernel_rfl) (by kernel_rfl) (by kernel_rfl) (fun _ _ _ h => h) (.inl ⟨by kernel_rfl, fun w' _ => by unfold execOp; go_simp⟩) hS ?_
      simp only [List.getElem_toArray, List.getElem_cons_zero, Act.put, List.setIfInBounds_toArray, List.set_cons_zero, List.set_cons_succ]
      refine wpAnyH_take (i := 1) (v := .int .i64 (p : Int)) rfl (by kernel_rfl) (by kernel_rfl) (by kernel_rfl) (fun _ _ _ h => h) (.inl ⟨by kernel_rfl, fun w' _ => by unfold execOp; go_simp⟩) hS ?_
      simp only [List.getElem_toArray, List.getElem_cons_zero, List.getElem_cons_succ, Act.put, List.setIfInBounds_toArray, List.set_cons_zero, List.set_cons_succ]
      refine wpAnyH_take (i := 2) (v := .pointer (some ⟨gl, ol + p * 18, none⟩)) rfl (by kernel_rfl) (by kernel_rfl) (by kernel_rfl) (fun _ _ _ h => h) (.inl ⟨by kernel_rfl, fun w' _ => by unfold execOp; go_simp; try (intro h; omega)⟩) hS ?_
      simp only [List.getElem_toArray, List.getElem_cons_zero, List.getElem_cons_succ, Act.put, List.setIfInBounds_toArray, List.set_cons_zero, List.set_cons_succ]
      refine wpAnyH_take (i := 3) (v := .agg (encA x)) rfl (by kernel_rfl) (by kernel_rfl) (by kernel_rfl) (fun _ _ _ h => h) (yieldsC (by kernel_rfl) (.tmp 18) rfl (gl) (ol + p * 18) rfl x (fun w' hw' => hw' ▸ HXl.out)) hS ?_
      simp only [List.getElem_toArray, List.getElem_cons_zero, List.getElem_cons_succ, Act.put, List.setIfInBounds_toArray, List.set_cons_zero, List.set_cons_succ]
      refine wpAnyH_take (i := 4) (v := .slice (some ⟨gr, or', none⟩) n cap2) rfl (by kernel_rfl) (by kernel_rfl) (by kernel_rfl) (fun _ _ _ h => h) (.inl ⟨by kernel_rfl, fun w' _ => by unfold execOp; go_simp⟩) hS ?_
      simp only [List.getElem_toArray, List.getElem_cons_zero, List.getElem_cons_succ, Act.put, List.setIfInBounds_toArray, List.set_cons_zero, List.set_cons_succ]
      refine wpAnyH_take (i := 5) (v := .int .i64 (p : Int)) rfl (by kernel_rfl) (by kernel_rfl) (by kernel_rfl) (fun _ _ _ h => h) (.inl ⟨by kernel_rfl, fun w' _ => by unfold execOp; go_simp⟩) hS ?_
      simp only [List.getElem_toArray, List.getElem_cons_zero, List.getElem_cons_succ, Act.put, List.setIfInBounds_toArray, List.set_cons_zero, List.set_cons_succ]
      refine wpAnyH_take (i := 6) (v := .pointer (some ⟨gr, or' + p * 18, none⟩)) rfl (by kernel_rfl) (by kernel_rfl) (by kernel_rfl) (fun _ _ _ h => h) (.inl ⟨by kernel_rfl, fun w' _ => by unfold execOp; go_simp; try (intro h; omega)⟩) hS ?_
      simp only [List.getElem_toArray, List.getElem_cons_zero, List.getElem_cons_succ, Act.put, List.setIfInBounds_toArray, List.set_cons_zero, List.set_cons_succ]
      refine wpAnyH_take (i := 7) (v := .agg (encA x)) rfl (by kernel_rfl) (by kernel_rfl) (by kernel_rfl) (fun _ _ _ h => h) (yieldsC (by kernel_rfl) (.tmp 22) rfl (gr) (or' + p * 18) rfl x (fun w' hw' => hw' ▸ HXr.out)) hS ?_
      simp only [List.getElem_toArray, List.getElem_cons_zero, List.getElem_cons_succ, Act.put, List.setIfInBounds_toArray, List.set_cons_zero, List.set_cons_succ]
      refine wpAnyH_take (i := 8) (v := .bool false) rfl (by kernel_rfl) (by kernel_rfl) (by kernel_rfl) (fun _ _ _ h => h) (.inl ⟨by kernel_rfl, fun w' _ => by unfold execOp; simp [go_sem, hneq]⟩) hS ?_
      simp only [List.getElem_toArray, List.getElem_cons_zero, List.getElem_cons_succ, Act.put, List.setIfInBounds_toArray, List.set_cons_zero, List.set_cons_succ]
      refine wpAnyH_done (by kernel_rfl) ?_ _
      have HB2 : Hid (Below w.heap.size w wr.drew) := hid HB.out.drew
      clear hS hneq
      go_wp2
      go_roundg (n - (p + 1))
      case measure => omega
      case rel => exact ⟨p + 1, by go_num, by omega, Nat.le_refl _, HB2⟩
    · obtain rfl : p = n := by omega
      go_wp2
      go_ret
      exact ⟨rfl, HB.out⟩
end Go.Proofs.YtijboclcbbnhbaaGreatDoor
