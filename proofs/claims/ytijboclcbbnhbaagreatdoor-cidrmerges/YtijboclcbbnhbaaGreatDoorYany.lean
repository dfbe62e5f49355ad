/-
  slices.IndexFunc and slices.ContainsFunc with the closure of cidr.Any; cidr.Any; the chapter's example.
-/
import Derived.Test.YtijboclcbbnhbaaGreatDoorYcall
namespace Go.Proofs.YtijboclcbbnhbaaGreatDoor
open Go.RowKit Go.Shelf Go.Lib Go.Sort

theorem calive_s (w : World) (hE : CEnv w) : Calls Tryz.prog 4 #[] w fun e w' => e = .returned (.bool true) ∧ Below w.heap.size w w' := by
  obtain ⟨⟨E, h⟩, u, p, u', p', h3⟩ := hE
  exact alive3_any E u u' p p' w h h3

def anyS (xs : List CS) (sa : Bool) (A : List Nat) : Bool := xs.any fun c => contT c.1 sa A

set_option maxRecDepth 100000 in
set_option maxHeartbeats 4000000 in
theorem index_any (sa : Bool) (A : List Nat) (hla : A.length = 16) (hA : ∀ x ∈ A, x < 256) (ad : Option Addr) (cap : Nat) (xs : List CS) (hcap : xs.length ≤ cap) (hm : xs.length ≤ 100000) (w : World) (hE : CEnv w) (G : Nat) (hG : Blk w G 25 (adr sa (ints A))) (hI : Elems encA 18 w.heap.size w ad xs) :
    Calls Tryz.prog 41 #[.slice ad xs.length cap, .func (.func 25) #[] #[.pointer (some ⟨G, 0, none⟩)]] w fun e w' => ∃ r : Int, e = .returned (.int .i64 r) ∧ (decide (r ≥ 0) = anyS xs sa A ∧ Below w.heap.size w w') := by
  obtain ⟨n, hn⟩ : ∃ n, n = xs.length := ⟨_, rfl⟩
  rw [← hn] at hcap hm ⊢
  have Hn := hid hn
  have HI := hid hI
  have HC : Hid (∀ x W, Below w.heap.size w W → Calls Tryz.prog 25 #[.agg (encA x), .pointer (some ⟨G, 0, none⟩)] W fun e w' => e = .returned (.bool (contT x.1 sa A)) ∧ Below W.heap.size W w') := hid (fun x W h => any1_s x sa A hla hA W (hE.kept h) G (hG.kept h))
  have HN : Hid ((∀ j (hj : j < xs.length), contT xs[j].1 sa A = false) → false = anyS xs sa A) := hid (fun h => by
    symm
    unfold anyS
    rw [List.any_eq_false]
    intro c hc
    obtain ⟨j, hj, rfl⟩ := List.getElem_of_mem hc
    simp [h j hj])
  have HY : Hid (∀ j (hj : j < xs.length), contT xs[j].1 sa A = true → true = anyS xs sa A) := hid (fun j hj h => by
    symm
    unfold anyS
    rw [List.any_eq_true]
    exact ⟨xs[j], List.getElem_mem hj, h⟩)
  clear hn hI hE hG hla hA
  go_enter Tryz.func41, Tryz.ntmps41
  go_wp2
  go_loopg [8] n (fun g s8 wr => ∃ p : Nat, s8 = .int .i64 (p : Int) ∧ p ≤ n ∧ n - p ≤ g ∧ Hid (Below w.heap.size w wr) ∧ Hid (∀ j (hj : j < xs.length), j < p → contT xs[j].1 sa A = false))
  case atStart => exact ⟨0, rfl, by omega, by omega, hid (Below.refl _ _), hid (fun j _ h => by omega)⟩
  case round =>
    obtain ⟨p, rfl, hp, hgp, HB, HF⟩ := hrel
    by_cases hlt : p < n
    · have hpx : p < xs.length := by have := Hn.out; omega
      obtain ⟨g0, o0, rfl, hg0, hr0⟩ := HI.out p hpx
      obtain ⟨x, hx⟩ : ∃ x, x = xs[p] := ⟨_, rfl⟩
      have HX : Hid (wr.rangeAt g0 (o0 + p * 18) (encC x)) := hid (hx ▸ rangeAt_below HB.out hg0 hr0)
      have HCx := hid (HC.out x wr HB.out)
      have HXx := hid hx
      clear hx hr0
      by_cases hc : contT x.1 sa A = true
      · rw [hc] at HCx
        have HR : Hid (true = anyS xs sa A) := hid (HY.out p hpx (by rw [← HXx.out]; exact hc))
        clear hc
        go_wp2_with ((show wpList _ _ _ (⟨some 15, _, _, _, _, _⟩ :: _) _ _); go_must (refine wpl_loadC (.tmp 14) rfl g0 (o0 + p * 18) rfl x HX.out rfl ?_))
        refine HCx.out.mono ?_
        rintro e w2 ⟨rfl, hb⟩
        have Hb := hid (HB.out.trans (hb.mono HB.out.size))
        clear hb
        go_wp2
        go_ret
        exact ⟨_, rfl, by rw [← HR.out]; exact decide_eq_true (by omega), Hb.out⟩
      · have hc : contT x.1 sa A = false := by simpa using hc
        rw [hc] at HCx
        have HF2 : Hid (∀ j (hj : j < xs.length), j < p + 1 → contT xs[j].1 sa A = false) := hid (fun j hj h => by
          by_cases e : j = p
          · subst e; rw [← HXx.out]; exact hc
          · exact HF.out j hj (by omega))
        clear hc
        go_wp2_with ((show wpList _ _ _ (⟨some 15, _, _, _, _, _⟩ :: _) _ _); go_must (refine wpl_loadC (.tmp 14) rfl g0 (o0 + p * 18) rfl x HX.out rfl ?_))
        refine HCx.out.mono ?_
        rintro e w2 ⟨rfl, hb⟩
        have Hb := hid (HB.out.trans (hb.mono HB.out.size))
        clear hb
        go_wp2
        go_roundg (n - (p + 1))
        case measure => omega
        case rel => exact ⟨p + 1, by go_num, by omega, Nat.le_refl _, Hb, HF2⟩
    · obtain rfl : p = n := by omega
      have HR : Hid (false = anyS xs sa A) := hid (HN.out (fun j hj => HF.out j hj (by have := Hn.out; omega)))
      go_wp2
      go_ret
      exact ⟨_, rfl, by rw [← HR.out]; exact decide_eq_false (by omega), HB.out⟩

set_option maxRecDepth 100000 in
set_option maxHeartbeats 4000000 in
theorem contains_any (sa : Bool) (A : List Nat) (hla : A.length = 16) (hA : ∀ x ∈ A, x < 256) (ad : Option Addr) (cap : Nat) (xs : List CS) (hcap : xs.length ≤ cap) (hm : xs.length ≤ 100000) (w : World) (hE : CEnv w) (G : Nat) (hG : Blk w G 25 (adr sa (ints A))) (hI : Elems encA 18 w.heap.size w ad xs) :
    Calls Tryz.prog 24 #[.slice ad xs.length cap, .func (.func 25) #[] #[.pointer (some ⟨G, 0, none⟩)]] w fun e w' => e = .returned (.bool (anyS xs sa A)) ∧ Below w.heap.size w w' := by
  have H := hid (index_any sa A hla hA ad cap xs hcap hm w hE G hG hI)
  clear hla hA hcap hm hE hG hI
  go_enter Tryz.func24, Tryz.ntmps24
  go_wp2_with fail
  refine H.out.mono ?_
  rintro e w2 ⟨r, rfl, hr, hb⟩
  have Hr := hid hr
  have Hb := hid hb
  clear hr hb
  go_wp2
  go_ret
  exact ⟨by rw [← Hr.out]; rfl, Hb.out⟩

set_option maxRecDepth 100000 in
set_option maxHeartbeats 4000000 in
theorem cany_any (sa : Bool) (A : List Nat) (hla : A.length = 16) (hA : ∀ x ∈ A, x < 256) (ad : Option Addr) (cap : Nat) (xs : List CS) (hcap : xs.length ≤ cap) (hm : xs.length ≤ 100000) (w : World) (hE : CEnv w) (hI : Elems encA 18 w.heap.size w ad xs) :
    Calls Tryz.prog 9 #[.slice ad xs.length cap, .agg (adr sa (ints A))] w fun e w' => e = .returned (.bool (anyS xs sa A)) ∧ Below w.heap.size w w' := by
  obtain ⟨W0, hW0⟩ : ∃ W, W = w.alloc (.cells (adr sa (ints A)) 25) := ⟨_, rfl⟩
  have hb0 : Below w.heap.size w W0 := hW0 ▸ (Below.refl _ _).alloc (Nat.le_refl _) _
  have hB0 : Blk W0 w.heap.size 25 (adr sa (ints A)) := hW0 ▸ Blk.new w _ _
  have HW0 := hid hW0.symm
  have Hb0 := hid hb0
  have H := hid (contains_any sa A hla hA ad cap xs hcap hm W0 (hE.kept hb0) w.heap.size hB0 ((hI.below hb0).mono hb0.size))
  clear hW0 hb0 hB0 hla hA hcap hm hE hI
  go_enter Tryz.func9, Tryz.ntmps9
  go_upto_region 1 with fail
  rw [HW0.out]
  go_wp2_with fail
  refine H.out.mono ?_
  rintro e w2 ⟨rfl, hb⟩
  have Hb := hid (bel2 Hb0.out hb)
  clear hb
  go_wp2
  go_ret
  exact ⟨rfl, Hb.out⟩
end Go.Proofs.YtijboclcbbnhbaaGreatDoor
