/-
  The walk of CidrMerges.
-/
import Derived.Test.YtijboclcbbnhbaaGreatDoorYrany
namespace Go.Proofs.YtijboclcbbnhbaaGreatDoor
open Go.RowKit Go.Shelf Go.Lib Go.Sort

theorem anyS_take (xs : List CS) (sa : Bool) (A : List Nat) (p : Nat) (hp : p < xs.length) : anyS (xs.take (p + 1)) sa A = (anyS (xs.take p) sa A || contT xs[p].1 sa A) := by
  unfold anyS
  rw [List.take_succ_eq_append_getElem hp, List.any_append]
  simp

set_option maxHeartbeats 1000000 in
theorem lmerges_long (ad : Option Addr) (cap len : Nat) (hl : 30 < len) (sa : Bool) (A : List Nat) (w : World) (hE : CEnv w) :
    Calls Tryz.prog 3 #[.slice ad len cap, .agg (adr sa (ints A))] w fun e w' => e = .returned (.bool true) ∧ Below w.heap.size w w' := by
  obtain ⟨W0, hW0⟩ : ∃ W, W = w.alloc (.cells (adr sa (ints A)) 25) := ⟨_, rfl⟩
  have hb0 : Below w.heap.size w W0 := hW0 ▸ (Below.refl _ _).alloc (Nat.le_refl _) _
  have HW0 := hid hW0.symm
  have Hb0 := hid hb0
  have HA := hid (calive_s W0 (hE.kept hb0))
  clear hW0 hb0 hE
  go_enter Tryz.func3, Tryz.ntmps3
  go_upto_region 1 with fail
  rw [HW0.out]
  go_wp2_with fail
  refine HA.out.mono ?_
  rintro e w1 ⟨rfl, hb⟩
  have Hb := hid (bel2 Hb0.out hb)
  clear hb
  go_wp2
  go_ret
  exact ⟨rfl, Hb.out⟩

set_option maxRecDepth 100000 in
set_option maxHeartbeats 8000000 in
theorem lmerges_short (ad : Option Addr) (cap : Nat) (xs : List CS) (hcap : xs.length ≤ cap) (hm : xs.length ≤ 30) (hnil : ad = none → xs.length = 0 ∧ cap = 0) (sa : Bool) (A : List Nat) (hla : A.length = 16) (hA : ∀ x ∈ A, x < 256) (w : World) (hE : CEnv w) (hI : Elems encA 18 w.heap.size w ad xs) :
    Calls Tryz.prog 3 #[.slice ad xs.length cap, .agg (adr sa (ints A))] w fun e w' => e = .returned (.bool true) ∧ Below w.heap.size w w' := by
  obtain ⟨W0, hW0⟩ : ∃ W, W = w.alloc (.cells (adr sa (ints A)) 25) := ⟨_, rfl⟩
  have hb0 : Below w.heap.size w W0 := hW0 ▸ (Below.refl _ _).alloc (Nat.le_refl _) _
  have hB0 : Blk W0 w.heap.size 25 (adr sa (ints A)) := hW0 ▸ Blk.new w _ _
  have HW0 := hid hW0.symm
  have HA := hid (calive_s W0 (hE.kept hb0))
  have Hb0 := hid hb0
  have HB0 := hid hB0
  have HE := hid (hE.kept hb0)
  obtain ⟨n, hn⟩ : ∃ n, n = xs.length := ⟨_, rfl⟩
  have Hn := hid hn
  have HI := hid ((hI.below hb0).mono hb0.size)
  have Hnil : Hid (ad = none → n = 0 ∧ cap = 0) := hid (hn ▸ hnil)
  have L17 : Hid (17 = (adr sa (ints A)).size) := hid (by rw [adr_size, ints_length, hla])
  have HCon := hid (fun x W => rcont_s x sa A hla hA W)
  have HAny : Hid (∀ ad cap xs, xs.length ≤ cap → xs.length ≤ 100000 → ∀ W, CEnv W → Elems encA 18 W.heap.size W ad xs → Calls Tryz.prog 9 #[.slice ad xs.length cap, .agg (adr sa (ints A))] W fun e w' => e = .returned (.bool (anyS xs sa A)) ∧ Below W.heap.size W w') := hid (fun ad cap xs h1 h2 W h3 h4 => cany_any sa A hla hA ad cap xs h1 h2 W h3 h4)
  rw [← hn] at hcap hm ⊢
  clear hW0 hb0 hB0 hE hn hI hnil hla hA
  go_enter Tryz.func3, Tryz.ntmps3
  go_upto_region 1 with fail
  rw [HW0.out]
  go_wp2_with fail
  refine HA.out.mono ?_
  rintro e w1 ⟨rfl, hb1⟩
  have Hb1 : Hid (Below W0.heap.size W0 w1) := hid hb1
  obtain ⟨W1, hW1⟩ : ∃ W, W = w1.alloc (.cells #[] 29) := ⟨_, rfl⟩
  have hbW1 : Below w1.heap.size w1 W1 := hW1 ▸ (Below.refl _ _).alloc (Nat.le_refl _) _
  have HW1 := hid hW1.symm
  have HbW1 : Hid (Below W0.heap.size W0 W1) := hid (bel2 hb1 hbW1)
  have HO1 : Hid (W1.ownsRow W0.heap.size 29 18 (.slice (some ⟨w1.heap.size, 0, none⟩) 0 0) 0 (flatY encA [])) := hid (hW1 ▸ lit0_own w1 W0.heap.size hb1.size)
  have HI1 : Hid (Elems encA 18 W0.heap.size W1 ad xs) := hid (HI.out.below (bel2 hb1 hbW1))
  clear hb1 hW1 hbW1 HA
  go_wp2_with ((show wpList _ _ _ (⟨some 17, _, _, _, _, _⟩ :: _) _ _); go_must ((try rw [HW1.out]); refine wpl_appY (.tmp 15) (.tmp 16) rfl W0.heap.size _ 0 _ rfl HO1.out ad n cap xs rfl Hn.out.symm W0.heap.size HI1.out Hnil.out (by omega) HbW1.out.size rfl ?_; intro v2 w2 h2 q2; have hb2 := HbW1.out.grown q2 HbW1.out.size (fun k e => own_block_le HO1.out e); have own2 : w2.ownsRow W0.heap.size 29 18 v2 n (flatY encA xs) := (by simpa [flatY] using h2); obtain ⟨_, adi, capi, rfl, hki, _, _, hEi⟩ := own_elems own2; have HEi := hid hEi; have Hb2 := hid hb2; have Hki := hid hki; clear h2 q2 own2 hb2 hki hEi))
  have hS1 := cmerge_any adi capi xs (by rw [← Hn.out]; exact Hki.out) (by have := Hn.out; omega) w2 (HE.out.kept Hb2.out) HEi.out
  rw [← Hn.out] at hS1
  refine hS1.mono ?_
  rintro e w3 ⟨l, rfl, hl, hb3⟩
  obtain ⟨hll, adl, capl, rfl, hkl, _, _, hEl⟩ := own_elems hl
  obtain ⟨ks, hks⟩ : ∃ ks, ks = kept (csort xs) := ⟨_, rfl⟩
  rw [← hks] at hll hkl hEl hl ⊢
  obtain ⟨K, hK⟩ : ∃ K, K = ks.length := ⟨_, rfl⟩
  rw [← hK] at hll hkl ⊢
  have HK := hid hK
  have HKs := hid hks
  have HKl : Hid (K ≤ 30) := hid (by
    have h := kept_len (csort xs) []
    rw [csort_length] at h
    have h3 : ks.length ≤ xs.length := by rw [hks]; unfold kept; simpa using h
    have := Hn.out
    omega)
  have Hkl := hid hkl
  have HEl := hid hEl
  have Hb3 : Hid (Below W0.heap.size W0 w3) := hid (Hb2.out.trans (hb3.mono Hb2.out.size))
  have HEi3 : Hid (Elems encA 18 w3.heap.size w3 adi xs) := hid ((HEi.out.below hb3).mono hb3.size)
  have HI3 : Hid (Elems encA 18 w3.heap.size w3 ad xs) := hid ((HI.out.below Hb3.out).mono Hb3.out.size)
  clear hS1 hl hb3 hll hkl hEl hK hks HEi HI1 HO1 HbW1
  go_wp2
  go_loopg [7, 22] n (fun g s7 s22 wr => ∃ (p : Nat) (b : Bool), s22 = .int .i64 (p : Int) ∧ p ≤ n ∧ n - p ≤ g ∧ s7 = .bool b ∧ Hid (Below w3.heap.size w3 wr) ∧ Hid (b = anyS (xs.take p) sa A))
  case atStart => exact ⟨0, false, rfl, by omega, by omega, rfl, hid (Below.refl _ _), hid rfl⟩
  case round =>
    obtain ⟨p, b, rfl, hp, hgp, rfl, HB, HF⟩ := hrel
    by_cases hlt : p < n
    · have hpx : p < xs.length := by have := Hn.out; omega
      obtain ⟨g0, o0, rfl, hg0, hr0⟩ := HI3.out p hpx
      obtain ⟨x, hx⟩ : ∃ x, x = xs[p] := ⟨_, rfl⟩
      have HX : Hid (wr.rangeAt g0 (o0 + p * 18) (encC x)) := hid (hx ▸ rangeAt_below HB.out hg0 hr0)
      have HT : Hid (anyS (xs.take (p + 1)) sa A = (b || contT x.1 sa A)) := hid (by rw [anyS_take xs sa A p hpx, HF.out, hx])
      obtain ⟨V, hV⟩ : ∃ V, V = wr.alloc (.cells (encA x) 29) := ⟨_, rfl⟩
      have hbV : Below wr.heap.size wr V := hV ▸ (Below.refl _ _).alloc (Nat.le_refl _) _
      have HV := hid hV.symm
      have HBV : Hid (Below w3.heap.size w3 V) := hid (bel2 HB.out hbV)
      obtain ⟨g9, hg9⟩ : ∃ g9, g9 = wr.heap.size := ⟨_, rfl⟩
      have HK9 : Hid (Blk V g9 29 (encA x)) := hid (hV ▸ hg9 ▸ Blk.new wr _ _)
      have L9 : Hid (wr.heap.size = g9) := hid hg9.symm
      have HBa : Hid (Blk V w.heap.size 25 (adr sa (ints A))) := hid ((HB0.out.kept Hb3.out).kept HBV.out)
      have HCx := hid (HCon.out x V)
      clear hx hr0 hV hbV hg9
      cases b
      · generalize contT x.1 sa A = c at HCx HT
        have HF2 : Hid (c = anyS (xs.take (p + 1)) sa A) := hid (by rw [HT.out]; rfl)
        go_wp2_with (first
          | ((show wpList _ _ _ (⟨some 25, _, _, _, _, _⟩ :: _) _ _); go_must (refine wpl_loadC (.tmp 24) rfl g0 (o0 + p * 18) rfl x HX.out rfl ?_))
          | ((show wpList _ _ _ (⟨none, _, _, _, _, _⟩ :: _) _ _); go_must (refine wpl_storeN (.tmp 9) (.tmp 25) rfl _ rfl rfl x rfl rfl ?_; rw [HV.out, L9.out]))
          | ((show wpList _ _ _ (⟨some 28, _, _, _, _, _⟩ :: _) _ _); go_must (refine wpl_loadB (.tmp 9) rfl g9 rfl x HK9.out rfl ?_))
          | ((show wpList _ _ _ (⟨some 29, _, _, _, _, _⟩ :: _) _ _); go_must (refine wpl_load 25 (.tmp 3) rfl w.heap.size rfl _ _ _ HBa.out Tryz.underlying25 rfl 17 Tryz.infoAddr L17.out rfl ?_)))
        refine HCx.out.mono ?_
        rintro e w5 ⟨rfl, hb5⟩
        have HB5 : Hid (Below w3.heap.size w3 w5) := hid (bel2 HBV.out hb5)
        clear hb5
        go_wp2
        go_roundg (n - (p + 1))
        case measure => omega
        case rel => exact ⟨p + 1, c, by go_num, by omega, Nat.le_refl _, rfl, HB5, HF2⟩
      · have HF2 : Hid (true = anyS (xs.take (p + 1)) sa A) := hid (by rw [HT.out]; rfl)
        clear HCx HCon HT
        go_wp2_with (first
          | ((show wpList _ _ _ (⟨some 25, _, _, _, _, _⟩ :: _) _ _); go_must (refine wpl_loadC (.tmp 24) rfl g0 (o0 + p * 18) rfl x HX.out rfl ?_))
          | ((show wpList _ _ _ (⟨none, _, _, _, _, _⟩ :: _) _ _); go_must (refine wpl_storeN (.tmp 9) (.tmp 25) rfl _ rfl rfl x rfl rfl ?_; rw [HV.out, L9.out])))
        go_roundg (n - (p + 1))
        case measure => omega
        case rel => exact ⟨p + 1, true, by go_num, by omega, Nat.le_refl _, rfl, HBV, HF2⟩
    · obtain rfl : p = n := by omega
      have HFn : Hid (b = anyS xs sa A) := hid (by rw [HF.out, List.take_of_length_le (by have := Hn.out; omega)])
      have HFk : Hid (b = anyS ks sa A) := hid (by rw [HFn.out, HKs.out, anyS_kept])
      have hR := rmerge_any ad cap xs (by rw [← Hn.out]; exact hcap) (by have := Hn.out; omega) wr ((HI3.out.below HB.out).mono HB.out.size)
      rw [← Hn.out, ← HKs.out] at hR
      have HR := hid hR
      clear hR
      go_wp2_with fail
      refine HR.out.mono ?_
      rintro e w6 ⟨l', rfl, hr, hb6⟩
      obtain ⟨_, adr', capr, rfl, hkr, _, _, hEr⟩ := own_elems hr
      have HB6 : Hid (Below w3.heap.size w3 w6) := hid (bel2 HB.out hb6)
      have hS := same_any adl adr' capl capr ks (by rw [← HK.out]; exact Hkl.out) hkr (by rw [← HK.out]; have := HKl.out; omega) w6 ((HEl.out.below HB6.out).mono HB6.out.size) hEr
      rw [← HK.out] at hS hkr ⊢
      have HS := hid hS
      clear hS hr hb6 hkr hEr HR
      go_wp2_with fail
      refine HS.out.mono ?_
      rintro e w7 ⟨rfl, hb7⟩
      have HB7 : Hid (Below w3.heap.size w3 w7) := hid (bel2 HB6.out hb7)
      have hS := same_any adi ad capi cap xs (by rw [← Hn.out]; exact Hki.out) (by rw [← Hn.out]; exact hcap) (by have := Hn.out; omega) w7 ((HEi3.out.below HB7.out).mono HB7.out.size) ((HI3.out.below HB7.out).mono HB7.out.size)
      rw [← Hn.out] at hS
      have HS2 := hid hS
      clear hS hb7 HS
      go_wp2_with fail
      refine HS2.out.mono ?_
      rintro e w8 ⟨rfl, hb8⟩
      have HB8 : Hid (Below w3.heap.size w3 w8) := hid (bel2 HB7.out hb8)
      have HBa8 : Hid (Blk w8 w.heap.size 25 (adr sa (ints A))) := hid ((HB0.out.kept Hb3.out).kept HB8.out)
      have hA1 := HAny.out ad cap xs (by rw [← Hn.out]; exact hcap) (by have := Hn.out; omega) w8 ((HE.out.kept Hb3.out).kept HB8.out) ((HI3.out.below HB8.out).mono HB8.out.size)
      rw [← Hn.out, ← HFn.out] at hA1
      have HA1 := hid hA1
      clear hA1 hb8 HS2
      go_wp2_with ((show wpList _ _ _ (⟨some 44, _, _, _, _, _⟩ :: _) _ _); go_must (refine wpl_load 25 (.tmp 3) rfl w.heap.size rfl _ _ _ HBa8.out Tryz.underlying25 rfl 17 Tryz.infoAddr L17.out rfl ?_))
      refine HA1.out.mono ?_
      rintro e w9 ⟨rfl, hb9⟩
      have HB9 : Hid (Below w3.heap.size w3 w9) := hid (bel2 HB8.out hb9)
      have HBa9 : Hid (Blk w9 w.heap.size 25 (adr sa (ints A))) := hid ((HB0.out.kept Hb3.out).kept HB9.out)
      have hA2 := HAny.out adl capl ks (by rw [← HK.out]; exact Hkl.out) (by rw [← HK.out]; have := HKl.out; omega) w9 ((HE.out.kept Hb3.out).kept HB9.out) ((HEl.out.below HB9.out).mono HB9.out.size)
      rw [← HK.out, ← HFk.out] at hA2
      have HA2 := hid hA2
      clear hA2 hb9 HA1
      go_wp2_with ((show wpList _ _ _ (⟨some 51, _, _, _, _, _⟩ :: _) _ _); go_must (refine wpl_load 25 (.tmp 3) rfl w.heap.size rfl _ _ _ HBa9.out Tryz.underlying25 rfl 17 Tryz.infoAddr L17.out rfl ?_))
      refine HA2.out.mono ?_
      rintro e w10 ⟨rfl, hb10⟩
      have F : Hid (Below w.heap.size w w10) := hid (bel2 (bel2 (bel2 Hb0.out Hb3.out) HB9.out) hb10)
      clear hb10
      go_wp2
      go_ret
      exact ⟨by simp, F.out⟩

theorem lmerges_any (ad : Option Addr) (cap : Nat) (xs : List CS) (hcap : xs.length ≤ cap) (hnil : ad = none → xs.length = 0 ∧ cap = 0) (sa : Bool) (A : List Nat) (hla : A.length = 16) (hA : ∀ x ∈ A, x < 256) (w : World) (hE : CEnv w) (hI : Elems encA 18 w.heap.size w ad xs) :
    Calls Tryz.prog 3 #[.slice ad xs.length cap, .agg (adr sa (ints A))] w fun e w' => e = .returned (.bool true) ∧ Below w.heap.size w w' := by
  by_cases h : xs.length ≤ 30
  · exact lmerges_short ad cap xs hcap h hnil sa A hla hA w hE hI
  · exact lmerges_long ad cap xs.length (by omega) sa A w hE
end Go.Proofs.YtijboclcbbnhbaaGreatDoor
