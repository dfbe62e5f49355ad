/-
  Feed: the head of a frame; the whole.
-/
import Derived.Test.YtkpjdjenlmodnaaDoorEfd2
namespace Go.Proofs.YtkpjdjenlmodnaaDoor
open Go.RowKit Go.Lib

section
variable {w W W' : World} {c cnt : Nat} {tot p r : List Int} {ad : Option Addr} {cap : Nat} {v : Value} {F : List Fr} {xs : List Value} {b : Bool} {eF : Addr}
theorem low_mono {J : Nat → Nat → Act → World → Prop} {m n : Nat} (h : m ≤ n) : ∀ l a w, Low J m l a w → Low J n l a w := fun _ _ _ ⟨k, h1, h2⟩ => ⟨k, Nat.lt_of_lt_of_le h1 h, h2⟩
theorem low_any {J : Nat → Nat → Act → World → Prop} {m : Nat} : ∀ l a w, Low J m l a w → Any J l a w := fun _ _ _ ⟨k, _, h2⟩ => ⟨k, h2⟩

set_option linter.unusedSimpArgs false in
set_option maxRecDepth 100000 in
set_option maxHeartbeats 8000000 in
theorem feed_head (n : Nat) (a : Act) (w' : World) (hJ : FeedJ w c cnt tot eF n 1 a w') : ∃ X, findLabel feedC 1 = some (.seq .skip X) ∧ X.wp Tryd.prog (jumps (Low (FeedJ w c cnt tot eF) n) (bodyPost Tryd.prog Tryd.f15 (FeedEnd w c cnt tot eF))) a w' := by
  rcases hJ with ⟨h, _⟩ | ⟨_, hJ⟩ | ⟨h, _⟩ | ⟨h, _⟩
  · cases h
  rotate_left
  · cases h
  · cases h
  obtain ⟨p, r, ad, cap, v, F, xs, hA, hI, h2, hn⟩ := hJ
  obtain ⟨u, rfl⟩ := hA.opens
  clear hA
  obtain ⟨k, hk⟩ : ∃ k, k = Nat.min r.length (2 - p.length) := ⟨_, rfl⟩
  have hkl : k ≤ r.length := hk ▸ Nat.min_le_left _ _
  have hp' : (p ++ r.take k).length = p.length + k := by rw [List.length_append, List.length_take]; omega
  have HTk : Hid (Calls Tryd.prog 22 #[.pointer (some ⟨c, 0, none⟩), .slice ad r.length cap, .int .i64 2] w' fun e w1 => ∃ ad', e = .returned (.slice ad' (r.drop k).length (cap - k)) ∧
      FeedI w c cnt tot w1 (p ++ r.take k) (r.drop k) ad' (cap - k) v F xs ∧ Keep c w' w1) := hid (by
    have := hI.calls 2 h2 (by omega) w' (Below.refl _ _)
    rw [← hk] at this
    exact this)
  have HT : Hid (p.length + r.length < 2 → ∀ V, Str V c (p ++ r.take k) cnt false → Keep c w' V → FeedT w c cnt tot V (p ++ r) v F xs false) := hid fun hlt V hs hK =>
    hI.told (.short (by rw [List.length_append]; exact hlt)) hs (by rw [hk]; exact Nat.min_eq_left (by omega)) hK
  have hkc : (p.length + r.length < 2 ∧ k = r.length) ∨ (2 ≤ p.length + r.length ∧ p.length + k = 2) := by
    rcases Nat.lt_or_ge (p.length + r.length) 2 with h | h
    · exact .inl ⟨h, by rw [hk]; exact Nat.min_eq_left (by omega)⟩
    · refine .inr ⟨h, ?_⟩
      have : k = 2 - p.length := by rw [hk]; exact Nat.min_eq_right (by omega)
      omega
  have hml := hI.len
  have hmm := hI.most
  have HDl : Hid ((r.drop k).length = r.length - k) := hid (List.length_drop ..)
  generalize hq : p ++ r.take k = q at *
  generalize hr' : r.drop k = r' at *
  have HP := hid hp'
  have HK := hid hkl
  subst hn
  clear hI hk hq hr' hp'
  generalize p.length = pl at *
  generalize r.length = rl at *
  generalize hrl' : r'.length = rl' at *
  have HRl := hid hrl'
  clear hrl'
  refine ⟨_, rfl, ?_⟩
  go_wp2_with fail
  refine HTk.out.mono ?_
  rintro e w1 ⟨ad', rfl, hI, hK⟩
  have HI := hid hI
  have HK2 := hid hK
  have c0 : w1.cell? ⟨c, 1202, none⟩ = some (.int .i64 ((pl : Int) + (k : Int))) := by have := hI.str.cellW; rw [HP.out] at this; simpa using this
  clear HTk hI hK
  rcases hkc with ⟨hc1, hc2⟩ | ⟨hc1, hc2⟩
  · have q1 : (pl : Int) + (k : Int) < 2 := by omega
    have HF := hid (HT.out hc1 w1 HI.out.str HK2.out)
    clear hc2 HT HI HK2
    go_wp2
    go_step3
    exact ⟨0, by omega, .inr (.inr (.inl ⟨rfl, _, v, F, xs, false, _, ⟨rfl, rfl, rfl, rfl, rfl, rfl⟩, HF.out, rfl⟩))⟩
  · have q1 : ¬ ((pl : Int) + (k : Int) < 2) := by omega
    have hq2 : q.length = 2 := by rw [HP.out]; exact hc2
    have HQ := hid hq2
    have HC2 := hid hc2
    have HSz : Hid (∀ V, Below w1.heap.size w1 V → Calls Tryd.prog 23 #[.pointer (some ⟨c, 0, none⟩)] V fun e w2 => e = .returned (.int .i64 (hdN q)) ∧ Below V.heap.size V w2) := hid fun V hb => size_any (HI.out.str.kept hb) (by omega)
    have HX : Hid (hdN q = 0 ∨ 1200 < hdN q → ∀ V, Below w1.heap.size w1 V → FeedX w c cnt tot V v F xs) := hid fun hb V hV => (HI.out.below hV).broken (.bad (by rw [List.length_append]; omega) (by rw [hdN_app (by omega)]; exact hb))
    have HHd : Hid (hdN q = hdN q) := hid rfl
    obtain ⟨hd, hhd⟩ : ∃ hd, hd = hdN q := ⟨_, rfl⟩
    have HHq := hid hhd
    rw [← hhd] at HSz HX
    clear HT hq2 hc2 hhd HHd
    by_cases hz : hd = 0
    · have HF := hid (HX.out (.inl hz))
      subst hz
      clear HX
      go_wp2_with fail
      refine (HSz.out _ (Below.refl _ _)).mono ?_
      rintro e w2 ⟨rfl, hb⟩
      have HF2 := hid (HF.out _ hb)
      clear hb HF HSz HI
      go_wp2
      go_step3
      exact ⟨1, by omega, .inr (.inr (.inr ⟨rfl, v, F, xs, _, ⟨rfl, rfl, rfl, rfl, rfl, rfl⟩, HF2.out, rfl⟩))⟩
    · have h1 : 1 ≤ hd := by omega
      have h1' : ¬ ((hd : Int) < 1) := by omega
      go_wp2_with fail
      refine (HSz.out _ (Below.refl _ _)).mono ?_
      rintro e w2 ⟨rfl, hb⟩
      have HB2 := hid hb
      clear hb
      go_wp2_with fail
      refine (HSz.out _ HB2.out).mono ?_
      rintro e w3 ⟨rfl, hb⟩
      have HB3 := hid (bel2 HB2.out hb)
      clear hb HB2 HSz
      by_cases hbig : 1200 < hd
      · have hb' : (1200 : Int) < (hd : Int) := by omega
        have HF := hid (HX.out (.inr hbig) _ HB3.out)
        clear HX HI HB3
        go_wp2
        go_step3
        exact ⟨1, by omega, .inr (.inr (.inr ⟨rfl, v, F, xs, _, ⟨rfl, rfl, rfl, rfl, rfl, rfl⟩, HF.out, rfl⟩))⟩
      · have hb' : ¬ (1200 : Int) < (hd : Int) := by omega
        have HI3 := hid (HI.out.below HB3.out)
        clear HX HI HB3
        go_wp2
        refine wp_fallK (by assumption) (c := feedC) (n := 2 * (2 + rl') + 2) rfl (feed_body _ _ _ (.inl ⟨rfl, q, r', ad', cap - k, v, F, xs, ?_, HI3.out, by rw [HQ.out]; decide, by rw [← HHq.out]; exact h1, by rw [← HHq.out]; omega, by rw [HQ.out, ← HHq.out]; omega, by rw [HQ.out, HRl.out]⟩)) (low_mono (by have := HDl.out; have := HC2.out; have := HK.out; omega))
        rw [HRl.out]
        exact ⟨rfl, rfl, rfl, rfl, rfl, rfl⟩
end
end Go.Proofs.YtkpjdjenlmodnaaDoor
