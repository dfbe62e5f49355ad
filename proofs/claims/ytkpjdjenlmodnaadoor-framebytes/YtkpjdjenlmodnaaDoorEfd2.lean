/-
  Feed: the body of a frame.
-/
import Derived.Test.YtkpjdjenlmodnaaDoorEfd1
import Derived.Deep.Cut
import Derived.Deep.LoopGhost
namespace Go.Proofs.YtkpjdjenlmodnaaDoor
open Go.RowKit Go.Lib

section
variable {w W W' : World} {c cnt : Nat} {tot p r : List Int} {ad : Option Addr} {cap : Nat} {v : Value} {F : List Fr} {xs : List Value} {b : Bool} {eF : Addr}
theorem FeedI.calls (h : FeedI w c cnt tot W p r ad cap v F xs) (m : Nat) (h1 : p.length < m) (h2 : m ≤ 1202) (V : World) (hb : Below W.heap.size W V) :
    Calls Tryd.prog 22 #[.pointer (some ⟨c, 0, none⟩), .slice ad r.length cap, .int .i64 (m : Int)] V fun e w' => ∃ ad', e = .returned (.slice ad' (r.drop (Nat.min r.length (m - p.length))).length (cap - Nat.min r.length (m - p.length))) ∧
      FeedI w c cnt tot w' (p ++ r.take (Nat.min r.length (m - p.length))) (r.drop (Nat.min r.length (m - p.length))) ad' (cap - Nat.min r.length (m - p.length)) v F xs ∧ Keep c V w' := by
  have hI := h.below hb
  refine (take_any hI.str ad cap r (hI.row.mono fun g hg _ => hg.1) hI.room hI.nil hI.byte m _ h1 h2 rfl (by have := hI.len; have := hI.most; omega)).mono ?_
  rintro e w' ⟨ad', rfl, hn, hr, hs, hK⟩
  exact ⟨ad', rfl, hI.took (Nat.min_le_left _ _) hs hr hn hK, hK⟩
theorem frame2 (x : Int) (ad : Option Addr) (n c : Nat) : ∀ u ∈ ([.int .i64 x, .slice ad n c] : List Value), u.oneCell' = true := by
  intro u hu
  rcases List.mem_cons.1 hu with rfl | hu
  · rfl
  rcases List.mem_cons.1 hu with rfl | hu
  · rfl
  · cases hu
theorem new_cells (w : World) (t : TypeId) (cs : Array Value) (j : Nat) (u : Value) (h : cs.toList[j]? = some u) : (w.alloc (.cells cs t)).cell? ((⟨w.heap.size, 0, none⟩ : Addr).add j) = some u := by
  rw [add_plain, Nat.zero_add, new_cell, ← Array.getElem?_toList]
  exact h

set_option linter.unusedSimpArgs false in
set_option maxRecDepth 100000 in
set_option maxHeartbeats 8000000 in
theorem feed_body (n : Nat) (a : Act) (w' : World) (hJ : FeedJ w c cnt tot eF n 0 a w') : ∃ X, findLabel feedC 0 = some (.seq .skip X) ∧ X.wp Tryd.prog (jumps (Low (FeedJ w c cnt tot eF) n) (bodyPost Tryd.prog Tryd.f15 (FeedEnd w c cnt tot eF))) a w' := by
  rcases hJ with ⟨_, hJ⟩ | ⟨h, _⟩ | ⟨h, _⟩ | ⟨h, _⟩
  rotate_left
  · cases h
  · cases h
  · cases h
  obtain ⟨p, r, ad, cap, v, F, xs, hA, hI, h2, h3, h4, h5, hn⟩ := hJ
  obtain ⟨u, rfl⟩ := hA.opens
  clear hA
  obtain ⟨k, hk⟩ : ∃ k, k = Nat.min r.length (2 + hdN p - p.length) := ⟨_, rfl⟩
  have hkl : k ≤ r.length := hk ▸ Nat.min_le_left _ _
  have hp' : (p ++ r.take k).length = p.length + k := by rw [List.length_append, List.length_take]; omega
  have hd' : hdN (p ++ r.take k) = hdN p := hdN_app h2
  have HSz : Hid (Calls Tryd.prog 23 #[.pointer (some ⟨c, 0, none⟩)] w' fun e w1 => e = .returned (.int .i64 (hdN p)) ∧ Below w'.heap.size w' w1) := hid (size_any hI.str h2)
  have HTk : Hid (∀ V, Below w'.heap.size w' V → Calls Tryd.prog 22 #[.pointer (some ⟨c, 0, none⟩), .slice ad r.length cap, .int .i64 (2 + (hdN p : Int))] V fun e w' => ∃ ad', e = .returned (.slice ad' (r.drop k).length (cap - k)) ∧
      FeedI w c cnt tot w' (p ++ r.take k) (r.drop k) ad' (cap - k) v F xs ∧ Keep c V w') := hid fun V hb => by
    have := hI.calls (2 + hdN p) h5 (by omega) V hb
    rw [← hk] at this
    push_cast at this
    exact this
  have hwhole : p.length + k = 2 + hdN p → ∀ F' n b, Cuts (r.drop k) F' n b → Cuts tot (F ++ frm (p ++ r.take k) :: F') n b := fun e F' n b hc => hI.inv _ _ _ (whole_cuts h2 h3 h4 e hkl hc)
  have HWh := hid hwhole
  have hsuf : ∃ m, r.drop k = tot.drop m := by
    obtain ⟨m, hm⟩ := hI.suf
    refine ⟨m + (p.length + k), ?_⟩
    rw [← List.drop_drop, ← hm, ← List.drop_drop, List.drop_left]
  have HSf := hid hsuf
  have HT : Hid (p.length + r.length < 2 + hdN p → ∀ V, Str V c (p ++ r.take k) cnt false → Keep c w' V → FeedT w c cnt tot V (p ++ r) v F xs false) := hid fun hlt V hs hK =>
    hI.told (wait_cuts h2 h3 h4 hlt) hs (by rw [hk]; exact Nat.min_eq_left (by omega)) hK
  have hkc : (p.length + r.length < 2 + hdN p ∧ k = r.length) ∨ (2 + hdN p ≤ p.length + r.length ∧ p.length + k = 2 + hdN p) := by
    rcases Nat.lt_or_ge (p.length + r.length) (2 + hdN p) with h | h
    · exact .inl ⟨h, by rw [hk]; exact Nat.min_eq_left (by omega)⟩
    · refine .inr ⟨h, ?_⟩
      have : k = 2 + hdN p - p.length := by rw [hk]; exact Nat.min_eq_right (by omega)
      omega
  have hml := hI.len
  have hmm := hI.most
  have HFw : Hid (F.length * 3 ≤ tot.length) := hid hI.few
  have HLt : Hid (c < w.heap.size) := hid hI.lt
  have HLw : Hid (c ≤ w'.heap.size) := hid (by have := hI.lt; have := hI.keep.low.size; omega)
  have hdl : (r.drop k).length = r.length - k := List.length_drop ..
  have HDl := hid hdl
  obtain ⟨q, hq⟩ : ∃ q, q = p ++ r.take k := ⟨_, rfl⟩
  obtain ⟨r', hr'⟩ : ∃ r', r' = r.drop k := ⟨_, rfl⟩
  rw [← hq] at hp' hd' HTk HWh HT
  rw [← hr'] at HTk HSf HDl HWh
  have HP := hid hp'
  have HD := hid hd'
  have h2q : 2 ≤ q.length := by omega
  have h3q : 1 ≤ hdN q := by omega
  clear hI hwhole hsuf hk hdl hq hr' hp' hd'
  subst hn
  generalize hdN p = hd at *
  generalize p.length = pl at *
  generalize r.length = rl at *
  generalize hrl' : r'.length = rl' at *
  have HRl := hid hrl'
  clear hrl'
  refine ⟨_, rfl, ?_⟩
  go_wp2_with fail
  refine HSz.out.mono ?_
  rintro e w1 ⟨rfl, hb1⟩
  have HB1 := hid hb1
  clear hb1 HSz
  go_wp2_with fail
  refine (HTk.out w1 HB1.out).mono ?_
  rintro e w2 ⟨ad', rfl, hI, hK⟩
  have HI := hid hI
  have HK2 : Hid (Keep c w' w2) := hid ((Keep.of HB1.out HLw.out).trans hK)
  clear HTk HB1 hI hK
  have HSz : Hid (Calls Tryd.prog 23 #[.pointer (some ⟨c, 0, none⟩)] w2.drew fun e w1 => e = .returned (.int .i64 (hdN q)) ∧ Below w2.drew.heap.size w2.drew w1) := hid (size_any (HI.out.str.kept (Below.refl _ _).drew) h2q)
  rw [HD.out] at HSz
  go_upto_region 10 with fail
  refine wp_region_held_drew (S := fun V => V.cell? ⟨c, 1202, none⟩ = some (.int .i64 (pl + k : Nat))) (by kernel_rfl) (by have := (HI.out.str.kept (Below.refl w2.heap.size w2).drew).cellW; rw [HP.out] at this; exact this) (fun hS => ?_)
  change wpAnyH _ _ _ _ _ 8 #[false, false, false, false, false, false, false, false] _ _
  refine wpAnyH_take (i := 0) (v := .pointer (some ⟨c, 0, none⟩)) rfl (by kernel_rfl) (by kernel_rfl) (by kernel_rfl) (fun _ _ _ h => h) (.inl ⟨by kernel_rfl, fun V hV => by unfold execOp; go_simp⟩) hS ?_
  simp only [List.getElem_toArray, List.getElem_cons_zero, List.getElem_cons_succ, Act.put, List.setIfInBounds_toArray, List.set_cons_zero, List.set_cons_succ]
  refine wpAnyH_take (i := 1) (v := .pointer (some ⟨c, 0, none⟩)) rfl (by kernel_rfl) (by kernel_rfl) (by kernel_rfl) (fun _ _ _ h => h) (.inl ⟨by kernel_rfl, fun V hV => by unfold execOp; go_simp⟩) hS ?_
  simp only [List.getElem_toArray, List.getElem_cons_zero, List.getElem_cons_succ, Act.put, List.setIfInBounds_toArray, List.set_cons_zero, List.set_cons_succ]
  refine wpAnyH_take (i := 2) (v := .pointer (some ⟨c, 1202, none⟩)) rfl (by kernel_rfl) (by kernel_rfl) (by kernel_rfl) (fun _ _ _ h => h) (.inl ⟨by kernel_rfl, fun V hV => by unfold execOp; go_simp⟩) hS ?_
  simp only [List.getElem_toArray, List.getElem_cons_zero, List.getElem_cons_succ, Act.put, List.setIfInBounds_toArray, List.set_cons_zero, List.set_cons_succ]
  refine wpAnyH_take (i := 3) (v := .int .i64 ((pl + k : Nat) : Int)) rfl (by kernel_rfl) (by kernel_rfl) (by kernel_rfl) (fun _ _ _ h => h) (.inl ⟨by kernel_rfl, fun V hV => by have c0 := hV; unfold execOp; go_simp⟩) hS ?_
  simp only [List.getElem_toArray, List.getElem_cons_zero, List.getElem_cons_succ, Act.put, List.setIfInBounds_toArray, List.set_cons_zero, List.set_cons_succ]
  refine wpAnyH_take (i := 4) (v := .pointer (some ⟨c, 0, none⟩)) rfl (by kernel_rfl) (by kernel_rfl) (by kernel_rfl) (fun _ _ _ h => h) (.inl ⟨by kernel_rfl, fun V hV => by unfold execOp; go_simp⟩) hS ?_
  simp only [List.getElem_toArray, List.getElem_cons_zero, List.getElem_cons_succ, Act.put, List.setIfInBounds_toArray, List.set_cons_zero, List.set_cons_succ]
  refine wpAnyH_ready (rs := [5]) (by kernel_rfl) (by simp) ?_
  refine AllReadyH.cons rfl (fun K' hK => ?_) AllReadyH.nil
  refine step_callE 23 #[.pointer (some ⟨c, 0, none⟩)] (by kernel_rfl) (by kernel_rfl) (R := fun v w' => v = .int .i64 (hd : Int) ∧ Below w2.drew.heap.size w2.drew w') (HSz.out.mono ?_) (fun v1 V3 hR => ?_)
  · rintro e w' ⟨rfl, h⟩
    exact ⟨_, rfl, rfl, h⟩
  obtain ⟨rfl, hb3⟩ := hR
  have HB3 : Hid (Below w2.heap.size w2 V3) := hid ((Below.refl w2.heap.size w2).drew.trans hb3)
  refine hK.out _ _ (by have := (HI.out.str.kept HB3.out).cellW; rw [HP.out] at this; exact this) (fun hS2 => ?_)
  simp only [List.getElem_toArray, List.getElem_cons_zero, List.getElem_cons_succ, Act.put, List.setIfInBounds_toArray, List.set_cons_zero, List.set_cons_succ]
  refine wpAnyH_take (i := 6) (v := .int .i64 (2 + (hd : Int))) rfl (by kernel_rfl) (by kernel_rfl) (by kernel_rfl) (fun _ _ _ h => h) (.inl ⟨by kernel_rfl, fun V hV => by have wz : IntKind.i64.wrap (2 + (hd : Int)) = 2 + (hd : Int) := (by rw [IntKind.wrap_i64]; omega); unfold execOp; go_simp⟩) hS2 ?_
  simp only [List.getElem_toArray, List.getElem_cons_zero, List.getElem_cons_succ, Act.put, List.setIfInBounds_toArray, List.set_cons_zero, List.set_cons_succ]
  rcases hkc with ⟨hc1, hc2⟩ | ⟨hc1, hc2⟩
  · have q1 : (pl : Int) + (k : Int) < 2 + (hd : Int) := by omega
    have HC2 := hid hc2
    clear hc2
    refine wpAnyH_take (i := 7) (v := .bool true) rfl (by kernel_rfl) (by kernel_rfl) (by kernel_rfl) (fun _ _ _ h => h) (.inl ⟨by kernel_rfl, fun V hV => by unfold execOp; go_simp⟩) hS2 ?_
    simp only [List.getElem_toArray, List.getElem_cons_zero, List.getElem_cons_succ, Act.put, List.setIfInBounds_toArray, List.set_cons_zero, List.set_cons_succ]
    refine wpAnyH_done (by kernel_rfl) ?_ _
    have HF := hid (HT.out hc1 V3 (HI.out.str.kept HB3.out) (HK2.out.trans (Keep.of HB3.out (by have := HI.out.lt; have := HI.out.keep.low.size; omega))))
    clear hS hS2 hK hb3 HI HT HSf HWh HSz HK2 HB3
    go_wp2
    go_step3
    exact ⟨0, by omega, .inr (.inr (.inl ⟨rfl, _, v, F, xs, false, _, ⟨rfl, rfl, rfl, rfl, rfl, rfl⟩, HF.out, rfl⟩))⟩
  · have q1 : ¬ ((pl : Int) + (k : Int) < 2 + (hd : Int)) := by omega
    have HC2 := hid hc2
    clear hc2
    refine wpAnyH_take (i := 7) (v := .bool false) rfl (by kernel_rfl) (by kernel_rfl) (by kernel_rfl) (fun _ _ _ h => h) (.inl ⟨by kernel_rfl, fun V hV => by unfold execOp; go_simp⟩) hS2 ?_
    simp only [List.getElem_toArray, List.getElem_cons_zero, List.getElem_cons_succ, Act.put, List.setIfInBounds_toArray, List.set_cons_zero, List.set_cons_succ]
    refine wpAnyH_done (by kernel_rfl) ?_ _
    have HI3 := hid (HI.out.below HB3.out)
    have HQ : Hid (q.length = 2 + hdN q) := hid (by rw [HP.out, HD.out]; exact HC2.out)
    have HWl : Hid (Calls Tryd.prog 24 #[.pointer (some ⟨c, 0, none⟩)] V3 (WholeEnd (frm q) V3)) := hid (whole_any HI3.out.str h3q HQ.out)
    have HWh2 := hid (HWh.out HC2.out)
    clear hS hS2 hK hb3 HI HT HSz HK2 HB3 HWh
    obtain ⟨f, hf⟩ : ∃ f, f = frm q := ⟨_, rfl⟩
    rw [← hf] at HWl HWh2
    clear hf HQ
    go_wp2_with fail
    refine HWl.out.mono ?_
    rintro e w4 ⟨vf, rfl, hv, hb4⟩
    obtain ⟨adf, capf, hvv⟩ : ∃ ad cap, vf = .slice ad f.2.length cap := by
      obtain ⟨ad, cap, e, _⟩ := hv
      exact ⟨ad, cap, e⟩
    subst hvv
    obtain ⟨w5, hw5⟩ : ∃ w5, w5 = w4.alloc (.cells #[.int .i64 f.1, .slice adf f.2.length capf] 46) := ⟨_, rfl⟩
    have hb5 : Below w4.heap.size w4 w5 := hw5 ▸ (Below.refl _ _).alloc (Nat.le_refl _) _
    have HI5 := hid (HI3.out.below (bel2 hb4 hb5))
    have HBd : Hid (BodyA (fun g => V3.heap.size ≤ g) w5 (.slice adf f.2.length capf) f.2) := hid (hv.kept fun g _ hg => hb5.block g hg)
    have HVo : Hid (∀ g, v.ownBlock = some g → g < V3.heap.size) := hid fun g e => (HI3.out.own.lt g e).2
    have HVs : Hid (w.heap.size ≤ V3.heap.size) := hid HI3.out.keep.low.size
    have HNc : Hid (∀ ad : Addr, some (⟨w4.heap.size, 0, none⟩ : Addr) = some ad → ∀ j u, ([.int .i64 f.1, .slice adf f.2.length capf] : List Value)[j]? = some u → w5.cell? (ad.add j) = some u) := hid fun ad e j u hu => by
      cases e
      rw [hw5]
      exact new_cells w4 _ _ j u hu
    have HW5 := hid hw5.symm
    have HBs : Hid (w.heap.size ≤ w5.heap.size) := hid (HI5.out.keep.low.size)
    have HFl : Hid (F.length + 1 ≤ 1000000) := hid (by have := HFw.out; omega)
    clear hv hb4 hb5 hw5 HI3 HWl
    obtain ⟨i0, hi, hz0, hz1, hz2⟩ := info_parts Tryd.infoFrame
    have HZ1 := hid hz1
    have HZ2 := hid hz2
    clear hz1 hz2
    go_wp2_with ((try rw [HW5.out]); first
      | ((show wpList _ _ _ (⟨some 52, _, _, _, _, _⟩ :: _) _ _); go_must (refine wpl_appG (.tmp 48) (.tmp 51) rfl Tryd.underlying25 hi hz0 HZ1.out HZ2.out rfl (by decide) (by decide) w.heap.size v F.length xs rfl HI5.out.own (some ⟨w4.heap.size, 0, none⟩) 1 1 [.int .i64 f.1, .slice adf f.2.length capf] rfl rfl HNc.out (frame2 _ _ _ _) (fun e => by cases e) HFl.out HBs.out rfl ?_; intro v' w6 hown hgr hfr; have h6s := HI5.out.str.grown hgr (fun e => by have h1 := (HI5.out.own.lt c e.symm).1; have h2 := HLt.out; omega); have h6 := h6s.cellW; have h7 := h6s.free 1202))
      | fail)
    go_step3
    refine ⟨2 * (0 + rl') + 3, by have := HDl.out; have := HC2.out; omega, .inr (.inl ⟨rfl, [], r', ad', cap - k, v', F ++ [f], _, ?_, HI5.out.more HVo.out HVs.out HBd.out hown hgr hfr HWh2.out HSf.out, by simp, ?_⟩)⟩
    · rw [HRl.out]
      exact ⟨rfl, rfl, rfl, rfl, rfl, rfl⟩
    · rw [HRl.out]; rfl
end
end Go.Proofs.YtkpjdjenlmodnaaDoor
