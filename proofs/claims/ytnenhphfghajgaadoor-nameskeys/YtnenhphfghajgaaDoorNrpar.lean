/-
  The document's Parse of a key: the same as names.Parse; a key's text is parsed to the key.
-/
import Derived.Test.YtnenhphfghajgaaDoorNparse
namespace Go.Proofs.YtnenhphfghajgaaDoor
open Go.RowKit

theorem nocc1 (l : List UInt8) (c : UInt8) (i : Nat) (hi : i < l.length) : Lib.occAt l [c] i = (c == l[i]) := by
  unfold Lib.occAt
  rw [List.drop_eq_getElem_cons hi, List.isPrefixOf]
  simp
theorem cut1_at (l : List UInt8) (c : Nat) (hc : l[c]? = some 47) (hn : (47 : UInt8) ∉ l.take c) : Lib.cut l [47] = (l.take c, l.drop (c + 1), true) := by
  have hcl : c < l.length := (List.getElem?_eq_some_iff.1 hc).1
  have ho : ∀ j, j < l.length → (Lib.occAt l [47] j = true ↔ l[j]? = some 47) := fun j hj => by
    rw [nocc1 l 47 j hj, beq_iff_eq, List.getElem?_eq_getElem hj]
    constructor
    · intro h; rw [h]
    · intro h; exact (Option.some.inj h).symm
  have hno : ∀ j, j < c → l[j]? ≠ some 47 := fun j hj h => hn (List.mem_of_getElem? (by rw [List.getElem?_take, if_pos hj]; exact h))
  have hi : Lib.index l [47] = (c : Int) := by
    rcases Lib.index_spec l [47] with ⟨_, h2⟩ | ⟨i, h1, h2, h3, h4⟩
    · have := h2 c (by omega)
      rw [(ho c hcl).2 hc] at this
      cases this
    · rw [h1]
      congr 1
      have hroom := Lib.occAt_room h3
      simp only [List.length_singleton, List.cons_ne_nil, or_false] at hroom
      rcases Nat.lt_trichotomy i c with h | h | h
      · exact absurd ((ho i (by omega)).1 h3) (hno i h)
      · exact h
      · have := h4 c h
        rw [(ho c hcl).2 hc] at this
        cases this
  unfold Lib.cut
  rw [hi, if_pos (by omega)]
  rfl
theorem cut1_no (l : List UInt8) (hn : (47 : UInt8) ∉ l) : Lib.cut l [47] = (l, [], false) := by
  have hi : Lib.index l [47] = -1 := by
    rcases Lib.index_spec l [47] with ⟨h1, _⟩ | ⟨i, h1, h2, h3, h4⟩
    · exact h1
    · have hroom := Lib.occAt_room h3
      simp only [List.length_singleton, List.cons_ne_nil, or_false] at hroom
      rw [nocc1 l 47 i (by omega), beq_iff_eq] at h3
      exact absurd (h3 ▸ List.getElem_mem (by omega)) hn
  unfold Lib.cut
  rw [hi, if_neg (by omega)]

theorem extract_take (s : ByteArray) (c : Nat) : (s.extract 0 c).data.toList = s.data.toList.take c := by
  simp [ByteArray.data_extract, Array.toList_extract, List.extract_eq_take_drop]
theorem extract_drop (s : ByteArray) (c : Nat) : (s.extract c s.size).data.toList = s.data.toList.drop c := by
  simp only [ByteArray.data_extract, Array.toList_extract, List.extract_eq_take_drop]
  apply List.take_of_length_le
  rw [List.length_drop, ← Lib.size_eq]
  exact Nat.le_refl _

theorem bytes_ext {a b : ByteArray} (h : a.data.toList = b.data.toList) : a = b := by
  obtain ⟨⟨a⟩⟩ := a
  obtain ⟨⟨b⟩⟩ := b
  simp only at h
  rw [h]

theorem lab_noslash {a : ByteArray} (h : lab a = true) : (47 : UInt8) ∉ a.data.toList := by
  intro hm
  simp only [lab, Bool.and_eq_true] at h
  have := List.all_eq_true.1 h.1.1.2 _ hm
  revert this
  decide

theorem key_back (a b : ByteArray) (h : (lab a && lab b) = true) : isKey (keyText a b).data.toList = true ∧ pieceA (keyText a b).data.toList = a ∧ pieceB (keyText a b).data.toList = b := by
  have hT : (keyText a b).data.toList = a.data.toList ++ 47 :: b.data.toList := by
    unfold keyText
    rw [if_pos h]
    simp
  have ha : lab a = true := by simp only [Bool.and_eq_true] at h; exact h.1
  have hc := cut1_at (a.data.toList ++ 47 :: b.data.toList) a.data.toList.length (by simp) (by rw [List.take_left]; exact lab_noslash ha)
  have e1 : (a.data.toList ++ 47 :: b.data.toList).take a.data.toList.length = a.data.toList := List.take_left
  have e2 : (a.data.toList ++ 47 :: b.data.toList).drop (a.data.toList.length + 1) = b.data.toList := by simp [List.drop_append]
  rw [e1, e2] at hc
  have hA : pieceA (keyText a b).data.toList = a := by
    rw [hT]; unfold pieceA; rw [hc]
  have hB : pieceB (keyText a b).data.toList = b := by
    rw [hT]; unfold pieceB; rw [hc]
  refine ⟨?_, hA, hB⟩
  unfold isKey
  rw [hA, hB]
  exact h

theorem isKey_no {l : List UInt8} (hn : (47 : UInt8) ∉ l) : isKey l = false := by
  have hB : pieceB l = ⟨#[]⟩ := by unfold pieceB; rw [cut1_no l hn]
  unfold isKey
  rw [hB]
  have : lab ⟨#[]⟩ = false := lab_short (by decide)
  rw [this, Bool.and_false]

def RpEnd (l : List UInt8) (w : World) (e : Ending) (w' : World) : Prop := e = .returned (.tuple (if isKey l = true then #[kv (pieceA l) (pieceB l), .bool true] else #[nk, .bool false])) ∧ Below w.heap.size w w'

set_option linter.unusedSimpArgs false in
set_option maxRecDepth 100000 in
set_option maxHeartbeats 8000000 in
theorem rparse_any (s : ByteArray) (hs : s.size ≤ 1000) (w : World) : Calls Tryd.prog 7 #[.string s] w (RpEnd s.data.toList w) := by
  obtain ⟨W0, hW0⟩ : ∃ W, W = w.alloc (.cells #[.string ⟨#[]⟩, .string ⟨#[]⟩] 23) := ⟨_, rfl⟩
  have hB0 : Blk W0 w.heap.size 23 #[.string ⟨#[]⟩, .string ⟨#[]⟩] := hW0 ▸ Blk.new w _ _
  have hb0 : Below w.heap.size w W0 := hW0 ▸ (Below.refl _ _).alloc (Nat.le_refl _) _
  have HW0 := Lib.hid hW0.symm
  have HB0 := Lib.hid hB0
  have Hb0 := Lib.hid hb0
  obtain ⟨l, hl⟩ : ∃ l, l = s.data.toList := ⟨_, rfl⟩
  have HL := Lib.hid hl
  have HAt : Hid (∀ k, ∀ h : k < s.size, l[k]? = some s[k]) := Lib.hid fun k h => by rw [hl]; exact list_at s k h
  have HSz : Hid (l.length = s.size) := Lib.hid (by rw [hl, Lib.size_eq])
  rw [← hl]
  clear hW0 hB0 hb0 hl
  go_enter Tryd.func7, Tryd.ntmps7
  go_wp2
  rw [HW0.out]
  go_loop [4] (fun i => ∃ k : Nat, k ≤ s.size ∧ i = .int .i64 k ∧ Hid ((47 : UInt8) ∉ l.take k)) (fun i => s.size - (intOf i).toNat)
  case atStart => exact ⟨0, Nat.zero_le _, rfl, fun h => by simp at h⟩
  case round =>
    obtain ⟨k, hk, rfl, hh⟩ := hrel
    by_cases hlt : k < s.size
    · by_cases hc : s[k] = 47
      · have qc : ((s[k].toNat : Int) == 47) = true := by rw [hc]; rfl
        have hcut := cut1_at l k (by rw [HAt.out k hlt, hc]) hh.out
        have hex1 := extract_take s k
        have hex2 := extract_drop s (k + 1)
        rw [← HL.out] at hex1 hex2
        obtain ⟨k1, hk1⟩ : ∃ k1, k1 = k + 1 := ⟨_, rfl⟩
        rw [← hk1] at hex2 hcut
        have e1 : IntKind.i64.wrap ((k : Int) + 1) = (k1 : Int) := by simp only [IntKind.wrap, IntKind.signed, IntKind.bits]; simp; omega
        have b1 : (0 : Int) ≤ (k : Int) := by omega
        have b2 : (k : Int) ≤ (s.size : Int) := by omega
        have b3 : (0 : Int) ≤ (k1 : Int) := by omega
        have b4 : (k1 : Int) ≤ (s.size : Int) := by omega
        obtain ⟨t1, ht1⟩ : ∃ t, t = s.extract 0 k := ⟨_, rfl⟩
        obtain ⟨t2, ht2⟩ : ∃ t, t = s.extract k1 s.size := ⟨_, rfl⟩
        have HS1 : Hid (∀ w, (Instr.sliceAt 9 (.string s) none (some (.int .i64 (k : Int))) none).run Tryd.prog w = .ok (.string t1) w) := Lib.hid fun w => by
          rw [ht1]
          simp [Instr.sliceAt, run_underlying Tryd.underlying9, Instr.sliceBounds, go_sem, b1, b2]
        have HS2 : Hid (∀ w, (Instr.sliceAt 9 (.string s) (some (.int .i64 (k1 : Int))) none none).run Tryd.prog w = .ok (.string t2) w) := Lib.hid fun w => by
          rw [ht2]
          simp [Instr.sliceAt, run_underlying Tryd.underlying9, Instr.sliceBounds, go_sem, b3, b4]
        have hA : pieceA l = t1 := by
          unfold pieceA
          rw [hcut, ht1]
          exact bytes_ext hex1.symm
        have hB : pieceB l = t2 := by
          unfold pieceB
          rw [hcut, ht2]
          exact bytes_ext hex2.symm
        have hK : isKey l = (lab t1 && lab t2) := by unfold isKey; rw [hA, hB]
        have CK := Lib.hid (rkey_any t1 t2)
        obtain ⟨x, hx⟩ : ∃ x, x = (lab t1 && lab t2) := ⟨_, rfl⟩
        have HR : Hid (∀ e w', RpEnd l w e w' ↔ (e = .returned (.tuple (if x = true then #[kv t1 t2, .bool true] else #[nk, .bool false])) ∧ Below w.heap.size w w')) := Lib.hid fun e w' => by
          unfold RpEnd
          rw [hK, hA, hB, ← hx]
        rw [← hx] at CK
        clear hcut hex1 hex2 hk1 hc hh ht1 ht2 hA hB hK hx
        have HBd : Hid (Blk W0.drew w.heap.size 23 #[.string ⟨#[]⟩, .string ⟨#[]⟩]) := Lib.hid (HB0.out.kept (below_drewN W0 1))
        have Hbd : Hid (Below w.heap.size w W0.drew) := Lib.hid (bel2 Hb0.out (below_drewN W0 1))
        obtain ⟨V1, hV1⟩ : ∃ V, V = W0.drew.alloc (.cells #[.string ⟨#[]⟩, .string ⟨#[]⟩] 23) := ⟨_, rfl⟩
        have hBV1 : Blk V1 W0.heap.size 23 #[.string ⟨#[]⟩, .string ⟨#[]⟩] := hV1 ▸ Blk.new W0.drew _ _
        have hbV1 : Below W0.drew.heap.size W0.drew V1 := hV1 ▸ (Below.refl _ _).alloc (Nat.le_refl _) _
        obtain ⟨V2, hV2⟩ : ∃ V, V = V1.setRow W0.heap.size #[.string t1, .string t2] := ⟨_, rfl⟩
        have hlt0 : w.heap.size < W0.heap.size := HB0.out.lt
        have HX2 : Hid (Blk V2 W0.heap.size 23 #[.string t1, .string t2]) := Lib.hid (hV2 ▸ hBV1.row _)
        have HB2 : Hid (Blk V2 w.heap.size 23 #[.string ⟨#[]⟩, .string ⟨#[]⟩]) := Lib.hid (hV2 ▸ (HBd.out.kept hbV1).rowOther (by omega) _)
        have Hb2 : Hid (Below w.heap.size w V2) := Lib.hid (hV2 ▸ below_setRow (bel2 Hbd.out hbV1) (by omega) _)
        have HV1 := Lib.hid hV1.symm
        have HV2 := Lib.hid hV2.symm
        have HBV1 := Lib.hid hBV1
        clear hV1 hV2 hBV1 hbV1
        go_wp2_with fail
        refine wp_region_any (by kernel_rfl) ?_
        change wpAny _ _ _ _ _ _ _ (World.drew _)
        refine wpAny_take (i := 0) (v := .string s) rfl (by kernel_rfl) (by kernel_rfl) (by kernel_rfl) (fun _ _ _ h => h) (Or.inl ⟨by rfl, fun w => by kernel_rfl⟩) ?_
        simp only [List.getElem_toArray, List.getElem_cons_zero, List.getElem_cons_succ, Act.put, List.setIfInBounds_toArray, List.set_cons_zero, List.set_cons_succ]
        refine wpAny_take (i := 1) (v := .int .i64 k) rfl (by kernel_rfl) (by kernel_rfl) (by kernel_rfl) (fun _ _ _ h => h) (Or.inl ⟨by rfl, fun w => by kernel_rfl⟩) ?_
        simp only [List.getElem_toArray, List.getElem_cons_zero, List.getElem_cons_succ, Act.put, List.setIfInBounds_toArray, List.set_cons_zero, List.set_cons_succ]
        refine wpAny_take (i := 2) (v := .string t1) rfl (by kernel_rfl) (by kernel_rfl) (by kernel_rfl) (fun _ _ _ h => h) (Or.inl ⟨by rfl, fun w => by have := HS1.out w; go_simp⟩) ?_
        simp only [List.getElem_toArray, List.getElem_cons_zero, List.getElem_cons_succ, Act.put, List.setIfInBounds_toArray, List.set_cons_zero, List.set_cons_succ]
        refine wpAny_take (i := 3) (v := .string s) rfl (by kernel_rfl) (by kernel_rfl) (by kernel_rfl) (fun _ _ _ h => h) (Or.inl ⟨by rfl, fun w => by kernel_rfl⟩) ?_
        simp only [List.getElem_toArray, List.getElem_cons_zero, List.getElem_cons_succ, Act.put, List.setIfInBounds_toArray, List.set_cons_zero, List.set_cons_succ]
        refine wpAny_take (i := 4) (v := .int .i64 k) rfl (by kernel_rfl) (by kernel_rfl) (by kernel_rfl) (fun _ _ _ h => h) (Or.inl ⟨by rfl, fun w => by kernel_rfl⟩) ?_
        simp only [List.getElem_toArray, List.getElem_cons_zero, List.getElem_cons_succ, Act.put, List.setIfInBounds_toArray, List.set_cons_zero, List.set_cons_succ]
        refine wpAny_take (i := 5) (v := .int .i64 k1) rfl (by kernel_rfl) (by kernel_rfl) (by kernel_rfl) (fun _ _ _ h => h) (Or.inl ⟨by rfl, fun w => by go_simp⟩) ?_
        simp only [List.getElem_toArray, List.getElem_cons_zero, List.getElem_cons_succ, Act.put, List.setIfInBounds_toArray, List.set_cons_zero, List.set_cons_succ]
        refine wpAny_take (i := 6) (v := .string t2) rfl (by kernel_rfl) (by kernel_rfl) (by kernel_rfl) (fun _ _ _ h => h) (Or.inl ⟨by rfl, fun w => by have := HS2.out w; go_simp⟩) ?_
        simp only [List.getElem_toArray, List.getElem_cons_zero, List.getElem_cons_succ, Act.put, List.setIfInBounds_toArray, List.set_cons_zero, List.set_cons_succ]
        refine wpAny_take (i := 7) (v := kv t1 t2) rfl (by kernel_rfl) (by kernel_rfl) (by kernel_rfl) (fun _ _ _ h => h) (Or.inl ⟨by rfl, fun w => by kernel_rfl⟩) ?_
        simp only [List.getElem_toArray, List.getElem_cons_zero, List.getElem_cons_succ, Act.put, List.setIfInBounds_toArray, List.set_cons_zero, List.set_cons_succ]
        refine wpAny_ready (rs := [8]) (by kernel_rfl) (by simp) ?_
        refine AllReady.cons rfl (fun K hK => ?_) AllReady.nil
        refine step_run (.pointer (some ⟨W0.heap.size, 0, none⟩)) V1 (by rw [← HV1.out]; kernel_rfl) (by kernel_rfl) (hK _ _ ?_)
        simp only [List.getElem_toArray, List.getElem_cons_zero, List.getElem_cons_succ, Act.put, List.setIfInBounds_toArray, List.set_cons_zero, List.set_cons_succ]
        refine wpAny_ready (rs := [9]) (by kernel_rfl) (by simp) ?_
        refine AllReady.cons rfl (fun K hK => ?_) AllReady.nil
        refine step_store 23 (.tmp 5) (.tmp 23) rfl W0.heap.size #[.string t1, .string t2] (by kernel_rfl) (by kernel_rfl) 23 _ HBV1.out 2 Tryd.infoKey rfl rfl (kv_one _ _) (by kernel_rfl) (hK _ _ ?_)
        rw [HV2.out]
        simp only [List.getElem_toArray, List.getElem_cons_zero, List.getElem_cons_succ, Act.put, List.setIfInBounds_toArray, List.set_cons_zero, List.set_cons_succ]
        refine wpAny_done (by kernel_rfl) ?_ _
        clear HV1 HV2 HBV1 HS1 HS2
        go_wp2_with (refine wpl_load 23 _ rfl W0.heap.size rfl _ _ _ HX2.out Tryd.underlying23 rfl 2 Tryd.infoKey rfl rfl ?_)
        refine (CK.out _).mono ?_
        rintro e w3 ⟨rfl, hb3⟩
        have HX3 := Lib.hid (HX2.out.kept hb3)
        have HB3 := Lib.hid (HB2.out.kept hb3)
        have Hb3 := Lib.hid (bel2 Hb2.out hb3)
        clear hb3
        cases x with
        | true =>
          go_wp2_with (first | (refine wpl_load 23 _ rfl W0.heap.size rfl _ _ _ HX3.out Tryd.underlying23 rfl 2 Tryd.infoKey rfl rfl ?_) | (refine wpl_store 23 _ _ rfl w.heap.size #[.string t1, .string t2] rfl rfl _ _ HB3.out 2 Tryd.infoKey rfl rfl (kv_one _ _) rfl ?_))
          exact retA2 rfl w.heap.size rfl _ _ _ (HB3.out.row _) Tryd.underlying23 rfl 2 Tryd.infoKey rfl rfl _ rfl ((HR.out _ _).2 ⟨rfl, below_setRow Hb3.out (Nat.le_refl _) _⟩)
        | false =>
          go_wp2_with (refine wpl_store 23 _ _ rfl w.heap.size #[.string ⟨#[]⟩, .string ⟨#[]⟩] rfl rfl _ _ HB3.out 2 Tryd.infoKey rfl rfl (kv_one _ _) rfl ?_)
          exact retA2 rfl w.heap.size rfl _ _ _ (HB3.out.row _) Tryd.underlying23 rfl 2 Tryd.infoKey rfl rfl _ rfl ((HR.out _ _).2 ⟨rfl, below_setRow Hb3.out (Nat.le_refl _) _⟩)
      · have qc : ((s[k].toNat : Int) == 47) = false := by
          rw [beq_eq_false_iff_ne]
          intro h
          exact hc (UInt8.toNat_inj.1 (by have : ((47 : UInt8).toNat : Int) = 47 := rfl; omega))
        have HX : Hid ((47 : UInt8) ∉ l.take (k + 1)) := Lib.hid (by
          rw [List.take_add_one, HAt.out k hlt]
          intro h
          rcases List.mem_append.1 h with h | h
          · exact hh.out h
          · simp at h
            exact hc h.symm)
        clear hh hc
        go_wp2
        go_round
        case rel => exact ⟨k + 1, by omega, by go_num, HX⟩
        case measure => simp [intOf]; omega
    · obtain rfl : k = s.size := by omega
      have HR : Hid (isKey l = false) := Lib.hid (isKey_no (by
        have := hh.out
        rw [List.take_of_length_le (by rw [HSz.out]; exact Nat.le_refl _)] at this
        exact this))
      clear hh
      go_wp2_with (refine wpl_store 23 _ _ rfl w.heap.size #[.string ⟨#[]⟩, .string ⟨#[]⟩] rfl rfl _ _ HB0.out 2 Tryd.infoKey rfl rfl (kv_one _ _) rfl ?_)
      exact retA2 rfl w.heap.size rfl _ _ _ (HB0.out.row _) Tryd.underlying23 rfl 2 Tryd.infoKey rfl rfl _ rfl (by unfold RpEnd; rw [HR.out]; exact ⟨rfl, below_setRow Hb0.out (Nat.le_refl _) _⟩)
end Go.Proofs.YtnenhphfghajgaaDoor
