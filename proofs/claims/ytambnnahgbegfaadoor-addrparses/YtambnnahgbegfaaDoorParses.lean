/-
  The walk of the law AddrParses.
-/
import Derived.Test.YtambnnahgbegfaaDoorRpar
import Derived.Test.YtambnnahgbegfaaDoorErr
import Derived.Test.YtambnnahgbegfaaDoorAlive
namespace Go.Proofs.YtambnnahgbegfaaDoor
open Go.RowKit

theorem parsed_length {l : List UInt8} {s : Bool} {b : List Int} (h : parsed l = some (s, b)) : b.length = 16 := by
  unfold parsed at h
  split at h
  · unfold six at h
    split at h
    · split at h
      · rename_i hn
        cases h
        rw [List.length_map, by2_length]
        simp
        omega
      · cases h
    · cases h
  · unfold four at h
    split at h
    · rename_i h4
      cases e : allOf num10 (pieces 46 l) with
      | none => rw [e] at h; cases h
      | some ns =>
        rw [e] at h
        cases h
        have := allOf_length num10 _ _ e
        exact rowOf_length _ _ (by omega)
    · cases h

theorem parsed_flat {l : List UInt8} {b : List Int} (h : parsed l = some (false, b)) : flat b = true := by
  unfold parsed at h
  split at h
  · cases e : six l with
    | none => rw [e] at h; cases h
    | some g => rw [e] at h; cases h
  · unfold four at h
    split at h
    · rename_i h4
      cases e : allOf num10 (pieces 46 l) with
      | none => rw [e] at h; cases h
      | some ns =>
        rw [e] at h
        cases h
        have hl := allOf_length num10 _ _ e
        refine flat_of _ (rowOf_length _ _ (by omega)) (fun j h4' h16 => ?_)
        unfold nth rowOf
        simp only [List.getD]
        rw [List.getElem?_append_right (by simp; omega), List.getElem?_replicate]
        split <;> rfl
    · cases h

set_option maxRecDepth 100000 in
set_option maxHeartbeats 4000000 in
theorem parses_walk (s : ByteArray) (hs : s.size ≤ 200) (r : Option (Bool × List Int)) (hr : ∀ x b, r = some (x, b) → b.length = 16) (E : Value) (w : World) (hE : Env E w)
    (cP : ∀ w, Env E w → Calls Tryd.prog 5 #[.string s] w (ParseEnd E r w))
    (cQ : ∀ w, Calls Tryd.prog 6 #[.string s] w (ROpt r w))
    (cN : ∀ w', Below w.heap.size w w' → Calls Tryd.prog 7 #[E] w' fun e w2 => e = .returned (.int .i64 4) ∧ Below w'.heap.size w' w2)
    (cR : ∀ x b, r = some (x, b) → ∀ w, Calls Tryd.prog 8 #[.agg (adr x b)] w fun e w' => e = .returned (.bool true) ∧ Below w.heap.size w w') :
    Calls Tryd.prog 3 #[.string s] w fun e w' => e = .returned (.bool true) ∧ Below w.heap.size w w' := by
  have CP := Lib.hid cP
  have CQ := Lib.hid cQ
  have CN := Lib.hid cN
  have CR := Lib.hid cR
  have HE := Lib.hid hE
  have HR := Lib.hid hr
  clear hE cP cQ cN cR hr
  go_enter Tryd.func3, Tryd.ntmps3
  go_wp2_with fail
  refine (alive_any E w HE.out).mono ?_
  rintro e w1 ⟨rfl, hb1⟩
  have HE1 := Lib.hid (HE.out.kept hb1)
  go_wp2_with fail
  refine (CP.out w1 HE1.out).mono ?_
  rintro e w2 ⟨he, hb2⟩
  have Hb2 := Lib.hid (bel2 hb1 hb2)
  obtain ⟨W3, hW3⟩ : ∃ W, W = w2.alloc (.cells (adr false z16) 25) := ⟨_, rfl⟩
  have hB3 : Blk W3 w2.heap.size 25 (adr false z16) := hW3 ▸ Blk.new w2 _ _
  have hb3 : Below w2.heap.size w2 W3 := hW3 ▸ (Below.refl _ _).alloc (Nat.le_refl _) _
  have HW3 : Hid (w2.alloc (.cells #[.bool false, .int .u8 0, .int .u8 0, .int .u8 0, .int .u8 0, .int .u8 0, .int .u8 0, .int .u8 0, .int .u8 0, .int .u8 0, .int .u8 0, .int .u8 0, .int .u8 0, .int .u8 0, .int .u8 0, .int .u8 0, .int .u8 0] 25) = W3) := Lib.hid hW3.symm
  have HB3 := Lib.hid hB3
  have hsz2 : w.heap.size ≤ w2.heap.size := Hb2.out.size
  clear hW3 hB3 hb1 hb2
  cases r with
  | none =>
    obtain ⟨V3, hV3⟩ : ∃ V, V = W3.setRow w2.heap.size (adr false z16) := ⟨_, rfl⟩
    have HV3 := Lib.hid hV3.symm
    have hBV : Blk V3 w2.heap.size 25 (adr false z16) := hV3 ▸ HB3.out.row _
    have hbV : Below w.heap.size w V3 := hV3 ▸ below_setRow (bel2 Hb2.out hb3) hsz2 _
    have HBV := Lib.hid hBV
    have HbV := Lib.hid hbV
    have hq : ∀ w, (binOp .eql 25 (.agg (adr false z16)) (.agg #[.bool false, .int .u8 0, .int .u8 0, .int .u8 0, .int .u8 0, .int .u8 0, .int .u8 0, .int .u8 0, .int .u8 0, .int .u8 0, .int .u8 0, .int .u8 0, .int .u8 0, .int .u8 0, .int .u8 0, .int .u8 0, .int .u8 0])).run Tryd.prog w = .ok (.bool true) w := fun w => eql_adr false false z16 z16 rfl rfl w
    clear hV3 hBV hbV hb3
    simp only at he
    subst he
    go_wp2_with ((try rw [HW3.out]); refine wpl_store 25 _ _ rfl _ (adr false z16) rfl rfl _ _ HB3.out 17 Tryd.infoAddr rfl rfl (adr_one _ _) rfl ?_; rw [HV3.out])
    refine (CQ.out V3).mono ?_
    rintro e w4 ⟨he, hb4⟩
    simp only at he
    subst he
    have HB4 := Lib.hid (HBV.out.kept hb4)
    have Hb4 := Lib.hid (bel2 HbV.out hb4)
    obtain ⟨W5, hW5⟩ : ∃ W, W = w4.alloc (.cells (adr false z16) 25) := ⟨_, rfl⟩
    have hB5 : Blk W5 w4.heap.size 25 (adr false z16) := hW5 ▸ Blk.new w4 _ _
    have hb5 : Below w4.heap.size w4 W5 := hW5 ▸ (Below.refl _ _).alloc (Nat.le_refl _) _
    have HW5 : Hid (w4.alloc (.cells #[.bool false, .int .u8 0, .int .u8 0, .int .u8 0, .int .u8 0, .int .u8 0, .int .u8 0, .int .u8 0, .int .u8 0, .int .u8 0, .int .u8 0, .int .u8 0, .int .u8 0, .int .u8 0, .int .u8 0, .int .u8 0, .int .u8 0] 25) = W5) := Lib.hid hW5.symm
    have HB5 := Lib.hid hB5
    obtain ⟨V5, hV5⟩ : ∃ V, V = W5.setRow w4.heap.size (adr false z16) := ⟨_, rfl⟩
    have HV5 := Lib.hid hV5.symm
    have hlt : w2.heap.size < w4.heap.size := HB4.out.lt
    have HB6 : Hid (Blk V5 w2.heap.size 25 (adr false z16)) := Lib.hid (hV5 ▸ (HB4.out.kept hb5).rowOther (by omega) _)
    have Hb6 : Hid (Below w.heap.size w V5) := Lib.hid (hV5 ▸ below_setRow (bel2 Hb4.out hb5) (by omega) _)
    clear hW5 hB5 hb5 hV5 hb4
    go_wp2_with ((try rw [HW5.out]); first | (refine wpl_store 25 _ _ rfl w4.heap.size (adr false z16) rfl rfl _ _ HB5.out 17 Tryd.infoAddr rfl rfl (adr_one _ _) rfl ?_; rw [HV5.out]) | (refine wpl_load 25 _ rfl w2.heap.size rfl _ _ _ HB6.out Tryd.underlying25 rfl 17 Tryd.infoAddr rfl rfl ?_))
    refine (CN.out V5 Hb6.out).mono ?_
    rintro e w7 ⟨rfl, hb7⟩
    go_wp2
    go_ret
    exact ⟨rfl, bel2 Hb6.out hb7⟩
  | some xb =>
    obtain ⟨x, b⟩ := xb
    have hl := HR.out x b rfl
    have HSi : Hid (17 = (adr x b).size) := Lib.hid (by rw [adr_size, hl])
    obtain ⟨V3, hV3⟩ : ∃ V, V = W3.setRow w2.heap.size (adr x b) := ⟨_, rfl⟩
    have HV3 := Lib.hid hV3.symm
    have hBV : Blk V3 w2.heap.size 25 (adr x b) := hV3 ▸ HB3.out.row _
    have hbV : Below w.heap.size w V3 := hV3 ▸ below_setRow (bel2 Hb2.out hb3) hsz2 _
    have HBV := Lib.hid hBV
    have HbV := Lib.hid hbV
    have hq := eql_adr x x b b hl hl
    rw [show ((x == x) && (b == b)) = true by simp] at hq
    have CR' := Lib.hid (CR.out x b rfl)
    clear hV3 hBV hbV hb3 hl CR
    simp only at he
    subst he
    go_wp2_with ((try rw [HW3.out]); refine wpl_store 25 _ _ rfl _ (adr x b) rfl rfl _ _ HB3.out 17 Tryd.infoAddr HSi.out rfl (adr_one _ _) rfl ?_; rw [HV3.out])
    refine (CQ.out V3).mono ?_
    rintro e w4 ⟨he, hb4⟩
    simp only at he
    subst he
    have HB4 := Lib.hid (HBV.out.kept hb4)
    have Hb4 := Lib.hid (bel2 HbV.out hb4)
    obtain ⟨W5, hW5⟩ : ∃ W, W = w4.alloc (.cells (adr false z16) 25) := ⟨_, rfl⟩
    have hB5 : Blk W5 w4.heap.size 25 (adr false z16) := hW5 ▸ Blk.new w4 _ _
    have hb5 : Below w4.heap.size w4 W5 := hW5 ▸ (Below.refl _ _).alloc (Nat.le_refl _) _
    have HW5 : Hid (w4.alloc (.cells #[.bool false, .int .u8 0, .int .u8 0, .int .u8 0, .int .u8 0, .int .u8 0, .int .u8 0, .int .u8 0, .int .u8 0, .int .u8 0, .int .u8 0, .int .u8 0, .int .u8 0, .int .u8 0, .int .u8 0, .int .u8 0, .int .u8 0] 25) = W5) := Lib.hid hW5.symm
    have HB5 := Lib.hid hB5
    obtain ⟨V5, hV5⟩ : ∃ V, V = W5.setRow w4.heap.size (adr x b) := ⟨_, rfl⟩
    have HV5 := Lib.hid hV5.symm
    have hlt : w2.heap.size < w4.heap.size := HB4.out.lt
    have HB6 : Hid (Blk V5 w2.heap.size 25 (adr x b)) := Lib.hid (hV5 ▸ (HB4.out.kept hb5).rowOther (by omega) _)
    have HB7 : Hid (Blk V5 w4.heap.size 25 (adr x b)) := Lib.hid (hV5 ▸ hB5.row _)
    have Hb6 : Hid (Below w.heap.size w V5) := Lib.hid (hV5 ▸ below_setRow (bel2 Hb4.out hb5) (by omega) _)
    clear hW5 hB5 hb5 hV5 hb4
    go_wp2_with ((try rw [HW5.out]); first | (refine wpl_store 25 _ _ rfl w4.heap.size (adr x b) rfl rfl _ _ HB5.out 17 Tryd.infoAddr HSi.out rfl (adr_one _ _) rfl ?_; rw [HV5.out]) | (refine wpl_load 25 _ rfl w2.heap.size rfl _ _ _ HB6.out Tryd.underlying25 rfl 17 Tryd.infoAddr HSi.out rfl ?_) | (refine wpl_load 25 _ rfl w4.heap.size rfl _ _ _ HB7.out Tryd.underlying25 rfl 17 Tryd.infoAddr HSi.out rfl ?_))
    refine (CR'.out V5).mono ?_
    rintro e w7 ⟨rfl, hb7⟩
    go_wp2
    go_ret
    exact ⟨rfl, bel2 Hb6.out hb7⟩

set_option maxHeartbeats 1000000 in
theorem parses_long (s : ByteArray) (hs : 200 < s.size) (E : Value) (w : World) (hE : Env E w) :
    Calls Tryd.prog 3 #[.string s] w fun e w' => e = .returned (.bool true) ∧ Below w.heap.size w w' := by
  have HE := Lib.hid hE
  clear hE
  go_enter Tryd.func3, Tryd.ntmps3
  go_wp2_with fail
  refine (alive_any E w HE.out).mono ?_
  rintro e w1 ⟨rfl, hb1⟩
  go_wp2
  go_ret
  exact ⟨rfl, hb1⟩

theorem parses_any (s : ByteArray) (a : Nat → Addr) (w : World) (hE : Env (.iface 124 (.pointer (some (a 3)))) w) (hA : Errs 18 a w) :
    Calls Tryd.prog 3 #[.string s] w fun e w' => e = .returned (.bool true) ∧ Below w.heap.size w w' := by
  by_cases hs : 200 < s.size
  · exact parses_long s hs _ w hE
  · refine parses_walk s (by omega) (parsed s.data.toList) (fun x b h => parsed_length h) _ w hE (fun w hE => parse_any s (by omega) _ w hE) (fun w => rparse_any s (by omega) w) (fun w' hb => num_err a 3 (by omega) w' (hA.below hb)) (fun x b h w => ?_)
    cases x with
    | true => exact right_six b w
    | false => exact (right_four b (parsed_length h) w).mono fun e w' hh => ⟨by rw [hh.1, parsed_flat h], hh.2⟩
end Go.Proofs.YtambnnahgbegfaaDoor
