/-
  The walk of the document's Parse of a point.
-/
import Derived.Test.YtnfkgoeocebenaaGreatDoorPparse
import Derived.Test.YtnfkgoeocebenaaGreatDoorPport
import Derived.Test.YtnfkgoeocebenaaGreatDoorRpar
namespace Go.Proofs.YtnfkgoeocebenaaGreatDoor
open Go.RowKit

theorem rright4_any (n : Int) (w : World) : Calls Tryz.prog 76 #[.int .i64 n] w fun e w' => e = .returned (.bool (rp n)) ∧ w' = w := by
  unfold rp
  by_cases h1 : 1 ≤ n
  · have q1 : decide (n > 0) = true := decide_eq_true (by omega)
    have q1' : decide (0 < n) = true := decide_eq_true (by omega)
    have q2 : decide (1 ≤ n) = true := decide_eq_true h1
    have q3 : decide (n ≤ 65535) = decide (n < 65536) := by rw [decide_eq_decide]; omega
    rw [q2, Bool.true_and, q3]
    go_enter Tryz.func76, Tryz.ntmps76
    go_wp2
    go_ret
    exact ⟨rfl, rfl⟩
  · have q1 : decide (n > 0) = false := decide_eq_false (by omega)
    have q1' : decide (0 < n) = false := decide_eq_false (by omega)
    have q2 : decide (1 ≤ n) = false := decide_eq_false h1
    rw [q2, Bool.false_and]
    go_enter Tryz.func76, Tryz.ntmps76
    go_wp2
    go_ret
    exact ⟨rfl, rfl⟩

theorem last_at0 (x : ByteArray) (m : Nat) (h : m < x.size) (hm : m + 1 = x.size) : x.data.toList.getLast? = some (x[m]'h) := by
  have hl : x.data.toList.length = m + 1 := by rw [← Lib.size_eq, hm]
  rw [List.getLast?_eq_getElem?, hl, Nat.add_sub_cancel]
  exact list_at x m h
theorem brk_short (t : ByteArray) (h : t.size ≤ 1) : brk t.data.toList = false := by
  unfold brk
  rw [pre1, suf1]
  have hl : t.data.toList.length ≤ 1 := by rw [← Lib.size_eq]; exact h
  generalize t.data.toList = l at hl
  match l, hl with
  | [], _ => rfl
  | [c], _ =>
    by_cases e : c = 91
    · subst e; rfl
    · simp [e]
  | _ :: _ :: _, hl => simp at hl
theorem brk_head (t : ByteArray) (h : 0 < t.size) (hc : t[0] ≠ 91) : brk t.data.toList = false := by
  unfold brk
  rw [pre1, head_at0 t h]
  simp [hc]
theorem brk_last (t : ByteArray) (m : Nat) (h : m < t.size) (hm : m + 1 = t.size) (hc : t[m] ≠ 93) : brk t.data.toList = false := by
  unfold brk
  rw [suf1, last_at0 t m h hm]
  simp [hc]
theorem brk_yes (t : ByteArray) (m : Nat) (h0 : 0 < t.size) (h : m < t.size) (hm : m + 1 = t.size) (h1 : t[0] = 91) (hc : t[m] = 93) : brk t.data.toList = true := by
  unfold brk
  rw [pre1, suf1, last_at0 t m h hm, head_at0 t h0, h1, hc]
  rfl

/-- A point, if a text is one. -/
def RPEnd (r : Option ((Bool × List Int) × Nat)) (w : World) (e : Ending) (w' : World) : Prop :=
  (match r with
   | some (x, n) => e = .returned (.tuple #[.agg (pnt x.1 x.2 (n : Int)), .bool true])
   | none => e = .returned (.tuple #[.agg (pnt false z16 0), .bool false])) ∧ Below w.heap.size w w'

theorem byte_ne (c d : UInt8) (h : c ≠ d) : ((c.toNat : Int) == (d.toNat : Int)) = false := by
  rw [beq_eq_false_iff_ne]
  intro e
  exact h (UInt8.toNat_inj.1 (by omega))

theorem ne58 (c : UInt8) (h : c ≠ 58) : ((c.toNat : Int) != 58) = true := by
  have := byte_ne c 58 h
  rw [bne, show ((c.toNat : Int) == 58) = false from this]
  rfl

set_option maxRecDepth 100000 in
set_option maxHeartbeats 16000000 in
theorem rpparse_any (s : ByteArray) (hs : s.size ≤ 1000) (w : World) : Calls Tryz.prog 37 #[.string s] w (RPEnd (pres s.data.toList) w) := by
  obtain ⟨W0, hW0⟩ : ∃ W, W = w.alloc (.cells (pnt false z16 0) 60) := ⟨_, rfl⟩
  have hB0 : Blk W0 w.heap.size 60 (pnt false z16 0) := hW0 ▸ Blk.new w _ _
  have hb0 : Below w.heap.size w W0 := hW0 ▸ (Below.refl _ _).alloc (Nat.le_refl _) _
  have HW0 : Hid (w.alloc (.cells #[.bool false, .int .u8 0, .int .u8 0, .int .u8 0, .int .u8 0, .int .u8 0, .int .u8 0, .int .u8 0, .int .u8 0, .int .u8 0, .int .u8 0, .int .u8 0, .int .u8 0, .int .u8 0, .int .u8 0, .int .u8 0, .int .u8 0, .int .i64 0] 60) = W0) := Lib.hid hW0.symm
  have HB0 := Lib.hid hB0
  have Hb0 := Lib.hid hb0
  obtain ⟨l, hl⟩ : ∃ l, l = s.data.toList := ⟨_, rfl⟩
  have HL := Lib.hid hl
  have HAt : Hid (∀ k, ∀ h : k < s.size, l[k]? = some s[k]) := Lib.hid fun k h => by rw [hl]; exact list_at s k h
  have HSz : Hid (l.length = s.size) := Lib.hid (by rw [hl, Lib.size_eq])
  have HDr : Hid (∀ k, ∀ h : k < s.size, l.drop k = s[k] :: l.drop (k + 1)) := Lib.hid fun k h => by
    have hk : k < l.length := by rw [hl, ← Lib.size_eq]; exact h
    rw [List.drop_eq_getElem_cons hk]
    congr 1
    have := list_at s k h
    rw [← hl, List.getElem?_eq_getElem hk] at this
    exact Option.some.inj this
  rw [← hl]
  have e0 : IntKind.i64.wrap ((s.size : Int) - 1) = (s.size : Int) - 1 := by simp only [IntKind.wrap, IntKind.signed, IntKind.bits]; simp; omega
  clear hW0 hB0 hb0 hl
  go_enter Tryz.func37, Tryz.ntmps37
  go_wp2
  rw [HW0.out]
  go_loop [4, 5, 6] (fun at' n p => ∃ (j v q : Nat) (a : Int), at' = .int .i64 a ∧ n = .int .i64 (v : Int) ∧ p = .int .i64 (q : Int) ∧ j ≤ s.size ∧ s.size ≤ j + 6 ∧ v < 1000000 ∧ q ≤ 1000000 ∧ Hid (a = (j : Int) - 1 ∧ figs 10 (l.drop j) = true ∧ v = numb 10 0 (l.drop j) ∧ q = 10 ^ (s.size - j))) (fun at' _ _ => (intOf at' + 1).toNat)
  case atStart => exact ⟨s.size, 0, 1, _, rfl, rfl, rfl, Nat.le_refl _, by omega, by omega, by omega, by omega, by rw [List.drop_of_length_le (by rw [HSz.out]; exact Nat.le_refl _)]; rfl, by rw [List.drop_of_length_le (by rw [HSz.out]; exact Nat.le_refl _)]; rfl, by rw [Nat.sub_self]⟩
  case round =>
    obtain ⟨j, v, q, a, rfl, rfl, rfl, hj, hj6, hv, hq, hh⟩ := hrel
    by_cases hj0 : j = 0
    · have q1 : decide (a ≥ 0) = false := decide_eq_false (by have := hh.out.1; omega)
      have q1' : decide (0 ≤ a) = false := decide_eq_false (by have := hh.out.1; omega)
      have q2 : decide (a < 0) = true := decide_eq_true (by have := hh.out.1; omega)
      have HR : Hid (pres l = none) := Lib.hid (pres_figs l (by have := hh.out.2.1; rw [hj0, List.drop_zero] at this; exact this))
      clear hh
      go_wp2_with (refine wpl_store 60 _ _ rfl w.heap.size (pnt false z16 0) rfl rfl _ _ HB0.out 18 Tryz.infoPoint rfl rfl (pnt_one _ _ _) rfl ?_)
      exact retA2 rfl w.heap.size rfl _ _ _ (HB0.out.row _) Tryz.underlying60 rfl 18 Tryz.infoPoint rfl rfl _ rfl (by unfold RPEnd; rw [HR.out]; exact ⟨rfl, below_setRow Hb0.out (Nat.le_refl _) _⟩)
    · obtain ⟨i, hi⟩ : ∃ i, j = i + 1 := ⟨j - 1, by omega⟩
      have hia : a = (i : Int) := by have := hh.out.1; omega
      have hlt : i < s.size := by omega
      have hat := HAt.out i hlt
      have hdr := HDr.out i hlt
      have hfg := hh.out.2.1
      have hve := hh.out.2.2.1
      have hqe := hh.out.2.2.2
      rw [hi] at hfg hve hqe
      subst hia
      have q0 : decide ((i : Int) ≥ 0) = true := decide_eq_true (by omega)
      have q0' : decide ((0 : Int) ≤ (i : Int)) = true := decide_eq_true (by omega)
      have q00 : decide ((i : Int) < 0) = false := decide_eq_false (by omega)
      obtain ⟨r, hr⟩ : ∃ r, r = s.size - i := ⟨_, rfl⟩
      have er : IntKind.i64.wrap ((s.size : Int) - (i : Int)) = (r : Int) := by simp only [IntKind.wrap, IntKind.signed, IntKind.bits]; simp; omega
      have h256 : s[i].toNat < 256 := s[i].toNat_lt
      clear hh
      by_cases hd : 48 ≤ s[i].toNat ∧ s[i].toNat ≤ 57
      · have d1 : decide ((s[i].toNat : Int) ≥ 48) = true := decide_eq_true (by omega)
        have d1' : decide ((48 : Int) ≤ (s[i].toNat : Int)) = true := decide_eq_true (by omega)
        have d2 : decide ((s[i].toNat : Int) ≤ 57) = true := decide_eq_true (by omega)
        have hfx : fig s[i] = s[i].toNat - 48 := by unfold fig; rw [if_pos hd]
        by_cases h7 : r < 7
        · have q7 : decide ((r : Int) < 7) = true := decide_eq_true (by omega)
          obtain ⟨d, hdd⟩ : ∃ d, d = s[i].toNat - 48 := ⟨_, rfl⟩
          have ed : IntKind.u8.wrap ((s[i].toNat : Int) - 48) = (d : Int) := by simp only [IntKind.wrap, IntKind.signed, IntKind.bits]; simp; omega
          have ed2 : IntKind.i64.wrap (d : Int) = (d : Int) := by simp only [IntKind.wrap, IntKind.signed, IntKind.bits]; simp; omega
          have hd9 : d ≤ 9 := by omega
          have hqs : q = 10 ^ (r - 1) := by rw [hqe]; congr 1; omega
          have hq5 : q ≤ 10 ^ 5 := by rw [hqs]; exact Nat.pow_le_pow_right (by decide) (by omega)
          have hvq : v < q := by
            have := numb_lt 10 _ hfg 0
            rw [List.length_drop, HSz.out, ← hve] at this
            rw [hqe]
            simpa using this
          obtain ⟨m, hm⟩ : ∃ m, m = d * q := ⟨_, rfl⟩
          have hm9 : m ≤ 9 * q := by rw [hm]; exact Nat.mul_le_mul_right q hd9
          have em : IntKind.i64.wrap ((d : Int) * (q : Int)) = (m : Int) := by rw [← Int.natCast_mul, ← hm]; simp only [IntKind.wrap, IntKind.signed, IntKind.bits]; simp; omega
          obtain ⟨v', hv'⟩ : ∃ v', v' = v + m := ⟨_, rfl⟩
          have ev : IntKind.i64.wrap ((v : Int) + (m : Int)) = (v' : Int) := by simp only [IntKind.wrap, IntKind.signed, IntKind.bits]; simp; omega
          obtain ⟨q', hq'⟩ : ∃ q', q' = q * 10 := ⟨_, rfl⟩
          have eq' : IntKind.i64.wrap ((q : Int) * 10) = (q' : Int) := by simp only [IntKind.wrap, IntKind.signed, IntKind.bits]; simp; omega
          have ei : IntKind.i64.wrap ((i : Int) - 1) = (i : Int) - 1 := by simp only [IntKind.wrap, IntKind.signed, IntKind.bits]; simp; omega
          have HX : Hid (figs 10 (l.drop i) = true ∧ v' = numb 10 0 (l.drop i) ∧ q' = 10 ^ (s.size - i)) := Lib.hid (by
            refine ⟨?_, ?_, ?_⟩
            · rw [hdr]
              unfold figs at hfg ⊢
              rw [List.all_cons, hfg, Bool.and_true, hfx]
              simp
              omega
            · rw [hdr, numb, numb_add, hfx, ← hdd, ← hve, List.length_drop, HSz.out, ← hqe, hv', hm]
              simp
              omega
            · rw [hq', hqs, ← hr, ← Nat.pow_succ]
              congr 1
              omega)
          have hv6 : v' < 1000000 := by omega
          have hq6 : q' ≤ 1000000 := by omega
          clear hat hdr hfg hve hqe hfx hdd hqs hm hv' hq'
          go_wp2
          go_round
          case rel => exact ⟨i, v', q', (i : Int) - 1, rfl, rfl, rfl, by omega, by omega, hv6, hq6, rfl, HX.out⟩
          case measure => simp [intOf]
        · have q7 : decide ((r : Int) < 7) = false := decide_eq_false (by omega)
          have hne : s[i] ≠ 58 := fun e => by rw [e] at hd; exact absurd hd (by decide)
          have n58 : ((s[i].toNat : Int) != 58) = true := ne58 s[i] hne
          have HR : Hid (pres l = none) := Lib.hid (pres_no l i s[i] hat hne hfg (.inr (by rw [HSz.out]; omega)))
          clear hat hdr hfg hve hqe hfx
          go_wp2_with (refine wpl_store 60 _ _ rfl w.heap.size (pnt false z16 0) rfl rfl _ _ HB0.out 18 Tryz.infoPoint rfl rfl (pnt_one _ _ _) rfl ?_)
          exact retA2 rfl w.heap.size rfl _ _ _ (HB0.out.row _) Tryz.underlying60 rfl 18 Tryz.infoPoint rfl rfl _ rfl (by unfold RPEnd; rw [HR.out]; exact ⟨rfl, below_setRow Hb0.out (Nat.le_refl _) _⟩)
      · have HND : Hid (¬ fig s[i] < 10) := Lib.hid fun h => hd ((fig10 _).1 h)
        by_cases h58 : s[i] = 58
        · have n58 : ((s[i].toNat : Int) != 58) = false := by rw [h58]; rfl
          have d1 : decide ((s[i].toNat : Int) ≥ 48) = true := decide_eq_true (by rw [h58]; decide)
          have d1' : decide ((48 : Int) ≤ (s[i].toNat : Int)) = true := decide_eq_true (by rw [h58]; decide)
          have d2 : decide ((s[i].toNat : Int) ≤ 57) = false := decide_eq_false (by rw [h58]; decide)
          have HPr := Lib.hid (pres_at l i (by rw [hat, h58]) hfg)
          have HFg := Lib.hid hfg
          have HVe := Lib.hid hve
          have HNo : Hid (port (l.drop (i + 1)) = none → pres l = none) := Lib.hid fun h => by
            rw [HPr.out, h]
            cases paddr (l.take i) <;> rfl
          have hbad : rp (v : Int) = false → pres l = none := fun h => HNo.out (by
            unfold port
            rw [if_neg]
            rintro ⟨_, h1, h2, _⟩
            rw [← HVe.out] at h1 h2
            unfold rp at h
            rw [decide_eq_true (show (1 : Int) ≤ (v : Int) by omega), decide_eq_true (show (v : Int) ≤ 65535 by omega)] at h
            cases h)
          have HBad := Lib.hid hbad
          clear hat hdr hfg hve hqe h58 hbad
          by_cases hlen : i + 1 < s.size
          · have ql : decide ((i : Int) + 1 < (s.size : Int)) = true := decide_eq_true (by omega)
            have hhd : (l.drop (i + 1)).head? = some s[i + 1] := by rw [HDr.out (i + 1) hlen]; rfl
            by_cases hz : s[i + 1] = 48
            · have z48 : ((s[i + 1].toNat : Int) == 48) = true := by rw [hz]; rfl
              have HR : Hid (pres l = none) := Lib.hid (HNo.out (port_zero _ (by rw [hhd, hz])))
              clear hhd hz
              go_wp2_with (refine wpl_store 60 _ _ rfl w.heap.size (pnt false z16 0) rfl rfl _ _ HB0.out 18 Tryz.infoPoint rfl rfl (pnt_one _ _ _) rfl ?_)
              exact retA2 rfl w.heap.size rfl _ _ _ (HB0.out.row _) Tryz.underlying60 rfl 18 Tryz.infoPoint rfl rfl _ rfl (by unfold RPEnd; rw [HR.out]; exact ⟨rfl, below_setRow Hb0.out (Nat.le_refl _) _⟩)
            · have z48 : ((s[i + 1].toNat : Int) == 48) = false := byte_ne s[i + 1] 48 hz
              have HHd : Hid ((l.drop (i + 1)).head? ≠ some 48) := Lib.hid (by rw [hhd]; intro e; exact hz (Option.some.inj e))
              clear hhd hz
              go_wp2_with fail
              refine (rright4_any (v : Int) W0).mono ?_
              rintro e w1 ⟨rfl, hw1⟩
              rw [hw1]
              clear hw1
              cases hrp : rp (v : Int) with
              | false =>
                have HR : Hid (pres l = none) := Lib.hid (HBad.out hrp)
                go_wp2_with (refine wpl_store 60 _ _ rfl w.heap.size (pnt false z16 0) rfl rfl _ _ HB0.out 18 Tryz.infoPoint rfl rfl (pnt_one _ _ _) rfl ?_)
                exact retA2 rfl w.heap.size rfl _ _ _ (HB0.out.row _) Tryz.underlying60 rfl 18 Tryz.infoPoint rfl rfl _ rfl (by unfold RPEnd; rw [HR.out]; exact ⟨rfl, below_setRow Hb0.out (Nat.le_refl _) _⟩)
              | true =>
                have HV1 : Hid (port (l.drop (i + 1)) = some v) := Lib.hid (by
                  have h2 := hrp
                  unfold rp at h2
                  simp only [Bool.and_eq_true, decide_eq_true_eq] at h2
                  unfold port
                  rw [if_pos ⟨HFg.out, by rw [← HVe.out]; omega, by rw [← HVe.out]; omega, HHd.out⟩, ← HVe.out])
                have HP2 : Hid (pres l = match paddr (l.take i) with | some x => some (x, v) | none => none) := Lib.hid (by
                  rw [HPr.out, HV1.out]
                  cases paddr (l.take i) <;> rfl)
                obtain ⟨t, ht⟩ : ∃ t, t = s.extract 0 i := ⟨_, rfl⟩
                have htl : t.data.toList = l.take i := by rw [ht, HL.out]; exact extract_take s i
                have hts : t.size = i := by rw [Lib.size_eq, htl, List.length_take, HSz.out]; omega
                have hsl : ∀ w, (Instr.sliceAt 9 (.string s) none (some (.int .i64 (i : Int))) none).run Tryz.prog w = .ok (.string t) w := fun w => by
                  have b0 : (0 : Int) ≤ (i : Int) := by omega
                  have b1 : (i : Int) ≤ (s.size : Int) := by omega
                  rw [ht]
                  simp [Instr.sliceAt, run_underlying Tryz.underlying9, Instr.sliceBounds, go_sem, b0, b1]
                rw [← htl] at HP2
                have HTs := Lib.hid hts
                have ht1 : t.size ≤ 1000 := by omega
                clear ht htl HPr HFg HVe HNo HBad HV1 HHd hrp
                by_cases hn1 : t.size ≤ 1
                · have g1 : decide ((t.size : Int) > 1) = false := decide_eq_false (by omega)
                  have g1' : decide (1 < (t.size : Int)) = false := decide_eq_false (by omega)
                  have HBk : Hid (brk t.data.toList = false) := Lib.hid (brk_short t hn1)
                  have HIn : Hid ((if false = true then inner t.data.toList else t.data.toList) = t.data.toList) := Lib.hid rfl
                  have hx1 := ht1
                  have CP : Hid (∀ w, Calls Tryz.prog 77 #[.string t] w (ROpt (parsed t.data.toList) w)) := Lib.hid (rparse_any t hx1)
                  have HPa : Hid (pres l = match (match parsed t.data.toList with | some (s, b) => if s = false then some (s, b) else none | none => none) with | some y => some (y, v) | none => none) := Lib.hid (by rw [HP2.out]; unfold paddr; rw [HBk.out, HIn.out]; cases parsed t.data.toList <;> rfl)
                  clear HP2 HBk HIn
                  go_wp2_with fail
                  refine (CP.out W0).mono ?_
                  rintro e w1 ⟨he, hb1⟩
                  have HB1 := Lib.hid (HB0.out.kept hb1)
                  have Hb1 := Lib.hid (bel2 Hb0.out hb1)
                  obtain ⟨ok, sa, ab, rfl, hab, hres⟩ : ∃ (ok : Bool) (sa : Bool) (ab : List Int), e = .returned (.tuple #[.agg (adr sa ab), .bool ok]) ∧ ab.length = 16 ∧ pres l = if (ok && (sa == false)) = true then some ((sa, ab), v) else none := by
                    have hp2 := HPa.out
                    cases hp : parsed t.data.toList with
                    | none =>
                      rw [hp] at he hp2
                      exact ⟨false, false, z16, he, rfl, hp2⟩
                    | some y =>
                      obtain ⟨sx, bx⟩ := y
                      rw [hp] at he hp2
                      refine ⟨true, sx, bx, he, parsed_len hp, hp2.trans ?_⟩
                      cases sx <;> rfl
                  have HRes := Lib.hid hres
                  have L17 : Hid (17 = (adr sa ab).size) := Lib.hid (by rw [adr_size, hab])
                  have L18 : Hid (18 = (pnt sa ab (v : Int)).size) := Lib.hid (by rw [pnt_size, hab])
                  have HLab := Lib.hid hab
                  obtain ⟨W3, hW3⟩ : ∃ W, W = w1.alloc (.cells (adr false z16) 24) := ⟨_, rfl⟩
                  have hB3 : Blk W3 w1.heap.size 24 (adr false z16) := hW3 ▸ Blk.new w1 _ _
                  have hb3 : Below w1.heap.size w1 W3 := hW3 ▸ (Below.refl _ _).alloc (Nat.le_refl _) _
                  have HW3 : Hid (w1.alloc (.cells #[.bool false, .int .u8 0, .int .u8 0, .int .u8 0, .int .u8 0, .int .u8 0, .int .u8 0, .int .u8 0, .int .u8 0, .int .u8 0, .int .u8 0, .int .u8 0, .int .u8 0, .int .u8 0, .int .u8 0, .int .u8 0, .int .u8 0] 24) = W3) := Lib.hid hW3.symm
                  have HB3 := Lib.hid hB3
                  obtain ⟨V, hV⟩ : ∃ V, V = W3.setRow w1.heap.size (adr sa ab) := ⟨_, rfl⟩
                  have HV := Lib.hid hV.symm
                  have hsz : w.heap.size < w1.heap.size := HB1.out.lt
                  have HBA : Hid (Blk V w1.heap.size 24 (adr sa ab)) := Lib.hid (hV ▸ hB3.row _)
                  have HBR : Hid (Blk V w.heap.size 60 (pnt false z16 0)) := Lib.hid (hV ▸ (HB1.out.kept hb3).rowOther (by omega) _)
                  have HbV : Hid (Below w.heap.size w V) := Lib.hid (hV ▸ below_setRow (bel2 Hb1.out hb3) (by omega) _)
                  have hc0 : V.cell? ⟨w1.heap.size, 0, none⟩ = some (.bool sa) := by rw [HBA.out.cell]; rfl
                  clear he hb1 hres hab hW3 hB3 hb3 hV
                  cases ok with
                  | false =>
                    have HR : Hid (pres l = none) := Lib.hid (by rw [HRes.out]; rfl)
                    go_wp2_with ((try rw [HW3.out]); first | (refine wpl_store 24 _ _ rfl w1.heap.size (adr sa ab) rfl rfl _ _ HB3.out 17 Tryz.infoAddr L17.out rfl (adr_one _ _) rfl ?_; rw [HV.out]) | (refine wpl_store 60 _ _ rfl w.heap.size (pnt false z16 0) rfl rfl _ _ HBR.out 18 Tryz.infoPoint rfl rfl (pnt_one _ _ _) rfl ?_))
                    exact retA2 rfl w.heap.size rfl _ _ _ (HBR.out.row _) Tryz.underlying60 rfl 18 Tryz.infoPoint rfl rfl _ rfl (by unfold RPEnd; rw [HR.out]; exact ⟨rfl, below_setRow HbV.out (Nat.le_refl _) _⟩)
                  | true =>
                    cases sa with
                    | false =>
                      have HR : Hid (pres l = some ((false, ab), v)) := Lib.hid (by rw [HRes.out]; rfl)
                      go_wp2_with ((try rw [HW3.out]); first | (refine wpl_store 24 _ _ rfl w1.heap.size (adr false ab) rfl rfl _ _ HB3.out 17 Tryz.infoAddr L17.out rfl (adr_one _ _) rfl ?_; rw [HV.out]) | (refine wpl_load 24 _ rfl w1.heap.size rfl _ _ _ HBA.out Tryz.underlying24 rfl 17 Tryz.infoAddr L17.out rfl ?_) | (refine wpl_run (.agg (pnt false ab (v : Int))) _ (exec_build_pnt (.tmp 114) (.tmp 115) rfl false ab HLab.out (v : Int) rfl rfl _) rfl ?_) | (refine wpl_store 60 _ _ rfl w.heap.size (pnt false ab (v : Int)) rfl rfl _ _ HBR.out 18 Tryz.infoPoint L18.out rfl (pnt_one _ _ _) rfl ?_))
                      exact retA2 rfl w.heap.size rfl _ _ _ (HBR.out.row _) Tryz.underlying60 rfl 18 Tryz.infoPoint L18.out rfl _ rfl (by unfold RPEnd; rw [HR.out]; exact ⟨rfl, below_setRow HbV.out (Nat.le_refl _) _⟩)
                    | true =>
                      have HR : Hid (pres l = none) := Lib.hid (by rw [HRes.out]; rfl)
                      go_wp2_with ((try rw [HW3.out]); first | (refine wpl_store 24 _ _ rfl w1.heap.size (adr true ab) rfl rfl _ _ HB3.out 17 Tryz.infoAddr L17.out rfl (adr_one _ _) rfl ?_; rw [HV.out]) | (refine wpl_store 60 _ _ rfl w.heap.size (pnt false z16 0) rfl rfl _ _ HBR.out 18 Tryz.infoPoint rfl rfl (pnt_one _ _ _) rfl ?_))
                      exact retA2 rfl w.heap.size rfl _ _ _ (HBR.out.row _) Tryz.underlying60 rfl 18 Tryz.infoPoint rfl rfl _ rfl (by unfold RPEnd; rw [HR.out]; exact ⟨rfl, below_setRow HbV.out (Nat.le_refl _) _⟩)
                · have g1 : decide ((t.size : Int) > 1) = true := decide_eq_true (by omega)
                  have g1' : decide (1 < (t.size : Int)) = true := decide_eq_true (by omega)
                  have ht0 : 0 < t.size := by omega
                  have hm : i - 1 + 1 = t.size := by omega
                  have hmt : i - 1 < t.size := by omega
                  by_cases hc0 : t[0] = 91
                  · have g2 : ((t[0].toNat : Int) == 91) = true := by rw [hc0]; rfl
                    by_cases hcm : t[i - 1] = 93
                    · have g3 : ((t[i - 1].toNat : Int) == 93) = true := by rw [hcm]; rfl
                      have hxl : (t.extract 1 (i - 1)).data.toList = inner t.data.toList := by
                        unfold inner
                        rw [← Lib.size_eq, ← hm]
                        simp [List.extract_eq_take_drop, List.drop_take]
                      have hx1 : (t.extract 1 (i - 1)).size ≤ 1000 := by rw [Lib.size_eq, hxl]; unfold inner; rw [List.length_drop, List.length_take, ← Lib.size_eq]; omega
                      have HBk : Hid (brk t.data.toList = true) := Lib.hid (brk_yes t (i - 1) ht0 hmt hm hc0 hcm)
                      have HIn : Hid ((if true = true then inner t.data.toList else t.data.toList) = (t.extract 1 (i - 1)).data.toList) := Lib.hid hxl.symm
                      clear hxl hc0 hcm hm
                      have CP : Hid (∀ w, Calls Tryz.prog 77 #[.string (t.extract 1 (i - 1))] w (ROpt (parsed (t.extract 1 (i - 1)).data.toList) w)) := Lib.hid (rparse_any (t.extract 1 (i - 1)) hx1)
                      have HPa : Hid (pres l = match (match parsed (t.extract 1 (i - 1)).data.toList with | some (s, b) => if s = true then some (s, b) else none | none => none) with | some y => some (y, v) | none => none) := Lib.hid (by rw [HP2.out]; unfold paddr; rw [HBk.out, HIn.out]; cases parsed (t.extract 1 (i - 1)).data.toList <;> rfl)
                      clear HP2 HBk HIn
                      go_wp2_with fail
                      refine (CP.out W0).mono ?_
                      rintro e w1 ⟨he, hb1⟩
                      have HB1 := Lib.hid (HB0.out.kept hb1)
                      have Hb1 := Lib.hid (bel2 Hb0.out hb1)
                      obtain ⟨ok, sa, ab, rfl, hab, hres⟩ : ∃ (ok : Bool) (sa : Bool) (ab : List Int), e = .returned (.tuple #[.agg (adr sa ab), .bool ok]) ∧ ab.length = 16 ∧ pres l = if (ok && (sa == true)) = true then some ((sa, ab), v) else none := by
                        have hp2 := HPa.out
                        cases hp : parsed (t.extract 1 (i - 1)).data.toList with
                        | none =>
                          rw [hp] at he hp2
                          exact ⟨false, false, z16, he, rfl, hp2⟩
                        | some y =>
                          obtain ⟨sx, bx⟩ := y
                          rw [hp] at he hp2
                          refine ⟨true, sx, bx, he, parsed_len hp, hp2.trans ?_⟩
                          cases sx <;> rfl
                      have HRes := Lib.hid hres
                      have L17 : Hid (17 = (adr sa ab).size) := Lib.hid (by rw [adr_size, hab])
                      have L18 : Hid (18 = (pnt sa ab (v : Int)).size) := Lib.hid (by rw [pnt_size, hab])
                      have HLab := Lib.hid hab
                      obtain ⟨W3, hW3⟩ : ∃ W, W = w1.alloc (.cells (adr false z16) 24) := ⟨_, rfl⟩
                      have hB3 : Blk W3 w1.heap.size 24 (adr false z16) := hW3 ▸ Blk.new w1 _ _
                      have hb3 : Below w1.heap.size w1 W3 := hW3 ▸ (Below.refl _ _).alloc (Nat.le_refl _) _
                      have HW3 : Hid (w1.alloc (.cells #[.bool false, .int .u8 0, .int .u8 0, .int .u8 0, .int .u8 0, .int .u8 0, .int .u8 0, .int .u8 0, .int .u8 0, .int .u8 0, .int .u8 0, .int .u8 0, .int .u8 0, .int .u8 0, .int .u8 0, .int .u8 0, .int .u8 0] 24) = W3) := Lib.hid hW3.symm
                      have HB3 := Lib.hid hB3
                      obtain ⟨V, hV⟩ : ∃ V, V = W3.setRow w1.heap.size (adr sa ab) := ⟨_, rfl⟩
                      have HV := Lib.hid hV.symm
                      have hsz : w.heap.size < w1.heap.size := HB1.out.lt
                      have HBA : Hid (Blk V w1.heap.size 24 (adr sa ab)) := Lib.hid (hV ▸ hB3.row _)
                      have HBR : Hid (Blk V w.heap.size 60 (pnt false z16 0)) := Lib.hid (hV ▸ (HB1.out.kept hb3).rowOther (by omega) _)
                      have HbV : Hid (Below w.heap.size w V) := Lib.hid (hV ▸ below_setRow (bel2 Hb1.out hb3) (by omega) _)
                      have hc0 : V.cell? ⟨w1.heap.size, 0, none⟩ = some (.bool sa) := by rw [HBA.out.cell]; rfl
                      clear he hb1 hres hab hW3 hB3 hb3 hV
                      cases ok with
                      | false =>
                        have HR : Hid (pres l = none) := Lib.hid (by rw [HRes.out]; rfl)
                        go_wp2_with ((try rw [HW3.out]); first | (refine wpl_store 24 _ _ rfl w1.heap.size (adr sa ab) rfl rfl _ _ HB3.out 17 Tryz.infoAddr L17.out rfl (adr_one _ _) rfl ?_; rw [HV.out]) | (refine wpl_store 60 _ _ rfl w.heap.size (pnt false z16 0) rfl rfl _ _ HBR.out 18 Tryz.infoPoint rfl rfl (pnt_one _ _ _) rfl ?_))
                        exact retA2 rfl w.heap.size rfl _ _ _ (HBR.out.row _) Tryz.underlying60 rfl 18 Tryz.infoPoint rfl rfl _ rfl (by unfold RPEnd; rw [HR.out]; exact ⟨rfl, below_setRow HbV.out (Nat.le_refl _) _⟩)
                      | true =>
                        cases sa with
                        | false =>
                          have HR : Hid (pres l = none) := Lib.hid (by rw [HRes.out]; rfl)
                          go_wp2_with ((try rw [HW3.out]); first | (refine wpl_store 24 _ _ rfl w1.heap.size (adr false ab) rfl rfl _ _ HB3.out 17 Tryz.infoAddr L17.out rfl (adr_one _ _) rfl ?_; rw [HV.out]) | (refine wpl_store 60 _ _ rfl w.heap.size (pnt false z16 0) rfl rfl _ _ HBR.out 18 Tryz.infoPoint rfl rfl (pnt_one _ _ _) rfl ?_))
                          exact retA2 rfl w.heap.size rfl _ _ _ (HBR.out.row _) Tryz.underlying60 rfl 18 Tryz.infoPoint rfl rfl _ rfl (by unfold RPEnd; rw [HR.out]; exact ⟨rfl, below_setRow HbV.out (Nat.le_refl _) _⟩)
                        | true =>
                          have HR : Hid (pres l = some ((true, ab), v)) := Lib.hid (by rw [HRes.out]; rfl)
                          go_wp2_with ((try rw [HW3.out]); first | (refine wpl_store 24 _ _ rfl w1.heap.size (adr true ab) rfl rfl _ _ HB3.out 17 Tryz.infoAddr L17.out rfl (adr_one _ _) rfl ?_; rw [HV.out]) | (refine wpl_load 24 _ rfl w1.heap.size rfl _ _ _ HBA.out Tryz.underlying24 rfl 17 Tryz.infoAddr L17.out rfl ?_) | (refine wpl_run (.agg (pnt true ab (v : Int))) _ (exec_build_pnt (.tmp 114) (.tmp 115) rfl true ab HLab.out (v : Int) rfl rfl _) rfl ?_) | (refine wpl_store 60 _ _ rfl w.heap.size (pnt true ab (v : Int)) rfl rfl _ _ HBR.out 18 Tryz.infoPoint L18.out rfl (pnt_one _ _ _) rfl ?_))
                          exact retA2 rfl w.heap.size rfl _ _ _ (HBR.out.row _) Tryz.underlying60 rfl 18 Tryz.infoPoint L18.out rfl _ rfl (by unfold RPEnd; rw [HR.out]; exact ⟨rfl, below_setRow HbV.out (Nat.le_refl _) _⟩)
                    · have g3 : ((t[i - 1].toNat : Int) == 93) = false := byte_ne t[i - 1] 93 hcm
                      have HBk : Hid (brk t.data.toList = false) := Lib.hid (brk_last t (i - 1) hmt hm hcm)
                      have HIn : Hid ((if false = true then inner t.data.toList else t.data.toList) = t.data.toList) := Lib.hid rfl
                      have hx1 := ht1
                      clear hc0 hcm hm
                      have CP : Hid (∀ w, Calls Tryz.prog 77 #[.string t] w (ROpt (parsed t.data.toList) w)) := Lib.hid (rparse_any t hx1)
                      have HPa : Hid (pres l = match (match parsed t.data.toList with | some (s, b) => if s = false then some (s, b) else none | none => none) with | some y => some (y, v) | none => none) := Lib.hid (by rw [HP2.out]; unfold paddr; rw [HBk.out, HIn.out]; cases parsed t.data.toList <;> rfl)
                      clear HP2 HBk HIn
                      go_wp2_with fail
                      refine (CP.out W0).mono ?_
                      rintro e w1 ⟨he, hb1⟩
                      have HB1 := Lib.hid (HB0.out.kept hb1)
                      have Hb1 := Lib.hid (bel2 Hb0.out hb1)
                      obtain ⟨ok, sa, ab, rfl, hab, hres⟩ : ∃ (ok : Bool) (sa : Bool) (ab : List Int), e = .returned (.tuple #[.agg (adr sa ab), .bool ok]) ∧ ab.length = 16 ∧ pres l = if (ok && (sa == false)) = true then some ((sa, ab), v) else none := by
                        have hp2 := HPa.out
                        cases hp : parsed t.data.toList with
                        | none =>
                          rw [hp] at he hp2
                          exact ⟨false, false, z16, he, rfl, hp2⟩
                        | some y =>
                          obtain ⟨sx, bx⟩ := y
                          rw [hp] at he hp2
                          refine ⟨true, sx, bx, he, parsed_len hp, hp2.trans ?_⟩
                          cases sx <;> rfl
                      have HRes := Lib.hid hres
                      have L17 : Hid (17 = (adr sa ab).size) := Lib.hid (by rw [adr_size, hab])
                      have L18 : Hid (18 = (pnt sa ab (v : Int)).size) := Lib.hid (by rw [pnt_size, hab])
                      have HLab := Lib.hid hab
                      obtain ⟨W3, hW3⟩ : ∃ W, W = w1.alloc (.cells (adr false z16) 24) := ⟨_, rfl⟩
                      have hB3 : Blk W3 w1.heap.size 24 (adr false z16) := hW3 ▸ Blk.new w1 _ _
                      have hb3 : Below w1.heap.size w1 W3 := hW3 ▸ (Below.refl _ _).alloc (Nat.le_refl _) _
                      have HW3 : Hid (w1.alloc (.cells #[.bool false, .int .u8 0, .int .u8 0, .int .u8 0, .int .u8 0, .int .u8 0, .int .u8 0, .int .u8 0, .int .u8 0, .int .u8 0, .int .u8 0, .int .u8 0, .int .u8 0, .int .u8 0, .int .u8 0, .int .u8 0, .int .u8 0] 24) = W3) := Lib.hid hW3.symm
                      have HB3 := Lib.hid hB3
                      obtain ⟨V, hV⟩ : ∃ V, V = W3.setRow w1.heap.size (adr sa ab) := ⟨_, rfl⟩
                      have HV := Lib.hid hV.symm
                      have hsz : w.heap.size < w1.heap.size := HB1.out.lt
                      have HBA : Hid (Blk V w1.heap.size 24 (adr sa ab)) := Lib.hid (hV ▸ hB3.row _)
                      have HBR : Hid (Blk V w.heap.size 60 (pnt false z16 0)) := Lib.hid (hV ▸ (HB1.out.kept hb3).rowOther (by omega) _)
                      have HbV : Hid (Below w.heap.size w V) := Lib.hid (hV ▸ below_setRow (bel2 Hb1.out hb3) (by omega) _)
                      have hc0 : V.cell? ⟨w1.heap.size, 0, none⟩ = some (.bool sa) := by rw [HBA.out.cell]; rfl
                      clear he hb1 hres hab hW3 hB3 hb3 hV
                      cases ok with
                      | false =>
                        have HR : Hid (pres l = none) := Lib.hid (by rw [HRes.out]; rfl)
                        go_wp2_with ((try rw [HW3.out]); first | (refine wpl_store 24 _ _ rfl w1.heap.size (adr sa ab) rfl rfl _ _ HB3.out 17 Tryz.infoAddr L17.out rfl (adr_one _ _) rfl ?_; rw [HV.out]) | (refine wpl_store 60 _ _ rfl w.heap.size (pnt false z16 0) rfl rfl _ _ HBR.out 18 Tryz.infoPoint rfl rfl (pnt_one _ _ _) rfl ?_))
                        exact retA2 rfl w.heap.size rfl _ _ _ (HBR.out.row _) Tryz.underlying60 rfl 18 Tryz.infoPoint rfl rfl _ rfl (by unfold RPEnd; rw [HR.out]; exact ⟨rfl, below_setRow HbV.out (Nat.le_refl _) _⟩)
                      | true =>
                        cases sa with
                        | false =>
                          have HR : Hid (pres l = some ((false, ab), v)) := Lib.hid (by rw [HRes.out]; rfl)
                          go_wp2_with ((try rw [HW3.out]); first | (refine wpl_store 24 _ _ rfl w1.heap.size (adr false ab) rfl rfl _ _ HB3.out 17 Tryz.infoAddr L17.out rfl (adr_one _ _) rfl ?_; rw [HV.out]) | (refine wpl_load 24 _ rfl w1.heap.size rfl _ _ _ HBA.out Tryz.underlying24 rfl 17 Tryz.infoAddr L17.out rfl ?_) | (refine wpl_run (.agg (pnt false ab (v : Int))) _ (exec_build_pnt (.tmp 114) (.tmp 115) rfl false ab HLab.out (v : Int) rfl rfl _) rfl ?_) | (refine wpl_store 60 _ _ rfl w.heap.size (pnt false ab (v : Int)) rfl rfl _ _ HBR.out 18 Tryz.infoPoint L18.out rfl (pnt_one _ _ _) rfl ?_))
                          exact retA2 rfl w.heap.size rfl _ _ _ (HBR.out.row _) Tryz.underlying60 rfl 18 Tryz.infoPoint L18.out rfl _ rfl (by unfold RPEnd; rw [HR.out]; exact ⟨rfl, below_setRow HbV.out (Nat.le_refl _) _⟩)
                        | true =>
                          have HR : Hid (pres l = none) := Lib.hid (by rw [HRes.out]; rfl)
                          go_wp2_with ((try rw [HW3.out]); first | (refine wpl_store 24 _ _ rfl w1.heap.size (adr true ab) rfl rfl _ _ HB3.out 17 Tryz.infoAddr L17.out rfl (adr_one _ _) rfl ?_; rw [HV.out]) | (refine wpl_store 60 _ _ rfl w.heap.size (pnt false z16 0) rfl rfl _ _ HBR.out 18 Tryz.infoPoint rfl rfl (pnt_one _ _ _) rfl ?_))
                          exact retA2 rfl w.heap.size rfl _ _ _ (HBR.out.row _) Tryz.underlying60 rfl 18 Tryz.infoPoint rfl rfl _ rfl (by unfold RPEnd; rw [HR.out]; exact ⟨rfl, below_setRow HbV.out (Nat.le_refl _) _⟩)
                  · have g2 : ((t[0].toNat : Int) == 91) = false := byte_ne t[0] 91 hc0
                    have HBk : Hid (brk t.data.toList = false) := Lib.hid (brk_head t ht0 hc0)
                    have HIn : Hid ((if false = true then inner t.data.toList else t.data.toList) = t.data.toList) := Lib.hid rfl
                    have hx1 := ht1
                    clear hc0 hm
                    have CP : Hid (∀ w, Calls Tryz.prog 77 #[.string t] w (ROpt (parsed t.data.toList) w)) := Lib.hid (rparse_any t hx1)
                    have HPa : Hid (pres l = match (match parsed t.data.toList with | some (s, b) => if s = false then some (s, b) else none | none => none) with | some y => some (y, v) | none => none) := Lib.hid (by rw [HP2.out]; unfold paddr; rw [HBk.out, HIn.out]; cases parsed t.data.toList <;> rfl)
                    clear HP2 HBk HIn
                    go_wp2_with fail
                    refine (CP.out W0).mono ?_
                    rintro e w1 ⟨he, hb1⟩
                    have HB1 := Lib.hid (HB0.out.kept hb1)
                    have Hb1 := Lib.hid (bel2 Hb0.out hb1)
                    obtain ⟨ok, sa, ab, rfl, hab, hres⟩ : ∃ (ok : Bool) (sa : Bool) (ab : List Int), e = .returned (.tuple #[.agg (adr sa ab), .bool ok]) ∧ ab.length = 16 ∧ pres l = if (ok && (sa == false)) = true then some ((sa, ab), v) else none := by
                      have hp2 := HPa.out
                      cases hp : parsed t.data.toList with
                      | none =>
                        rw [hp] at he hp2
                        exact ⟨false, false, z16, he, rfl, hp2⟩
                      | some y =>
                        obtain ⟨sx, bx⟩ := y
                        rw [hp] at he hp2
                        refine ⟨true, sx, bx, he, parsed_len hp, hp2.trans ?_⟩
                        cases sx <;> rfl
                    have HRes := Lib.hid hres
                    have L17 : Hid (17 = (adr sa ab).size) := Lib.hid (by rw [adr_size, hab])
                    have L18 : Hid (18 = (pnt sa ab (v : Int)).size) := Lib.hid (by rw [pnt_size, hab])
                    have HLab := Lib.hid hab
                    obtain ⟨W3, hW3⟩ : ∃ W, W = w1.alloc (.cells (adr false z16) 24) := ⟨_, rfl⟩
                    have hB3 : Blk W3 w1.heap.size 24 (adr false z16) := hW3 ▸ Blk.new w1 _ _
                    have hb3 : Below w1.heap.size w1 W3 := hW3 ▸ (Below.refl _ _).alloc (Nat.le_refl _) _
                    have HW3 : Hid (w1.alloc (.cells #[.bool false, .int .u8 0, .int .u8 0, .int .u8 0, .int .u8 0, .int .u8 0, .int .u8 0, .int .u8 0, .int .u8 0, .int .u8 0, .int .u8 0, .int .u8 0, .int .u8 0, .int .u8 0, .int .u8 0, .int .u8 0, .int .u8 0] 24) = W3) := Lib.hid hW3.symm
                    have HB3 := Lib.hid hB3
                    obtain ⟨V, hV⟩ : ∃ V, V = W3.setRow w1.heap.size (adr sa ab) := ⟨_, rfl⟩
                    have HV := Lib.hid hV.symm
                    have hsz : w.heap.size < w1.heap.size := HB1.out.lt
                    have HBA : Hid (Blk V w1.heap.size 24 (adr sa ab)) := Lib.hid (hV ▸ hB3.row _)
                    have HBR : Hid (Blk V w.heap.size 60 (pnt false z16 0)) := Lib.hid (hV ▸ (HB1.out.kept hb3).rowOther (by omega) _)
                    have HbV : Hid (Below w.heap.size w V) := Lib.hid (hV ▸ below_setRow (bel2 Hb1.out hb3) (by omega) _)
                    have hc0 : V.cell? ⟨w1.heap.size, 0, none⟩ = some (.bool sa) := by rw [HBA.out.cell]; rfl
                    clear he hb1 hres hab hW3 hB3 hb3 hV
                    cases ok with
                    | false =>
                      have HR : Hid (pres l = none) := Lib.hid (by rw [HRes.out]; rfl)
                      go_wp2_with ((try rw [HW3.out]); first | (refine wpl_store 24 _ _ rfl w1.heap.size (adr sa ab) rfl rfl _ _ HB3.out 17 Tryz.infoAddr L17.out rfl (adr_one _ _) rfl ?_; rw [HV.out]) | (refine wpl_store 60 _ _ rfl w.heap.size (pnt false z16 0) rfl rfl _ _ HBR.out 18 Tryz.infoPoint rfl rfl (pnt_one _ _ _) rfl ?_))
                      exact retA2 rfl w.heap.size rfl _ _ _ (HBR.out.row _) Tryz.underlying60 rfl 18 Tryz.infoPoint rfl rfl _ rfl (by unfold RPEnd; rw [HR.out]; exact ⟨rfl, below_setRow HbV.out (Nat.le_refl _) _⟩)
                    | true =>
                      cases sa with
                      | false =>
                        have HR : Hid (pres l = some ((false, ab), v)) := Lib.hid (by rw [HRes.out]; rfl)
                        go_wp2_with ((try rw [HW3.out]); first | (refine wpl_store 24 _ _ rfl w1.heap.size (adr false ab) rfl rfl _ _ HB3.out 17 Tryz.infoAddr L17.out rfl (adr_one _ _) rfl ?_; rw [HV.out]) | (refine wpl_load 24 _ rfl w1.heap.size rfl _ _ _ HBA.out Tryz.underlying24 rfl 17 Tryz.infoAddr L17.out rfl ?_) | (refine wpl_run (.agg (pnt false ab (v : Int))) _ (exec_build_pnt (.tmp 114) (.tmp 115) rfl false ab HLab.out (v : Int) rfl rfl _) rfl ?_) | (refine wpl_store 60 _ _ rfl w.heap.size (pnt false ab (v : Int)) rfl rfl _ _ HBR.out 18 Tryz.infoPoint L18.out rfl (pnt_one _ _ _) rfl ?_))
                        exact retA2 rfl w.heap.size rfl _ _ _ (HBR.out.row _) Tryz.underlying60 rfl 18 Tryz.infoPoint L18.out rfl _ rfl (by unfold RPEnd; rw [HR.out]; exact ⟨rfl, below_setRow HbV.out (Nat.le_refl _) _⟩)
                      | true =>
                        have HR : Hid (pres l = none) := Lib.hid (by rw [HRes.out]; rfl)
                        go_wp2_with ((try rw [HW3.out]); first | (refine wpl_store 24 _ _ rfl w1.heap.size (adr true ab) rfl rfl _ _ HB3.out 17 Tryz.infoAddr L17.out rfl (adr_one _ _) rfl ?_; rw [HV.out]) | (refine wpl_store 60 _ _ rfl w.heap.size (pnt false z16 0) rfl rfl _ _ HBR.out 18 Tryz.infoPoint rfl rfl (pnt_one _ _ _) rfl ?_))
                        exact retA2 rfl w.heap.size rfl _ _ _ (HBR.out.row _) Tryz.underlying60 rfl 18 Tryz.infoPoint rfl rfl _ rfl (by unfold RPEnd; rw [HR.out]; exact ⟨rfl, below_setRow HbV.out (Nat.le_refl _) _⟩)
          · have ql : decide ((i : Int) + 1 < (s.size : Int)) = false := decide_eq_false (by omega)
            have HRp : Hid (rp (v : Int) = false) := Lib.hid (by
              have h0 : v = 0 := by rw [HVe.out, List.drop_of_length_le (by rw [HSz.out]; omega)]; rfl
              rw [h0]
              rfl)
            have HR : Hid (pres l = none) := Lib.hid (HBad.out HRp.out)
            go_wp2_with fail
            refine (rright4_any (v : Int) W0).mono ?_
            rintro e w1 ⟨rfl, hw1⟩
            rw [hw1, HRp.out]
            clear hw1
            go_wp2_with (refine wpl_store 60 _ _ rfl w.heap.size (pnt false z16 0) rfl rfl _ _ HB0.out 18 Tryz.infoPoint rfl rfl (pnt_one _ _ _) rfl ?_)
            exact retA2 rfl w.heap.size rfl _ _ _ (HB0.out.row _) Tryz.underlying60 rfl 18 Tryz.infoPoint rfl rfl _ rfl (by unfold RPEnd; rw [HR.out]; exact ⟨rfl, below_setRow Hb0.out (Nat.le_refl _) _⟩)
        · have n58 : ((s[i].toNat : Int) != 58) = true := ne58 s[i] h58
          have HR : Hid (pres l = none) := Lib.hid (pres_no l i s[i] hat h58 hfg (.inl HND.out))
          clear hat hdr hfg hve hqe
          by_cases hd1 : 48 ≤ s[i].toNat
          · have d1 : decide ((s[i].toNat : Int) ≥ 48) = true := decide_eq_true (by omega)
            have d1' : decide ((48 : Int) ≤ (s[i].toNat : Int)) = true := decide_eq_true (by omega)
            have d2 : decide ((s[i].toNat : Int) ≤ 57) = false := decide_eq_false (by omega)
            go_wp2_with (refine wpl_store 60 _ _ rfl w.heap.size (pnt false z16 0) rfl rfl _ _ HB0.out 18 Tryz.infoPoint rfl rfl (pnt_one _ _ _) rfl ?_)
            exact retA2 rfl w.heap.size rfl _ _ _ (HB0.out.row _) Tryz.underlying60 rfl 18 Tryz.infoPoint rfl rfl _ rfl (by unfold RPEnd; rw [HR.out]; exact ⟨rfl, below_setRow Hb0.out (Nat.le_refl _) _⟩)
          · have d1 : decide ((s[i].toNat : Int) ≥ 48) = false := decide_eq_false (by omega)
            have d1' : decide ((48 : Int) ≤ (s[i].toNat : Int)) = false := decide_eq_false (by omega)
            go_wp2_with (refine wpl_store 60 _ _ rfl w.heap.size (pnt false z16 0) rfl rfl _ _ HB0.out 18 Tryz.infoPoint rfl rfl (pnt_one _ _ _) rfl ?_)
            exact retA2 rfl w.heap.size rfl _ _ _ (HB0.out.row _) Tryz.underlying60 rfl 18 Tryz.infoPoint rfl rfl _ rfl (by unfold RPEnd; rw [HR.out]; exact ⟨rfl, below_setRow Hb0.out (Nat.le_refl _) _⟩)
end Go.Proofs.YtnfkgoeocebenaaGreatDoor
