/-
  The document's cursor: take, Bytes, Num, whether there is what is read or not.
-/
import Derived.Test.YtnfkgoeocebenaaGreatDoorKread2
namespace Go.Proofs.YtnfkgoeocebenaaGreatDoor
open Go.RowKit

section
variable {w : World} {c : Nat} {ad : Option Addr} {cap : Nat} {bs : List Int} {p : Nat}

set_option maxHeartbeats 1000000 in
theorem take_bad {k : Int} (h : Cur w 41 c ad cap bs p (.int .i64 k)) (hk : k ≠ 0) (m : Nat) :
    Calls Tryz.prog 93 #[.pointer (some ⟨c, 0, none⟩), .int .i64 m] w fun e w' => e = .returned (.tuple #[.slice none 0 0, .bool false]) ∧ w' = w := by
  have h2 := h.cell2
  have q : (k != 0) = true := by rw [bne_iff_ne]; exact hk
  clear h hk
  go_enter Tryz.func93, Tryz.ntmps93
  go_wp2
  go_ret2
  exact ⟨rfl, rfl⟩

set_option maxHeartbeats 1000000 in
theorem take_short (h : Cur w 41 c ad cap bs p (.int .i64 0)) (m : Nat) (hgt : bs.length - p < m) :
    Calls Tryz.prog 93 #[.pointer (some ⟨c, 0, none⟩), .int .i64 m] w (CurEnd (.tuple #[.slice none 0 0, .bool false]) 41 c ad cap bs p (.int .i64 2) w) := by
  have h0 := h.cell0
  have h1 := h.cell1
  have h2 := h.cell2
  have hf := h.free 2
  have hm := h.most
  have hp := h.le
  have H := Lib.hid h
  clear h
  have q0 : decide ((m : Int) < 0) = false := by simp
  have q1 : decide ((bs.length : Int) - (p : Int) < (m : Int)) = true := decide_eq_true (by omega)
  go_enter Tryz.func93, Tryz.ntmps93
  go_wp2_with fail
  go_quiet (fail)
  go_wp2
  go_ret2
  exact ⟨rfl, (H.out.drewN _).fails (.int .i64 2), (keep_drewN c w _).trans (Keep.set _ c 2 _)⟩

set_option maxHeartbeats 1000000 in
theorem take_ok {g o : Nat} (h : Cur w 41 c (some ⟨g, o, none⟩) cap bs p (.int .i64 0)) (m : Nat) (hm1 : 1 ≤ m) (hm2 : p + m ≤ bs.length) :
    Calls Tryz.prog 93 #[.pointer (some ⟨c, 0, none⟩), .int .i64 m] w (fun e w' => ∃ cap', e = .returned (.tuple #[.slice (some ⟨g, o + p, none⟩) m cap', .bool true]) ∧ Cur w' 41 c (some ⟨g, o, none⟩) cap bs (p + m) (.int .i64 0) ∧ Keep c w w') := by
  have h0 := h.cell0
  have h1 := h.cell1
  have h2 := h.cell2
  have hf := h.free 1
  have hm := h.most
  have hcap := h.room
  have H := Lib.hid h
  clear h
  have q0 : decide ((m : Int) < 0) = false := by simp
  have q1 : decide ((bs.length : Int) - (p : Int) < (m : Int)) = false := decide_eq_false (by omega)
  have hne : ¬ cap = p := by omega
  go_enter Tryz.func93, Tryz.ntmps93
  go_wp2_with fail
  go_quiet (fail)
  obtain ⟨n1, rfl⟩ : ∃ n1, n1 = nq := ⟨nq, rfl⟩
  go_wp2_with fail
  go_quiet (fail)
  go_wp2
  go_ret2
  have e1 : p + m - p = m := by omega
  refine ⟨cap - p, ?_, ?_, ?_⟩
  · show Ending.returned (.tuple #[.slice (some ⟨g, o + p, none⟩) (p + m - p) (cap - p), .bool true]) = _
    rw [e1]
  · have := ((H.out.drewN n1).drewN nq).goes (p + m) hm2
    simpa using this
  · exact (keep_drewN c w (n1 + nq)).trans (Keep.set _ c 1 _)

set_option maxHeartbeats 1000000 in
theorem rbytes_bad {k : Int} (h : Cur w 41 c ad cap bs p (.int .i64 k)) (hk : k ≠ 0) (m : Nat) :
    Calls Tryz.prog 55 #[.pointer (some ⟨c, 0, none⟩), .int .i64 m] w fun e w' => e = .returned (.slice none 0 0) ∧ w' = w := by
  have HT := Lib.hid (take_bad h hk m)
  clear h hk
  go_enter Tryz.func55, Tryz.ntmps55
  go_wp2_with fail
  refine HT.out.mono ?_
  rintro e w' ⟨rfl, rfl⟩
  go_wp2
  go_ret
  exact ⟨rfl, rfl⟩

set_option maxHeartbeats 1000000 in
theorem rbytes_short (h : Cur w 41 c ad cap bs p (.int .i64 0)) (m : Nat) (hgt : bs.length - p < m) :
    Calls Tryz.prog 55 #[.pointer (some ⟨c, 0, none⟩), .int .i64 m] w (CurEnd (.slice none 0 0) 41 c ad cap bs p (.int .i64 2) w) := by
  have HT := Lib.hid (take_short h m hgt)
  clear h hgt
  go_enter Tryz.func55, Tryz.ntmps55
  go_wp2_with fail
  refine HT.out.mono ?_
  rintro e w' ⟨rfl, hC, hK⟩
  have HC := Lib.hid hC
  have HK := Lib.hid hK
  clear hC hK
  go_wp2
  go_ret
  exact ⟨rfl, HC.out, HK.out⟩

set_option maxHeartbeats 1000000 in
theorem rbytes_ok {g o : Nat} (h : Cur w 41 c (some ⟨g, o, none⟩) cap bs p (.int .i64 0)) (m : Nat) (hm1 : 1 ≤ m) (hm2 : p + m ≤ bs.length) :
    Calls Tryz.prog 55 #[.pointer (some ⟨c, 0, none⟩), .int .i64 m] w (fun e w' => ∃ cap', e = .returned (.slice (some ⟨g, o + p, none⟩) m cap') ∧ Cur w' 41 c (some ⟨g, o, none⟩) cap bs (p + m) (.int .i64 0) ∧ Keep c w w') := by
  have HT := Lib.hid (take_ok h m hm1 hm2)
  clear h
  go_enter Tryz.func55, Tryz.ntmps55
  go_wp2_with fail
  refine HT.out.mono ?_
  rintro e w' ⟨cap', rfl, hC, hK⟩
  have HC := Lib.hid hC
  have HK := Lib.hid hK
  clear hC hK
  go_wp2
  go_ret
  exact ⟨cap', rfl, HC.out, HK.out⟩

set_option maxHeartbeats 1000000 in
theorem rnum_bad {k : Int} (h : Cur w 41 c ad cap bs p (.int .i64 k)) (hk : k ≠ 0) (s : Nat) :
    Calls Tryz.prog 54 #[.pointer (some ⟨c, 0, none⟩), .int .i64 s] w fun e w' => e = .returned (.int .i64 0) ∧ w' = w := by
  have HT := Lib.hid (take_bad h hk s)
  have h2 := h.cell2
  have q : (k == 0) = false := by rw [beq_eq_false_iff_ne]; exact hk
  clear h hk
  go_enter Tryz.func54, Tryz.ntmps54
  go_wp2_with fail
  refine HT.out.mono ?_
  rintro e w' ⟨rfl, rfl⟩
  go_wp2
  go_ret
  exact ⟨rfl, rfl⟩

set_option maxHeartbeats 1000000 in
theorem rnum_short (h : Cur w 41 c ad cap bs p (.int .i64 0)) (s : Nat) (h1 : 1 ≤ s) (h2 : s ≤ 8) (hgt : bs.length - p < s) :
    Calls Tryz.prog 54 #[.pointer (some ⟨c, 0, none⟩), .int .i64 s] w (CurEnd (.int .i64 0) 41 c ad cap bs p (.int .i64 2) w) := by
  have HT := Lib.hid (take_short h s hgt)
  have c2 := h.cell2
  have d1 : decide ((s : Int) < 1) = false := by simp; omega
  have d2 : decide ((8 : Int) < (s : Int)) = false := by simp; omega
  clear h hgt
  go_enter Tryz.func54, Tryz.ntmps54
  go_wp2_with fail
  refine HT.out.mono ?_
  rintro e w' ⟨rfl, hC, hK⟩
  have HC := Lib.hid hC
  have HK := Lib.hid hK
  clear hC hK
  go_wp2
  go_ret
  exact ⟨rfl, HC.out, HK.out⟩

set_option maxHeartbeats 1000000 in
theorem rnum_ok (h : Cur w 41 c ad cap bs p (.int .i64 0)) (s : Nat) (h1 : 1 ≤ s) (h2 : s ≤ 6) (hle : p + s ≤ bs.length) :
    Calls Tryz.prog 54 #[.pointer (some ⟨c, 0, none⟩), .int .i64 s] w (CurEnd (.int .i64 (accN bs p s)) 41 c ad cap bs (p + s) (.int .i64 0) w) := by
  obtain ⟨g, o, rfl, hgc, _⟩ := h.row 0 (by omega)
  have c2 := h.cell2
  have HT := Lib.hid (take_ok h s h1 hle)
  have HB := Lib.hid h.byte
  have HA := Lib.hid (accN_lt bs p h.byte)
  have hcl : ∀ k, k < s → w.cell? ⟨g, o + p + k, none⟩ = some (.int .u8 (((bs.getD (p + k) 0).toNat : Nat) : Int)) := fun k hk => by
    obtain ⟨g', o', e, _, hc⟩ := h.row (p + k) (by omega)
    cases e
    rw [Nat.add_assoc, hc, Int.toNat_of_nonneg (h.byte (p + k)).1]
  have HCl := Lib.hid hcl
  clear h hcl
  have d1 : decide ((s : Int) < 1) = false := by simp; omega
  have d2 : decide ((8 : Int) < (s : Int)) = false := by simp; omega
  have d3 : ((s : Int) == 8) = false := by rw [beq_eq_false_iff_ne]; omega
  go_enter Tryz.func54, Tryz.ntmps54
  go_wp2_with fail
  refine HT.out.mono ?_
  rintro e w' ⟨cap', rfl, hC, hK⟩
  have HC := Lib.hid hC
  have HK := Lib.hid hK
  have HX : Hid (∀ k, k < s → w'.cell? ⟨g, o + p + k, none⟩ = some (.int .u8 (((bs.getD (p + k) 0).toNat : Nat) : Int))) := Lib.hid fun k hk => hK.cell (HCl.out k hk) hgc
  clear hC hK HCl
  go_wp2_with fail
  go_loop [7, 66] (fun v i => ∃ k : Nat, k ≤ s ∧ i = .int .i64 k ∧ v = .int .i64 (accN bs p k : Nat)) (fun _ i => s - (intOf i).toNat)
  case atStart => exact ⟨0, Nat.zero_le _, rfl, rfl⟩
  case round =>
    obtain ⟨k, hk, rfl, rfl⟩ := hrel
    by_cases hlt : k < s
    · obtain ⟨q, hq⟩ : ∃ q, q = accN bs p k := ⟨_, rfl⟩
      obtain ⟨b, hb⟩ : ∃ b, b = (bs.getD (p + k) 0).toNat := ⟨_, rfl⟩
      have hc := HX.out k hlt
      have hq2 : q < 256 ^ 6 := by
        rw [hq]
        exact Nat.lt_of_lt_of_le (HA.out k) (Nat.pow_le_pow_right (by omega) (by omega))
      have hb2 : b < 256 := by
        have := HB.out (p + k)
        rw [hb]
        omega
      have HE : Hid (accN bs p (k + 1) = q * 256 + b) := Lib.hid (by rw [accN, ← hq, ← hb])
      rw [← hb] at hc
      rw [← hq]
      have e1 : IntKind.i64.wrap ((q : Int) * 256) = (q : Int) * 256 := by simp only [IntKind.wrap, IntKind.signed, IntKind.bits]; simp; omega
      have e2 : IntKind.i64.wrap (b : Int) = (b : Int) := by simp only [IntKind.wrap, IntKind.signed, IntKind.bits]; simp; omega
      have e3 : IntKind.i64.wrap ((q : Int) * 256 + (b : Int)) = (q : Int) * 256 + (b : Int) := by simp only [IntKind.wrap, IntKind.signed, IntKind.bits]; simp; omega
      clear hq hb hb2 hq2
      go_wp2
      go_round
      case rel => exact ⟨k + 1, by omega, by go_num, by rw [HE.out]; simp⟩
      case measure => simp [intOf]; omega
    · obtain rfl : k = s := by omega
      obtain ⟨q, hq⟩ : ∃ q, q = accN bs p k := ⟨_, rfl⟩
      rw [← hq]
      have HQ := Lib.hid hq
      clear hq HA HB HX
      go_wp2
      go_ret
      exact ⟨by rw [← HQ.out]; rfl, HC.out, HK.out⟩
end
end Go.Proofs.YtnfkgoeocebenaaGreatDoor
