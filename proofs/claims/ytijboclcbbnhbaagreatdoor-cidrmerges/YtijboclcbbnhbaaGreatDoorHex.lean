/-
  strconv.ParseUint(s, 16, 16), by its contract.
-/
import Derived.Test.YtijboclcbbnhbaaGreatDoorEnv
import Derived.Lib.ParseIntBMem
import Derived.Lib.ConvBytes
import Derived.Lib.AtoiErrMem
import Derived.Lib.Walk
import Derived.Laws.Strings3
import Derived.Laws.Closers25
import Derived.Laws.Closers25b
import Derived.BigCall
import Derived.BigGuard
namespace Go.Proofs.YtijboclcbbnhbaaGreatDoor
open Go.RowKit

/-- How a text of figures to the base 16 ends, behind a number: 0 and the number; or the number of an error, and what stands beside it. -/
def hexM (acc : Nat) : List UInt8 → Nat × Nat
  | [] => (0, acc)
  | c :: r => if fig c < 16 then if 65535 < acc * 16 + fig c then (1, 65535) else hexM (acc * 16 + fig c) r else (2, 0)
def hexB (l : List UInt8) : Nat × Nat := if l = [] then (2, 0) else hexM 0 l
def hexT (r : Nat × Nat) : Value := if r.1 = 0 then .tuple #[.int .u64 r.2, .nilIface] else .tuple #[.int .u64 r.2, .iface 119 (.int .i64 r.1)]

theorem low_tab : ∀ c : Fin 256, (c.val ≤ 47 ∨ 58 ≤ c.val) →
    (97 ≤ c.val ∧ c.val ≤ 102 ∨ 65 ≤ c.val ∧ c.val ≤ 70 → 97 ≤ bits .or .u8 (c.val : Int) 32 ∧ bits .or .u8 (c.val : Int) 32 ≤ 102 ∧ bits .or .u8 (c.val : Int) 32 - 87 = (fig (UInt8.ofNat c.val) : Int)) ∧
    (¬ (97 ≤ c.val ∧ c.val ≤ 102 ∨ 65 ≤ c.val ∧ c.val ≤ 70) → bits .or .u8 (c.val : Int) 32 < 97 ∨ 102 < bits .or .u8 (c.val : Int) 32) := by decide +kernel

theorem fig_letter (c : UInt8) (h : 97 ≤ c.toNat ∧ c.toNat ≤ 102 ∨ 65 ≤ c.toNat ∧ c.toNat ≤ 70) : fig c < 16 ∧ 10 ≤ fig c := by
  unfold fig
  rw [if_neg (by omega)]
  split
  · omega
  · rw [if_pos (by omega)]; omega
theorem fig_not (c : UInt8) (h : ¬ (97 ≤ c.toNat ∧ c.toNat ≤ 102 ∨ 65 ≤ c.toNat ∧ c.toNat ≤ 70)) (hd : ¬ (48 ≤ c.toNat ∧ c.toNat ≤ 57)) : ¬ fig c < 16 := by
  unfold fig
  rw [if_neg hd, if_neg (by omega), if_neg (by omega)]
  omega

set_option maxHeartbeats 4000000 in
set_option maxRecDepth 100000 in
theorem inner16 (t : ByteArray) (hne : t.size ≠ 0) (hmax : t.size ≤ 100000) (w : World) :
    Calls Tryz.prog 64 #[.string t, .int .i64 16, .int .i64 16] w fun e w' => e = .returned (hexT (hexM 0 t.data.toList)) ∧ w' = Lib.bytesWorld w 5 t := by
  have hemp : t.toList.isEmpty = false := by
    rw [← decide_eq_emptyBytes]
    exact decide_eq_false (fun h => hne (by rw [h]; rfl))
  have hcv := Lib.run_convert_string_bytes (P := Tryz.prog) w 9 84 5 t (u := .string) Tryz.underlying9 Tryz.underlying84 Tryz.underlying5
  have hB : ∀ j, j < t.size → (Lib.bytesWorld w 5 t).cell? ⟨w.heap.size, j, none⟩ = some (.int .u8 (t.data.toList.getD j 0).toNat) := fun j hj => Lib.bytesWorld_cell w 5 t j hj
  obtain ⟨W1, hW1⟩ : ∃ W1, W1 = Lib.bytesWorld w 5 t := ⟨_, rfl⟩
  rw [← hW1] at hcv hB ⊢
  clear hW1
  obtain ⟨bs, hL⟩ : ∃ bs, bs = t.data.toList := ⟨_, rfl⟩
  have hLn : bs.length = t.size := by rw [hL, Lib.size_eq]
  rw [← hL] at hB ⊢
  clear hL
  have hmv : IntKind.u64.wrap (IntKind.u64.wrap 65536 - 1) = 65535 := by
    rw [IntKind.wrap_u64, IntKind.wrap_u64]
    decide
  have HB := Lib.hid hB
  have HLn := Lib.hid hLn
  clear hB hLn
  go_enter Tryz.func64, Tryz.ntmps64
  go_wp2
  go_loop [12, 13, 101] (fun vu vn vi => ∃ (k acc : Nat) (a : Int), vu = .bool false ∧ vn = .int .u64 a ∧ vi = .int .i64 k ∧ k ≤ t.size ∧ Hid (a = (acc : Int) ∧ acc ≤ 65535 ∧ hexM 0 bs = hexM acc (bs.drop k)))
    (fun _ _ vi => t.size - (RowKit.intOf vi).toNat)
  case atStart => exact ⟨0, 0, 0, rfl, rfl, rfl, by omega, rfl, by omega, rfl⟩
  case round =>
    obtain ⟨k, acc, a, rfl, rfl, rfl, hk, hh⟩ := hrel
    obtain ⟨ha, hacc, hdec⟩ := hh.out
    clear hh
    have a0 : 0 ≤ a := by omega
    have a1 : a ≤ 65535 := by omega
    by_cases hkn : k < t.size
    · have hc := HB.out k hkn
      have hkb : k < bs.length := by rw [HLn.out]; exact hkn
      have hdrop : bs.drop k = bs[k] :: bs.drop (k + 1) := List.drop_eq_getElem_cons hkb
      have hget : bs.getD k 0 = bs[k] := by simp [List.getD, List.getElem?_eq_getElem hkb]
      rw [hdrop] at hdec
      rw [hget] at hc
      generalize bs[k] = c at hc hdec
      have hc256 : c.toNat < 256 := c.toNat_lt
      clear hdrop hget
      by_cases hdig : 48 ≤ c.toNat ∧ c.toNat ≤ 57
      · have hfig : fig c = c.toNat - 48 := by unfold fig; rw [if_pos hdig]
        obtain ⟨hd0, hd1⟩ := hdig
        by_cases hov : 65535 < acc * 16 + (c.toNat - 48)
        · have hF : hexM acc (c :: bs.drop (k + 1)) = (1, 65535) := by rw [hexM, if_pos (by omega), hfig, if_pos hov]
          rw [hF] at hdec
          have HD := Lib.hid hdec
          have iov : 65535 < a * 16 + ((c.toNat : Int) - 48) := by omega
          clear hdec hacc hF hov ha hfig
          go_wp2
          go_ret2
          rw [HD.out]
          exact ⟨rfl, rfl⟩
        · have hF : hexM acc (c :: bs.drop (k + 1)) = hexM (acc * 16 + (c.toNat - 48)) (bs.drop (k + 1)) := by rw [hexM, if_pos (by omega), hfig, if_neg hov]
          have HN : Hid (a * 16 + ((c.toNat : Int) - 48) = ((acc * 16 + (c.toNat - 48) : Nat) : Int) ∧ acc * 16 + (c.toNat - 48) ≤ 65535 ∧ hexM 0 bs = hexM (acc * 16 + (c.toNat - 48)) (bs.drop (k + 1))) := Lib.hid ⟨by omega, by omega, hdec.trans hF⟩
          have iov : a * 16 + ((c.toNat : Int) - 48) ≤ 65535 := by omega
          clear hacc hF hov hdec ha hfig
          go_wp2
          refine ⟨⟨k + 1, acc * 16 + (c.toNat - 48), a * 16 + ((c.toNat : Int) - 48), rfl, (by first | rfl | (congr 1; omega)), (by first | rfl | (congr 1; omega)), by omega, HN⟩, by simp [RowKit.intOf]; omega⟩
      · have htab := low_tab ⟨c.toNat, hc256⟩ (by simp only; omega)
        obtain ⟨v, hv⟩ : ∃ v : Int, v = bits .or .u8 (c.toNat : Int) 32 := ⟨_, rfl⟩
        have hv0 := bits_lo_u8 .or (c.toNat : Int) 32
        have hv1 := bits_hi_u8 .or (c.toNat : Int) 32
        have hlow : ∀ w, Calls Tryz.prog 91 #[.int .u8 (c.toNat : Int)] w fun e w' => e = .returned (.int .u8 v) ∧ w = w' := fun w => by
          refine (Tryz.internal_strconv_lower (c.toNat : Int) w).mono ?_
          rintro e w' ⟨rfl, rfl⟩
          exact ⟨by rw [hv], rfl⟩
        have hofn : UInt8.ofNat c.toNat = c := by simp
        simp only [hofn] at htab
        rw [← hv] at hv0 hv1 htab
        have HLow := Lib.hid hlow
        clear hlow hv hofn
        by_cases hlet : 97 ≤ c.toNat ∧ c.toNat ≤ 102 ∨ 65 ≤ c.toNat ∧ c.toNat ≤ 70
        · obtain ⟨p1, p2, p3⟩ := htab.1 hlet
          have hf16 := fig_letter c hlet
          have q1 : ¬ (48 ≤ (c.toNat : Int) ∧ (c.toNat : Int) ≤ 57) := by omega
          obtain ⟨f, hf⟩ : ∃ f, f = fig c := ⟨_, rfl⟩
          rw [← hf] at p3 hf16
          clear htab
          by_cases hov : 65535 < acc * 16 + f
          · have hF : hexM acc (c :: bs.drop (k + 1)) = (1, 65535) := by rw [hexM, ← hf, if_pos hf16.1, if_pos hov]
            rw [hF] at hdec
            have HD := Lib.hid hdec
            have iov : 65535 < a * 16 + (v - 87) := by omega
            have iov2 : 65535 < a * 16 + (v - 97 + 10) := by omega
            have c58 : 58 ≤ (c.toNat : Int) := by omega
            have c95 : ((c.toNat : Int) == 95) = false := by rw [beq_eq_false_iff_ne]; omega
            clear hdec hacc hF hov ha hf p3 hf16 hdig q1 hlet
            go_wp2_with (go_at_call 91; refine (HLow.out _).mono ?_; rintro e w' ⟨rfl, rfl⟩)
            all_goals
              go_ret2
              rw [HD.out]
              exact ⟨rfl, rfl⟩
          · have hF : hexM acc (c :: bs.drop (k + 1)) = hexM (acc * 16 + f) (bs.drop (k + 1)) := by rw [hexM, ← hf, if_pos hf16.1, if_neg hov]
            have HN : Hid (a * 16 + (v - 97 + 10) = ((acc * 16 + f : Nat) : Int) ∧ acc * 16 + f ≤ 65535 ∧ hexM 0 bs = hexM (acc * 16 + f) (bs.drop (k + 1))) := Lib.hid ⟨by omega, by omega, hdec.trans hF⟩
            have iov : a * 16 + (v - 97 + 10) ≤ 65535 := by omega
            have c58 : 58 ≤ (c.toNat : Int) := by omega
            have c95 : ((c.toNat : Int) == 95) = false := by rw [beq_eq_false_iff_ne]; omega
            clear hdec hacc hF hov ha hf p3 hf16 hdig q1 hlet
            go_wp2_with (go_at_call 91; refine (HLow.out _).mono ?_; rintro e w' ⟨rfl, rfl⟩)
            all_goals
              refine ⟨⟨k + 1, acc * 16 + f, a * 16 + (v - 97 + 10), rfl, (by first | rfl | (congr 1; omega)), (by first | rfl | (congr 1; omega)), by omega, HN⟩, by simp [RowKit.intOf]; omega⟩
        · have hF : hexM acc (c :: bs.drop (k + 1)) = (2, 0) := by rw [hexM, if_neg (fig_not c hlet hdig)]
          rw [hF] at hdec
          have HD := Lib.hid hdec
          have hout := htab.2 hlet
          clear hdec hacc hF ha htab hlet
          by_cases h95 : c.toNat = 95
          · rw [h95] at hc
            have HLow5 : Hid (∀ w, Calls Tryz.prog 91 #[.int .u8 95] w fun e w' => e = .returned (.int .u8 127) ∧ w = w') := Lib.hid fun w => by
              refine (Tryz.internal_strconv_lower 95 w).mono ?_
              rintro e w' ⟨rfl, rfl⟩
              exact ⟨by rw [show bits .or .u8 (95 : Int) 32 = 127 by decide +kernel], rfl⟩
            clear h95 hout hdig hc256 hv0 hv1
            go_wp2_with (go_at_call 91; refine (HLow5.out _).mono ?_; rintro e w' ⟨rfl, rfl⟩)
            all_goals
              go_ret2
              rw [HD.out]
              exact ⟨rfl, rfl⟩
          · have c95 : ((c.toNat : Int) == 95) = false := by rw [beq_eq_false_iff_ne]; omega
            rcases hout with hout | hout
            all_goals
              go_wp2_with (go_at_call 91; refine (HLow.out _).mono ?_; rintro e w' ⟨rfl, rfl⟩)
              all_goals
                go_ret2
                rw [HD.out]
                exact ⟨rfl, rfl⟩
    · have hkk : k = t.size := by omega
      subst hkk
      have hF : hexM acc (bs.drop t.size) = (0, acc) := by rw [List.drop_eq_nil_of_le (by rw [HLn.out]; omega)]; rfl
      rw [hF] at hdec
      subst ha
      have HD := Lib.hid hdec
      clear hacc hF a0 a1 hdec
      go_wp2
      go_ret2
      rw [HD.out]
      exact ⟨rfl, rfl⟩
end Go.Proofs.YtijboclcbbnhbaaGreatDoor
