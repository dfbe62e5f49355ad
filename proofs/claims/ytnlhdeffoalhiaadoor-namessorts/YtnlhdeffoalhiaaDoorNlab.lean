/-
  names.Label, names.Key and the document's: which texts are labels.
-/
import Derived.Test.YtnlhdeffoalhiaaDoorNbase
namespace Go.Proofs.YtnlhdeffoalhiaaDoor
open Go.RowKit

/-- A letter or a figure. -/
def plainC (c : UInt8) : Bool := (decide (97 ≤ c.toNat) && decide (c.toNat ≤ 122)) || (decide (48 ≤ c.toNat) && decide (c.toNat ≤ 57))
/-- What may stand in a label. -/
def labC (c : UInt8) : Bool := decide (c.toNat = 45) || plainC c
/-- Is it a label? -/
def lab (s : ByteArray) : Bool := decide (1 ≤ s.size) && decide (s.size ≤ 15) && s.data.toList.all labC && (s.data.toList[0]?.map fun c => decide (c.toNat ≠ 45)).getD false && (s.data.toList[s.size - 1]?.map fun c => decide (c.toNat ≠ 45)).getD false

set_option maxHeartbeats 1000000 in
theorem plain_any (c : UInt8) (w : World) : Calls Tryd.prog 42 #[.int .u8 (c.toNat : Int)] w fun e w' => e = .returned (.bool (plainC c)) ∧ w = w' := by
  have h8 : c.toNat < 256 := c.toNat_lt
  have HF : Hid (plainC c = ((decide (97 ≤ c.toNat) && decide (c.toNat ≤ 122)) || (decide (48 ≤ c.toNat) && decide (c.toNat ≤ 57)))) := Lib.hid rfl
  obtain ⟨n, hn⟩ : ∃ n, n = c.toNat := ⟨_, rfl⟩
  rw [← hn] at HF h8 ⊢
  clear hn
  by_cases h1 : 97 ≤ n <;> by_cases h2 : n ≤ 122 <;> by_cases h3 : 48 ≤ n <;> by_cases h4 : n ≤ 57 <;> first | (exfalso; omega) | skip
  all_goals
    go_enter Tryd.func42, Tryd.ntmps42
    go_wp2
    go_ret
    refine ⟨ret_bool ?_, rfl⟩
    rw [HF.out]
    simp [h1, h2, h3, h4]
    try omega

theorem lab_short {s : ByteArray} (h : ¬ 1 ≤ s.size) : lab s = false := by simp [lab, h]
theorem lab_long {s : ByteArray} (h : 15 < s.size) : lab s = false := by
  have : ¬ s.size ≤ 15 := by omega
  simp [lab, this]
theorem lab_bad {s : ByteArray} {k : Nat} (hk : k < s.size) (h : labC s[k] = false) : lab s = false := by
  have : s.data.toList.all labC = false := by
    rw [List.all_eq_false]
    exact ⟨s[k], List.mem_of_getElem? (list_at s k hk), by simp [h]⟩
  simp [lab, this]
theorem lab_first {s : ByteArray} (h1 : 0 < s.size) (h : s[0].toNat = 45) : lab s = false := by
  simp only [lab, list_at s 0 h1]
  simp [h]
theorem lab_last {s : ByteArray} (h1 : 0 < s.size) (h : (s[s.size - 1]'(by omega)).toNat = 45) : lab s = false := by
  simp only [lab, list_at s (s.size - 1) (by omega)]
  simp [h]
theorem lab_good {s : ByteArray} (h1 : 0 < s.size) (h15 : s.size ≤ 15) (hall : ∀ k (h : k < s.size), labC s[k] = true) (h0 : s[0].toNat ≠ 45) (hl : (s[s.size - 1]'(by omega)).toNat ≠ 45) : lab s = true := by
  have hA : s.data.toList.all labC = true := by
    rw [List.all_eq_true]
    intro c hc
    obtain ⟨k, hk⟩ := List.getElem?_of_mem hc
    have hlt : k < s.size := by
      rw [Lib.size_eq]
      exact (List.getElem?_eq_some_iff.1 hk).1
    rw [list_at s k hlt] at hk
    cases hk
    exact hall k hlt
  simp only [lab, hA, list_at s 0 h1, list_at s (s.size - 1) (by omega)]
  simp [h0, hl, h15]
  omega

set_option maxRecDepth 100000 in
set_option maxHeartbeats 2000000 in
theorem label_any (s : ByteArray) (w : World) : Calls Tryd.prog 36 #[.string s] w fun e w' => e = .returned (.bool (lab s)) ∧ w = w' := by
  by_cases h1 : 1 ≤ s.size
  · by_cases h2 : s.size ≤ 15
    · have h0 : 0 < s.size := h1
      go_enter Tryd.func36, Tryd.ntmps36
      go_wp2
      go_loopw [14] (fun i wr => wr = w ∧ ∃ k : Nat, k ≤ s.size ∧ i = .int .i64 k ∧ Hid (∀ j (h : j < s.size), j < k → labC s[j] = true)) (fun i _ => s.size - (intOf i).toNat)
      case atStart => exact ⟨rfl, 0, by omega, rfl, Lib.hid (fun j _ h => by omega)⟩
      case round =>
        obtain ⟨rfl, k, hk, rfl, hh⟩ := hrel
        by_cases hlt : k < s.size
        · have HC : Hid (∀ w, Calls Tryd.prog 42 #[.int .u8 (s[k].toNat : Int)] w fun e w' => e = .returned (.bool (plainC s[k])) ∧ w = w') := Lib.hid fun w => plain_any _ w
          by_cases h45 : s[k].toNat = 45
          · have HX : Hid (∀ j (h : j < s.size), j < k + 1 → labC s[j] = true) := Lib.hid (fun j h hj => by
              by_cases hjk : j < k
              · exact hh.out j h hjk
              · obtain rfl : j = k := by omega
                simp [labC, h45])
            clear hh
            go_wp2
            go_roundw
            case rel => exact ⟨trivial, k + 1, by omega, by go_num, HX⟩
            case measure => simp [intOf]; omega
          · cases hp : plainC s[k] with
            | true =>
              have HX : Hid (∀ j (h : j < s.size), j < k + 1 → labC s[j] = true) := Lib.hid (fun j h hj => by
                by_cases hjk : j < k
                · exact hh.out j h hjk
                · obtain rfl : j = k := by omega
                  simp [labC, hp])
              rw [hp] at HC
              clear hh hp
              go_wp2_with fail
              refine (HC.out _).mono ?_
              rintro e w1 ⟨rfl, rfl⟩
              go_wp2
              go_roundw
              case rel => exact ⟨trivial, k + 1, by omega, by go_num, HX⟩
              case measure => simp [intOf]; omega
            | false =>
              have HX : Hid (lab s = false) := Lib.hid (lab_bad hlt (by simp [labC, hp, h45]))
              rw [hp] at HC
              clear hh hp
              go_wp2_with fail
              refine (HC.out _).mono ?_
              rintro e w1 ⟨rfl, rfl⟩
              go_wp2
              go_ret
              exact ⟨ret_bool HX.out.symm, rfl⟩
        · obtain rfl : k = s.size := by omega
          have hl : s.size - 1 < s.size := by omega
          by_cases ha : s[0].toNat = 45
          · have HX : Hid (lab s = false) := Lib.hid (lab_first h0 ha)
            clear hh
            go_wp2
            go_ret
            exact ⟨ret_bool HX.out.symm, rfl⟩
          · by_cases hb : s[s.size - 1].toNat = 45
            · have HX : Hid (lab s = false) := Lib.hid (lab_last h0 hb)
              clear hh
              go_wp2
              go_ret
              exact ⟨ret_bool HX.out.symm, rfl⟩
            · have HX : Hid (lab s = true) := Lib.hid (lab_good h0 h2 (fun j h => hh.out j h h) ha hb)
              clear hh
              go_wp2
              go_ret
              refine ⟨ret_bool ?_, rfl⟩
              rw [HX.out]
              simp
              omega
    · have HX : Hid (lab s = false) := Lib.hid (lab_long (by omega))
      go_enter Tryd.func36, Tryd.ntmps36
      go_wp2
      go_ret
      exact ⟨ret_bool HX.out.symm, rfl⟩
  · have HX : Hid (lab s = false) := Lib.hid (lab_short h1)
    go_enter Tryd.func36, Tryd.ntmps36
    go_wp2
    go_ret
    exact ⟨ret_bool HX.out.symm, rfl⟩


/-- A key's cells. -/
abbrev kv (a b : ByteArray) : Value := .agg #[.string a, .string b]

set_option maxHeartbeats 1000000 in
theorem key_any (a b : ByteArray) (w : World) : Calls Tryd.prog 25 #[kv a b] w fun e w' => e = .returned (.bool (lab a && lab b)) ∧ Below w.heap.size w w' := by
  have HA : Hid (∀ w, Calls Tryd.prog 36 #[.string a] w fun e w' => e = .returned (.bool (lab a)) ∧ w = w') := Lib.hid (label_any a)
  have HB : Hid (∀ w, Calls Tryd.prog 36 #[.string b] w fun e w' => e = .returned (.bool (lab b)) ∧ w = w') := Lib.hid (label_any b)
  have hb : ∀ cs, Below w.heap.size w (w.alloc (.cells cs 25)) := fun cs => (Below.refl _ _).alloc (Nat.le_refl _) _
  obtain ⟨x, hx⟩ : ∃ x, x = lab a := ⟨_, rfl⟩
  rw [← hx] at HA ⊢
  clear hx
  cases x with
  | true =>
    go_enter Tryd.func25, Tryd.ntmps25
    go_wp2_with fail
    refine (HA.out _).mono ?_
    rintro e w1 ⟨rfl, rfl⟩
    go_wp2_with fail
    refine (HB.out _).mono ?_
    rintro e w1 ⟨rfl, rfl⟩
    go_wp2
    go_ret
    exact ⟨ret_bool (by simp), hb _⟩
  | false =>
    go_enter Tryd.func25, Tryd.ntmps25
    go_wp2_with fail
    refine (HA.out _).mono ?_
    rintro e w1 ⟨rfl, rfl⟩
    go_wp2
    go_ret
    exact ⟨ret_bool (by simp), hb _⟩


end Go.Proofs.YtnlhdeffoalhiaaDoor
