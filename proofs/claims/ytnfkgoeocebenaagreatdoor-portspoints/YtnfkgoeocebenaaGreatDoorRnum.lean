/-
  The walks of the document's figure and number.
-/
import Derived.Test.YtnfkgoeocebenaaGreatDoorEnv
namespace Go.Proofs.YtnfkgoeocebenaaGreatDoor
open Go.RowKit

/-- A figure's number; -1: it is none. -/
def figI (c : UInt8) : Int := if fig c < 99 then (fig c : Int) else -1

set_option maxHeartbeats 1000000 in
theorem figure_any (c : UInt8) (w : World) : Calls Tryz.prog 137 #[.int .u8 (c.toNat : Int)] w fun e w' => e = .returned (.int .i64 (figI c)) ∧ w = w' := by
  have h8 : c.toNat < 256 := c.toNat_lt
  have hf : figI c = if 48 ≤ c.toNat ∧ c.toNat ≤ 57 then (c.toNat : Int) - 48 else if 97 ≤ c.toNat ∧ c.toNat ≤ 102 then (c.toNat : Int) - 97 + 10 else if 65 ≤ c.toNat ∧ c.toNat ≤ 70 then (c.toNat : Int) - 65 + 10 else -1 := by
    unfold figI fig
    split
    · rw [if_pos (by omega)]; omega
    · split
      · rw [if_pos (by omega)]; omega
      · split
        · rw [if_pos (by omega)]; omega
        · rfl
  have HF := Lib.hid hf
  clear hf
  obtain ⟨n, hn⟩ : ∃ n, n = c.toNat := ⟨_, rfl⟩
  rw [← hn] at HF h8 ⊢
  clear hn
  have ea : IntKind.i64.wrap (n : Int) = (n : Int) := by simp only [IntKind.wrap, IntKind.signed, IntKind.bits]; simp; omega
  have eb : IntKind.i64.wrap ((n : Int) - 48) = (n : Int) - 48 := by simp only [IntKind.wrap, IntKind.signed, IntKind.bits]; simp; omega
  have ec : IntKind.i64.wrap ((n : Int) - 97) = (n : Int) - 97 := by simp only [IntKind.wrap, IntKind.signed, IntKind.bits]; simp; omega
  have ed : IntKind.i64.wrap ((n : Int) - 65) = (n : Int) - 65 := by simp only [IntKind.wrap, IntKind.signed, IntKind.bits]; simp; omega
  have ee : IntKind.i64.wrap ((n : Int) - 97 + 10) = (n : Int) - 97 + 10 := by simp only [IntKind.wrap, IntKind.signed, IntKind.bits]; simp; omega
  have ef : IntKind.i64.wrap ((n : Int) - 65 + 10) = (n : Int) - 65 + 10 := by simp only [IntKind.wrap, IntKind.signed, IntKind.bits]; simp; omega
  by_cases h1 : 48 ≤ n
  · by_cases h2 : n ≤ 57
    · go_enter Tryz.func137, Tryz.ntmps137
      go_wp2
      go_ret
      refine ⟨ret_int ?_, rfl⟩
      rw [HF.out, if_pos ⟨h1, h2⟩]
    · by_cases h3 : 65 ≤ n
      · by_cases h4 : n ≤ 70
        · have h5 : ¬ 97 ≤ n := by omega
          go_enter Tryz.func137, Tryz.ntmps137
          go_wp2
          go_ret
          refine ⟨ret_int ?_, rfl⟩
          rw [HF.out, if_neg (by omega), if_neg (by omega), if_pos ⟨h3, h4⟩]
        · by_cases h5 : 97 ≤ n
          · by_cases h6 : n ≤ 102
            · go_enter Tryz.func137, Tryz.ntmps137
              go_wp2
              go_ret
              refine ⟨ret_int ?_, rfl⟩
              rw [HF.out, if_neg (by omega), if_pos (by omega)]
            · go_enter Tryz.func137, Tryz.ntmps137
              go_wp2
              go_ret
              refine ⟨ret_int ?_, rfl⟩
              rw [HF.out, if_neg (by omega), if_neg (by omega), if_neg (by omega)]
          · go_enter Tryz.func137, Tryz.ntmps137
            go_wp2
            go_ret
            refine ⟨ret_int ?_, rfl⟩
            rw [HF.out, if_neg (by omega), if_neg (by omega), if_neg (by omega)]
      · have h5 : ¬ 97 ≤ n := by omega
        go_enter Tryz.func137, Tryz.ntmps137
        go_wp2
        go_ret
        refine ⟨ret_int ?_, rfl⟩
        rw [HF.out, if_neg (by omega), if_neg (by omega), if_neg (by omega)]
  · have h3 : ¬ 65 ≤ n := by omega
    have h5 : ¬ 97 ≤ n := by omega
    go_enter Tryz.func137, Tryz.ntmps137
    go_wp2
    go_ret
    refine ⟨ret_int ?_, rfl⟩
    rw [HF.out, if_neg (by omega), if_neg (by omega), if_neg (by omega)]

/-- A number to a base, of so many figures at most; -1: it is none. -/
def numI (b m : Nat) (l : List UInt8) : Int := if 1 ≤ l.length ∧ l.length ≤ m ∧ figs b l = true then (numb b 0 l : Int) else -1

theorem list_at (s : ByteArray) (k : Nat) (h : k < s.size) : s.data.toList[k]? = some s[k] := by
  have h' : k < s.data.toList.length := by rw [← Lib.size_eq]; exact h
  rw [List.getElem?_eq_getElem h']
  rfl

theorem numb_small (b : Nat) (hb : b ≤ 16) (l : List UInt8) (h : figs b l = true) (h4 : l.length ≤ 4) : numb b 0 l < 65536 := by
  have := numb_lt b l h 0
  have h1 : b ^ l.length ≤ 16 ^ l.length := Nat.pow_le_pow_left hb _
  have h2 : (16 : Nat) ^ l.length ≤ 16 ^ 4 := Nat.pow_le_pow_right (by omega) h4
  simp at this
  omega

set_option maxRecDepth 100000 in
set_option maxHeartbeats 2000000 in
theorem number_any (s : ByteArray) (hs : s.size ≤ 1000) (b m : Nat) (hb2 : 2 ≤ b) (hb : b ≤ 16) (hm : m ≤ 4) (w : World) :
    Calls Tryz.prog 112 #[.string s, .int .i64 (b : Int), .int .i64 (m : Int)] w fun e w' => e = .returned (.int .i64 (numI b m s.data.toList)) ∧ w = w' := by
  have hls := Lib.size_eq s
  by_cases h1 : 1 ≤ s.size
  · by_cases h2 : s.size ≤ m
    · have HN : Hid (numI b m s.data.toList = if figs b s.data.toList = true then (numb b 0 s.data.toList : Int) else -1) := Lib.hid (by
        unfold numI
        by_cases h : figs b s.data.toList = true
        · rw [if_pos ⟨by omega, by omega, h⟩, if_pos h]
        · rw [if_neg (fun x => h x.2.2), if_neg h])
      have HL := Lib.hid hls
      have q1 : decide ((s.size : Int) < 1) = false := by simp; omega
      have q2 : decide ((s.size : Int) > (m : Int)) = false := by simp; omega
      have q3 : decide (m < s.size) = false := by simp; omega
      clear hls
      go_enter Tryz.func112, Tryz.ntmps112
      go_wp2
      go_loopw [7, 8] (fun n i wr => wr = w ∧ ∃ k : Nat, k ≤ s.size ∧ i = .int .i64 k ∧ ∃ v : Nat, n = .int .i64 v ∧ Hid (figs b (s.data.toList.take k) = true ∧ v = numb b 0 (s.data.toList.take k))) (fun _ i _ => s.size - (intOf i).toNat)
      case atStart => exact ⟨rfl, 0, by omega, rfl, 0, rfl, rfl, rfl⟩
      case round =>
        obtain ⟨rfl, k, hk, rfl, v, rfl, hh⟩ := hrel
        by_cases hlt : k < s.size
        · have hat := list_at s k hlt
          have htk : s.data.toList.take (k + 1) = s.data.toList.take k ++ [s[k]] := by rw [List.take_add_one, hat]; rfl
          have HC : Hid (∀ w, Calls Tryz.prog 137 #[.int .u8 (s[k].toNat : Int)] w fun e w' => e = .returned (.int .i64 (figI s[k])) ∧ w = w') := Lib.hid fun w => figure_any _ w
          have hfig : figI s[k] = if fig s[k] < 99 then (fig s[k] : Int) else -1 := rfl
          have hv : v < 65536 := by rw [hh.out.2]; exact numb_small b hb _ hh.out.1 (by rw [List.length_take]; omega)
          have hvb : v * b ≤ 65536 * 16 := Nat.mul_le_mul (by omega) hb
          by_cases hf : fig s[k] < b
          · obtain ⟨f, hfe⟩ : ∃ f, f = fig s[k] := ⟨_, rfl⟩
            rw [if_pos (by omega), ← hfe] at hfig
            have hf16 : f < 16 := by omega
            have hfb : f < b := by omega
            have HX : Hid (figs b (s.data.toList.take (k + 1)) = true ∧ v * b + f = numb b 0 (s.data.toList.take (k + 1))) := Lib.hid (by
              rw [htk, numb_snoc, ← hh.out.2, hfe]
              refine ⟨?_, rfl⟩
              have := hh.out.1
              unfold figs at this ⊢
              rw [List.all_append, this]
              simpa using hf)
            rw [hfig] at HC
            obtain ⟨p, hp⟩ : ∃ p : Nat, p = v * b := ⟨_, rfl⟩
            rw [← hp] at HX hvb
            have e1 : IntKind.i64.wrap ((v : Int) * (b : Int)) = (p : Int) := by
              have : ((v : Int) * (b : Int)) = (p : Int) := by rw [hp]; simp
              rw [this]
              simp only [IntKind.wrap, IntKind.signed, IntKind.bits]; simp; omega
            have e2 : IntKind.i64.wrap ((p : Int) + (f : Int)) = ((p + f : Nat) : Int) := by simp only [IntKind.wrap, IntKind.signed, IntKind.bits]; simp; omega
            clear hfig hat htk hh hf hfe hp
            go_wp2_with fail
            refine (HC.out _).mono ?_
            rintro e w1 ⟨rfl, rfl⟩
            go_wp2
            go_roundw
            case rel => exact ⟨trivial, k + 1, by omega, by go_num, p + f, by first | rfl | go_num, HX.out⟩
            case measure => simp [intOf]; omega
          · have HX : Hid (figs b s.data.toList ≠ true) := Lib.hid (by
              intro h
              have := List.all_eq_true.1 h s[k] (List.mem_of_getElem? hat)
              simp at this
              omega)
            obtain ⟨f, hfe⟩ : ∃ f, f = figI s[k] := ⟨_, rfl⟩
            have hor : f < 0 ∨ (0 ≤ f ∧ (b : Int) ≤ f) := by
              rw [hfe, hfig]
              split
              · right; omega
              · left; omega
            rw [← hfe] at HC
            clear hfig hat htk hh hf hfe
            rcases hor with h0 | ⟨h0, h0'⟩
            all_goals
              go_wp2_with fail
              refine (HC.out _).mono ?_
              rintro e w1 ⟨rfl, rfl⟩
              go_wp2
              go_ret
              refine ⟨ret_int ?_, rfl⟩
              rw [HN.out, if_neg HX.out]
        · obtain rfl : k = s.size := by omega
          have HX : Hid (numI b m s.data.toList = (v : Int)) := Lib.hid (by
            have h := hh.out
            rw [List.take_of_length_le (by rw [← HL.out]; omega)] at h
            rw [HN.out, if_pos h.1, h.2])
          clear hh
          go_wp2
          go_ret
          exact ⟨ret_int HX.out.symm, rfl⟩
    · have HN : Hid (numI b m s.data.toList = -1) := Lib.hid (by unfold numI; rw [if_neg (by omega)])
      clear hls
      go_enter Tryz.func112, Tryz.ntmps112
      go_wp2
      go_ret
      exact ⟨ret_int HN.out.symm, rfl⟩
  · have HN : Hid (numI b m s.data.toList = -1) := Lib.hid (by unfold numI; rw [if_neg (by omega)])
    clear hls
    go_enter Tryz.func112, Tryz.ntmps112
    go_wp2
    go_ret
    exact ⟨ret_int HN.out.symm, rfl⟩
end Go.Proofs.YtnfkgoeocebenaaGreatDoor
