/-
  The walk of strconv's formatBits at the base 16, and what stands above it.
-/
import Derived.Test.YtijboclcbbnhbaaGreatDoorHexo
namespace Go.Proofs.YtijboclcbbnhbaaGreatDoor
open Go.RowKit

set_option maxHeartbeats 1000000 in
theorem pow2_16 (w : World) : Calls Tryz.prog 120 #[.int .i64 16] w fun e w' => e = .returned (.bool true) ∧ w = w' := by
  have hz : (bits .and .i64 16 15 == 0) = true := by decide +kernel
  go_enter Tryz.func120, Tryz.ntmps120
  go_wp2
  go_ret
  exact ⟨rfl, rfl⟩

theorem pow16 (k : Nat) (n : Nat) : n / 16 ^ (k + 1) = n / 16 ^ k / 16 := by rw [Nat.pow_succ, ← Nat.div_div_eq_div_mul]

theorem nd_of (n k : Nat) (h1 : n / 16 ^ k < 16) (h2 : k = 0 ∨ 16 ^ k ≤ n) (hk : k ≤ 3) : nd n = k + 1 := by
  have : k = 0 ∨ k = 1 ∨ k = 2 ∨ k = 3 := by omega
  unfold nd
  rcases this with rfl | rfl | rfl | rfl
  · rw [if_pos (by simpa using h1)]
  · have : 16 ≤ n := by rcases h2 with h | h <;> omega
    rw [if_neg (by omega), if_pos (by omega)]
  · have : 256 ≤ n := by rcases h2 with h | h <;> omega
    rw [if_neg (by omega), if_neg (by omega), if_pos (by omega)]
  · have : 4096 ≤ n := by rcases h2 with h | h <;> omega
    rw [if_neg (by omega), if_neg (by omega), if_neg (by omega)]

/-- What formatBits hands back. -/
def BitsEnd (n : Nat) (w : World) (e : Ending) (w' : World) : Prop := e = .returned (.tuple #[.slice none 0 0, .string ⟨(hexs n).toArray⟩]) ∧ Below w.heap.size w w'

set_option maxRecDepth 100000 in
set_option maxHeartbeats 4000000 in
theorem bits16 (n : Nat) (hn : n < 65536) (E : Value) (w : World) (hE : Env E w) :
    Calls Tryz.prog 103 #[.slice none 0 0, .int .u64 (n : Int), .int .i64 16, .bool false, .bool false] w (BitsEnd n w) := by
  obtain ⟨hz, -⟩ := zero_of_info Tryz.info65
  obtain ⟨W0, hW0⟩ : ∃ W, W = w.alloc (.cells (arr .u8 (brow 0 0)) 149) := ⟨_, rfl⟩
  have hB0 : Blk W0 w.heap.size 149 (arr .u8 (brow n 0)) := hW0 ▸ Blk.new w _ _
  have hb0 : Below w.heap.size w W0 := hW0 ▸ (Below.refl _ _).alloc (Nat.le_refl _) _
  have HW0 := Lib.hid hW0.symm
  have HB0 := Lib.hid hB0
  have HE := Lib.hid (hE.kept hb0)
  clear hW0 hB0 hE
  go_enter Tryz.func103, Tryz.ntmps103
  go_wp2_with fail
  rw [HW0.out]
  refine (pow2_16 _).mono ?_
  rintro e w1 ⟨rfl, rfl⟩
  go_wp2_with fail
  refine (tz16 E _ HE.out).mono ?_
  rintro e w1 ⟨rfl, rfl⟩
  go_wp2_with fail
  clear hz HW0
  go_loopw [1, 13] (fun u i wr => ∃ (k j : Nat), j + k = 64 ∧ k ≤ 3 ∧ i = .int .i64 ((j : Int) + 1) ∧ u = .int .u64 ((n / 16 ^ k : Nat) : Int) ∧ Hid ((k = 0 ∨ 16 ^ k ≤ n) ∧ Blk wr w.heap.size 149 (arr .u8 (brow n k)) ∧ Below w.heap.size w wr)) (fun _ i _ => (intOf i).toNat)
  case atStart => exact ⟨0, 64, rfl, by omega, rfl, by simp, .inl rfl, HB0.out, hb0⟩
  case round =>
    obtain ⟨k, j, hjk, hk, rfl, rfl, hh⟩ := hrel
    clear HB0
    obtain ⟨u, hu⟩ : ∃ u, u = n / 16 ^ k := ⟨_, rfl⟩
    rw [← hu]
    have hun : u ≤ n := by rw [hu]; exact Nat.div_le_self _ _
    have ha := and15 u (by omega)
    obtain ⟨hor, hR, hb⟩ := hh.out
    have hc : wr.cell? ⟨w.heap.size, j, none⟩ = some (.int .u8 (nth (brow n k) j)) := by rw [hR.cell, arr_at _ _ _ (by rw [brow_length _ _ (by omega)]; omega)]
    have hf := hR.frozen j
    have HR := Lib.hid hR
    have Hb := Lib.hid hb
    have HOr := Lib.hid hor
    have HU := Lib.hid hu
    clear hR hb hor hu hh
    by_cases h16 : 16 ≤ u
    · obtain ⟨d, hd0⟩ : ∃ d : Int, d = ((dg (u % 16)).toNat : Int) := ⟨_, rfl⟩
      have hd := run_fig (u % 16) (Nat.mod_lt _ (by omega)) ((u : Int) % 16) d (by omega) hd0
      have HD := Lib.hid hd0
      clear hd0
      have hk2 : k + 1 ≤ 3 := by
        have h3 : n / 16 ^ k ≥ 16 := by rw [← HU.out]; exact h16
        rcases Nat.lt_or_ge k 3 with h | h
        · omega
        · obtain rfl : k = 3 := by omega
          omega
      have hge : 16 ^ (k + 1) ≤ n := by
        have h3 : 16 ≤ n / 16 ^ k := by rw [← HU.out]; exact h16
        rw [Nat.pow_succ, Nat.mul_comm]
        exact (Nat.le_div_iff_mul_le (Nat.pow_pos (by omega))).1 h3
      have HGe := Lib.hid hge
      clear hge
      have hj0 : (0 : Int) ≤ (j : Int) := by omega
      have hj65 : (j : Int) < 65 := by omega
      go_wp2
      go_roundw
      case rel =>
        have e1 : ((u : Int) / 16) = ((n / 16 ^ (k + 1) : Nat) : Int) := by rw [pow16, ← HU.out]; omega
        rw [e1]
        obtain ⟨j', rfl⟩ : ∃ j', j = j' + 1 := ⟨j - 1, by omega⟩
        refine ⟨k + 1, j', by omega, hk2, by go_num, rfl, .inr HGe.out, ?_, Hb.out.setCell (Nat.le_refl _) _⟩
        have := HR.out.set (j' + 1) (.int .u8 ((dg (u % 16)).toNat : Int))
        rw [arr_set, HU.out, show j' + 1 = 64 - k by omega, brow_set _ _ (by omega)] at this
        rw [HD.out, HU.out, show j' + 1 = 64 - k by omega]
        exact this
      case measure => simp [intOf]
    · have hu16 : u < 16 := by omega
      obtain ⟨d, hd0⟩ : ∃ d : Int, d = ((dg u).toNat : Int) := ⟨_, rfl⟩
      have hd := run_fig u hu16 (u : Int) d rfl hd0
      have hsl := run_from65 w.heap.size j (by omega)
      have hnd : nd n = k + 1 := nd_of n k (by rw [← HU.out]; exact hu16) HOr.out hk
      have hset := HR.out.set j (.int .u8 d)
      rw [arr_set, hd0, show (dg u) = dg (n / 16 ^ k % 16) by rw [← HU.out, Nat.mod_eq_of_lt hu16], show j = 64 - k by omega, brow_set _ _ (by omega)] at hset
      rw [show 64 - k = j by omega, show (dg (n / 16 ^ k % 16)) = dg u by rw [← HU.out, Nat.mod_eq_of_lt hu16], ← hd0] at hset
      have hcv := run_convert_bytes_arg (P := Tryz.prog) (wr.setCell ⟨w.heap.size, j, none⟩ (.int .u8 d)) 84 5 Tryz.underlying84 Tryz.underlying5 w.heap.size j (65 - j) (65 - j) (nums (hlow n (k + 1))) (by rw [nums_length, hlow_length]; omega) (fun i hi => by
        have h1 : i < (nums (hlow n (k + 1))).length := by rw [nums_length, hlow_length]; omega
        have h2 : j = 65 - (k + 1) := by omega
        rw [hset.cell, h2]
        simp only [arr, List.getElem?_toArray, List.getElem?_map, brow_at]
        rw [List.getElem?_eq_getElem h1]
        simp [List.getElem?_eq_getElem h1]) 9 Tryz.underlying9
      have hst : strOfNums (nums (hlow n (k + 1))) = ⟨(hexs n).toArray⟩ := by rw [strOfNums_nums, hexs, hnd]
      rw [hst] at hcv
      clear hst hset hnd hd0
      have hj0 : (0 : Int) ≤ (j : Int) := by omega
      have hj65 : (j : Int) < 65 := by omega
      go_wp2
      go_ret2
      exact ⟨rfl, Hb.out.setCell (Nat.le_refl _) _⟩

set_option maxHeartbeats 1000000 in
theorem format16 (n : Nat) (hn : n < 65536) (E : Value) (w : World) (hE : Env E w) :
    Calls Tryz.prog 97 #[.int .u64 (n : Int), .int .i64 16] w fun e w' => e = .returned (.string ⟨(hexs n).toArray⟩) ∧ Below w.heap.size w w' := by
  have HI : Hid (∀ w, Env E w → Calls Tryz.prog 115 #[.int .u64 (n : Int), .int .i64 16] w fun e w' => e = .returned (.string ⟨(hexs n).toArray⟩) ∧ Below w.heap.size w w') := Lib.hid fun w hE => by
    have HB := Lib.hid (bits16 n hn E w hE)
    clear hE
    go_enter Tryz.func115, Tryz.ntmps115
    go_wp2_with fail
    refine HB.out.mono ?_
    rintro e w1 ⟨rfl, hb⟩
    go_wp2
    go_ret
    exact ⟨rfl, hb⟩
  have HE := Lib.hid hE
  clear hE
  go_enter Tryz.func97, Tryz.ntmps97
  go_wp2_with fail
  refine (HI.out w HE.out).mono ?_
  rintro e w1 ⟨rfl, hb⟩
  go_wp2
  go_ret
  exact ⟨rfl, hb⟩
end Go.Proofs.YtijboclcbbnhbaaGreatDoor
