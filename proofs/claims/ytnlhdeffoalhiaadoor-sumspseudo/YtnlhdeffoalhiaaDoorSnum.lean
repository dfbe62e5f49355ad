/-
  octets.Num where it succeeds; sums.low.
-/
import Derived.Test.YtnlhdeffoalhiaaDoorSadr
import Derived.Test.YtnlhdeffoalhiaaDoorSpure
import Derived.WalkKit
namespace Go.Proofs.YtnlhdeffoalhiaaDoor
open Go.RowKit

theorem Tryd.infoByteN : (Tryd.prog.info? 5).map (fun i => (i.zero, i.size, i.bytes)) = some (some (.int .u8 0), 1, 1) := by kernel_rfl

/-- The last k bytes of n, the high one first. -/
def be (n : Nat) : Nat → List Int
  | 0 => []
  | k + 1 => ((n / 256 ^ k % 256 : Nat) : Int) :: be n k

theorem be_length (n : Nat) : ∀ k, (be n k).length = k
  | 0 => rfl
  | k + 1 => by simp [be, be_length n k]

theorem be_bounds (n : Nat) : ∀ k, ∀ x ∈ be n k, 0 ≤ x ∧ x ≤ 255
  | 0, x, h => by cases h
  | k + 1, x, h => by
    simp only [be, List.mem_cons] at h
    rcases h with rfl | h
    · omega
    · exact be_bounds n k x h

/-- What a row of s bytes holds when k bytes of n stand at its end. -/
def row (n s k : Nat) : List Int := List.replicate (s - k) 0 ++ be n k

theorem row_zero (n s : Nat) : row n s 0 = List.replicate s 0 := by simp [row, be]
theorem row_full (n s : Nat) : row n s s = be n s := by simp [row]
theorem row_length (n s k : Nat) (h : k ≤ s) : (row n s k).length = s := by simp [row, be_length]; omega

theorem row_set (n s k : Nat) (h : k < s) : (row n s k).set (s - 1 - k) ((n / 256 ^ k % 256 : Nat) : Int) = row n s (k + 1) := by
  unfold row
  obtain ⟨m, hm⟩ : ∃ m, s - k = m + 1 := ⟨s - k - 1, by omega⟩
  rw [hm, show s - 1 - k = m by omega, show s - (k + 1) = m by omega, List.replicate_succ', List.append_assoc, List.set_append_right _ _ (by simp)]
  simp [be]

theorem rows_set (n s k : Nat) (h : k < s) : ((row n s k).map (Value.int .u8)).set (s - 1 - k) (.int .u8 ((n / 256 ^ k % 256 : Nat) : Int)) = (row n s (k + 1)).map (Value.int .u8) := by
  rw [← row_set n s k h, List.map_set]

theorem pow256 (k : Nat) : (2 : Nat) ^ (8 * k) = 256 ^ k := by rw [Nat.pow_mul]

/-- A shift to the right by 8 k bits is a division by 256 ^ k. -/
theorem shr8 (n k : Nat) : ((n : Int) / 2 ^ (8 * k)) = ((n / 256 ^ k : Nat) : Int) := by
  have : ((2 : Int) ^ (8 * k)) = ((256 ^ k : Nat) : Int) := by rw [← pow256]; simp
  rw [this]
  simp

theorem shr8m (n k : Nat) : ((n : Int) / 2 ^ (8 * k) % 256) = ((n / 256 ^ k % 256 : Nat) : Int) := by rw [shr8]; simp
theorem shr8_ne (n k : Nat) (h : n / 256 ^ k ≠ 0) : ((n : Int) / 2 ^ (8 * k) != 0) = true := by rw [shr8, bne_iff_ne]; omega
theorem shr8_eq (n k : Nat) (h : n / 256 ^ k = 0) : ((n : Int) / 2 ^ (8 * k) != 0) = false := by rw [shr8, h]; rfl

set_option maxHeartbeats 400000 in
theorem octNum_good (n s : Nat) (w : World) (h1 : 1 ≤ s) (h2 : s ≤ 8) (h3 : n ≤ 4611686018427387904) (h : n / 256 ^ s = 0) :
    Calls Tryd.prog 34 #[.int .i64 n, .int .i64 s] w fun e w' => e = .returned (.tuple #[.slice (some ⟨w.heap.size, 0, none⟩) s s, .nilIface]) ∧
      w'.ownsRow w.heap.size 5 1 (.slice (some ⟨w.heap.size, 0, none⟩) s s) s ((be n s).map (Value.int .u8)) ∧ Below w.heap.size w w' := by
  have e2 := shr8_eq n s h
  have d1 : decide ((s : Int) < 1) = false := by simp; omega
  have d2 : decide ((8 : Int) < (s : Int)) = false := by simp; omega
  have d3 : decide ((n : Int) < 0) = false := by simp
  have d4 : decide ((4611686018427387904 : Int) < (n : Int)) = false := by simp; omega
  clear h
  obtain ⟨i0, hi, hz0, hz1, hz2⟩ := info_parts Tryd.infoByteN
  have hz3 := Lib.hid hz2
  go_enter Tryd.func34, Tryd.ntmps34
  go_wp2_with (first | (refine wpList_make_full _ rfl (.tmp 30) (.tmp 30) 33 rfl w.heap.size 5 i0 (.int .u8 0) 1 Tryd.underlying33 hi hz0 hz1 .i64 .i64 s s s rfl rfl rfl rfl ?c1 ?c2 (Nat.le_refl _) ?_; rotate_right; intro w1 hown hgrow) | fail)
  case c1 => rw [hz3.out]; omega
  case c2 => unfold maxLen; omega
  clear hz3 hz2 hz1 hz0
  have hb0 : Below w.heap.size w w1 := (Below.refl _ _).grown hgrow (Nat.le_refl _) (fun k hk => by cases hk)
  have hown0 : w1.ownsRow w.heap.size 5 1 (.slice (some ⟨w.heap.size, 0, none⟩) s s) s ((row n s 0).map (Value.int .u8)) := by
    rw [row_zero, List.map_replicate]
    simpa [toList_madeCells_one, Value.cells] using hown
  clear hown hgrow e2 d1 d2 d3 d4
  go_loopw [34] (fun i wr => ∃ k : Nat, k ≤ s ∧ i = .int .i64 k ∧ wr.ownsRow w.heap.size 5 1 (.slice (some ⟨w.heap.size, 0, none⟩) s s) s ((row n s k).map (Value.int .u8)) ∧ Below w.heap.size w wr) (fun i _ => s - (intOf i).toNat)
  case atStart => exact ⟨0, Nat.zero_le _, rfl, hown0, hb0⟩
  case round =>
    obtain ⟨k, hk, rfl, ho, hb⟩ := hrel
    clear hown0 hb0
    by_cases hlt : k < s
    · have hcl := ho.cellAt (s - 1 - k) (by omega)
      have hfz := ho.frozenAt (s - 1 - k)
      have hst := ho.stored (s - 1 - k) (.int .u8 ((n / 256 ^ k % 256 : Nat) : Int))
      rw [rows_set n s k hlt] at hst
      have HS := Lib.hid hst
      clear hst
      obtain ⟨v0, hv0⟩ : ∃ v0, ((row n s k).map (Value.int .u8))[s - 1 - k]? = some v0 := ⟨_, List.getElem?_eq_getElem (by rw [List.length_map, row_length n s k hk]; omega)⟩
      rw [hv0] at hcl
      clear hv0
      go_wp2
      go_roundw
      case rel =>
        rw [shr8m]
        exact ⟨k + 1, by omega, by go_num, HS.out.1, hb.setCell (Nat.le_refl _) _⟩
      case measure => simp [intOf]; omega
    · obtain rfl : k = s := by omega
      go_wp2
      go_ret2
      rw [row_full] at ho
      exact ⟨rfl, ho, hb⟩


theorem and32 (x : Int) : bits .and .i64 x 4294967295 = x % 4294967296 := by
  unfold bits
  have h : (BitVec.ofInt IntKind.i64.bits x &&& BitVec.ofInt IntKind.i64.bits 4294967295).toNat = (x % 4294967296).toNat := by
    rw [BitVec.toNat_and, BitVec.toNat_ofInt, BitVec.toNat_ofInt]
    show ((x % ((2 ^ 64 : Nat) : Int)).toNat &&& ((4294967295 : Int) % ((2 ^ 64 : Nat) : Int)).toNat) = _
    rw [show ((4294967295 : Int) % ((2 ^ 64 : Nat) : Int)).toNat = 2 ^ 32 - 1 by decide, Nat.and_two_pow_sub_one_eq_mod]
    omega
  show IntKind.i64.wrap ((BitVec.ofInt IntKind.i64.bits x &&& BitVec.ofInt IntKind.i64.bits 4294967295).toNat : Int) = _
  rw [h, Go.IntWalk.i64_in _ (by omega)]
  omega

/-- What sums.low answers: the last s bytes of n. -/
def LowEnd (m s : Nat) (w : World) (e : Ending) (w' : World) : Prop := e = .returned (.slice (some ⟨w.heap.size, 0, none⟩) s s) ∧
  w'.ownsRow w.heap.size 5 1 (.slice (some ⟨w.heap.size, 0, none⟩) s s) s ((be m s).map (Value.int .u8)) ∧ Below w.heap.size w w'

section
attribute [local go_sem] and16 and32
set_option maxHeartbeats 1000000 in
theorem low4_any (n : Int) (w : World) : Calls Tryd.prog 22 #[.int .i64 n, .int .i64 4] w (LowEnd (n % 4294967296).toNat 4 w) := by
  obtain ⟨m, hm⟩ : ∃ m : Nat, (m : Int) = n % 4294967296 := ⟨(n % 4294967296).toNat, by omega⟩
  rw [← hm, Int.toNat_natCast]
  have HO := Lib.hid (octNum_good m 4 w (by omega) (by omega) (by omega) (by omega))
  have HM := Lib.hid hm.symm
  clear hm
  go_enter Tryd.func22, Tryd.ntmps22
  go_wp2_with fail
  rw [HM.out]
  refine HO.out.mono ?_
  rintro e w1 ⟨rfl, ho, hb⟩
  have F : Hid (LowEnd m 4 w (.returned (.slice (some ⟨w.heap.size, 0, none⟩) 4 4)) w1) := Lib.hid ⟨rfl, ho, hb⟩
  clear ho hb
  go_wp2
  go_ret
  exact F.out
set_option maxHeartbeats 1000000 in
theorem low2_any (n : Int) (w : World) : Calls Tryd.prog 22 #[.int .i64 n, .int .i64 2] w (LowEnd (n % 65536).toNat 2 w) := by
  obtain ⟨m, hm⟩ : ∃ m : Nat, (m : Int) = n % 65536 := ⟨(n % 65536).toNat, by omega⟩
  rw [← hm, Int.toNat_natCast]
  have HO := Lib.hid (octNum_good m 2 w (by omega) (by omega) (by omega) (by omega))
  have HM := Lib.hid hm.symm
  clear hm
  go_enter Tryd.func22, Tryd.ntmps22
  go_wp2_with fail
  rw [HM.out]
  refine HO.out.mono ?_
  rintro e w1 ⟨rfl, ho, hb⟩
  have F : Hid (LowEnd m 2 w (.returned (.slice (some ⟨w.heap.size, 0, none⟩) 2 2)) w1) := Lib.hid ⟨rfl, ho, hb⟩
  clear ho hb
  go_wp2
  go_ret
  exact F.out
end
end Go.Proofs.YtnlhdeffoalhiaaDoor
