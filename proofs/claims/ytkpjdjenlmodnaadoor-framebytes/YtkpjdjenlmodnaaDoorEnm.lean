/-
  octets.Num where it succeeds; bytes.Equal; frame.Same.
-/
import Derived.Test.YtkpjdjenlmodnaaDoorErc
import Derived.WalkKit
namespace Go.Proofs.YtkpjdjenlmodnaaDoor
open Go.RowKit Go.Lib

/-- The last k bytes of n, the high one first. -/
def be (n : Nat) : Nat → List Int
  | 0 => []
  | k + 1 => ((n / 256 ^ k % 256 : Nat) : Int) :: be n k

theorem be_length (n : Nat) : ∀ k, (be n k).length = k
  | 0 => rfl
  | k + 1 => by simp [be, be_length n k]

theorem be_bounds (n : Nat) : ∀ k, ∀ x ∈ be n k, 0 ≤ x ∧ x ≤ 255
  | 0, x, h => by cases h
  | k + 1, x, h => by
    simp only [be, List.mem_cons] at h
    rcases h with rfl | h
    · omega
    · exact be_bounds n k x h

/-- What a row of s bytes holds when k bytes of n stand at its end. -/
def row (n s k : Nat) : List Int := List.replicate (s - k) 0 ++ be n k

theorem row_zero (n s : Nat) : row n s 0 = List.replicate s 0 := by simp [row, be]
theorem row_full (n s : Nat) : row n s s = be n s := by simp [row]
theorem row_length (n s k : Nat) (h : k ≤ s) : (row n s k).length = s := by simp [row, be_length]; omega

theorem row_set (n s k : Nat) (h : k < s) : (row n s k).set (s - 1 - k) ((n / 256 ^ k % 256 : Nat) : Int) = row n s (k + 1) := by
  unfold row
  obtain ⟨m, hm⟩ : ∃ m, s - k = m + 1 := ⟨s - k - 1, by omega⟩
  rw [hm, show s - 1 - k = m by omega, show s - (k + 1) = m by omega, List.replicate_succ', List.append_assoc, List.set_append_right _ _ (by simp)]
  simp [be]

theorem rows_set (n s k : Nat) (h : k < s) : ((row n s k).map (Value.int .u8)).set (s - 1 - k) (.int .u8 ((n / 256 ^ k % 256 : Nat) : Int)) = (row n s (k + 1)).map (Value.int .u8) := by
  rw [← row_set n s k h, List.map_set]

theorem pow256 (k : Nat) : (2 : Nat) ^ (8 * k) = 256 ^ k := by rw [Nat.pow_mul]

/-- A shift to the right by 8 k bits is a division by 256 ^ k. -/
theorem shr8 (n k : Nat) : ((n : Int) / 2 ^ (8 * k)) = ((n / 256 ^ k : Nat) : Int) := by
  have : ((2 : Int) ^ (8 * k)) = ((256 ^ k : Nat) : Int) := by rw [← pow256]; simp
  rw [this]
  simp

theorem shr8m (n k : Nat) : ((n : Int) / 2 ^ (8 * k) % 256) = ((n / 256 ^ k % 256 : Nat) : Int) := by rw [shr8]; simp
theorem shr8_ne (n k : Nat) (h : n / 256 ^ k ≠ 0) : ((n : Int) / 2 ^ (8 * k) != 0) = true := by rw [shr8, bne_iff_ne]; omega
theorem shr8_eq (n k : Nat) (h : n / 256 ^ k = 0) : ((n : Int) / 2 ^ (8 * k) != 0) = false := by rw [shr8, h]; rfl

set_option maxHeartbeats 400000 in
theorem octNum_good (n s : Nat) (w : World) (h1 : 1 ≤ s) (h2 : s ≤ 8) (h3 : n ≤ 4611686018427387904) (h : n / 256 ^ s = 0) :
    Calls Tryd.prog 25 #[.int .i64 n, .int .i64 s] w fun e w' => e = .returned (.tuple #[.slice (some ⟨w.heap.size, 0, none⟩) s s, .nilIface]) ∧
      w'.ownsRow w.heap.size 5 1 (.slice (some ⟨w.heap.size, 0, none⟩) s s) s ((be n s).map (Value.int .u8)) ∧ Below w.heap.size w w' := by
  have e2 := shr8_eq n s h
  have d1 : decide ((s : Int) < 1) = false := by simp; omega
  have d2 : decide ((8 : Int) < (s : Int)) = false := by simp; omega
  have d3 : decide ((n : Int) < 0) = false := by simp
  have d4 : decide ((4611686018427387904 : Int) < (n : Int)) = false := by simp; omega
  clear h
  obtain ⟨i0, hi, hz0, hz1, hz2⟩ := info_parts Tryd.infoByteS
  have hz3 := Lib.hid hz2
  go_enter Tryd.func25, Tryd.ntmps25
  go_wp2_with (first | (refine wpList_make_full _ rfl (.tmp 30) (.tmp 30) 22 rfl w.heap.size 5 i0 (.int .u8 0) 1 Tryd.underlying22 hi hz0 hz1 .i64 .i64 s s s rfl rfl rfl rfl ?c1 ?c2 (Nat.le_refl _) ?_; rotate_right; intro w1 hown hgrow) | fail)
  case c1 => rw [hz3.out]; omega
  case c2 => unfold maxLen; omega
  clear hz3 hz2 hz1 hz0
  have hb0 : Below w.heap.size w w1 := (Below.refl _ _).grown hgrow (Nat.le_refl _) (fun k hk => by cases hk)
  have hown0 : w1.ownsRow w.heap.size 5 1 (.slice (some ⟨w.heap.size, 0, none⟩) s s) s ((row n s 0).map (Value.int .u8)) := by
    rw [row_zero, List.map_replicate]
    simpa [toList_madeCells_one, Value.cells] using hown
  clear hown hgrow e2 d1 d2 d3 d4
  go_loopw [34] (fun i wr => ∃ k : Nat, k ≤ s ∧ i = .int .i64 k ∧ wr.ownsRow w.heap.size 5 1 (.slice (some ⟨w.heap.size, 0, none⟩) s s) s ((row n s k).map (Value.int .u8)) ∧ Below w.heap.size w wr) (fun i _ => s - (intOf i).toNat)
  case atStart => exact ⟨0, Nat.zero_le _, rfl, hown0, hb0⟩
  case round =>
    obtain ⟨k, hk, rfl, ho, hb⟩ := hrel
    clear hown0 hb0
    by_cases hlt : k < s
    · have hcl := ho.cellAt (s - 1 - k) (by omega)
      have hfz := ho.frozenAt (s - 1 - k)
      have hst := ho.stored (s - 1 - k) (.int .u8 ((n / 256 ^ k % 256 : Nat) : Int))
      rw [rows_set n s k hlt] at hst
      have HS := Lib.hid hst
      clear hst
      obtain ⟨v0, hv0⟩ : ∃ v0, ((row n s k).map (Value.int .u8))[s - 1 - k]? = some v0 := ⟨_, List.getElem?_eq_getElem (by rw [List.length_map, row_length n s k hk]; omega)⟩
      rw [hv0] at hcl
      clear hv0
      go_wp2
      go_roundw
      case rel =>
        rw [shr8m]
        exact ⟨k + 1, by omega, by go_num, HS.out.1, hb.setCell (Nat.le_refl _) _⟩
      case measure => simp [intOf]; omega
    · obtain rfl : k = s := by omega
      go_wp2
      go_ret2
      rw [row_full] at ho
      exact ⟨rfl, ho, hb⟩



section
variable {w : World} {ad ad' : Option Addr} {cap cap' : Nat} {bs bs' : List Int}
set_option maxHeartbeats 1000000 in
theorem beq_any (hI : Bys w.heap.size w ad bs) (hI' : Bys w.heap.size w ad' bs') :
    Calls Tryd.prog 26 #[.slice ad bs.length cap, .slice ad' bs'.length cap'] w fun e w' => e = .returned (.bool ((strOfNums bs).toList == (strOfNums bs').toList)) ∧ w = w' := by
  have q1 := conv_bys hI cap
  have q2 := conv_bys hI' cap'
  clear hI hI'
  generalize strOfNums bs = S at *
  generalize strOfNums bs' = S' at *
  generalize bs.length = l at *
  generalize bs'.length = l' at *
  go_enter Tryd.func26, Tryd.ntmps26
  go_wp2
  go_ret
  exact ⟨rfl, rfl⟩

set_option maxRecDepth 100000 in
set_option maxHeartbeats 4000000 in
theorem fsame_any (k k' : Int) (hI : Bys w.heap.size w ad bs) (hI' : Bys w.heap.size w ad' bs') :
    Calls Tryd.prog 20 #[.agg #[.int .i64 k, .slice ad bs.length cap], .agg #[.int .i64 k', .slice ad' bs'.length cap']] w fun e w' => e = .returned (.bool (k == k' && (strOfNums bs).toList == (strOfNums bs').toList)) ∧ Below w.heap.size w w' := by
  obtain ⟨W0, hW0⟩ : ∃ W, W = w.alloc (.cells #[.int .i64 k, .slice ad bs.length cap] 46) := ⟨_, rfl⟩
  obtain ⟨W1, hW1⟩ : ∃ W, W = W0.alloc (.cells #[.int .i64 k', .slice ad' bs'.length cap'] 46) := ⟨_, rfl⟩
  have s0 : W0.heap.size = w.heap.size + 1 := by rw [hW0]; simp
  have b0 : Below w.heap.size w W0 := hW0 ▸ (Below.refl _ _).alloc (Nat.le_refl _) _
  have b1 : Below W0.heap.size W0 W1 := hW1 ▸ (Below.refl _ _).alloc (Nat.le_refl _) _
  have k0 : Blk W1 w.heap.size 46 #[.int .i64 k, .slice ad bs.length cap] := (hW0 ▸ Blk.new w _ _ : Blk W0 w.heap.size 46 _).kept b1
  have k1 : Blk W1 (w.heap.size + 1) 46 #[.int .i64 k', .slice ad' bs'.length cap'] := by rw [← s0]; exact (hW1 ▸ Blk.new W0 _ _ : Blk W1 W0.heap.size 46 _)
  have c0 := k0.cell 0
  have c1 := k0.cell 1
  have d0 := k1.cell 0
  have d1 := k1.cell 1
  simp only [List.getElem?_toArray, List.getElem?_cons_zero, List.getElem?_cons_succ] at c0 c1 d0 d1
  have HB : Hid (Below w.heap.size w W1) := hid (b0.trans (b1.mono (by omega)))
  have HQ : Hid (Calls Tryd.prog 26 #[.slice ad bs.length cap, .slice ad' bs'.length cap'] W1 fun e w' => e = .returned (.bool ((strOfNums bs).toList == (strOfNums bs').toList)) ∧ W1 = w') := hid (beq_any ((hI.below HB.out).mono HB.out.size) ((hI'.below HB.out).mono HB.out.size))
  have HW0 := hid hW0.symm
  have HW1 := hid hW1.symm
  clear hI hI' hW0 hW1 b0 b1 k0 k1 s0
  generalize ((strOfNums bs).toList == (strOfNums bs').toList) = q at *
  generalize bs.length = l at *
  generalize bs'.length = l' at *
  by_cases hk : k = k'
  · subst hk
    have e0 : (k == k) = true := by simp
    rw [e0]
    go_enter Tryd.func20, Tryd.ntmps20
    go_upto_region 1 with fail
    rw [HW0.out]
    rw [HW1.out]
    go_wp2_with fail
    refine HQ.out.mono ?_
    rintro e w2 ⟨rfl, rfl⟩
    go_wp2
    go_ret
    exact ⟨rfl, HB.out⟩
  · have e0 : (k == k') = false := by simp [hk]
    rw [e0]
    go_enter Tryd.func20, Tryd.ntmps20
    go_upto_region 1 with fail
    rw [HW0.out]
    rw [HW1.out]
    go_wp2
    go_ret
    exact ⟨rfl, HB.out⟩
end
end Go.Proofs.YtkpjdjenlmodnaaDoor
