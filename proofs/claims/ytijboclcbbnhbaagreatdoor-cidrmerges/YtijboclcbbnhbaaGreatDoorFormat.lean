/-
  The walk of addr.Format.
-/
import Derived.Test.YtijboclcbbnhbaaGreatDoorFsix
namespace Go.Proofs.YtijboclcbbnhbaaGreatDoor
open Go.RowKit

theorem below_grow' (w : World) (k : Nat) (os : Array Obj) : Below w.heap.size w (Sort.grow (w.drewN k) os) := by
  refine ⟨rfl, rfl, rfl, by simp [Sort.grow, World.drewN], fun i hi => ?_⟩
  simp only [Sort.grow]
  rw [Array.getElem?_append_left (by simpa using hi)]
  rfl

theorem dec_le (n : Nat) (h : n < 256) : (Lib.decDigits n).length ≤ 4 := by
  rw [Lib.decDigits_length]
  have : ∀ m : Fin 256, Lib.nDigits m.val ≤ 4 := by
    intro m
    have hm := m.isLt
    rw [Lib.nDigits]
    split
    · omega
    · rw [Lib.nDigits]
      split
      · omega
      · rw [Lib.nDigits]
        split
        · omega
        · omega
  exact this ⟨n, h⟩

def decb (n : Nat) : ByteArray := ⟨(Lib.decDigits n).toArray⟩
/-- The text of four bytes. -/
def text4 (B : List Nat) : List UInt8 := Lib.join ((B.take 4).map Lib.decDigits) [46]

theorem itoa_any (n : Nat) (h : n < 256) (E : Value) (w : World) (hE : Env E w) : Calls Tryz.prog 31 #[.int .i64 (n : Int)] w fun e w' => e = .returned (.string (decb n)) ∧ Below w.heap.size w w' := by
  refine (Tryz.strconv_Itoa (n : Int) (by omega) (by omega) w hE.pow).mono ?_
  rintro e w' ⟨rfl, k, os, rfl⟩
  exact ⟨by rw [show Lib.itoa (n : Int) = Lib.decDigits n by unfold Lib.itoa; rw [if_neg (by omega)]; simp]; rfl, below_grow' w k os⟩

set_option maxRecDepth 100000 in
set_option maxHeartbeats 4000000 in
theorem format_bad (b : List Int) (hl : b.length = 16) (hf : flat b = false) (w : World) : Calls Tryz.prog 30 #[.agg (adr false b)] w (TextEnd [] w) := by
  obtain ⟨W0, hW0⟩ : ∃ W, W = w.alloc (.cells (adr false b) 25) := ⟨_, rfl⟩
  have hB0 : Blk W0 w.heap.size 25 (adr false b) := hW0 ▸ Blk.new w _ _
  have hb0 : Below w.heap.size w W0 := hW0 ▸ (Below.refl _ _).alloc (Nat.le_refl _) _
  have HW0 := Lib.hid hW0.symm
  have HB0 := Lib.hid hB0
  have HL17 : Hid (17 = (adr false b).size) := Lib.hid (by rw [adr_size, hl])
  have HR : Hid (∀ w, Calls Tryz.prog 47 #[.agg (adr false b)] w fun e w' => e = .returned (.bool false) ∧ Below w.heap.size w w') := Lib.hid fun w => (right_four b hl w).mono fun e w' h => ⟨by rw [h.1, hf], h.2⟩
  clear hW0 hB0 hl hf
  go_enter Tryz.func30, Tryz.ntmps30
  go_wp2_with ((try rw [HW0.out]); refine wpl_load 25 _ rfl _ rfl _ _ _ HB0.out Tryz.underlying25 rfl 17 Tryz.infoAddr HL17.out rfl ?_)
  refine (HR.out W0).mono ?_
  rintro e w1 ⟨rfl, hb1⟩
  go_wp2
  go_ret
  exact ⟨rfl, bel2 hb0 hb1⟩

set_option maxRecDepth 100000 in
set_option maxHeartbeats 4000000 in
theorem format_six (B : List Nat) (hl : B.length = 16) (hB : ∀ x ∈ B, x < 256) (E : Value) (w : World) (hE : Env E w) : Calls Tryz.prog 30 #[.agg (adr true (ints B))] w (TextEnd (text6 (gr B)) w) := by
  obtain ⟨W0, hW0⟩ : ∃ W, W = w.alloc (.cells (adr true (ints B)) 25) := ⟨_, rfl⟩
  have hB0 : Blk W0 w.heap.size 25 (adr true (ints B)) := hW0 ▸ Blk.new w _ _
  have hb0 : Below w.heap.size w W0 := hW0 ▸ (Below.refl _ _).alloc (Nat.le_refl _) _
  have HW0 := Lib.hid hW0.symm
  have HB0 := Lib.hid hB0
  have HL17 : Hid (17 = (adr true (ints B)).size) := Lib.hid (by rw [adr_size, ints_length, hl])
  have hgl : ∀ n ∈ gr B, n < 65536 := by
    intro n hn
    simp only [gr, List.mem_map, List.mem_range] at hn
    obtain ⟨i, hi, rfl⟩ := hn
    have h1 : B.getD (2 * i) 0 < 256 := by apply hB; simp [List.getD, List.getElem?_eq_getElem (show 2 * i < B.length by omega)]
    have h2 : B.getD (2 * i + 1) 0 < 256 := by apply hB; simp [List.getD, List.getElem?_eq_getElem (show 2 * i + 1 < B.length by omega)]
    omega
  have HG := Lib.hid (grof_any true B hl hB)
  have HF := Lib.hid (fun w hE => fsix_any (gr B) (gr_length B) hgl E w hE)
  have HE := Lib.hid hE
  clear hW0 hB0 hl hB hgl hE
  go_enter Tryz.func30, Tryz.ntmps30
  go_wp2_with ((try rw [HW0.out]); refine wpl_load 25 _ rfl _ rfl _ _ _ HB0.out Tryz.underlying25 rfl 17 Tryz.infoAddr HL17.out rfl ?_)
  refine (right_six (ints B) W0).mono ?_
  rintro e w1 ⟨rfl, hb1⟩
  have HB1 := Lib.hid (HB0.out.kept hb1)
  have h0 : w1.cell? ⟨w.heap.size, 0, none⟩ = some (.bool true) := by rw [HB1.out.cell]; rfl
  go_wp2_with (refine wpl_load 25 _ rfl _ rfl _ _ _ HB1.out Tryz.underlying25 rfl 17 Tryz.infoAddr HL17.out rfl ?_)
  refine (HG.out w1).mono ?_
  rintro e w2 ⟨rfl, hb2⟩
  go_wp2_with fail
  refine (HF.out w2 (((HE.out.kept hb0).kept hb1).kept hb2)).mono ?_
  rintro e w3 ⟨rfl, hb3⟩
  go_wp2
  go_ret
  exact ⟨rfl, bel2 (bel2 (bel2 hb0 hb1) hb2) hb3⟩

set_option maxRecDepth 100000 in
set_option maxHeartbeats 4000000 in
theorem format_four (B : List Nat) (hl : B.length = 16) (hB : ∀ x ∈ B, x < 256) (hf : flat (ints B) = true) (E : Value) (w : World) (hE : Env E w) : Calls Tryz.prog 30 #[.agg (adr false (ints B))] w (TextEnd (text4 B) w) := by
  obtain ⟨W0, hW0⟩ : ∃ W, W = w.alloc (.cells (adr false (ints B)) 25) := ⟨_, rfl⟩
  have hB0 : Blk W0 w.heap.size 25 (adr false (ints B)) := hW0 ▸ Blk.new w _ _
  have hb0 : Below w.heap.size w W0 := hW0 ▸ (Below.refl _ _).alloc (Nat.le_refl _) _
  have HW0 := Lib.hid hW0.symm
  have HB0 := Lib.hid hB0
  have HL17 : Hid (17 = (adr false (ints B)).size) := Lib.hid (by rw [adr_size, ints_length, hl])
  have HR : Hid (∀ w, Calls Tryz.prog 47 #[.agg (adr false (ints B))] w fun e w' => e = .returned (.bool true) ∧ Below w.heap.size w w') := Lib.hid fun w => (right_four (ints B) (by rw [ints_length, hl]) w).mono fun e w' h => ⟨by rw [h.1, hf], h.2⟩
  obtain ⟨i0, hi, hz0, hz1, hz2⟩ := info_parts Tryz.infoStr
  have hz3 := Lib.hid hz2
  have HL := Lib.hid hl
  have HBd := Lib.hid hB
  have HE := Lib.hid hE
  clear hW0 hB0 hl hf hB hE
  go_enter Tryz.func30, Tryz.ntmps30
  go_wp2_with ((try rw [HW0.out]); refine wpl_load 25 _ rfl _ rfl _ _ _ HB0.out Tryz.underlying25 rfl 17 Tryz.infoAddr HL17.out rfl ?_)
  refine (HR.out W0).mono ?_
  rintro e w1 ⟨rfl, hb1⟩
  have HB1 := Lib.hid (HB0.out.kept hb1)
  have h0 : w1.cell? ⟨w.heap.size, 0, none⟩ = some (.bool false) := by rw [HB1.out.cell]; rfl
  go_wp2_with (first | (refine wpList_make_full _ rfl (.const (.int .i64 4)) (.const (.int .i64 4)) 76 rfl w1.heap.size 9 i0 (.string ByteArray.empty) 1 Tryz.underlying76 hi hz0 hz1 .i64 .i64 4 4 4 rfl rfl rfl rfl ?c1 ?c2 (Nat.le_refl _) ?_; rotate_right; intro w2 hown hgrow) | fail)
  case c1 => rw [hz3.out]; omega
  case c2 => decide
  clear hz3 hz2 hz1 hz0 h0
  have hb2 : Below w1.heap.size w1 w2 := (Below.refl _ _).grown hgrow (Nat.le_refl _) (fun k hk => by cases hk)
  have hR0 : Blk w2 w1.heap.size 9 (strs (srow [] 4)) := by
    have := own_blk hown
    simpa [strs, srow, Value.cells, toList_madeCells_one] using this
  have hlt1 : w.heap.size < w1.heap.size := HB1.out.lt
  have H2 : Hid (Blk w2 w1.heap.size 9 (strs (srow [] 4)) ∧ Blk w2 w.heap.size 25 (adr false (ints B)) ∧ Below w.heap.size w w2) := Lib.hid ⟨hR0, HB1.out.kept hb2, bel2 (bel2 hb0 hb1) hb2⟩
  clear hown hgrow hR0 hb2
  go_loopw [16] (fun i wr => ∃ k : Nat, k ≤ 4 ∧ i = .int .i64 k ∧ Hid (Blk wr w1.heap.size 9 (strs (srow ((B.take k).map decb) 4)) ∧ Blk wr w.heap.size 25 (adr false (ints B)) ∧ Below w.heap.size w wr)) (fun i _ => 4 - (intOf i).toNat)
  case atStart => exact ⟨0, Nat.zero_le _, rfl, H2.out⟩
  case round =>
    obtain ⟨k, hk, rfl, hh⟩ := hrel
    clear H2
    obtain ⟨hR, hB0, hb⟩ := hh.out
    have HR := Lib.hid hR
    have HB0 := Lib.hid hB0
    have Hb := Lib.hid hb
    clear hR hb hh hB0
    by_cases hlt : k < 4
    · obtain ⟨x, hx⟩ : ∃ x, x = B.getD k 0 := ⟨_, rfl⟩
      have hkn : k < B.length := by rw [HL.out]; omega
      have hx8 : x < 256 := by rw [hx]; apply HBd.out; simp [List.getD, List.getElem?_eq_getElem hkn]
      have hcell : wr.cell? ⟨w.heap.size, 1 + k, none⟩ = some (.int .u8 (x : Int)) := by
        rw [HB0.out.cell, adr_at _ _ _ (by rw [ints_length]; exact hkn), nth_ints, hx]
      have HX := Lib.hid hx
      clear hx hkn
      go_wp2_with fail
      refine (itoa_any x hx8 E wr (HE.out.kept Hb.out)).mono ?_
      rintro e w3 ⟨rfl, hb3⟩
      have hR2 := HR.out.kept hb3
      have hlen : ((B.take k).map decb).length = k := by rw [List.length_map, List.length_take, HL.out]; omega
      have hcl : w3.cell? ⟨w1.heap.size, k, none⟩ = some (.string ((srow ((B.take k).map decb) 4)[k]'(by rw [srow_length _ _ (by omega)]; exact hlt))) := by rw [hR2.cell, strs_at]
      have hfz := hR2.frozen k
      have HR2 := Lib.hid hR2
      generalize (srow ((B.take k).map decb) 4)[k]'(by rw [srow_length _ _ (by omega)]; exact hlt) = old at hcl
      have HLen := Lib.hid hlen
      clear hR2 hlen
      go_wp2
      go_roundw
      case rel =>
        refine ⟨k + 1, by omega, by go_num, ?_, (HB0.out.kept hb3).setOther (by omega) _ _, (bel2 Hb.out hb3).setCell (by show w.heap.size ≤ w1.heap.size; omega) _⟩
        have hs := srow_set ((B.take k).map decb) 4 (decb x) (by rw [HLen.out]; exact hlt)
        have ht : (B.take k).map decb ++ [decb x] = (B.take (k + 1)).map decb := by
          rw [List.take_succ_eq_append_getElem (show k < B.length by rw [HL.out]; omega), List.map_append, HX.out]
          congr 1
          simp [List.getD, List.getElem?_eq_getElem (show k < B.length by rw [HL.out]; omega)]
        rw [ht, HLen.out] at hs
        have := HR2.out.set k (.string (decb x))
        rw [hs] at this
        exact this
      case measure => simp [intOf]; omega
    · obtain rfl : k = 4 := by omega
      have h4 : (B.take 4).length = 4 := by rw [List.length_take, HL.out]; omega
      have hfull : srow ((B.take 4).map decb) 4 = (B.take 4).map decb := by simp [srow, HL.out]
      have hmap : ((B.take 4).map decb).map (fun x : ByteArray => x.data.toList) = (B.take 4).map Lib.decDigits := by
        rw [List.map_map]
        rfl
      have hcells : ∀ (j : Nat) (x : ByteArray), ((B.take 4).map decb)[j]? = some x → wr.cell? ⟨w1.heap.size, 0 + j, none⟩ = some (.string x) := by
        intro j x hx
        rw [Nat.zero_add, HR.out.cell, hfull, strs, List.getElem?_toArray, List.getElem?_map, hx]
        rfl
      have hjl : (Lib.join (((B.take 4).map decb).map (fun x : ByteArray => x.data.toList)) [46]).length ≤ 140737488355328 := by
        rw [hmap]
        have := join_le ((B.take 4).map Lib.decDigits) (fun x hx => by
          obtain ⟨y, hy, rfl⟩ := List.mem_map.1 hx
          exact dec_le y (HBd.out y (List.mem_of_mem_take hy))) [46] rfl
        rw [List.length_map, h4] at this
        omega
      have hjoin := Tryz.strings_Join w1.heap.size 0 4 ((B.take 4).map decb) ⟨#[46]⟩ wr hcells HR.out.lt (by rw [List.length_map, h4]; omega) (by rw [List.length_map, h4]; omega) hjl
      rw [List.length_map, h4] at hjoin
      have HJ : Hid (Calls Tryz.prog 52 #[.slice (some ⟨w1.heap.size, 0, none⟩) 4 4, .string ⟨#[46]⟩] wr fun e w' => e = .returned (.string ⟨(text4 B).toArray⟩) ∧ Below wr.heap.size wr w') := Lib.hid (hjoin.mono fun e w' h => ⟨by rw [h.1, hmap]; rfl, h.2⟩)
      clear hjoin hmap hcells hjl hfull h4
      go_wp2_with fail
      refine HJ.out.mono ?_
      rintro e w2 ⟨rfl, hb2⟩
      go_wp2
      go_ret
      exact ⟨rfl, bel2 Hb.out hb2⟩
end Go.Proofs.YtijboclcbbnhbaaGreatDoor
