/-
  The walk of addr.formatGroups.
-/
import Derived.Test.YtijboclcbbnhbaaGreatDoorNought
import Derived.Test.YtijboclcbbnhbaaGreatDoorHexp
namespace Go.Proofs.YtijboclcbbnhbaaGreatDoor
open Go.RowKit

/-- Where groups lie in a row. -/
def SrcAt (w : World) (p : Option Addr) (ns : List Nat) : Prop := 0 < ns.length → ∃ g o, p = some ⟨g, o, none⟩ ∧ g < w.heap.size ∧ ∀ j, j < ns.length → w.cell? ⟨g, o + j, none⟩ = some (.int .u16 ((ns.getD j 0 : Nat) : Int))

def srow (ds : List ByteArray) (n : Nat) : List ByteArray := ds ++ List.replicate (n - ds.length) ByteArray.empty
theorem srow_length (ds : List ByteArray) (n : Nat) (h : ds.length ≤ n) : (srow ds n).length = n := by simp [srow]; omega
theorem srow_set (ds : List ByteArray) (n : Nat) (d : ByteArray) (h : ds.length < n) : (strs (srow ds n)).setIfInBounds ds.length (.string d) = strs (srow (ds ++ [d]) n) := by
  have : (srow ds n).set ds.length d = srow (ds ++ [d]) n := by
    unfold srow
    obtain ⟨m, hm⟩ : ∃ m, n - ds.length = m + 1 := ⟨n - ds.length - 1, by omega⟩
    rw [hm, List.set_append_right _ _ (by simp), List.replicate_succ]
    simp [show n - (ds.length + 1) = m by omega]
  rw [← this]
  simp [strs, List.map_set]

/-- The text of a group. -/
def hexb (n : Nat) : ByteArray := ⟨(hexs n).toArray⟩
theorem nd_le (n : Nat) : nd n ≤ 4 := by unfold nd; split; omega; split; omega; split <;> omega
theorem hexs_le (n : Nat) : (hexs n).length ≤ 4 := by unfold hexs; rw [hlow_length]; exact nd_le n
theorem nd_pos (n : Nat) : 1 ≤ nd n := by unfold nd; split; omega; split; omega; split <;> omega
theorem hexs_pos (n : Nat) : 1 ≤ (hexs n).length := by unfold hexs; rw [hlow_length]; exact nd_pos n

/-- Groups as a text. -/
def gtext (ns : List Nat) : List UInt8 := Lib.join (ns.map hexs) [58]

theorem join_le (l : List (List UInt8)) (h : ∀ x ∈ l, x.length ≤ 4) (s : List UInt8) (hs : s.length = 1) : (Lib.join l s).length ≤ 5 * l.length := by
  cases l with
  | nil => simp [Lib.join_nil]
  | cons x r =>
    rw [Lib.join_length, hs]
    have : ∀ l : List (List UInt8), (∀ x ∈ l, x.length ≤ 4) → Lib.lens l ≤ 4 * l.length := by
      intro l
      induction l with
      | nil => intro _; simp [Lib.lens]
      | cons y l ih =>
        intro hl
        have h1 := hl y (by simp)
        have h2 := ih (fun z hz => hl z (by simp [hz]))
        simp only [Lib.lens, List.map_cons, List.sum_cons, List.length_cons] at h2 ⊢
        omega
    have := this (x :: r) h
    simp only [List.length_cons] at this ⊢
    omega

theorem Tryz.infoStr : (Tryz.prog.info? 9).map (fun i => (i.zero, i.size, i.bytes)) = some (some (.string ByteArray.empty), 1, 16) := by kernel_rfl

/-- A text comes back. -/
def TextEnd (l : List UInt8) (w : World) (e : Ending) (w' : World) : Prop := e = .returned (.string ⟨l.toArray⟩) ∧ Below w.heap.size w w'

set_option maxRecDepth 100000 in
set_option maxHeartbeats 4000000 in
theorem fgrp_none (p : Option Addr) (c : Nat) (w : World) : Calls Tryz.prog 69 #[.slice p 0 c] w (TextEnd [] w) := by
  obtain ⟨i0, hi, hz0, hz1, hz2⟩ := info_parts Tryz.infoStr
  have hz3 := Lib.hid hz2
  go_enter Tryz.func69, Tryz.ntmps69
  go_wp2_with (first | (refine wpList_make_full _ rfl (.tmp 7) (.tmp 7) 76 rfl w.heap.size 9 i0 (.string ByteArray.empty) 1 Tryz.underlying76 hi hz0 hz1 .i64 .i64 0 0 0 rfl rfl rfl rfl ?c1 ?c2 (Nat.le_refl _) ?_; rotate_right; intro w1 hown hgrow) | fail)
  case c1 => omega
  case c2 => exact Nat.zero_le _
  clear hz3 hz2 hz1 hz0
  have hb1 : Below w.heap.size w w1 := (Below.refl _ _).grown hgrow (Nat.le_refl _) (fun k hk => by cases hk)
  clear hown hgrow
  go_loop [11] (fun i => i = .int .i64 0) (fun _ => 0)
  case atStart => rfl
  case round =>
    subst hrel
    go_wp2_with fail
    refine (Tryz.strings_Join_none _ _ _ w1).mono ?_
    rintro e w2 ⟨rfl, rfl⟩
    go_wp2
    go_ret
    exact ⟨rfl, hb1⟩

set_option maxRecDepth 100000 in
set_option maxHeartbeats 4000000 in
theorem fgrp_some (p : Option Addr) (c n : Nat) (ns : List Nat) (hn : ns.length = n) (h0 : 0 < n) (hn8 : n ≤ 8) (hns : ∀ x ∈ ns, x < 65536) (E : Value) (w : World) (hE : Env E w) (hS : SrcAt w p ns) :
    Calls Tryz.prog 69 #[.slice p n c] w (TextEnd (gtext ns) w) := by
  obtain ⟨g, o, rfl, hgl, hcs⟩ := hS (by omega)
  have HML : Hid (n ≤ maxLen) := Lib.hid (Nat.le_trans hn8 (by decide))
  obtain ⟨i0, hi, hz0, hz1, hz2⟩ := info_parts Tryz.infoStr
  have hz3 := Lib.hid hz2
  have HC := Lib.hid hcs
  have HE := Lib.hid hE
  have HN := Lib.hid hn
  have HNs := Lib.hid hns
  clear hS hcs hE hn hns
  go_enter Tryz.func69, Tryz.ntmps69
  go_wp2_with (first | (refine wpList_make_full _ rfl (.tmp 7) (.tmp 7) 76 rfl w.heap.size 9 i0 (.string ByteArray.empty) 1 Tryz.underlying76 hi hz0 hz1 .i64 .i64 n n n rfl rfl rfl rfl ?c1 ?c2 (Nat.le_refl _) ?_; rotate_right; intro w1 hown hgrow) | fail)
  case c1 => rw [hz3.out]; omega
  case c2 => exact HML.out
  clear hz3 hz2 hz1 hz0
  have hb1 : Below w.heap.size w w1 := (Below.refl _ _).grown hgrow (Nat.le_refl _) (fun k hk => by cases hk)
  have hR0 : Blk w1 w.heap.size 9 (strs (srow [] n)) := by
    have := own_blk hown
    simpa [strs, srow, Value.cells, toList_madeCells_one] using this
  have H1 : Hid (Blk w1 w.heap.size 9 (strs (srow [] n)) ∧ Below w.heap.size w w1) := Lib.hid ⟨hR0, hb1⟩
  clear hown hgrow hR0 hb1
  go_loopw [11] (fun i wr => ∃ k : Nat, k ≤ n ∧ i = .int .i64 k ∧ Hid (Blk wr w.heap.size 9 (strs (srow ((ns.take k).map hexb) n)) ∧ Below w.heap.size w wr)) (fun i _ => n - (intOf i).toNat)
  case atStart => exact ⟨0, Nat.zero_le _, rfl, H1.out⟩
  case round =>
    obtain ⟨k, hk, rfl, hh⟩ := hrel
    clear H1
    obtain ⟨hR, hb⟩ := hh.out
    have HR := Lib.hid hR
    have Hb := Lib.hid hb
    clear hR hb hh
    by_cases hlt : k < n
    · obtain ⟨x, hx⟩ : ∃ x, x = ns.getD k 0 := ⟨_, rfl⟩
      have hkn : k < ns.length := by rw [HN.out]; exact hlt
      have hx16 : x < 65536 := by rw [hx]; apply HNs.out; simp [List.getD, List.getElem?_eq_getElem hkn]
      have hcell : wr.cell? ⟨g, o + k, none⟩ = some (.int .u16 (x : Int)) := by
        rw [Hb.out.cell (p := ⟨g, o + k, none⟩) hgl, HC.out k hkn, hx]
      have HX := Lib.hid hx
      clear hx hkn
      go_wp2_with fail
      refine (format16 x hx16 E wr (HE.out.kept Hb.out)).mono ?_
      rintro e w2 ⟨rfl, hb2⟩
      have hR2 := HR.out.kept hb2
      have hlen : ((ns.take k).map hexb).length = k := by rw [List.length_map, List.length_take, HN.out]; omega
      have hcl : w2.cell? ⟨w.heap.size, k, none⟩ = some (.string ((srow ((ns.take k).map hexb) n)[k]'(by rw [srow_length _ _ (by omega)]; exact hlt))) := by rw [hR2.cell, strs_at]
      have hfz := hR2.frozen k
      have HR2 := Lib.hid hR2
      generalize (srow ((ns.take k).map hexb) n)[k]'(by rw [srow_length _ _ (by omega)]; exact hlt) = old at hcl
      have HLen := Lib.hid hlen
      clear hR2 hlen
      go_wp2
      go_roundw
      case rel =>
        refine ⟨k + 1, by omega, by go_num, ?_, (bel2 Hb.out hb2).setCell (Nat.le_refl _) _⟩
        have hs := srow_set ((ns.take k).map hexb) n (hexb x) (by rw [HLen.out]; exact hlt)
        have ht : (ns.take k).map hexb ++ [hexb x] = (ns.take (k + 1)).map hexb := by
          rw [List.take_succ_eq_append_getElem (show k < ns.length by rw [HN.out]; exact hlt), List.map_append, HX.out]
          congr 1
          simp [List.getD, List.getElem?_eq_getElem (show k < ns.length by rw [HN.out]; exact hlt)]
        rw [ht, HLen.out] at hs
        have := HR2.out.set k (.string (hexb x))
        rw [hs] at this
        exact this
      case measure => simp [intOf]; omega
    · obtain rfl : k = n := by omega
      have hfull : srow ((ns.take k).map hexb) k = ns.map hexb := by
        rw [List.take_of_length_le (by rw [HN.out]; omega)]
        simp [srow, HN.out]
      have hmap : (ns.map hexb).map (fun x : ByteArray => x.data.toList) = ns.map hexs := by
        rw [List.map_map]
        rfl
      have hcells : ∀ (j : Nat) (x : ByteArray), (ns.map hexb)[j]? = some x → wr.cell? ⟨w.heap.size, 0 + j, none⟩ = some (.string x) := by
        intro j x hx
        rw [Nat.zero_add, HR.out.cell, hfull]
        simp only [strs, List.getElem?_toArray, List.getElem?_map] at hx ⊢
        rw [hx]
        rfl
      have hjl : (Lib.join ((ns.map hexb).map (fun x : ByteArray => x.data.toList)) [58]).length ≤ 140737488355328 := by
        rw [hmap]
        have := join_le (ns.map hexs) (fun x hx => by
          obtain ⟨y, _, rfl⟩ := List.mem_map.1 hx
          exact hexs_le y) [58] rfl
        rw [List.length_map, HN.out] at this
        omega
      have hjoin := Tryz.strings_Join w.heap.size 0 k (ns.map hexb) ⟨#[58]⟩ wr hcells HR.out.lt (by rw [List.length_map, HN.out]; omega) (by rw [List.length_map, HN.out]; omega) hjl
      rw [List.length_map, HN.out] at hjoin
      have HJ : Hid (Calls Tryz.prog 52 #[.slice (some ⟨w.heap.size, 0, none⟩) k k, .string ⟨#[58]⟩] wr fun e w' => e = .returned (.string ⟨(gtext ns).toArray⟩) ∧ Below wr.heap.size wr w') := Lib.hid (hjoin.mono fun e w' h => ⟨by rw [h.1, hmap]; rfl, h.2⟩)
      clear hjoin hmap hcells hjl hfull
      go_wp2_with fail
      refine HJ.out.mono ?_
      rintro e w2 ⟨rfl, hb2⟩
      go_wp2
      go_ret
      exact ⟨rfl, bel2 Hb.out hb2⟩
end Go.Proofs.YtijboclcbbnhbaaGreatDoor
