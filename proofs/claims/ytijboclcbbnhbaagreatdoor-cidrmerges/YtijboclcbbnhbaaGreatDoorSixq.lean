/-
  The walk of addr.parseSix where the groups are right.
-/
import Derived.Test.YtijboclcbbnhbaaGreatDoorSixp
namespace Go.Proofs.YtijboclcbbnhbaaGreatDoor
open Go.RowKit

theorem Tryz.oneU16 : (Tryz.prog.info? 73).map (·.size) = some 1 := by kernel_rfl

/-- Cells of groups. -/
def gcells (ns : List Nat) : List Value := (ns.map (fun k : Nat => (k : Int))).map (Value.int .u16)
theorem gcells_arr (ns : List Nat) : (gcells ns).toArray = arr .u16 (ns.map (fun k : Nat => (k : Int))) := rfl
theorem gcells_length (ns : List Nat) : (gcells ns).length = ns.length := by simp [gcells]
theorem gcells_one (ns : List Nat) : ∀ v ∈ gcells ns, v.oneCell' = true := by
  intro v hv
  simp only [gcells, List.mem_map] at hv
  obtain ⟨x, _, rfl⟩ := hv
  rfl
theorem gcells_rep (k : Nat) : gcells (List.replicate k 0) = List.replicate k (.int .u16 0) := by simp [gcells]
/-- Eight noughts. -/
def z8 : List Value := gcells (List.replicate 8 0)
theorem src_cells {w : World} {p : Option Addr} {ns : List Nat} (h : Src w p ns) (h0 : 0 < (gcells ns).length) : ∃ ad, p = some ad ∧ ∀ j v, (gcells ns)[j]? = some v → w.cell? (ad.add j) = some v := by
  rw [gcells_length] at h0
  obtain ⟨g, hp, hB⟩ := h h0
  refine ⟨⟨g, 0, none⟩, hp, fun j v hv => ?_⟩
  have hadd : (⟨g, 0, none⟩ : Addr).add j = ⟨g, j, none⟩ := by unfold Addr.add; split <;> simp_all
  rw [hadd, hB.cell, ← gcells_arr]
  simpa using hv
theorem splice_two (a b : List Nat) (h : a.length + b.length ≤ 8) : splice (splice z8 0 (gcells a)) (8 - b.length) (gcells b) = gcells (a ++ (List.replicate (8 - a.length - b.length) 0 ++ b)) := by
  have ha := gcells_length a
  have hb := gcells_length b
  have e1 : splice z8 0 (gcells a) = gcells a ++ gcells (List.replicate (8 - a.length) 0) := by
    unfold splice
    rw [List.take_zero, List.nil_append, Nat.zero_add, ha]
    congr 1
    rw [z8, gcells_rep, gcells_rep, List.drop_replicate]
  rw [e1]
  have e2 : gcells a ++ gcells (List.replicate (8 - a.length) 0) = (gcells a ++ gcells (List.replicate (8 - a.length - b.length) 0)) ++ gcells (List.replicate b.length 0) := by
    rw [List.append_assoc]
    congr 1
    simp only [gcells, ← List.map_append, List.replicate_append_replicate]
    rw [show 8 - a.length - b.length + b.length = 8 - a.length by omega]
  rw [e2]
  have e3 : (gcells a ++ gcells (List.replicate (8 - a.length - b.length) 0)).length = 8 - b.length := by
    rw [List.length_append, gcells_length, gcells_length, List.length_replicate]; omega
  unfold splice
  rw [← e3, List.take_left, List.drop_append, List.drop_eq_nil_of_le (by omega), List.nil_append]
  rw [List.drop_eq_nil_of_le (by rw [hb, gcells_length, List.length_replicate]; omega)]
  simp [gcells]

theorem run_from8 (g m : Nat) (hm : m ≤ 8) (w : World) :
    (Instr.sliceAt 74 (.pointer (some ⟨g, 0, none⟩)) (some (.int .i64 (m : Int))) none none).run Tryz.prog w = .ok (.slice (some (if 8 = m then ⟨g, 0, none⟩ else ⟨g, m, none⟩)) (8 - m) (8 - m)) w := by
  have h1 : (m : Int) ≤ 8 := by omega
  have h0 : (0 : Int) ≤ (m : Int) := by omega
  simp [Instr.sliceAt, Instr.sureAddr, run_underlying Tryz.underlying74, Instr.sliceBounds, Tryz.sizeOf73, go_sem, h1, h0]

set_option maxRecDepth 100000 in
set_option maxHeartbeats 4000000 in
theorem six_right (s h t : ByteArray) (gp : Bool) (a b : List Nat) (hla : ∀ n ∈ a, n < 65536) (hlb : ∀ n ∈ b, n < 65536) (E : Value) (w : World) (hE : Env E w)
    (hC : ∀ w, Env E w → Calls Tryz.prog 26 #[.string s, .string ⟨#[58, 58]⟩] w fun e w' => e = .returned (.tuple #[.string h, .string t, .bool gp]) ∧ Below w.heap.size w w')
    (h1 : ∀ w, Env E w → Calls Tryz.prog 62 #[.string h] w (GAny (some a) w)) (h2 : ∀ w, Env E w → Calls Tryz.prog 62 #[.string t] w (GAny (some b) w))
    (hn : (gp = true ∧ a.length + b.length ≤ 7) ∨ (gp = false ∧ a.length + b.length = 8)) :
    Calls Tryz.prog 45 #[.string s] w (AddrEnd true ((by2 (a ++ (List.replicate (8 - a.length - b.length) 0 ++ b))).map (fun k : Nat => (k : Int))) true w) := by
  obtain ⟨W0, hW0⟩ : ∃ W, W = w.alloc (.cells (adr false z16) 25) := ⟨_, rfl⟩
  have hB0 : Blk W0 w.heap.size 25 (adr false z16) := hW0 ▸ Blk.new w _ _
  have hb0 : Below w.heap.size w W0 := hW0 ▸ (Below.refl _ _).alloc (Nat.le_refl _) _
  have HW0 : Hid (w.alloc (.cells #[.bool false, .int .u8 0, .int .u8 0, .int .u8 0, .int .u8 0, .int .u8 0, .int .u8 0, .int .u8 0, .int .u8 0, .int .u8 0, .int .u8 0, .int .u8 0, .int .u8 0, .int .u8 0, .int .u8 0, .int .u8 0, .int .u8 0] 25) = W0) := Lib.hid hW0.symm
  have hab : a.length + b.length ≤ 8 := by omega
  obtain ⟨G, hG⟩ : ∃ G, G = a ++ (List.replicate (8 - a.length - b.length) 0 ++ b) := ⟨_, rfl⟩
  have hG8 : G.length = 8 := by rw [hG]; simp; omega
  have hGl : ∀ n ∈ G, n < 65536 := by
    intro n hn
    rw [hG] at hn
    simp only [List.mem_append, List.mem_replicate] at hn
    rcases hn with h | ⟨_, rfl⟩ | h
    · exact hla n h
    · omega
    · exact hlb n h
  have hsp : splice (splice z8 0 (gcells a)) (8 - b.length) (gcells b) = gcells G := by rw [hG]; exact splice_two a b hab
  rw [← hG]
  have HSp := Lib.hid hsp
  have HA := Lib.hid (adof_any G hG8 hGl)
  have HC := Lib.hid hC
  have H1 := Lib.hid h1
  have H2 := Lib.hid h2
  have HE := Lib.hid hE
  have HB0 := Lib.hid hB0
  have HG8 := Lib.hid hG8
  clear hC h1 h2 hE hW0 hB0 hG hG8 hGl hsp hla hlb
  obtain ⟨na, hna⟩ : ∃ n, n = a.length := ⟨_, rfl⟩
  obtain ⟨nb, hnb⟩ : ∃ n, n = b.length := ⟨_, rfl⟩
  rw [← hna, ← hnb] at hab hn
  rw [← hnb] at HSp
  obtain ⟨m, hm⟩ : ∃ m, m + nb = 8 := ⟨8 - nb, by omega⟩
  rw [show 8 - nb = m by omega] at HSp
  have hmi : (m : Int) + nb = 8 := by omega
  have HN := Lib.hid hna
  have HM := Lib.hid hnb
  have HMm := Lib.hid hm
  have HMi := Lib.hid hmi
  clear hna hnb hm hmi
  rcases hn with ⟨rfl, hn⟩ | ⟨rfl, hn⟩
  all_goals
    first
    | have q2 : (1 : Int) ≤ 8 - (na : Int) - (nb : Int) := by omega
    | have q3 : ((8 : Int) - (na : Int) - (nb : Int) != 0) = false := by rw [bne_eq_false_iff_eq]; omega
    have q1 : ((na : Int) + (8 - (na : Int) - (nb : Int))) = (m : Int) := by have := HMi.out; omega
    have HQ1 := Lib.hid q1
    clear q1
    try (have HQ3 := Lib.hid q3; clear q3)
    go_enter Tryz.func45, Tryz.ntmps45
    go_wp2_with fail
    rw [HW0.out]
    refine (HC.out W0 (HE.out.kept hb0)).mono ?_
    rintro e w1 ⟨rfl, hb1⟩
    have Hb1 := Lib.hid (bel2 hb0 hb1)
    go_wp2_with fail
    refine (H1.out w1 (HE.out.kept Hb1.out)).mono ?_
    rintro e w2 ⟨p1, n1, rfl, hs1, hb2⟩
    obtain ⟨rfl, hS1⟩ := hs1 a rfl
    have HS1 := Lib.hid hS1
    have Hb2 := Lib.hid (bel2 Hb1.out hb2)
    clear hs1 hS1
    rw [← HN.out]
    go_wp2_with fail
    refine (H2.out w2 (HE.out.kept Hb2.out)).mono ?_
    rintro e w3 ⟨p2, n2, rfl, hs2, hb3⟩
    obtain ⟨rfl, hS2⟩ := hs2 b rfl
    have HS2 := Lib.hid hS2
    have HS1' := Lib.hid (HS1.out.kept hb3)
    have Hb3 := Lib.hid (bel2 Hb2.out hb3)
    clear hs2 hS2
    rw [← HM.out]
    have HB3 := Lib.hid (((HB0.out.kept hb1).kept hb2).kept hb3)
    clear HC H1 H2 HB0 HW0 HS1
    obtain ⟨W4, hW4⟩ : ∃ W, W = w3.alloc (.cells z8.toArray 74) := ⟨_, rfl⟩
    have hB4 : Blk W4 w3.heap.size 74 z8.toArray := hW4 ▸ Blk.new w3 _ _
    have hb4 : Below w3.heap.size w3 W4 := hW4 ▸ (Below.refl _ _).alloc (Nat.le_refl _) _
    have HW4 : Hid (w3.alloc (.cells #[.int .u16 0, .int .u16 0, .int .u16 0, .int .u16 0, .int .u16 0, .int .u16 0, .int .u16 0, .int .u16 0] 74) = W4) := Lib.hid hW4.symm
    have HB4 := Lib.hid hB4
    have HS15 := Lib.hid (HS1'.out.kept hb4)
    have HS24 := Lib.hid (HS2.out.kept hb4)
    clear hB4 hW4 HS1'
    obtain ⟨ad, had⟩ : ∃ ad : Addr, ad = if 8 = m then ⟨w3.heap.size, 0, none⟩ else ⟨w3.heap.size, m, none⟩ := ⟨_, rfl⟩
    have hsl : ∀ w, (Instr.sliceAt 74 (.pointer (some ⟨w3.heap.size, 0, none⟩)) (some (.int .i64 (m : Int))) none none).run Tryz.prog w = .ok (.slice (some ad) nb nb) w := fun w => by
      have := run_from8 w3.heap.size m (by have := HMm.out; omega) w
      rw [← had, show 8 - m = nb by have := HMm.out; omega] at this
      exact this
    have HAd : Hid (0 < nb → some ad = some ⟨w3.heap.size, m, none⟩) := Lib.hid fun h => by rw [had, if_neg (by have := HMm.out; omega)]
    clear had
    have q1 := HQ1.out
    try have q3 := HQ3.out
    go_wp2_with ((try rw [HW4.out]); first | ((show wpList _ _ _ (⟨some 59, _, _, _, _, _⟩ :: _) _ _); go_must (refine wpList_copy_splice rfl (.tmp 57) (.tmp 58) 88 88 rfl 73 Tryz.underlying88 Tryz.oneU16 (some ⟨w3.heap.size, 0, none⟩) p1 8 8 na na rfl rfl w3.heap.size 0 z8 74 HB4.out (gcells a) (by rw [gcells_length, ← HN.out]; exact (Nat.min_eq_left (by omega)).symm) (fun h => ⟨rfl, src_cells HS15.out h⟩) (by rw [gcells_length, ← HN.out]; show 0 + na ≤ 8; omega) (gcells_one a) w3.heap.size w3 hb4 (Nat.le_refl _) ?_; intro w6 HB6 hb6)) | ((show wpList _ _ _ (⟨some 66, _, _, _, _, _⟩ :: _) _ _); go_must (refine wpList_copy_splice rfl (.tmp 64) (.tmp 65) 88 88 rfl 73 Tryz.underlying88 Tryz.oneU16 (some ad) p2 nb nb nb nb rfl rfl w3.heap.size m (splice z8 0 (gcells a)) 74 HB6.out (gcells b) (by rw [gcells_length, ← HM.out]; exact (Nat.min_self _).symm) (fun h => ⟨HAd.out (by rw [gcells_length, ← HM.out] at h; exact h), src_cells (HS2.out.kept hb6) h⟩) (by rw [length_splice _ _ _ (by rw [gcells_length, ← HN.out]; show 0 + na ≤ 8; omega), gcells_length, ← HM.out]; have := HMm.out; show m + nb ≤ 8; omega) (gcells_one b) w3.heap.size w3 hb6 (Nat.le_refl _) ?_; intro w7 HB7 hb7)) | (refine wpl_load 74 _ rfl _ rfl _ _ _ HB7.out Tryz.underlying74 rfl 8 Tryz.infoGrp (by rw [HSp.out, gcells_arr, arr_size, List.length_map, HG8.out]) rfl ?_))
    rw [HSp.out, gcells_arr]
    refine (HA.out _).mono ?_
    rintro e w8 ⟨rfl, hb8⟩
    have HB8 := Lib.hid ((HB3.out.kept hb7).kept hb8)
    have Hb8 := Lib.hid (bel2 (bel2 Hb3.out hb7) hb8)
    have HL : Hid (17 = (adr true ((by2 G).map (fun k : Nat => (k : Int)))).size) := Lib.hid (by rw [adr_size, List.length_map, by2_length, HG8.out])
    clear HSp HA hsl q1 HAd HB6 HB7
    go_wp2_with (refine wpl_store 25 _ _ rfl _ (adr true ((by2 G).map (fun k : Nat => (k : Int)))) rfl rfl _ _ HB8.out 17 Tryz.infoAddr HL.out rfl (adr_one _ _) rfl ?_)
    exact retA2 rfl w.heap.size rfl _ _ _ (HB8.out.row _) Tryz.underlying25 rfl 17 Tryz.infoAddr HL.out rfl _ rfl ⟨rfl, below_setRow Hb8.out (Nat.le_refl _) _⟩
end Go.Proofs.YtijboclcbbnhbaaGreatDoor
