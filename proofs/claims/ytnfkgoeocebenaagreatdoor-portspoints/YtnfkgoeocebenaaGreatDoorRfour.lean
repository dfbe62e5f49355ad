/-
  The walk of the document's Format, of an address of four bytes and of one that is not right.
-/
import Derived.Test.YtnfkgoeocebenaaGreatDoorNumr
namespace Go.Proofs.YtnfkgoeocebenaaGreatDoor
open Go.RowKit

theorem dg_small (d : Nat) (h : d < 10) : dg d = UInt8.ofNat (48 + d) := by simp [dg, h]
theorem digs10 (n : Nat) (h : n < 256) : digs 10 3 n = Lib.decDigits n := by
  by_cases h1 : n < 10
  · rw [Lib.decDigits_one h1]; simp [digs, h1, dg_small]
  · rw [Lib.decDigits, dif_neg h1, digs, if_neg h1, dg_small _ (by omega)]
    congr 1
    by_cases h2 : n / 10 < 10
    · rw [Lib.decDigits_one h2]; simp [digs, h2, dg_small]
    · rw [Lib.decDigits, dif_neg h2, digs, if_neg h2, dg_small _ (by omega), Lib.decDigits_one (by omega)]
      have : n / 10 / 10 < 10 := by omega
      simp [digs, this, dg_small]
theorem digs16 (n : Nat) (h : n < 65536) : digs 16 3 n = hexs n := by
  unfold hexs nd
  by_cases h1 : n < 16
  · simp [digs, h1, hlow, Nat.mod_eq_of_lt h1]
  · rw [if_neg h1, digs, if_neg h1]
    by_cases h2 : n < 256
    · have e : n / 16 < 16 := by omega
      simp [digs, h2, e, hlow, Nat.mod_eq_of_lt e]
    · rw [if_neg h2, digs, if_neg (by omega : ¬ n / 16 < 16)]
      by_cases h3 : n < 4096
      · have e : n / 16 / 16 < 16 := by omega
        have e2 : n / 256 = n / 16 / 16 := by omega
        simp [digs, h3, e, hlow, e2, Nat.mod_eq_of_lt e]
      · rw [if_neg h3, digs, if_neg (by omega : ¬ n / 16 / 16 < 16)]
        have e : n / 16 / 16 / 16 < 16 := by omega
        have e2 : n / 256 = n / 16 / 16 := by omega
        have e3 : n / 4096 = n / 16 / 16 / 16 := by omega
        simp [digs, hlow, e2, e3, Nat.mod_eq_of_lt e]

theorem join_snoc (l : List (List UInt8)) (x s : List UInt8) (h : l ≠ []) : Lib.join (l ++ [x]) s = Lib.join l s ++ (s ++ x) := by
  match l, h with
  | a :: r, _ => rw [List.cons_append, Lib.join_cons, Lib.join_cons, Lib.joinTail, Lib.joinTail, List.map_append, List.flatten_append]; simp

/-- The text of the first k bytes. -/
def j4 (B : List Nat) (k : Nat) : List UInt8 := Lib.join ((B.take k).map Lib.decDigits) [46]
theorem j4_one (B : List Nat) (h : 0 < B.length) : j4 B 1 = Lib.decDigits (B.getD 0 0) := by
  match B, h with
  | a :: r, _ => simp [j4, Lib.join_one]
theorem j4_succ (B : List Nat) (k : Nat) (h0 : 0 < k) (h : k < B.length) : j4 B (k + 1) = (j4 B k ++ [46]) ++ Lib.decDigits (B.getD k 0) := by
  unfold j4
  rw [List.take_succ_eq_append_getElem h, List.map_append, List.map_singleton, join_snoc _ _ _ (by intro e; have := congrArg List.length e; rw [List.length_map, List.length_take, List.length_nil] at this; omega), List.append_assoc]
  simp [List.getD, List.getElem?_eq_getElem h]
theorem j4_le (B : List Nat) (hB : ∀ x ∈ B, x < 256) (k : Nat) (h : k ≤ 4) : (j4 B k).length ≤ 20 := by
  have := join_le ((B.take k).map Lib.decDigits) (fun x hx => by
    obtain ⟨y, hy, rfl⟩ := List.mem_map.1 hx
    exact dec_le y (hB y (List.mem_of_mem_take hy))) [46] rfl
  rw [List.length_map, List.length_take] at this
  unfold j4
  omega

set_option maxRecDepth 100000 in
set_option maxHeartbeats 4000000 in
theorem rformat_bad (b : List Int) (hl : b.length = 16) (hf : flat b = false) (w : World) : Calls Tryz.prog 82 #[.agg (adr false b)] w (TextEnd [] w) := by
  obtain ⟨W0, hW0⟩ : ∃ W, W = w.alloc (.cells (adr false b) 24) := ⟨_, rfl⟩
  have hB0 : Blk W0 w.heap.size 24 (adr false b) := hW0 ▸ Blk.new w _ _
  have hb0 : Below w.heap.size w W0 := hW0 ▸ (Below.refl _ _).alloc (Nat.le_refl _) _
  have HW0 := Lib.hid hW0.symm
  have HB0 := Lib.hid hB0
  have HL17 : Hid (17 = (adr false b).size) := Lib.hid (by rw [adr_size, hl])
  have HR : Hid (∀ w, Calls Tryz.prog 16 #[.agg (adr false b)] w fun e w' => e = .returned (.bool false) ∧ Below w.heap.size w w') := Lib.hid fun w => (refRight_any false b hl w).mono fun e w' h => ⟨by rw [h.1, hf]; rfl, h.2⟩
  clear hW0 hB0 hl hf
  go_enter Tryz.func82, Tryz.ntmps82
  go_wp2_with ((try rw [HW0.out]); refine wpl_load 24 _ rfl _ rfl _ _ _ HB0.out Tryz.underlying24 rfl 17 Tryz.infoAddr HL17.out rfl ?_)
  refine (HR.out W0).mono ?_
  rintro e w1 ⟨rfl, hb1⟩
  go_wp2
  go_ret
  exact ⟨rfl, bel2 hb0 hb1⟩

set_option maxRecDepth 100000 in
set_option maxHeartbeats 4000000 in
theorem rformat_four (B : List Nat) (hl : B.length = 16) (hB : ∀ x ∈ B, x < 256) (hf : flat (ints B) = true) (w : World) : Calls Tryz.prog 82 #[.agg (adr false (ints B))] w (TextEnd (text4 B) w) := by
  obtain ⟨W0, hW0⟩ : ∃ W, W = w.alloc (.cells (adr false (ints B)) 24) := ⟨_, rfl⟩
  have hB0 : Blk W0 w.heap.size 24 (adr false (ints B)) := hW0 ▸ Blk.new w _ _
  have hb0 : Below w.heap.size w W0 := hW0 ▸ (Below.refl _ _).alloc (Nat.le_refl _) _
  have HW0 := Lib.hid hW0.symm
  have HB0 := Lib.hid hB0
  have HL17 : Hid (17 = (adr false (ints B)).size) := Lib.hid (by rw [adr_size, ints_length, hl])
  have HR : Hid (∀ w, Calls Tryz.prog 16 #[.agg (adr false (ints B))] w fun e w' => e = .returned (.bool true) ∧ Below w.heap.size w w') := Lib.hid fun w => (refRight_any false (ints B) (by rw [ints_length, hl]) w).mono fun e w' h => ⟨by rw [h.1, hf]; rfl, h.2⟩
  have HL := Lib.hid hl
  have HBd := Lib.hid hB
  clear hW0 hB0 hl hf hB
  go_enter Tryz.func82, Tryz.ntmps82
  go_wp2_with ((try rw [HW0.out]); refine wpl_load 24 _ rfl _ rfl _ _ _ HB0.out Tryz.underlying24 rfl 17 Tryz.infoAddr HL17.out rfl ?_)
  refine (HR.out W0).mono ?_
  rintro e w1 ⟨rfl, hb1⟩
  have HB1 := Lib.hid (HB0.out.kept hb1)
  have h0 : w1.cell? ⟨w.heap.size, 0, none⟩ = some (.bool false) := by rw [HB1.out.cell]; rfl
  have H2 : Hid (Blk w1 w.heap.size 24 (adr false (ints B)) ∧ Below w.heap.size w w1) := Lib.hid ⟨HB1.out, bel2 hb0 hb1⟩
  go_wp2
  clear h0 hb0 hb1 HB0 HB1 HR HL17 HW0
  go_loopw [3, 4] (fun s i wr => ∃ k : Nat, k ≤ 4 ∧ i = .int .i64 k ∧ (∃ sK : ByteArray, s = .string sK ∧ Hid (sK = ⟨(j4 B k).toArray⟩)) ∧ Hid (Blk wr w.heap.size 24 (adr false (ints B)) ∧ Below w.heap.size w wr)) (fun _ i _ => 4 - (intOf i).toNat)
  case atStart => exact ⟨0, Nat.zero_le _, rfl, ⟨_, rfl, rfl⟩, H2.out⟩
  case round =>
    obtain ⟨k, hk, rfl, ⟨sK, rfl, hsK⟩, hh⟩ := hrel
    clear H2
    obtain ⟨hB0, hb⟩ := hh.out
    have HB0 := Lib.hid hB0
    have Hb := Lib.hid hb
    by_cases hlt : k < 4
    · obtain ⟨x, hx⟩ : ∃ x, x = B.getD k 0 := ⟨_, rfl⟩
      have hkn : k < B.length := by rw [HL.out]; omega
      have hx8 : x < 256 := by rw [hx]; apply HBd.out; simp [List.getD, List.getElem?_eq_getElem hkn]
      have hcell : wr.cell? ⟨w.heap.size, 1 + k, none⟩ = some (.int .u8 (x : Int)) := by
        rw [HB0.out.cell, adr_at _ _ _ (by rw [ints_length]; exact hkn), nth_ints, hx]
      have k0 : (0 : Int) ≤ (k : Int) := by omega
      have k16 : (k : Int) < 16 := by omega
      obtain ⟨sX, hsX⟩ : ∃ s : ByteArray, s = ⟨(Lib.decDigits x).toArray⟩ := ⟨_, rfl⟩
      obtain ⟨sD, hsD⟩ : ∃ s : ByteArray, s = ⟨(j4 B k ++ [46]).toArray⟩ := ⟨_, rfl⟩
      obtain ⟨sR, hsR⟩ : ∃ s : ByteArray, s = ⟨(j4 B (k + 1)).toArray⟩ := ⟨_, rfl⟩
      have HN : Hid (∀ w', Calls Tryz.prog 114 #[.int .i64 (x : Int), .int .i64 10] w' fun e w2 => e = .returned (.string sX) ∧ Below w'.heap.size w' w2) := Lib.hid fun w' => by
        have := numeral10 3 x (by omega) (by omega) w'
        rw [digs10 x hx8] at this
        exact this.mono fun e w2 hh => ⟨by rw [hsX]; exact hh.1, hh.2⟩
      have hle := j4_le B HBd.out k (by omega)
      have hdl := dec_le x hx8
      have a1 : ∀ w', (Op.stringOp .add sK ⟨#[46]⟩).run Tryz.prog w' = .ok (.string sD) w' := fun w' => by
        rw [hsK.out, hsD]
        exact run_string_add_lists w' (j4 B k) [46] (by omega) (by simp)
      have a2 : 0 < k → ∀ w', (Op.stringOp .add sD sX).run Tryz.prog w' = .ok (.string sR) w' := fun hk0 w' => by
        rw [hsD, hsX, hsR, j4_succ B k hk0 hkn, ← hx]
        exact run_string_add_lists w' (j4 B k ++ [46]) (Lib.decDigits x) (by simp; omega) (by omega)
      have a3 : k = 0 → ∀ w', (Op.stringOp .add sK sX).run Tryz.prog w' = .ok (.string sR) w' := fun hk0 w' => by
        subst hk0
        rw [hsK.out, hsX, hsR, j4_one B (by omega), ← hx]
        exact run_string_add_lists w' [] (Lib.decDigits x) (by simp) (by omega)
      have HSR := Lib.hid hsR
      clear hsR hsD hsX hle hdl hx hkn hsK hh hB0 hb
      by_cases hk0 : k = 0
      · have a := a3 hk0
        subst hk0
        clear a1 a2 a3
        go_wp2_with fail
        refine (HN.out wr).mono ?_
        rintro e w3 ⟨rfl, hb3⟩
        go_wp2
        go_roundw
        case rel => exact ⟨1, by omega, by go_num, ⟨_, rfl, HSR.out⟩, HB0.out.kept hb3, bel2 Hb.out hb3⟩
        case measure => simp [intOf]
      · have a := a2 (by omega)
        have kp : decide ((k : Int) > 0) = true := by simp; omega
        clear a2 a3
        go_wp2_with fail
        refine (HN.out wr).mono ?_
        rintro e w3 ⟨rfl, hb3⟩
        go_wp2
        go_roundw
        case rel => exact ⟨k + 1, by omega, by go_num, ⟨_, rfl, HSR.out⟩, HB0.out.kept hb3, bel2 Hb.out hb3⟩
        case measure => simp [intOf]; omega
    · obtain rfl : k = 4 := by omega
      clear hh hB0 hb
      go_wp2
      go_ret
      exact ⟨by rw [hsK.out]; rfl, Hb.out⟩
end Go.Proofs.YtnfkgoeocebenaaGreatDoor
