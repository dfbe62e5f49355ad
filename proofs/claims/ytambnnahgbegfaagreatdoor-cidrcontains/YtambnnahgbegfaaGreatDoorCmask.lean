/-
  cidr.mask and cidr.Of, where there is one.
-/
import Derived.Test.YtambnnahgbegfaaGreatDoorCrest
import Derived.StillTailTactics
namespace Go.Proofs.YtambnnahgbegfaaGreatDoor
open Go.RowKit

/-- How many of a byte's bits are meant. -/
def clampN (n : Int) : Nat := if n ≤ 0 then 0 else if 8 ≤ n then 8 else n.toNat
/-- A byte's first bits. -/
def mskN (t : Nat) : Nat := 255 * 2 ^ (8 - t) % 256

theorem clamp_le (n : Int) : clampN n ≤ 8 := by
  unfold clampN
  split
  · omega
  · split <;> omega

theorem msk_of (n : Int) : (255 * 2 ^ (8 - min (max n 0) 8).toNat % 256 : Int) = ((mskN (clampN n) : Nat) : Int) := by
  have : (8 - min (max n 0) 8).toNat = 8 - clampN n := by
    unfold clampN
    split
    · rw [Int.max_eq_right (by omega), Int.min_eq_left (by omega)]; rfl
    · rw [Int.max_eq_left (by omega)]
      split
      · rw [Int.min_eq_right (by omega)]; rfl
      · rw [Int.min_eq_left (by omega)]; omega
  rw [this]
  unfold mskN
  simp

set_option maxHeartbeats 1000000 in
theorem mask_any (n : Int) (h1 : -1000 ≤ n) (h2 : n ≤ 1000) (w : World) :
    Calls Tryz.prog 72 #[.int .i64 n] w fun e w' => e = .returned (.int .u8 ((mskN (clampN n) : Nat) : Int)) ∧ w' = w := by
  go_enter Tryz.func72, Tryz.ntmps72
  go_wp2
  go_ret
  exact ⟨ret_int (msk_of n), rfl⟩

/-- A byte cut. -/
def cutN (B : List Nat) (N : Int) (j : Nat) : Nat := B.getD j 0 &&& mskN (clampN (N - 8 * j))
/-- The first k bytes cut. -/
def cutTo (B : List Nat) (N : Int) (k : Nat) : List Nat := (List.range 16).map fun j => if j < k then cutN B N j else B.getD j 0
theorem cutTo_length (B : List Nat) (N : Int) (k : Nat) : (cutTo B N k).length = 16 := by simp [cutTo]
theorem cutTo_zero (B : List Nat) (hl : B.length = 16) (N : Int) : cutTo B N 0 = B := by
  apply List.ext_getElem
  · simp [cutTo, hl]
  · intro i h1 h2
    simp [cutTo, List.getD, List.getElem?_eq_getElem h2]
theorem cutTo_succ (B : List Nat) (N : Int) (k : Nat) : (cutTo B N k).set k (cutN B N k) = cutTo B N (k + 1) := by
  apply List.ext_getElem
  · simp [cutTo]
  · intro i h1 h2
    simp only [cutTo, List.length_set, List.length_map, List.length_range] at h1
    rw [List.getElem_set]
    simp only [cutTo, List.getElem_map, List.getElem_range]
    by_cases e : k = i
    · subst e
      simp
    · rw [if_neg e]
      by_cases h : i < k
      · rw [if_pos h, if_pos (by omega)]
      · rw [if_neg h, if_neg (by omega)]
theorem cutTo_at (B : List Nat) (N : Int) (k : Nat) (hk : k < 16) : (cutTo B N k).getD k 0 = B.getD k 0 := by
  simp [cutTo, List.getD, hk]
theorem ints_set (l : List Nat) (k v : Nat) : (ints l).set k (v : Int) = ints (l.set k v) := by simp [ints, List.map_set]
theorem cut_lt (B : List Nat) (N : Int) (j : Nat) : cutN B N j < 256 := by
  unfold cutN
  refine Nat.lt_of_le_of_lt Nat.and_le_right ?_
  unfold mskN
  exact Nat.mod_lt _ (by decide)
theorem u8_and_nat (a b : Nat) (ha : a < 256) (hb : b < 256) : bits .and .u8 (a : Int) (b : Int) = ((a &&& b : Nat) : Int) := by
  have hx : a &&& b < 2 ^ 8 := Nat.and_lt_two_pow _ (by omega)
  have h8 : ∀ c : Nat, c < 256 → (BitVec.ofInt 8 (c : Int)).toNat = c := fun c hc => by simp; omega
  show IntKind.u8.wrap ((BitVec.ofInt 8 (a : Int) &&& BitVec.ofInt 8 (b : Int)).toNat : Int) = _
  rw [BitVec.toNat_and, h8 a ha, h8 b hb]
  simp only [IntKind.wrap, IntKind.signed, IntKind.bits]
  simp
  omega

theorem run_build_cid (s : Bool) (b : List Int) (hl : b.length = 16) (n : Int) (w : World) : (Instr.build 48 #[(0, .agg (adr s b)), (1, .int .i64 n)]).run Tryz.prog w = .ok (.agg (cid s b n)) w := by
  match b, hl with
  | [a0, a1, a2, a3, a4, a5, a6, a7, a8, a9, a10, a11, a12, a13, a14, a15], _ =>
    show _ = _
    kernel_rfl
theorem exec_build_cid {a : Act} {o : Oper} (x y : Operand) (ho : o.op = .build 48 #[(0, x), (1, y)]) (s : Bool) (b : List Int) (hl : b.length = 16) (n : Int) (hx : a.eval x = .agg (adr s b)) (hy : a.eval y = .int .i64 n) (w : World) :
    (execOp a.eval o).run Tryz.prog w = .ok (.value (.agg (cid s b n))) w := by
  unfold execOp
  simp only [ho, List.map_toArray, List.map_cons, List.map_nil, hx, hy, Sem.run_bind, Sem.run_pure, Result.andThen_ok, run_build_cid s b hl n]

theorem cid18 : cid false z16 0 = #[.bool false, .int .u8 0, .int .u8 0, .int .u8 0, .int .u8 0, .int .u8 0, .int .u8 0, .int .u8 0, .int .u8 0, .int .u8 0, .int .u8 0, .int .u8 0, .int .u8 0, .int .u8 0, .int .u8 0, .int .u8 0, .int .u8 0, .int .i64 0] := rfl

set_option maxRecDepth 100000 in
set_option maxHeartbeats 4000000 in
theorem of_good (s : Bool) (B : List Nat) (hl : B.length = 16) (hB : ∀ x ∈ B, x < 256) (N : Nat) (hN : N ≤ wid s) (w : World)
    (cR : ∀ w, Calls Tryz.prog 70 #[.agg (adr s (ints B))] w fun e w' => e = .returned (.bool true) ∧ Below w.heap.size w w') :
    Calls Tryz.prog 36 #[.agg (adr s (ints B)), .int .i64 (N : Int)] w fun e w' => e = .returned (.tuple #[.agg (cid s (ints (cutTo B N 16)) N), .nilIface]) ∧ Below w.heap.size w w' := by
  obtain ⟨W0, hW0⟩ : ∃ W, W = w.alloc (.cells (adr s (ints B)) 24) := ⟨_, rfl⟩
  obtain ⟨W1, hW1⟩ : ∃ W, W = W0.alloc (.cells (cid false z16 0) 48) := ⟨_, rfl⟩
  have hB0 : Blk W0 w.heap.size 24 (adr s (ints B)) := hW0 ▸ Blk.new w _ _
  have hb0 : Below w.heap.size w W0 := hW0 ▸ (Below.refl _ _).alloc (Nat.le_refl _) _
  have hs0 : W0.heap.size = w.heap.size + 1 := by rw [hW0]; simp
  have hb1 : Below W0.heap.size W0 W1 := hW1 ▸ (Below.refl _ _).alloc (Nat.le_refl _) _
  have hB1 : Blk W1 (w.heap.size + 1) 48 (cid false z16 0) := by rw [← hs0]; exact hW1 ▸ Blk.new W0 _ _
  have HW0 := Lib.hid hW0.symm
  have HW1 : Hid (W0.alloc (.cells #[.bool false, .int .u8 0, .int .u8 0, .int .u8 0, .int .u8 0, .int .u8 0, .int .u8 0, .int .u8 0, .int .u8 0, .int .u8 0, .int .u8 0, .int .u8 0, .int .u8 0, .int .u8 0, .int .u8 0, .int .u8 0, .int .u8 0, .int .i64 0] 48) = W1) := Lib.hid hW1.symm
  have HBa : Hid (Blk W1 (w.heap.size) 24 (adr s (ints B))) := Lib.hid (hB0.kept hb1)
  have HBr := Lib.hid hB1
  have Hb0 : Hid (Below w.heap.size w W1) := Lib.hid (bel2 hb0 hb1)
  have LA : Hid (17 = (adr s (ints B)).size) := Lib.hid (by rw [adr_size, ints_length, hl])
  have HL := Lib.hid hl
  have HBd := Lib.hid hB
  have CR := Lib.hid cR
  have hli : (ints B).length = 16 := by rw [ints_length, hl]
  have CB := Lib.hid (bits_any s (ints B) hli)
  have hwid : (if s then (128 : Int) else 32) = (wid s : Int) := by cases s <;> rfl
  rw [hwid] at CB
  have hw8 := wid_le s
  obtain ⟨m, hm⟩ : ∃ m, m = wid s := ⟨_, rfl⟩
  rw [← hm] at hN hw8 CB
  have q1 : decide ((N : Int) < 0) = false := decide_eq_false (by omega)
  have q2 : decide ((N : Int) > (m : Int)) = false := decide_eq_false (by omega)
  have q3 : decide (m < N) = false := decide_eq_false (by omega)
  clear hW0 hW1 hB0 hb0 hb1 hB1 hs0 hl hB cR hli hwid hm
  go_enter Tryz.func36, Tryz.ntmps36
  go_upto_region 1 with fail
  rw [HW0.out]
  rw [HW1.out]
  go_wp2_with (refine wpl_load 24 _ rfl w.heap.size rfl _ _ _ HBa.out Tryz.underlying24 rfl 17 Tryz.infoAddr LA.out rfl ?_)
  refine (CR.out W1).mono ?_
  rintro e w1 ⟨rfl, hb1⟩
  have HBa1 := Lib.hid (HBa.out.kept hb1)
  have HBr1 := Lib.hid (HBr.out.kept hb1)
  have Hb1 := Lib.hid (bel2 Hb0.out hb1)
  clear hb1 HBa HBr
  go_wp2_with (refine wpl_load 24 _ rfl w.heap.size rfl _ _ _ HBa1.out Tryz.underlying24 rfl 17 Tryz.infoAddr LA.out rfl ?_)
  refine (CB.out w1).mono ?_
  rintro e w2 ⟨rfl, hb2⟩
  have H2 : Hid (Blk w2 (w.heap.size) 24 (adr s (ints (cutTo B N 0))) ∧ Blk w2 (w.heap.size + 1) 48 (cid false z16 0) ∧ Below w.heap.size w w2) := Lib.hid ⟨by rw [cutTo_zero B HL.out]; exact HBa1.out.kept hb2, HBr1.out.kept hb2, bel2 Hb1.out hb2⟩
  clear hb2 HBa1 HBr1 Hb1 CR CB
  go_wp2
  go_loopw [22] (fun i wr => ∃ k : Nat, k ≤ 16 ∧ i = .int .i64 k ∧ Hid (Blk wr (w.heap.size) 24 (adr s (ints (cutTo B N k))) ∧ Blk wr (w.heap.size + 1) 48 (cid false z16 0) ∧ Below w.heap.size w wr)) (fun i _ => 16 - (intOf i).toNat)
  case atStart => exact ⟨0, Nat.zero_le _, rfl, H2.out⟩
  case round =>
    obtain ⟨k, hk, rfl, hh⟩ := hrel
    clear H2
    by_cases hlt : k < 16
    · obtain ⟨x, hx⟩ : ∃ x : Nat, x = B.getD k 0 := ⟨_, rfl⟩
      have hx8 : x < 256 := by rw [hx]; apply HBd.out; rw [List.getD, List.getElem?_eq_getElem (show k < B.length by rw [HL.out]; exact hlt)]; exact List.getElem_mem _
      have hc : wr.cell? ⟨w.heap.size, 1 + k, none⟩ = some (.int .u8 (x : Int)) := by rw [hh.out.1.cell, adr_at _ _ _ (by rw [ints_length, cutTo_length]; exact hlt), nth_ints, cutTo_at B N k hlt, hx]
      have hf := hh.out.1.frozen (1 + k)
      obtain ⟨y, hy⟩ : ∃ y : Nat, y = mskN (clampN ((N : Int) - 8 * k)) := ⟨_, rfl⟩
      have hy8 : y < 256 := by rw [hy]; unfold mskN; exact Nat.mod_lt _ (by decide)
      have e1 : IntKind.i64.wrap (8 * (k : Int)) = 8 * (k : Int) := by simp only [IntKind.wrap, IntKind.signed, IntKind.bits]; simp; omega
      have e2 : IntKind.i64.wrap ((N : Int) - 8 * (k : Int)) = (N : Int) - 8 * (k : Int) := by simp only [IntKind.wrap, IntKind.signed, IntKind.bits]; simp; omega
      have CM : Hid (∀ w, Calls Tryz.prog 72 #[.int .i64 ((N : Int) - 8 * (k : Int))] w fun e w' => e = .returned (.int .u8 (y : Int)) ∧ w' = w) := Lib.hid fun w => by rw [hy]; exact mask_any _ (by omega) (by omega) w
      have ea : bits .and .u8 (x : Int) (y : Int) = ((cutN B N k : Nat) : Int) := by rw [u8_and_nat x y hx8 hy8, hx, hy]; rfl
      have k0 : (0 : Int) ≤ (k : Int) := by omega
      have k1 : (k : Int) < 16 := by omega
      have HE : Hid (Blk (wr.drew.setCell ⟨w.heap.size, 1 + k, none⟩ (.int .u8 ((cutN B N k : Nat) : Int))) (w.heap.size) 24 (adr s (ints (cutTo B N (k + 1)))) ∧ Blk (wr.drew.setCell ⟨w.heap.size, 1 + k, none⟩ (.int .u8 ((cutN B N k : Nat) : Int))) (w.heap.size + 1) 48 (cid false z16 0) ∧ Below w.heap.size w (wr.drew.setCell ⟨w.heap.size, 1 + k, none⟩ (.int .u8 ((cutN B N k : Nat) : Int)))) := Lib.hid (by
        refine ⟨?_, ?_, ?_⟩
        · have := (hh.out.1.kept (below_drewN wr 1)).set (1 + k) (.int .u8 ((cutN B N k : Nat) : Int))
          rw [adr_set, ints_set, cutTo_succ] at this
          exact this
        · exact (hh.out.2.1.kept (below_drewN wr 1)).setOther (by omega) _ _
        · exact (bel2 hh.out.2.2 (below_drewN wr 1)).setCell (Nat.le_refl _) _)
      generalize hcut : cutN B N k = z at *
      clear hx hy hh hcut
      go_wp2_with fail
      go_still_tail 12, (by kernel_rfl)
      still_call (CM.out _)
      repeat still_step
      refine wpStill_nil ?_
      change wpList _ _ _ _ _ wr.drew
      have hcd : wr.drew.cell? ⟨w.heap.size, 1 + k, none⟩ = some (.int .u8 (x : Int)) := hc
      have hfd : wr.drew.frozen? ⟨w.heap.size, 1 + k, none⟩ = false := hf
      clear hc hf
      generalize wr.drew = wd at *
      go_wp2
      go_roundw
      case rel => exact ⟨k + 1, by omega, by go_num, HE.out⟩
      case measure => simp [intOf]; omega
    · obtain rfl : k = 16 := by omega
      obtain ⟨hBx, hBy, hbx⟩ := hh.out
      have HX := Lib.hid hBx
      have HY := Lib.hid hBy
      have Hb := Lib.hid hbx
      have HLi : Hid ((ints (cutTo B N 16)).length = 16) := Lib.hid (by rw [ints_length, cutTo_length])
      have L17 : Hid (17 = (adr s (ints (cutTo B N 16))).size) := Lib.hid (by rw [adr_size, HLi.out])
      have L18 : Hid (18 = (cid s (ints (cutTo B N 16)) N).size) := Lib.hid (by rw [cid_size, HLi.out])
      clear hh hBx hBy hbx
      go_wp2_with (first | (refine wpl_load 24 _ rfl w.heap.size rfl _ _ _ HX.out Tryz.underlying24 rfl 17 Tryz.infoAddr L17.out rfl ?_) | (refine wpl_run (.agg (cid s (ints (cutTo B N 16)) N)) _ (exec_build_cid (.tmp 38) (.tmp 39) rfl s (ints (cutTo B N 16)) HLi.out N rfl rfl _) rfl ?_) | (refine wpl_store 48 _ _ rfl (w.heap.size + 1) (cid s (ints (cutTo B N 16)) N) rfl rfl _ _ HY.out 18 Tryz.infoCidr L18.out rfl (cid_one _ _ _) rfl ?_))
      exact retA2 rfl (w.heap.size + 1) rfl _ _ _ (HY.out.row _) Tryz.underlying48 rfl 18 Tryz.infoCidr L18.out rfl _ rfl ⟨rfl, below_setRow Hb.out (by omega) _⟩
end Go.Proofs.YtambnnahgbegfaaGreatDoor
