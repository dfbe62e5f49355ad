/-
  cidr.Of, Contains, Right, Compare; Parse and Format where they succeed; alive.
-/
import Derived.Test.YtijboclcbbnhbaaGreatDoorQa
import Derived.Test.YtijboclcbbnhbaaGreatDoorNumr
import Derived.Test.YtijboclcbbnhbaaGreatDoorParsed
import Derived.StillTailTactics
namespace Go.Proofs.YtijboclcbbnhbaaGreatDoor
open Go.RowKit

/-- How many of a byte's bits are meant. -/
def clampN (n : Int) : Nat := if n ≤ 0 then 0 else if 8 ≤ n then 8 else n.toNat
/-- A byte's first bits. -/
def mskN (t : Nat) : Nat := 255 * 2 ^ (8 - t) % 256

theorem clamp_le (n : Int) : clampN n ≤ 8 := by
  unfold clampN
  split
  · omega
  · split <;> omega

theorem msk_of (n : Int) : (255 * 2 ^ (8 - min (max n 0) 8).toNat % 256 : Int) = ((mskN (clampN n) : Nat) : Int) := by
  have : (8 - min (max n 0) 8).toNat = 8 - clampN n := by
    unfold clampN
    split
    · rw [Int.max_eq_right (by omega), Int.min_eq_left (by omega)]; rfl
    · rw [Int.max_eq_left (by omega)]
      split
      · rw [Int.min_eq_right (by omega)]; rfl
      · rw [Int.min_eq_left (by omega)]; omega
  rw [this]
  unfold mskN
  simp

set_option maxHeartbeats 1000000 in
theorem mask_any (n : Int) (h1 : -1000 ≤ n) (h2 : n ≤ 1000) (w : World) :
    Calls Tryz.prog 49 #[.int .i64 n] w fun e w' => e = .returned (.int .u8 ((mskN (clampN n) : Nat) : Int)) ∧ w' = w := by
  go_enter Tryz.func49, Tryz.ntmps49
  go_wp2
  go_ret
  exact ⟨ret_int (msk_of n), rfl⟩

/-- A byte cut. -/
def cutN (B : List Nat) (N : Int) (j : Nat) : Nat := B.getD j 0 &&& mskN (clampN (N - 8 * j))
/-- The first k bytes cut. -/
def cutTo (B : List Nat) (N : Int) (k : Nat) : List Nat := (List.range 16).map fun j => if j < k then cutN B N j else B.getD j 0
theorem cutTo_length (B : List Nat) (N : Int) (k : Nat) : (cutTo B N k).length = 16 := by simp [cutTo]
theorem cutTo_zero (B : List Nat) (hl : B.length = 16) (N : Int) : cutTo B N 0 = B := by
  apply List.ext_getElem
  · simp [cutTo, hl]
  · intro i h1 h2
    simp [cutTo, List.getD, List.getElem?_eq_getElem h2]
theorem cutTo_succ (B : List Nat) (N : Int) (k : Nat) : (cutTo B N k).set k (cutN B N k) = cutTo B N (k + 1) := by
  apply List.ext_getElem
  · simp [cutTo]
  · intro i h1 h2
    simp only [cutTo, List.length_set, List.length_map, List.length_range] at h1
    rw [List.getElem_set]
    simp only [cutTo, List.getElem_map, List.getElem_range]
    by_cases e : k = i
    · subst e
      simp
    · rw [if_neg e]
      by_cases h : i < k
      · rw [if_pos h, if_pos (by omega)]
      · rw [if_neg h, if_neg (by omega)]
theorem cutTo_at (B : List Nat) (N : Int) (k : Nat) (hk : k < 16) : (cutTo B N k).getD k 0 = B.getD k 0 := by
  simp [cutTo, List.getD, hk]
theorem ints_set (l : List Nat) (k v : Nat) : (ints l).set k (v : Int) = ints (l.set k v) := by simp [ints, List.map_set]
theorem cut_lt (B : List Nat) (N : Int) (j : Nat) : cutN B N j < 256 := by
  unfold cutN
  refine Nat.lt_of_le_of_lt Nat.and_le_right ?_
  unfold mskN
  exact Nat.mod_lt _ (by decide)
theorem u8_and_nat (a b : Nat) (ha : a < 256) (hb : b < 256) : bits .and .u8 (a : Int) (b : Int) = ((a &&& b : Nat) : Int) := by
  have hx : a &&& b < 2 ^ 8 := Nat.and_lt_two_pow _ (by omega)
  have h8 : ∀ c : Nat, c < 256 → (BitVec.ofInt 8 (c : Int)).toNat = c := fun c hc => by simp; omega
  show IntKind.u8.wrap ((BitVec.ofInt 8 (a : Int) &&& BitVec.ofInt 8 (b : Int)).toNat : Int) = _
  rw [BitVec.toNat_and, h8 a ha, h8 b hb]
  simp only [IntKind.wrap, IntKind.signed, IntKind.bits]
  simp
  omega

theorem run_build_cid (s : Bool) (b : List Int) (hl : b.length = 16) (n : Int) (w : World) : (Instr.build 29 #[(0, .agg (adr s b)), (1, .int .i64 n)]).run Tryz.prog w = .ok (.agg (cid s b n)) w := by
  match b, hl with
  | [a0, a1, a2, a3, a4, a5, a6, a7, a8, a9, a10, a11, a12, a13, a14, a15], _ =>
    show _ = _
    kernel_rfl
theorem exec_build_cid {a : Act} {o : Oper} (x y : Operand) (ho : o.op = .build 29 #[(0, x), (1, y)]) (s : Bool) (b : List Int) (hl : b.length = 16) (n : Int) (hx : a.eval x = .agg (adr s b)) (hy : a.eval y = .int .i64 n) (w : World) :
    (execOp a.eval o).run Tryz.prog w = .ok (.value (.agg (cid s b n))) w := by
  unfold execOp
  simp only [ho, List.map_toArray, List.map_cons, List.map_nil, hx, hy, Sem.run_bind, Sem.run_pure, Result.andThen_ok, run_build_cid s b hl n]

theorem cid18 : cid false z16 0 = #[.bool false, .int .u8 0, .int .u8 0, .int .u8 0, .int .u8 0, .int .u8 0, .int .u8 0, .int .u8 0, .int .u8 0, .int .u8 0, .int .u8 0, .int .u8 0, .int .u8 0, .int .u8 0, .int .u8 0, .int .u8 0, .int .u8 0, .int .i64 0] := rfl

set_option maxRecDepth 100000 in
set_option maxHeartbeats 4000000 in
theorem of_good (s : Bool) (B : List Nat) (hl : B.length = 16) (hB : ∀ x ∈ B, x < 256) (N : Nat) (hN : N ≤ wid s) (w : World)
    (cR : ∀ w, Calls Tryz.prog 47 #[.agg (adr s (ints B))] w fun e w' => e = .returned (.bool true) ∧ Below w.heap.size w w') :
    Calls Tryz.prog 29 #[.agg (adr s (ints B)), .int .i64 (N : Int)] w fun e w' => e = .returned (.tuple #[.agg (cid s (ints (cutTo B N 16)) N), .nilIface]) ∧ Below w.heap.size w w' := by
  obtain ⟨W0, hW0⟩ : ∃ W, W = w.alloc (.cells (adr s (ints B)) 25) := ⟨_, rfl⟩
  obtain ⟨W1, hW1⟩ : ∃ W, W = W0.alloc (.cells (cid false z16 0) 29) := ⟨_, rfl⟩
  have hB0 : Blk W0 w.heap.size 25 (adr s (ints B)) := hW0 ▸ Blk.new w _ _
  have hb0 : Below w.heap.size w W0 := hW0 ▸ (Below.refl _ _).alloc (Nat.le_refl _) _
  have hs0 : W0.heap.size = w.heap.size + 1 := by rw [hW0]; simp
  have hb1 : Below W0.heap.size W0 W1 := hW1 ▸ (Below.refl _ _).alloc (Nat.le_refl _) _
  have hB1 : Blk W1 (w.heap.size + 1) 29 (cid false z16 0) := by rw [← hs0]; exact hW1 ▸ Blk.new W0 _ _
  have HW0 := Lib.hid hW0.symm
  have HW1 : Hid (W0.alloc (.cells #[.bool false, .int .u8 0, .int .u8 0, .int .u8 0, .int .u8 0, .int .u8 0, .int .u8 0, .int .u8 0, .int .u8 0, .int .u8 0, .int .u8 0, .int .u8 0, .int .u8 0, .int .u8 0, .int .u8 0, .int .u8 0, .int .u8 0, .int .i64 0] 29) = W1) := Lib.hid hW1.symm
  have HBa : Hid (Blk W1 (w.heap.size) 25 (adr s (ints B))) := Lib.hid (hB0.kept hb1)
  have HBr := Lib.hid hB1
  have Hb0 : Hid (Below w.heap.size w W1) := Lib.hid (bel2 hb0 hb1)
  have LA : Hid (17 = (adr s (ints B)).size) := Lib.hid (by rw [adr_size, ints_length, hl])
  have HL := Lib.hid hl
  have HBd := Lib.hid hB
  have CR := Lib.hid cR
  have hli : (ints B).length = 16 := by rw [ints_length, hl]
  have CB := Lib.hid (bits_any s (ints B) hli)
  have hwid : (if s then (128 : Int) else 32) = (wid s : Int) := by cases s <;> rfl
  rw [hwid] at CB
  have hw8 := wid_le s
  obtain ⟨m, hm⟩ : ∃ m, m = wid s := ⟨_, rfl⟩
  rw [← hm] at hN hw8 CB
  have q1 : decide ((N : Int) < 0) = false := decide_eq_false (by omega)
  have q2 : decide ((N : Int) > (m : Int)) = false := decide_eq_false (by omega)
  have q3 : decide (m < N) = false := decide_eq_false (by omega)
  clear hW0 hW1 hB0 hb0 hb1 hB1 hs0 hl hB cR hli hwid hm
  go_enter Tryz.func29, Tryz.ntmps29
  go_upto_region 1 with fail
  rw [HW0.out]
  rw [HW1.out]
  go_wp2_with (refine wpl_load 25 _ rfl w.heap.size rfl _ _ _ HBa.out Tryz.underlying25 rfl 17 Tryz.infoAddr LA.out rfl ?_)
  refine (CR.out W1).mono ?_
  rintro e w1 ⟨rfl, hb1⟩
  have HBa1 := Lib.hid (HBa.out.kept hb1)
  have HBr1 := Lib.hid (HBr.out.kept hb1)
  have Hb1 := Lib.hid (bel2 Hb0.out hb1)
  clear hb1 HBa HBr
  go_wp2_with (refine wpl_load 25 _ rfl w.heap.size rfl _ _ _ HBa1.out Tryz.underlying25 rfl 17 Tryz.infoAddr LA.out rfl ?_)
  refine (CB.out w1).mono ?_
  rintro e w2 ⟨rfl, hb2⟩
  have H2 : Hid (Blk w2 (w.heap.size) 25 (adr s (ints (cutTo B N 0))) ∧ Blk w2 (w.heap.size + 1) 29 (cid false z16 0) ∧ Below w.heap.size w w2) := Lib.hid ⟨by rw [cutTo_zero B HL.out]; exact HBa1.out.kept hb2, HBr1.out.kept hb2, bel2 Hb1.out hb2⟩
  clear hb2 HBa1 HBr1 Hb1 CR CB
  go_wp2
  go_loopw [22] (fun i wr => ∃ k : Nat, k ≤ 16 ∧ i = .int .i64 k ∧ Hid (Blk wr (w.heap.size) 25 (adr s (ints (cutTo B N k))) ∧ Blk wr (w.heap.size + 1) 29 (cid false z16 0) ∧ Below w.heap.size w wr)) (fun i _ => 16 - (intOf i).toNat)
  case atStart => exact ⟨0, Nat.zero_le _, rfl, H2.out⟩
  case round =>
    obtain ⟨k, hk, rfl, hh⟩ := hrel
    clear H2
    by_cases hlt : k < 16
    · obtain ⟨x, hx⟩ : ∃ x : Nat, x = B.getD k 0 := ⟨_, rfl⟩
      have hx8 : x < 256 := by rw [hx]; apply HBd.out; rw [List.getD, List.getElem?_eq_getElem (show k < B.length by rw [HL.out]; exact hlt)]; exact List.getElem_mem _
      have hc : wr.cell? ⟨w.heap.size, 1 + k, none⟩ = some (.int .u8 (x : Int)) := by rw [hh.out.1.cell, adr_at _ _ _ (by rw [ints_length, cutTo_length]; exact hlt), nth_ints, cutTo_at B N k hlt, hx]
      have hf := hh.out.1.frozen (1 + k)
      obtain ⟨y, hy⟩ : ∃ y : Nat, y = mskN (clampN ((N : Int) - 8 * k)) := ⟨_, rfl⟩
      have hy8 : y < 256 := by rw [hy]; unfold mskN; exact Nat.mod_lt _ (by decide)
      have e1 : IntKind.i64.wrap (8 * (k : Int)) = 8 * (k : Int) := by simp only [IntKind.wrap, IntKind.signed, IntKind.bits]; simp; omega
      have e2 : IntKind.i64.wrap ((N : Int) - 8 * (k : Int)) = (N : Int) - 8 * (k : Int) := by simp only [IntKind.wrap, IntKind.signed, IntKind.bits]; simp; omega
      have CM : Hid (∀ w, Calls Tryz.prog 49 #[.int .i64 ((N : Int) - 8 * (k : Int))] w fun e w' => e = .returned (.int .u8 (y : Int)) ∧ w' = w) := Lib.hid fun w => by rw [hy]; exact mask_any _ (by omega) (by omega) w
      have ea : bits .and .u8 (x : Int) (y : Int) = ((cutN B N k : Nat) : Int) := by rw [u8_and_nat x y hx8 hy8, hx, hy]; rfl
      have k0 : (0 : Int) ≤ (k : Int) := by omega
      have k1 : (k : Int) < 16 := by omega
      have HE : Hid (Blk (wr.drew.setCell ⟨w.heap.size, 1 + k, none⟩ (.int .u8 ((cutN B N k : Nat) : Int))) (w.heap.size) 25 (adr s (ints (cutTo B N (k + 1)))) ∧ Blk (wr.drew.setCell ⟨w.heap.size, 1 + k, none⟩ (.int .u8 ((cutN B N k : Nat) : Int))) (w.heap.size + 1) 29 (cid false z16 0) ∧ Below w.heap.size w (wr.drew.setCell ⟨w.heap.size, 1 + k, none⟩ (.int .u8 ((cutN B N k : Nat) : Int)))) := Lib.hid (by
        refine ⟨?_, ?_, ?_⟩
        · have := (hh.out.1.kept (below_drewN wr 1)).set (1 + k) (.int .u8 ((cutN B N k : Nat) : Int))
          rw [adr_set, ints_set, cutTo_succ] at this
          exact this
        · exact (hh.out.2.1.kept (below_drewN wr 1)).setOther (by omega) _ _
        · exact (bel2 hh.out.2.2 (below_drewN wr 1)).setCell (Nat.le_refl _) _)
      generalize hcut : cutN B N k = z at *
      clear hx hy hh hcut
      go_wp2_with fail
      go_still_tail 12, (by kernel_rfl)
      still_call (CM.out _)
      repeat still_step
      refine wpStill_nil ?_
      change wpList _ _ _ _ _ wr.drew
      have hcd : wr.drew.cell? ⟨w.heap.size, 1 + k, none⟩ = some (.int .u8 (x : Int)) := hc
      have hfd : wr.drew.frozen? ⟨w.heap.size, 1 + k, none⟩ = false := hf
      clear hc hf
      generalize wr.drew = wd at *
      go_wp2
      go_roundw
      case rel => exact ⟨k + 1, by omega, by go_num, HE.out⟩
      case measure => simp [intOf]; omega
    · obtain rfl : k = 16 := by omega
      obtain ⟨hBx, hBy, hbx⟩ := hh.out
      have HX := Lib.hid hBx
      have HY := Lib.hid hBy
      have Hb := Lib.hid hbx
      have HLi : Hid ((ints (cutTo B N 16)).length = 16) := Lib.hid (by rw [ints_length, cutTo_length])
      have L17 : Hid (17 = (adr s (ints (cutTo B N 16))).size) := Lib.hid (by rw [adr_size, HLi.out])
      have L18 : Hid (18 = (cid s (ints (cutTo B N 16)) N).size) := Lib.hid (by rw [cid_size, HLi.out])
      clear hh hBx hBy hbx
      go_wp2_with (first | (refine wpl_load 25 _ rfl w.heap.size rfl _ _ _ HX.out Tryz.underlying25 rfl 17 Tryz.infoAddr L17.out rfl ?_) | (refine wpl_run (.agg (cid s (ints (cutTo B N 16)) N)) _ (exec_build_cid (.tmp 38) (.tmp 39) rfl s (ints (cutTo B N 16)) HLi.out N rfl rfl _) rfl ?_) | (refine wpl_store 29 _ _ rfl (w.heap.size + 1) (cid s (ints (cutTo B N 16)) N) rfl rfl _ _ HY.out 18 Tryz.infoCidr L18.out rfl (cid_one _ _ _) rfl ?_))
      exact retA2 rfl (w.heap.size + 1) rfl _ _ _ (HY.out.row _) Tryz.underlying29 rfl 18 Tryz.infoCidr L18.out rfl _ rfl ⟨rfl, below_setRow Hb.out (by omega) _⟩
end Go.Proofs.YtijboclcbbnhbaaGreatDoor
namespace Go.Proofs.YtijboclcbbnhbaaGreatDoor
open Go.RowKit

set_option maxRecDepth 100000 in
set_option maxHeartbeats 4000000 in
theorem of_bad1 (s : Bool) (b : List Int) (hl : b.length = 16) (n : Int) (E : Value) (w : World)
    (cR : ∀ w, Calls Tryz.prog 47 #[.agg (adr s b)] w fun e w' => e = .returned (.bool false) ∧ Below w.heap.size w w') (hE : w.cell? ⟨1, 0, none⟩ = some E) :
    Calls Tryz.prog 29 #[.agg (adr s b), .int .i64 n] w fun e w' => e = .returned (.tuple #[.agg (cid false z16 0), E]) ∧ Below w.heap.size w w' := by
  obtain ⟨W0, hW0⟩ : ∃ W, W = w.alloc (.cells (adr s b) 25) := ⟨_, rfl⟩
  obtain ⟨W1, hW1⟩ : ∃ W, W = W0.alloc (.cells (cid false z16 0) 29) := ⟨_, rfl⟩
  have hB0 : Blk W0 w.heap.size 25 (adr s b) := hW0 ▸ Blk.new w _ _
  have hb0 : Below w.heap.size w W0 := hW0 ▸ (Below.refl _ _).alloc (Nat.le_refl _) _
  have hs0 : W0.heap.size = w.heap.size + 1 := by rw [hW0]; simp
  have hb1 : Below W0.heap.size W0 W1 := hW1 ▸ (Below.refl _ _).alloc (Nat.le_refl _) _
  have hB1 : Blk W1 (w.heap.size + 1) 29 (cid false z16 0) := by rw [← hs0]; exact hW1 ▸ Blk.new W0 _ _
  have HW0 := Lib.hid hW0.symm
  have HW1 : Hid (W0.alloc (.cells #[.bool false, .int .u8 0, .int .u8 0, .int .u8 0, .int .u8 0, .int .u8 0, .int .u8 0, .int .u8 0, .int .u8 0, .int .u8 0, .int .u8 0, .int .u8 0, .int .u8 0, .int .u8 0, .int .u8 0, .int .u8 0, .int .u8 0, .int .i64 0] 29) = W1) := Lib.hid hW1.symm
  have HBa : Hid (Blk W1 (w.heap.size) 25 (adr s b)) := Lib.hid (hB0.kept hb1)
  have HBr := Lib.hid hB1
  have Hb0 : Hid (Below w.heap.size w W1) := Lib.hid (bel2 hb0 hb1)
  have LA : Hid (17 = (adr s b).size) := Lib.hid (by rw [adr_size, hl])
  have HE := Lib.hid hE
  have CR := Lib.hid cR
  clear hW0 hW1 hB0 hb0 hb1 hB1 hs0 hl cR hE
  go_enter Tryz.func29, Tryz.ntmps29
  go_upto_region 1 with fail
  rw [HW0.out]
  rw [HW1.out]
  go_wp2_with (refine wpl_load 25 _ rfl w.heap.size rfl _ _ _ HBa.out Tryz.underlying25 rfl 17 Tryz.infoAddr LA.out rfl ?_)
  refine (CR.out W1).mono ?_
  rintro e w1 ⟨rfl, hb1⟩
  have HBa1 := Lib.hid (HBa.out.kept hb1)
  have HBr1 := Lib.hid (HBr.out.kept hb1)
  have Hb1 := Lib.hid (bel2 Hb0.out hb1)
  clear hb1
  go_wp2_with fail
  obtain ⟨wx, hwx⟩ : ∃ wx, wx = w1 := ⟨_, rfl⟩
  have HBx : Hid (Blk wx (w.heap.size + 1) 29 (cid false z16 0)) := Lib.hid (hwx ▸ HBr1.out)
  have Hbx : Hid (Below w.heap.size w wx) := Lib.hid (hwx ▸ Hb1.out)
  rw [← hwx]
  clear hwx
  obtain ⟨V, hV⟩ : ∃ V, V = wx := ⟨_, rfl⟩
  have hB5d : Blk V.drew (w.heap.size + 1) 29 (cid false z16 0) := hV ▸ HBx.out.kept (below_drewN wx 1)
  have HB5d := Lib.hid hB5d
  have Hb5 : Hid (Below w.heap.size w V) := Lib.hid (hV ▸ Hbx.out)
  have hform : V.cell? ⟨1, 0, none⟩ = some E := cell_kept HE.out (Hb5.out)
  have hform2 : (V.drew.setRow (w.heap.size + 1) (cid false z16 0)).cell? ⟨1, 0, none⟩ = some E := cell_kept HE.out (below_setRow (bel2 Hb5.out (below_drewN V 1)) (by omega) _)
  rw [← hV]
  clear hV hB5d
  refine wp_region_any (by kernel_rfl) ?_
  change wpAny _ _ _ _ _ _ _ (World.drew _)
  refine wpAny_take (i := 0) (v := .agg (cid false z16 0)) rfl (by kernel_rfl) (by kernel_rfl) (by kernel_rfl) (fun _ _ _ h => h) (Or.inl ⟨by rfl, fun w => by kernel_rfl⟩) ?_
  refine wpAny_ready (rs := [1, 2]) (by kernel_rfl) (by simp) ?_
  refine AllReady.cons rfl (fun K hK => ?_) (AllReady.cons rfl (fun K hK => ?_) AllReady.nil)
  · refine step_run E V.drew (by go_simp) rfl (hK _ _ ?_)
    refine wpAny_ready (rs := [2]) (by kernel_rfl) (by simp) ?_
    refine AllReady.cons rfl (fun K hK => ?_) AllReady.nil
    refine step_store 29 (.tmp 4) (.tmp 10) rfl (w.heap.size + 1) (cid false z16 0) rfl rfl 29 (cid false z16 0) HB5d.out 18 Tryz.infoCidr rfl rfl (cid_one _ _ _) rfl (hK _ _ ?_)
    refine wpAny_ready (rs := [3]) (by kernel_rfl) (by simp) ?_
    refine AllReady.cons rfl (fun K hK => ?_) AllReady.nil
    refine step_run E _ rfl rfl (hK _ _ ?_)
    refine wpAny_done (by kernel_rfl) ?_ _
    go_wp2
    exact retA2 rfl (w.heap.size + 1) rfl _ _ _ (HB5d.out.row _) Tryz.underlying29 rfl 18 Tryz.infoCidr rfl rfl _ rfl ⟨rfl, below_setRow (bel2 Hb5.out (below_drewN V 1)) (by omega) _⟩
  · refine step_store 29 (.tmp 4) (.tmp 10) rfl (w.heap.size + 1) (cid false z16 0) rfl rfl 29 (cid false z16 0) HB5d.out 18 Tryz.infoCidr rfl rfl (cid_one _ _ _) rfl (hK _ _ ?_)
    refine wpAny_ready (rs := [1]) (by kernel_rfl) (by simp) ?_
    refine AllReady.cons rfl (fun K hK => ?_) AllReady.nil
    refine step_run E (V.drew.setRow (w.heap.size + 1) (cid false z16 0)) (by go_simp) rfl (hK _ _ ?_)
    refine wpAny_ready (rs := [3]) (by kernel_rfl) (by simp) ?_
    refine AllReady.cons rfl (fun K hK => ?_) AllReady.nil
    refine step_run E _ rfl rfl (hK _ _ ?_)
    refine wpAny_done (by kernel_rfl) ?_ _
    go_wp2
    exact retA2 rfl (w.heap.size + 1) rfl _ _ _ (HB5d.out.row _) Tryz.underlying29 rfl 18 Tryz.infoCidr rfl rfl _ rfl ⟨rfl, below_setRow (bel2 Hb5.out (below_drewN V 1)) (by omega) _⟩

set_option maxRecDepth 100000 in
set_option maxHeartbeats 4000000 in
theorem of_neg (s : Bool) (b : List Int) (hl : b.length = 16) (n : Int) (E : Value) (w : World)
    (cR : ∀ w, Calls Tryz.prog 47 #[.agg (adr s b)] w fun e w' => e = .returned (.bool true) ∧ Below w.heap.size w w') (hE : w.cell? ⟨2, 0, none⟩ = some E) (hn : n < 0) :
    Calls Tryz.prog 29 #[.agg (adr s b), .int .i64 n] w fun e w' => e = .returned (.tuple #[.agg (cid false z16 0), E]) ∧ Below w.heap.size w w' := by
  obtain ⟨W0, hW0⟩ : ∃ W, W = w.alloc (.cells (adr s b) 25) := ⟨_, rfl⟩
  obtain ⟨W1, hW1⟩ : ∃ W, W = W0.alloc (.cells (cid false z16 0) 29) := ⟨_, rfl⟩
  have hB0 : Blk W0 w.heap.size 25 (adr s b) := hW0 ▸ Blk.new w _ _
  have hb0 : Below w.heap.size w W0 := hW0 ▸ (Below.refl _ _).alloc (Nat.le_refl _) _
  have hs0 : W0.heap.size = w.heap.size + 1 := by rw [hW0]; simp
  have hb1 : Below W0.heap.size W0 W1 := hW1 ▸ (Below.refl _ _).alloc (Nat.le_refl _) _
  have hB1 : Blk W1 (w.heap.size + 1) 29 (cid false z16 0) := by rw [← hs0]; exact hW1 ▸ Blk.new W0 _ _
  have HW0 := Lib.hid hW0.symm
  have HW1 : Hid (W0.alloc (.cells #[.bool false, .int .u8 0, .int .u8 0, .int .u8 0, .int .u8 0, .int .u8 0, .int .u8 0, .int .u8 0, .int .u8 0, .int .u8 0, .int .u8 0, .int .u8 0, .int .u8 0, .int .u8 0, .int .u8 0, .int .u8 0, .int .u8 0, .int .i64 0] 29) = W1) := Lib.hid hW1.symm
  have HBa : Hid (Blk W1 (w.heap.size) 25 (adr s b)) := Lib.hid (hB0.kept hb1)
  have HBr := Lib.hid hB1
  have Hb0 : Hid (Below w.heap.size w W1) := Lib.hid (bel2 hb0 hb1)
  have LA : Hid (17 = (adr s b).size) := Lib.hid (by rw [adr_size, hl])
  have HE := Lib.hid hE
  have CR := Lib.hid cR
  clear hW0 hW1 hB0 hb0 hb1 hB1 hs0 hl cR hE
  go_enter Tryz.func29, Tryz.ntmps29
  go_upto_region 1 with fail
  rw [HW0.out]
  rw [HW1.out]
  go_wp2_with (refine wpl_load 25 _ rfl w.heap.size rfl _ _ _ HBa.out Tryz.underlying25 rfl 17 Tryz.infoAddr LA.out rfl ?_)
  refine (CR.out W1).mono ?_
  rintro e w1 ⟨rfl, hb1⟩
  have HBa1 := Lib.hid (HBa.out.kept hb1)
  have HBr1 := Lib.hid (HBr.out.kept hb1)
  have Hb1 := Lib.hid (bel2 Hb0.out hb1)
  clear hb1
  go_wp2_with fail
  obtain ⟨wx, hwx⟩ : ∃ wx, wx = w1 := ⟨_, rfl⟩
  have HBx : Hid (Blk wx (w.heap.size + 1) 29 (cid false z16 0)) := Lib.hid (hwx ▸ HBr1.out)
  have Hbx : Hid (Below w.heap.size w wx) := Lib.hid (hwx ▸ Hb1.out)
  rw [← hwx]
  clear hwx
  obtain ⟨V, hV⟩ : ∃ V, V = wx := ⟨_, rfl⟩
  have hB5d : Blk V.drew (w.heap.size + 1) 29 (cid false z16 0) := hV ▸ HBx.out.kept (below_drewN wx 1)
  have HB5d := Lib.hid hB5d
  have Hb5 : Hid (Below w.heap.size w V) := Lib.hid (hV ▸ Hbx.out)
  have hform : V.cell? ⟨2, 0, none⟩ = some E := cell_kept HE.out (Hb5.out)
  have hform2 : (V.drew.setRow (w.heap.size + 1) (cid false z16 0)).cell? ⟨2, 0, none⟩ = some E := cell_kept HE.out (below_setRow (bel2 Hb5.out (below_drewN V 1)) (by omega) _)
  rw [← hV]
  clear hV hB5d
  refine wp_region_any (by kernel_rfl) ?_
  change wpAny _ _ _ _ _ _ _ (World.drew _)
  refine wpAny_take (i := 0) (v := .agg (cid false z16 0)) rfl (by kernel_rfl) (by kernel_rfl) (by kernel_rfl) (fun _ _ _ h => h) (Or.inl ⟨by rfl, fun w => by kernel_rfl⟩) ?_
  refine wpAny_ready (rs := [1, 2]) (by kernel_rfl) (by simp) ?_
  refine AllReady.cons rfl (fun K hK => ?_) (AllReady.cons rfl (fun K hK => ?_) AllReady.nil)
  · refine step_run E V.drew (by go_simp) rfl (hK _ _ ?_)
    refine wpAny_ready (rs := [2]) (by kernel_rfl) (by simp) ?_
    refine AllReady.cons rfl (fun K hK => ?_) AllReady.nil
    refine step_store 29 (.tmp 4) (.tmp 20) rfl (w.heap.size + 1) (cid false z16 0) rfl rfl 29 (cid false z16 0) HB5d.out 18 Tryz.infoCidr rfl rfl (cid_one _ _ _) rfl (hK _ _ ?_)
    refine wpAny_ready (rs := [3]) (by kernel_rfl) (by simp) ?_
    refine AllReady.cons rfl (fun K hK => ?_) AllReady.nil
    refine step_run E _ rfl rfl (hK _ _ ?_)
    refine wpAny_done (by kernel_rfl) ?_ _
    go_wp2
    exact retA2 rfl (w.heap.size + 1) rfl _ _ _ (HB5d.out.row _) Tryz.underlying29 rfl 18 Tryz.infoCidr rfl rfl _ rfl ⟨rfl, below_setRow (bel2 Hb5.out (below_drewN V 1)) (by omega) _⟩
  · refine step_store 29 (.tmp 4) (.tmp 20) rfl (w.heap.size + 1) (cid false z16 0) rfl rfl 29 (cid false z16 0) HB5d.out 18 Tryz.infoCidr rfl rfl (cid_one _ _ _) rfl (hK _ _ ?_)
    refine wpAny_ready (rs := [1]) (by kernel_rfl) (by simp) ?_
    refine AllReady.cons rfl (fun K hK => ?_) AllReady.nil
    refine step_run E (V.drew.setRow (w.heap.size + 1) (cid false z16 0)) (by go_simp) rfl (hK _ _ ?_)
    refine wpAny_ready (rs := [3]) (by kernel_rfl) (by simp) ?_
    refine AllReady.cons rfl (fun K hK => ?_) AllReady.nil
    refine step_run E _ rfl rfl (hK _ _ ?_)
    refine wpAny_done (by kernel_rfl) ?_ _
    go_wp2
    exact retA2 rfl (w.heap.size + 1) rfl _ _ _ (HB5d.out.row _) Tryz.underlying29 rfl 18 Tryz.infoCidr rfl rfl _ rfl ⟨rfl, below_setRow (bel2 Hb5.out (below_drewN V 1)) (by omega) _⟩

set_option maxRecDepth 100000 in
set_option maxHeartbeats 4000000 in
theorem of_big (s : Bool) (b : List Int) (hl : b.length = 16) (n : Int) (E : Value) (w : World)
    (cR : ∀ w, Calls Tryz.prog 47 #[.agg (adr s b)] w fun e w' => e = .returned (.bool true) ∧ Below w.heap.size w w')
    (m : Nat) (cB : ∀ w, Calls Tryz.prog 48 #[.agg (adr s b)] w fun e w' => e = .returned (.int .i64 (m : Int)) ∧ Below w.heap.size w w') (hE : w.cell? ⟨2, 0, none⟩ = some E) (hn : 0 ≤ n) (hm : (m : Int) < n) :
    Calls Tryz.prog 29 #[.agg (adr s b), .int .i64 n] w fun e w' => e = .returned (.tuple #[.agg (cid false z16 0), E]) ∧ Below w.heap.size w w' := by
  obtain ⟨W0, hW0⟩ : ∃ W, W = w.alloc (.cells (adr s b) 25) := ⟨_, rfl⟩
  obtain ⟨W1, hW1⟩ : ∃ W, W = W0.alloc (.cells (cid false z16 0) 29) := ⟨_, rfl⟩
  have hB0 : Blk W0 w.heap.size 25 (adr s b) := hW0 ▸ Blk.new w _ _
  have hb0 : Below w.heap.size w W0 := hW0 ▸ (Below.refl _ _).alloc (Nat.le_refl _) _
  have hs0 : W0.heap.size = w.heap.size + 1 := by rw [hW0]; simp
  have hb1 : Below W0.heap.size W0 W1 := hW1 ▸ (Below.refl _ _).alloc (Nat.le_refl _) _
  have hB1 : Blk W1 (w.heap.size + 1) 29 (cid false z16 0) := by rw [← hs0]; exact hW1 ▸ Blk.new W0 _ _
  have HW0 := Lib.hid hW0.symm
  have HW1 : Hid (W0.alloc (.cells #[.bool false, .int .u8 0, .int .u8 0, .int .u8 0, .int .u8 0, .int .u8 0, .int .u8 0, .int .u8 0, .int .u8 0, .int .u8 0, .int .u8 0, .int .u8 0, .int .u8 0, .int .u8 0, .int .u8 0, .int .u8 0, .int .u8 0, .int .i64 0] 29) = W1) := Lib.hid hW1.symm
  have HBa : Hid (Blk W1 (w.heap.size) 25 (adr s b)) := Lib.hid (hB0.kept hb1)
  have HBr := Lib.hid hB1
  have Hb0 : Hid (Below w.heap.size w W1) := Lib.hid (bel2 hb0 hb1)
  have LA : Hid (17 = (adr s b).size) := Lib.hid (by rw [adr_size, hl])
  have HE := Lib.hid hE
  have CR := Lib.hid cR
  have CB := Lib.hid cB
  have q1 : decide (n < 0) = false := decide_eq_false (by omega)
  have q2 : decide (n > (m : Int)) = true := decide_eq_true (by omega)
  have q3 : decide ((m : Int) < n) = true := decide_eq_true (by omega)
  clear hW0 hW1 hB0 hb0 hb1 hB1 hs0 hl cR hE cB
  go_enter Tryz.func29, Tryz.ntmps29
  go_upto_region 1 with fail
  rw [HW0.out]
  rw [HW1.out]
  go_wp2_with (refine wpl_load 25 _ rfl w.heap.size rfl _ _ _ HBa.out Tryz.underlying25 rfl 17 Tryz.infoAddr LA.out rfl ?_)
  refine (CR.out W1).mono ?_
  rintro e w1 ⟨rfl, hb1⟩
  have HBa1 := Lib.hid (HBa.out.kept hb1)
  have HBr1 := Lib.hid (HBr.out.kept hb1)
  have Hb1 := Lib.hid (bel2 Hb0.out hb1)
  clear hb1
  go_wp2_with (refine wpl_load 25 _ rfl w.heap.size rfl _ _ _ HBa1.out Tryz.underlying25 rfl 17 Tryz.infoAddr LA.out rfl ?_)
  refine (CB.out w1).mono ?_
  rintro e w2 ⟨rfl, hb2⟩
  have HBr2 := Lib.hid (HBr1.out.kept hb2)
  have Hb2 := Lib.hid (bel2 Hb1.out hb2)
  clear hb2
  go_wp2_with fail
  obtain ⟨wx, hwx⟩ : ∃ wx, wx = w2 := ⟨_, rfl⟩
  have HBx : Hid (Blk wx (w.heap.size + 1) 29 (cid false z16 0)) := Lib.hid (hwx ▸ HBr2.out)
  have Hbx : Hid (Below w.heap.size w wx) := Lib.hid (hwx ▸ Hb2.out)
  rw [← hwx]
  clear hwx
  obtain ⟨V, hV⟩ : ∃ V, V = wx := ⟨_, rfl⟩
  have hB5d : Blk V.drew (w.heap.size + 1) 29 (cid false z16 0) := hV ▸ HBx.out.kept (below_drewN wx 1)
  have HB5d := Lib.hid hB5d
  have Hb5 : Hid (Below w.heap.size w V) := Lib.hid (hV ▸ Hbx.out)
  have hform : V.cell? ⟨2, 0, none⟩ = some E := cell_kept HE.out (Hb5.out)
  have hform2 : (V.drew.setRow (w.heap.size + 1) (cid false z16 0)).cell? ⟨2, 0, none⟩ = some E := cell_kept HE.out (below_setRow (bel2 Hb5.out (below_drewN V 1)) (by omega) _)
  rw [← hV]
  clear hV hB5d
  refine wp_region_any (by kernel_rfl) ?_
  change wpAny _ _ _ _ _ _ _ (World.drew _)
  refine wpAny_take (i := 0) (v := .agg (cid false z16 0)) rfl (by kernel_rfl) (by kernel_rfl) (by kernel_rfl) (fun _ _ _ h => h) (Or.inl ⟨by rfl, fun w => by kernel_rfl⟩) ?_
  refine wpAny_ready (rs := [1, 2]) (by kernel_rfl) (by simp) ?_
  refine AllReady.cons rfl (fun K hK => ?_) (AllReady.cons rfl (fun K hK => ?_) AllReady.nil)
  · refine step_run E V.drew (by go_simp) rfl (hK _ _ ?_)
    refine wpAny_ready (rs := [2]) (by kernel_rfl) (by simp) ?_
    refine AllReady.cons rfl (fun K hK => ?_) AllReady.nil
    refine step_store 29 (.tmp 4) (.tmp 20) rfl (w.heap.size + 1) (cid false z16 0) rfl rfl 29 (cid false z16 0) HB5d.out 18 Tryz.infoCidr rfl rfl (cid_one _ _ _) rfl (hK _ _ ?_)
    refine wpAny_ready (rs := [3]) (by kernel_rfl) (by simp) ?_
    refine AllReady.cons rfl (fun K hK => ?_) AllReady.nil
    refine step_run E _ rfl rfl (hK _ _ ?_)
    refine wpAny_done (by kernel_rfl) ?_ _
    go_wp2
    exact retA2 rfl (w.heap.size + 1) rfl _ _ _ (HB5d.out.row _) Tryz.underlying29 rfl 18 Tryz.infoCidr rfl rfl _ rfl ⟨rfl, below_setRow (bel2 Hb5.out (below_drewN V 1)) (by omega) _⟩
  · refine step_store 29 (.tmp 4) (.tmp 20) rfl (w.heap.size + 1) (cid false z16 0) rfl rfl 29 (cid false z16 0) HB5d.out 18 Tryz.infoCidr rfl rfl (cid_one _ _ _) rfl (hK _ _ ?_)
    refine wpAny_ready (rs := [1]) (by kernel_rfl) (by simp) ?_
    refine AllReady.cons rfl (fun K hK => ?_) AllReady.nil
    refine step_run E (V.drew.setRow (w.heap.size + 1) (cid false z16 0)) (by go_simp) rfl (hK _ _ ?_)
    refine wpAny_ready (rs := [3]) (by kernel_rfl) (by simp) ?_
    refine AllReady.cons rfl (fun K hK => ?_) AllReady.nil
    refine step_run E _ rfl rfl (hK _ _ ?_)
    refine wpAny_done (by kernel_rfl) ?_ _
    go_wp2
    exact retA2 rfl (w.heap.size + 1) rfl _ _ _ (HB5d.out.row _) Tryz.underlying29 rfl 18 Tryz.infoCidr rfl rfl _ rfl ⟨rfl, below_setRow (bel2 Hb5.out (below_drewN V 1)) (by omega) _⟩

/-- What cidr.Of answers: the cidr of an address's first bits, or one of two errors. -/
def ofC (s : Bool) (B : List Nat) (n : Int) (EA ER : Value) : Array Value :=
  if (s || flat (ints B)) = true then (if 0 ≤ n ∧ n ≤ wid s then #[.agg (cid s (ints (cutTo B n 16)) n), .nilIface] else #[.agg (cid false z16 0), ER]) else #[.agg (cid false z16 0), EA]

theorem addrRight_any (s : Bool) (b : List Int) (hl : b.length = 16) (w : World) : Calls Tryz.prog 47 #[.agg (adr s b)] w fun e w' => e = .returned (.bool (s || flat b)) ∧ Below w.heap.size w w' := by
  cases s with
  | true => exact (right_six b w).mono fun e w' h => ⟨by rw [h.1]; rfl, h.2⟩
  | false => exact (right_four b hl w).mono fun e w' h => ⟨by rw [h.1]; rfl, h.2⟩

/-- What package-level variables cidr.Of reads. -/
structure Env3 (EA ER : Value) (w : World) : Prop where
  adr : w.cell? ⟨1, 0, none⟩ = some EA
  rng : w.cell? ⟨2, 0, none⟩ = some ER
theorem Env3.kept {EA ER : Value} {w w' : World} (h : Env3 EA ER w) (hb : Below w.heap.size w w') : Env3 EA ER w' := ⟨cell_kept h.adr hb, cell_kept h.rng hb⟩

theorem of_any (s : Bool) (B : List Nat) (hl : B.length = 16) (hB : ∀ x ∈ B, x < 256) (n : Int) (EA ER : Value) (w : World) (hE : Env3 EA ER w) :
    Calls Tryz.prog 29 #[.agg (adr s (ints B)), .int .i64 n] w fun e w' => e = .returned (.tuple (ofC s B n EA ER)) ∧ Below w.heap.size w w' := by
  have hli : (ints B).length = 16 := by rw [ints_length, hl]
  have cR := addrRight_any s (ints B) hli
  have cB := bits_any s (ints B) hli
  have hwid : (if s then (128 : Int) else 32) = (wid s : Int) := by cases s <;> rfl
  rw [hwid] at cB
  unfold ofC
  cases hr : (s || flat (ints B)) with
  | false =>
    rw [hr] at cR
    rw [if_neg (by simp)]
    exact of_bad1 s (ints B) hli n EA w cR hE.adr
  | true =>
    rw [hr] at cR
    rw [if_pos rfl]
    by_cases h0 : 0 ≤ n
    · by_cases h1 : n ≤ wid s
      · rw [if_pos ⟨h0, h1⟩]
        obtain ⟨N, rfl⟩ : ∃ N : Nat, n = N := ⟨n.toNat, by omega⟩
        exact of_good s B hl hB N (by omega) w cR
      · rw [if_neg (by omega)]
        exact of_big s (ints B) hli n ER w cR (wid s) cB hE.rng h0 (by omega)
    · rw [if_neg (by omega)]
      exact of_neg s (ints B) hli n ER w cR hE.rng (by omega)
end Go.Proofs.YtijboclcbbnhbaaGreatDoor
namespace Go.Proofs.YtijboclcbbnhbaaGreatDoor
open Go.RowKit

set_option maxRecDepth 100000 in
set_option maxHeartbeats 4000000 in
theorem cont_walk (cs sa : Bool) (cb ab : List Int) (hlc : cb.length = 16) (hla : ab.length = 16) (n : Int) (so : Bool) (ob : List Int) (hlo : ob.length = 16) (m : Int) (E : Value) (R : Bool) (EA ER : Value) (w : World) (hE : Env3 EA ER w)
    (hR : (E = .nilIface ∧ R = ((so == cs && ob == cb) && m == n)) ∨ ((∃ u p, E = .iface u p) ∧ R = false))
    (cO : ∀ w, Env3 EA ER w → Calls Tryz.prog 29 #[.agg (adr sa ab), .int .i64 n] w fun e w' => e = .returned (.tuple #[.agg (cid so ob m), E]) ∧ Below w.heap.size w w') :
    Calls Tryz.prog 11 #[.agg (cid cs cb n), .agg (adr sa ab)] w fun e w' => e = .returned (.bool R) ∧ Below w.heap.size w w' := by
  obtain ⟨W0, hW0⟩ : ∃ W, W = w.alloc (.cells (cid cs cb n) 29) := ⟨_, rfl⟩
  obtain ⟨W1, hW1⟩ : ∃ W, W = W0.alloc (.cells (adr sa ab) 25) := ⟨_, rfl⟩
  have hB0 : Blk W0 w.heap.size 29 (cid cs cb n) := hW0 ▸ Blk.new w _ _
  have hb0 : Below w.heap.size w W0 := hW0 ▸ (Below.refl _ _).alloc (Nat.le_refl _) _
  have hs0 : W0.heap.size = w.heap.size + 1 := by rw [hW0]; simp
  have hb1 : Below W0.heap.size W0 W1 := hW1 ▸ (Below.refl _ _).alloc (Nat.le_refl _) _
  have hB1 : Blk W1 (w.heap.size + 1) 25 (adr sa ab) := by rw [← hs0]; exact hW1 ▸ Blk.new W0 _ _
  have HW0 := Lib.hid hW0.symm
  have HW1 := Lib.hid hW1.symm
  have HBc : Hid (Blk W1 (w.heap.size) 29 (cid cs cb n)) := Lib.hid (hB0.kept hb1)
  have HBa := Lib.hid hB1
  have Hb0 : Hid (Below w.heap.size w W1) := Lib.hid (bel2 hb0 hb1)
  have LA : Hid (17 = (adr sa ab).size) := Lib.hid (by rw [adr_size, hla])
  have L18 : Hid (18 = (cid cs cb n).size) := Lib.hid (by rw [cid_size, hlc])
  have L18o : Hid (18 = (cid so ob m).size) := Lib.hid (by rw [cid_size, hlo])
  have c17 : W1.cell? ⟨w.heap.size, 17, none⟩ = some (.int .i64 n) := cid_bitsCell HBc.out hlc
  have HE1 : Hid (Env3 EA ER W1) := Lib.hid (hE.kept Hb0.out)
  have CO := Lib.hid cO
  have hq := eql_cid so cs ob cb m n hlo hlc
  have HR := Lib.hid hR
  clear hW0 hW1 hB0 hb0 hb1 hB1 hs0 hlc hla hlo hE cO hR
  go_enter Tryz.func11, Tryz.ntmps11
  go_upto_region 1 with fail
  rw [HW0.out]
  rw [HW1.out]
  go_wp2_with (refine wpl_load 25 _ rfl (w.heap.size + 1) rfl _ _ _ HBa.out Tryz.underlying25 rfl 17 Tryz.infoAddr LA.out rfl ?_)
  refine (CO.out W1 HE1.out).mono ?_
  rintro e w2 ⟨rfl, hb2⟩
  have HBc2 := Lib.hid (HBc.out.kept hb2)
  have Hb2 := Lib.hid (bel2 Hb0.out hb2)
  have hsz : w.heap.size < w2.heap.size := HBc2.out.lt
  obtain ⟨W3, hW3⟩ : ∃ W, W = w2.alloc (.cells (cid false z16 0) 29) := ⟨_, rfl⟩
  have hB3 : Blk W3 w2.heap.size 29 (cid false z16 0) := hW3 ▸ Blk.new w2 _ _
  have hb3 : Below w2.heap.size w2 W3 := hW3 ▸ (Below.refl _ _).alloc (Nat.le_refl _) _
  have HW3 : Hid (w2.alloc (.cells #[.bool false, .int .u8 0, .int .u8 0, .int .u8 0, .int .u8 0, .int .u8 0, .int .u8 0, .int .u8 0, .int .u8 0, .int .u8 0, .int .u8 0, .int .u8 0, .int .u8 0, .int .u8 0, .int .u8 0, .int .u8 0, .int .u8 0, .int .i64 0] 29) = W3) := Lib.hid hW3.symm
  have HB3 := Lib.hid hB3
  obtain ⟨V, hV⟩ : ∃ V, V = W3.setRow w2.heap.size (cid so ob m) := ⟨_, rfl⟩
  have HV := Lib.hid hV.symm
  have HBV : Hid (Blk V w2.heap.size 29 (cid so ob m)) := Lib.hid (hV ▸ hB3.row _)
  have HBc3 : Hid (Blk V (w.heap.size) 29 (cid cs cb n)) := Lib.hid (hV ▸ (HBc2.out.kept hb3).rowOther (by omega) _)
  have HbV : Hid (Below w.heap.size w V) := Lib.hid (hV ▸ below_setRow (bel2 Hb2.out hb3) (by omega) _)
  clear hb2 hW3 hB3 hb3 hV c17
  rcases HR.out with ⟨rfl, rfl⟩ | ⟨⟨u, p, rfl⟩, rfl⟩
  · obtain ⟨q, hqq⟩ : ∃ q, q = ((so == cs && ob == cb) && m == n) := ⟨_, rfl⟩
    rw [← hqq] at hq HR
    have HQ := Lib.hid hqq
    clear hqq
    go_wp2_with ((try rw [HW3.out]); first | (refine wpl_store 29 _ _ rfl w2.heap.size (cid so ob m) rfl rfl _ _ HB3.out 18 Tryz.infoCidr L18o.out rfl (cid_one _ _ _) rfl ?_; rw [HV.out]) | (refine wpl_load 29 _ rfl w2.heap.size rfl _ _ _ HBV.out Tryz.underlying29 rfl 18 Tryz.infoCidr L18o.out rfl ?_) | (refine wpl_load 29 _ rfl w.heap.size rfl _ _ _ HBc3.out Tryz.underlying29 rfl 18 Tryz.infoCidr L18.out rfl ?_))
    go_ret
    exact ⟨by rw [← HQ.out]; rfl, HbV.out⟩
  · go_wp2_with ((try rw [HW3.out]); first | (refine wpl_store 29 _ _ rfl w2.heap.size (cid so ob m) rfl rfl _ _ HB3.out 18 Tryz.infoCidr L18o.out rfl (cid_one _ _ _) rfl ?_; rw [HV.out]))
    go_ret
    exact ⟨rfl, HbV.out⟩

/-- What cidr.Contains answers. -/
def contC (cs : Bool) (C : List Nat) (n : Int) (sa : Bool) (A : List Nat) : Bool := ((sa || flat (ints A)) && (decide (0 ≤ n ∧ n ≤ wid sa))) && (sa == cs && ints (cutTo A n 16) == ints C)

theorem cont_any (cs sa : Bool) (C A : List Nat) (hlc : C.length = 16) (hla : A.length = 16) (hA : ∀ x ∈ A, x < 256) (n : Int) (u u' : TypeId) (p p' : Value) (w : World) (hE : Env3 (.iface u p) (.iface u' p') w) :
    Calls Tryz.prog 11 #[.agg (cid cs (ints C) n), .agg (adr sa (ints A))] w fun e w' => e = .returned (.bool (contC cs C n sa A)) ∧ Below w.heap.size w w' := by
  have hli : (ints C).length = 16 := by rw [ints_length, hlc]
  have hlj : (ints A).length = 16 := by rw [ints_length, hla]
  have cO := fun w hE => of_any sa A hla hA n (.iface u p) (.iface u' p') w hE
  unfold ofC at cO
  unfold contC
  cases hr : (sa || flat (ints A)) with
  | false =>
    rw [hr, if_neg (by simp)] at cO
    exact cont_walk cs sa (ints C) (ints A) hli hlj n false z16 rfl 0 (.iface u p) false _ _ w hE (.inr ⟨⟨u, p, rfl⟩, rfl⟩) cO
  | true =>
    rw [hr, if_pos rfl] at cO
    by_cases h : 0 ≤ n ∧ n ≤ wid sa
    · rw [if_pos h] at cO
      rw [decide_eq_true h]
      refine cont_walk cs sa (ints C) (ints A) hli hlj n sa (ints (cutTo A n 16)) (by rw [ints_length, cutTo_length]) n .nilIface _ _ _ w hE (.inl ⟨rfl, ?_⟩) cO
      simp
    · rw [if_neg h] at cO
      rw [decide_eq_false h]
      exact cont_walk cs sa (ints C) (ints A) hli hlj n false z16 rfl 0 (.iface u' p') false _ _ w hE (.inr ⟨⟨u', p', rfl⟩, rfl⟩) cO

set_option maxRecDepth 100000 in
set_option maxHeartbeats 4000000 in
theorem cright_any (cs : Bool) (C : List Nat) (hlc : C.length = 16) (hC : ∀ x ∈ C, x < 256) (n : Int) (u u' : TypeId) (p p' : Value) (w : World) (hE : Env3 (.iface u p) (.iface u' p') w) :
    Calls Tryz.prog 18 #[.agg (cid cs (ints C) n)] w fun e w' => e = .returned (.bool (contC cs C n cs C)) ∧ Below w.heap.size w w' := by
  obtain ⟨W0, hW0⟩ : ∃ W, W = w.alloc (.cells (cid cs (ints C) n) 29) := ⟨_, rfl⟩
  have hB0 : Blk W0 w.heap.size 29 (cid cs (ints C) n) := hW0 ▸ Blk.new w _ _
  have hb0 : Below w.heap.size w W0 := hW0 ▸ (Below.refl _ _).alloc (Nat.le_refl _) _
  have hli : (ints C).length = 16 := by rw [ints_length, hlc]
  have HW0 := Lib.hid hW0.symm
  have HB0 := Lib.hid hB0
  have Hb0 := Lib.hid hb0
  have HLi := Lib.hid hli
  have L18 : Hid (18 = (cid cs (ints C) n).size) := Lib.hid (by rw [cid_size, hli])
  have CC := Lib.hid (cont_any cs cs C C hlc hlc hC n u u' p p' W0 (hE.kept hb0))
  clear hW0 hB0 hb0 hli hlc hC hE
  go_enter Tryz.func18, Tryz.ntmps18
  go_upto_region 1 with fail
  rw [HW0.out]
  go_wp2_with (first | (refine wpl_load 29 _ rfl w.heap.size rfl _ _ _ HB0.out Tryz.underlying29 rfl 18 Tryz.infoCidr L18.out rfl ?_) | (refine wpl_load_addr _ rfl w.heap.size rfl cs (ints C) n HB0.out HLi.out rfl ?_))
  refine CC.out.mono ?_
  rintro e w2 ⟨rfl, hb2⟩
  go_wp2
  go_ret
  exact ⟨rfl, bel2 Hb0.out hb2⟩

set_option maxRecDepth 100000 in
set_option maxHeartbeats 4000000 in
theorem ccov_walk (cs ds : Bool) (cb db : List Int) (hlc : cb.length = 16) (hld : db.length = 16) (n m : Int) (r q : Bool) (EA ER : Value) (w : World) (hE : Env3 EA ER w)
    (cR : ∀ w, Env3 EA ER w → Calls Tryz.prog 18 #[.agg (cid ds db m)] w fun e w' => e = .returned (.bool r) ∧ Below w.heap.size w w')
    (cQ : ∀ w, Env3 EA ER w → Calls Tryz.prog 11 #[.agg (cid cs cb n), .agg (adr ds db)] w fun e w' => e = .returned (.bool q) ∧ Below w.heap.size w w') :
    Calls Tryz.prog 14 #[.agg (cid cs cb n), .agg (cid ds db m)] w fun e w' => e = .returned (.bool ((r && decide (n ≤ m)) && q)) ∧ Below w.heap.size w w' := by
  obtain ⟨W0, hW0⟩ : ∃ W, W = w.alloc (.cells (cid cs cb n) 29) := ⟨_, rfl⟩
  obtain ⟨W1, hW1⟩ : ∃ W, W = W0.alloc (.cells (cid ds db m) 29) := ⟨_, rfl⟩
  have hB0 : Blk W0 w.heap.size 29 (cid cs cb n) := hW0 ▸ Blk.new w _ _
  have hb0 : Below w.heap.size w W0 := hW0 ▸ (Below.refl _ _).alloc (Nat.le_refl _) _
  have hs0 : W0.heap.size = w.heap.size + 1 := by rw [hW0]; simp
  have hb1 : Below W0.heap.size W0 W1 := hW1 ▸ (Below.refl _ _).alloc (Nat.le_refl _) _
  have hB1 : Blk W1 (w.heap.size + 1) 29 (cid ds db m) := by rw [← hs0]; exact hW1 ▸ Blk.new W0 _ _
  have HW0 := Lib.hid hW0.symm
  have HW1 := Lib.hid hW1.symm
  have HBc : Hid (Blk W1 (w.heap.size) 29 (cid cs cb n)) := Lib.hid (hB0.kept hb1)
  have HBd := Lib.hid hB1
  have Hb0 : Hid (Below w.heap.size w W1) := Lib.hid (bel2 hb0 hb1)
  have HE := Lib.hid (hE.kept Hb0.out)
  have L18 : Hid (18 = (cid cs cb n).size) := Lib.hid (by rw [cid_size, hlc])
  have L18d : Hid (18 = (cid ds db m).size) := Lib.hid (by rw [cid_size, hld])
  have LD := Lib.hid hld
  have LC := Lib.hid hlc
  have CR := Lib.hid cR
  have CQ := Lib.hid cQ
  clear hW0 hW1 hB0 hb0 hb1 hB1 hlc hld cR cQ hs0 hE
  go_enter Tryz.func14, Tryz.ntmps14
  go_upto_region 1 with fail
  rw [HW0.out]
  rw [HW1.out]
  go_wp2_with (refine wpl_load 29 _ rfl (w.heap.size + 1) rfl _ _ _ HBd.out Tryz.underlying29 rfl 18 Tryz.infoCidr L18d.out rfl ?_)
  refine (CR.out W1 HE.out).mono ?_
  rintro e w1 ⟨rfl, hb1⟩
  have HBc1 := Lib.hid (HBc.out.kept hb1)
  have HBd1 := Lib.hid (HBd.out.kept hb1)
  have Hb1 := Lib.hid (bel2 Hb0.out hb1)
  have HE1 := Lib.hid (HE.out.kept hb1)
  have c0 : w1.cell? ⟨w.heap.size, 17, none⟩ = some (.int .i64 n) := cid_bitsCell HBc1.out LC.out
  have c1 : w1.cell? ⟨w.heap.size + 1, 17, none⟩ = some (.int .i64 m) := cid_bitsCell HBd1.out LD.out
  clear hb1
  cases r with
  | false =>
    go_wp2
    go_ret
    exact ⟨rfl, Hb1.out⟩
  | true =>
    by_cases hnm : n ≤ m
    · have qn : decide (n ≤ m) = true := decide_eq_true hnm
      go_wp2_with (first | (refine wpl_load 29 _ rfl w.heap.size rfl _ _ _ HBc1.out Tryz.underlying29 rfl 18 Tryz.infoCidr L18.out rfl ?_) | (refine wpl_load_addr _ rfl (w.heap.size + 1) rfl ds db m HBd1.out LD.out rfl ?_))
      refine (CQ.out w1 HE1.out).mono ?_
      rintro e w2 ⟨rfl, hb2⟩
      have HQn := Lib.hid qn
      go_wp2
      go_ret
      exact ⟨by rw [HQn.out]; rfl, bel2 Hb1.out hb2⟩
    · have qn : decide (n ≤ m) = false := decide_eq_false hnm
      have HQn := Lib.hid qn
      go_wp2
      go_ret
      exact ⟨by rw [HQn.out]; rfl, Hb1.out⟩
end Go.Proofs.YtijboclcbbnhbaaGreatDoor
namespace Go.Proofs.YtijboclcbbnhbaaGreatDoor
open Go.RowKit

/-- A bit of bytes, as a natural number. -/
def bitn (B : List Nat) (i : Nat) : Nat := B.getD (i / 8) 0 / 2 ^ (7 - i % 8) % 2
theorem bitN_ints (B : List Nat) (i : Nat) : bitN (ints B) i = (bitn B i : Int) := by
  unfold bitN bitn
  rw [nth_ints]
  simp

theorem msk_bit : ∀ t : Fin 9, ∀ k : Fin 8, (mskN t.val).testBit (7 - k.val) = decide (k.val < t.val) := by decide +kernel

theorem and_bit (x t k : Nat) (ht : t ≤ 8) (hk : k < 8) : (x &&& mskN t) / 2 ^ (7 - k) % 2 = if k < t then x / 2 ^ (7 - k) % 2 else 0 := by
  have h := msk_bit ⟨t, by omega⟩ ⟨k, hk⟩
  simp only at h
  rw [← Nat.toNat_testBit, Nat.testBit_and, h, ← Nat.toNat_testBit]
  by_cases hkt : k < t
  · rw [if_pos hkt, decide_eq_true hkt, Bool.and_true]
  · rw [if_neg hkt, decide_eq_false hkt, Bool.and_false]
    rfl

theorem byte_eq (x y : Nat) (hx : x < 256) (hy : y < 256) (h : ∀ k, k < 8 → x / 2 ^ (7 - k) % 2 = y / 2 ^ (7 - k) % 2) : x = y := by
  apply Nat.eq_of_testBit_eq
  intro i
  by_cases hi : i < 8
  · have := h (7 - i) (by omega)
    rw [show 7 - (7 - i) = i by omega, ← Nat.toNat_testBit, ← Nat.toNat_testBit] at this
    cases h1 : x.testBit i <;> cases h2 : y.testBit i <;> simp_all
  · have h256 : 256 ≤ 2 ^ i := by
      have : 2 ^ 8 ≤ 2 ^ i := Nat.pow_le_pow_right (by decide) (by omega)
      omega
    rw [Nat.testBit_lt_two_pow (by omega), Nat.testBit_lt_two_pow (by omega)]

theorem list_eq_bits (X Y : List Nat) (hx : X.length = 16) (hy : Y.length = 16) (lx : ∀ x ∈ X, x < 256) (ly : ∀ x ∈ Y, x < 256) (h : ∀ i, i < 128 → bitn X i = bitn Y i) : X = Y := by
  apply List.ext_getElem (by omega)
  intro j h1 h2
  apply byte_eq _ _ (lx _ (List.getElem_mem h1)) (ly _ (List.getElem_mem h2))
  intro k hk
  have := h (8 * j + k) (by omega)
  unfold bitn at this
  rw [show (8 * j + k) / 8 = j by omega, show (8 * j + k) % 8 = k by omega] at this
  simpa [List.getD, List.getElem?_eq_getElem h1, List.getElem?_eq_getElem h2] using this

theorem cut_at16 (A : List Nat) (n : Int) (j : Nat) (hj : j < 16) : (cutTo A n 16).getD j 0 = cutN A n j := by
  simp [cutTo, List.getD, hj]

theorem bit_cut (A : List Nat) (N i : Nat) (hi : i < 128) : bitn (cutTo A N 16) i = if i < N then bitn A i else 0 := by
  unfold bitn
  rw [cut_at16 A N (i / 8) (by omega)]
  unfold cutN
  rw [and_bit _ _ _ (clamp_le _) (by omega)]
  have hc : (i % 8 < clampN ((N : Int) - 8 * (i / 8 : Nat))) ↔ i < N := by
    unfold clampN
    split
    · constructor <;> intro h <;> omega
    · split
      · constructor <;> intro h <;> omega
      · constructor <;> intro h <;> omega
  by_cases h : i < N
  · rw [if_pos (hc.2 h), if_pos h]
  · rw [if_neg (fun h' => h (hc.1 h')), if_neg h]

theorem cutTo_lt (A : List Nat) (n : Int) : ∀ x ∈ cutTo A n 16, x < 256 := by
  intro x hx
  simp only [cutTo, List.mem_map, List.mem_range] at hx
  obtain ⟨j, hj, rfl⟩ := hx
  rw [if_pos hj]
  exact cut_lt A n j

theorem flat_byte (B : List Nat) (h : flat (ints B) = true) (j : Nat) (h4 : 4 ≤ j) (h16 : j < 16) : B.getD j 0 = 0 := by
  rcases Nat.eq_zero_or_pos (B.getD j 0) with e | e
  · exact e
  · have := flat_not (ints B) j h4 h16 (by rw [nth_ints]; omega)
    rw [h] at this
    cases this

theorem ints_inj {X Y : List Nat} (h : ints X = ints Y) : X = Y := by
  unfold ints at h
  exact List.map_inj_right (fun a b e => Int.ofNat.inj e) |>.1 h

theorem cont_iff (s : Bool) (C A : List Nat) (hlc : C.length = 16) (hC : ∀ x ∈ C, x < 256) (N : Nat) (hN : N ≤ wid s) (hr : (s || flat (ints A)) = true) :
    (ints (cutTo A N 16) == ints C) = (rightC s (ints C) N && agreeB (ints A) (ints C) N) := by
  have hw := wid_le s
  rw [Bool.eq_iff_iff, beq_iff_eq, Bool.and_eq_true]
  constructor
  · intro h
    have h := (ints_inj h).symm
    subst h
    refine ⟨?_, agreeB_of _ _ _ fun j hj => ?_⟩
    · unfold rightC
      rw [decide_eq_true (show (0 : Int) ≤ (N : Int) by omega), decide_eq_true (show (N : Int) ≤ (wid s : Int) by omega), Bool.true_and, Bool.true_and, Int.toNat_natCast, Bool.and_eq_true]
      refine ⟨?_, zeroB_of _ _ _ fun j h1 h2 => ?_⟩
      · cases s with
        | true => rfl
        | false =>
          simp only [Bool.false_or] at hr ⊢
          refine flat_of _ (by rw [ints_length, cutTo_length]) fun j h4 h16 => ?_
          rw [nth_ints, cut_at16 A N j h16]
          unfold cutN
          rw [flat_byte A hr j h4 h16, Nat.zero_and]
          rfl
      · rw [bitN_ints, bit_cut A N j (by omega), if_neg (by omega)]
        rfl
    · rw [bitN_ints, bitN_ints, bit_cut A N j (by omega), if_pos hj]
  · rintro ⟨h1, h2⟩
    unfold rightC at h1
    simp only [Bool.and_eq_true, decide_eq_true_eq, Int.toNat_natCast] at h1
    obtain ⟨hf, _, _, hz⟩ := h1
    congr 1
    apply list_eq_bits _ _ (cutTo_length _ _ _) hlc (cutTo_lt A N) hC
    intro i hi
    rw [bit_cut A N i hi]
    by_cases h : i < N
    · rw [if_pos h]
      have := List.all_eq_true.1 h2 i (List.mem_range.2 h)
      rw [beq_iff_eq, bitN_ints, bitN_ints] at this
      omega
    · rw [if_neg h]
      by_cases hwd : i < wid s
      · have := List.all_eq_true.1 hz i (List.mem_range.2 hwd)
        rw [decide_eq_false h, Bool.false_or, beq_iff_eq, bitN_ints] at this
        omega
      · cases s with
        | true => exact absurd hi (by simp only [wid, if_true] at hwd; omega)
        | false =>
          simp only [Bool.false_or] at hf
          simp only [wid, Bool.false_eq_true, if_false] at hwd
          unfold bitn
          rw [flat_byte C hf (i / 8) (by omega) (by omega)]
          simp

theorem cont_eq (cs sa : Bool) (C A : List Nat) (hlc : C.length = 16) (hC : ∀ x ∈ C, x < 256) (n : Int) : contC cs C n sa A = containsC cs (ints C) n sa (ints A) := by
  unfold contC containsC
  cases hr : (sa || flat (ints A)) with
  | false => simp
  | true =>
    by_cases h : 0 ≤ n ∧ n ≤ wid sa
    · rw [decide_eq_true h]
      obtain ⟨N, rfl⟩ : ∃ N : Nat, n = N := ⟨n.toNat, by omega⟩
      by_cases e : sa = cs
      · subst e
        rw [cont_iff sa C A hlc hC N (by omega) hr, Int.toNat_natCast]
        simp
      · have : (sa == cs) = false := by rw [beq_eq_false_iff_ne]; exact e
        rw [this]
        simp
    · rw [decide_eq_false h]
      by_cases e : sa = cs
      · subst e
        have : rightC sa (ints C) n = false := by
          unfold rightC
          by_cases h0 : 0 ≤ n
          · rw [decide_eq_false (show ¬ n ≤ (wid sa : Int) by omega)]
            simp
          · rw [decide_eq_false h0]
            simp
        rw [this]
        simp
      · have : (sa == cs) = false := by rw [beq_eq_false_iff_ne]; exact e
        rw [this]
        simp

theorem agree_self (b : List Int) (n : Nat) : agreeB b b n = true := agreeB_of _ _ _ fun _ _ => rfl

theorem right_eq (cs : Bool) (C : List Nat) (hlc : C.length = 16) (hC : ∀ x ∈ C, x < 256) (n : Int) : contC cs C n cs C = rightC cs (ints C) n := by
  rw [cont_eq cs cs C C hlc hC]
  unfold containsC
  rw [agree_self]
  cases hr : rightC cs (ints C) n with
  | false => rfl
  | true =>
    have : (cs || flat (ints C)) = true := by
      unfold rightC at hr
      rw [Bool.and_eq_true] at hr
      exact hr.1
    rw [this]
    simp
end Go.Proofs.YtijboclcbbnhbaaGreatDoor
namespace Go.Proofs.YtijboclcbbnhbaaGreatDoor
open Go.RowKit

set_option maxHeartbeats 400000 in
theorem nan_any (n : Int) (w : World) : Calls Tryz.prog 58 #[.int .i64 n] w fun e w' => e = .returned (.bool false) ∧ w = w' := by
  have q : (n != n) = false := by simp
  go_enter Tryz.func58, Tryz.ntmps58
  go_wp2
  go_ret
  exact ⟨rfl, rfl⟩

/-- Which of two numbers comes first. -/
def cmpI (n m : Int) : Int := if n < m then -1 else if m < n then 1 else 0

set_option maxHeartbeats 1000000 in
theorem cmpInt_any (n m : Int) (w : World) : Calls Tryz.prog 37 #[.int .i64 n, .int .i64 m] w fun e w' => e = .returned (.int .i64 (cmpI n m)) ∧ Below w.heap.size w w' := by
  have HC : Hid (cmpI n m = if n < m then -1 else if m < n then 1 else 0) := Lib.hid rfl
  generalize cmpI n m = R at *
  by_cases h1 : n < m
  · go_enter Tryz.func37, Tryz.ntmps37
    go_wp2_with fail
    refine (nan_any n w).mono ?_
    rintro e w1 ⟨rfl, rfl⟩
    go_wp2_with fail
    refine (nan_any m w).mono ?_
    rintro e w1 ⟨rfl, rfl⟩
    go_wp2
    go_ret
    exact ⟨ret_int (by rw [HC.out, if_pos (by omega)]), Below.refl _ _⟩
  · by_cases h2 : m < n
    · go_enter Tryz.func37, Tryz.ntmps37
      go_wp2_with fail
      refine (nan_any n w).mono ?_
      rintro e w1 ⟨rfl, rfl⟩
      go_wp2_with fail
      refine (nan_any m w).mono ?_
      rintro e w1 ⟨rfl, rfl⟩
      go_wp2
      go_ret
      exact ⟨ret_int (by rw [HC.out, if_neg (by omega), if_pos (by omega)]), Below.refl _ _⟩
    · go_enter Tryz.func37, Tryz.ntmps37
      go_wp2_with fail
      refine (nan_any n w).mono ?_
      rintro e w1 ⟨rfl, rfl⟩
      go_wp2_with fail
      refine (nan_any m w).mono ?_
      rintro e w1 ⟨rfl, rfl⟩
      go_wp2
      go_ret
      exact ⟨ret_int (by rw [HC.out, if_neg (by omega), if_neg (by omega)]), Below.refl _ _⟩

set_option maxHeartbeats 1000000 in
theorem or_any (c d : Int) (w : World) (g : Nat) (hB : Blk w g 3 #[.int .i64 c, .int .i64 d]) :
    Calls Tryz.prog 35 #[.slice (some ⟨g, 0, none⟩) 2 2] w fun e w' => e = .returned (.int .i64 (if c ≠ 0 then c else d)) ∧ Below w.heap.size w w' := by
  have h0 : w.cell? ⟨g, 0, none⟩ = some (.int .i64 c) := by rw [hB.cell]; rfl
  have h1 : w.cell? ⟨g, 1, none⟩ = some (.int .i64 d) := by rw [hB.cell]; rfl
  have HC : Hid ((if c ≠ 0 then c else d) = if c = 0 then d else c) := Lib.hid (by by_cases h : c = 0 <;> simp [h])
  generalize (if c ≠ 0 then c else d) = R at *
  clear hB
  by_cases hc : c = 0
  · subst hc
    by_cases hd : d = 0
    · subst hd
      go_enter Tryz.func35, Tryz.ntmps35
      go_wp2
      refine wp_loop_rounds 3 ?_
      rw [rounds_succ]
      go_wp2
      rw [rounds_succ]
      go_wp2
      rw [rounds_succ]
      go_wp2
      go_ret
      exact ⟨ret_int (by rw [HC.out]; simp), Below.refl _ _⟩
    · have q : (d != 0) = true := by rw [bne_iff_ne]; exact hd
      go_enter Tryz.func35, Tryz.ntmps35
      go_wp2
      refine wp_loop_rounds 2 ?_
      rw [rounds_succ]
      go_wp2
      rw [rounds_succ]
      go_wp2
      go_ret
      exact ⟨ret_int (by rw [HC.out]; simp), Below.refl _ _⟩
  · have q : (c != 0) = true := by rw [bne_iff_ne]; exact hc
    go_enter Tryz.func35, Tryz.ntmps35
    go_wp2
    refine wp_loop_rounds 2 ?_
    rw [rounds_succ]
    go_wp2
    go_ret
    exact ⟨ret_int (by rw [HC.out, if_neg hc]), Below.refl _ _⟩

set_option linter.unusedSimpArgs false in
set_option maxRecDepth 100000 in
set_option maxHeartbeats 4000000 in
theorem ccmp_any (s t : Bool) (X Y : List Nat) (hx : X.length = 16) (hy : Y.length = 16) (lx : ∀ x ∈ X, x < 256) (ly : ∀ x ∈ Y, x < 256) (n m : Int) (w : World) :
    Calls Tryz.prog 17 #[.agg (cid s (ints X) n), .agg (cid t (ints Y) m)] w fun e w' => e = .returned (.int .i64 (cmpC s t X Y n m)) ∧ Below w.heap.size w w' := by
  obtain ⟨W0, hW0⟩ : ∃ W, W = w.alloc (.cells (cid s (ints X) n) 29) := ⟨_, rfl⟩
  obtain ⟨W1, hW1⟩ : ∃ W, W = W0.alloc (.cells (cid t (ints Y) m) 29) := ⟨_, rfl⟩
  have hlx : (ints X).length = 16 := by rw [ints_length, hx]
  have hly : (ints Y).length = 16 := by rw [ints_length, hy]
  have hB0 : Blk W0 w.heap.size 29 (cid s (ints X) n) := hW0 ▸ Blk.new w _ _
  have hb0 : Below w.heap.size w W0 := hW0 ▸ (Below.refl _ _).alloc (Nat.le_refl _) _
  have hs0 : W0.heap.size = w.heap.size + 1 := by rw [hW0]; simp
  have hb1 : Below W0.heap.size W0 W1 := hW1 ▸ (Below.refl _ _).alloc (Nat.le_refl _) _
  have hB1 : Blk W1 (w.heap.size + 1) 29 (cid t (ints Y) m) := by rw [← hs0]; exact hW1 ▸ Blk.new W0 _ _
  have HW0 := Lib.hid hW0.symm
  have HW1 := Lib.hid hW1.symm
  have LX := Lib.hid hlx
  have LY := Lib.hid hly
  have hS0 : Blk W1.drew (w.heap.size) 29 (cid s (ints X) n) ∧ Blk W1.drew (w.heap.size + 1) 29 (cid t (ints Y) m) ∧ Below w.heap.size w W1.drew := ⟨(hB0.kept hb1).kept (below_drewN W1 1), hB1.kept (below_drewN W1 1), bel2 (bel2 hb0 hb1) (below_drewN W1 1)⟩
  obtain ⟨c, hc⟩ : ∃ c, c = cmpA s t X Y := ⟨_, rfl⟩
  obtain ⟨d, hd⟩ : ∃ d, d = cmpI n m := ⟨_, rfl⟩
  obtain ⟨r, hr⟩ : ∃ r, r = if c ≠ 0 then c else d := ⟨_, rfl⟩
  have CA : Hid (∀ w, Calls Tryz.prog 36 #[.agg (adr s (ints X)), .agg (adr t (ints Y))] w fun e w' => e = .returned (.int .i64 c) ∧ Below w.heap.size w w') := Lib.hid (by rw [hc]; exact compare_any s t X Y hx hy lx ly)
  have CC : Hid (∀ w, Calls Tryz.prog 37 #[.int .i64 n, .int .i64 m] w fun e w' => e = .returned (.int .i64 d) ∧ Below w.heap.size w w') := Lib.hid (by rw [hd]; exact cmpInt_any n m)
  have CO : Hid (∀ w g, Blk w g 3 #[.int .i64 c, .int .i64 d] → Calls Tryz.prog 35 #[.slice (some ⟨g, 0, none⟩) 2 2] w fun e w' => e = .returned (.int .i64 r) ∧ Below w.heap.size w w') := Lib.hid (by rw [hr]; exact or_any c d)
  have HR : Hid (r = cmpC s t X Y n m) := Lib.hid (by rw [hr, hc, hd]; rfl)
  clear hW0 hW1 hB0 hb0 hb1 hB1 hs0 hlx hly hx hy lx ly hc hd hr
  go_enter Tryz.func17, Tryz.ntmps17
  go_upto_region 1 with fail
  rw [HW0.out]
  rw [HW1.out]
  refine wp_region_held_drew (S := fun w' => Blk w' (w.heap.size) 29 (cid s (ints X) n) ∧ Blk w' (w.heap.size + 1) 29 (cid t (ints Y) m) ∧ Below w.heap.size w w') (by kernel_rfl) hS0 (fun hS => ?_)
  change wpAnyH _ _ _ _ _ 13 #[false, false, false, false, false, false, false, false, false, false, false, false, false] _ _
  refine wpAnyH_take (i := 0) (v := .pointer (some ⟨w.heap.size, 0, none⟩)) rfl (by kernel_rfl) (by kernel_rfl) (by kernel_rfl) (fun _ _ _ h => h) (.inl ⟨by kernel_rfl, fun w _ => by kernel_rfl⟩) hS ?_
  simp only [List.getElem_toArray, List.getElem_cons_zero, List.getElem_cons_succ, Act.put, List.setIfInBounds_toArray, List.set_cons_zero, List.set_cons_succ]
  refine wpAnyH_take (i := 1) (v := .agg (adr s (ints X))) rfl (by kernel_rfl) (by kernel_rfl) (by kernel_rfl) (fun _ _ _ h => h) (yields_addr (.tmp 5) rfl (w.heap.size) (by kernel_rfl) s (ints X) n (fun w h => h.1) LX.out (by kernel_rfl)) hS ?_
  simp only [List.getElem_toArray, List.getElem_cons_zero, List.getElem_cons_succ, Act.put, List.setIfInBounds_toArray, List.set_cons_zero, List.set_cons_succ]
  refine wpAnyH_take (i := 2) (v := .pointer (some ⟨w.heap.size + 1, 0, none⟩)) rfl (by kernel_rfl) (by kernel_rfl) (by kernel_rfl) (fun _ _ _ h => h) (.inl ⟨by kernel_rfl, fun w _ => by kernel_rfl⟩) hS ?_
  simp only [List.getElem_toArray, List.getElem_cons_zero, List.getElem_cons_succ, Act.put, List.setIfInBounds_toArray, List.set_cons_zero, List.set_cons_succ]
  refine wpAnyH_take (i := 3) (v := .agg (adr t (ints Y))) rfl (by kernel_rfl) (by kernel_rfl) (by kernel_rfl) (fun _ _ _ h => h) (yields_addr (.tmp 7) rfl (w.heap.size + 1) (by kernel_rfl) t (ints Y) m (fun w h => h.2.1) LY.out (by kernel_rfl)) hS ?_
  simp only [List.getElem_toArray, List.getElem_cons_zero, List.getElem_cons_succ, Act.put, List.setIfInBounds_toArray, List.set_cons_zero, List.set_cons_succ]
  refine wpAnyH_take (i := 5) (v := .pointer (some ⟨w.heap.size, 17, none⟩)) rfl (by kernel_rfl) (by kernel_rfl) (by kernel_rfl) (fun _ _ _ h => h) (.inl ⟨by kernel_rfl, fun w _ => by kernel_rfl⟩) hS ?_
  simp only [List.getElem_toArray, List.getElem_cons_zero, List.getElem_cons_succ, Act.put, List.setIfInBounds_toArray, List.set_cons_zero, List.set_cons_succ]
  refine wpAnyH_take (i := 6) (v := .int .i64 n) rfl (by kernel_rfl) (by kernel_rfl) (by kernel_rfl) (fun _ _ _ h => h) (yields_cell (.tmp 10) rfl (w.heap.size) 17 (by kernel_rfl) n (fun w h => cid_bitsCell h.1 LX.out) (by kernel_rfl)) hS ?_
  simp only [List.getElem_toArray, List.getElem_cons_zero, List.getElem_cons_succ, Act.put, List.setIfInBounds_toArray, List.set_cons_zero, List.set_cons_succ]
  refine wpAnyH_take (i := 7) (v := .pointer (some ⟨w.heap.size + 1, 17, none⟩)) rfl (by kernel_rfl) (by kernel_rfl) (by kernel_rfl) (fun _ _ _ h => h) (.inl ⟨by kernel_rfl, fun w _ => by kernel_rfl⟩) hS ?_
  simp only [List.getElem_toArray, List.getElem_cons_zero, List.getElem_cons_succ, Act.put, List.setIfInBounds_toArray, List.set_cons_zero, List.set_cons_succ]
  refine wpAnyH_take (i := 8) (v := .int .i64 m) rfl (by kernel_rfl) (by kernel_rfl) (by kernel_rfl) (fun _ _ _ h => h) (yields_cell (.tmp 12) rfl (w.heap.size + 1) 17 (by kernel_rfl) m (fun w h => cid_bitsCell h.2.1 LY.out) (by kernel_rfl)) hS ?_
  simp only [List.getElem_toArray, List.getElem_cons_zero, List.getElem_cons_succ, Act.put, List.setIfInBounds_toArray, List.set_cons_zero, List.set_cons_succ]
  refine wpAnyH_ready (rs := [4]) (by kernel_rfl) (by simp) ?_
  refine AllReadyH.cons rfl (fun K' hK => ?_) AllReadyH.nil
  refine step_call 36 #[.agg (adr s (ints X)), .agg (adr t (ints Y))] (by kernel_rfl) (by kernel_rfl) (.int .i64 c) (CA.out _) (fun w1 hb1 => hK.out _ _ (⟨hS.1.kept hb1, hS.2.1.kept hb1, bel2 hS.2.2 hb1⟩) (fun hS => ?_))
  simp only [List.getElem_toArray, List.getElem_cons_zero, List.getElem_cons_succ, Act.put, List.setIfInBounds_toArray, List.set_cons_zero, List.set_cons_succ]
  refine wpAnyH_ready (rs := [9]) (by kernel_rfl) (by simp) ?_
  refine AllReadyH.cons rfl (fun K' hK => ?_) AllReadyH.nil
  refine step_call 37 #[.int .i64 n, .int .i64 m] (by kernel_rfl) (by kernel_rfl) (.int .i64 d) (CC.out _) (fun w2 hb2 => hK.out _ _ (⟨hS.1.kept hb2, hS.2.1.kept hb2, bel2 hS.2.2 hb2⟩) (fun hS => ?_))
  simp only [List.getElem_toArray, List.getElem_cons_zero, List.getElem_cons_succ, Act.put, List.setIfInBounds_toArray, List.set_cons_zero, List.set_cons_succ]
  refine wpAnyH_ready (rs := [10]) (by kernel_rfl) (by simp) ?_
  refine AllReadyH.cons rfl (fun K' hK => ?_) AllReadyH.nil
  obtain ⟨W3, hW3⟩ : ∃ W, W = w2.alloc (.cells #[.int .i64 c, .int .i64 d] 3) := ⟨_, rfl⟩
  have hb3 : Below w2.heap.size w2 W3 := hW3 ▸ (Below.refl _ _).alloc (Nat.le_refl _) _
  have hB3 : Blk W3 w2.heap.size 3 #[.int .i64 c, .int .i64 d] := hW3 ▸ Blk.new w2 _ _
  refine step_run (.slice (some ⟨w2.heap.size, 0, none⟩) 2 2) W3 (by rw [hW3]; kernel_rfl) (by kernel_rfl) (hK.out _ _ (⟨hS.1.kept hb3, hS.2.1.kept hb3, bel2 hS.2.2 hb3⟩) (fun hS => ?_))
  simp only [List.getElem_toArray, List.getElem_cons_zero, List.getElem_cons_succ, Act.put, List.setIfInBounds_toArray, List.set_cons_zero, List.set_cons_succ]
  refine wpAnyH_ready (rs := [11]) (by kernel_rfl) (by simp) ?_
  refine AllReadyH.cons rfl (fun K' hK => ?_) AllReadyH.nil
  refine step_call 35 #[.slice (some ⟨w2.heap.size, 0, none⟩) 2 2] (by kernel_rfl) (by kernel_rfl) (.int .i64 r) (CO.out _ _ hB3) (fun w4 hb4 => hK.out _ _ (⟨hS.1.kept hb4, hS.2.1.kept hb4, bel2 hS.2.2 hb4⟩) (fun hS => ?_))
  simp only [List.getElem_toArray, List.getElem_cons_zero, List.getElem_cons_succ, Act.put, List.setIfInBounds_toArray, List.set_cons_zero, List.set_cons_succ]
  refine wpAnyH_take (i := 12) (v := .int .i64 r) rfl (by kernel_rfl) (by kernel_rfl) (by kernel_rfl) (fun _ _ _ h => h) (.inl ⟨by kernel_rfl, fun w _ => by kernel_rfl⟩) hS ?_
  simp only [List.getElem_toArray, List.getElem_cons_zero, List.getElem_cons_succ, Act.put, List.setIfInBounds_toArray, List.set_cons_zero, List.set_cons_succ]
  refine wpAnyH_done (by kernel_rfl) ?_ _
  obtain ⟨_, _, hbE⟩ := hS
  go_wp2
  go_ret
  exact ⟨ret_int HR.out, hbE⟩
end Go.Proofs.YtijboclcbbnhbaaGreatDoor
namespace Go.Proofs.YtijboclcbbnhbaaGreatDoor
open Go.RowKit

set_option maxRecDepth 100000 in
set_option maxHeartbeats 2000000 in
theorem figures_good (s : ByteArray) (hs : s.size ≤ 1000) (u : Nat) (h : Lib.parseUintB 8 s.data.toList = .ok u) (hu : u ≤ 128) (hz : ¬ (1 < s.data.toList.length ∧ s.data.toList.head? = some 48)) (w : World) :
    Calls Tryz.prog 28 #[.string s] w fun e w' => e = .returned (.tuple #[.int .i64 (u : Int), .bool true]) ∧ Below w.heap.size w w' := by
  have HP := Lib.hid (pu8_ok s (by omega) u h)
  have eu : IntKind.i64.wrap (u : Int) = (u : Int) := by simp only [IntKind.wrap, IntKind.signed, IntKind.bits]; simp; omega
  by_cases h1 : 1 < s.size
  · have h48' : ((s[0].toNat : Int) == 48) = false := by
      rw [beq_eq_false_iff_ne]
      intro e
      apply hz
      refine ⟨by rw [← Lib.size_eq]; exact h1, ?_⟩
      rw [head_at s h1]
      congr 1
      exact UInt8.toNat_inj.1 (by simpa using (Int.ofNat.inj e))
    clear hz h
    go_enter Tryz.func28, Tryz.ntmps28
    go_wp2_with fail
    refine (HP.out w).mono ?_
    rintro e w1 ⟨rfl, hb1⟩
    go_wp2
    go_ret2
    exact ⟨rfl, hb1⟩
  · clear hz h
    go_enter Tryz.func28, Tryz.ntmps28
    go_wp2_with fail
    refine (HP.out w).mono ?_
    rintro e w1 ⟨rfl, hb1⟩
    go_wp2
    go_ret2
    exact ⟨rfl, hb1⟩

set_option maxRecDepth 100000 in
set_option maxHeartbeats 4000000 in
theorem cparse_good (s hd tl : ByteArray) (sa : Bool) (ab : List Int) (hl : ab.length = 16) (n : Int) (E EA ER : Value) (w : World) (hE : Env E w) (hE3 : Env3 EA ER w)
    (cC : ∀ w, Env E w → Calls Tryz.prog 26 #[.string s, .string ⟨#[47]⟩] w fun e w' => e = .returned (.tuple #[.string hd, .string tl, .bool true]) ∧ Below w.heap.size w w')
    (cP : ∀ w, Env E w → Calls Tryz.prog 27 #[.string hd] w fun e w' => e = .returned (.tuple #[.agg (adr sa ab), .nilIface]) ∧ Below w.heap.size w w')
    (cF : ∀ w, Env E w → Calls Tryz.prog 28 #[.string tl] w fun e w' => e = .returned (.tuple #[.int .i64 n, .bool true]) ∧ Below w.heap.size w w')
    (cO : ∀ w, Env3 EA ER w → Calls Tryz.prog 29 #[.agg (adr sa ab), .int .i64 n] w fun e w' => e = .returned (.tuple #[.agg (cid sa ab n), .nilIface]) ∧ Below w.heap.size w w') :
    Calls Tryz.prog 10 #[.string s] w fun e w' => e = .returned (.tuple #[.agg (cid sa ab n), .nilIface]) ∧ Below w.heap.size w w' := by
  obtain ⟨W0, hW0⟩ : ∃ W, W = w.alloc (.cells (cid false z16 0) 29) := ⟨_, rfl⟩
  have hB0 : Blk W0 w.heap.size 29 (cid false z16 0) := hW0 ▸ Blk.new w _ _
  have hb0 : Below w.heap.size w W0 := hW0 ▸ (Below.refl _ _).alloc (Nat.le_refl _) _
  have HW0 : Hid (w.alloc (.cells #[.bool false, .int .u8 0, .int .u8 0, .int .u8 0, .int .u8 0, .int .u8 0, .int .u8 0, .int .u8 0, .int .u8 0, .int .u8 0, .int .u8 0, .int .u8 0, .int .u8 0, .int .u8 0, .int .u8 0, .int .u8 0, .int .u8 0, .int .i64 0] 29) = W0) := Lib.hid hW0.symm
  have HB0 := Lib.hid hB0
  have Hb0 := Lib.hid hb0
  have HE := Lib.hid hE
  have HE3 := Lib.hid hE3
  have CC := Lib.hid cC
  have CP := Lib.hid cP
  have CF := Lib.hid cF
  have CO := Lib.hid cO
  have L17 : Hid (17 = (adr sa ab).size) := Lib.hid (by rw [adr_size, hl])
  have L18 : Hid (18 = (cid sa ab n).size) := Lib.hid (by rw [cid_size, hl])
  have HL := Lib.hid hl
  have hq : ∀ w, (binOp .neq 25 (.agg (adr sa ab)) (.agg (adr sa ab))).run Tryz.prog w = .ok (.bool false) w := fun w => by
    rw [run_neq_struct, equalIn_adr 9997 sa sa ab ab hl hl, show ((sa == sa) && (ab == ab)) = true by simp]
    rfl
  clear hW0 hB0 hb0 hE hE3 cC cP cF cO hl
  go_enter Tryz.func10, Tryz.ntmps10
  go_wp2_with fail
  rw [HW0.out]
  refine (CC.out W0 (HE.out.kept Hb0.out)).mono ?_
  rintro e w1 ⟨rfl, hb1⟩
  have Hb1 := Lib.hid (bel2 Hb0.out hb1)
  have HB1 := Lib.hid (HB0.out.kept hb1)
  clear hb1
  go_wp2_with fail
  refine (CP.out w1 (HE.out.kept Hb1.out)).mono ?_
  rintro e w2 ⟨rfl, hb2⟩
  have Hb2 := Lib.hid (bel2 Hb1.out hb2)
  have HB2 := Lib.hid (HB1.out.kept hb2)
  obtain ⟨W3, hW3⟩ : ∃ W, W = w2.alloc (.cells (adr false z16) 25) := ⟨_, rfl⟩
  have hB3 : Blk W3 w2.heap.size 25 (adr false z16) := hW3 ▸ Blk.new w2 _ _
  have hb3 : Below w2.heap.size w2 W3 := hW3 ▸ (Below.refl _ _).alloc (Nat.le_refl _) _
  have HW3 : Hid (w2.alloc (.cells #[.bool false, .int .u8 0, .int .u8 0, .int .u8 0, .int .u8 0, .int .u8 0, .int .u8 0, .int .u8 0, .int .u8 0, .int .u8 0, .int .u8 0, .int .u8 0, .int .u8 0, .int .u8 0, .int .u8 0, .int .u8 0, .int .u8 0] 25) = W3) := Lib.hid hW3.symm
  have HB3 := Lib.hid hB3
  obtain ⟨V, hV⟩ : ∃ V, V = W3.setRow w2.heap.size (adr sa ab) := ⟨_, rfl⟩
  have HV := Lib.hid hV.symm
  have hsz : w.heap.size < w2.heap.size := HB2.out.lt
  have HBV : Hid (Blk V w2.heap.size 25 (adr sa ab)) := Lib.hid (hV ▸ hB3.row _)
  have HBR : Hid (Blk V w.heap.size 29 (cid false z16 0)) := Lib.hid (hV ▸ (HB2.out.kept hb3).rowOther (by omega) _)
  have HbV : Hid (Below w.heap.size w V) := Lib.hid (hV ▸ below_setRow (bel2 Hb2.out hb3) (by omega) _)
  clear hb2 hW3 hB3 hb3 hV
  go_wp2_with ((try rw [HW3.out]); refine wpl_store 25 _ _ rfl w2.heap.size (adr sa ab) rfl rfl _ _ HB3.out 17 Tryz.infoAddr L17.out rfl (adr_one _ _) rfl ?_; rw [HV.out])
  refine (CF.out V (HE.out.kept HbV.out)).mono ?_
  rintro e w4 ⟨rfl, hb4⟩
  have Hb4 := Lib.hid (bel2 HbV.out hb4)
  have HBA := Lib.hid (HBV.out.kept hb4)
  have HBR4 := Lib.hid (HBR.out.kept hb4)
  clear hb4
  go_wp2_with (refine wpl_load 25 _ rfl w2.heap.size rfl _ _ _ HBA.out Tryz.underlying25 rfl 17 Tryz.infoAddr L17.out rfl ?_)
  refine (CO.out w4 (HE3.out.kept Hb4.out)).mono ?_
  rintro e w5 ⟨rfl, hb5⟩
  have Hb5 := Lib.hid (bel2 Hb4.out hb5)
  have HBA5 := Lib.hid (HBA.out.kept hb5)
  have HBR5 := Lib.hid (HBR4.out.kept hb5)
  obtain ⟨W6, hW6⟩ : ∃ W, W = w5.alloc (.cells (cid false z16 0) 29) := ⟨_, rfl⟩
  have hB6 : Blk W6 w5.heap.size 29 (cid false z16 0) := hW6 ▸ Blk.new w5 _ _
  have hb6 : Below w5.heap.size w5 W6 := hW6 ▸ (Below.refl _ _).alloc (Nat.le_refl _) _
  have HW6 : Hid (w5.alloc (.cells #[.bool false, .int .u8 0, .int .u8 0, .int .u8 0, .int .u8 0, .int .u8 0, .int .u8 0, .int .u8 0, .int .u8 0, .int .u8 0, .int .u8 0, .int .u8 0, .int .u8 0, .int .u8 0, .int .u8 0, .int .u8 0, .int .u8 0, .int .i64 0] 29) = W6) := Lib.hid hW6.symm
  have HB6 := Lib.hid hB6
  obtain ⟨V7, hV7⟩ : ∃ V, V = W6.setRow w5.heap.size (cid sa ab n) := ⟨_, rfl⟩
  have HV7 := Lib.hid hV7.symm
  have hsz5 : w2.heap.size < w5.heap.size := HBA5.out.lt
  have HBC : Hid (Blk V7 w5.heap.size 29 (cid sa ab n)) := Lib.hid (hV7 ▸ hB6.row _)
  have HBA7 : Hid (Blk V7 w2.heap.size 25 (adr sa ab)) := Lib.hid (hV7 ▸ (HBA5.out.kept hb6).rowOther (by omega) _)
  have HBR7 : Hid (Blk V7 w.heap.size 29 (cid false z16 0)) := Lib.hid (hV7 ▸ (HBR5.out.kept hb6).rowOther (by omega) _)
  have Hb7 : Hid (Below w.heap.size w V7) := Lib.hid (hV7 ▸ below_setRow (bel2 Hb5.out hb6) (by omega) _)
  clear hb5 hW6 hB6 hb6 hV7
  go_wp2_with ((try rw [HW6.out]); first | (refine wpl_store 29 _ _ rfl w5.heap.size (cid sa ab n) rfl rfl _ _ HB6.out 18 Tryz.infoCidr L18.out rfl (cid_one _ _ _) rfl ?_; rw [HV7.out]) | (refine wpl_load_addr _ rfl w5.heap.size rfl sa ab n HBC.out HL.out rfl ?_) | (refine wpl_load 25 _ rfl w2.heap.size rfl _ _ _ HBA7.out Tryz.underlying25 rfl 17 Tryz.infoAddr L17.out rfl ?_) | (refine wpl_load 29 _ rfl w5.heap.size rfl _ _ _ HBC.out Tryz.underlying29 rfl 18 Tryz.infoCidr L18.out rfl ?_) | (refine wpl_store 29 _ _ rfl w.heap.size (cid sa ab n) rfl rfl _ _ HBR7.out 18 Tryz.infoCidr L18.out rfl (cid_one _ _ _) rfl ?_))
  exact retA2 rfl w.heap.size rfl _ _ _ (HBR7.out.row _) Tryz.underlying29 rfl 18 Tryz.infoCidr L18.out rfl _ rfl ⟨rfl, below_setRow Hb7.out (Nat.le_refl _) _⟩

set_option linter.unusedSimpArgs false in
set_option maxRecDepth 100000 in
set_option maxHeartbeats 4000000 in
theorem cformat_good (s : Bool) (b : List Int) (hl : b.length = 16) (n : Int) (T T1 D T2 : ByteArray) (E EA ER : Value) (w : World) (hE : Env E w) (hE3 : Env3 EA ER w)
    (cR : ∀ w, Env3 EA ER w → Calls Tryz.prog 18 #[.agg (cid s b n)] w fun e w' => e = .returned (.bool true) ∧ Below w.heap.size w w')
    (cF : ∀ w, Env E w → Calls Tryz.prog 30 #[.agg (adr s b)] w fun e w' => e = .returned (.string T) ∧ Below w.heap.size w w')
    (cI : ∀ w, Env E w → Calls Tryz.prog 31 #[.int .i64 n] w fun e w' => e = .returned (.string D) ∧ Below w.heap.size w w')
    (h1 : ∀ w', (Op.stringOp .add T ⟨#[47]⟩).run Tryz.prog w' = .ok (.string T1) w') (h2 : ∀ w', (Op.stringOp .add T1 D).run Tryz.prog w' = .ok (.string T2) w') :
    Calls Tryz.prog 12 #[.agg (cid s b n)] w fun e w' => e = .returned (.string T2) ∧ Below w.heap.size w w' := by
  obtain ⟨W0, hW0⟩ : ∃ W, W = w.alloc (.cells (cid s b n) 29) := ⟨_, rfl⟩
  have hB0 : Blk W0 w.heap.size 29 (cid s b n) := hW0 ▸ Blk.new w _ _
  have hb0 : Below w.heap.size w W0 := hW0 ▸ (Below.refl _ _).alloc (Nat.le_refl _) _
  have HW0 := Lib.hid hW0.symm
  have HB0 := Lib.hid hB0
  have Hb0 := Lib.hid hb0
  have HE := Lib.hid hE
  have HE3 := Lib.hid (hE3.kept hb0)
  have LB := Lib.hid hl
  have L18 : Hid (18 = (cid s b n).size) := Lib.hid (by rw [cid_size, hl])
  have CR := Lib.hid cR
  have CF := Lib.hid cF
  have CI := Lib.hid cI
  clear hW0 hB0 hb0 hl hE hE3 cR cF cI
  go_enter Tryz.func12, Tryz.ntmps12
  go_upto_region 1 with fail
  rw [HW0.out]
  go_wp2_with (refine wpl_load 29 _ rfl w.heap.size rfl _ _ _ HB0.out Tryz.underlying29 rfl 18 Tryz.infoCidr L18.out rfl ?_)
  refine (CR.out W0 HE3.out).mono ?_
  rintro e w1 ⟨rfl, hb1⟩
  have hS0 : Blk w1.drew (w.heap.size) 29 (cid s b n) ∧ Env E w1.drew ∧ Below w.heap.size w w1.drew := ⟨(HB0.out.kept hb1).kept (below_drewN w1 1), (HE.out.kept (bel2 Hb0.out hb1)).kept (below_drewN w1 1), bel2 (bel2 Hb0.out hb1) (below_drewN w1 1)⟩
  clear hb1
  go_wp2_with fail
  refine wp_region_held_drew (S := fun w' => Blk w' (w.heap.size) 29 (cid s b n) ∧ Env E w' ∧ Below w.heap.size w w') (by kernel_rfl) hS0 (fun hS => ?_)
  change wpAnyH _ _ _ _ _ 9 #[false, false, false, false, false, false, false, false, false] _ _
  refine wpAnyH_take (i := 0) (v := .pointer (some ⟨w.heap.size, 0, none⟩)) rfl (by kernel_rfl) (by kernel_rfl) (by kernel_rfl) (fun _ _ _ h => h) (.inl ⟨by kernel_rfl, fun w _ => by kernel_rfl⟩) hS ?_
  simp only [List.getElem_toArray, List.getElem_cons_zero, List.getElem_cons_succ, Act.put, List.setIfInBounds_toArray, List.set_cons_zero, List.set_cons_succ]
  refine wpAnyH_take (i := 1) (v := .agg (adr s b)) rfl (by kernel_rfl) (by kernel_rfl) (by kernel_rfl) (fun _ _ _ h => h) (yields_addr (.tmp 6) rfl (w.heap.size) (by kernel_rfl) s b n (fun w h => h.1) LB.out (by kernel_rfl)) hS ?_
  simp only [List.getElem_toArray, List.getElem_cons_zero, List.getElem_cons_succ, Act.put, List.setIfInBounds_toArray, List.set_cons_zero, List.set_cons_succ]
  refine wpAnyH_take (i := 4) (v := .pointer (some ⟨w.heap.size, 17, none⟩)) rfl (by kernel_rfl) (by kernel_rfl) (by kernel_rfl) (fun _ _ _ h => h) (.inl ⟨by kernel_rfl, fun w _ => by kernel_rfl⟩) hS ?_
  simp only [List.getElem_toArray, List.getElem_cons_zero, List.getElem_cons_succ, Act.put, List.setIfInBounds_toArray, List.set_cons_zero, List.set_cons_succ]
  refine wpAnyH_take (i := 5) (v := .int .i64 n) rfl (by kernel_rfl) (by kernel_rfl) (by kernel_rfl) (fun _ _ _ h => h) (yields_cell (.tmp 10) rfl (w.heap.size) 17 (by kernel_rfl) n (fun w h => cid_bitsCell h.1 LB.out) (by kernel_rfl)) hS ?_
  simp only [List.getElem_toArray, List.getElem_cons_zero, List.getElem_cons_succ, Act.put, List.setIfInBounds_toArray, List.set_cons_zero, List.set_cons_succ]
  refine wpAnyH_ready (rs := [2]) (by kernel_rfl) (by simp) ?_
  refine AllReadyH.cons rfl (fun K' hK => ?_) AllReadyH.nil
  refine step_call 30 #[.agg (adr s b)] (by kernel_rfl) (by kernel_rfl) (.string T) (CF.out _ hS.2.1) (fun w2 hb2 => hK.out _ _ (⟨hS.1.kept hb2, hS.2.1.kept hb2, bel2 hS.2.2 hb2⟩) (fun hS => ?_))
  simp only [List.getElem_toArray, List.getElem_cons_zero, List.getElem_cons_succ, Act.put, List.setIfInBounds_toArray, List.set_cons_zero, List.set_cons_succ]
  refine wpAnyH_take (i := 3) (v := .string T1) rfl (by kernel_rfl) (by kernel_rfl) (by kernel_rfl) (fun _ _ _ h => h) (.inl ⟨by kernel_rfl, fun w _ => exec_sadd 9 9 (.tmp 8) (.const (.string ⟨#[47]⟩)) rfl T ⟨#[47]⟩ T1 (by kernel_rfl) (by kernel_rfl) (h1 w)⟩) hS ?_
  simp only [List.getElem_toArray, List.getElem_cons_zero, List.getElem_cons_succ, Act.put, List.setIfInBounds_toArray, List.set_cons_zero, List.set_cons_succ]
  refine wpAnyH_ready (rs := [6]) (by kernel_rfl) (by simp) ?_
  refine AllReadyH.cons rfl (fun K' hK => ?_) AllReadyH.nil
  refine step_call 31 #[.int .i64 n] (by kernel_rfl) (by kernel_rfl) (.string D) (CI.out _ hS.2.1) (fun w3 hb3 => hK.out _ _ (⟨hS.1.kept hb3, hS.2.1.kept hb3, bel2 hS.2.2 hb3⟩) (fun hS => ?_))
  simp only [List.getElem_toArray, List.getElem_cons_zero, List.getElem_cons_succ, Act.put, List.setIfInBounds_toArray, List.set_cons_zero, List.set_cons_succ]
  refine wpAnyH_take (i := 7) (v := .string T2) rfl (by kernel_rfl) (by kernel_rfl) (by kernel_rfl) (fun _ _ _ h => h) (.inl ⟨by kernel_rfl, fun w _ => exec_sadd 9 9 (.tmp 9) (.tmp 12) rfl T1 D T2 (by kernel_rfl) (by kernel_rfl) (h2 w)⟩) hS ?_
  simp only [List.getElem_toArray, List.getElem_cons_zero, List.getElem_cons_succ, Act.put, List.setIfInBounds_toArray, List.set_cons_zero, List.set_cons_succ]
  refine wpAnyH_take (i := 8) (v := .string T2) rfl (by kernel_rfl) (by kernel_rfl) (by kernel_rfl) (fun _ _ _ h => h) (.inl ⟨by kernel_rfl, fun w _ => by kernel_rfl⟩) hS ?_
  simp only [List.getElem_toArray, List.getElem_cons_zero, List.getElem_cons_succ, Act.put, List.setIfInBounds_toArray, List.set_cons_zero, List.set_cons_succ]
  refine wpAnyH_done (by kernel_rfl) ?_ _
  obtain ⟨_, _, hbE⟩ := hS
  go_wp2
  go_ret
  exact ⟨rfl, hbE⟩
end Go.Proofs.YtijboclcbbnhbaaGreatDoor
namespace Go.Proofs.YtijboclcbbnhbaaGreatDoor
open Go.RowKit

abbrev tenB : List Nat := [10, 0, 0, 0, 0, 0, 0, 0, 0, 0, 0, 0, 0, 0, 0, 0]
abbrev tenA : List Nat := [10, 1, 2, 3, 0, 0, 0, 0, 0, 0, 0, 0, 0, 0, 0, 0]
abbrev tenS : ByteArray := ⟨#[49, 48, 46, 48, 46, 48, 46, 48, 47, 56]⟩

theorem ten_parsed : parsed [49, 48, 46, 48, 46, 48, 46, 48] = some (false, ints tenB) := by decide +kernel
theorem ten_text : text4 tenB = [49, 48, 46, 48, 46, 48, 46, 48] := by decide +kernel
theorem ten_cut : Lib.cut [49, 48, 46, 48, 46, 48, 46, 48, 47, 56] [47] = ([49, 48, 46, 48, 46, 48, 46, 48], [56], true) := by decide +kernel
theorem ten_fig : Lib.parseUintB 8 [56] = .ok 8 := by decide +kernel
theorem ten_flat : flat (ints tenB) = true := by decide +kernel
theorem ten_flatA : flat (ints tenA) = true := by decide +kernel
theorem ten_of : ofC false tenB 8 .nilIface .nilIface = #[.agg (cid false (ints tenB) 8), .nilIface] := by
  unfold ofC
  rw [if_pos (by rw [ten_flat]; rfl), if_pos (by decide)]
  rw [show cutTo tenB 8 16 = tenB by decide +kernel]
theorem ten_cont : contC false tenB 8 false tenA = true := by
  unfold contC
  rw [ten_flatA, show cutTo tenA 8 16 = tenB by decide +kernel]
  decide
theorem ten_right : contC false tenB 8 false tenB = true := by
  unfold contC
  rw [ten_flat, show cutTo tenB 8 16 = tenB by decide +kernel]
  decide
theorem ten_dec : decb 8 = ⟨#[56]⟩ := by decide +kernel

theorem cut_slash (s : ByteArray) (hs : s.size ≤ 1000) (E : Value) (w : World) (hE : Env E w) :
    Calls Tryz.prog 26 #[.string s, .string ⟨#[47]⟩] w fun e w' => e = .returned (.tuple #[.string ⟨(Lib.cut s.data.toList [47]).1.toArray⟩, .string ⟨(Lib.cut s.data.toList [47]).2.1.toArray⟩, .bool (Lib.cut s.data.toList [47]).2.2]) ∧ Below w.heap.size w w' := by
  obtain ⟨m, hm⟩ := hE.max
  refine (Tryz.strings_Cut s ⟨#[47]⟩ m w (by omega) hm).mono ?_
  rintro e w' ⟨rfl, n, rfl⟩
  exact ⟨rfl, below_drewN w n⟩

theorem ten_bytes : ∀ x ∈ tenB, x < 256 := by decide
theorem ten_bytesA : ∀ x ∈ tenA, x < 256 := by decide

theorem ten_parse (E : Value) (u u' : TypeId) (p p' : Value) (w : World) (hE : Env E w) (hE3 : Env3 (.iface u p) (.iface u' p') w) :
    Calls Tryz.prog 10 #[.string tenS] w fun e w' => e = .returned (.tuple #[.agg (cid false (ints tenB) 8), .nilIface]) ∧ Below w.heap.size w w' := by
  refine cparse_good tenS ⟨#[49, 48, 46, 48, 46, 48, 46, 48]⟩ ⟨#[56]⟩ false (ints tenB) (by decide) 8 E _ _ w hE hE3 (fun w hE => ?_) (fun w hE => ?_) (fun w hE => ?_) (fun w hE => ?_)
  · have := cut_slash tenS (by decide) E w hE
    rw [show tenS.data.toList = [49, 48, 46, 48, 46, 48, 46, 48, 47, 56] from rfl, ten_cut] at this
    exact this
  · have := parse_any ⟨#[49, 48, 46, 48, 46, 48, 46, 48]⟩ (by decide) E w hE
    rw [show (⟨#[49, 48, 46, 48, 46, 48, 46, 48]⟩ : ByteArray).data.toList = [49, 48, 46, 48, 46, 48, 46, 48] from rfl, ten_parsed] at this
    exact this
  · exact figures_good ⟨#[56]⟩ (by decide) 8 ten_fig (by decide) (by decide) w
  · have := of_any false tenB (by decide) ten_bytes 8 (.iface u p) (.iface u' p') w hE
    rw [show ofC false tenB 8 (.iface u p) (.iface u' p') = #[.agg (cid false (ints tenB) 8), .nilIface] by
      unfold ofC
      rw [if_pos (by rw [ten_flat]; rfl), if_pos (by decide), show cutTo tenB 8 16 = tenB by decide +kernel]] at this
    exact this

theorem ten_format (E : Value) (u u' : TypeId) (p p' : Value) (w : World) (hE : Env E w) (hE3 : Env3 (.iface u p) (.iface u' p') w) :
    Calls Tryz.prog 12 #[.agg (cid false (ints tenB) 8)] w fun e w' => e = .returned (.string tenS) ∧ Below w.heap.size w w' := by
  refine cformat_good false (ints tenB) (by decide) 8 ⟨#[49, 48, 46, 48, 46, 48, 46, 48]⟩ ⟨#[49, 48, 46, 48, 46, 48, 46, 48, 47]⟩ ⟨#[56]⟩ tenS E _ _ w hE hE3 (fun w hE => ?_) (fun w hE => ?_) (fun w hE => ?_) (fun w => ?_) (fun w => ?_)
  · have := cright_any false tenB (by decide) ten_bytes 8 u u' p p' w hE
    rw [ten_right] at this
    exact this
  · have := format_four tenB (by decide) ten_bytes ten_flat E w hE
    rw [ten_text] at this
    exact this
  · have := itoa_any 8 (by decide) E w hE
    rw [ten_dec] at this
    exact this
  · exact run_string_add_lists w [49, 48, 46, 48, 46, 48, 46, 48] [47] (by decide) (by decide)
  · exact run_string_add_lists w [49, 48, 46, 48, 46, 48, 46, 48, 47] [56] (by decide) (by decide)

set_option maxRecDepth 100000 in
set_option maxHeartbeats 4000000 in
theorem alive3_any (E : Value) (u u' : TypeId) (p p' : Value) (w : World) (hE : Env E w) (hE3 : Env3 (.iface u p) (.iface u' p') w) :
    Calls Tryz.prog 4 #[] w fun e w' => e = .returned (.bool true) ∧ Below w.heap.size w w' := by
  have HE := Lib.hid hE
  have HE3 := Lib.hid hE3
  have CP := Lib.hid (fun w hE hE3 => ten_parse E u u' p p' w hE hE3)
  have CF := Lib.hid (fun w hE hE3 => ten_format E u u' p p' w hE hE3)
  have CC : Hid (∀ w, Env3 (.iface u p) (.iface u' p') w → Calls Tryz.prog 11 #[.agg (cid false (ints tenB) 8), .agg (adr false (ints tenA))] w fun e w' => e = .returned (.bool true) ∧ Below w.heap.size w w') := Lib.hid fun w hE => by
    have := cont_any false false tenB tenA (by decide) (by decide) ten_bytesA 8 u u' p p' w hE
    rw [ten_cont] at this
    exact this
  have hstr : (tenS.toList == tenS.toList) = true := by simp
  clear hE hE3
  go_enter Tryz.func4, Tryz.ntmps4
  go_wp2_with fail
  refine (CP.out w HE.out HE3.out).mono ?_
  rintro e w2 ⟨rfl, hb2⟩
  obtain ⟨W3, hW3⟩ : ∃ W, W = w2.alloc (.cells (cid false z16 0) 29) := ⟨_, rfl⟩
  have hB3 : Blk W3 w2.heap.size 29 (cid false z16 0) := hW3 ▸ Blk.new w2 _ _
  have hb3 : Below w2.heap.size w2 W3 := hW3 ▸ (Below.refl _ _).alloc (Nat.le_refl _) _
  have HW3 : Hid (w2.alloc (.cells #[.bool false, .int .u8 0, .int .u8 0, .int .u8 0, .int .u8 0, .int .u8 0, .int .u8 0, .int .u8 0, .int .u8 0, .int .u8 0, .int .u8 0, .int .u8 0, .int .u8 0, .int .u8 0, .int .u8 0, .int .u8 0, .int .u8 0, .int .i64 0] 29) = W3) := Lib.hid hW3.symm
  have HB3 := Lib.hid hB3
  obtain ⟨V, hV⟩ : ∃ V, V = W3.setRow w2.heap.size (cid false (ints tenB) 8) := ⟨_, rfl⟩
  have HV := Lib.hid hV.symm
  have HBV : Hid (Blk V w2.heap.size 29 (cid false (ints tenB) 8)) := Lib.hid (hV ▸ hB3.row _)
  have hsz := hb2.size
  have HbV : Hid (Below w.heap.size w V) := Lib.hid (hV ▸ below_setRow (bel2 hb2 hb3) hsz _)
  clear hb2 hW3 hB3 hb3 hV
  go_wp2_with ((try rw [HW3.out]); first | (refine wpl_store 29 _ _ rfl w2.heap.size (cid false (ints tenB) 8) rfl rfl _ _ HB3.out 18 Tryz.infoCidr rfl rfl (cid_one _ _ _) rfl ?_; rw [HV.out]) | (refine wpl_load 29 _ rfl w2.heap.size rfl _ _ _ HBV.out Tryz.underlying29 rfl 18 Tryz.infoCidr rfl rfl ?_))
  refine (CC.out V (HE3.out.kept HbV.out)).mono ?_
  rintro e w4 ⟨rfl, hb4⟩
  have HB4 := Lib.hid (HBV.out.kept hb4)
  have Hb4 := Lib.hid (bel2 HbV.out hb4)
  clear hb4
  go_wp2_with (refine wpl_load 29 _ rfl w2.heap.size rfl _ _ _ HB4.out Tryz.underlying29 rfl 18 Tryz.infoCidr rfl rfl ?_)
  refine (CF.out w4 (HE.out.kept Hb4.out) (HE3.out.kept Hb4.out)).mono ?_
  rintro e w5 ⟨rfl, hb5⟩
  go_wp2
  go_ret
  exact ⟨rfl, bel2 Hb4.out hb5⟩
end Go.Proofs.YtijboclcbbnhbaaGreatDoor
