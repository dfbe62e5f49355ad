/-
  The walk of addr.groupsOf.
-/
import Derived.Test.YtijboclcbbnhbaaGreatDoorAdof
import Derived.Deep.RegionHeld3
import Derived.StillTactics
import Derived.Laws.Pointers
import Derived.Laws.BitsAllLaws
import Derived.IntWalk
namespace Go.Proofs.YtijboclcbbnhbaaGreatDoor
open Go.RowKit

/-- Numbers as Go's integers. -/
def ints (l : List Nat) : List Int := l.map (fun k : Nat => (k : Int))
theorem ints_length (l : List Nat) : (ints l).length = l.length := by simp [ints]
theorem nth_ints (l : List Nat) (i : Nat) : nth (ints l) i = ((l.getD i 0 : Nat) : Int) := by
  unfold nth ints
  by_cases h : i < l.length
  · simp [List.getD, List.getElem?_eq_getElem h]
  · simp [List.getD, List.getElem?_eq_none (Nat.le_of_not_lt h)]

/-- The groups of sixteen bytes. -/
def gr (B : List Nat) : List Nat := (List.range 8).map fun i => B.getD (2 * i) 0 * 256 + B.getD (2 * i + 1) 0
theorem gr_length (B : List Nat) : (gr B).length = 8 := by simp [gr]
theorem gr_take (B : List Nat) (k : Nat) (h : k < 8) : (gr B).take (k + 1) = (gr B).take k ++ [B.getD (2 * k) 0 * 256 + B.getD (2 * k + 1) 0] := by
  rw [List.take_succ_eq_append_getElem (by rw [gr_length]; exact h)]
  simp [gr]

theorem or16 (x y : Nat) (hx : x < 256) (hy : y < 256) : bits .or .u16 ((x : Int) * 256) (y : Int) = ((x * 256 + y : Nat) : Int) := by
  have h := u16_or_nat (2 ^ 8 * x) y (by omega) (by omega)
  rw [← Nat.two_pow_add_eq_or_of_lt (i := 8) (by omega) x] at h
  rw [show ((x : Int) * 256) = ((2 ^ 8 * x : Nat) : Int) by omega, h]
  omega

set_option maxRecDepth 100000 in
set_option maxHeartbeats 4000000 in
theorem grof_any (six : Bool) (B : List Nat) (hl : B.length = 16) (hB : ∀ x ∈ B, x < 256) (w : World) :
    Calls Tryz.prog 51 #[.agg (adr six (ints B))] w fun e w' => e = .returned (.agg (arr .u16 (ints (gr B)))) ∧ Below w.heap.size w w' := by
  obtain ⟨W0, hW0⟩ : ∃ W, W = w.alloc (.cells (adr six (ints B)) 25) := ⟨_, rfl⟩
  have hB0 : Blk W0 w.heap.size 25 (adr six (ints B)) := hW0 ▸ Blk.new w _ _
  have hb0 : Below w.heap.size w W0 := hW0 ▸ (Below.refl _ _).alloc (Nat.le_refl _) _
  have hs0 : W0.heap.size = w.heap.size + 1 := by rw [hW0]; simp
  obtain ⟨W1, hW1⟩ : ∃ W, W = W0.alloc (.cells (arr .u16 (rowOf [] 8)) 74) := ⟨_, rfl⟩
  have hB1 : Blk W1 W0.heap.size 74 (arr .u16 (rowOf [] 8)) := hW1 ▸ Blk.new W0 _ _
  have hb1 : Below W0.heap.size W0 W1 := hW1 ▸ (Below.refl _ _).alloc (Nat.le_refl _) _
  have hs1 : W1.heap.size = w.heap.size + 2 := by rw [hW1]; simp [hs0]
  obtain ⟨W2, hW2⟩ : ∃ W, W = W1.alloc (.cells (arr .u16 (rowOf [] 8)) 74) := ⟨_, rfl⟩
  have hB2 : Blk W2 W1.heap.size 74 (arr .u16 (rowOf [] 8)) := hW2 ▸ Blk.new W1 _ _
  have hb2 : Below W1.heap.size W1 W2 := hW2 ▸ (Below.refl _ _).alloc (Nat.le_refl _) _
  have HW : Hid (((w.alloc (.cells (adr six (ints B)) 25)).alloc (.cells #[.int .u16 0, .int .u16 0, .int .u16 0, .int .u16 0, .int .u16 0, .int .u16 0, .int .u16 0, .int .u16 0] 74)).alloc (.cells #[.int .u16 0, .int .u16 0, .int .u16 0, .int .u16 0, .int .u16 0, .int .u16 0, .int .u16 0, .int .u16 0] 74) = W2) := Lib.hid (by rw [hW2, hW1, hW0]; rfl)
  have H2 : Hid (Blk W2 (w.heap.size + 2) 74 (arr .u16 (rowOf ((gr B).take 0) 8)) ∧ Blk W2 (w.heap.size + 1) 74 (arr .u16 (rowOf [] 8)) ∧ Blk W2 w.heap.size 25 (adr six (ints B)) ∧ Below w.heap.size w W2) := Lib.hid
    ⟨hs1 ▸ hB2, hs0 ▸ hB1.kept hb2, (hB0.kept hb1).kept hb2, bel2 (bel2 hb0 hb1) hb2⟩
  have HL := Lib.hid hl
  have HBd := Lib.hid hB
  clear hB0 hB1 hB2 hb0 hb1 hb2 hW0 hW1 hW2 hs0 hs1 hl hB
  go_enter Tryz.func51, Tryz.ntmps51
  go_wp2
  rw [HW.out]
  clear HW
  go_loopw [6] (fun i wr => ∃ k : Nat, k ≤ 8 ∧ i = .int .i64 k ∧ Hid (Blk wr (w.heap.size + 2) 74 (arr .u16 (rowOf ((gr B).take k) 8)) ∧ Blk wr (w.heap.size + 1) 74 (arr .u16 (rowOf [] 8)) ∧ Blk wr w.heap.size 25 (adr six (ints B)) ∧ Below w.heap.size w wr)) (fun i _ => 8 - (intOf i).toNat)
  case atStart => exact ⟨0, Nat.zero_le _, rfl, H2.out⟩
  case round =>
    obtain ⟨k, hk, rfl, hh⟩ := hrel
    clear H2
    by_cases hlt : k < 8
    · obtain ⟨hR, hB1, hB0, hb⟩ := hh.out
      obtain ⟨x, hx⟩ : ∃ x, x = B.getD (2 * k) 0 := ⟨_, rfl⟩
      obtain ⟨y, hy⟩ : ∃ y, y = B.getD (2 * k + 1) 0 := ⟨_, rfl⟩
      have hx8 : x < 256 := by rw [hx]; apply HBd.out; simp [List.getD, List.getElem?_eq_getElem (show 2 * k < B.length by rw [HL.out]; omega)]
      have hy8 : y < 256 := by rw [hy]; apply HBd.out; simp [List.getD, List.getElem?_eq_getElem (show 2 * k + 1 < B.length by rw [HL.out]; omega)]
      have hor := or16 x y hx8 hy8
      have hrl : (rowOf ((gr B).take k) 8).length = 8 := rowOf_length _ _ (by rw [List.length_take, gr_length]; omega)
      have HS : Hid (∀ w', Blk w' w.heap.size 25 (adr six (ints B)) →
          w'.cell? ⟨w.heap.size, 1 + 2 * k, none⟩ = some (.int .u8 (x : Int)) ∧ w'.cell? ⟨w.heap.size, 1 + (2 * k + 1), none⟩ = some (.int .u8 (y : Int))) := Lib.hid fun w' h2 => by
        refine ⟨?_, ?_⟩
        · rw [h2.cell, adr_at _ _ _ (by rw [ints_length, HL.out]; omega), nth_ints, hx]
        · rw [h2.cell, adr_at _ _ _ (by rw [ints_length, HL.out]; omega), nth_ints, hy]
      have hcs : wr.cell? ⟨w.heap.size + 1 + 1, k, none⟩ = some (.int .u16 (nth (rowOf ((gr B).take k) 8) k)) := by rw [show w.heap.size + 1 + 1 = w.heap.size + 2 from rfl, hR.cell, arr_at _ _ _ (by omega)]
      have hfs : wr.frozen? ⟨w.heap.size + 1 + 1, k, none⟩ = false := hR.frozen k
      have n1 : IntKind.u16.wrap (x : Int) = x := by rw [IntKind.wrap_u16]; omega
      have n2 : IntKind.u16.wrap ((x : Int) * 256) = (x : Int) * 256 := by rw [IntKind.wrap_u16]; omega
      have n3 : IntKind.u16.wrap (y : Int) = y := by rw [IntKind.wrap_u16]; omega
      have m1 : IntKind.i64.wrap (2 * (k : Int)) = 2 * (k : Int) := IntWalk.i64_in _ (by omega)
      have m2 : IntKind.i64.wrap (2 * (k : Int) + 1) = 2 * (k : Int) + 1 := IntWalk.i64_in _ (by omega)
      have m3 : (0 : Int) ≤ 2 * (k : Int) := by omega
      have m4 : (2 * (k : Int)) < 16 := by omega
      have m5 : (0 : Int) ≤ 2 * (k : Int) + 1 := by omega
      have m6 : (2 * (k : Int) + 1) < 16 := by omega
      have m7 : (2 * (k : Int)).toNat = 2 * k := by omega
      have m8 : (2 * (k : Int) + 1).toNat = 2 * k + 1 := by omega
      have HR : Hid (Blk wr.drew (w.heap.size + 2) 74 (arr .u16 (rowOf ((gr B).take k) 8))) := Lib.hid hR
      have HB0 : Hid (Blk wr.drew w.heap.size 25 (adr six (ints B))) := Lib.hid hB0
      have HB1 := Lib.hid hB1
      have Hb := Lib.hid hb
      have HX := Lib.hid hx
      have HY := Lib.hid hy
      clear hR hB0 hB1 hb hx hy hh hrl
      go_wp2
      go_region_held3 (fun w' => w'.cell? ⟨w.heap.size, 1 + 2 * k, none⟩ = some (.int .u8 (x : Int)) ∧ w'.cell? ⟨w.heap.size, 1 + (2 * k + 1), none⟩ = some (.int .u8 (y : Int)))
        (first | exact HS.out _ HB0.out | exact HS.out _ (HB0.out.setOther (by omega) _ _)) (fail)
      go_wp2
      go_roundw
      case rel =>
        refine ⟨k + 1, by omega, by go_num, ?_, ?_, ?_, ?_⟩
        · have h8 : ((gr B).take k).length = k := by rw [List.length_take, gr_length]; omega
          have hs := rowOf_set ((gr B).take k) 8 (x * 256 + y) (by omega)
          rw [h8] at hs
          have e : ((x : Int) * 256 + y) = ((x * 256 + y : Nat) : Int) := by omega
          have hrow : (rowOf ((gr B).take k) 8).set k ((x : Int) * 256 + y) = rowOf ((gr B).take (k + 1)) 8 := by rw [e, hs, gr_take B k hlt, ← HX.out, ← HY.out]
          have := HR.out.set k (.int .u16 ((x : Int) * 256 + y))
          rw [arr_set, hrow] at this
          exact this
        · exact HB1.out.setOther (by omega) _ _
        · exact HB0.out.setOther (by omega) _ _
        · exact bel2 (Hb.out.setCell (by show w.heap.size ≤ w.heap.size + 1 + 1; omega) _) (below_drewN _ 1)
      case measure => simp [intOf]; omega
    · obtain rfl : k = 8 := by omega
      obtain ⟨hR, hB1, hB0, hb⟩ := hh.out
      have hfull : rowOf ((gr B).take 8) 8 = ints (gr B) := by
        rw [List.take_of_length_le (by rw [gr_length]; omega), rowOf_full _ _ (gr_length B)]
        rfl
      rw [hfull] at hR
      have HR := Lib.hid hR
      have HB1 := Lib.hid hB1
      have Hb := Lib.hid hb
      have HL8 : Hid (8 = (arr .u16 (ints (gr B))).size) := Lib.hid (by rw [arr_size, ints_length, gr_length])
      clear hR hB0 hB1 hb hh hfull
      go_wp2_with (first | (refine wpl_load 74 _ rfl _ rfl _ _ _ HR.out Tryz.underlying74 rfl 8 Tryz.infoGrp HL8.out rfl ?_) | (refine wpl_store 74 _ _ rfl _ (arr .u16 (ints (gr B))) rfl rfl _ _ HB1.out 8 Tryz.infoGrp HL8.out rfl (arr_one _ _) rfl ?_))
      exact retA rfl (w.heap.size + 1) rfl _ _ _ (HB1.out.row _) Tryz.underlying74 rfl 8 Tryz.infoGrp HL8.out rfl ⟨rfl, below_setRow Hb.out (by omega) _⟩
end Go.Proofs.YtijboclcbbnhbaaGreatDoor
