/-
  The document's All of a right stride; linkboynum.SameInts; the example. · stride: the cursor; the example of layer 9. · Hashes, plain facts: numbers of 64 bits, folded, mixed, and mixed back; FNV-1a of bytes. · Bytes in memory; linkboynum.Bytes (a copy with marked room behind) and linkboynum.Kept. · hash.folded, further, Plain, Mix, Unmix, Below; the document's Plain and Mix; the chapter's example. · hash.Plain, Mix, Unmix; the document's Mix; the chapter's example. · A region that draws its order, in the body of a round: by the laws of such a region outside of rounds (the fence is the wide one). · append of bytes, whatever is appended, as a step of a region. · hash.Below, Of; the document's Plain and Of. · The document's Of. · stride.Of; the document's Of. · What layer 6 asks of addresses: their cells, addr.size, addr.Bytes. · addr.Put, ports.Put, and the document's: the bytes of addresses and points. · Addresses and points as cells: loads, stores, equality.
-/
import Derived.Test.YtahconkjhneogaaGreatDoorGr01
import Derived.Test.YtahconkjhneogaaGreatDoorProg
import Derived.IntWalk
import Derived.WalkKit
import Derived.Lib.Hide
import Derived.TacticsInMore
import Derived.BigQuiet
import Derived.Deep.QuietTactic
import Derived.OwnWalk
import Derived.Deep.DeepMust
import Derived.Laws.BytesArg
import Derived.Deep.WholeRow
import Derived.Deep.RegionHeld3
import Derived.RangeFuncCalls
import Derived.RangeFuncWrites
import Derived.CallsIn
import Derived.OrdersIn
import Derived.TacticsIn
import Derived.Laws.OwnMore
import Derived.Laws.AppendOwnNone
import Derived.Laws.CopyOwn
import Derived.Deep.Cut
import Derived.Deep.MidRow
namespace Go.Proofs.YtahconkjhneogaaGreatDoor
open Go.RowKit Go.Lib

/-- What the document's All tells. -/
def RAllEnd (M : Nat) (o k : Int) (w : World) (e : Ending) (w' : World) : Prop := ∃ g cap, e = .returned (.slice (some ⟨g, 0, none⟩) M cap) ∧ w.heap.size ≤ g ∧ NumAt w' g M (fun j => plc M o k j) ∧ Below w.heap.size w w'

/-- The first c places, as cells. -/
def rowP (M : Nat) (o k : Int) (c : Nat) : List Value := (List.range c).map fun j : Nat => .int .i64 (plc M o k j)
theorem rowP_length (M : Nat) (o k : Int) (c : Nat) : (rowP M o k c).length = c := by simp [rowP]
theorem rowP_succ (M : Nat) (o k : Int) (c : Nat) : rowP M o k c ++ [.int .i64 (plc M o k c)] = rowP M o k (c + 1) := by simp [rowP, List.range_succ]
theorem rowP_at (M : Nat) (o k : Int) {c j : Nat} (h : j < c) : (rowP M o k c)[j]? = some (.int .i64 (plc M o k j)) := by simp [rowP, h]
theorem row_shape {W : World} {b : Nat} {e : TypeId} {v : Value} {n : Nat} {xs : List Value} (h : W.ownsRow b e 1 v n xs) : ∃ ad cap, v = .slice ad n cap := by
  rcases h.2 with ⟨rfl, rfl⟩ | ⟨g, cap, cur, rfl, _⟩
  · exact ⟨none, 0, rfl⟩
  · exact ⟨_, cap, rfl⟩
theorem row_numAt {W : World} {b : Nat} {v : Value} {M : Nat} {o k : Int} (hM : 1 ≤ M) (h : W.ownsRow b 3 1 v M (rowP M o k M)) : ∃ g cap, v = .slice (some ⟨g, 0, none⟩) M cap ∧ b ≤ g ∧ NumAt W g M (fun j => plc M o k j) := by
  have hh := h
  rcases h.2 with ⟨_, h0⟩ | ⟨g, cap, cur, rfl, hb, hg, _⟩
  · omega
  · exact ⟨g, cap, rfl, hb, (Array.getElem?_eq_some_iff.1 hg).1, fun j hj => by rw [hh.cellAt j (by omega), rowP_at _ _ _ hj]⟩

set_option maxRecDepth 100000 in
set_option maxHeartbeats 4000000 in
theorem rall_yes (M : Nat) (o k : Int) (h : rightS M o k = true) (w : World) : Calls Tryz.prog 29 #[.int .i64 M, .int .i64 o, .int .i64 k] w (RAllEnd M o k w) := by
  obtain ⟨a1, a2, a3, a4, a5, a6⟩ := (rightS_iff M o k).1 h
  have a7 := (isP_range a2).1
  obtain ⟨i0, hi, hz0, hz1, hz2⟩ := info_parts Tryz.infoIntV
  have HZ := hid (plc_zero k a3 a4)
  have HS := hid (fun j : Int => plc_succ (m := M) (o := o) (k := k) j (by omega) a5 a6)
  have HR := hid (fun j : Int => plc_range (m := M) o k j (by omega))
  have HO : Hid ((w.alloc (.cells #[] 3)).ownsRow w.heap.size 3 1 (.slice (some ⟨w.heap.size, 0, none⟩) 0 0) 0 (rowP M o k 0)) := hid ⟨rfl, .inr ⟨w.heap.size, 0, #[], rfl, Nat.le_refl _, heap_alloc_last w _, Nat.le_refl _, Nat.zero_le _, rfl, rfl⟩⟩
  have HB : Hid (Below w.heap.size w (w.alloc (.cells #[] 3))) := hid ((Below.refl _ w).alloc (Nat.le_refl _) _)
  have HZ2 := hid hz2
  clear a2 h hz2
  go_enter Tryz.func29, Tryz.ntmps29
  go_wp2
  go_loopg [7, 8] M (fun g v t wr => ∃ c : Nat, ∃ ad cap, ∃ z : Int, c ≤ M ∧ g = M - c ∧ v = .slice ad c cap ∧ t = .int .i64 z ∧ Hid (z = plc M o k c) ∧ 0 ≤ z ∧ z < M ∧ Hid (wr.ownsRow w.heap.size 3 1 (.slice ad c cap) c (rowP M o k c)) ∧ Hid (Below w.heap.size w wr))
  case atStart => exact ⟨0, _, _, _, by omega, by omega, rfl, rfl, hid (by exact HZ.out.symm), by omega, by omega, HO, HB⟩
  case round =>
    obtain ⟨c, ad, cap, z, hc, rfl, rfl, rfl, HP, hz0', hz1', hown, hnx⟩ := hrel
    by_cases hlt : c < M
    · have HQ := hid (HS.out c)
      rw [← HP.out] at HQ
      have key : ∃ z' : Int, Hid (z' = plc M o k ((c + 1 : Nat) : Int)) ∧ 0 ≤ z' ∧ z' < M ∧ ((M ≤ z + k ∧ z' = z + k - M) ∨ (z + k < M ∧ z' = z + k)) := by
        by_cases hge : (M : Int) ≤ z + k
        · exact ⟨z + k - M, hid (by have := HQ.out; rw [if_pos hge] at this; exact this.symm), by omega, by omega, .inl ⟨hge, rfl⟩⟩
        · exact ⟨z + k, hid (by have := HQ.out; rw [if_neg hge] at this; exact this.symm), by omega, by omega, .inr ⟨by omega, rfl⟩⟩
      clear HQ
      obtain ⟨z', HQ2, hq0, hq1, ⟨hge, hz'⟩ | ⟨hge, hz'⟩⟩ := key
      all_goals
        have HZ' := hid hz'
        clear hz'
        go_wp2_with (at_builtin; refine wpList_append_own _ rfl (.tmp 15) (.tmp 17) 25 rfl w.heap.size 3 i0 (.int .i64 0) 1 8 Tryz.underlying25 hi hz0 hz1 HZ2.out rfl (by decide) _ _ _ rfl (hown.out.alloc _) ⟨wr.heap.size, 0, none⟩ 1 1 [.int .i64 z] rfl rfl (by intro j u hj; match j, hj with | 0, hj => (simp at hj; subst hj; simp [Addr.add])) (by intro u hu; simp at hu; subst hu; rfl) (by unfold maxLen; omega) (by omega) (by have := hnx.out.size; simp; omega) ?_; intro v' w1 hown' hgrow _)
        obtain ⟨ad', cap', rfl⟩ := row_shape hown'
        have Hown : Hid (w1.ownsRow w.heap.size 3 1 (.slice ad' (c + 1) cap') (c + 1) (rowP M o k (c + 1))) := hid (by rw [← rowP_succ, ← HP.out]; exact hown')
        have Hnx := hid ((hnx.out.alloc hnx.out.size (.cells #[.int .i64 z] 3)).grown hgrow (by have := hnx.out.size; simp; omega) (fun j hj => (hown.out.lt j hj).1))
        go_roundg (M - (c + 1))
        case measure => omega
        case rel => exact ⟨c + 1, ad', cap', z', by omega, rfl, rfl, by rw [HZ'.out], HQ2, hq0, hq1, Hown, Hnx⟩
    · obtain rfl : c = M := by omega
      go_wp2
      go_ret
      obtain ⟨g, cap2, e, hb, hn⟩ := row_numAt (by omega) hown.out
      cases e
      exact ⟨g, _, rfl, hb, hn, hnx.out⟩

set_option maxHeartbeats 4000000 in
theorem same_any (M : Nat) (hM : M ≤ 100000) (f : Nat → Int) (g1 g2 c1 c2 : Nat) (w : World) (h1 : NumAt w g1 M f) (h2 : NumAt w g2 M f) :
    Calls Tryz.prog 10 #[.slice (some ⟨g1, 0, none⟩) M c1, .slice (some ⟨g2, 0, none⟩) M c2] w fun e w' => e = .returned (.bool true) ∧ Below w.heap.size w w' := by
  have H1 := hid h1
  have H2 := hid h2
  clear h1 h2
  have hMM : ((M : Int) != (M : Int)) = false := by simp
  go_enter Tryz.func10, Tryz.ntmps10
  go_wp2
  go_loopw [13] (fun i wr => ∃ c : Nat, c ≤ M ∧ i = .int .i64 c ∧ Hid (Below w.heap.size w wr)) (fun i _ => M - (intOf i).toNat)
  case atStart => exact ⟨0, by omega, rfl, hid (Below.refl _ _)⟩
  case round =>
    obtain ⟨c, hc, rfl, hnx⟩ := hrel
    by_cases hlt : c < M
    · have e1 : wr.cell? ⟨g1, c, none⟩ = some (.int .i64 (f c)) := (H1.out.kept hnx.out).2 c hlt
      have e2 : wr.cell? ⟨g2, c, none⟩ = some (.int .i64 (f c)) := (H2.out.kept hnx.out).2 c hlt
      generalize f c = z at e1 e2
      have hzz : (z != z) = false := by simp
      go_wp2
      go_quiet (fail)
      go_wp2
      go_roundw
      case rel => exact ⟨c + 1, by omega, by go_num, hid (bel2 hnx.out (below_drewN _ _))⟩
      case measure => simp [intOf]; omega
    · go_wp2
      go_ret
      exact ⟨rfl, hnx.out⟩
end Go.Proofs.YtahconkjhneogaaGreatDoor

namespace Go.Proofs.YtahconkjhneogaaGreatDoor
open Go.RowKit Go.Lib

/-- A cursor of no right stride, of which d places were asked. -/
def CurNo (W : World) (c : Nat) (d : Int) : Prop := Blk W c 131 #[.func (.func 103) #[] #[], .int .i64 d]
/-- A cursor of a right stride, of which d places were asked. -/
def CurYes (W : World) (c b : Nat) (m o k d : Int) : Prop := Blk W c 131 #[.func (.func 104) #[] #[.pointer (some ⟨b, 0, none⟩)], .int .i64 d] ∧ b ≠ c ∧ Blk W b 100 #[.int .i64 m, .int .i64 o, .int .i64 k]

set_option maxHeartbeats 2000000 in
theorem cursor_no (m o k : Int) (h : rightS m o k = false) (w : World) : Calls Tryz.prog 73 #[.agg #[.int .i64 m, .int .i64 o, .int .i64 k]] w fun e w' => ∃ c, e = .returned (.pointer (some ⟨c, 0, none⟩)) ∧ w.heap.size ≤ c ∧ CurNo w' c 0 ∧ Below w.heap.size w w' := by
  have HO := hid (fun W => order_no m o k h W)
  have HB : Hid (Below w.heap.size w (w.alloc (.cells #[.int .i64 m, .int .i64 o, .int .i64 k] 100))) := hid ((Below.refl _ w).alloc (Nat.le_refl _) _)
  clear h
  go_enter Tryz.func73, Tryz.ntmps73
  go_wp2_with fail
  refine (HO.out _).mono ?_
  rintro e w1 ⟨rfl, hb⟩
  have Hb := hid (bel2 HB.out hb)
  clear hb
  go_wp2
  go_ret
  exact ⟨w1.heap.size, rfl, Hb.out.size, Blk.new _ _ _, Hb.out.alloc Hb.out.size _⟩

set_option maxHeartbeats 2000000 in
theorem cursor_yes (m o k : Int) (h : rightS m o k = true) (w : World) : Calls Tryz.prog 73 #[.agg #[.int .i64 m, .int .i64 o, .int .i64 k]] w fun e w' => ∃ c b, e = .returned (.pointer (some ⟨c, 0, none⟩)) ∧ w.heap.size ≤ c ∧ w.heap.size ≤ b ∧ CurYes w' c b m o k 0 ∧ Below w.heap.size w w' := by
  have HO := hid (fun W => order_yes m o k h W)
  have HB : Hid (Below w.heap.size w (w.alloc (.cells #[.int .i64 m, .int .i64 o, .int .i64 k] 100))) := hid ((Below.refl _ w).alloc (Nat.le_refl _) _)
  clear h
  go_enter Tryz.func73, Tryz.ntmps73
  go_wp2_with fail
  refine (HO.out _).mono ?_
  rintro e w1 ⟨rfl, hB, hb⟩
  have Hb := hid (bel2 HB.out hb)
  rw [World.size_alloc] at hB
  have HB1 := hid hB
  clear hb hB
  go_wp2
  go_ret
  exact ⟨w1.heap.size, w.heap.size + 1, rfl, Hb.out.size, Nat.le_succ _, ⟨Blk.new _ _ _, Nat.ne_of_lt HB1.out.lt, HB1.out.alloc _⟩, Hb.out.alloc Hb.out.size _⟩


theorem grown_set (w : World) (c i : Nat) (v : Value) : w.grownBy (w.setCell ⟨c, i, none⟩ v) (some c) :=
  ⟨rfl, rfl, rfl, by simp [World.setCell], fun j _ hne => Below.heap_setCell w _ v j (by rintro rfl; exact hne rfl)⟩
theorem grown_below {w w1 w2 : World} {c : Nat} (h : w.grownBy w1 (some c)) (hb : Below w1.heap.size w1 w2) : w.grownBy w2 (some c) :=
  ⟨hb.os.trans h.os, hb.tape.trans h.tape, hb.output.trans h.output, Nat.le_trans h.size hb.size, fun j hj hne => (hb.block j (Nat.lt_of_lt_of_le hj h.size)).trans (h.block j hj hne)⟩

theorem fn_nil (f : Fn) (cs : Array Value) (w : World) : (binOp .eql 90 (.func f #[] cs) .nilFunc).run Tryz.prog w = .ok (.bool false) w := by kernel_rfl

set_option maxRecDepth 100000 in
set_option maxHeartbeats 4000000 in
theorem next_no (c : Nat) (d : Int) (hd : 0 ≤ d ∧ d ≤ 1000000) (w : World) (h : CurNo w c d) : Calls Tryz.prog 75 #[.pointer (some ⟨c, 0, none⟩)] w fun e w' => e = .returned (.int .i64 (-1)) ∧ CurNo w' c (d + 1) ∧ w.grownBy w' (some c) := by
  have c0 : w.cell? ⟨c, 0, none⟩ = some (.func (.func 103) #[] #[]) := Blk.cell h 0
  have c1 : w.cell? ⟨c, 1, none⟩ = some (.int .i64 d) := Blk.cell h 1
  have f1 : w.frozen? ⟨c, 1, none⟩ = false := Blk.frozen h 1
  have HN : Hid (CurNo (w.setCell ⟨c, 1, none⟩ (.int .i64 (d + 1))) c (d + 1)) := hid (Blk.set h 1 _)
  have HG := hid (grown_set w c 1 (.int .i64 (d + 1)))
  have HP := hid (fun W => placeno_any d W)
  have hq := fn_nil (.func 103) #[] (w.setCell ⟨c, 1, none⟩ (.int .i64 (d + 1)))
  clear h
  go_enter Tryz.func75, Tryz.ntmps75
  go_wp2_with fail
  refine (HP.out _).mono ?_
  rintro e w2 ⟨rfl, rfl⟩
  go_wp2
  go_ret
  exact ⟨rfl, HN.out, HG.out⟩

set_option maxRecDepth 100000 in
set_option maxHeartbeats 4000000 in
theorem next_yes (c b : Nat) (m o k d : Int) (hr : rightS m o k = true) (hd : 0 ≤ d ∧ d ≤ 1000000) (w : World) (h : CurYes w c b m o k d) : Calls Tryz.prog 75 #[.pointer (some ⟨c, 0, none⟩)] w fun e w' => e = .returned (.int .i64 (plc m o k d)) ∧ CurYes w' c b m o k (d + 1) ∧ w.grownBy w' (some c) := by
  have c0 : w.cell? ⟨c, 0, none⟩ = some (.func (.func 104) #[] #[.pointer (some ⟨b, 0, none⟩)]) := Blk.cell h.1 0
  have c1 : w.cell? ⟨c, 1, none⟩ = some (.int .i64 d) := Blk.cell h.1 1
  have f1 : w.frozen? ⟨c, 1, none⟩ = false := Blk.frozen h.1 1
  have HN : Hid (CurYes (w.setCell ⟨c, 1, none⟩ (.int .i64 (d + 1))) c b m o k (d + 1)) := hid ⟨Blk.set h.1 1 _, h.2.1, Blk.setOther h.2.2 h.2.1 _ _⟩
  have HG := hid (grown_set w c 1 (.int .i64 (d + 1)))
  have HP := hid (fun W hB => placeyes_any m o k d hr b W hB)
  have hq := fn_nil (.func 104) #[.pointer (some ⟨b, 0, none⟩)] (w.setCell ⟨c, 1, none⟩ (.int .i64 (d + 1)))
  clear h hr
  generalize plc m o k d = z at *
  go_enter Tryz.func75, Tryz.ntmps75
  go_wp2_with fail
  refine (HP.out _ HN.out.2.2).mono ?_
  rintro e w2 ⟨rfl, hb⟩
  have Hb := hid hb
  clear hb
  go_wp2
  go_ret
  exact ⟨rfl, ⟨HN.out.1.kept Hb.out, HN.out.2.1, HN.out.2.2.kept Hb.out⟩, grown_below HG.out Hb.out⟩

theorem prm_seven : Prm 7 := ⟨by omega, fun d h1 h2 => by
  have h : d = 2 ∨ d = 3 ∨ d = 4 ∨ d = 5 ∨ d = 6 := by omega
  rcases h with rfl | rfl | rfl | rfl | rfl <;> omega⟩
theorem rightS_seven : rightS 7 3 2 = true := (rightS_iff 7 3 2).2 ⟨by omega, (isP_iff 7).2 ⟨by omega, by omega, prm_seven⟩, by omega, by omega, by omega, by omega⟩

end Go.Proofs.YtahconkjhneogaaGreatDoor

namespace Go.Proofs.YtahconkjhneogaaGreatDoor
open Go.RowKit

/-- A number of 64 bits. -/
def uv (X : BitVec 64) : Int := (X.toNat : Int)
theorem uv_range (X : BitVec 64) : 0 ≤ uv X ∧ uv X ≤ 18446744073709551615 := by
  have := X.isLt
  unfold uv
  omega
theorem uv_of {h : Int} (h0 : 0 ≤ h) (h1 : h ≤ 18446744073709551615) : uv (BitVec.ofInt 64 h) = h := by
  unfold uv
  rw [BitVec.toNat_ofInt]
  omega
theorem of_uv (X : BitVec 64) : BitVec.ofInt 64 (uv X) = X := by
  unfold uv
  rw [BitVec.ofInt_natCast, BitVec.ofNat_toNat, BitVec.setWidth_eq]
theorem uv_inj {X Y : BitVec 64} (h : uv X = uv Y) : X = Y := BitVec.eq_of_toNat_eq (by unfold uv at h; omega)
theorem uv_shr (X : BitVec 64) : uv X / (8589934592 : Int) = uv (X >>> 33) := by
  unfold uv
  rw [BitVec.toNat_ushiftRight, Nat.shiftRight_eq_div_pow]
  rfl
theorem uv_xor (X Y : BitVec 64) : bits .xor .u64 (uv X) (uv Y) = uv (X ^^^ Y) := by
  show IntKind.u64.wrap ((BitVec.ofInt 64 (uv X) ^^^ BitVec.ofInt 64 (uv Y)).toNat : Int) = _
  rw [of_uv, of_uv]
  exact Go.IntWalk.u64_in _ (uv_range (X ^^^ Y))
theorem uv_mul (X Y : BitVec 64) : IntKind.u64.wrap (uv X * uv Y) = uv (X * Y) := by
  unfold uv
  rw [BitVec.toNat_mul]
  simp [IntKind.wrap, IntKind.bits, IntKind.signed]

/-- A number folded into itself. -/
def fdB (X : BitVec 64) : BitVec 64 := X ^^^ (X >>> 33)
theorem fdB_fdB (X : BitVec 64) : fdB (fdB X) = X := by
  unfold fdB
  rw [BitVec.ushiftRight_xor_distrib, ← BitVec.shiftRight_add, BitVec.ushiftRight_eq_zero (by decide : 64 ≤ 33 + 33)]
  rw [BitVec.xor_zero, BitVec.xor_assoc, BitVec.xor_self, BitVec.xor_zero]
def f0 : BitVec 64 := 0xff51afd7ed558ccd#64
def f1 : BitVec 64 := 0xc4ceb9fe1a85ec53#64
def i0 : BitVec 64 := 0x4f74430c22a54005#64
def i1 : BitVec 64 := 0x9cb4b2f8129337db#64
theorem fi0 : f0 * i0 = 1#64 := by decide
theorem fi1 : f1 * i1 = 1#64 := by decide
def mixB (X : BitVec 64) : BitVec 64 := fdB (fdB (fdB X * f0) * f1)
def unmixB (X : BitVec 64) : BitVec 64 := fdB (fdB (fdB X * i1) * i0)
theorem unmix_mix (X : BitVec 64) : unmixB (mixB X) = X := by
  unfold unmixB mixB
  rw [fdB_fdB, BitVec.mul_assoc, fi1, BitVec.mul_one, fdB_fdB, BitVec.mul_assoc, fi0, BitVec.mul_one, fdB_fdB]
theorem mix_unmix (X : BitVec 64) : mixB (unmixB X) = X := by
  unfold unmixB mixB
  rw [fdB_fdB, BitVec.mul_assoc, BitVec.mul_comm i0, fi0, BitVec.mul_one, fdB_fdB, BitVec.mul_assoc, BitVec.mul_comm i1, fi1, BitVec.mul_one, fdB_fdB]
theorem mix_inj (X Y : BitVec 64) : mixB X = mixB Y ↔ X = Y := ⟨fun h => by rw [← unmix_mix X, h, unmix_mix], fun h => by rw [h]⟩


/-- FNV-1a that goes on. -/
def furB (X : BitVec 64) (bs : List Int) : BitVec 64 := bs.foldl (fun Y b => (Y ^^^ BitVec.ofInt 64 b) * 1099511628211#64) X
theorem furB_take (X : BitVec 64) (bs : List Int) (k : Nat) (hk : k < bs.length) : furB X (bs.take (k + 1)) = (furB X (bs.take k) ^^^ BitVec.ofInt 64 (bs.getD k 0)) * 1099511628211#64 := by
  unfold furB
  rw [List.take_succ_eq_append_getElem hk, List.foldl_append, List.getD, List.getElem?_eq_getElem hk]
  rfl
theorem furB_append (X : BitVec 64) (bs cs : List Int) : furB X (bs ++ cs) = furB (furB X bs) cs := by
  unfold furB
  rw [List.foldl_append]
def first64 : BitVec 64 := 14695981039346656037#64
theorem uv_first : uv first64 = 14695981039346656037 := by decide
theorem uv_factor : uv (1099511628211#64) = 1099511628211 := by decide
theorem uv_byte {b : Int} (h : 0 ≤ b ∧ b ≤ 255) : uv (BitVec.ofInt 64 b) = b := uv_of h.1 (by omega)
/-- One byte more. -/
theorem fur_step (X : BitVec 64) (b : Int) (h : 0 ≤ b ∧ b ≤ 255) : IntKind.u64.wrap (bits .xor .u64 (uv X) b * 1099511628211) = uv ((X ^^^ BitVec.ofInt 64 b) * 1099511628211#64) := by
  rw [← uv_factor, ← uv_mul, ← uv_xor, uv_byte h]
theorem fd_eq (X : BitVec 64) : bits .xor .u64 (uv X) (uv X / 8589934592) = uv (fdB X) := by
  rw [uv_shr, uv_xor]
  rfl
end Go.Proofs.YtahconkjhneogaaGreatDoor

namespace Go.Proofs.YtahconkjhneogaaGreatDoor
open Go.RowKit Go.Lib

theorem ret_k {k : IntKind} {v : Value} {x y : Int} (hv : v = .int k x) (h : x = y) : Ending.returned v = .returned (.int k y) := by rw [hv, h]
theorem new_cell (w : World) (t : TypeId) (cs : Array Value) (i : Nat) : (w.alloc (.cells cs t)).cell? ⟨w.heap.size, i, none⟩ = cs[i]? := cell_of_row _ _ i cs t (0, 0) (heap_alloc_last w _)


def Byt (bs : List Int) : Prop := ∀ j, 0 ≤ bs.getD j 0 ∧ bs.getD j 0 ≤ 255
theorem Byt.of {bs : List Int} (h : ∀ x ∈ bs, 0 ≤ x ∧ x ≤ 255) : Byt bs := fun j => by
  by_cases hj : j < bs.length
  · rw [List.getD, List.getElem?_eq_getElem hj]
    exact h _ (List.getElem_mem hj)
  · rw [List.getD, List.getElem?_eq_none (by omega)]
    simp

/-- The bytes bs lie at the address, below n₀. -/
def Bys (n₀ : Nat) (W : World) (ad : Option Addr) (bs : List Int) : Prop := ∀ j, j < bs.length → ∃ g o, ad = some ⟨g, o, none⟩ ∧ g < n₀ ∧ W.cell? ⟨g, o + j, none⟩ = some (.int .u8 (bs.getD j 0))
theorem Bys.below {n₀ : Nat} {A B : World} (h : Below n₀ A B) {ad : Option Addr} {bs : List Int} (hb : Bys n₀ A ad bs) : Bys n₀ B ad bs := fun j hj => by
  obtain ⟨g, o, h1, h2, h3⟩ := hb j hj
  exact ⟨g, o, h1, h2, (h.cell (p := ⟨g, o + j, none⟩) h2).trans h3⟩
theorem Bys.mono {n₀ n₁ : Nat} {A : World} {ad : Option Addr} {bs : List Int} (hb : Bys n₀ A ad bs) (h : n₀ ≤ n₁) : Bys n₁ A ad bs := fun j hj => by
  obtain ⟨g, o, h1, h2, h3⟩ := hb j hj
  exact ⟨g, o, h1, Nat.lt_of_lt_of_le h2 h, h3⟩

theorem Tryz.infoByteS : (Tryz.prog.info? 5).map (fun i => (i.zero, i.size, i.bytes)) = some (some (.int .u8 0), 1, 1) := by kernel_rfl
theorem sbelow_drewN (w : World) (n : Nat) : Below w.heap.size w (w.drewN n) := ⟨rfl, rfl, rfl, Nat.le_refl _, fun _ _ => rfl⟩
theorem sbel2 {w W w' : World} (h1 : Below w.heap.size w W) (h2 : Below W.heap.size W w') : Below w.heap.size w w' := h1.trans (h2.mono h1.size)

def marks : List Int := [201, 202, 203, 204, 205, 206]
theorem u8_one (l : List Int) : ∀ u ∈ l.map (Value.int .u8), u.oneCell' = true := fun u hu => by
  obtain ⟨x, _, rfl⟩ := List.mem_map.1 hu
  rfl

/-- g bears the copy of bs, with the marks behind. -/
def CopyAt (w : World) (g : Nat) (bs : List Int) : Prop := g < w.heap.size ∧ ∀ j, j < bs.length + 6 → w.cell? ⟨g, j, none⟩ = some (.int .u8 ((bs ++ marks).getD j 0))
theorem CopyAt.kept {w w' : World} {g : Nat} {bs : List Int} (h : CopyAt w g bs) (hb : Below w.heap.size w w') : CopyAt w' g bs :=
  ⟨Nat.lt_of_lt_of_le h.1 hb.size, fun j hj => (hb.cell (p := ⟨g, j, none⟩) h.1).trans (h.2 j hj)⟩
theorem CopyAt.bys {w : World} {g : Nat} {bs : List Int} (h : CopyAt w g bs) : Bys w.heap.size w (some ⟨g, 0, none⟩) bs := fun j hj =>
  ⟨g, 0, rfl, h.1, by rw [Nat.zero_add, h.2 j (by omega)]; simp [List.getD, List.getElem?_append_left hj]⟩
theorem CopyAt.mark {w : World} {g : Nat} {bs : List Int} (h : CopyAt w g bs) (k : Nat) (hk : k < 6) : w.cell? ⟨g, bs.length + k, none⟩ = some (.int .u8 (201 + k)) := by
  rw [h.2 _ (by omega), List.getD, List.getElem?_append_right (by omega), Nat.add_sub_cancel_left]
  match k, hk with
  | 0, _ => rfl
  | 1, _ => rfl
  | 2, _ => rfl
  | 3, _ => rfl
  | 4, _ => rfl
  | 5, _ => rfl

/-- What linkboynum.Bytes answers. -/
def CopyEnd (bs : List Int) (w : World) (e : Ending) (w' : World) : Prop := ∃ g, e = .returned (.slice (some ⟨g, 0, none⟩) bs.length (bs.length + 6)) ∧ w.heap.size ≤ g ∧ CopyAt w' g bs ∧ Below w.heap.size w w'

theorem copy_own {w : World} {base g n : Nat} {bs : List Int} (h : w.ownsRow base 5 1 (.slice (some ⟨g, 0, none⟩) (bs.length + 6) n) (bs.length + 6) (bs.map (Value.int .u8) ++ marks.map (Value.int .u8))) : CopyAt w g bs := by
  refine ⟨?_, fun j hj => ?_⟩
  · rcases h.2 with ⟨h', _⟩ | ⟨g', cap, cur, h', _, hg, _⟩
    · cases h'
    · simp only [Value.slice.injEq, Option.some.injEq, Addr.mk.injEq, and_true] at h'
      obtain ⟨rfl, _⟩ := h'
      exact (Array.getElem?_eq_some_iff.1 hg).1
  · rw [h.cellAt j (by rw [Nat.mul_one]; exact hj), ← List.map_append, List.getElem?_map]
    have hl : j < (bs ++ marks).length := by rw [List.length_append]; exact hj
    rw [List.getElem?_eq_getElem hl, List.getD, List.getElem?_eq_getElem hl]
    rfl


/-- The text of bytes. -/
theorem conv_bys {w : World} {n₀ : Nat} {ad : Option Addr} {bs : List Int} (h : Bys n₀ w ad bs) (cap : Nat) : (convert 23 9 (.slice ad bs.length cap)).run Tryz.prog w = .ok (.string (strOfNums bs)) w := by
  by_cases h0 : bs.length = 0
  · obtain rfl : bs = [] := List.length_eq_zero_iff.1 h0
    cases ad with
    | none => exact run_convert_bytes_nil (P := Tryz.prog) w 23 5 Tryz.underlying23 Tryz.underlying5 0 cap 9 Tryz.underlying9
    | some a =>
      rw [run_convert_bytes_string w 23 9 5 _ _ _ Tryz.underlying23 Tryz.underlying5 Tryz.underlying9]
      exact run_bytesToString w a 0 cap [] (by simpa using run_loadCells_list (P := Tryz.prog) w a [] (fun j v hj => by simp at hj))
  · obtain ⟨g, o, rfl, _, _⟩ := h 0 (by omega)
    exact run_convert_bytes_arg (P := Tryz.prog) w 23 5 Tryz.underlying23 Tryz.underlying5 g o bs.length cap bs rfl (fun j hj => by
      obtain ⟨g', o', e, _, hc⟩ := h j hj
      cases e
      exact hc) 9 Tryz.underlying9

theorem wrapMark (k : Nat) (h : k < 6) : IntKind.u8.wrap (201 + (k : Int)) = 201 + (k : Int) := by
  simp only [IntKind.wrap, IntKind.bits, IntKind.signed]
  simp
  omega

end Go.Proofs.YtahconkjhneogaaGreatDoor

namespace Go.Proofs.YtahconkjhneogaaGreatDoor
open Go.RowKit Go.Lib

set_option maxHeartbeats 1000000 in
theorem folded_any (X : BitVec 64) (w : World) : Calls Tryz.prog 77 #[.int .u64 (uv X)] w fun e w' => e = .returned (.int .u64 (uv (fdB X))) ∧ w = w' := by
  have hr := uv_range X
  have HF := hid (fd_eq X)
  generalize uv (fdB X) = y at *
  generalize uv X = x at *
  go_enter Tryz.func77, Tryz.ntmps77
  go_wp2
  go_ret
  exact ⟨ret_k rfl HF.out, rfl⟩

set_option maxHeartbeats 2000000 in
theorem further_any (X : BitVec 64) (ad : Option Addr) (cap : Nat) (bs : List Int) (hby : Byt bs) (hm : bs.length ≤ 1000000) (w : World) (hI : Bys w.heap.size w ad bs) :
    Calls Tryz.prog 56 #[.int .u64 (uv X), .slice ad bs.length cap] w fun e w' => e = .returned (.int .u64 (uv (furB X bs))) ∧ w = w' := by
  obtain ⟨len, hlen⟩ : ∃ len, bs.length = len := ⟨_, rfl⟩
  have HE : Hid (furB X (bs.take len) = furB X bs) := hid (by rw [← hlen, List.take_length])
  have HI : Hid (∀ j, j < len → ∃ g o, ad = some ⟨g, o, none⟩ ∧ w.cell? ⟨g, o + j, none⟩ = some (.int .u8 (bs.getD j 0)) ∧ furB X (bs.take (j + 1)) = (furB X (bs.take j) ^^^ BitVec.ofInt 64 (bs.getD j 0)) * 1099511628211#64) := hid fun j hj => by
    obtain ⟨g, o, h1, _, h3⟩ := hI j (by omega)
    exact ⟨g, o, h1, h3, furB_take X bs j (by omega)⟩
  rw [hlen] at hm ⊢
  clear hlen hI
  have H0 : Hid (uv X = uv (furB X (bs.take 0))) := hid rfl
  have hr0 := uv_range X
  generalize uv X = x0 at *
  go_enter Tryz.func56, Tryz.ntmps56
  go_wp2
  go_loop [0, 9] (fun h t => ∃ k : Nat, k ≤ len ∧ t = .int .i64 k ∧ ∃ T : Int, Hid (T = uv (furB X (bs.take k))) ∧ 0 ≤ T ∧ T ≤ 18446744073709551615 ∧ h = .int .u64 T) (fun _ t => len - (intOf t).toNat)
  case atStart => exact ⟨0, by omega, rfl, x0, H0, by omega, by omega, rfl⟩
  case round =>
    obtain ⟨k, hk, rfl, T, HT, hT0, hT1, rfl⟩ := hrel
    by_cases hlt : k < len
    · obtain ⟨g, o, rfl, hc, hs⟩ := HI.out k hlt
      obtain ⟨x, hx⟩ : ∃ x, x = bs.getD k 0 := ⟨_, rfl⟩
      have hxr : 0 ≤ x ∧ x ≤ 255 := hx ▸ hby k
      rw [← hx] at hc hs
      have HN : Hid (IntKind.u64.wrap (bits .xor .u64 T x * 1099511628211) = uv (furB X (bs.take (k + 1)))) := hid (by rw [hs, HT.out, fur_step _ _ hxr])
      have HR : Hid (0 ≤ uv (furB X (bs.take (k + 1))) ∧ uv (furB X (bs.take (k + 1))) ≤ 18446744073709551615) := hid (uv_range _)
      clear hx hs
      go_wp2
      go_round
      case rel => exact ⟨k + 1, by omega, by go_num, _, hid HN.out, by rw [HN.out]; exact HR.out.1, by rw [HN.out]; exact HR.out.2, rfl⟩
      case measure => simp [intOf]; omega
    · obtain rfl : k = len := by omega
      go_wp2
      go_ret
      exact ⟨ret_k rfl (by rw [HT.out, HE.out]), rfl⟩
end Go.Proofs.YtahconkjhneogaaGreatDoor

namespace Go.Proofs.YtahconkjhneogaaGreatDoor
open Go.RowKit Go.Lib

set_option maxHeartbeats 1000000 in
theorem plain_any (ad : Option Addr) (cap : Nat) (bs : List Int) (hby : Byt bs) (hm : bs.length ≤ 1000000) (w : World) (hI : Bys w.heap.size w ad bs) :
    Calls Tryz.prog 57 #[.slice ad bs.length cap] w fun e w' => e = .returned (.int .u64 (uv (furB first64 bs))) ∧ w = w' := by
  have HF := hid (further_any first64 ad cap bs hby hm w hI)
  rw [uv_first] at HF
  generalize uv (furB first64 bs) = y at *
  clear hI hby hm
  go_enter Tryz.func57, Tryz.ntmps57
  go_wp2_with fail
  refine HF.out.mono ?_
  rintro e w1 ⟨rfl, rfl⟩
  go_wp2
  go_ret
  exact ⟨rfl, rfl⟩


/-- What hash.factors holds. -/
structure FEnv (w : World) : Prop where
  f0 : w.cell? ⟨18, 0, none⟩ = some (.int .u64 18397679294719823053)
  f1 : w.cell? ⟨18, 1, none⟩ = some (.int .u64 14181476777654086739)
  lt : 18 < w.heap.size
theorem FEnv.kept {w w' : World} (h : FEnv w) (hb : Below w.heap.size w w') : FEnv w' := ⟨(hb.cell (p := ⟨18, 0, none⟩) h.lt).trans h.f0, (hb.cell (p := ⟨18, 1, none⟩) h.lt).trans h.f1, Nat.lt_of_lt_of_le h.lt hb.size⟩

theorem mul0 (X : BitVec 64) : IntKind.u64.wrap (uv X * 18397679294719823053) = uv (X * Go.Proofs.YtahconkjhneogaaGreatDoor.f0) := by
  rw [← uv_mul, show uv Go.Proofs.YtahconkjhneogaaGreatDoor.f0 = 18397679294719823053 by decide]
theorem mul1 (X : BitVec 64) : IntKind.u64.wrap (uv X * 14181476777654086739) = uv (X * Go.Proofs.YtahconkjhneogaaGreatDoor.f1) := by
  rw [← uv_mul, show uv Go.Proofs.YtahconkjhneogaaGreatDoor.f1 = 14181476777654086739 by decide]
theorem mulI0 (X : BitVec 64) : IntKind.u64.wrap (uv X * 5725274745694666757) = uv (X * Go.Proofs.YtahconkjhneogaaGreatDoor.i0) := by
  rw [← uv_mul, show uv Go.Proofs.YtahconkjhneogaaGreatDoor.i0 = 5725274745694666757 by decide]
theorem mulI1 (X : BitVec 64) : IntKind.u64.wrap (uv X * 11291846944257947611) = uv (X * Go.Proofs.YtahconkjhneogaaGreatDoor.i1) := by
  rw [← uv_mul, show uv Go.Proofs.YtahconkjhneogaaGreatDoor.i1 = 11291846944257947611 by decide]

set_option maxHeartbeats 2000000 in
theorem mix_any (X : BitVec 64) (w : World) (hE : FEnv w) : Calls Tryz.prog 55 #[.int .u64 (uv X)] w fun e w' => e = .returned (.int .u64 (uv (mixB X))) ∧ w = w' := by
  have H1 := hid (folded_any X w)
  have H2 := hid (folded_any (fdB X * Go.Proofs.YtahconkjhneogaaGreatDoor.f0) w)
  have H3 := hid (folded_any (fdB (fdB X * Go.Proofs.YtahconkjhneogaaGreatDoor.f0) * Go.Proofs.YtahconkjhneogaaGreatDoor.f1) w)
  have e1 := mul0 (fdB X)
  have e2 := mul1 (fdB (fdB X * Go.Proofs.YtahconkjhneogaaGreatDoor.f0))
  rw [show fdB (fdB (fdB X * Go.Proofs.YtahconkjhneogaaGreatDoor.f0) * Go.Proofs.YtahconkjhneogaaGreatDoor.f1) = mixB X from rfl] at H3
  have c0 := hE.f0
  have c1 := hE.f1
  clear hE
  generalize uv (mixB X) = y at *
  generalize uv (fdB (fdB X * Go.Proofs.YtahconkjhneogaaGreatDoor.f0) * Go.Proofs.YtahconkjhneogaaGreatDoor.f1) = b2 at *
  generalize uv (fdB (fdB X * Go.Proofs.YtahconkjhneogaaGreatDoor.f0)) = b1 at *
  generalize uv (fdB X * Go.Proofs.YtahconkjhneogaaGreatDoor.f0) = a2 at *
  generalize uv (fdB X) = a1 at *
  generalize uv X = x at *
  go_enter Tryz.func55, Tryz.ntmps55
  go_wp2_with fail
  refine H1.out.mono ?_
  rintro e w1 ⟨rfl, rfl⟩
  go_wp2
  go_loop [0, 6] (fun h t => (t = .int .i64 0 ∧ h = .int .u64 a1) ∨ (t = .int .i64 1 ∧ h = .int .u64 b1) ∨ (t = .int .i64 2 ∧ h = .int .u64 y)) (fun _ t => 2 - (intOf t).toNat)
  case atStart => exact .inl ⟨rfl, rfl⟩
  case round =>
    rcases hrel with ⟨rfl, rfl⟩ | ⟨rfl, rfl⟩ | ⟨rfl, rfl⟩
    · go_wp2_with fail
      refine H2.out.mono ?_
      rintro e w1 ⟨rfl, rfl⟩
      go_wp2
      go_round
      case rel => exact .inr (.inl ⟨rfl, rfl⟩)
      case measure => simp [intOf]
    · go_wp2_with fail
      refine H3.out.mono ?_
      rintro e w1 ⟨rfl, rfl⟩
      go_wp2
      go_round
      case rel => exact .inr (.inr ⟨rfl, rfl⟩)
      case measure => simp [intOf]
    · go_wp2
      go_ret
      exact ⟨rfl, rfl⟩

theorem quo_eq (X : BitVec 64) : (uv X).tdiv 8589934592 = uv (X >>> 33) := by
  rw [Int.tdiv_eq_ediv_of_nonneg (uv_range X).1]
  exact uv_shr X

set_option maxHeartbeats 2000000 in
theorem rmix_any (X : BitVec 64) (w : World) : Calls Tryz.prog 58 #[.int .u64 (uv X)] w fun e w' => e = .returned (.int .u64 (uv (mixB X))) ∧ w = w' := by
  have e1 := mul0 (fdB X)
  have e2 := mul1 (fdB (fdB X * Go.Proofs.YtahconkjhneogaaGreatDoor.f0))
  have s0 := fd_eq X
  have s1 := fd_eq (fdB X * Go.Proofs.YtahconkjhneogaaGreatDoor.f0)
  have s2 := fd_eq (fdB (fdB X * Go.Proofs.YtahconkjhneogaaGreatDoor.f0) * Go.Proofs.YtahconkjhneogaaGreatDoor.f1)
  rw [show fdB (fdB (fdB X * Go.Proofs.YtahconkjhneogaaGreatDoor.f0) * Go.Proofs.YtahconkjhneogaaGreatDoor.f1) = mixB X from rfl] at s2
  have r0 := uv_range X
  have r1 := uv_range (fdB X * Go.Proofs.YtahconkjhneogaaGreatDoor.f0)
  have r2 := uv_range (fdB (fdB X * Go.Proofs.YtahconkjhneogaaGreatDoor.f0) * Go.Proofs.YtahconkjhneogaaGreatDoor.f1)
  generalize uv (mixB X) = y at *
  generalize uv (fdB (fdB X * Go.Proofs.YtahconkjhneogaaGreatDoor.f0) * Go.Proofs.YtahconkjhneogaaGreatDoor.f1) = b2 at *
  generalize uv (fdB (fdB X * Go.Proofs.YtahconkjhneogaaGreatDoor.f0)) = b1 at *
  generalize uv (fdB X * Go.Proofs.YtahconkjhneogaaGreatDoor.f0) = a2 at *
  generalize uv (fdB X) = a1 at *
  generalize uv X = x at *
  go_enter Tryz.func58, Tryz.ntmps58
  go_wp2
  go_ret
  exact ⟨ret_k rfl (by simp [*]), rfl⟩
end Go.Proofs.YtahconkjhneogaaGreatDoor

namespace Go.Proofs.YtahconkjhneogaaGreatDoor
open Go.RowKit

section
variable {P : Program} {ops : Array Oper} {Q : Exit → Act → World → Prop} {md : Region.Mode}

theorem rowsIn_round {l n : Nat} {row : String} {args : Array Value} {w : World} {R : Value → World → Prop} (h : Rows P row args w R) : RowsIn (Fence.wide.inRound l) n P row args w R := fun c cs _ => by
  obtain ⟨v, w', hr, hs⟩ := h c cs
  exact ⟨v, w', hr, stepsIn_wide.2 hs⟩

theorem wpOp_round (l n : Nat) (hop : ∀ (i : Nat) (o : Oper) (c : Call), ops[i]? = some o → o.op ≠ .defer c) (hQ : ¬ LetsOut Q) {i : Nat} {K : Act → World → Prop} {a : Act} {w : World} (h : wpOp P ops Q i K a w) :
    wpOpIn (Fence.wide.inRound l) n P ops Q i K a w := by
  unfold wpOp at h
  unfold wpOpIn
  cases ho : ops[i]? with
  | none => simpa [ho] using h
  | some o =>
    simp only [ho] at h ⊢
    by_cases hw : Region.wanted o (yielded ops a.tmps) = true
    · rw [if_pos hw] at h ⊢
      rcases h with h | h
      · refine ⟨fun _ _ => trivial, ?_⟩
        rw [show (Fence.wide.inRound l).round = some l from rfl, Oper.semAt_some l a.eval o (fun c => hop i o c ho)]
        unfold Oper.wp at h
        generalize (execOp a.eval o).run P w = r at h ⊢
        cases r with
        | ok x w' =>
          cases x <;> simp only [Oper.upon, Oper.uponIn] at h ⊢
          case enter f args => exact ⟨fun h => by simp [Fence.wide] at h, CallsIn.inRound l (callsIn_wide.2 h)⟩
          case row r args => exact ⟨fun h => by simp [Fence.wide] at h, rowsIn_round h⟩
          all_goals exact h
        | halt x w' => cases x <;> simp only [Oper.upon, Oper.uponIn] at h ⊢ <;> exact h
      · exact absurd h.2 hQ
    · rw [if_neg hw] at h ⊢
      exact ⟨fun _ _ => trivial, h⟩

theorem wpAny_round (l n : Nat) (hop : ∀ (i : Nat) (o : Oper) (c : Call), ops[i]? = some o → o.op ≠ .defer c) (hQ : ¬ LetsOut Q) : ∀ (fuel : Nat) (listed : Array Bool) (a : Act) (w : World),
    wpAny P md ops Q fuel listed a w → wpAnyIn (Fence.wide.inRound l) n P md ops Q fuel listed a w
  | 0, _, _, _, h => h
  | fuel + 1, _, _, _, h => ⟨h.1, fun i hi => wpOpIn_mono (fun a w h => wpAny_round l n hop hQ fuel _ a w h) (wpOp_round l n hop hQ (h.2 i hi))⟩

def noDefer (ops : Array Oper) : Bool := ops.all fun o => match o.op with | .defer _ => false | _ => true
theorem noDefer_spec (h : noDefer ops = true) (i : Nat) (o : Oper) (c : Call) (ho : ops[i]? = some o) : o.op ≠ .defer c := fun e => by
  have := Array.all_eq_true_iff_forall_mem.1 h o (Array.mem_of_getElem? ho)
  rw [e] at this
  cases this

/-- A drawn region of a round's body, some facts S holding all the time. -/
theorem wpIn_region_round {l n id : Nat} {S : World → Prop} {a : Act} {w : World} (hm : P.follows .mixedOrders = true) (hop : noDefer ops = true) (hQ : ¬ LetsOut Q) (hS : S w.drew)
    (h : S w.drew → wpAnyH P .any ops Q S ops.size (Array.replicate ops.size false) a w.drew) : (Code.region id ops true).wpIn (Fence.wide.inRound l) n P Q a w :=
  wpIn_region_any hm (wpAny_round l n (noDefer_spec hop) hQ _ _ _ _ (wpAny_of_held _ _ _ _ (h hS)))
end

section
variable {P : Program} {ops : Array Oper} {o : Oper} {a : Act} {w : World} {K : Act → World → Prop} {Q : Exit → Act → World → Prop} {E : Prop}
/-- A step of a drawn region: a call of a Go function by its contract. -/
theorem r_call (f : FuncId) (args : Array Value) (hrun : (execOp a.eval o).run P w = .ok (.enter f args) w) (hw : Region.wanted o (yielded ops a.tmps) = true) {R : World → Prop} (v : Value)
    (hc : Calls P f args w fun e w' => e = .returned v ∧ R w') (h : ∀ w', R w' → K (a.put o.dst v) w') : if Region.wanted o (yielded ops a.tmps) = true then Oper.wp P o a w K Q else E := by
  rw [if_pos hw]
  unfold Oper.wp
  rw [hrun, Oper.upon_enter]
  refine hc.mono fun e w'' hh => ?_
  obtain ⟨rfl, hR⟩ := hh
  exact h _ hR
/-- A step of a drawn region: any operation whose run is known. -/
theorem r_run (v : Value) (w' : World) (hrun : (execOp a.eval o).run P w = .ok (.value v) w') (hw : Region.wanted o (yielded ops a.tmps) = true)
    (h : K (a.put o.dst v) w') : if Region.wanted o (yielded ops a.tmps) = true then Oper.wp P o a w K Q else E := by
  rw [if_pos hw]
  unfold Oper.wp
  rw [hrun, Oper.upon_value]
  exact h
theorem r_skip (w' : World) (hrun : (execOp a.eval o).run P w = .ok .skip w') (hw : Region.wanted o (yielded ops a.tmps) = true)
    (h : K (a.put o.dst undef) w') : if Region.wanted o (yielded ops a.tmps) = true then Oper.wp P o a w K Q else E := by
  rw [if_pos hw]
  unfold Oper.wp
  rw [hrun, Oper.upon_skip]
  exact h
/-- The same, where the operation may be left out by its guard: what is left is the run. -/
theorem o_call (f : FuncId) (args : Array Value) (hrun : (execOp a.eval o).run P w = .ok (.enter f args) w) {R : World → Prop} (v : Value)
    (hc : Calls P f args w fun e w' => e = .returned v ∧ R w') (h : ∀ w', R w' → K (a.put o.dst v) w') : Oper.wp P o a w K Q := by
  unfold Oper.wp
  rw [hrun, Oper.upon_enter]
  refine hc.mono fun e w'' hh => ?_
  obtain ⟨rfl, hR⟩ := hh
  exact h _ hR
theorem o_run (v : Value) (w' : World) (hrun : (execOp a.eval o).run P w = .ok (.value v) w') (h : K (a.put o.dst v) w') : Oper.wp P o a w K Q := by
  unfold Oper.wp
  rw [hrun, Oper.upon_value]
  exact h
end
end Go.Proofs.YtahconkjhneogaaGreatDoor

namespace Go.Proofs.YtahconkjhneogaaGreatDoor
open Go.RowKit Go.Lib

section
variable {ops : Array Oper} {o : Oper} {a : Act} {w : World} {K : Act → World → Prop} {Q : Exit → Act → World → Prop} {E : Prop}
/-- append, whatever is appended: a step of a drawn region. -/
theorem r_app (s x : Operand) (ho : o.op = .call { callee := .builtin .append, args := #[s, x], argTypes := #[23, 23] }) (base : Nat) (v : Value) (n : Nat) (xs : List Value) (hs : a.eval s = v) (hown : w.ownsRow base 5 1 v n xs)
    (ao : Option Addr) (m c : Nat) (ms : List Int) (hx : a.eval x = .slice ao m c) (hl : ms.length = m) (n₀ : Nat) (hb : Bys n₀ w ao ms) (hn : ao = none → m = 0 ∧ c = 0)
    (h63 : n + m ≤ 1000000) (hbase : base ≤ w.heap.size) (hw : Region.wanted o (yielded ops a.tmps) = true)
    (h : ∀ v' w', w'.ownsRow base 5 1 v' (n + m) (xs ++ ms.map (Value.int .u8)) → w.grownBy w' v.ownBlock → K (a.put o.dst v') w') : if Region.wanted o (yielded ops a.tmps) = true then Oper.wp Tryz.prog o a w K Q else E := by
  obtain ⟨i0, hi, hz0, hz1, hz2⟩ := info_parts Tryz.infoByteS
  rw [if_pos hw]
  cases ao with
  | none =>
    obtain ⟨rfl, rfl⟩ := hn rfl
    obtain rfl : ms = [] := List.length_eq_zero_iff.1 hl
    have hrun := run_append_owned_none (P := Tryz.prog) (w := w) base 23 o.type 5 i0 1 Tryz.underlying23 hi v n xs hown
    unfold Oper.wp execOp
    simp only [ho, resolve, invoke, builtin, Sem.run_bind, Sem.run_pure, Result.andThen_ok, List.map_toArray, List.map_cons, List.map_nil, hs, hx, hrun]
    exact h _ _ (by simpa using hown) (World.grownBy.refl _ _)
  | some ad =>
    refine wp_append_own w s x 23 ho base 5 i0 (.int .u8 0) 1 1 Tryz.underlying23 hi hz0 hz1 hz2 rfl (by decide) v n xs hs hown ad m c (ms.map (Value.int .u8)) hx (by rw [List.length_map, hl, Nat.mul_one]) ?_ (u8_one ms) (by unfold maxLen; omega) (by omega) hbase (fun v' w' h2 h3 _ => h v' w' h2 h3)
    intro j u hu
    rw [List.getElem?_map] at hu
    obtain ⟨y, hy, rfl⟩ := Option.map_eq_some_iff.1 hu
    have hj := (List.getElem?_eq_some_iff.1 hy).1
    obtain ⟨g, of, e, hg, hc⟩ := hb j hj
    cases e
    rw [show (⟨g, of, none⟩ : Addr).add j = ⟨g, of + j, none⟩ by unfold Addr.add; split <;> simp_all, hc, List.getD, hy]
    rfl
end

/-- What is owned reads as bytes. -/
theorem own_bys {w : World} {base : Nat} {v : Value} {k : Nat} {ms : List Int} (h : w.ownsRow base 5 1 v k (ms.map (Value.int .u8))) : ms.length = k ∧ ∃ ad cap, v = .slice ad k cap ∧ k ≤ cap ∧ Bys w.heap.size w ad ms := by
  have hl : ms.length = k := by have := h.1; rw [List.length_map, Nat.mul_one] at this; exact this
  refine ⟨hl, ?_⟩
  rcases h.2 with ⟨h', h0⟩ | ⟨g, cap, cur, h', _, hg, hk, _, _, _⟩
  · subst h0
    exact ⟨none, 0, h', Nat.le_refl _, fun j hj => by omega⟩
  · subst h'
    refine ⟨some ⟨g, 0, none⟩, cap, rfl, hk, fun j hj => ⟨g, 0, rfl, (Array.getElem?_eq_some_iff.1 hg).1, ?_⟩⟩
    rw [Nat.zero_add, h.cellAt j (by omega), List.getElem?_map, List.getD, List.getElem?_eq_getElem hj]
    rfl
/-- append, whatever is appended: a step of a plain region. -/
theorem wpl_app {ops : Array Oper} {rest : List Oper} {o : Oper} {a : Act} {w : World} {Q : Exit → Act → World → Prop} (s x : Operand) (ho : o.op = .call { callee := .builtin .append, args := #[s, x], argTypes := #[23, 23] }) (base : Nat) (v : Value) (n : Nat) (xs : List Value) (hs : a.eval s = v) (hown : w.ownsRow base 5 1 v n xs)
    (ao : Option Addr) (m c : Nat) (ms : List Int) (hx : a.eval x = .slice ao m c) (hl : ms.length = m) (n₀ : Nat) (hb : Bys n₀ w ao ms) (hn : ao = none → m = 0 ∧ c = 0)
    (h63 : n + m ≤ 1000000) (hbase : base ≤ w.heap.size) (hw : Region.wanted o (yielded ops a.tmps) = true)
    (h : ∀ v' w', w'.ownsRow base 5 1 v' (n + m) (xs ++ ms.map (Value.int .u8)) → w.grownBy w' v.ownBlock → wpList Tryz.prog ops Q rest (a.put o.dst v') w') : wpList Tryz.prog ops Q (o :: rest) a w :=
  BigFrame.wpList_want hw fun K hK => by
    have := r_app (ops := ops) (K := K) (Q := Q) (E := False) s x ho base v n xs hs hown ao m c ms hx hl n₀ hb hn h63 hbase hw (fun v' w' h1 h2 => hK _ _ (h v' w' h1 h2))
    rw [if_pos hw] at this
    exact this

theorem own_below {w w' : World} {base : Nat} {e : TypeId} {size : Nat} {v : Value} {n : Nat} {xs : List Value} (h : w.ownsRow base e size v n xs) (hb : Below w.heap.size w w') : w'.ownsRow base e size v n xs := by
  refine ⟨h.1, ?_⟩
  rcases h.2 with h' | ⟨g, cap, cur, h1, h2, h3, h4⟩
  · exact .inl h'
  · exact .inr ⟨g, cap, cur, h1, h2, by rw [hb.block g (Array.getElem?_eq_some_iff.1 h3).1]; exact h3, h4⟩
theorem own_mono {w : World} {base base' : Nat} {e : TypeId} {size : Nat} {v : Value} {n : Nat} {xs : List Value} (h : w.ownsRow base e size v n xs) (hb : base' ≤ base) : w.ownsRow base' e size v n xs := by
  refine ⟨h.1, ?_⟩
  rcases h.2 with h' | ⟨g, cap, cur, h1, h2, h3⟩
  · exact .inl h'
  · exact .inr ⟨g, cap, cur, h1, Nat.le_trans hb h2, h3⟩
theorem own_blockP {w : World} {base : Nat} {v : Value} {n : Nat} {xs : List Value} (h : w.ownsRow base 5 1 v n xs) : ∀ k, v.ownBlock = some k → base ≤ k := fun k e => by
  rcases h.2 with ⟨rfl, _⟩ | ⟨g, cap, cur, rfl, hb, _⟩
  · cases e
  · cases e
    exact hb
theorem bys_new (w : World) (t : TypeId) (bs : List Int) : Bys (w.alloc (.cells (bs.map (Value.int .u8)).toArray t)).heap.size (w.alloc (.cells (bs.map (Value.int .u8)).toArray t)) (some ⟨w.heap.size, 0, none⟩) bs := fun j hj =>
  ⟨w.heap.size, 0, rfl, by simp, by rw [Nat.zero_add, new_cell]; simp [List.getElem?_eq_getElem hj, List.getD]⟩
end Go.Proofs.YtahconkjhneogaaGreatDoor

namespace Go.Proofs.YtahconkjhneogaaGreatDoor
open Go.RowKit Go.Lib

set_option maxHeartbeats 1000000 in
theorem below_any (x n : Int) (hx : 0 ≤ x ∧ x ≤ 18446744073709551615) (h1 : -9223372036854775808 ≤ n) (h2 : n ≤ 9223372036854775807) (w : World) : Calls Tryz.prog 31 #[.int .u64 x, .int .i64 n] w fun e w' => e = .returned (.int .i64 (if n < 1 then 0 else x % n)) ∧ w = w' := by
  by_cases h : n < 1
  · rw [if_pos h]
    go_enter Tryz.func31, Tryz.ntmps31
    go_wp2
    go_ret
    exact ⟨rfl, rfl⟩
  · rw [if_neg h]
    have e1 : IntKind.u64.wrap n = n := Go.IntWalk.u64_in _ (by omega)
    have hm := Int.emod_nonneg x (show n ≠ 0 by omega)
    have hm2 := Int.emod_lt_of_pos x (show 0 < n by omega)
    have e2 : x.tmod n = x % n := Int.tmod_eq_emod_of_nonneg hx.1
    generalize x % n = r at *
    go_enter Tryz.func31, Tryz.ntmps31
    go_wp2
    go_ret
    exact ⟨ret_k rfl (by simp [*]; try omega), rfl⟩

set_option maxHeartbeats 2000000 in
theorem rplain_any (ad : Option Addr) (cap : Nat) (bs : List Int) (hby : Byt bs) (hm : bs.length ≤ 1000000) (w : World) (hI : Bys w.heap.size w ad bs) :
    Calls Tryz.prog 59 #[.slice ad bs.length cap] w fun e w' => e = .returned (.int .u64 (uv (furB first64 bs))) ∧ w = w' := by
  obtain ⟨len, hlen⟩ : ∃ len, bs.length = len := ⟨_, rfl⟩
  have HE : Hid (furB first64 (bs.take len) = furB first64 bs) := hid (by rw [← hlen, List.take_length])
  have HI : Hid (∀ j, j < len → ∃ g o, ad = some ⟨g, o, none⟩ ∧ w.cell? ⟨g, o + j, none⟩ = some (.int .u8 (bs.getD j 0)) ∧ furB first64 (bs.take (j + 1)) = (furB first64 (bs.take j) ^^^ BitVec.ofInt 64 (bs.getD j 0)) * 1099511628211#64) := hid fun j hj => by
    obtain ⟨g, o, h1, _, h3⟩ := hI j (by omega)
    exact ⟨g, o, h1, h3, furB_take first64 bs j (by omega)⟩
  rw [hlen] at hm ⊢
  clear hlen hI
  have H0 : Hid ((14695981039346656037 : Int) = uv (furB first64 (bs.take 0))) := hid uv_first.symm
  go_enter Tryz.func59, Tryz.ntmps59
  go_wp2
  go_loop [3, 4] (fun h t => ∃ k : Nat, k ≤ len ∧ t = .int .i64 k ∧ ∃ T : Int, Hid (T = uv (furB first64 (bs.take k))) ∧ 0 ≤ T ∧ T ≤ 18446744073709551615 ∧ h = .int .u64 T) (fun _ t => len - (intOf t).toNat)
  case atStart => exact ⟨0, by omega, rfl, _, H0, by omega, by omega, rfl⟩
  case round =>
    obtain ⟨k, hk, rfl, T, HT, hT0, hT1, rfl⟩ := hrel
    by_cases hlt : k < len
    · obtain ⟨g, o, rfl, hc, hs⟩ := HI.out k hlt
      obtain ⟨x, hx⟩ : ∃ x, x = bs.getD k 0 := ⟨_, rfl⟩
      have hxr : 0 ≤ x ∧ x ≤ 255 := hx ▸ hby k
      rw [← hx] at hc hs
      have HN : Hid (IntKind.u64.wrap (bits .xor .u64 T x * 1099511628211) = uv (furB first64 (bs.take (k + 1)))) := hid (by rw [hs, HT.out, fur_step _ _ hxr])
      have HR : Hid (0 ≤ uv (furB first64 (bs.take (k + 1))) ∧ uv (furB first64 (bs.take (k + 1))) ≤ 18446744073709551615) := hid (uv_range _)
      clear hx hs
      go_wp2
      go_round
      case rel => exact ⟨k + 1, by omega, by go_num, _, hid HN.out, by rw [HN.out]; exact HR.out.1, by rw [HN.out]; exact HR.out.2, rfl⟩
      case measure => simp [intOf]; omega
    · obtain rfl : k = len := by omega
      go_wp2
      go_ret
      exact ⟨ret_k rfl (by rw [HT.out, HE.out]), rfl⟩

/-- The eight bytes of a number, the high one first. -/
def headOf (x : Int) : List Int := [x / 72057594037927936 % 256, x / 281474976710656 % 256, x / 1099511627776 % 256, x / 4294967296 % 256, x / 16777216 % 256, x / 65536 % 256, x / 256 % 256, x % 256]
theorem u8_wrap (p : Int) : IntKind.u8.wrap p = p % 256 := by simp [IntKind.wrap, IntKind.bits, IntKind.signed]
theorem head_byt (x : Int) : Byt (headOf x) := Byt.of fun y hy => by
  simp only [headOf, List.mem_cons, List.not_mem_nil, or_false] at hy
  omega


set_option maxRecDepth 100000 in
set_option maxHeartbeats 8000000 in
theorem of_any (x : Int) (ad : Option Addr) (cap : Nat) (bs : List Int) (hby : Byt bs) (hm : bs.length ≤ 1000000) (w : World) (hE : FEnv w) (hI : Bys w.heap.size w ad bs) :
    Calls Tryz.prog 32 #[.int .u64 x, .slice ad bs.length cap] w fun e w' => e = .returned (.int .u64 (uv (mixB (furB (furB first64 (headOf x)) bs)))) ∧ Below w.heap.size w w' := by
  obtain ⟨len, hlen⟩ : ∃ len, bs.length = len := ⟨_, rfl⟩
  obtain ⟨b0, hb0⟩ : ∃ b, IntKind.u8.wrap (x) = b := ⟨_, rfl⟩
  obtain ⟨b1, hb1⟩ : ∃ b, IntKind.u8.wrap (x / 256) = b := ⟨_, rfl⟩
  obtain ⟨b2, hb2⟩ : ∃ b, IntKind.u8.wrap (x / 65536) = b := ⟨_, rfl⟩
  obtain ⟨b3, hb3⟩ : ∃ b, IntKind.u8.wrap (x / 16777216) = b := ⟨_, rfl⟩
  obtain ⟨b4, hb4⟩ : ∃ b, IntKind.u8.wrap (x / 4294967296) = b := ⟨_, rfl⟩
  obtain ⟨b5, hb5⟩ : ∃ b, IntKind.u8.wrap (x / 1099511627776) = b := ⟨_, rfl⟩
  obtain ⟨b6, hb6⟩ : ∃ b, IntKind.u8.wrap (x / 281474976710656) = b := ⟨_, rfl⟩
  obtain ⟨b7, hb7⟩ : ∃ b, IntKind.u8.wrap (x / 72057594037927936) = b := ⟨_, rfl⟩
  have hh : headOf x = [b7, b6, b5, b4, b3, b2, b1, b0] := by
    unfold headOf
    rw [← hb0, ← hb1, ← hb2, ← hb3, ← hb4, ← hb5, ← hb6, ← hb7]
    simp only [u8_wrap]
  have hhb := head_byt x
  rw [hh] at hhb ⊢
  have HP : Hid (∀ W g, Bys W.heap.size W (some ⟨g, 0, none⟩) [b7, b6, b5, b4, b3, b2, b1, b0] → Calls Tryz.prog 57 #[.slice (some ⟨g, 0, none⟩) 8 8] W fun e w' => e = .returned (.int .u64 (uv (furB first64 [b7, b6, b5, b4, b3, b2, b1, b0]))) ∧ W = w') := hid (fun W g h => plain_any (some ⟨g, 0, none⟩) 8 [b7, b6, b5, b4, b3, b2, b1, b0] hhb (by simp) W h)
  have HF : Hid (∀ W, Below w.heap.size w W → Calls Tryz.prog 56 #[.int .u64 (uv (furB first64 [b7, b6, b5, b4, b3, b2, b1, b0])), .slice ad len cap] W fun e w' => e = .returned (.int .u64 (uv (furB (furB first64 [b7, b6, b5, b4, b3, b2, b1, b0]) bs))) ∧ W = w') := hid (fun W h => hlen ▸ further_any _ ad cap bs hby hm W ((hI.below h).mono h.size))
  have HM : Hid (∀ W, Below w.heap.size w W → Calls Tryz.prog 55 #[.int .u64 (uv (furB (furB first64 [b7, b6, b5, b4, b3, b2, b1, b0]) bs))] W fun e w' => e = .returned (.int .u64 (uv (mixB (furB (furB first64 [b7, b6, b5, b4, b3, b2, b1, b0]) bs)))) ∧ W = w') := hid (fun W h => mix_any _ W (hE.kept h))
  have HBs : Hid (Bys (w.alloc (.cells #[.int .u8 b7, .int .u8 b6, .int .u8 b5, .int .u8 b4, .int .u8 b3, .int .u8 b2, .int .u8 b1, .int .u8 b0] 87)).heap.size (w.alloc (.cells #[.int .u8 b7, .int .u8 b6, .int .u8 b5, .int .u8 b4, .int .u8 b3, .int .u8 b2, .int .u8 b1, .int .u8 b0] 87)) (some ⟨w.heap.size, 0, none⟩) [b7, b6, b5, b4, b3, b2, b1, b0]) := hid (bys_new w 87 [b7, b6, b5, b4, b3, b2, b1, b0])
  have HBl : Hid (Below w.heap.size w (w.alloc (.cells #[.int .u8 b7, .int .u8 b6, .int .u8 b5, .int .u8 b4, .int .u8 b3, .int .u8 b2, .int .u8 b1, .int .u8 b0] 87))) := hid ((Below.refl _ _).alloc (Nat.le_refl _) _)
  rw [hlen]
  clear hh hhb hby hm hI hE hlen
  generalize uv (mixB (furB (furB first64 [b7, b6, b5, b4, b3, b2, b1, b0]) bs)) = r3 at *
  generalize uv (furB (furB first64 [b7, b6, b5, b4, b3, b2, b1, b0]) bs) = r2 at *
  generalize uv (furB first64 [b7, b6, b5, b4, b3, b2, b1, b0]) = r1 at *
  go_enter Tryz.func32, Tryz.ntmps32
  go_wp2
  go_loopw [7] (fun t wr => (t = .int .i64 0 ∧ wr = w.alloc (.cells #[.int .u8 0, .int .u8 0, .int .u8 0, .int .u8 0, .int .u8 0, .int .u8 0, .int .u8 0, .int .u8 0] 87)) ∨ (t = .int .i64 1 ∧ wr = w.alloc (.cells #[.int .u8 0, .int .u8 0, .int .u8 0, .int .u8 0, .int .u8 0, .int .u8 0, .int .u8 0, .int .u8 b0] 87)) ∨ (t = .int .i64 2 ∧ wr = w.alloc (.cells #[.int .u8 0, .int .u8 0, .int .u8 0, .int .u8 0, .int .u8 0, .int .u8 0, .int .u8 b1, .int .u8 b0] 87)) ∨ (t = .int .i64 3 ∧ wr = w.alloc (.cells #[.int .u8 0, .int .u8 0, .int .u8 0, .int .u8 0, .int .u8 0, .int .u8 b2, .int .u8 b1, .int .u8 b0] 87)) ∨ (t = .int .i64 4 ∧ wr = w.alloc (.cells #[.int .u8 0, .int .u8 0, .int .u8 0, .int .u8 0, .int .u8 b3, .int .u8 b2, .int .u8 b1, .int .u8 b0] 87)) ∨ (t = .int .i64 5 ∧ wr = w.alloc (.cells #[.int .u8 0, .int .u8 0, .int .u8 0, .int .u8 b4, .int .u8 b3, .int .u8 b2, .int .u8 b1, .int .u8 b0] 87)) ∨ (t = .int .i64 6 ∧ wr = w.alloc (.cells #[.int .u8 0, .int .u8 0, .int .u8 b5, .int .u8 b4, .int .u8 b3, .int .u8 b2, .int .u8 b1, .int .u8 b0] 87)) ∨ (t = .int .i64 7 ∧ wr = w.alloc (.cells #[.int .u8 0, .int .u8 b6, .int .u8 b5, .int .u8 b4, .int .u8 b3, .int .u8 b2, .int .u8 b1, .int .u8 b0] 87)) ∨ (t = .int .i64 8 ∧ wr = w.alloc (.cells #[.int .u8 b7, .int .u8 b6, .int .u8 b5, .int .u8 b4, .int .u8 b3, .int .u8 b2, .int .u8 b1, .int .u8 b0] 87))) (fun t _ => 8 - (intOf t).toNat)
  case atStart => exact .inl ⟨rfl, rfl⟩
  case round =>
    rcases hrel with ⟨rfl, rfl⟩ | ⟨rfl, rfl⟩ | ⟨rfl, rfl⟩ | ⟨rfl, rfl⟩ | ⟨rfl, rfl⟩ | ⟨rfl, rfl⟩ | ⟨rfl, rfl⟩ | ⟨rfl, rfl⟩ | ⟨rfl, rfl⟩
    · go_wp2
      go_roundw
      case rel => first | exact .inr (.inl ⟨rfl, rfl⟩) | exact .inr (.inl ⟨rfl, trivial⟩) | exact .inr (.inl ⟨trivial, trivial⟩)
      case measure => simp [intOf]
    · go_wp2
      go_roundw
      case rel => first | exact .inr (.inr (.inl ⟨rfl, rfl⟩)) | exact .inr (.inr (.inl ⟨rfl, trivial⟩)) | exact .inr (.inr (.inl ⟨trivial, trivial⟩))
      case measure => simp [intOf]
    · go_wp2
      go_roundw
      case rel => first | exact .inr (.inr (.inr (.inl ⟨rfl, rfl⟩))) | exact .inr (.inr (.inr (.inl ⟨rfl, trivial⟩))) | exact .inr (.inr (.inr (.inl ⟨trivial, trivial⟩)))
      case measure => simp [intOf]
    · go_wp2
      go_roundw
      case rel => first | exact .inr (.inr (.inr (.inr (.inl ⟨rfl, rfl⟩)))) | exact .inr (.inr (.inr (.inr (.inl ⟨rfl, trivial⟩)))) | exact .inr (.inr (.inr (.inr (.inl ⟨trivial, trivial⟩))))
      case measure => simp [intOf]
    · go_wp2
      go_roundw
      case rel => first | exact .inr (.inr (.inr (.inr (.inr (.inl ⟨rfl, rfl⟩))))) | exact .inr (.inr (.inr (.inr (.inr (.inl ⟨rfl, trivial⟩))))) | exact .inr (.inr (.inr (.inr (.inr (.inl ⟨trivial, trivial⟩)))))
      case measure => simp [intOf]
    · go_wp2
      go_roundw
      case rel => first | exact .inr (.inr (.inr (.inr (.inr (.inr (.inl ⟨rfl, rfl⟩)))))) | exact .inr (.inr (.inr (.inr (.inr (.inr (.inl ⟨rfl, trivial⟩)))))) | exact .inr (.inr (.inr (.inr (.inr (.inr (.inl ⟨trivial, trivial⟩))))))
      case measure => simp [intOf]
    · go_wp2
      go_roundw
      case rel => first | exact .inr (.inr (.inr (.inr (.inr (.inr (.inr (.inl ⟨rfl, rfl⟩))))))) | exact .inr (.inr (.inr (.inr (.inr (.inr (.inr (.inl ⟨rfl, trivial⟩))))))) | exact .inr (.inr (.inr (.inr (.inr (.inr (.inr (.inl ⟨trivial, trivial⟩)))))))
      case measure => simp [intOf]
    · go_wp2
      go_roundw
      case rel => first | exact .inr (.inr (.inr (.inr (.inr (.inr (.inr (.inr (⟨rfl, rfl⟩)))))))) | exact .inr (.inr (.inr (.inr (.inr (.inr (.inr (.inr (⟨rfl, trivial⟩)))))))) | exact .inr (.inr (.inr (.inr (.inr (.inr (.inr (.inr (⟨trivial, trivial⟩))))))))
      case measure => simp [intOf]
    · go_wp2_with fail
      refine (HP.out _ _ HBs.out).mono ?_
      rintro e w1 ⟨rfl, rfl⟩
      go_wp2_with fail
      refine (HF.out _ HBl.out).mono ?_
      rintro e w1 ⟨rfl, rfl⟩
      go_wp2_with fail
      refine (HM.out _ HBl.out).mono ?_
      rintro e w1 ⟨rfl, rfl⟩
      go_wp2
      go_ret
      exact ⟨rfl, HBl.out⟩
end Go.Proofs.YtahconkjhneogaaGreatDoor

namespace Go.Proofs.YtahconkjhneogaaGreatDoor
open Go.RowKit Go.Lib

set_option maxRecDepth 100000 in
set_option maxHeartbeats 8000000 in
theorem rof_any (x : Int) (ad : Option Addr) (cap : Nat) (bs : List Int) (hby : Byt bs) (hm : bs.length ≤ 1000) (w : World) (hI : Bys w.heap.size w ad bs) (hn : ad = none → bs.length = 0 ∧ cap = 0) :
    Calls Tryz.prog 33 #[.int .u64 x, .slice ad bs.length cap] w fun e w' => e = .returned (.int .u64 (uv (mixB (furB (furB first64 (headOf x)) bs)))) ∧ Below w.heap.size w w' := by
  obtain ⟨len, hlen⟩ : ∃ len, bs.length = len := ⟨_, rfl⟩
  obtain ⟨b0, hb0⟩ : ∃ b, IntKind.u8.wrap (x) = b := ⟨_, rfl⟩
  obtain ⟨b1, hb1⟩ : ∃ b, IntKind.u8.wrap (x / 256) = b := ⟨_, rfl⟩
  obtain ⟨b2, hb2⟩ : ∃ b, IntKind.u8.wrap (x / 65536) = b := ⟨_, rfl⟩
  obtain ⟨b3, hb3⟩ : ∃ b, IntKind.u8.wrap (x / 16777216) = b := ⟨_, rfl⟩
  obtain ⟨b4, hb4⟩ : ∃ b, IntKind.u8.wrap (x / 4294967296) = b := ⟨_, rfl⟩
  obtain ⟨b5, hb5⟩ : ∃ b, IntKind.u8.wrap (x / 1099511627776) = b := ⟨_, rfl⟩
  obtain ⟨b6, hb6⟩ : ∃ b, IntKind.u8.wrap (x / 281474976710656) = b := ⟨_, rfl⟩
  obtain ⟨b7, hb7⟩ : ∃ b, IntKind.u8.wrap (x / 72057594037927936) = b := ⟨_, rfl⟩
  have hh : headOf x = [b7, b6, b5, b4, b3, b2, b1, b0] := by
    unfold headOf
    rw [← hb0, ← hb1, ← hb2, ← hb3, ← hb4, ← hb5, ← hb6, ← hb7]
    simp only [u8_wrap]
  have hhb := head_byt x
  rw [hh] at hhb ⊢
  rw [← furB_append]
  have HAll : Hid (Byt ([b7, b6, b5, b4, b3, b2, b1, b0] ++ bs)) := hid (Byt.of fun y hy => by
    rcases List.mem_append.1 hy with h | h
    · obtain ⟨j, hj, rfl⟩ := List.getElem_of_mem h
      have := hhb j
      rwa [List.getD, List.getElem?_eq_getElem hj] at this
    · obtain ⟨j, hj, rfl⟩ := List.getElem_of_mem h
      have := hby j
      rwa [List.getD, List.getElem?_eq_getElem hj] at this)
  have HP : Hid (∀ W a c, Bys W.heap.size W a ([b7, b6, b5, b4, b3, b2, b1, b0] ++ bs) → Calls Tryz.prog 59 #[.slice a (8 + len) c] W fun e w' => e = .returned (.int .u64 (uv (furB first64 ([b7, b6, b5, b4, b3, b2, b1, b0] ++ bs)))) ∧ W = w') := hid (fun W a c h => by
    have := rplain_any a c ([b7, b6, b5, b4, b3, b2, b1, b0] ++ bs) HAll.out (by rw [List.length_append]; simp; omega) W h
    rw [List.length_append, hlen] at this
    exact this)
  have HM := hid (fun W => rmix_any (furB first64 ([b7, b6, b5, b4, b3, b2, b1, b0] ++ bs)) W)
  have HI : Hid (∀ W, Below w.heap.size w W → Bys W.heap.size W ad bs) := hid (fun W h => (hI.below h).mono h.size)
  have HN : Hid (ad = none → len = 0 ∧ cap = 0) := hid (hlen ▸ hn)
  have HL := hid hlen
  have Hm : Hid (len ≤ 1000) := hid (hlen ▸ hm)
  have HB0 : Hid (Below w.heap.size w (w.alloc (.cells #[] 5))) := hid ((Below.refl _ _).alloc (Nat.le_refl _) _)
  have HO0 : Hid ((w.alloc (.cells #[] 5)).ownsRow w.heap.size 5 1 (.slice (some ⟨w.heap.size, 0, none⟩) 0 0) 0 ([].map (Value.int .u8))) := hid ⟨rfl, .inr ⟨w.heap.size, 0, #[], rfl, Nat.le_refl _, heap_alloc_last w _, Nat.le_refl _, Nat.zero_le _, rfl, rfl⟩⟩
  rw [hlen]
  clear hh hhb hby hm hI hlen hn
  generalize uv (mixB (furB first64 ([b7, b6, b5, b4, b3, b2, b1, b0] ++ bs))) = r3 at *
  generalize uv (furB first64 ([b7, b6, b5, b4, b3, b2, b1, b0] ++ bs)) = r2 at *
  go_enter Tryz.func33, Tryz.ntmps33
  go_wp2
  go_loopw [5, 6] (fun v t wr => Hid (Below w.heap.size w wr) ∧ ((t = .int .i64 56 ∧ Hid (wr.ownsRow w.heap.size 5 1 v 0 ([].map (Value.int .u8)))) ∨ (t = .int .i64 48 ∧ Hid (wr.ownsRow w.heap.size 5 1 v 1 ([b7].map (Value.int .u8)))) ∨ (t = .int .i64 40 ∧ Hid (wr.ownsRow w.heap.size 5 1 v 2 ([b7, b6].map (Value.int .u8)))) ∨ (t = .int .i64 32 ∧ Hid (wr.ownsRow w.heap.size 5 1 v 3 ([b7, b6, b5].map (Value.int .u8)))) ∨ (t = .int .i64 24 ∧ Hid (wr.ownsRow w.heap.size 5 1 v 4 ([b7, b6, b5, b4].map (Value.int .u8)))) ∨ (t = .int .i64 16 ∧ Hid (wr.ownsRow w.heap.size 5 1 v 5 ([b7, b6, b5, b4, b3].map (Value.int .u8)))) ∨ (t = .int .i64 8 ∧ Hid (wr.ownsRow w.heap.size 5 1 v 6 ([b7, b6, b5, b4, b3, b2].map (Value.int .u8)))) ∨ (t = .int .i64 0 ∧ Hid (wr.ownsRow w.heap.size 5 1 v 7 ([b7, b6, b5, b4, b3, b2, b1].map (Value.int .u8)))) ∨ (t = .int .i64 (-8) ∧ Hid (wr.ownsRow w.heap.size 5 1 v 8 ([b7, b6, b5, b4, b3, b2, b1, b0].map (Value.int .u8)))))) (fun _ t _ => (intOf t + 8).toNat)
  case atStart => exact ⟨HB0, .inl ⟨rfl, HO0⟩⟩
  case round =>
    obtain ⟨HB, ⟨rfl, HO⟩ | ⟨rfl, HO⟩ | ⟨rfl, HO⟩ | ⟨rfl, HO⟩ | ⟨rfl, HO⟩ | ⟨rfl, HO⟩ | ⟨rfl, HO⟩ | ⟨rfl, HO⟩ | ⟨rfl, HO⟩⟩ := hrel
    · have HOa := hid (HO.out.alloc (.cells #[.int .u8 b7] 5))
      have HBa : Hid (Below w.heap.size w (wr.alloc (.cells #[.int .u8 b7] 5))) := hid (HB.out.alloc HB.out.size _)
      have HBy : Hid (Bys (wr.alloc (.cells #[.int .u8 b7] 5)).heap.size (wr.alloc (.cells #[.int .u8 b7] 5)) (some ⟨wr.heap.size, 0, none⟩) [b7]) := hid (bys_new wr 5 [b7])
      go_wp2_with ((show wpList _ _ _ (⟨some 19, _, _, _, _, _⟩ :: _) _ _); go_must (refine wpl_app (.tmp 12) (.tmp 18) rfl w.heap.size _ 0 _ rfl HOa.out (some ⟨wr.heap.size, 0, none⟩) 1 1 [b7] rfl rfl _ HBy.out (fun h => by cases h) (by omega) HBa.out.size rfl ?_; intro v2 w2 ho2 hg2))
      have HO2 : Hid (w2.ownsRow w.heap.size 5 1 v2 1 ([b7].map (Value.int .u8))) := hid ho2
      have HB2 : Hid (Below w.heap.size w w2) := hid (HBa.out.grown hg2 HBa.out.size (own_blockP HOa.out))
      clear ho2 hg2
      go_roundw
      case rel => exact ⟨HB2, .inr (.inl ⟨rfl, HO2⟩)⟩
      case measure => simp [intOf]
    · have HOa := hid (HO.out.alloc (.cells #[.int .u8 b6] 5))
      have HBa : Hid (Below w.heap.size w (wr.alloc (.cells #[.int .u8 b6] 5))) := hid (HB.out.alloc HB.out.size _)
      have HBy : Hid (Bys (wr.alloc (.cells #[.int .u8 b6] 5)).heap.size (wr.alloc (.cells #[.int .u8 b6] 5)) (some ⟨wr.heap.size, 0, none⟩) [b6]) := hid (bys_new wr 5 [b6])
      go_wp2_with ((show wpList _ _ _ (⟨some 19, _, _, _, _, _⟩ :: _) _ _); go_must (refine wpl_app (.tmp 12) (.tmp 18) rfl w.heap.size _ 1 _ rfl HOa.out (some ⟨wr.heap.size, 0, none⟩) 1 1 [b6] rfl rfl _ HBy.out (fun h => by cases h) (by omega) HBa.out.size rfl ?_; intro v2 w2 ho2 hg2))
      have HO2 : Hid (w2.ownsRow w.heap.size 5 1 v2 2 ([b7, b6].map (Value.int .u8))) := hid ho2
      have HB2 : Hid (Below w.heap.size w w2) := hid (HBa.out.grown hg2 HBa.out.size (own_blockP HOa.out))
      clear ho2 hg2
      go_roundw
      case rel => exact ⟨HB2, .inr (.inr (.inl ⟨rfl, HO2⟩))⟩
      case measure => simp [intOf]
    · have HOa := hid (HO.out.alloc (.cells #[.int .u8 b5] 5))
      have HBa : Hid (Below w.heap.size w (wr.alloc (.cells #[.int .u8 b5] 5))) := hid (HB.out.alloc HB.out.size _)
      have HBy : Hid (Bys (wr.alloc (.cells #[.int .u8 b5] 5)).heap.size (wr.alloc (.cells #[.int .u8 b5] 5)) (some ⟨wr.heap.size, 0, none⟩) [b5]) := hid (bys_new wr 5 [b5])
      go_wp2_with ((show wpList _ _ _ (⟨some 19, _, _, _, _, _⟩ :: _) _ _); go_must (refine wpl_app (.tmp 12) (.tmp 18) rfl w.heap.size _ 2 _ rfl HOa.out (some ⟨wr.heap.size, 0, none⟩) 1 1 [b5] rfl rfl _ HBy.out (fun h => by cases h) (by omega) HBa.out.size rfl ?_; intro v2 w2 ho2 hg2))
      have HO2 : Hid (w2.ownsRow w.heap.size 5 1 v2 3 ([b7, b6, b5].map (Value.int .u8))) := hid ho2
      have HB2 : Hid (Below w.heap.size w w2) := hid (HBa.out.grown hg2 HBa.out.size (own_blockP HOa.out))
      clear ho2 hg2
      go_roundw
      case rel => exact ⟨HB2, .inr (.inr (.inr (.inl ⟨rfl, HO2⟩)))⟩
      case measure => simp [intOf]
    · have HOa := hid (HO.out.alloc (.cells #[.int .u8 b4] 5))
      have HBa : Hid (Below w.heap.size w (wr.alloc (.cells #[.int .u8 b4] 5))) := hid (HB.out.alloc HB.out.size _)
      have HBy : Hid (Bys (wr.alloc (.cells #[.int .u8 b4] 5)).heap.size (wr.alloc (.cells #[.int .u8 b4] 5)) (some ⟨wr.heap.size, 0, none⟩) [b4]) := hid (bys_new wr 5 [b4])
      go_wp2_with ((show wpList _ _ _ (⟨some 19, _, _, _, _, _⟩ :: _) _ _); go_must (refine wpl_app (.tmp 12) (.tmp 18) rfl w.heap.size _ 3 _ rfl HOa.out (some ⟨wr.heap.size, 0, none⟩) 1 1 [b4] rfl rfl _ HBy.out (fun h => by cases h) (by omega) HBa.out.size rfl ?_; intro v2 w2 ho2 hg2))
      have HO2 : Hid (w2.ownsRow w.heap.size 5 1 v2 4 ([b7, b6, b5, b4].map (Value.int .u8))) := hid ho2
      have HB2 : Hid (Below w.heap.size w w2) := hid (HBa.out.grown hg2 HBa.out.size (own_blockP HOa.out))
      clear ho2 hg2
      go_roundw
      case rel => exact ⟨HB2, .inr (.inr (.inr (.inr (.inl ⟨rfl, HO2⟩))))⟩
      case measure => simp [intOf]
    · have HOa := hid (HO.out.alloc (.cells #[.int .u8 b3] 5))
      have HBa : Hid (Below w.heap.size w (wr.alloc (.cells #[.int .u8 b3] 5))) := hid (HB.out.alloc HB.out.size _)
      have HBy : Hid (Bys (wr.alloc (.cells #[.int .u8 b3] 5)).heap.size (wr.alloc (.cells #[.int .u8 b3] 5)) (some ⟨wr.heap.size, 0, none⟩) [b3]) := hid (bys_new wr 5 [b3])
      go_wp2_with ((show wpList _ _ _ (⟨some 19, _, _, _, _, _⟩ :: _) _ _); go_must (refine wpl_app (.tmp 12) (.tmp 18) rfl w.heap.size _ 4 _ rfl HOa.out (some ⟨wr.heap.size, 0, none⟩) 1 1 [b3] rfl rfl _ HBy.out (fun h => by cases h) (by omega) HBa.out.size rfl ?_; intro v2 w2 ho2 hg2))
      have HO2 : Hid (w2.ownsRow w.heap.size 5 1 v2 5 ([b7, b6, b5, b4, b3].map (Value.int .u8))) := hid ho2
      have HB2 : Hid (Below w.heap.size w w2) := hid (HBa.out.grown hg2 HBa.out.size (own_blockP HOa.out))
      clear ho2 hg2
      go_roundw
      case rel => exact ⟨HB2, .inr (.inr (.inr (.inr (.inr (.inl ⟨rfl, HO2⟩)))))⟩
      case measure => simp [intOf]
    · have HOa := hid (HO.out.alloc (.cells #[.int .u8 b2] 5))
      have HBa : Hid (Below w.heap.size w (wr.alloc (.cells #[.int .u8 b2] 5))) := hid (HB.out.alloc HB.out.size _)
      have HBy : Hid (Bys (wr.alloc (.cells #[.int .u8 b2] 5)).heap.size (wr.alloc (.cells #[.int .u8 b2] 5)) (some ⟨wr.heap.size, 0, none⟩) [b2]) := hid (bys_new wr 5 [b2])
      go_wp2_with ((show wpList _ _ _ (⟨some 19, _, _, _, _, _⟩ :: _) _ _); go_must (refine wpl_app (.tmp 12) (.tmp 18) rfl w.heap.size _ 5 _ rfl HOa.out (some ⟨wr.heap.size, 0, none⟩) 1 1 [b2] rfl rfl _ HBy.out (fun h => by cases h) (by omega) HBa.out.size rfl ?_; intro v2 w2 ho2 hg2))
      have HO2 : Hid (w2.ownsRow w.heap.size 5 1 v2 6 ([b7, b6, b5, b4, b3, b2].map (Value.int .u8))) := hid ho2
      have HB2 : Hid (Below w.heap.size w w2) := hid (HBa.out.grown hg2 HBa.out.size (own_blockP HOa.out))
      clear ho2 hg2
      go_roundw
      case rel => exact ⟨HB2, .inr (.inr (.inr (.inr (.inr (.inr (.inl ⟨rfl, HO2⟩))))))⟩
      case measure => simp [intOf]
    · have HOa := hid (HO.out.alloc (.cells #[.int .u8 b1] 5))
      have HBa : Hid (Below w.heap.size w (wr.alloc (.cells #[.int .u8 b1] 5))) := hid (HB.out.alloc HB.out.size _)
      have HBy : Hid (Bys (wr.alloc (.cells #[.int .u8 b1] 5)).heap.size (wr.alloc (.cells #[.int .u8 b1] 5)) (some ⟨wr.heap.size, 0, none⟩) [b1]) := hid (bys_new wr 5 [b1])
      go_wp2_with ((show wpList _ _ _ (⟨some 19, _, _, _, _, _⟩ :: _) _ _); go_must (refine wpl_app (.tmp 12) (.tmp 18) rfl w.heap.size _ 6 _ rfl HOa.out (some ⟨wr.heap.size, 0, none⟩) 1 1 [b1] rfl rfl _ HBy.out (fun h => by cases h) (by omega) HBa.out.size rfl ?_; intro v2 w2 ho2 hg2))
      have HO2 : Hid (w2.ownsRow w.heap.size 5 1 v2 7 ([b7, b6, b5, b4, b3, b2, b1].map (Value.int .u8))) := hid ho2
      have HB2 : Hid (Below w.heap.size w w2) := hid (HBa.out.grown hg2 HBa.out.size (own_blockP HOa.out))
      clear ho2 hg2
      go_roundw
      case rel => exact ⟨HB2, .inr (.inr (.inr (.inr (.inr (.inr (.inr (.inl ⟨rfl, HO2⟩)))))))⟩
      case measure => simp [intOf]
    · have HOa := hid (HO.out.alloc (.cells #[.int .u8 b0] 5))
      have HBa : Hid (Below w.heap.size w (wr.alloc (.cells #[.int .u8 b0] 5))) := hid (HB.out.alloc HB.out.size _)
      have HBy : Hid (Bys (wr.alloc (.cells #[.int .u8 b0] 5)).heap.size (wr.alloc (.cells #[.int .u8 b0] 5)) (some ⟨wr.heap.size, 0, none⟩) [b0]) := hid (bys_new wr 5 [b0])
      go_wp2_with ((show wpList _ _ _ (⟨some 19, _, _, _, _, _⟩ :: _) _ _); go_must (refine wpl_app (.tmp 12) (.tmp 18) rfl w.heap.size _ 7 _ rfl HOa.out (some ⟨wr.heap.size, 0, none⟩) 1 1 [b0] rfl rfl _ HBy.out (fun h => by cases h) (by omega) HBa.out.size rfl ?_; intro v2 w2 ho2 hg2))
      have HO2 : Hid (w2.ownsRow w.heap.size 5 1 v2 8 ([b7, b6, b5, b4, b3, b2, b1, b0].map (Value.int .u8))) := hid ho2
      have HB2 : Hid (Below w.heap.size w w2) := hid (HBa.out.grown hg2 HBa.out.size (own_blockP HOa.out))
      clear ho2 hg2
      go_roundw
      case rel => exact ⟨HB2, .inr (.inr (.inr (.inr (.inr (.inr (.inr (.inr (⟨rfl, HO2⟩))))))))⟩
      case measure => simp [intOf]
    · go_wp2_with ((show wpList _ _ _ (⟨some 22, _, _, _, _, _⟩ :: _) _ _); go_must (refine wpl_app (.tmp 20) (.tmp 21) rfl w.heap.size _ 8 _ rfl HO.out ad len cap bs rfl HL.out _ (HI.out _ HB.out) HN.out (by have := Hm.out; omega) HB.out.size rfl ?_; intro v2 w2 ho2 hg2; rw [← List.map_append] at ho2; obtain ⟨_, ad2, cap2, rfl, _, hI2⟩ := own_bys ho2))
      have HB2 : Hid (Below w.heap.size w w2) := hid (HB.out.grown hg2 HB.out.size (own_blockP HO.out))
      have HI2 := hid hI2
      clear ho2 hg2 hI2
      refine (HP.out _ _ _ HI2.out).mono ?_
      rintro e w3 ⟨rfl, rfl⟩
      go_wp2_with fail
      refine (HM.out _).mono ?_
      rintro e w3 ⟨rfl, rfl⟩
      go_wp2
      go_ret
      exact ⟨rfl, HB2.out⟩
end Go.Proofs.YtahconkjhneogaaGreatDoor

namespace Go.Proofs.YtahconkjhneogaaGreatDoor
open Go.RowKit Go.Lib

/-- Layer 7's hash of bytes by a seed, as a number. -/
def hashN (x : Int) (bs : List Int) : Int := uv (mixB (furB (furB first64 (headOf x)) bs))
/-- The offset of bytes, and the skip. -/
def offN (m : Int) (bs : List Int) : Int := hashN 1 bs % m
def skpN (m : Int) (bs : List Int) : Int := hashN 2 bs % (m - 1) + 1
theorem hashN_range (x : Int) (bs : List Int) : 0 ≤ hashN x bs ∧ hashN x bs ≤ 18446744073709551615 := uv_range _
theorem of_right {m : Int} (bs : List Int) (h : sizedB m = true) : rightS m (offN m bs) (skpN m bs) = true := by
  obtain ⟨a, b, c⟩ := sized_range h
  have h1 := Int.emod_nonneg (hashN 1 bs) (show m ≠ 0 by omega)
  have h2 := Int.emod_lt_of_pos (hashN 1 bs) (show 0 < m by omega)
  have h3 := Int.emod_nonneg (hashN 2 bs) (show m - 1 ≠ 0 by omega)
  have h4 := Int.emod_lt_of_pos (hashN 2 bs) (show 0 < m - 1 by omega)
  exact (rightS_iff _ _ _).2 ⟨b, c, h1, h2, by unfold skpN; omega, by unfold skpN; omega⟩

set_option maxRecDepth 100000 in
set_option maxHeartbeats 4000000 in
theorem sof_no (m : Int) (h : sizedB m = false) (ad : Option Addr) (cap len : Nat) (w : World) (u : TypeId) (v : Value) (hE : w.cell? ⟨0, 0, none⟩ = some (.iface u v)) :
    Calls Tryz.prog 71 #[.slice ad len cap, .int .i64 m] w fun e w' => e = .returned (.tuple #[.agg #[.int .i64 0, .int .i64 0, .int .i64 0], .iface u v]) ∧ Below w.heap.size w w' := by
  have HI := hid (fun W => h ▸ sized_any m W)
  have HE := hid hE
  have HB : Hid (Below w.heap.size w (w.alloc (.cells #[.int .i64 0, .int .i64 0, .int .i64 0] 100))) := hid ((Below.refl _ w).alloc (Nat.le_refl _) _)
  have HN := hid (Blk.new w 100 #[.int .i64 0, .int .i64 0, .int .i64 0])
  clear h hE
  go_enter Tryz.func71, Tryz.ntmps71
  go_wp2_with fail
  refine (HI.out _).mono ?_
  rintro e w1 ⟨rfl, hb⟩
  have Hb := hid (bel2 HB.out hb)
  have HN1 := hid (HN.out.kept hb)
  have c0 : w1.cell? ⟨w.heap.size, 0, none⟩ = some (.int .i64 0) := HN1.out.cell 0
  have c1 : w1.cell? ⟨w.heap.size, 1, none⟩ = some (.int .i64 0) := HN1.out.cell 1
  have c2 : w1.cell? ⟨w.heap.size, 2, none⟩ = some (.int .i64 0) := HN1.out.cell 2
  have f0 : w1.frozen? ⟨w.heap.size, 0, none⟩ = false := HN1.out.frozen 0
  have f1 : w1.frozen? ⟨w.heap.size, 1, none⟩ = false := HN1.out.frozen 1
  have f2 : w1.frozen? ⟨w.heap.size, 2, none⟩ = false := HN1.out.frozen 2
  have e0 : w1.cell? ⟨0, 0, none⟩ = some (.iface u v) := cell_stays HE.out Hb.out
  have hz : 0 < w.heap.size := World.block_lt_of_cell? w _ HE.out
  have e1 : (w1.setCell ⟨w.heap.size, 0, none⟩ (.int .i64 0)).cell? ⟨0, 0, none⟩ = some (.iface u v) := (World.cell?_of_block (a := ⟨0, 0, none⟩) (Below.heap_setCell w1 _ _ 0 (by show 0 ≠ w.heap.size; omega))).trans e0
  clear hb hz
  go_wp2
  go_region
  all_goals
    go_wp2
    exact bodyPost_ret (by simp [results, Tryz.f71, go_sem, c0, c1, c2]) rfl ⟨rfl, by first | exact (((Hb.out.setCell (Nat.le_refl _) _).setCell (Nat.le_refl _) _).setCell (Nat.le_refl _) _).drew | exact (((Hb.out.drew.setCell (Nat.le_refl _) _).setCell (Nat.le_refl _) _).setCell (Nat.le_refl _) _)⟩

set_option maxRecDepth 100000 in
set_option maxHeartbeats 4000000 in
theorem sof_yes (m : Int) (h : sizedB m = true) (ad : Option Addr) (cap : Nat) (bs : List Int) (hby : Byt bs) (hm : bs.length ≤ 1000) (w : World) (hE : FEnv w) (hI : Bys w.heap.size w ad bs) :
    Calls Tryz.prog 71 #[.slice ad bs.length cap, .int .i64 m] w fun e w' => e = .returned (.tuple #[.agg #[.int .i64 m, .int .i64 (offN m bs), .int .i64 (skpN m bs)], .nilIface]) ∧ Below w.heap.size w w' := by
  have HI := hid (fun W => h ▸ sized_any m W)
  obtain ⟨a1, a2, _⟩ := sized_range h
  have HO : Hid (∀ x W, Below w.heap.size w W → Calls Tryz.prog 32 #[.int .u64 x, .slice ad bs.length cap] W fun e w' => e = .returned (.int .u64 (hashN x bs)) ∧ Below W.heap.size W w') := hid fun x W hb => of_any x ad cap bs hby (by omega) W (hE.kept hb) ((hI.below hb).mono hb.size)
  have hx1 := hashN_range 1 bs
  have hx2 := hashN_range 2 bs
  have H1 : Hid (∀ W, Calls Tryz.prog 31 #[.int .u64 (hashN 1 bs), .int .i64 m] W fun e w' => e = .returned (.int .i64 (hashN 1 bs % m)) ∧ W = w') := hid fun W => by
    have := below_any (hashN 1 bs) m hx1 (by omega) (by omega) W
    rwa [if_neg (by omega)] at this
  have H2 : Hid (∀ W, Calls Tryz.prog 31 #[.int .u64 (hashN 2 bs), .int .i64 (m - 1)] W fun e w' => e = .returned (.int .i64 (hashN 2 bs % (m - 1))) ∧ W = w') := hid fun W => by
    have := below_any (hashN 2 bs) (m - 1) hx2 (by omega) (by omega) W
    rwa [if_neg (by omega)] at this
  have h3 := Int.emod_nonneg (hashN 2 bs) (show m - 1 ≠ 0 by omega)
  have h4 := Int.emod_lt_of_pos (hashN 2 bs) (show 0 < m - 1 by omega)
  have E1 : Hid (hashN 1 bs % m = offN m bs) := hid rfl
  have E2 : Hid (hashN 2 bs % (m - 1) + 1 = skpN m bs) := hid rfl
  have HB : Hid (Below w.heap.size w (w.alloc (.cells #[.int .i64 0, .int .i64 0, .int .i64 0] 100))) := hid ((Below.refl _ w).alloc (Nat.le_refl _) _)
  have HN := hid (Blk.new w 100 #[.int .i64 0, .int .i64 0, .int .i64 0])
  generalize offN m bs = q1 at *
  generalize skpN m bs = q2 at *
  generalize hashN 2 bs % (m - 1) = y2 at *
  generalize hashN 1 bs % m = y1 at *
  have HX1 : Hid (∀ W, Below w.heap.size w W → Calls Tryz.prog 32 #[.int .u64 1, .slice ad bs.length cap] W fun e w' => e = .returned (.int .u64 (hashN 1 bs)) ∧ Below W.heap.size W w') := hid (HO.out 1)
  have HX2 : Hid (∀ W, Below w.heap.size w W → Calls Tryz.prog 32 #[.int .u64 2, .slice ad bs.length cap] W fun e w' => e = .returned (.int .u64 (hashN 2 bs)) ∧ Below W.heap.size W w') := hid (HO.out 2)
  clear HO hx1 hx2
  generalize hashN 1 bs = x1 at *
  generalize hashN 2 bs = x2 at *
  clear h hE hI hby hm
  generalize bs.length = len at *
  go_enter Tryz.func71, Tryz.ntmps71
  go_wp2_with fail
  refine (HI.out _).mono ?_
  rintro e w1 ⟨rfl, hb⟩
  have Hb := hid (bel2 HB.out hb)
  have HN1 := hid (HN.out.kept hb)
  clear hb
  go_wp2_with fail
  refine (HX1.out _ Hb.out).mono ?_
  rintro e w2 ⟨rfl, hb⟩
  have Hb2 := hid (bel2 Hb.out hb)
  have HN2 := hid (HN1.out.kept hb)
  clear hb
  go_wp2_with fail
  refine (H1.out _).mono ?_
  rintro e w3 ⟨rfl, rfl⟩
  go_wp2_with fail
  refine (HX2.out _ Hb2.out).mono ?_
  rintro e w3 ⟨rfl, hb⟩
  have Hb3 := hid (bel2 Hb2.out hb)
  have HN3 := hid (HN2.out.kept hb)
  clear hb
  go_wp2_with fail
  refine (H2.out _).mono ?_
  rintro e w4 ⟨rfl, rfl⟩
  have c0 : w3.cell? ⟨w.heap.size, 0, none⟩ = some (.int .i64 0) := HN3.out.cell 0
  have c1 : w3.cell? ⟨w.heap.size, 1, none⟩ = some (.int .i64 0) := HN3.out.cell 1
  have c2 : w3.cell? ⟨w.heap.size, 2, none⟩ = some (.int .i64 0) := HN3.out.cell 2
  have f0 : w3.frozen? ⟨w.heap.size, 0, none⟩ = false := HN3.out.frozen 0
  have f1 : w3.frozen? ⟨w.heap.size, 1, none⟩ = false := HN3.out.frozen 1
  have f2 : w3.frozen? ⟨w.heap.size, 2, none⟩ = false := HN3.out.frozen 2
  go_wp2
  exact bodyPost_ret (v := .tuple #[.agg #[.int .i64 m, .int .i64 y1, .int .i64 (y2 + 1)], .nilIface]) (by simp [results, Tryz.f71, go_sem, c0, c1, c2]) rfl ⟨by rw [E1.out, E2.out], ((Hb3.out.setCell (Nat.le_refl _) _).setCell (Nat.le_refl _) _).setCell (Nat.le_refl _) _⟩

set_option maxRecDepth 100000 in
set_option maxHeartbeats 4000000 in
theorem srof_yes (m : Int) (h : sizedB m = true) (ad : Option Addr) (cap : Nat) (bs : List Int) (hby : Byt bs) (hm : bs.length ≤ 1000) (w : World) (hI : Bys w.heap.size w ad bs) (hn : ad = none → bs.length = 0 ∧ cap = 0) :
    Calls Tryz.prog 27 #[.slice ad bs.length cap, .int .i64 m] w fun e w' => e = .returned (.tuple #[.int .i64 (offN m bs), .int .i64 (skpN m bs)]) ∧ Below w.heap.size w w' := by
  obtain ⟨a1, a2, _⟩ := sized_range h
  have HO : Hid (∀ x W, Below w.heap.size w W → Calls Tryz.prog 33 #[.int .u64 x, .slice ad bs.length cap] W fun e w' => e = .returned (.int .u64 (hashN x bs)) ∧ Below W.heap.size W w') := hid fun x W hb => rof_any x ad cap bs hby hm W ((hI.below hb).mono hb.size) hn
  have hx1 := hashN_range 1 bs
  have hx2 := hashN_range 2 bs
  have t1 : (hashN 1 bs).tmod m = hashN 1 bs % m := Int.tmod_eq_emod_of_nonneg hx1.1
  have t2 : (hashN 2 bs).tmod (m - 1) = hashN 2 bs % (m - 1) := Int.tmod_eq_emod_of_nonneg hx2.1
  have h1 := Int.emod_nonneg (hashN 1 bs) (show m ≠ 0 by omega)
  have h2 := Int.emod_lt_of_pos (hashN 1 bs) (show 0 < m by omega)
  have h3 := Int.emod_nonneg (hashN 2 bs) (show m - 1 ≠ 0 by omega)
  have h4 := Int.emod_lt_of_pos (hashN 2 bs) (show 0 < m - 1 by omega)
  have E1 : Hid (hashN 1 bs % m = offN m bs) := hid rfl
  have E2 : Hid (1 + hashN 2 bs % (m - 1) = skpN m bs) := hid (Int.add_comm _ _)
  have HX : Hid (hashN 1 bs = hashN 1 bs) := hid rfl
  generalize offN m bs = q1 at *
  generalize skpN m bs = q2 at *
  generalize hy2 : hashN 2 bs % (m - 1) = y2 at *
  generalize hy1 : hashN 1 bs % m = y1 at *
  have HF : ∃ F : Int → Int, F 1 = hashN 1 bs ∧ F 2 = hashN 2 bs ∧ Hid (∀ x W, Below w.heap.size w W → Calls Tryz.prog 33 #[.int .u64 x, .slice ad bs.length cap] W fun e w' => e = .returned (.int .u64 (F x)) ∧ Below W.heap.size W w') := ⟨fun x => hashN x bs, rfl, rfl, HO⟩
  obtain ⟨F, hF1, hF2, HO'⟩ := HF
  rw [← hF1] at t1 hy1
  rw [← hF2] at t2 hy2
  clear hF1 hF2 HO HX h hI hby hm hn hx1 hx2
  generalize bs.length = len at *
  have e1 : IntKind.u64.wrap m = m := IntWalk.u64_in _ (by omega)
  have e2 : IntKind.u64.wrap (m - 1) = m - 1 := IntWalk.u64_in _ (by omega)
  have e3 : IntKind.i64.wrap y1 = y1 := IntWalk.i64_in _ (by omega)
  have e4 : IntKind.i64.wrap y2 = y2 := IntWalk.i64_in _ (by omega)
  have e5 : IntKind.i64.wrap (1 + y2) = 1 + y2 := IntWalk.i64_in _ (by omega)
  have z1 : m ≠ 0 := by omega
  have z2 : m - 1 ≠ 0 := by omega
  have hS0 := Below.refl w.heap.size w
  go_enter Tryz.func27, Tryz.ntmps27
  go_wp2
  go_region_held3 (fun w' => Below w.heap.size w w') (first | assumption | exact below_drewN _ _ | exact bel2 (by assumption) (by assumption)) (first | (go_at_call 33; (refine (HO'.out _ _ (by assumption)).mono ?_); rintro e wA ⟨rfl, hbA⟩))
  all_goals
    go_wp2
    go_ret2
    exact ⟨by rw [← E1.out, ← E2.out] <;> rfl, by first | assumption | exact bel2 (by assumption) (below_drewN _ _) | exact (by assumption : Below _ _ _).drew⟩
end Go.Proofs.YtahconkjhneogaaGreatDoor

namespace Go.Proofs.YtahconkjhneogaaGreatDoor
open Go.RowKit

theorem ret_int {k : IntKind} {a b : Int} (h : a = b) : Ending.returned (.int k a) = .returned (.int k b) := by rw [h]

/-- What stands at a place of a list; 0 behind its end. -/
def nth (b : List Int) (i : Nat) : Int := b.getD i 0

/-- An address's cells. -/
def adr (six : Bool) (b : List Int) : Array Value := (Value.bool six :: b.map (Value.int .u8)).toArray
theorem adr_size (six : Bool) (b : List Int) : (adr six b).size = b.length + 1 := by simp [adr]
theorem adr_zero (six : Bool) (b : List Int) : (adr six b)[0]? = some (.bool six) := rfl
theorem adr_at (six : Bool) (b : List Int) (i : Nat) (h : i < b.length) : (adr six b)[1 + i]? = some (.int .u8 (nth b i)) := by
  simp [adr, nth, Nat.add_comm 1 i, List.getElem?_eq_getElem h, List.getD]
theorem adr_one (six : Bool) (b : List Int) : (adr six b).all (·.oneCell') = true := by
  rw [Array.all_eq_true_iff_forall_mem]
  intro v hv
  simp only [adr, List.mem_toArray, List.mem_cons, List.mem_map] at hv
  rcases hv with rfl | ⟨x, _, rfl⟩ <;> rfl

theorem Tryz.infoAddr : (Tryz.prog.info? 39).map (·.size) = some 17 := by kernel_rfl

set_option maxHeartbeats 400000 in
theorem size_any (six : Bool) (b : List Int) (w : World) : Calls Tryz.prog 111 #[.agg (adr six b)] w fun e w' => e = .returned (.int .i64 (if six then 16 else 4)) ∧ Below w.heap.size w w' := by
  have h0 := adr_zero six b
  cases six
  all_goals
    go_enter Tryz.func111, Tryz.ntmps111
    go_wp2
    go_ret
    exact ⟨rfl, (Below.refl _ _).alloc (Nat.le_refl _) _⟩

theorem add_plain (b off k : Nat) : (⟨b, off, none⟩ : Addr).add k = ⟨b, off + k, none⟩ := by unfold Addr.add; split <;> simp_all

theorem Tryz.infoByte : (Tryz.prog.info? 5).map (fun i => (i.size, i.zero, i.bytes)) = some (1, some (.int .u8 0), 1) := by kernel_rfl

theorem bytes_one (bs : List Int) : ∀ u ∈ bs.map (Value.int .u8), u.oneCell' = true := by
  intro u hu
  obtain ⟨x, _, rfl⟩ := List.mem_map.1 hu
  rfl

theorem Tryz.oneU8x : (Tryz.prog.info? 5).map (·.size) = some 1 := by kernel_rfl

/-- What a call ends in that answers bytes in memory of its own. -/
def OwnEnd (l : List Int) (w : World) (e : Ending) (w' : World) : Prop :=
  ∃ v, e = .returned v ∧ w'.ownsRow w.heap.size 5 1 v l.length (l.map (Value.int .u8)) ∧ Below w.heap.size w w'

theorem adr_src {w : World} {g : Nat} {s : Bool} {b : List Int} (h : Blk w g 39 (adr s b)) (n : Nat) (hn : n ≤ b.length) : ∀ j u, ((b.take n).map (Value.int .u8))[j]? = some u → w.cell? ((⟨g, 1, none⟩ : Addr).add j) = some u := fun j u hu => by
  rw [List.getElem?_map] at hu
  obtain ⟨x, hx, rfl⟩ := Option.map_eq_some_iff.1 hu
  have hj : j < (b.take n).length := (List.getElem?_eq_some_iff.1 hx).1
  rw [List.length_take] at hj
  rw [List.getElem?_take_of_lt (by omega)] at hx
  rw [add_plain, h.cell, adr_at s b j (by omega), nth, List.getD, hx]
  rfl




set_option maxRecDepth 100000 in
set_option maxHeartbeats 1000000 in
theorem abytes_false (b : List Int) (hl : b.length = 16) (w : World) : Calls Tryz.prog 101 #[.agg (adr false b)] w (OwnEnd (b.take 4) w) := by
  obtain ⟨W0, hW0⟩ : ∃ W, W = w.alloc (.cells (adr false b) 39) := ⟨_, rfl⟩
  have hB0 : Blk W0 w.heap.size 39 (adr false b) := hW0 ▸ Blk.new w _ _
  have hb0 : Below w.heap.size w W0 := hW0 ▸ (Below.refl _ _).alloc (Nat.le_refl _) _
  have HW0 := Lib.hid hW0.symm
  have HB0 := Lib.hid hB0
  have Hb0 := Lib.hid hb0
  have L17 : Hid (17 = (adr false b).size) := Lib.hid (by rw [adr_size, hl])
  obtain ⟨i0, hi, hp⟩ := Option.map_eq_some_iff.1 Tryz.infoByte
  simp only [Prod.mk.injEq] at hp
  obtain ⟨hz1, hz0, hz2⟩ := hp
  have HZ2 := Lib.hid hz2
  have HL := Lib.hid hl
  have hln : (b.take 4).length = 4 := by rw [List.length_take, hl]; rfl
  obtain ⟨cs, hcs⟩ : ∃ cs, cs = (b.take 4).map (Value.int .u8) := ⟨_, rfl⟩
  have Hn : Hid (cs.length = 4) := Lib.hid (by rw [hcs, List.length_map, hln])
  have H1 : Hid (∀ v ∈ cs, v.oneCell' = true) := Lib.hid (by rw [hcs]; exact bytes_one _)
  have HS : Hid (∀ w', Blk w' w.heap.size 39 (adr false b) → ∀ j u, cs[j]? = some u → w'.cell? ((⟨w.heap.size, 1, none⟩ : Addr).add j) = some u) := Lib.hid (fun w' h => by rw [hcs]; exact adr_src h 4 (by omega))
  have HCs := Lib.hid hcs
  have HLn := Lib.hid hln
  clear hW0 hB0 hb0 hl hln hcs hz2
  go_enter Tryz.func101, Tryz.ntmps101
  go_upto_region 1 with fail
  rw [HW0.out]
  go_wp2_with (refine wpl_load 39 _ rfl w.heap.size rfl _ _ _ HB0.out Tryz.underlying39 rfl 17 Tryz.infoAddr L17.out rfl ?_)
  refine (size_any false b W0).mono ?_
  rintro e w1 ⟨rfl, hb1⟩
  have HB1 := Lib.hid (HB0.out.kept hb1)
  have Hb1 := Lib.hid (bel2 Hb0.out hb1)
  clear hb1
  go_upto_region 2 with (first | (refine wpList_make_full _ rfl (.tmp 5) (.tmp 5) 23 rfl w1.heap.size 5 i0 (.int .u8 0) 1 Tryz.underlying23 hi hz0 hz1 .i64 .i64 4 4 4 rfl rfl rfl rfl (by rw [HZ2.out]; omega) (by decide) (Nat.le_refl _) ?_; intro w2 hown hgrow) | fail)
  have hb2 : Below w1.heap.size w1 w2 := (Below.refl _ _).grown hgrow (Nat.le_refl _) (fun k hk => by cases hk)
  have hlt : w.heap.size < w1.heap.size := HB1.out.lt
  have hR := own_blk hown
  obtain ⟨Z, hZ⟩ : ∃ Z : List Value, Z.length = 4 ∧ Blk w2 w1.heap.size 5 Z.toArray := ⟨_, by simpa using hown.1, hR⟩
  have HB2 := Lib.hid (HB1.out.kept hb2)
  have Hb2 := Lib.hid (bel2 Hb1.out hb2)
  have HZ := Lib.hid hZ
  clear hown hgrow hb2 hR hZ
  go_upto_region 3 with ((show wpList _ _ _ (⟨some 10, _, _, _, _, _⟩ :: _) _ _); go_must (refine wpList_copy_splice rfl (.tmp 7) (.tmp 9) 23 23 rfl 5 Tryz.underlying23 Tryz.oneU8x (some ⟨w1.heap.size, 0, none⟩) (some ⟨w.heap.size, 1, none⟩) 4 4 16 16 rfl rfl w1.heap.size 0 Z 5 HZ.out.2 cs (by rw [Hn.out]; rfl) (fun _ => ⟨rfl, _, rfl, HS.out w2 HB2.out⟩) (by rw [Hn.out, HZ.out.1]; decide) H1.out w1.heap.size w2 (Below.refl _ _) (Nat.le_refl _) ?_; intro w3 HG3 hB3))
  have F : Hid (OwnEnd (b.take 4) w (.returned (.slice (some ⟨w1.heap.size, 0, none⟩) 4 4)) w3) := Lib.hid ⟨_, rfl, by
    rw [HLn.out, ← HCs.out]
    refine ⟨by rw [Hn.out], .inr ⟨w1.heap.size, 4, (splice Z 0 cs).toArray, rfl, Nat.le_of_lt hlt, HG3.out, Nat.le_refl _, by decide, ?_, ?_⟩⟩
    · rw [List.size_toArray, length_splice Z 0 cs (by rw [Hn.out, HZ.out.1]; decide), HZ.out.1]
    · unfold splice
      rw [List.take_zero, List.nil_append, List.take_left' (by rw [Hn.out])], Hb2.out.trans (hB3.mono (Nat.le_of_lt hlt))⟩
  clear HG3 hB3
  go_wp2
  go_ret
  exact F.out

set_option maxRecDepth 100000 in
set_option maxHeartbeats 1000000 in
theorem abytes_true (b : List Int) (hl : b.length = 16) (w : World) : Calls Tryz.prog 101 #[.agg (adr true b)] w (OwnEnd (b.take 16) w) := by
  obtain ⟨W0, hW0⟩ : ∃ W, W = w.alloc (.cells (adr true b) 39) := ⟨_, rfl⟩
  have hB0 : Blk W0 w.heap.size 39 (adr true b) := hW0 ▸ Blk.new w _ _
  have hb0 : Below w.heap.size w W0 := hW0 ▸ (Below.refl _ _).alloc (Nat.le_refl _) _
  have HW0 := Lib.hid hW0.symm
  have HB0 := Lib.hid hB0
  have Hb0 := Lib.hid hb0
  have L17 : Hid (17 = (adr true b).size) := Lib.hid (by rw [adr_size, hl])
  obtain ⟨i0, hi, hp⟩ := Option.map_eq_some_iff.1 Tryz.infoByte
  simp only [Prod.mk.injEq] at hp
  obtain ⟨hz1, hz0, hz2⟩ := hp
  have HZ2 := Lib.hid hz2
  have HL := Lib.hid hl
  have hln : (b.take 16).length = 16 := by rw [List.length_take, hl]; rfl
  obtain ⟨cs, hcs⟩ : ∃ cs, cs = (b.take 16).map (Value.int .u8) := ⟨_, rfl⟩
  have Hn : Hid (cs.length = 16) := Lib.hid (by rw [hcs, List.length_map, hln])
  have H1 : Hid (∀ v ∈ cs, v.oneCell' = true) := Lib.hid (by rw [hcs]; exact bytes_one _)
  have HS : Hid (∀ w', Blk w' w.heap.size 39 (adr true b) → ∀ j u, cs[j]? = some u → w'.cell? ((⟨w.heap.size, 1, none⟩ : Addr).add j) = some u) := Lib.hid (fun w' h => by rw [hcs]; exact adr_src h 16 (by omega))
  have HCs := Lib.hid hcs
  have HLn := Lib.hid hln
  clear hW0 hB0 hb0 hl hln hcs hz2
  go_enter Tryz.func101, Tryz.ntmps101
  go_upto_region 1 with fail
  rw [HW0.out]
  go_wp2_with (refine wpl_load 39 _ rfl w.heap.size rfl _ _ _ HB0.out Tryz.underlying39 rfl 17 Tryz.infoAddr L17.out rfl ?_)
  refine (size_any true b W0).mono ?_
  rintro e w1 ⟨rfl, hb1⟩
  have HB1 := Lib.hid (HB0.out.kept hb1)
  have Hb1 := Lib.hid (bel2 Hb0.out hb1)
  clear hb1
  go_upto_region 2 with (first | (refine wpList_make_full _ rfl (.tmp 5) (.tmp 5) 23 rfl w1.heap.size 5 i0 (.int .u8 0) 1 Tryz.underlying23 hi hz0 hz1 .i64 .i64 16 16 16 rfl rfl rfl rfl (by rw [HZ2.out]; omega) (by decide) (Nat.le_refl _) ?_; intro w2 hown hgrow) | fail)
  have hb2 : Below w1.heap.size w1 w2 := (Below.refl _ _).grown hgrow (Nat.le_refl _) (fun k hk => by cases hk)
  have hlt : w.heap.size < w1.heap.size := HB1.out.lt
  have hR := own_blk hown
  obtain ⟨Z, hZ⟩ : ∃ Z : List Value, Z.length = 16 ∧ Blk w2 w1.heap.size 5 Z.toArray := ⟨_, by simpa using hown.1, hR⟩
  have HB2 := Lib.hid (HB1.out.kept hb2)
  have Hb2 := Lib.hid (bel2 Hb1.out hb2)
  have HZ := Lib.hid hZ
  clear hown hgrow hb2 hR hZ
  go_upto_region 3 with ((show wpList _ _ _ (⟨some 10, _, _, _, _, _⟩ :: _) _ _); go_must (refine wpList_copy_splice rfl (.tmp 7) (.tmp 9) 23 23 rfl 5 Tryz.underlying23 Tryz.oneU8x (some ⟨w1.heap.size, 0, none⟩) (some ⟨w.heap.size, 1, none⟩) 16 16 16 16 rfl rfl w1.heap.size 0 Z 5 HZ.out.2 cs (by rw [Hn.out]; rfl) (fun _ => ⟨rfl, _, rfl, HS.out w2 HB2.out⟩) (by rw [Hn.out, HZ.out.1]; decide) H1.out w1.heap.size w2 (Below.refl _ _) (Nat.le_refl _) ?_; intro w3 HG3 hB3))
  have F : Hid (OwnEnd (b.take 16) w (.returned (.slice (some ⟨w1.heap.size, 0, none⟩) 16 16)) w3) := Lib.hid ⟨_, rfl, by
    rw [HLn.out, ← HCs.out]
    refine ⟨by rw [Hn.out], .inr ⟨w1.heap.size, 16, (splice Z 0 cs).toArray, rfl, Nat.le_of_lt hlt, HG3.out, Nat.le_refl _, by decide, ?_, ?_⟩⟩
    · rw [List.size_toArray, length_splice Z 0 cs (by rw [Hn.out, HZ.out.1]; decide), HZ.out.1]
    · unfold splice
      rw [List.take_zero, List.nil_append, List.take_left' (by rw [Hn.out])], Hb2.out.trans (hB3.mono (Nat.le_of_lt hlt))⟩
  clear HG3 hB3
  go_wp2
  go_ret
  exact F.out
end Go.Proofs.YtahconkjhneogaaGreatDoor

namespace Go.Proofs.YtahconkjhneogaaGreatDoor
open Go.RowKit

theorem own_shape {w : World} {base n : Nat} {v : Value} {xs : List Value} (h : w.ownsRow base 5 1 v n xs) (hn : 0 < n) : ∃ g cap, v = .slice (some ⟨g, 0, none⟩) n cap ∧ base ≤ g ∧ n ≤ cap ∧ g < w.heap.size := by
  rcases h.2 with ⟨_, h0⟩ | ⟨g, cap, cur, rfl, hb, hg, hnc, _⟩
  · omega
  · exact ⟨g, cap, rfl, hb, hnc, (Array.getElem?_eq_some_iff.1 hg).1⟩
/-- The bytes of an address as it is put. -/
def putA (s : Bool) (b : List Int) : List Int := if s then 6 :: b.take 16 else 4 :: b.take 4
theorem putA_len (s : Bool) (b : List Int) (hl : b.length = 16) : (putA s b).length = if s then 17 else 5 := by
  cases s <;> simp [putA, hl]

set_option maxRecDepth 100000 in
set_option maxHeartbeats 1000000 in
theorem aput_false (b : List Int) (hl : b.length = 16) (w : World) : Calls Tryz.prog 87 #[.agg (adr false b)] w (OwnEnd (putA false b) w) := by
  obtain ⟨W0, hW0⟩ : ∃ W, W = w.alloc (.cells (adr false b) 39) := ⟨_, rfl⟩
  have hB0 : Blk W0 w.heap.size 39 (adr false b) := hW0 ▸ Blk.new w _ _
  have hb0 : Below w.heap.size w W0 := hW0 ▸ (Below.refl _ _).alloc (Nat.le_refl _) _
  have h0 : W0.cell? ⟨w.heap.size, 0, none⟩ = some (.bool false) := by rw [hB0.cell]; rfl
  obtain ⟨W1, hW1⟩ : ∃ W, W = W0.alloc (.cells #[.int .u8 4] 5) := ⟨_, rfl⟩
  have hb1 : Below W0.heap.size W0 W1 := hW1 ▸ (Below.refl _ _).alloc (Nat.le_refl _) _
  have HW0 := Lib.hid hW0.symm
  have HW1 := Lib.hid hW1.symm
  have HB1 := Lib.hid (hB0.kept hb1)
  have Hb1 := Lib.hid (bel2 hb0 hb1)
  have L17 : Hid (17 = (adr false b).size) := Lib.hid (by rw [adr_size, hl])
  obtain ⟨i0, hi, hp⟩ := Option.map_eq_some_iff.1 Tryz.infoByte
  simp only [Prod.mk.injEq] at hp
  obtain ⟨hz1, hz0, hz2⟩ := hp
  have hln : (b.take 4).length = 4 := by rw [List.length_take, hl]; rfl
  have hlt : w.heap.size < W0.heap.size := hB0.lt
  have HO : Hid (W1.ownsRow W0.heap.size 5 1 (.slice (some ⟨W0.heap.size, 0, none⟩) 1 1) 1 [.int .u8 4]) := Lib.hid (hW1 ▸ World.ownsRow_lit W0 _ 1 (Nat.le_refl _) (by decide) rfl)
  have HC := Lib.hid (abytes_false b hl W1)
  have HLn := Lib.hid hln
  have HL := Lib.hid hl
  have Hsz1 : Hid (W0.heap.size ≤ W1.heap.size) := Lib.hid hb1.size
  clear hW0 hB0 hb0 hW1 hb1 hl hln
  go_enter Tryz.func87, Tryz.ntmps87
  go_upto_region 1 with fail
  rw [HW0.out]
  go_wp2_with ((try rw [HW1.out]); refine wpl_load 39 _ rfl w.heap.size rfl _ _ _ HB1.out Tryz.underlying39 rfl 17 Tryz.infoAddr L17.out rfl ?_)
  refine HC.out.mono ?_
  rintro e w2 ⟨v, rfl, hown, hb2⟩
  rw [HLn.out] at hown
  obtain ⟨g, cap, rfl, _, _, _⟩ := own_shape hown (by decide)
  have HCell := Lib.hid (World.ownsRow.cells hown rfl)
  have HO2 := Lib.hid (own_below HO.out hb2)
  have hb3 : Below w.heap.size w w2 := bel2 Hb1.out hb2
  have Hsz : Hid (W0.heap.size ≤ w2.heap.size) := Lib.hid (Nat.le_trans Hsz1.out hb2.size)
  clear hown hb2
  go_wp2_with (at_builtin; refine wpList_append_own _ rfl (.tmp 7) (.tmp 9) 23 rfl W0.heap.size 5 i0 (.int .u8 0) 1 1 Tryz.underlying23 hi hz0 hz1 hz2 rfl (by decide) _ 1 _ rfl HO2.out ⟨g, 0, none⟩ 4 cap ((b.take 4).map (Value.int .u8)) rfl (by rw [List.length_map, HLn.out]) HCell.out (bytes_one _) (by decide) (by decide) Hsz.out ?_; intro v' w3 hown hgrow _)
  go_ret
  refine ⟨v', rfl, ?_, hb3.grown hgrow (by have := hb3.size; omega) (fun k hk => by
    have : W0.heap.size = k := by simpa [Act.eval, Value.ownBlock] using hk
    omega)⟩
  have e1 : (putA false b).length = 1 + 4 := by rw [putA_len false b HL.out]; rfl
  rw [e1]
  exact own_mono hown (Nat.le_of_lt hlt)

set_option maxRecDepth 100000 in
set_option maxHeartbeats 1000000 in
theorem rput_false (b : List Int) (hl : b.length = 16) (w : World) : Calls Tryz.prog 52 #[.agg (adr false b)] w (OwnEnd (putA false b) w) := by
  obtain ⟨W0, hW0⟩ : ∃ W, W = w.alloc (.cells (adr false b) 39) := ⟨_, rfl⟩
  have hB0 : Blk W0 w.heap.size 39 (adr false b) := hW0 ▸ Blk.new w _ _
  have hb0 : Below w.heap.size w W0 := hW0 ▸ (Below.refl _ _).alloc (Nat.le_refl _) _
  have h0 : W0.cell? ⟨w.heap.size, 0, none⟩ = some (.bool false) := by rw [hB0.cell]; rfl
  obtain ⟨W1, hW1⟩ : ∃ W, W = W0.alloc (.cells #[.int .u8 4] 5) := ⟨_, rfl⟩
  have hb1 : Below W0.heap.size W0 W1 := hW1 ▸ (Below.refl _ _).alloc (Nat.le_refl _) _
  have HW0 := Lib.hid hW0.symm
  have HW1 := Lib.hid hW1.symm
  have hb3 : Below w.heap.size w W1 := bel2 hb0 hb1
  obtain ⟨i0, hi, hp⟩ := Option.map_eq_some_iff.1 Tryz.infoByte
  simp only [Prod.mk.injEq] at hp
  obtain ⟨hz1, hz0, hz2⟩ := hp
  have hln : (b.take 4).length = 4 := by rw [List.length_take, hl]; rfl
  have hlt : w.heap.size < W0.heap.size := hB0.lt
  have HO2 : Hid (W1.ownsRow W0.heap.size 5 1 (.slice (some ⟨W0.heap.size, 0, none⟩) 1 1) 1 [.int .u8 4]) := Lib.hid (hW1 ▸ World.ownsRow_lit W0 _ 1 (Nat.le_refl _) (by decide) rfl)
  have HCell := Lib.hid (adr_src (hB0.kept hb1) 4 (by omega))
  have HLn := Lib.hid hln
  have HL := Lib.hid hl
  have Hsz : Hid (W0.heap.size ≤ W1.heap.size) := Lib.hid hb1.size
  have Hb3 := Lib.hid hb3
  clear hW0 hB0 hb0 hW1 hb1 hl hln hb3
  go_enter Tryz.func52, Tryz.ntmps52
  go_upto_region 1 with fail
  rw [HW0.out]
  go_wp2_with (at_builtin; (try rw [HW1.out]); refine wpList_append_own _ rfl (.tmp 9) (.tmp 11) 23 rfl W0.heap.size 5 i0 (.int .u8 0) 1 1 Tryz.underlying23 hi hz0 hz1 hz2 rfl (by decide) _ 1 _ rfl HO2.out ⟨w.heap.size, 1, none⟩ 4 16 ((b.take 4).map (Value.int .u8)) rfl (by rw [List.length_map, HLn.out]) HCell.out (bytes_one _) (by decide) (by decide) Hsz.out ?_; intro v' w3 hown hgrow _)
  go_ret
  refine ⟨v', rfl, ?_, Hb3.out.grown hgrow (by have := Hb3.out.size; omega) (fun k hk => by
    have : W0.heap.size = k := by simpa [Act.eval, Value.ownBlock] using hk
    omega)⟩
  have e1 : (putA false b).length = 1 + 4 := by rw [putA_len false b HL.out]; rfl
  rw [e1]
  exact own_mono hown (Nat.le_of_lt hlt)

set_option maxRecDepth 100000 in
set_option maxHeartbeats 1000000 in
theorem aput_true (b : List Int) (hl : b.length = 16) (w : World) : Calls Tryz.prog 87 #[.agg (adr true b)] w (OwnEnd (putA true b) w) := by
  obtain ⟨W0, hW0⟩ : ∃ W, W = w.alloc (.cells (adr true b) 39) := ⟨_, rfl⟩
  have hB0 : Blk W0 w.heap.size 39 (adr true b) := hW0 ▸ Blk.new w _ _
  have hb0 : Below w.heap.size w W0 := hW0 ▸ (Below.refl _ _).alloc (Nat.le_refl _) _
  have h0 : W0.cell? ⟨w.heap.size, 0, none⟩ = some (.bool true) := by rw [hB0.cell]; rfl
  obtain ⟨W1, hW1⟩ : ∃ W, W = W0.alloc (.cells #[.int .u8 6] 5) := ⟨_, rfl⟩
  have hb1 : Below W0.heap.size W0 W1 := hW1 ▸ (Below.refl _ _).alloc (Nat.le_refl _) _
  have HW0 := Lib.hid hW0.symm
  have HW1 := Lib.hid hW1.symm
  have HB1 := Lib.hid (hB0.kept hb1)
  have Hb1 := Lib.hid (bel2 hb0 hb1)
  have L17 : Hid (17 = (adr true b).size) := Lib.hid (by rw [adr_size, hl])
  obtain ⟨i0, hi, hp⟩ := Option.map_eq_some_iff.1 Tryz.infoByte
  simp only [Prod.mk.injEq] at hp
  obtain ⟨hz1, hz0, hz2⟩ := hp
  have hln : (b.take 16).length = 16 := by rw [List.length_take, hl]; rfl
  have hlt : w.heap.size < W0.heap.size := hB0.lt
  have HO : Hid (W1.ownsRow W0.heap.size 5 1 (.slice (some ⟨W0.heap.size, 0, none⟩) 1 1) 1 [.int .u8 6]) := Lib.hid (hW1 ▸ World.ownsRow_lit W0 _ 1 (Nat.le_refl _) (by decide) rfl)
  have HC := Lib.hid (abytes_true b hl W1)
  have HLn := Lib.hid hln
  have HL := Lib.hid hl
  have Hsz1 : Hid (W0.heap.size ≤ W1.heap.size) := Lib.hid hb1.size
  clear hW0 hB0 hb0 hW1 hb1 hl hln
  go_enter Tryz.func87, Tryz.ntmps87
  go_upto_region 1 with fail
  rw [HW0.out]
  go_wp2_with ((try rw [HW1.out]); refine wpl_load 39 _ rfl w.heap.size rfl _ _ _ HB1.out Tryz.underlying39 rfl 17 Tryz.infoAddr L17.out rfl ?_)
  refine HC.out.mono ?_
  rintro e w2 ⟨v, rfl, hown, hb2⟩
  rw [HLn.out] at hown
  obtain ⟨g, cap, rfl, _, _, _⟩ := own_shape hown (by decide)
  have HCell := Lib.hid (World.ownsRow.cells hown rfl)
  have HO2 := Lib.hid (own_below HO.out hb2)
  have hb3 : Below w.heap.size w w2 := bel2 Hb1.out hb2
  have Hsz : Hid (W0.heap.size ≤ w2.heap.size) := Lib.hid (Nat.le_trans Hsz1.out hb2.size)
  clear hown hb2
  go_wp2_with (at_builtin; refine wpList_append_own _ rfl (.tmp 7) (.tmp 9) 23 rfl W0.heap.size 5 i0 (.int .u8 0) 1 1 Tryz.underlying23 hi hz0 hz1 hz2 rfl (by decide) _ 1 _ rfl HO2.out ⟨g, 0, none⟩ 16 cap ((b.take 16).map (Value.int .u8)) rfl (by rw [List.length_map, HLn.out]) HCell.out (bytes_one _) (by decide) (by decide) Hsz.out ?_; intro v' w3 hown hgrow _)
  go_ret
  refine ⟨v', rfl, ?_, hb3.grown hgrow (by have := hb3.size; omega) (fun k hk => by
    have : W0.heap.size = k := by simpa [Act.eval, Value.ownBlock] using hk
    omega)⟩
  have e1 : (putA true b).length = 1 + 16 := by rw [putA_len true b HL.out]; rfl
  rw [e1]
  exact own_mono hown (Nat.le_of_lt hlt)

set_option maxRecDepth 100000 in
set_option maxHeartbeats 1000000 in
theorem rput_true (b : List Int) (hl : b.length = 16) (w : World) : Calls Tryz.prog 52 #[.agg (adr true b)] w (OwnEnd (putA true b) w) := by
  obtain ⟨W0, hW0⟩ : ∃ W, W = w.alloc (.cells (adr true b) 39) := ⟨_, rfl⟩
  have hB0 : Blk W0 w.heap.size 39 (adr true b) := hW0 ▸ Blk.new w _ _
  have hb0 : Below w.heap.size w W0 := hW0 ▸ (Below.refl _ _).alloc (Nat.le_refl _) _
  have h0 : W0.cell? ⟨w.heap.size, 0, none⟩ = some (.bool true) := by rw [hB0.cell]; rfl
  obtain ⟨W1, hW1⟩ : ∃ W, W = W0.alloc (.cells #[.int .u8 6] 5) := ⟨_, rfl⟩
  have hb1 : Below W0.heap.size W0 W1 := hW1 ▸ (Below.refl _ _).alloc (Nat.le_refl _) _
  have HW0 := Lib.hid hW0.symm
  have HW1 := Lib.hid hW1.symm
  have hb3 : Below w.heap.size w W1 := bel2 hb0 hb1
  obtain ⟨i0, hi, hp⟩ := Option.map_eq_some_iff.1 Tryz.infoByte
  simp only [Prod.mk.injEq] at hp
  obtain ⟨hz1, hz0, hz2⟩ := hp
  have hln : (b.take 16).length = 16 := by rw [List.length_take, hl]; rfl
  have hlt : w.heap.size < W0.heap.size := hB0.lt
  have HO2 : Hid (W1.ownsRow W0.heap.size 5 1 (.slice (some ⟨W0.heap.size, 0, none⟩) 1 1) 1 [.int .u8 6]) := Lib.hid (hW1 ▸ World.ownsRow_lit W0 _ 1 (Nat.le_refl _) (by decide) rfl)
  have HCell := Lib.hid (adr_src (hB0.kept hb1) 16 (by omega))
  have HLn := Lib.hid hln
  have HL := Lib.hid hl
  have Hsz : Hid (W0.heap.size ≤ W1.heap.size) := Lib.hid hb1.size
  have Hb3 := Lib.hid hb3
  clear hW0 hB0 hb0 hW1 hb1 hl hln hb3
  go_enter Tryz.func52, Tryz.ntmps52
  go_upto_region 1 with fail
  rw [HW0.out]
  go_wp2_with (at_builtin; (try rw [HW1.out]); refine wpList_append_own _ rfl (.tmp 5) (.tmp 7) 23 rfl W0.heap.size 5 i0 (.int .u8 0) 1 1 Tryz.underlying23 hi hz0 hz1 hz2 rfl (by decide) _ 1 _ rfl HO2.out ⟨w.heap.size, 1, none⟩ 16 16 ((b.take 16).map (Value.int .u8)) rfl (by rw [List.length_map, HLn.out]) HCell.out (bytes_one _) (by decide) (by decide) Hsz.out ?_; intro v' w3 hown hgrow _)
  go_ret
  refine ⟨v', rfl, ?_, Hb3.out.grown hgrow (by have := Hb3.out.size; omega) (fun k hk => by
    have : W0.heap.size = k := by simpa [Act.eval, Value.ownBlock] using hk
    omega)⟩
  have e1 : (putA true b).length = 1 + 16 := by rw [putA_len true b HL.out]; rfl
  rw [e1]
  exact own_mono hown (Nat.le_of_lt hlt)

theorem aput_any (s : Bool) (b : List Int) (hl : b.length = 16) (w : World) : Calls Tryz.prog 87 #[.agg (adr s b)] w (OwnEnd (putA s b) w) := by
  cases s with
  | true => exact aput_true b hl w
  | false => exact aput_false b hl w
theorem rput_any (s : Bool) (b : List Int) (hl : b.length = 16) (w : World) : Calls Tryz.prog 52 #[.agg (adr s b)] w (OwnEnd (putA s b) w) := by
  cases s with
  | true => exact rput_true b hl w
  | false => exact rput_false b hl w

theorem wpl_load_pmid {P : Program} {ops : Array Oper} {rest : List Oper} {o : Oper} {a : Act} {w : World} {Q : Exit → Act → World → Prop} (ty : TypeId) (x : Operand) (ho : o.op = .load ty x)
    (b off : Nat) (hx : a.eval x = .pointer (some ⟨b, off, none⟩)) (cs : List Value) (d : TypeDesc) (hc : w.rangeAt b off cs)
    (hu : P.underlying ty = some d) (hd : d.isRow = true) (n : Nat) (hi : (P.info? ty).map (·.size) = some n) (hn : n = cs.length) (hw : Region.wanted o (yielded ops a.tmps) = true)
    (h : wpList P ops Q rest (a.put o.dst (.agg cs.toArray)) w) : wpList P ops Q (o :: rest) a w :=
  BigFrame.wpList_want hw fun _ hK => wp_load_mid ty x ho b off hx cs d hc hu hd (hn ▸ hi) (hK _ _ h)

/-- A point's cells. -/
def pnt (s : Bool) (b : List Int) (n : Int) : Array Value := ((Value.bool s :: b.map (Value.int .u8)) ++ [Value.int .i64 n]).toArray
theorem pnt_size (s : Bool) (b : List Int) (n : Int) : (pnt s b n).size = b.length + 2 := by simp [pnt]
theorem pnt_one (s : Bool) (b : List Int) (n : Int) : (pnt s b n).all (·.oneCell') = true := by
  rw [Array.all_eq_true_iff_forall_mem]
  intro v hv
  simp only [pnt, List.mem_toArray, List.mem_append, List.mem_cons, List.mem_map, List.not_mem_nil, or_false] at hv
  rcases hv with (rfl | ⟨x, _, rfl⟩) | rfl <;> rfl
theorem pnt_zero (s : Bool) (b : List Int) (n : Int) : (pnt s b n)[0]? = some (.bool s) := rfl
theorem pnt_at (s : Bool) (b : List Int) (n : Int) (i : Nat) (h : i < b.length) : (pnt s b n)[1 + i]? = some (.int .u8 (nth b i)) := by
  simp only [pnt, List.getElem?_toArray]
  rw [List.getElem?_append_left (by simp; omega)]
  simp [nth, Nat.add_comm 1 i, List.getElem?_eq_getElem h, List.getD]
theorem pnt_port (s : Bool) (b : List Int) (n : Int) (h : b.length = 16) : (pnt s b n)[17]? = some (.int .i64 n) := by
  simp only [pnt, List.getElem?_toArray]
  rw [List.getElem?_append_right (by simp [h])]
  simp [h]
theorem pnt_extract (s : Bool) (b : List Int) (n : Int) (h : b.length = 16) : (pnt s b n).extract 0 (0 + 17) = adr s b := by
  simp only [pnt, adr, List.extract_toArray, List.extract_eq_take_drop]
  simp [h]

theorem Tryz.infoPoint : (Tryz.prog.info? 41).map (·.size) = some 18 := by kernel_rfl
theorem Tryz.sizeAddr (w : World) : (sizeOf 39).run Tryz.prog w = .ok 17 w := by kernel_rfl
theorem pnt_range {w : World} {g : Nat} {s : Bool} {b : List Int} {n : Int} (h : Blk w g 41 (pnt s b n)) : w.rangeAt g 0 (adr s b).toList := by
  intro j v hv
  rw [Nat.zero_add, h.cell]
  have hj := (List.getElem?_eq_some_iff.1 hv).1
  simp only [adr] at hv hj
  simp only [pnt, List.getElem?_toArray]
  rw [List.getElem?_append_left (by simpa using hj)]
  exact hv

theorem pnt_portCell {w : World} {g : Nat} {s : Bool} {b : List Int} {n : Int} (h : Blk w g 41 (pnt s b n)) (hl : b.length = 16) : w.cell? ⟨g, 17, none⟩ = some (.int .i64 n) := by rw [h.cell, pnt_port s b n hl]

section
variable {P : Program}
/-- The address out of a point's block. -/
theorem wpl_load_padr {ops : Array Oper} {rest : List Oper} {o : Oper} {a : Act} {w : World} {Q : Exit → Act → World → Prop} (x : Operand) (ho : o.op = .load 39 x)
    (g : Nat) (hx : a.eval x = .pointer (some ⟨g, 0, none⟩)) (s : Bool) (b : List Int) (n : Int) (hB : Blk w g 41 (pnt s b n)) (hl : b.length = 16) (hw : Region.wanted o (yielded ops a.tmps) = true)
    (h : wpList Tryz.prog ops Q rest (a.put o.dst (.agg (adr s b))) w) : wpList Tryz.prog ops Q (o :: rest) a w :=
  wpl_load_pmid 39 x ho g 0 hx (adr s b).toList _ (pnt_range hB) Tryz.underlying39 rfl 17 Tryz.infoAddr (by rw [Array.length_toList, adr_size, hl]) hw h
end

section
variable {P : Program} {ops : Array Oper} {a : Act} {w : World} {o : Oper}
/-- A call of a Go function by its contract, at the operation itself. -/
theorem op_call2 {K : Act → World → Prop} {Q : Exit → Act → World → Prop} (f : FuncId) (args : Array Value) (hrun : (execOp a.eval o).run P w = .ok (.enter f args) w) {R : World → Prop} (v : Value)
    (hc : Calls P f args w fun e w' => e = .returned v ∧ R w') (h : ∀ w', R w' → K (a.put o.dst v) w') : Oper.wp P o a w K Q := by
  unfold Oper.wp
  rw [hrun, Oper.upon_enter]
  refine hc.mono fun e w'' hh => ?_
  obtain ⟨rfl, hR⟩ := hh
  exact h _ hR

theorem yields_padr {S : World → Prop} {oi : Oper} (x : Operand) (ho : oi.op = .load 39 x) (g : Nat) (hx : a.eval x = .pointer (some ⟨g, 0, none⟩)) (s : Bool) (b : List Int) (n : Int)
    (hS : ∀ w, S w → Blk w g 41 (pnt s b n)) (hl : b.length = 16) (hw : Region.wanted oi (yielded ops a.tmps) = true) : YieldsIf Tryz.prog ops S oi (.agg (adr s b)) a :=
  yieldsIf_load_mid hw 39 x ho g 0 hx (adr s b).toList _ (fun w h => pnt_range (hS w h)) Tryz.underlying39 rfl (by rw [Array.length_toList, adr_size, hl]; exact Tryz.infoAddr)

theorem yields_cell {S : World → Prop} {oi : Oper} (x : Operand) (ho : oi.op = .load 3 x) (g off : Nat) (hx : a.eval x = .pointer (some ⟨g, off, none⟩)) (n : Int)
    (hS : ∀ w, S w → w.cell? ⟨g, off, none⟩ = some (.int .i64 n)) (hw : Region.wanted oi (yielded ops a.tmps) = true) : YieldsIf Tryz.prog ops S oi (.int .i64 n) a :=
  .inl ⟨hw, fun w hw' => by
    have h := hS w hw'
    unfold execOp
    simp only [ho, hx]
    simp [go_sem, h]⟩

end

theorem exec_shr8 {P : Program} {o : Oper} {a : Act} {w : World} (x : Operand) (t t' : TypeId) (y : Operand) (ho : o.op = .binOp .shr t x y t') (n : Int) (hx : a.eval x = .int .i64 n) (hy : a.eval y = .int .u64 8) :
    (execOp a.eval o).run P w = .ok (.value (.int .i64 (n / 256))) w := by
  unfold execOp
  simp only [ho, hx, hy, eqGuard, binOp]
  simp [go_sem]
theorem exec_byte {o : Oper} {a : Act} {w : World} (x : Operand) (ho : o.op = .convert 3 5 x) (n : Int) (hx : a.eval x = .int .i64 n) :
    (execOp a.eval o).run Tryz.prog w = .ok (.value (.int .u8 (n % 256))) w := by
  have e : IntKind.u8.wrap n = n % 256 := by simp [IntKind.wrap, IntKind.signed, IntKind.bits]
  unfold execOp
  simp only [ho, hx]
  simp [convert, run_underlying Tryz.underlying3, run_underlying Tryz.underlying5, go_sem, e]

theorem own_block {w : World} {base : Nat} {e : TypeId} {size : Nat} {v : Value} {n : Nat} {xs : List Value} (h : w.ownsRow base e size v n xs) {k : Nat} (hk : v.ownBlock = some k) : base ≤ k := by
  rcases h.2 with ⟨rfl, _⟩ | ⟨g, cap, cur, rfl, h2, _⟩
  · cases hk
  · cases hk
    exact h2
theorem own_ne {w : World} {base : Nat} {e : TypeId} {size : Nat} {v : Value} {n : Nat} {xs : List Value} (h : w.ownsRow base e size v n xs) {k : Nat} (hk : k < base) : v.ownBlock ≠ some k := fun e => by
  have := own_block h e
  omega
theorem Blk.grown {w w' : World} {g : Nat} {t : TypeId} {cs : Array Value} (h : Blk w g t cs) {o : Option Nat} (hg : w.grownBy w' o) (hne : o ≠ some g) : Blk w' g t cs := by
  unfold Blk
  rw [hg.block g h.lt (fun e => hne e.symm)]
  exact h

/-- The bytes of a point as it is put. -/
def putP (s : Bool) (b : List Int) (n : Int) : List Int := putA s b ++ [n / 256 % 256, n % 256]

set_option maxRecDepth 100000 in
set_option maxHeartbeats 1000000 in
theorem rpput_any (s : Bool) (b : List Int) (hl : b.length = 16) (n : Int) (w : World) : Calls Tryz.prog 28 #[.agg (pnt s b n)] w (OwnEnd (putP s b n) w) := by
  obtain ⟨W0, hW0⟩ : ∃ W, W = w.alloc (.cells (pnt s b n) 41) := ⟨_, rfl⟩
  have hB0 : Blk W0 w.heap.size 41 (pnt s b n) := hW0 ▸ Blk.new w _ _
  have hb0 : Below w.heap.size w W0 := hW0 ▸ (Below.refl _ _).alloc (Nat.le_refl _) _
  have hp0 : W0.cell? ⟨w.heap.size, 17, none⟩ = some (.int .i64 n) := pnt_portCell hB0 hl
  have HW0 := Lib.hid hW0.symm
  have HB0 := Lib.hid hB0
  obtain ⟨i0, hi, hpx⟩ := Option.map_eq_some_iff.1 Tryz.infoByte
  simp only [Prod.mk.injEq] at hpx
  obtain ⟨hz1, hz0, hz2⟩ := hpx
  have Hb0 := Lib.hid hb0
  have HL := Lib.hid hl
  obtain ⟨M, hM⟩ : ∃ M : Nat, (M : Int) = n % 18446744073709551616 := ⟨(n % 18446744073709551616).toNat, by omega⟩
  obtain ⟨R, hR⟩ : ∃ R : Nat, (R : Int) = n % 65536 := ⟨(n % 65536).toNat, by omega⟩
  obtain ⟨b1, hb1⟩ : ∃ b1 : Nat, b1 = R / 256 := ⟨_, rfl⟩
  obtain ⟨b2, hb2⟩ : ∃ b2 : Nat, b2 = R % 256 := ⟨_, rfl⟩
  have e1 : IntKind.u64.wrap n = (M : Int) := by rw [IntKind.wrap_u64]; omega
  have e2 : (M : Int).tmod 65536 = (R : Int) := by rw [Int.tmod_eq_emod_of_nonneg (by omega)]; omega
  have e2' : (M : Int) % 65536 = (R : Int) := by omega
  have e3 : IntKind.u64.wrap ((R : Int) / 256) = (b1 : Int) := by rw [IntKind.wrap_u64]; omega
  have e3' : IntKind.u64.wrap ((R : Int).tdiv 256) = (b1 : Int) := by rw [Int.tdiv_eq_ediv_of_nonneg (by omega)]; exact e3
  have e4 : IntKind.u8.wrap (b1 : Int) = (b1 : Int) := by simp only [IntKind.wrap, IntKind.signed, IntKind.bits]; simp; omega
  have e5 : (R : Int).tmod 256 = (b2 : Int) := by rw [Int.tmod_eq_emod_of_nonneg (by omega)]; omega
  have e5' : (R : Int) % 256 = (b2 : Int) := by omega
  have e6 : IntKind.u8.wrap (b2 : Int) = (b2 : Int) := by simp only [IntKind.wrap, IntKind.signed, IntKind.bits]; simp; omega
  have HQ : Hid (((b1 : Nat) : Int) = (n / 256) % 256 ∧ ((b2 : Nat) : Int) = n % 256) := Lib.hid ⟨by omega, by omega⟩
  have CP := Lib.hid (rput_any s b hl W0)
  clear hW0 hB0 hb0 hl hM hR hb1 hb2
  go_enter Tryz.func28, Tryz.ntmps28
  go_upto_region 1 with fail
  rw [HW0.out]
  go_wp2_with (refine wpl_load_padr _ rfl w.heap.size rfl s b n HB0.out HL.out rfl ?_)
  refine CP.out.mono ?_
  rintro e w2 ⟨v, rfl, hown, hbw⟩
  have hsz : w.heap.size ≤ w2.heap.size := Nat.le_trans Hb0.out.size hbw.size
  obtain ⟨w3, hw3⟩ : ∃ w3, w3 = w2.alloc (.cells #[.int .u8 (b1 : Int), .int .u8 (b2 : Int)] 5) := ⟨_, rfl⟩
  have hb3 : Below w2.heap.size w2 w3 := hw3 ▸ (Below.refl _ _).alloc (Nat.le_refl _) _
  have HO : Hid (w3.ownsRow w.heap.size 5 1 v (putA s b).length ((putA s b).map (Value.int .u8))) := Lib.hid (own_below (own_mono hown Hb0.out.size) hb3)
  have HN : Hid (∀ j u, ([.int .u8 (b1 : Int), .int .u8 (b2 : Int)] : List Value)[j]? = some u → w3.cell? ((⟨w2.heap.size, 0, none⟩ : Addr).add j) = some u) := Lib.hid fun j u hu => by
    have hB : Blk w3 w2.heap.size 5 #[.int .u8 (b1 : Int), .int .u8 (b2 : Int)] := hw3 ▸ Blk.new w2 _ _
    rw [add_plain, hB.cell, Nat.zero_add]
    simpa using hu
  have Hb3 : Hid (Below w.heap.size w w3) := Lib.hid ((bel2 Hb0.out hbw).trans (hb3.mono hsz))
  have hlen : (putA s b).length ≤ 17 := by rw [putA_len s b HL.out]; split <;> omega
  have HW3 := Lib.hid hw3.symm
  clear hown hbw hb3 hw3
  go_wp2_with (at_builtin; (try rw [HW3.out]); refine wpList_append_own _ rfl (.tmp 10) (.tmp 17) 23 rfl w.heap.size 5 i0 (.int .u8 0) 1 1 Tryz.underlying23 hi hz0 hz1 hz2 rfl (by decide) v _ _ rfl HO.out ⟨w2.heap.size, 0, none⟩ 2 2 [.int .u8 (b1 : Int), .int .u8 (b2 : Int)] rfl rfl HN.out (by simp [Value.oneCell']) (by unfold maxLen; omega) (by omega) Hb3.out.size ?_; intro v' w4 hown hgrow _)
  go_ret
  refine ⟨v', rfl, ?_, Hb3.out.grown hgrow Hb3.out.size (fun k hk => ?_)⟩
  · unfold putP
    rw [List.length_append, List.map_append, ← HQ.out.1, ← HQ.out.2]
    exact hown
  · exact own_block HO.out hk

set_option linter.unusedSimpArgs false in
set_option maxRecDepth 100000 in
set_option maxHeartbeats 4000000 in
theorem pput_any (s : Bool) (b : List Int) (hl : b.length = 16) (n : Int) (w : World) : Calls Tryz.prog 72 #[.agg (pnt s b n)] w (OwnEnd (putP s b n) w) := by
  obtain ⟨w1, hw1⟩ : ∃ W, W = w.alloc (.cells (pnt s b n) 41) := ⟨_, rfl⟩
  have hB0 : Blk w1 w.heap.size 41 (pnt s b n) := hw1 ▸ Blk.new w _ _
  have hb0 : Below w.heap.size w w1 := hw1 ▸ (Below.refl _ _).alloc (Nat.le_refl _) _
  have HW0 := Lib.hid hw1.symm
  have HL := Lib.hid hl
  obtain ⟨i0, hi, hpx⟩ := Option.map_eq_some_iff.1 Tryz.infoByte
  simp only [Prod.mk.injEq] at hpx
  obtain ⟨hz1, hz0, hz2⟩ := hpx
  have CP : Hid (∀ w, Calls Tryz.prog 87 #[.agg (adr s b)] w fun e w' => ∃ v, e = .returned v ∧ (w'.ownsRow w.heap.size 5 1 v (putA s b).length ((putA s b).map (Value.int .u8)) ∧ Below w.heap.size w w')) := Lib.hid (aput_any s b hl)
  have hS0 : Blk w1.drew (w.heap.size) 41 (pnt s b n) ∧ Below w.heap.size w w1.drew := ⟨hB0.kept (below_drewN w1 1), bel2 hb0 (below_drewN w1 1)⟩
  clear hw1 hB0 hb0 hl
  go_enter Tryz.func72, Tryz.ntmps72
  go_upto_region 1 with fail
  rw [HW0.out]
  refine wp_region_held_drew (S := fun w' => Blk w' (w.heap.size) 41 (pnt s b n) ∧ Below w.heap.size w w') (by kernel_rfl) hS0 (fun hS => ?_)
  change wpAnyH _ _ _ _ _ 13 #[false, false, false, false, false, false, false, false, false, false, false, false, false] _ _
  refine wpAnyH_take (i := 0) (v := .pointer (some ⟨w.heap.size, 0, none⟩)) rfl (by kernel_rfl) (by kernel_rfl) (by kernel_rfl) (fun _ _ _ h => h) (.inl ⟨by kernel_rfl, fun w _ => by kernel_rfl⟩) hS ?_
  simp only [List.getElem_toArray, List.getElem_cons_zero, List.getElem_cons_succ, Act.put, List.setIfInBounds_toArray, List.set_cons_zero, List.set_cons_succ]
  refine wpAnyH_take (i := 1) (v := .agg (adr s b)) rfl (by kernel_rfl) (by kernel_rfl) (by kernel_rfl) (fun _ _ _ h => h) (yields_padr (.tmp 3) rfl (w.heap.size) (by kernel_rfl) s b n (fun w h => h.1) HL.out (by kernel_rfl)) hS ?_
  simp only [List.getElem_toArray, List.getElem_cons_zero, List.getElem_cons_succ, Act.put, List.setIfInBounds_toArray, List.set_cons_zero, List.set_cons_succ]
  refine wpAnyH_take (i := 3) (v := .pointer (some ⟨w.heap.size, 17, none⟩)) rfl (by kernel_rfl) (by kernel_rfl) (by kernel_rfl) (fun _ _ _ h => h) (.inl ⟨by kernel_rfl, fun w _ => by kernel_rfl⟩) hS ?_
  simp only [List.getElem_toArray, List.getElem_cons_zero, List.getElem_cons_succ, Act.put, List.setIfInBounds_toArray, List.set_cons_zero, List.set_cons_succ]
  refine wpAnyH_take (i := 4) (v := .int .i64 n) rfl (by kernel_rfl) (by kernel_rfl) (by kernel_rfl) (fun _ _ _ h => h) (yields_cell (.tmp 6) rfl (w.heap.size) 17 (by kernel_rfl) n (fun w h => pnt_portCell h.1 HL.out) (by kernel_rfl)) hS ?_
  simp only [List.getElem_toArray, List.getElem_cons_zero, List.getElem_cons_succ, Act.put, List.setIfInBounds_toArray, List.set_cons_zero, List.set_cons_succ]
  refine wpAnyH_take (i := 5) (v := .int .i64 (n / 256)) rfl (by kernel_rfl) (by kernel_rfl) (by kernel_rfl) (fun _ _ _ h => h) (.inl ⟨by kernel_rfl, fun w _ => exec_shr8 (.tmp 7) _ _ _ rfl n (by kernel_rfl) (by kernel_rfl)⟩) hS ?_
  simp only [List.getElem_toArray, List.getElem_cons_zero, List.getElem_cons_succ, Act.put, List.setIfInBounds_toArray, List.set_cons_zero, List.set_cons_succ]
  refine wpAnyH_take (i := 6) (v := .int .u8 (n / 256 % 256)) rfl (by kernel_rfl) (by kernel_rfl) (by kernel_rfl) (fun _ _ _ h => h) (.inl ⟨by kernel_rfl, fun w _ => exec_byte (.tmp 8) rfl (n / 256) (by kernel_rfl)⟩) hS ?_
  simp only [List.getElem_toArray, List.getElem_cons_zero, List.getElem_cons_succ, Act.put, List.setIfInBounds_toArray, List.set_cons_zero, List.set_cons_succ]
  refine wpAnyH_take (i := 7) (v := .pointer (some ⟨w.heap.size, 17, none⟩)) rfl (by kernel_rfl) (by kernel_rfl) (by kernel_rfl) (fun _ _ _ h => h) (.inl ⟨by kernel_rfl, fun w _ => by kernel_rfl⟩) hS ?_
  simp only [List.getElem_toArray, List.getElem_cons_zero, List.getElem_cons_succ, Act.put, List.setIfInBounds_toArray, List.set_cons_zero, List.set_cons_succ]
  refine wpAnyH_take (i := 8) (v := .int .i64 n) rfl (by kernel_rfl) (by kernel_rfl) (by kernel_rfl) (fun _ _ _ h => h) (yields_cell (.tmp 10) rfl (w.heap.size) 17 (by kernel_rfl) n (fun w h => pnt_portCell h.1 HL.out) (by kernel_rfl)) hS ?_
  simp only [List.getElem_toArray, List.getElem_cons_zero, List.getElem_cons_succ, Act.put, List.setIfInBounds_toArray, List.set_cons_zero, List.set_cons_succ]
  refine wpAnyH_take (i := 9) (v := .int .u8 (n % 256)) rfl (by kernel_rfl) (by kernel_rfl) (by kernel_rfl) (fun _ _ _ h => h) (.inl ⟨by kernel_rfl, fun w _ => exec_byte (.tmp 11) rfl n (by kernel_rfl)⟩) hS ?_
  simp only [List.getElem_toArray, List.getElem_cons_zero, List.getElem_cons_succ, Act.put, List.setIfInBounds_toArray, List.set_cons_zero, List.set_cons_succ]
  refine wpAnyH_ready (rs := [2, 10]) (by kernel_rfl) (by simp) ?_
  refine AllReadyH.cons rfl (fun K' hK => ?_) (AllReadyH.cons rfl (fun K' hK => ?_) AllReadyH.nil)
  · refine step_callE 87 #[.agg (adr s b)] (by kernel_rfl) (by kernel_rfl) (CP.out _) (fun v w2 hR => hK.out _ _ ⟨hS.1.kept hR.2, bel2 hS.2 hR.2⟩ (fun hS2 => ?_))
    simp only [List.getElem_toArray, List.getElem_cons_zero, List.getElem_cons_succ, Act.put, List.setIfInBounds_toArray, List.set_cons_zero, List.set_cons_succ]
    have hown := own_mono hR.1 hS.2.size
    obtain ⟨w3, hw3⟩ : ∃ w3, w3 = w2.alloc (.cells #[.int .u8 (n / 256 % 256), .int .u8 (n % 256)] 5) := ⟨_, rfl⟩
    have hb3 : Below w2.heap.size w2 w3 := hw3 ▸ (Below.refl _ _).alloc (Nat.le_refl _) _
    refine wpAnyH_ready (rs := [10]) (by kernel_rfl) (by simp) ?_
    refine AllReadyH.cons rfl (fun K' hK => ?_) AllReadyH.nil
    refine step_run (.slice (some ⟨w2.heap.size, 0, none⟩) 2 2) w3 (by rw [hw3]; kernel_rfl) (by kernel_rfl) (hK.out _ _ ⟨hS2.1.kept hb3, bel2 hS2.2 hb3⟩ (fun hS => ?_))
    simp only [List.getElem_toArray, List.getElem_cons_zero, List.getElem_cons_succ, Act.put, List.setIfInBounds_toArray, List.set_cons_zero, List.set_cons_succ]
    have HO : Hid (w3.ownsRow w.heap.size 5 1 v (putA s b).length ((putA s b).map (Value.int .u8))) := Lib.hid (own_below hown hb3)
    have HN : Hid (∀ j u, ([.int .u8 (n / 256 % 256), .int .u8 (n % 256)] : List Value)[j]? = some u → w3.cell? ((⟨w2.heap.size, 0, none⟩ : Addr).add j) = some u) := Lib.hid fun j u hu => by
      have hB : Blk w3 w2.heap.size 5 #[.int .u8 (n / 256 % 256), .int .u8 (n % 256)] := hw3 ▸ Blk.new w2 _ _
      rw [add_plain, hB.cell, Nat.zero_add]
      simpa using hu
    have HG : Hid (v.ownBlock ≠ some w.heap.size) := Lib.hid (own_ne hR.1 hS0.1.lt)
    have hlen : (putA s b).length ≤ 17 := by rw [putA_len s b HL.out]; split <;> omega
    refine wpAnyH_ready (rs := [11]) (by kernel_rfl) (by simp) ?_
    refine AllReadyH.cons rfl (fun K' hK => ?_) AllReadyH.nil
    rw [if_pos (by kernel_rfl)]
    refine wp_append_own _ (.tmp 5) (.tmp 13) 23 rfl w.heap.size 5 i0 (.int .u8 0) 1 1 Tryz.underlying23 hi hz0 hz1 hz2 rfl (by decide) v _ _ (by kernel_rfl) HO.out ⟨w2.heap.size, 0, none⟩ 2 2 [.int .u8 (n / 256 % 256), .int .u8 (n % 256)] (by kernel_rfl) rfl HN.out (by simp [Value.oneCell']) (by unfold maxLen; omega) (by omega) (by have := hS.2.size; omega) (fun v' w4 hown hgrow _ => hK.out _ _ ⟨hS.1.grown hgrow HG.out, hS.2.grown hgrow hS.2.size (fun k hk => own_block HO.out hk)⟩ (fun hS => ?_))
    simp only [List.getElem_toArray, List.getElem_cons_zero, List.getElem_cons_succ, Act.put, List.setIfInBounds_toArray, List.set_cons_zero, List.set_cons_succ]
    have F : Hid (OwnEnd (putP s b n) w (.returned v') w4) := Lib.hid ⟨v', rfl, by
      unfold putP
      rw [List.length_append, List.map_append]
      exact hown, hS.2⟩
    refine wpAnyH_take (i := 12) (v := v') rfl (by kernel_rfl) (by kernel_rfl) (by kernel_rfl) (fun _ _ _ h => h) (.inl ⟨by kernel_rfl, fun w _ => by kernel_rfl⟩) hS ?_
    simp only [List.getElem_toArray, List.getElem_cons_zero, List.getElem_cons_succ, Act.put, List.setIfInBounds_toArray, List.set_cons_zero, List.set_cons_succ]
    refine wpAnyH_done (by kernel_rfl) ?_ _
    clear hS hown hgrow
    go_wp2
    go_ret
    exact F.out
  · obtain ⟨w2, hw2⟩ : ∃ w2, w2 = w1.drew.alloc (.cells #[.int .u8 (n / 256 % 256), .int .u8 (n % 256)] 5) := ⟨_, rfl⟩
    have hb2 : Below w1.drew.heap.size w1.drew w2 := hw2 ▸ (Below.refl _ _).alloc (Nat.le_refl _) _
    refine step_run (.slice (some ⟨w1.drew.heap.size, 0, none⟩) 2 2) w2 (by rw [hw2]; kernel_rfl) (by kernel_rfl) (hK.out _ _ ⟨hS.1.kept hb2, bel2 hS.2 hb2⟩ (fun hS2 => ?_))
    simp only [List.getElem_toArray, List.getElem_cons_zero, List.getElem_cons_succ, Act.put, List.setIfInBounds_toArray, List.set_cons_zero, List.set_cons_succ]
    refine wpAnyH_ready (rs := [2]) (by kernel_rfl) (by simp) ?_
    refine AllReadyH.cons rfl (fun K' hK => ?_) AllReadyH.nil
    refine step_callE 87 #[.agg (adr s b)] (by kernel_rfl) (by kernel_rfl) (CP.out _) (fun v w3 hR => hK.out _ _ ⟨hS2.1.kept hR.2, bel2 hS2.2 hR.2⟩ (fun hS => ?_))
    simp only [List.getElem_toArray, List.getElem_cons_zero, List.getElem_cons_succ, Act.put, List.setIfInBounds_toArray, List.set_cons_zero, List.set_cons_succ]
    have HO : Hid (w3.ownsRow w.heap.size 5 1 v (putA s b).length ((putA s b).map (Value.int .u8))) := Lib.hid (own_mono hR.1 hS2.2.size)
    have HN : Hid (∀ j u, ([.int .u8 (n / 256 % 256), .int .u8 (n % 256)] : List Value)[j]? = some u → w3.cell? ((⟨w1.drew.heap.size, 0, none⟩ : Addr).add j) = some u) := Lib.hid fun j u hu => by
      have hB : Blk w3 w1.drew.heap.size 5 #[.int .u8 (n / 256 % 256), .int .u8 (n % 256)] := (hw2 ▸ Blk.new w1.drew _ _ : Blk w2 _ _ _).kept hR.2
      rw [add_plain, hB.cell, Nat.zero_add]
      simpa using hu
    have HG : Hid (v.ownBlock ≠ some w.heap.size) := Lib.hid (own_ne hR.1 hS2.1.lt)
    have hlen : (putA s b).length ≤ 17 := by rw [putA_len s b HL.out]; split <;> omega
    refine wpAnyH_ready (rs := [11]) (by kernel_rfl) (by simp) ?_
    refine AllReadyH.cons rfl (fun K' hK => ?_) AllReadyH.nil
    rw [if_pos (by kernel_rfl)]
    refine wp_append_own _ (.tmp 5) (.tmp 13) 23 rfl w.heap.size 5 i0 (.int .u8 0) 1 1 Tryz.underlying23 hi hz0 hz1 hz2 rfl (by decide) v _ _ (by kernel_rfl) HO.out ⟨w1.drew.heap.size, 0, none⟩ 2 2 [.int .u8 (n / 256 % 256), .int .u8 (n % 256)] (by kernel_rfl) rfl HN.out (by simp [Value.oneCell']) (by unfold maxLen; omega) (by omega) (by have := hS.2.size; omega) (fun v' w4 hown hgrow _ => hK.out _ _ ⟨hS.1.grown hgrow HG.out, hS.2.grown hgrow hS.2.size (fun k hk => own_block HO.out hk)⟩ (fun hS => ?_))
    simp only [List.getElem_toArray, List.getElem_cons_zero, List.getElem_cons_succ, Act.put, List.setIfInBounds_toArray, List.set_cons_zero, List.set_cons_succ]
    have F : Hid (OwnEnd (putP s b n) w (.returned v') w4) := Lib.hid ⟨v', rfl, by
      unfold putP
      rw [List.length_append, List.map_append]
      exact hown, hS.2⟩
    refine wpAnyH_take (i := 12) (v := v') rfl (by kernel_rfl) (by kernel_rfl) (by kernel_rfl) (fun _ _ _ h => h) (.inl ⟨by kernel_rfl, fun w _ => by kernel_rfl⟩) hS ?_
    simp only [List.getElem_toArray, List.getElem_cons_zero, List.getElem_cons_succ, Act.put, List.setIfInBounds_toArray, List.set_cons_zero, List.set_cons_succ]
    refine wpAnyH_done (by kernel_rfl) ?_ _
    clear hS hown hgrow
    go_wp2
    go_ret
    exact F.out
end Go.Proofs.YtahconkjhneogaaGreatDoor

namespace Go.Proofs.YtahconkjhneogaaGreatDoor
open Go.RowKit

section
variable {P : Program}
end
/-- An array's cells. -/
def arr (k : IntKind) (b : List Int) : Array Value := (b.map (Value.int k)).toArray
theorem arr_size (k : IntKind) (b : List Int) : (arr k b).size = b.length := by simp [arr]
theorem arr_at (k : IntKind) (b : List Int) (i : Nat) (h : i < b.length) : (arr k b)[i]? = some (.int k (nth b i)) := by
  simp [arr, nth, List.getElem?_eq_getElem h, List.getD]
theorem arr_one (k : IntKind) (b : List Int) : (arr k b).all (·.oneCell') = true := by
  rw [Array.all_eq_true_iff_forall_mem]
  intro v hv
  simp only [arr, List.mem_toArray, List.mem_map] at hv
  rcases hv with ⟨x, _, rfl⟩
  rfl
theorem arr_set (k : IntKind) (b : List Int) (i : Nat) (v : Int) : (arr k b).setIfInBounds i (.int k v) = arr k (b.set i v) := by
  simp [arr, List.map_set]
theorem Tryz.infoArr : (Tryz.prog.info? 37).map (·.size) = some 16 := by kernel_rfl
/-- Six noughts and such: the list of sixteen noughts. -/
abbrev z16 : List Int := [0, 0, 0, 0, 0, 0, 0, 0, 0, 0, 0, 0, 0, 0, 0, 0]
theorem adr_z16 : adr false z16 = #[.bool false, .int .u8 0, .int .u8 0, .int .u8 0, .int .u8 0, .int .u8 0, .int .u8 0, .int .u8 0, .int .u8 0, .int .u8 0, .int .u8 0, .int .u8 0, .int .u8 0, .int .u8 0, .int .u8 0, .int .u8 0, .int .u8 0] := rfl
section
variable {P : Program}
theorem all_range_eqI : ∀ (xs ys : List Int), xs.length = ys.length → ((List.range xs.length).all fun i => nth xs i == nth ys i) = (xs == ys)
  | [], [], _ => rfl
  | x :: xs, y :: ys, h => by
    have ih := all_range_eqI xs ys (by simpa using h)
    rw [List.length_cons, List.range_succ_eq_map, List.all_cons, List.all_map]
    simp only [nth, List.getD_cons_zero, Function.comp_def, List.getD_cons_succ] at ih ⊢
    rw [ih]
    simp [List.cons_beq_cons]
  | [], _ :: _, h => by simp at h
  | _ :: _, [], h => by simp at h
theorem run_equalIn_ints (w : World) (d : Nat) (t e : TypeId) (k : IntKind) (n : Nat) (ht : P.underlying t = some (.array n e)) (he : P.underlying e = some (.int k)) (hsz : ∀ w, (sizeOf e).run P w = .ok 1 w)
    (xs ys : List Int) (hx : xs.length = n) (hy : ys.length = n) : (Op.equalIn (d + 2) t (.agg (arr k xs)) (.agg (arr k ys))).run P w = .ok (xs == ys) w := by
  rw [← all_range_eqI xs ys (hx.trans hy.symm), hx, List.range_eq_range', Op.equalIn]
  simp only [Sem.run_bind, run_underlying ht, Result.andThen_ok, hsz, Std.Legacy.Range.forIn_eq_forIn_range', Std.Legacy.Range.size, Nat.sub_zero, Nat.add_sub_cancel, Nat.div_one]
  have hl : ∀ i ∈ List.range' 0 n 1, i < n := fun i hi => by simpa using (List.mem_range'_1.1 hi).2
  generalize List.range' 0 n 1 = l at hl ⊢
  induction l with
  | nil => simp
  | cons i l ih =>
    have hi : i < n := hl i (by simp)
    have px : (part e (arr k xs) (i * 1)).run P w = .ok (.int k (nth xs i)) w := by
      simp [part, isAgg, run_underlying he, arr_at k xs i (by omega)]
    have py : (part e (arr k ys) (i * 1)).run P w = .ok (.int k (nth ys i)) w := by
      simp [part, isAgg, run_underlying he, arr_at k ys i (by omega)]
    have pe : (Op.equalIn (d + 1) e (.int k (nth xs i)) (.int k (nth ys i))).run P w = .ok (nth xs i == nth ys i) w := run_equalIn_int w d e k k _ _ he
    simp only [List.forIn_cons, Sem.run_bind, px, py, pe, Result.andThen_ok, List.all_cons]
    cases hb : (nth xs i == nth ys i)
    · simp
    · simp only [Bool.not_true, Bool.false_eq_true, if_false, Sem.run_pure, Result.andThen_ok, Bool.true_and]
      exact ih fun j hj => hl j (by simp [hj])
end
theorem Tryz.size5 (w : World) : (sizeOf 5).run Tryz.prog w = .ok 1 w := by kernel_rfl
theorem Tryz.sizeArr (w : World) : (sizeOf 37).run Tryz.prog w = .ok 16 w := by kernel_rfl
theorem Tryz.fieldsAddr : Tryz.prog.underlying 39 = some (.struct (Tryz.prog.fieldsOf 39)) := by kernel_rfl
theorem Tryz.heldAddr : Tryz.prog.stoodInHeld 39 = false := by kernel_rfl
theorem Tryz.listAddr : (Tryz.prog.fieldsOf 39).toList.map (fun f => (f.name == "_", f.type, f.offset)) = [(false, 4, 0), (false, 37, 1)] := by kernel_rfl
theorem Tryz.guardAddr : Tryz.prog.eqGuardType Tryz.prog.depth 39 = false := by kernel_rfl
theorem Tryz.guardArr : Tryz.prog.eqGuardType Tryz.prog.depth 37 = false := by kernel_rfl
theorem adr_extract (s : Bool) (x : List Int) (hx : x.length = 16) : (adr s x).extract 1 (1 + 16) = arr .u8 x := by
  simp only [adr, arr, List.extract_toArray, List.extract_eq_take_drop]
  simp [hx, List.take_of_length_le]
theorem equalIn_adr (d : Nat) (s t : Bool) (x y : List Int) (hx : x.length = 16) (hy : y.length = 16) (w : World) :
    (Op.equalIn (d + 3) 39 (.agg (adr s x)) (.agg (adr t y))).run Tryz.prog w = .ok (s == t && x == y) w := by
  rw [run_equalIn_struct w (d + 2) 39 _ _ Tryz.fieldsAddr Tryz.heldAddr]
  have hl := Tryz.listAddr
  generalize (Tryz.prog.fieldsOf 39).toList = l at hl ⊢
  have h2 : l.length = 2 := by simpa using congrArg List.length hl
  obtain ⟨f, g, rfl⟩ : ∃ f g, l = [f, g] := by
    cases l with
    | nil => simp at h2
    | cons f l =>
      cases l with
      | nil => simp at h2
      | cons g l =>
        cases l with
        | nil => exact ⟨f, g, rfl⟩
        | cons _ _ => simp at h2
  simp only [List.map_cons, List.map_nil, List.cons.injEq, Prod.mk.injEq, and_true, beq_eq_false_iff_ne] at hl
  obtain ⟨⟨f1, f2, f3⟩, g1, g2, g3⟩ := hl
  have p1 : ∀ (s : Bool) x, (part 4 (adr s x) 0).run Tryz.prog w = .ok (.bool s) w := fun s x => by simp [part, isAgg, run_underlying Tryz.underlying4, adr_zero]
  have p2 : ∀ (s : Bool) x, x.length = 16 → (part 37 (adr s x) 1).run Tryz.prog w = .ok (.agg (arr .u8 x)) w := fun s x h => by
    simp only [part, isAgg, Sem.run_bind, run_underlying Tryz.underlying37, Result.andThen_ok, Sem.run_pure, if_true, Tryz.sizeArr, adr_extract s x h]
  have e1 := run_equalIn_bool' (P := Tryz.prog) w (d + 1) 4 s t Tryz.underlying4
  have e2 := run_equalIn_ints w d 37 5 .u8 16 Tryz.underlying37 Tryz.underlying5 Tryz.size5 x y hx hy
  rw [Op.eqFields, if_pos f1, f2, f3]
  simp only [Sem.run_bind, p1, Result.andThen_ok, e1, Sem.run_ite, Sem.run_pure]
  by_cases hst : (!(s == t)) = true
  · rw [if_pos hst]
    have : (s == t) = false := by simpa using hst
    rw [this]
    rfl
  · rw [if_neg hst]
    have : (s == t) = true := by simpa using hst
    rw [this, Op.eqFields, if_pos g1, g2, g3]
    rw [Sem.run_bind, p2 s x hx, Result.andThen_ok, Sem.run_bind, p2 t y hy, Result.andThen_ok, Sem.run_bind, e2, Result.andThen_ok, Sem.run_ite, Bool.true_and]
    by_cases hxy : (!(x == y)) = true
    · rw [if_pos hxy]
      have : (x == y) = false := by simpa using hxy
      rw [this, Sem.run_pure]
    · rw [if_neg hxy]
      have : (x == y) = true := by simpa using hxy
      rw [this, Op.eqFields, Sem.run_pure]
theorem eql_adr (s t : Bool) (x y : List Int) (hx : x.length = 16) (hy : y.length = 16) (w : World) :
    (binOp .eql 39 (.agg (adr s x)) (.agg (adr t y))).run Tryz.prog w = .ok (.bool (s == t && x == y)) w := by
  rw [run_eql_struct, equalIn_adr 9997 s t x y hx hy]
  rfl
theorem eql_arr (x y : List Int) (hx : x.length = 16) (hy : y.length = 16) (w : World) :
    (binOp .eql 37 (.agg (arr .u8 x)) (.agg (arr .u8 y))).run Tryz.prog w = .ok (.bool (x == y)) w := by
  rw [run_eql_struct, run_equalIn_ints w 9998 37 5 .u8 16 Tryz.underlying37 Tryz.underlying5 Tryz.size5 x y hx hy]
  rfl
theorem Tryz.fieldsPoint : Tryz.prog.underlying 41 = some (.struct (Tryz.prog.fieldsOf 41)) := by kernel_rfl
theorem Tryz.heldPoint : Tryz.prog.stoodInHeld 41 = false := by kernel_rfl
theorem Tryz.listPoint : (Tryz.prog.fieldsOf 41).toList.map (fun f => (f.name == "_", f.type, f.offset)) = [(false, 39, 0), (false, 3, 17)] := by kernel_rfl
theorem equalIn_pnt (d : Nat) (s t : Bool) (x y : List Int) (n m : Int) (hx : x.length = 16) (hy : y.length = 16) (w : World) :
    (Op.equalIn (d + 4) 41 (.agg (pnt s x n)) (.agg (pnt t y m))).run Tryz.prog w = .ok ((s == t && x == y) && n == m) w := by
  rw [run_equalIn_struct w (d + 3) 41 _ _ Tryz.fieldsPoint Tryz.heldPoint]
  have hl := Tryz.listPoint
  generalize (Tryz.prog.fieldsOf 41).toList = l at hl ⊢
  have h2 : l.length = 2 := by simpa using congrArg List.length hl
  obtain ⟨f, g, rfl⟩ : ∃ f g, l = [f, g] := by
    cases l with
    | nil => simp at h2
    | cons f l =>
      cases l with
      | nil => simp at h2
      | cons g l =>
        cases l with
        | nil => exact ⟨f, g, rfl⟩
        | cons _ _ => simp at h2
  simp only [List.map_cons, List.map_nil, List.cons.injEq, Prod.mk.injEq, and_true, beq_eq_false_iff_ne] at hl
  obtain ⟨⟨f1, f2, f3⟩, g1, g2, g3⟩ := hl
  have p1 : ∀ (s : Bool) x n, x.length = 16 → (part 39 (pnt s x n) 0).run Tryz.prog w = .ok (.agg (adr s x)) w := fun s x n h => by
    simp only [part, isAgg, Sem.run_bind, run_underlying Tryz.fieldsAddr, Result.andThen_ok, Sem.run_pure, if_true, Tryz.sizeAddr, pnt_extract s x n h]
  have p2 : ∀ (s : Bool) x n, x.length = 16 → (part 3 (pnt s x n) 17).run Tryz.prog w = .ok (.int .i64 n) w := fun s x n h => by
    simp [part, isAgg, run_underlying Tryz.underlying3, pnt_port s x n h]
  have e1 := equalIn_adr d s t x y hx hy w
  have e2 : (Op.equalIn (d + 3) 3 (.int .i64 n) (.int .i64 m)).run Tryz.prog w = .ok (n == m) w := by
    simp [Op.equalIn, run_underlying Tryz.underlying3, go_sem]
  rw [Op.eqFields, if_pos f1, f2, f3]
  simp only [Sem.run_bind, p1 s x n hx, p1 t y m hy, Result.andThen_ok, e1, Sem.run_ite, Sem.run_pure]
  by_cases hst : (!(s == t && x == y)) = true
  · rw [if_pos hst]
    have : (s == t && x == y) = false := by cases hh : (s == t && x == y) <;> simp_all
    rw [this]
    rfl
  · rw [if_neg hst]
    have : (s == t && x == y) = true := by cases hh : (s == t && x == y) <;> simp_all
    rw [this, Op.eqFields, if_pos g1, g2, g3]
    rw [Sem.run_bind, p2 s x n hx, Result.andThen_ok, Sem.run_bind, p2 t y m hy, Result.andThen_ok, Sem.run_bind, e2, Result.andThen_ok, Sem.run_ite, Bool.true_and]
    by_cases hxy : (!(n == m)) = true
    · rw [if_pos hxy]
      have : (n == m) = false := by simpa using hxy
      rw [this, Sem.run_pure]
    · rw [if_neg hxy]
      have : (n == m) = true := by simpa using hxy
      rw [this, Op.eqFields, Sem.run_pure]
theorem eql_pnt (s t : Bool) (x y : List Int) (n m : Int) (hx : x.length = 16) (hy : y.length = 16) (w : World) :
    (binOp .eql 41 (.agg (pnt s x n)) (.agg (pnt t y m))).run Tryz.prog w = .ok (.bool ((s == t && x == y) && n == m)) w := by
  rw [run_eql_struct, equalIn_pnt 9996 s t x y n m hx hy]
  rfl
section
variable {P : Program}
end
section
variable {P : Program} {ops : Array Oper} {a : Act} {w : World} {o : Oper}
theorem exec_geq (t t' : TypeId) (x y : Operand) (ho : o.op = .binOp .geq t x y t') (n m : Int) (hx : a.eval x = .int .i64 n) (hy : a.eval y = .int .i64 m) (b : Bool) (h : decide (n ≥ m) = b) :
    (execOp a.eval o).run P w = .ok (.value (.bool b)) w := by
  subst h
  unfold execOp
  simp only [ho, hx, hy, eqGuard, binOp]
  simp [go_sem]
theorem exec_leq (t t' : TypeId) (x y : Operand) (ho : o.op = .binOp .leq t x y t') (n m : Int) (hx : a.eval x = .int .i64 n) (hy : a.eval y = .int .i64 m) (b : Bool) (h : decide (n ≤ m) = b) :
    (execOp a.eval o).run P w = .ok (.value (.bool b)) w := by
  subst h
  unfold execOp
  simp only [ho, hx, hy, eqGuard, binOp]
  simp [go_sem]
end
end Go.Proofs.YtahconkjhneogaaGreatDoor
