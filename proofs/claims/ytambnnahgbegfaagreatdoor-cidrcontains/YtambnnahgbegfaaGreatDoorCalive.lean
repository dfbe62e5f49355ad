/-
  The walk of alive of layer 3: the chapter's example.
-/
import Derived.Test.YtambnnahgbegfaaGreatDoorCparse
namespace Go.Proofs.YtambnnahgbegfaaGreatDoor
open Go.RowKit

abbrev tenB : List Nat := [10, 0, 0, 0, 0, 0, 0, 0, 0, 0, 0, 0, 0, 0, 0, 0]
abbrev tenA : List Nat := [10, 1, 2, 3, 0, 0, 0, 0, 0, 0, 0, 0, 0, 0, 0, 0]
abbrev tenS : ByteArray := ⟨#[49, 48, 46, 48, 46, 48, 46, 48, 47, 56]⟩

theorem ten_parsed : parsed [49, 48, 46, 48, 46, 48, 46, 48] = some (false, ints tenB) := by decide +kernel
theorem ten_text : text4 tenB = [49, 48, 46, 48, 46, 48, 46, 48] := by decide +kernel
theorem ten_cut : Lib.cut [49, 48, 46, 48, 46, 48, 46, 48, 47, 56] [47] = ([49, 48, 46, 48, 46, 48, 46, 48], [56], true) := by decide +kernel
theorem ten_fig : Lib.parseUintB 8 [56] = .ok 8 := by decide +kernel
theorem ten_flat : flat (ints tenB) = true := by decide +kernel
theorem ten_flatA : flat (ints tenA) = true := by decide +kernel
theorem ten_of : ofC false tenB 8 .nilIface .nilIface = #[.agg (cid false (ints tenB) 8), .nilIface] := by
  unfold ofC
  rw [if_pos (by rw [ten_flat]; rfl), if_pos (by decide)]
  rw [show cutTo tenB 8 16 = tenB by decide +kernel]
theorem ten_cont : contC false tenB 8 false tenA = true := by
  unfold contC
  rw [ten_flatA, show cutTo tenA 8 16 = tenB by decide +kernel]
  decide
theorem ten_right : contC false tenB 8 false tenB = true := by
  unfold contC
  rw [ten_flat, show cutTo tenB 8 16 = tenB by decide +kernel]
  decide
theorem ten_dec : decb 8 = ⟨#[56]⟩ := by decide +kernel

theorem cut_slash (s : ByteArray) (hs : s.size ≤ 1000) (E : Value) (w : World) (hE : Env E w) :
    Calls Tryz.prog 58 #[.string s, .string ⟨#[47]⟩] w fun e w' => e = .returned (.tuple #[.string ⟨(Lib.cut s.data.toList [47]).1.toArray⟩, .string ⟨(Lib.cut s.data.toList [47]).2.1.toArray⟩, .bool (Lib.cut s.data.toList [47]).2.2]) ∧ Below w.heap.size w w' := by
  obtain ⟨m, hm⟩ := hE.max
  refine (Tryz.strings_Cut s ⟨#[47]⟩ m w (by omega) hm).mono ?_
  rintro e w' ⟨rfl, n, rfl⟩
  exact ⟨rfl, below_drewN w n⟩

theorem ten_bytes : ∀ x ∈ tenB, x < 256 := by decide
theorem ten_bytesA : ∀ x ∈ tenA, x < 256 := by decide

theorem ten_parse (E : Value) (u u' : TypeId) (p p' : Value) (w : World) (hE : Env E w) (hE3 : Env3 (.iface u p) (.iface u' p') w) :
    Calls Tryz.prog 24 #[.string tenS] w fun e w' => e = .returned (.tuple #[.agg (cid false (ints tenB) 8), .nilIface]) ∧ Below w.heap.size w w' := by
  refine cparse_good tenS ⟨#[49, 48, 46, 48, 46, 48, 46, 48]⟩ ⟨#[56]⟩ false (ints tenB) (by decide) 8 E _ _ w hE hE3 (fun w hE => ?_) (fun w hE => ?_) (fun w hE => ?_) (fun w hE => ?_)
  · have := cut_slash tenS (by decide) E w hE
    rw [show tenS.data.toList = [49, 48, 46, 48, 46, 48, 46, 48, 47, 56] from rfl, ten_cut] at this
    exact this
  · have := parse_any ⟨#[49, 48, 46, 48, 46, 48, 46, 48]⟩ (by decide) E w hE
    rw [show (⟨#[49, 48, 46, 48, 46, 48, 46, 48]⟩ : ByteArray).data.toList = [49, 48, 46, 48, 46, 48, 46, 48] from rfl, ten_parsed] at this
    exact this
  · exact figures_good ⟨#[56]⟩ (by decide) 8 ten_fig (by decide) (by decide) w
  · have := of_any false tenB (by decide) ten_bytes 8 (.iface u p) (.iface u' p') w hE
    rw [show ofC false tenB 8 (.iface u p) (.iface u' p') = #[.agg (cid false (ints tenB) 8), .nilIface] by
      unfold ofC
      rw [if_pos (by rw [ten_flat]; rfl), if_pos (by decide), show cutTo tenB 8 16 = tenB by decide +kernel]] at this
    exact this

theorem ten_format (E : Value) (u u' : TypeId) (p p' : Value) (w : World) (hE : Env E w) (hE3 : Env3 (.iface u p) (.iface u' p') w) :
    Calls Tryz.prog 28 #[.agg (cid false (ints tenB) 8)] w fun e w' => e = .returned (.string tenS) ∧ Below w.heap.size w w' := by
  refine cformat_good false (ints tenB) (by decide) 8 ⟨#[49, 48, 46, 48, 46, 48, 46, 48]⟩ ⟨#[49, 48, 46, 48, 46, 48, 46, 48, 47]⟩ ⟨#[56]⟩ tenS E _ _ w hE hE3 (fun w hE => ?_) (fun w hE => ?_) (fun w hE => ?_) (fun w => ?_) (fun w => ?_)
  · have := cright_any false tenB (by decide) ten_bytes 8 u u' p p' w hE
    rw [ten_right] at this
    exact this
  · have := format_four tenB (by decide) ten_bytes ten_flat E w hE
    rw [ten_text] at this
    exact this
  · have := itoa_any 8 (by decide) E w hE
    rw [ten_dec] at this
    exact this
  · exact run_string_add_lists w [49, 48, 46, 48, 46, 48, 46, 48] [47] (by decide) (by decide)
  · exact run_string_add_lists w [49, 48, 46, 48, 46, 48, 46, 48, 47] [56] (by decide) (by decide)

set_option maxRecDepth 100000 in
set_option maxHeartbeats 4000000 in
theorem alive3_any (E : Value) (u u' : TypeId) (p p' : Value) (w : World) (hE : Env E w) (hE3 : Env3 (.iface u p) (.iface u' p') w) :
    Calls Tryz.prog 23 #[] w fun e w' => e = .returned (.bool true) ∧ Below w.heap.size w w' := by
  have HE := Lib.hid hE
  have HE3 := Lib.hid hE3
  have CP := Lib.hid (fun w hE hE3 => ten_parse E u u' p p' w hE hE3)
  have CF := Lib.hid (fun w hE hE3 => ten_format E u u' p p' w hE hE3)
  have CC : Hid (∀ w, Env3 (.iface u p) (.iface u' p') w → Calls Tryz.prog 30 #[.agg (cid false (ints tenB) 8), .agg (adr false (ints tenA))] w fun e w' => e = .returned (.bool true) ∧ Below w.heap.size w w') := Lib.hid fun w hE => by
    have := cont_any false false tenB tenA (by decide) (by decide) ten_bytesA 8 u u' p p' w hE
    rw [ten_cont] at this
    exact this
  have hstr : (tenS.toList == tenS.toList) = true := by simp
  clear hE hE3
  go_enter Tryz.func23, Tryz.ntmps23
  go_wp2_with fail
  refine (CP.out w HE.out HE3.out).mono ?_
  rintro e w2 ⟨rfl, hb2⟩
  obtain ⟨W3, hW3⟩ : ∃ W, W = w2.alloc (.cells (cid false z16 0) 48) := ⟨_, rfl⟩
  have hB3 : Blk W3 w2.heap.size 48 (cid false z16 0) := hW3 ▸ Blk.new w2 _ _
  have hb3 : Below w2.heap.size w2 W3 := hW3 ▸ (Below.refl _ _).alloc (Nat.le_refl _) _
  have HW3 : Hid (w2.alloc (.cells #[.bool false, .int .u8 0, .int .u8 0, .int .u8 0, .int .u8 0, .int .u8 0, .int .u8 0, .int .u8 0, .int .u8 0, .int .u8 0, .int .u8 0, .int .u8 0, .int .u8 0, .int .u8 0, .int .u8 0, .int .u8 0, .int .u8 0, .int .i64 0] 48) = W3) := Lib.hid hW3.symm
  have HB3 := Lib.hid hB3
  obtain ⟨V, hV⟩ : ∃ V, V = W3.setRow w2.heap.size (cid false (ints tenB) 8) := ⟨_, rfl⟩
  have HV := Lib.hid hV.symm
  have HBV : Hid (Blk V w2.heap.size 48 (cid false (ints tenB) 8)) := Lib.hid (hV ▸ hB3.row _)
  have hsz := hb2.size
  have HbV : Hid (Below w.heap.size w V) := Lib.hid (hV ▸ below_setRow (bel2 hb2 hb3) hsz _)
  clear hb2 hW3 hB3 hb3 hV
  go_wp2_with ((try rw [HW3.out]); first | (refine wpl_store 48 _ _ rfl w2.heap.size (cid false (ints tenB) 8) rfl rfl _ _ HB3.out 18 Tryz.infoCidr rfl rfl (cid_one _ _ _) rfl ?_; rw [HV.out]) | (refine wpl_load 48 _ rfl w2.heap.size rfl _ _ _ HBV.out Tryz.underlying48 rfl 18 Tryz.infoCidr rfl rfl ?_))
  refine (CC.out V (HE3.out.kept HbV.out)).mono ?_
  rintro e w4 ⟨rfl, hb4⟩
  have HB4 := Lib.hid (HBV.out.kept hb4)
  have Hb4 := Lib.hid (bel2 HbV.out hb4)
  clear hb4
  go_wp2_with (refine wpl_load 48 _ rfl w2.heap.size rfl _ _ _ HB4.out Tryz.underlying48 rfl 18 Tryz.infoCidr rfl rfl ?_)
  refine (CF.out w4 (HE.out.kept Hb4.out) (HE3.out.kept Hb4.out)).mono ?_
  rintro e w5 ⟨rfl, hb5⟩
  go_wp2
  go_ret
  exact ⟨rfl, bel2 Hb4.out hb5⟩
end Go.Proofs.YtambnnahgbegfaaGreatDoor
