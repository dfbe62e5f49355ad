/-
  The walk of the law OctetsBack.
-/
import Derived.Test.YtapehpcipnbpgaaDoorEnc
namespace Go.Proofs.YtapehpcipnbpgaaDoor
open Go.RowKit

def IsTrue (w : World) (e : Ending) (w' : World) : Prop := e = .returned (.bool true) ∧ Below w.heap.size w w'

set_option maxRecDepth 100000 in
set_option maxHeartbeats 2000000 in
theorem back_walk (l : List Int) (ts : List ByteArray) (b : Bool) (a0 a1 : Option Addr) (n0 c0 n1 c1 : Nat) (a : Nat → Addr) (w : World) (hE : Errs 4 a w)
    (hl : IntsAt w a0 n0 l) (ht : TextsAt w a1 n1 ts) (h0 : n0 ≤ 20) (h1 : n1 ≤ 20) :
    Calls Tryd.prog 4 #[.slice a0 n0 c0, .slice a1 n1 c1, .bool b] w (IsTrue w) := by
  have HE := Lib.hid hE
  have HL := Lib.hid hl
  have HT := Lib.hid ht
  clear hE hl ht
  have d0 : decide ((20 : Int) < (n0 : Int)) = false := by simp; omega
  have d1 : decide ((20 : Int) < (n1 : Int)) = false := by simp; omega
  obtain ⟨i0, hi, hz0, hz1, hz2⟩ := info_parts Tryd.info5
  go_enter Tryd.func4, Tryd.ntmps4
  go_wp2_with fail
  refine (alive_any w).mono ?_
  rintro e w1 ⟨rfl, hb1⟩
  go_wp2_with fail
  refine (flag_any b w1).mono ?_
  rintro e w2 ⟨rfl, ho2, hb2⟩
  have HB2 := Lib.hid (hb1.trans (hb2.mono hb1.size))
  have HO2 : Hid (Out w.heap.size w2 (.slice (some ⟨w1.heap.size, 0, none⟩) 1 1) (allBytes b l 0 ts 0)) := by
    refine ⟨w1.heap.size, 1, by simp [allBytes, encAt, txtAt], ?_⟩
    refine ⟨ho2.1, ?_⟩
    rcases ho2.2 with ⟨h, _⟩ | ⟨g, cap, cur, h, h2, h3⟩
    · cases h
    · exact .inr ⟨g, cap, cur, h, Nat.le_trans hb1.size h2, h3⟩
  clear ho2 hb1 hb2
  go_wp2_with fail
  go_loopw [7, 35] (fun v i wr => ∃ k : Nat, k ≤ n0 ∧ i = .int .i64 k ∧ Out w.heap.size wr v (allBytes b l k ts 0) ∧ Below w.heap.size w wr ∧ ∀ j, j < k → Good (l.getD j 0) (1 + j % 8)) (fun _ i _ => n0 - (intOf i).toNat)
  case atStart => exact ⟨0, Nat.zero_le _, rfl, HO2.out, HB2.out, fun j hj => by omega⟩
  case round =>
    obtain ⟨k, hk, rfl, ho, hb, hg⟩ := hrel
    have HO := Lib.hid ho
    have HB := Lib.hid hb
    have HG := Lib.hid hg
    clear ho hb hg HO2 HB2
    by_cases hlt : k < n0
    · obtain ⟨bb, off, rfl, hc⟩ := HL.out k hlt
      have hck := cell_kept HB.out hc
      clear hc
      obtain ⟨x, hx⟩ : ∃ x, l.getD k 0 = x := ⟨_, rfl⟩
      rw [hx] at hck
      have HX := Lib.hid hx
      clear hx
      by_cases hgood : Good x (1 + k % 8)
      · have HGd := Lib.hid hgood
        clear hgood
        obtain ⟨bs, hbs⟩ : ∃ bs, allBytes b l k ts 0 = bs := ⟨_, rfl⟩
        have hbl : 0 < bs.length ∧ bs.length ≤ 1000 := by
          have := encAt_length l k
          rw [← hbs, all_length]
          simp [txtAt]; omega
        have hbx : allBytes b l (k + 1) ts 0 = bs ++ be x.toNat (1 + k % 8) := by
          rw [← hbs, ← HX.out]; simp [allBytes, encAt, txtAt]
        rw [hbs] at HO
        have HBX := Lib.hid hbx
        clear hbs hbx
        obtain ⟨g, cap, rfl, -⟩ := HO.out
        go_wp2_with fail
        rw [show (1 + (k : Int) % 8) = ((1 + k % 8 : Nat) : Int) by omega]
        refine (octNum_yes x (1 + k % 8) wr (by omega) (by omega) HGd.out).mono ?_
        rintro e w3 ⟨rfl, ho3, hb3⟩
        have HO3 := Lib.hid (HO.out.below hb3)
        have hsz := HB.out.size
        have hsz3 := hb3.size
        have HB3 := Lib.hid hb3
        have HW3 := Lib.hid ho3
        clear hb3 ho3
        go_wp2_with (at_builtin; refine wpList_append_own _ rfl (.tmp 53) (.tmp 54) 23 rfl w.heap.size 5 i0 (.int .u8 0) 1 1 Tryd.underlying23 hi hz0 hz1 hz2 rfl (by decide) _ bs.length (bs.map (Value.int .u8)) rfl ?d1 ⟨wr.heap.size, 0, none⟩ (1 + k % 8) (1 + k % 8) ((be x.toNat (1 + k % 8)).map (Value.int .u8)) rfl ?d2 ?d3 (ints_oneCell _ _) ?d4 ?d5 ?d6 ?_; rotate_right; intro v' w4 hown hgrow _)
        case d1 => obtain ⟨g', cap', hv, hw⟩ := HO3.out; cases hv; exact hw
        case d2 => simp [be_length]
        case d3 => exact HW3.out.cells rfl
        case d4 => unfold maxLen; omega
        case d5 => omega
        case d6 => omega
        have hap := HO3.out.appended (v' := v') (w' := w4) (xs := be x.toNat (1 + k % 8)) hbl.1 (by omega) (by rw [be_length]; exact hown) hgrow
        rw [← HBX.out] at hap
        have HAP := Lib.hid hap
        clear hap hown hgrow
        go_wp2
        go_roundw
        case rel =>
          refine ⟨k + 1, by omega, by go_num, HAP.out.1, HB.out.trans ((HB3.out.mono hsz).trans HAP.out.2), fun j hj => ?_⟩
          by_cases hjk : j = k
          · subst hjk; rw [HX.out]; exact HGd.out
          · exact HG.out j (by omega)
        case measure => simp [intOf]; omega
      · have HEr := Lib.hid ((HE.out.below HB.out).cell 0 (by omega))
        go_wp2_with fail
        rw [show (1 + (k : Int) % 8) = ((1 + k % 8 : Nat) : Int) by omega]
        refine (octNum_no x (1 + k % 8) wr _ HEr.out (by omega) (by omega) hgood).mono ?_
        rintro e w3 ⟨rfl, hb3⟩
        go_wp2
        go_ret
        exact ⟨rfl, HB.out.trans (hb3.mono HB.out.size)⟩
    · obtain rfl : n0 = k := by omega
      clear hlt hk
      go_wp2_with fail
      go_loopw [7, 59] (fun v i wr => ∃ k : Nat, k ≤ n1 ∧ i = .int .i64 k ∧ Out w.heap.size wr v (allBytes b l n0 ts k) ∧ Below w.heap.size w wr ∧ ∀ j, j < k → (ts.getD j ByteArray.empty).size ≤ 255) (fun _ i _ => n1 - (intOf i).toNat)
      case atStart => exact ⟨0, Nat.zero_le _, rfl, HO.out, HB.out, fun j hj => by omega⟩
      case round =>
        obtain ⟨k, hk, rfl, ho, hb, hs⟩ := hrel
        have HO' := Lib.hid ho
        have HB' := Lib.hid hb
        have HS := Lib.hid hs
        clear ho hb hs HO HB
        by_cases hlt : k < n1
        · obtain ⟨bb, off, rfl, hc⟩ := HT.out k hlt
          have hck := cell_kept HB'.out hc
          clear hc
          obtain ⟨t, hx⟩ : ∃ t, ts.getD k ByteArray.empty = t := ⟨_, rfl⟩
          rw [hx] at hck
          have HX := Lib.hid hx
          clear hx
          by_cases h300 : 300 < t.size
          · go_wp2
            go_ret
            exact ⟨rfl, HB'.out⟩
          · by_cases h255 : 255 < t.size
            · have HEr := Lib.hid ((HE.out.below HB'.out).cell 2 (by omega))
              go_wp2_with fail
              refine (text_long t wr _ HEr.out (by unfold maxLen; omega) h255).mono ?_
              rintro e w3 ⟨rfl, hb3⟩
              go_wp2
              go_ret
              exact ⟨rfl, HB'.out.trans (hb3.mono HB'.out.size)⟩
            · obtain ⟨bs, hbs⟩ : ∃ bs, allBytes b l n0 ts k = bs := ⟨_, rfl⟩
              have hbl : 0 < bs.length ∧ bs.length ≤ 6000 := by
                have := encAt_length l n0
                have := txtAt_length ts k HS.out
                rw [← hbs, all_length]
                omega
              have hbx : allBytes b l n0 ts (k + 1) = bs ++ ((t.size : Int) :: txt t) := by
                rw [← hbs, ← HX.out]; simp only [allBytes, txtAt, List.append_assoc]
              rw [hbs] at HO'
              have HBX := Lib.hid hbx
              clear hbs hbx
              obtain ⟨g, cap, rfl, -⟩ := HO'.out
              go_wp2_with fail
              refine (text_short t wr (by omega)).mono ?_
              rintro e w3 ⟨g3, cap3, rfl, ho3, hb3⟩
              have HO3 := Lib.hid (HO'.out.below hb3)
              have hsz := HB'.out.size
              have hsz3 := hb3.size
              have HB3 := Lib.hid hb3
              have HW3 := Lib.hid ho3
              clear hb3 ho3
              go_wp2_with (at_builtin; refine wpList_append_own _ rfl (.tmp 76) (.tmp 77) 23 rfl w.heap.size 5 i0 (.int .u8 0) 1 1 Tryd.underlying23 hi hz0 hz1 hz2 rfl (by decide) _ bs.length (bs.map (Value.int .u8)) rfl ?e1 ⟨g3, 0, none⟩ (1 + t.size) cap3 (((t.size : Int) :: txt t).map (Value.int .u8)) rfl ?e2 ?e3 (ints_oneCell _ _) ?e4 ?e5 ?e6 ?_; rotate_right; intro v' w4 hown hgrow _)
              case e1 => obtain ⟨g', cap', hv, hw⟩ := HO3.out; cases hv; exact hw
              case e2 => simp [txt_length]; omega
              case e3 => exact HW3.out.cells rfl
              case e4 => unfold maxLen; omega
              case e5 => omega
              case e6 => omega
              have hap := HO3.out.appended (v' := v') (w' := w4) (xs := (t.size : Int) :: txt t) hbl.1 (by omega) (by rw [List.length_cons, txt_length, Nat.add_comm t.size 1]; exact hown) hgrow
              rw [← HBX.out] at hap
              have HAP := Lib.hid hap
              clear hap hown hgrow
              go_wp2
              go_roundw
              case rel =>
                refine ⟨k + 1, by omega, by go_num, HAP.out.1, HB'.out.trans ((HB3.out.mono hsz).trans HAP.out.2), fun j hj => ?_⟩
                by_cases hjk : j = k
                · subst hjk; rw [HX.out]; omega
                · exact HS.out j (by omega)
              case measure => simp [intOf]; omega
        · obtain rfl : n1 = k := by omega
          clear hlt hk
          obtain ⟨bs, hbs⟩ : ∃ bs, allBytes b l n0 ts n1 = bs := ⟨_, rfl⟩
          have hbl : 0 < bs.length ∧ bs.length ≤ 6000 := by
            have := encAt_length l n0
            have := txtAt_length ts n1 HS.out
            rw [← hbs, all_length]
            omega
          have HBy := Lib.hid (all_bounds b l n0 ts n1 HS.out)
          rw [hbs] at HO' HBy
          have HBS := Lib.hid hbs
          clear hbs
          obtain ⟨g, cap, rfl, ho⟩ := HO'.out
          have HW := Lib.hid ho
          clear ho
          go_wp2_with fail
          refine (at_any HW.out hbl.1 (by omega) HBy.out).mono ?_
          rintro e w5 ⟨c, g5, cap5, rfl, hcur, hb5⟩
          have HB5 := Lib.hid (HB'.out.trans (hb5.mono HB'.out.size))
          have HC5 : Hid (Cur w5 w.heap.size c g5 cap5 bs 0) := ⟨hcur.obj, ⟨hcur.row.1, by
            rcases hcur.row.2 with ⟨h, _⟩ | ⟨g', cap', cur, h, h2, h3⟩
            · cases h
            · exact .inr ⟨g', cap', cur, h, Nat.le_trans HB'.out.size h2, h3⟩⟩, Nat.le_trans HB'.out.size hcur.low, hcur.most, hcur.byte⟩
          clear hcur hb5 HB' HO' HW
          go_wp2_with fail
          refine (readFlag HC5.out b hbl.1 (by rw [← HBS.out]; simp [allBytes])).mono ?_
          rintro e w6 ⟨rfl, hcur, hb6⟩
          have HB6 := Lib.hid (HB5.out.trans hb6)
          have HC6 := Lib.hid hcur
          clear hcur hb6 HB5 HC5
          go_wp2_with fail
          go_loopw [92] (fun i wr => ∃ k : Nat, k ≤ n0 ∧ i = .int .i64 k ∧ Cur wr w.heap.size c g5 cap5 bs (1 + (encAt l k).length) ∧ Below w.heap.size w wr) (fun i _ => n0 - (intOf i).toNat)
          case atStart => exact ⟨0, Nat.zero_le _, rfl, HC6.out, HB6.out⟩
          case round =>
            obtain ⟨k, hk, rfl, hcur, hb⟩ := hrel
            have HC := Lib.hid hcur
            have HB := Lib.hid hb
            clear hcur hb HC6 HB6
            by_cases hlt : k < n0
            · obtain ⟨bb, off, rfl, hc⟩ := HL.out k hlt
              have hck := cell_kept HB.out hc
              clear hc
              have hgd := HG.out k hlt
              obtain ⟨r, hr⟩ := all_num b l n0 ts n1 k hlt
              have hnext : 1 + (encAt l (k + 1)).length = 1 + (encAt l k).length + (1 + k % 8) := by simp [encAt, be_length]; omega
              obtain ⟨x, hx⟩ : ∃ x, l.getD k 0 = x := ⟨_, rfl⟩
              rw [hx] at hck hgd hr
              rw [HBS.out] at hr
              have HR := Lib.hid hr
              have HN := Lib.hid hnext
              have HGd := Lib.hid hgd
              clear hx hr hnext hgd
              obtain ⟨m, rfl⟩ : ∃ m : Nat, x = m := ⟨x.toNat, by have := HGd.out.1; omega⟩
              go_wp2_with fail
              rw [show (1 + (k : Int) % 8) = ((1 + k % 8 : Nat) : Int) by omega]
              refine (readNum HC.out m (1 + k % 8) r (by omega) (by omega) (by have := HGd.out.2.1; omega) (by simpa using HGd.out.2.2) (by simpa using HR.out)).mono ?_
              rintro e w7 ⟨rfl, hcur, hb7⟩
              rw [← HN.out] at hcur
              have HC7 := Lib.hid hcur
              have HB7 := Lib.hid (HB.out.trans hb7)
              clear hcur hb7
              go_wp2
              go_roundw
              case rel => exact ⟨k + 1, by omega, by go_num, HC7.out, HB7.out⟩
              case measure => simp [intOf]; omega
            · obtain rfl : n0 = k := by omega
              clear hlt hk
              go_wp2_with fail
              go_loopw [107] (fun i wr => ∃ k : Nat, k ≤ n1 ∧ i = .int .i64 k ∧ Cur wr w.heap.size c g5 cap5 bs (1 + (encAt l n0).length + (txtAt ts k).length) ∧ Below w.heap.size w wr) (fun i _ => n1 - (intOf i).toNat)
              case atStart => exact ⟨0, Nat.zero_le _, rfl, HC.out, HB.out⟩
              case round =>
                obtain ⟨k, hk, rfl, hcur, hb⟩ := hrel
                have HC' := Lib.hid hcur
                have HB' := Lib.hid hb
                clear hcur hb HC HB
                by_cases hlt : k < n1
                · obtain ⟨bb, off, rfl, hc⟩ := HT.out k hlt
                  have hck := cell_kept HB'.out hc
                  clear hc
                  have hsz := HS.out k hlt
                  obtain ⟨r, hr⟩ := all_txt b l n0 ts n1 k hlt
                  have hnext : 1 + (encAt l n0).length + (txtAt ts (k + 1)).length = 1 + (encAt l n0).length + (txtAt ts k).length + (1 + (ts.getD k ByteArray.empty).size) := by
                    simp only [txtAt, List.length_append, List.length_cons, txt_length]; omega
                  obtain ⟨t, hx⟩ : ∃ t, ts.getD k ByteArray.empty = t := ⟨_, rfl⟩
                  rw [hx] at hck hsz hr hnext
                  rw [HBS.out] at hr
                  have HR := Lib.hid hr
                  have HN := Lib.hid hnext
                  clear hx hr hnext
                  go_wp2_with fail
                  refine (readText HC'.out t r hsz HR.out).mono ?_
                  rintro e w7 ⟨rfl, hcur, hb7⟩
                  rw [← HN.out] at hcur
                  have HC7 := Lib.hid hcur
                  have HB7 := Lib.hid (HB'.out.trans hb7)
                  clear hcur hb7
                  go_wp2
                  go_roundw
                  case rel => exact ⟨k + 1, by omega, by go_num, HC7.out, HB7.out⟩
                  case measure => simp [intOf]; omega
                · obtain rfl : n1 = k := by omega
                  clear hlt hk
                  have hall : 1 + (encAt l n0).length + (txtAt ts n1).length = bs.length := by rw [← HBS.out, all_length]
                  rw [hall] at HC'
                  clear hall
                  go_wp2_with fail
                  refine (end_any HC'.out).mono ?_
                  rintro e w8 ⟨rfl, q1, rfl⟩
                  go_wp2_with fail
                  refine (left_any (HC'.out.drewN q1) (Nat.le_refl _)).mono ?_
                  rintro e w8 ⟨rfl, q2, rfl⟩
                  rw [Int.sub_self]
                  go_wp2_with fail
                  refine (place_any (HC'.out.drewN (q1 + q2))).mono ?_
                  rintro e w8 ⟨rfl, rfl⟩
                  go_wp2
                  go_ret
                  exact ⟨rfl, HB'.out.trans (below_drewN' _ _ _)⟩
end Go.Proofs.YtapehpcipnbpgaaDoor
