/-
  The walk of the document's Format, of an address of sixteen bytes.
-/
import Derived.Test.YtnfkgoeocebenaaGreatDoorRpure
import Derived.Deep.AppendLies
import Derived.OwnWalk
namespace Go.Proofs.YtnfkgoeocebenaaGreatDoor
open Go.RowKit

theorem Tryz.infoInt : (Tryz.prog.info? 3).map (fun i => (i.zero, i.size, i.bytes)) = some (some (.int .i64 0), 1, 8) := by kernel_rfl

theorem grow_below {B : Nat} {w w' : World} {o : Obj} {row : Option Nat} (hB : B ≤ w.heap.size) (h : (w.alloc o).drew.grownBy w' row) (hr : ∀ k, row = some k → B ≤ k) : Below B w w' := by
  refine Below.grown (w := (w.alloc o).drew) (((Below.refl _ _).alloc hB o).trans ⟨rfl, rfl, rfl, Nat.le_refl _, fun _ _ => rfl⟩) h ?_ hr
  show B ≤ (w.alloc o).heap.size
  simp
  omega

def icells (l : List Nat) : List Value := l.map fun n : Nat => Value.int .i64 n

set_option maxRecDepth 100000 in
set_option maxHeartbeats 4000000 in
theorem rformat_six (B : List Nat) (hl : B.length = 16) (hB : ∀ x ∈ B, x < 256) (w : World) : Calls Tryz.prog 82 #[.agg (adr true (ints B))] w (TextEnd (text6 (gr B)) w) := by
  obtain ⟨W0, hW0⟩ : ∃ W, W = w.alloc (.cells (adr true (ints B)) 24) := ⟨_, rfl⟩
  have hB0 : Blk W0 w.heap.size 24 (adr true (ints B)) := hW0 ▸ Blk.new w _ _
  have hb0 : Below w.heap.size w W0 := hW0 ▸ (Below.refl _ _).alloc (Nat.le_refl _) _
  have HW0 := Lib.hid hW0.symm
  have HB0 := Lib.hid hB0
  have HL17 : Hid (17 = (adr true (ints B)).size) := Lib.hid (by rw [adr_size, ints_length, hl])
  have HR : Hid (∀ w, Calls Tryz.prog 16 #[.agg (adr true (ints B))] w fun e w' => e = .returned (.bool true) ∧ Below w.heap.size w w') := Lib.hid fun w => (refRight_any true (ints B) (by rw [ints_length, hl]) w).mono fun e w' h => ⟨by rw [h.1]; rfl, h.2⟩
  have hgl : ∀ n ∈ gr B, n < 65536 := by
    intro n hn
    simp only [gr, List.mem_map, List.mem_range] at hn
    obtain ⟨i, hi, rfl⟩ := hn
    have h1 : B.getD (2 * i) 0 < 256 := by apply hB; simp [List.getD, List.getElem?_eq_getElem (show 2 * i < B.length by omega)]
    have h2 : B.getD (2 * i + 1) 0 < 256 := by apply hB; simp [List.getD, List.getElem?_eq_getElem (show 2 * i + 1 < B.length by omega)]
    omega
  have HG := Lib.hid hgl
  have HL := Lib.hid hl
  have HBd := Lib.hid hB
  obtain ⟨i0, hi0, hz0, hz1, hz2⟩ := info_parts Tryz.infoInt
  have HI := Lib.hid hi0
  have HZ0 := Lib.hid hz0
  have HZ1 := Lib.hid hz1
  have HZ2 := Lib.hid hz2
  clear hW0 hB0 hl hB hgl hi0 hz0 hz1 hz2
  go_enter Tryz.func82, Tryz.ntmps82
  go_wp2_with ((try rw [HW0.out]); refine wpl_load 24 _ rfl _ rfl _ _ _ HB0.out Tryz.underlying24 rfl 17 Tryz.infoAddr HL17.out rfl ?_)
  refine (HR.out W0).mono ?_
  rintro e w1 ⟨rfl, hb1⟩
  have HB1 := Lib.hid (HB0.out.kept hb1)
  have h0 : w1.cell? ⟨w.heap.size, 0, none⟩ = some (.bool true) := by rw [HB1.out.cell]; rfl
  have hlt1 : w.heap.size < w1.heap.size := HB1.out.lt
  have H2 : Hid (Blk w1 w.heap.size 24 (adr true (ints B)) ∧ Below w.heap.size w w1) := Lib.hid ⟨HB1.out, bel2 hb0 hb1⟩
  go_wp2
  clear h0 hb0 hb1 HB0 HB1 HR HL17 HW0
  obtain ⟨W2, hW2⟩ : ∃ W, W = w1.alloc (.cells #[] 3) := ⟨_, rfl⟩
  have hO : W2.ownsRow (w.heap.size + 1) 3 1 (.slice (some ⟨w1.heap.size, 0, none⟩) 0 0) 0 [] := by rw [hW2]; exact World.ownsRow_made w1 #[] 0 (by omega) (by decide) rfl
  have H3 : Hid (W2.ownsRow (w.heap.size + 1) 3 1 (.slice (some ⟨w1.heap.size, 0, none⟩) 0 0) 0 [] ∧ Blk W2 w.heap.size 24 (adr true (ints B)) ∧ Below w.heap.size w W2) := Lib.hid ⟨hO, hW2 ▸ H2.out.1.alloc _, hW2 ▸ H2.out.2.alloc (by omega) _⟩
  rw [← hW2]
  clear hO H2
  go_loopw [5, 6] (fun v i wr => ∃ k : Nat, k ≤ 8 ∧ i = .int .i64 ((2 * k : Nat) : Int) ∧ Hid ((0 < k → ∃ g c, v = .slice (some ⟨g, 0, none⟩) k c) ∧ wr.ownsRow (w.heap.size + 1) 3 1 v k (icells ((gr B).take k)) ∧ Blk wr w.heap.size 24 (adr true (ints B)) ∧ Below w.heap.size w wr)) (fun _ i _ => 16 - (intOf i).toNat)
  case atStart => exact ⟨0, Nat.zero_le _, rfl, fun h => absurd h (by omega), H3.out⟩
  case round =>
    obtain ⟨k, hk, rfl, hh⟩ := hrel
    clear H3 hW2 hlt1
    obtain ⟨hv, hO, hB0, hb⟩ := hh.out
    by_cases hlt : k < 8
    · obtain ⟨m, hm⟩ : ∃ m, m = 2 * k := ⟨_, rfl⟩
      obtain ⟨a, ha⟩ : ∃ a, a = B.getD m 0 := ⟨_, rfl⟩
      obtain ⟨b, hb'⟩ : ∃ b, b = B.getD (m + 1) 0 := ⟨_, rfl⟩
      have ha8 : a < 256 := by rw [ha]; apply HBd.out; simp [List.getD, List.getElem?_eq_getElem (show m < B.length by rw [HL.out]; omega)]
      have hb8 : b < 256 := by rw [hb']; apply HBd.out; simp [List.getD, List.getElem?_eq_getElem (show m + 1 < B.length by rw [HL.out]; omega)]
      have hc0 : ∀ w', Blk w' w.heap.size 24 (adr true (ints B)) → w'.cell? ⟨w.heap.size, 1 + m, none⟩ = some (.int .u8 (a : Int)) := fun w' h => by
        rw [h.cell, adr_at _ _ _ (by rw [ints_length, HL.out]; omega), nth_ints, ha]
      have hc1 : ∀ w', Blk w' w.heap.size 24 (adr true (ints B)) → w'.cell? ⟨w.heap.size, 1 + (m + 1), none⟩ = some (.int .u8 (b : Int)) := fun w' h => by
        rw [h.cell, adr_at _ _ _ (by rw [ints_length, HL.out]; omega), nth_ints, hb']
      obtain ⟨c, hc⟩ : ∃ c : Nat, c = a * 256 + b := ⟨_, rfl⟩
      have eA : IntKind.i64.wrap (a : Int) = (a : Int) := by simp only [IntKind.wrap, IntKind.signed, IntKind.bits]; simp; omega
      have eB : IntKind.i64.wrap (b : Int) = (b : Int) := by simp only [IntKind.wrap, IntKind.signed, IntKind.bits]; simp; omega
      have e1 : IntKind.i64.wrap ((a : Int) * 256) = (a : Int) * 256 := by simp only [IntKind.wrap, IntKind.signed, IntKind.bits]; simp; omega
      have e2 : IntKind.i64.wrap ((a : Int) * 256 + (b : Int)) = (c : Int) := by simp only [IntKind.wrap, IntKind.signed, IntKind.bits]; simp; omega
      have e3 : IntKind.i64.wrap ((m : Int) + 1) = ((m + 1 : Nat) : Int) := by simp only [IntKind.wrap, IntKind.signed, IntKind.bits]; simp; omega
      have m0 : (0 : Int) ≤ (m : Int) := by omega
      have m1 : (m : Int) < 16 := by omega
      have m2 : ((m + 1 : Nat) : Int) < 16 := by omega
      have m3 : (0 : Int) ≤ ((m + 1 : Nat) : Int) := by omega
      obtain ⟨m', hm'⟩ : ∃ m', m' = m + 1 := ⟨_, rfl⟩
      rw [← hm'] at e3 m2 m3 hc1
      have ht : icells ((gr B).take k) ++ [.int .i64 (c : Int)] = icells ((gr B).take (k + 1)) := by
        rw [gr_take B k hlt, icells, icells, List.map_append, hc, ha, hb', hm]
        rfl
      have HT := Lib.hid ht
      have HM := Lib.hid hm
      have HM' := Lib.hid hm'
      have HO := Lib.hid hO
      have HB0 := Lib.hid hB0
      have Hb := Lib.hid hb
      have hsz : w.heap.size < wr.heap.size := hB0.lt
      have q0 := hc0 wr hB0
      have q1 := hc1 wr hB0
      have n0 := World.new_ne wr _ q0
      have n1 := World.new_ne wr _ q1
      rw [← hm]
      clear ht hm hm' hO hB0 hb hh hv hc ha hb' ha8 hb8 hc0 hc1
      go_wp2_with fail
      go_region_held3 (fun w' => w'.cell? ⟨w.heap.size, 1 + m, none⟩ = some (.int .u8 (a : Int)) ∧ w'.cell? ⟨w.heap.size, 1 + m', none⟩ = some (.int .u8 (b : Int)))
        (first
          | go_keep
          | (go_split_ands
             refine ⟨?_, ?_⟩
             · (rw [hgrow.cell_far _ (by simp; omega) (by intro e; have := (HO.out.lt _ e.symm).1; simp at this; omega)]; assumption)
             · (rw [hgrow.cell_far _ (by simp; omega) (by intro e; have := (HO.out.lt _ e.symm).1; simp at this; omega)]; assumption)))
        ((refine step_append_lies _ (by rfl) _ _ _ (by rfl) (w.heap.size + 1) 3 i0 _ 1 8 Tryz.underlying132 HI.out HZ0.out HZ1.out HZ2.out rfl (by omega) _ k (icells ((gr B).take k)) (by rfl) ((HO.out.alloc _).drew)
            ⟨wr.heap.size, 0, none⟩ 1 1 [.int .i64 (c : Int)] (by rfl) (by rfl) (World.news_of_block (cs := #[.int .i64 (c : Int)]) (t := 3) (fr := (0, 0)) (heap_alloc_new wr _)) (by simp [Value.oneCell'])
            (by omega) (by show k + 1 ≤ maxLen; unfold maxLen; omega) (by omega) (by simp; omega) (wr.heap.size + 1) (by simp) ?_; intro gg cap w3 hown1 hgrow hat hlt3))
      have hbl : Below (w.heap.size + 1) wr w3 := grow_below (by omega) hgrow (fun k hk => (HO.out.lt _ hk).1)
      have hB3 : Blk w3 w.heap.size 24 (adr true (ints B)) := (hbl.block _ (by omega)).trans HB0.out
      have hb3 : Below w.heap.size wr w3 := grow_below (by omega) hgrow (fun k hk => by have := (HO.out.lt _ hk).1; omega)
      rw [HT.out] at hown1
      have HE := Lib.hid (show (0 < k + 1 → ∃ g c', (.slice (some ⟨gg, 0, none⟩) (k + 1) cap : Value) = .slice (some ⟨g, 0, none⟩) (k + 1) c') ∧ w3.ownsRow (w.heap.size + 1) 3 1 (.slice (some ⟨gg, 0, none⟩) (k + 1) cap) (k + 1) (icells ((gr B).take (k + 1))) ∧ Blk w3 w.heap.size 24 (adr true (ints B)) ∧ Below w.heap.size w w3 from ⟨fun _ => ⟨gg, cap, rfl⟩, hown1, hB3, Hb.out.trans hb3⟩)
      clear hown1 hgrow hat hlt3 hbl hB3 hb3
      go_wp2
      go_roundw
      case rel => exact ⟨k + 1, by omega, by have := HM.out; go_num, HE.out⟩
      case measure => have := HM.out; simp [intOf]; omega
    · obtain rfl : k = 8 := by omega
      obtain ⟨gg, cc, rfl⟩ := hv (by omega)
      obtain ⟨g, hg⟩ : ∃ g, g = gr B := ⟨_, rfl⟩
      have h8 : g.length = 8 := by rw [hg, gr_length]
      have hgl : ∀ n ∈ g, n < 65536 := by rw [hg]; exact HG.out
      have hcell : ∀ j, j < 8 → wr.cell? ⟨gg, j, none⟩ = some (.int .i64 ((g.getD j 0 : Nat) : Int)) := fun j hj => by
        have := hO.cells (g := gg) rfl j (.int .i64 ((g.getD j 0 : Nat) : Int)) (by
          rw [← hg, List.take_of_length_le (by omega), icells, List.getElem?_map, List.getElem?_eq_getElem (show j < g.length by omega)]
          simp [List.getD, List.getElem?_eq_getElem (show j < g.length by omega)])
        have hadd : (⟨gg, 0, none⟩ : Addr).add j = ⟨gg, j, none⟩ := by unfold Addr.add; split <;> simp_all
        rwa [hadd] at this
      have HG2 := Lib.hid hg
      have H8 := Lib.hid h8
      have HGl := Lib.hid hgl
      have HC := Lib.hid hcell
      have Hb := Lib.hid hb
      clear hh hv hO hB0 hb hg h8 hgl hcell HI HZ0 HZ1 HZ2 HBd HL
      go_wp2
      go_loop [7, 8, 9] (fun be lo i => ∃ k : Nat, k ≤ 8 ∧ i = .int .i64 k ∧ ∃ b l : Nat, be = .int .i64 b ∧ lo = .int .i64 l ∧ Hid ((b, l) = bl (zeros g) k)) (fun _ _ i => 8 - (intOf i).toNat)
      case atStart => exact ⟨0, by omega, rfl, 0, 1, rfl, rfl, rfl⟩
      case round =>
        obtain ⟨k, hk, rfl, b, l, rfl, rfl, hbl⟩ := hrel
        by_cases hlt : k < 8
        · go_wp2
          go_loop [10] (fun n => ∃ m : Nat, n = .int .i64 m ∧ Hid (k + m ≤ 8 ∧ ∀ j, j < m → g.getD (k + j) 0 = 0)) (fun n => 8 - (intOf n).toNat)
          case atStart => exact ⟨0, rfl, by omega, fun j hj => absurd hj (by omega)⟩
          case round =>
            obtain ⟨m, rfl, hm⟩ := hrel
            obtain ⟨p, hp⟩ : ∃ p : Nat, p = k + m := ⟨_, rfl⟩
            have hm8 := hm.out.1
            have e1 : IntKind.i64.wrap ((k : Int) + (m : Int)) = (p : Int) := by simp only [IntKind.wrap, IntKind.signed, IntKind.bits]; simp; omega
            by_cases hp8 : p < 8
            · have p0 : (0 : Int) ≤ (p : Int) := by omega
              have p1 : (p : Int) < 8 := by omega
              obtain ⟨x, hx⟩ : ∃ x, x = g.getD p 0 := ⟨_, rfl⟩
              have hc := HC.out p hp8
              rw [← hx] at hc
              have HP := Lib.hid hp
              have HX := Lib.hid hx
              clear hp hx
              by_cases hx0 : x = 0
              · have qx : ((x : Int) == 0) = true := by rw [beq_iff_eq]; omega
                have HX0 := Lib.hid hx0
                clear hx0
                go_wp2
                go_round
                case rel =>
                  refine ⟨m + 1, by go_num, by have := HP.out; omega, fun j hj => ?_⟩
                  by_cases hjm : j < m
                  · exact hm.out.2 j hjm
                  · obtain rfl : j = m := by omega
                    rw [← HP.out, ← HX.out]
                    exact HX0.out
                case measure => have := HP.out; simp [intOf]; omega
              · have qx : ((x : Int) == 0) = false := by rw [beq_eq_false_iff_ne]; omega
                have HRz : Hid (runz (zeros g) k = m) := Lib.hid (runz_of g H8.out k m hm8 hm.out.2 (.inr (by rw [← HP.out, ← HX.out]; exact hx0)))
                clear hx0 hm
                by_cases hml : l < m
                · have q : decide ((m : Int) > (l : Int)) = true := by simp; omega
                  have HN : Hid ((k, m) = bl (zeros g) (k + 1)) := Lib.hid (by
                    have h := hbl.out
                    rw [bl, ← h, HRz.out, if_pos hml])
                  clear hbl
                  go_wp2
                  go_round
                  case rel => exact ⟨_, _, _, ⟨k + 1, by omega, rfl, k, rfl, m, rfl, HN.out⟩, rfl, rfl, by go_num⟩
                  case measure => simp [intOf]; omega
                · have q : decide ((m : Int) > (l : Int)) = false := by simp; omega
                  have HN : Hid ((b, l) = bl (zeros g) (k + 1)) := Lib.hid (by
                    have h := hbl.out
                    rw [bl, ← h, HRz.out, if_neg hml])
                  clear hbl
                  go_wp2
                  go_round
                  case rel => exact ⟨_, _, _, ⟨k + 1, by omega, rfl, b, rfl, l, rfl, HN.out⟩, rfl, rfl, by go_num⟩
                  case measure => simp [intOf]; omega
            · have hRz : runz (zeros g) k = m := runz_of g H8.out k m hm8 hm.out.2 (.inl (by omega))
              have p1 : decide ((p : Int) < 8) = false := by simp; omega
              have HRz := Lib.hid hRz
              clear hRz hm hp
              by_cases hml : l < m
              · have q : decide ((m : Int) > (l : Int)) = true := by simp; omega
                have HN : Hid ((k, m) = bl (zeros g) (k + 1)) := Lib.hid (by
                  have h := hbl.out
                  rw [bl, ← h, HRz.out, if_pos hml])
                clear hbl
                go_wp2
                go_round
                case rel => exact ⟨_, _, _, ⟨k + 1, by omega, rfl, k, rfl, m, rfl, HN.out⟩, rfl, rfl, by go_num⟩
                case measure => simp [intOf]; omega
              · have q : decide ((m : Int) > (l : Int)) = false := by simp; omega
                have HN : Hid ((b, l) = bl (zeros g) (k + 1)) := Lib.hid (by
                  have h := hbl.out
                  rw [bl, ← h, HRz.out, if_neg hml])
                clear hbl
                go_wp2
                go_round
                case rel => exact ⟨_, _, _, ⟨k + 1, by omega, rfl, b, rfl, l, rfl, HN.out⟩, rfl, rfl, by go_num⟩
                case measure => simp [intOf]; omega
        · obtain rfl : k = 8 := by omega
          rcases bl_of g H8.out with hcase | hcase
          · obtain ⟨hnn, hl1⟩ := hcase
            obtain ⟨f, hf⟩ : ∃ f : Nat, f = 8 := ⟨_, rfl⟩
            obtain ⟨t, ht⟩ : ∃ t, t = (nzB (zeros g) 8).2.2 := ⟨_, rfl⟩
            have HEnd : Hid (t6 g f t 8 = text6 (gr B)) := Lib.hid (by rw [← HG2.out, ← t6_end g H8.out, if_pos hnn, hf, ht])
            obtain rfl : l = 1 := by rw [← hbl.out] at hl1; exact hl1
            clear ht hnn hl1 hbl
            go_wp2
            go_loopw [3, 11] (fun s i wr => ∃ k : Nat, k ≤ 8 ∧ i = .int .i64 k ∧ (∃ sK : ByteArray, s = .string sK ∧ Hid (sK = ⟨(t6 g f t k).toArray⟩)) ∧ (k ≤ f ∨ t ≤ k) ∧ Hid ((∀ j, j < 8 → wr.cell? ⟨gg, j, none⟩ = some (.int .i64 ((g.getD j 0 : Nat) : Int))) ∧ Below w.heap.size w wr)) (fun _ i _ => 8 - (intOf i).toNat)
            case atStart => exact ⟨0, by omega, rfl, ⟨_, rfl, Lib.hid (by simp [t6, gtext, Lib.join_nil])⟩, by omega, HC.out, Hb.out⟩
            case round =>
              obtain ⟨k, hk, rfl, ⟨sK, rfl, hsK⟩, hft, hh⟩ := hrel
              obtain ⟨hcl, hb2⟩ := hh.out
              have Hb2 := Lib.hid hb2
              clear hb2 hh
              by_cases hlt : k < 8
              · obtain ⟨x, hx⟩ : ∃ x, x = g.getD k 0 := ⟨_, rfl⟩
                have hx16 : x < 65536 := by rw [hx]; apply HGl.out; simp [List.getD, List.getElem?_eq_getElem (show k < g.length by rw [H8.out]; exact hlt)]
                have hcell : wr.cell? ⟨gg, k, none⟩ = some (.int .i64 (x : Int)) := by rw [hx]; exact hcl k hlt
                have HK3 : Hid (∀ w3, Below wr.heap.size wr w3 → ∀ j, j < 8 → w3.cell? ⟨gg, j, none⟩ = some (.int .i64 ((g.getD j 0 : Nat) : Int))) := Lib.hid fun w3 h3 j hj => cell_kept (hcl j hj) h3
                have k0 : (0 : Int) ≤ (k : Int) := by omega
                have k8 : (k : Int) < 8 := by omega
                obtain ⟨sX, hsX⟩ : ∃ s : ByteArray, s = ⟨(hexs x).toArray⟩ := ⟨_, rfl⟩
                obtain ⟨sD, hsD⟩ : ∃ s : ByteArray, s = ⟨(t6 g f t k ++ [58]).toArray⟩ := ⟨_, rfl⟩
                obtain ⟨sR, hsR⟩ : ∃ s : ByteArray, s = ⟨(t6 g f t (k + 1)).toArray⟩ := ⟨_, rfl⟩
                have HN : Hid (∀ w', Calls Tryz.prog 114 #[.int .i64 (x : Int), .int .i64 16] w' fun e w2 => e = .returned (.string sX) ∧ Below w'.heap.size w' w2) := Lib.hid fun w' => by
                  have := numeral16 3 x (by omega) (by omega) w'
                  rw [digs16 x hx16] at this
                  exact this.mono fun e w2 hh => ⟨by rw [hsX]; exact hh.1, hh.2⟩
                have hle := t6_le g H8.out f t k
                have hdl := hexs_le x
                have HSR := Lib.hid hsR
                clear hcl hx16
                by_cases hk0 : k = 0
                · subst hk0
                  have a : ∀ w', (Op.stringOp .add sK sX).run Tryz.prog w' = .ok (.string sR) w' := fun w' => by
                    rw [hsK.out, hsX, hsR, t6_first g H8.out f t (by omega), ← hx]
                    exact run_string_add_lists w' _ _ (by omega) (by omega)
                  clear hsR hsD hsX hle hdl hx hsK
                  go_wp2_with fail
                  refine (HN.out wr).mono ?_
                  rintro e w3 ⟨rfl, hb3⟩
                  go_wp2
                  go_roundw
                  case rel => exact ⟨1, by omega, by go_num, ⟨_, rfl, HSR.out⟩, by omega, Lib.hid ⟨HK3.out w3 hb3, bel2 Hb2.out hb3⟩⟩
                  case measure => simp [intOf]
                · have kp : decide ((k : Int) > 0) = true := by simp; omega
                  have a1 : ∀ w', (Op.stringOp .add sK ⟨#[58]⟩).run Tryz.prog w' = .ok (.string sD) w' := fun w' => by
                    rw [hsK.out, hsD]
                    exact run_string_add_lists w' (t6 g f t k) [58] (by omega) (by simp)
                  have a : ∀ w', (Op.stringOp .add sD sX).run Tryz.prog w' = .ok (.string sR) w' := fun w' => by
                    rw [hsD, hsX, hsR, t6_ahead g H8.out f t k (by omega) (by omega) hlt, ← hx]
                    exact run_string_add_lists w' _ _ (by simp; omega) (by omega)
                  clear hsR hsD hsX hle hdl hx hsK
                  go_wp2_with fail
                  refine (HN.out wr).mono ?_
                  rintro e w3 ⟨rfl, hb3⟩
                  go_wp2
                  go_roundw
                  case rel => exact ⟨k + 1, by omega, by go_num, ⟨_, rfl, HSR.out⟩, by omega, Lib.hid ⟨HK3.out w3 hb3, bel2 Hb2.out hb3⟩⟩
                  case measure => simp [intOf]; omega
              · obtain rfl : k = 8 := by omega
                clear hcl
                go_wp2
                go_ret
                exact ⟨by rw [hsK.out, HEnd.out]; rfl, Hb2.out⟩
          · obtain ⟨hl2, hbf, hbt⟩ := hcase
            obtain ⟨f, hf⟩ : ∃ f, f = (nzB (zeros g) 8).2.1 := ⟨_, rfl⟩
            obtain ⟨t, ht⟩ : ∃ t, t = (nzB (zeros g) 8).2.2 := ⟨_, rfl⟩
            have ht8 : t ≤ 8 := by rw [ht]; exact (nz_of g H8.out).2.1
            rw [← hbl.out] at hl2 hbf hbt
            simp only at hl2 hbf hbt
            rw [← hf] at hbf
            rw [← ht] at hbt
            have hlt' : f < t := by omega
            have HEnd : Hid (t6 g f t 8 = text6 (gr B)) := Lib.hid (by rw [← HG2.out, ← t6_end g H8.out, if_neg (by rw [← hf, ← ht]; omega), ← hf, ← ht])
            have ql : decide ((l : Int) > 1) = true := by simp; omega
            subst hbf
            have et : IntKind.i64.wrap ((b : Int) + (l : Int)) = (t : Int) := by simp only [IntKind.wrap, IntKind.signed, IntKind.bits]; simp; omega
            clear hf ht hbl
            go_wp2
            go_loopw [3, 11] (fun s i wr => ∃ k : Nat, k ≤ 8 ∧ i = .int .i64 k ∧ (∃ sK : ByteArray, s = .string sK ∧ Hid (sK = ⟨(t6 g b t k).toArray⟩)) ∧ (k ≤ b ∨ t ≤ k) ∧ Hid ((∀ j, j < 8 → wr.cell? ⟨gg, j, none⟩ = some (.int .i64 ((g.getD j 0 : Nat) : Int))) ∧ Below w.heap.size w wr)) (fun _ i _ => 8 - (intOf i).toNat)
            case atStart => exact ⟨0, by omega, rfl, ⟨_, rfl, Lib.hid (by simp [t6, gtext, Lib.join_nil])⟩, by omega, HC.out, Hb.out⟩
            case round =>
              obtain ⟨k, hk, rfl, ⟨sK, rfl, hsK⟩, hft, hh⟩ := hrel
              obtain ⟨hcl, hb2⟩ := hh.out
              have Hb2 := Lib.hid hb2
              clear hb2 hh
              by_cases hlt : k < 8
              · obtain ⟨x, hx⟩ : ∃ x, x = g.getD k 0 := ⟨_, rfl⟩
                have hx16 : x < 65536 := by rw [hx]; apply HGl.out; simp [List.getD, List.getElem?_eq_getElem (show k < g.length by rw [H8.out]; exact hlt)]
                have hcell : wr.cell? ⟨gg, k, none⟩ = some (.int .i64 (x : Int)) := by rw [hx]; exact hcl k hlt
                have HK3 : Hid (∀ w3, Below wr.heap.size wr w3 → ∀ j, j < 8 → w3.cell? ⟨gg, j, none⟩ = some (.int .i64 ((g.getD j 0 : Nat) : Int))) := Lib.hid fun w3 h3 j hj => cell_kept (hcl j hj) h3
                have k0 : (0 : Int) ≤ (k : Int) := by omega
                have k8 : (k : Int) < 8 := by omega
                obtain ⟨sX, hsX⟩ : ∃ s : ByteArray, s = ⟨(hexs x).toArray⟩ := ⟨_, rfl⟩
                obtain ⟨sD, hsD⟩ : ∃ s : ByteArray, s = ⟨(t6 g b t k ++ [58]).toArray⟩ := ⟨_, rfl⟩
                obtain ⟨sR, hsR⟩ : ∃ s : ByteArray, s = ⟨(t6 g b t (k + 1)).toArray⟩ := ⟨_, rfl⟩
                have HN : Hid (∀ w', Calls Tryz.prog 114 #[.int .i64 (x : Int), .int .i64 16] w' fun e w2 => e = .returned (.string sX) ∧ Below w'.heap.size w' w2) := Lib.hid fun w' => by
                  have := numeral16 3 x (by omega) (by omega) w'
                  rw [digs16 x hx16] at this
                  exact this.mono fun e w2 hh => ⟨by rw [hsX]; exact hh.1, hh.2⟩
                have hle := t6_le g H8.out b t k
                have hdl := hexs_le x
                have HSR := Lib.hid hsR
                clear hcl hx16
                by_cases hkb : k = b
                · subst hkb
                  have qe : ((k : Int) == (k : Int)) = true := by simp
                  have e5 : IntKind.i64.wrap ((l : Int) - 1) = (l : Int) - 1 := by simp only [IntKind.wrap, IntKind.signed, IntKind.bits]; simp; omega
                  have e6 : IntKind.i64.wrap ((k : Int) + ((l : Int) - 1)) = ((t - 1 : Nat) : Int) := by simp only [IntKind.wrap, IntKind.signed, IntKind.bits]; simp; omega
                  obtain ⟨sC, hsC⟩ : ∃ s : ByteArray, s = ⟨(t6 g k t t).toArray⟩ := ⟨_, rfl⟩
                  have a1 : ∀ w', (Op.stringOp .add sK ⟨#[58, 58]⟩).run Tryz.prog w' = .ok (.string sC) w' := fun w' => by
                    rw [hsK.out, hsC, t6_row g H8.out k t hlt' ht8]
                    exact run_string_add_lists w' (t6 g k t k) [58, 58] (by omega) (by simp)
                  have HSC := Lib.hid hsC
                  obtain ⟨t', ht'⟩ : ∃ t' : Nat, t' = t - 1 := ⟨_, rfl⟩
                  rw [← ht'] at e6
                  have HT' : Hid (t' + 1 = t) := Lib.hid (by omega)
                  have t7 : t' ≤ 7 := by omega
                  have t70 : (0 : Int) ≤ (t' : Int) := by omega
                  clear ht' hsC hsR hsD hsX hle hdl hx hsK HSR HN
                  go_wp2
                  go_roundw
                  case rel => exact ⟨t, by omega, by have := HT'.out; go_num, ⟨_, rfl, HSC.out⟩, by omega, Lib.hid ⟨HK3.out _ (Below.refl _ _), Hb2.out⟩⟩
                  case measure => have := HT'.out; simp [intOf]; omega
                · have qe : ((k : Int) == (b : Int)) = false := by rw [beq_eq_false_iff_ne]; omega
                  by_cases hk0 : k = 0
                  · subst hk0
                    have a : ∀ w', (Op.stringOp .add sK sX).run Tryz.prog w' = .ok (.string sR) w' := fun w' => by
                      rw [hsK.out, hsX, hsR, t6_first g H8.out b t (by omega), ← hx]
                      exact run_string_add_lists w' _ _ (by omega) (by omega)
                    clear hsR hsD hsX hle hdl hx hsK
                    go_wp2_with fail
                    refine (HN.out wr).mono ?_
                    rintro e w3 ⟨rfl, hb3⟩
                    go_wp2
                    go_roundw
                    case rel => exact ⟨1, by omega, by go_num, ⟨_, rfl, HSR.out⟩, by omega, Lib.hid ⟨HK3.out w3 hb3, bel2 Hb2.out hb3⟩⟩
                    case measure => simp [intOf]
                  · have kp : decide ((k : Int) > 0) = true := by simp; omega
                    by_cases hkt : k = t
                    · subst hkt
                      have qt : ((k : Int) == (k : Int)) = true := by simp
                      have a : ∀ w', (Op.stringOp .add sK sX).run Tryz.prog w' = .ok (.string sR) w' := fun w' => by
                        rw [hsK.out, hsX, hsR, t6_behind g H8.out b k hlt' hlt, ← hx]
                        exact run_string_add_lists w' _ _ (by omega) (by omega)
                      clear hsR hsD hsX hle hdl hx hsK
                      go_wp2_with fail
                      refine (HN.out wr).mono ?_
                      rintro e w3 ⟨rfl, hb3⟩
                      go_wp2
                      go_roundw
                      case rel => exact ⟨k + 1, by omega, by go_num, ⟨_, rfl, HSR.out⟩, by omega, Lib.hid ⟨HK3.out w3 hb3, bel2 Hb2.out hb3⟩⟩
                      case measure => simp [intOf]; omega
                    · have qt : ((k : Int) == (t : Int)) = false := by rw [beq_eq_false_iff_ne]; omega
                      have a1 : ∀ w', (Op.stringOp .add sK ⟨#[58]⟩).run Tryz.prog w' = .ok (.string sD) w' := fun w' => by
                        rw [hsK.out, hsD]
                        exact run_string_add_lists w' (t6 g b t k) [58] (by omega) (by simp)
                      have a : ∀ w', (Op.stringOp .add sD sX).run Tryz.prog w' = .ok (.string sR) w' := fun w' => by
                        rw [hsD, hsX, hsR, (show t6 g b t (k + 1) = (t6 g b t k ++ [58]) ++ hexs (g.getD k 0) from if h : k < b then t6_ahead g H8.out b t k h (by omega) hlt else t6_later g H8.out b t k hlt' (by omega) hlt), ← hx]
                        exact run_string_add_lists w' _ _ (by simp; omega) (by omega)
                      clear hsR hsD hsX hle hdl hx hsK
                      go_wp2_with fail
                      refine (HN.out wr).mono ?_
                      rintro e w3 ⟨rfl, hb3⟩
                      go_wp2
                      go_roundw
                      case rel => exact ⟨k + 1, by omega, by go_num, ⟨_, rfl, HSR.out⟩, by omega, Lib.hid ⟨HK3.out w3 hb3, bel2 Hb2.out hb3⟩⟩
                      case measure => simp [intOf]; omega
              · obtain rfl : k = 8 := by omega
                clear hcl
                go_wp2
                go_ret
                exact ⟨by rw [hsK.out, HEnd.out]; rfl, Hb2.out⟩
end Go.Proofs.YtnfkgoeocebenaaGreatDoor
