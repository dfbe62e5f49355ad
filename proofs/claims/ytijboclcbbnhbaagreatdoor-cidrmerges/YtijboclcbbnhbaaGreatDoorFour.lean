/-
  The walk of addr.parseFour.
-/
import Derived.Test.YtijboclcbbnhbaaGreatDoorGrps
namespace Go.Proofs.YtijboclcbbnhbaaGreatDoor
open Go.RowKit

/-- The four numbers of a text. -/
def four (l : List UInt8) : Option (List Nat) := if (pieces 46 l).length = 4 then allOf num10 (pieces 46 l) else none

theorem adr_set (s : Bool) (b : List Int) (i : Nat) (v : Int) : (adr s b).setIfInBounds (1 + i) (.int .u8 v) = adr s (b.set i v) := by
  simp [adr, List.map_set, Nat.add_comm 1 i]

/-- An address, and whether it is one. -/
def AddrEnd (six : Bool) (b : List Int) (ok : Bool) (w : World) (e : Ending) (w' : World) : Prop := e = .returned (.tuple #[.agg (adr six b), .bool ok]) ∧ Below w.heap.size w w'

set_option maxRecDepth 100000 in
set_option maxHeartbeats 4000000 in
theorem four_bad (s : ByteArray) (hs : s.size ≤ 1000) (h4 : (pieces 46 s.data.toList).length ≠ 4) (E : Value) (w : World) (hE : Env E w) :
    Calls Tryz.prog 43 #[.string s] w (AddrEnd false z16 false w) := by
  obtain ⟨W0, hW0⟩ : ∃ W, W = w.alloc (.cells (adr false z16) 25) := ⟨_, rfl⟩
  have hB0 : Blk W0 w.heap.size 25 (adr false z16) := hW0 ▸ Blk.new w _ _
  have hb0 : Below w.heap.size w W0 := hW0 ▸ (Below.refl _ _).alloc (Nat.le_refl _) _
  have HW0 : Hid (w.alloc (.cells #[.bool false, .int .u8 0, .int .u8 0, .int .u8 0, .int .u8 0, .int .u8 0, .int .u8 0, .int .u8 0, .int .u8 0, .int .u8 0, .int .u8 0, .int .u8 0, .int .u8 0, .int .u8 0, .int .u8 0, .int .u8 0, .int .u8 0] 25) = W0) := Lib.hid hW0.symm
  have HS := Lib.hid (split_any 46 s (by omega) E W0 (hE.kept hb0))
  have hpl := parts_length 46 s
  have hlen := pieces_length 46 s.data.toList
  obtain ⟨n, hn⟩ : ∃ n, n = (parts 46 s).length := ⟨_, rfl⟩
  have hn4 : ((n : Int) != 4) = true := by
    rw [bne_iff_ne]
    have : n ≠ 4 := by rw [hn, hpl, ← hlen]; exact h4
    omega
  rw [← hn] at HS
  have hmx := parts_max 46 s
  rw [← hn] at hmx
  generalize parts 46 s = bs at HS
  have HB0 := Lib.hid hB0
  clear hB0 hW0 hpl hlen h4 hn
  go_enter Tryz.func43, Tryz.ntmps43
  go_wp2_with fail
  rw [HW0.out]
  refine HS.out.mono ?_
  rintro e w1 ⟨rfl, hw1⟩
  have hb1 : Below W0.heap.size W0 w1 := by rw [hw1]; exact (Below.refl _ _).alloc (Nat.le_refl _) _
  have HB1 := Lib.hid (HB0.out.kept hb1)
  clear hw1
  go_wp2_with (refine wpl_store 25 _ _ rfl _ (adr false z16) rfl rfl _ _ HB1.out 17 Tryz.infoAddr rfl rfl (adr_one _ _) rfl ?_)
  exact retA2 rfl w.heap.size rfl _ _ _ (HB1.out.row _) Tryz.underlying25 rfl 17 Tryz.infoAddr rfl rfl _ rfl ⟨rfl, below_setRow (bel2 hb0 hb1) (Nat.le_refl _) _⟩

theorem head_at (x : ByteArray) (h : 1 < x.size) : x.data.toList.head? = some (x[0]'(by omega)) := by
  obtain ⟨⟨l⟩⟩ := x
  cases l with
  | nil => simp [ByteArray.size] at h
  | cons a l => rfl

set_option maxRecDepth 100000 in
set_option maxHeartbeats 4000000 in
theorem four_walk (s : ByteArray) (hs : s.size ≤ 1000) (h4 : (pieces 46 s.data.toList).length = 4) (E : Value) (w : World) (hE : Env E w) :
    Calls Tryz.prog 43 #[.string s] w fun e w' => (∃ ns, allOf num10 (pieces 46 s.data.toList) = some ns ∧ AddrEnd false (rowOf ns 16) true w e w') ∨ (allOf num10 (pieces 46 s.data.toList) = none ∧ AddrEnd false z16 false w e w') := by
  obtain ⟨W0, hW0⟩ : ∃ W, W = w.alloc (.cells (adr false z16) 25) := ⟨_, rfl⟩
  have hB0 : Blk W0 w.heap.size 25 (adr false z16) := hW0 ▸ Blk.new w _ _
  have hb0 : Below w.heap.size w W0 := hW0 ▸ (Below.refl _ _).alloc (Nat.le_refl _) _
  have HW0 : Hid (w.alloc (.cells #[.bool false, .int .u8 0, .int .u8 0, .int .u8 0, .int .u8 0, .int .u8 0, .int .u8 0, .int .u8 0, .int .u8 0, .int .u8 0, .int .u8 0, .int .u8 0, .int .u8 0, .int .u8 0, .int .u8 0, .int .u8 0, .int .u8 0] 25) = W0) := Lib.hid hW0.symm
  have hW0s : W0.heap.size = w.heap.size + 1 := by rw [hW0]; simp
  have HS := Lib.hid (split_any 46 s (by omega) E W0 (hE.kept hb0))
  have hpl := parts_length 46 s
  have hlen := pieces_length 46 s.data.toList
  have hb4 : (parts 46 s).length = 4 := by rw [hpl, ← hlen]; exact h4
  have HA := Lib.hid (parts_at 46 s)
  have HP := Lib.hid (parts_le 46 s)
  rw [hb4] at HS
  generalize parts 46 s = bs at HS HA HP hb4
  generalize pieces 46 s.data.toList = ps at HA h4 ⊢
  have HB0 := Lib.hid hB0
  have HE := Lib.hid hE
  have HP4 := Lib.hid h4
  have HB4 := Lib.hid hb4
  obtain ⟨W1, hW1⟩ : ∃ W, W = W0.alloc (.cells (strs bs) 9) := ⟨_, rfl⟩
  have hb1 : Below W0.heap.size W0 W1 := hW1 ▸ (Below.refl _ _).alloc (Nat.le_refl _) _
  have hB1 : Blk W1 W0.heap.size 9 (strs bs) := hW1 ▸ Blk.new W0 _ _
  have hW1s : W1.heap.size = w.heap.size + 2 := by rw [hW1]; simp [hW0s]
  rw [← hW1] at HS
  obtain ⟨W2, hW2⟩ : ∃ W, W = W1.alloc (.cells (adr false z16) 25) := ⟨_, rfl⟩
  have hb2 : Below W1.heap.size W1 W2 := hW2 ▸ (Below.refl _ _).alloc (Nat.le_refl _) _
  have hB2 : Blk W2 W1.heap.size 25 (adr false z16) := hW2 ▸ Blk.new W1 _ _
  have HW2 : Hid (W1.alloc (.cells #[.bool false, .int .u8 0, .int .u8 0, .int .u8 0, .int .u8 0, .int .u8 0, .int .u8 0, .int .u8 0, .int .u8 0, .int .u8 0, .int .u8 0, .int .u8 0, .int .u8 0, .int .u8 0, .int .u8 0, .int .u8 0, .int .u8 0] 25) = W2) := Lib.hid hW2.symm
  have HB2 := Lib.hid hB2
  have hBelow2 : Below w.heap.size w W2 := bel2 (bel2 hb0 hb1) hb2
  have H2 : Hid (Blk (W2.setRow W1.heap.size (adr false z16)) W1.heap.size 25 (adr false (rowOf [] 16)) ∧ Blk (W2.setRow W1.heap.size (adr false z16)) W0.heap.size 9 (strs bs) ∧ Blk (W2.setRow W1.heap.size (adr false z16)) w.heap.size 25 (adr false z16) ∧ Below w.heap.size w (W2.setRow W1.heap.size (adr false z16))) := Lib.hid
    ⟨hB2.row _, (hB1.kept hb2).rowOther (by omega) _, ((hB0.kept hb1).kept hb2).rowOther (by omega) _, below_setRow hBelow2 (by omega) _⟩
  have HSz : Hid (W0.heap.size = w.heap.size + 1 ∧ W1.heap.size = w.heap.size + 2) := Lib.hid ⟨hW0s, hW1s⟩
  clear hB0 hW0 hpl hlen h4 hB1 hW1 hB2 hW2 hE hb4 hW0s hW1s hb0 hb1 hb2 hBelow2 HB0
  go_enter Tryz.func43, Tryz.ntmps43
  go_wp2_with fail
  rw [HW0.out]
  refine HS.out.mono ?_
  rintro e w1 ⟨rfl, hw1⟩
  obtain rfl : W1 = w1 := hw1.symm
  go_wp2_with ((try rw [HW2.out]); refine wpl_store 25 _ _ rfl _ (adr false z16) rfl rfl _ _ HB2.out 17 Tryz.infoAddr rfl rfl (adr_one _ _) rfl ?_)
  obtain ⟨V, hV⟩ : ∃ V, V = W2.setRow W1.heap.size (adr false z16) := ⟨_, rfl⟩
  rw [← hV] at H2 ⊢
  clear hV
  go_loopw [19] (fun i wr => ∃ (k : Nat) (ns : List Nat), k ≤ 4 ∧ i = .int .i64 k ∧ Hid (ns.length = k ∧ (∀ j x, j < k → ps[j]? = some x → num10 x = some (ns.getD j 0)) ∧ Blk wr W1.heap.size 25 (adr false (rowOf ns 16)) ∧ Blk wr W0.heap.size 9 (strs bs) ∧ Blk wr w.heap.size 25 (adr false z16) ∧ Below w.heap.size w wr)) (fun i _ => 4 - (intOf i).toNat)
  case atStart => exact ⟨0, [], Nat.zero_le _, rfl, rfl, fun j x h => by omega, H2.out⟩
  case round =>
    obtain ⟨k, ns, hk, rfl, hh⟩ := hrel
    clear H2
    by_cases hlt : k < 4
    · obtain ⟨hnl, hgs, hR, hBr, hB0r, hbr⟩ := hh.out
      have hkb : k < bs.length := by rw [HB4.out]; exact hlt
      have hx := HA.out k hkb
      have hsz := HP.out k hkb
      have hcell : wr.cell? ⟨W0.heap.size, k, none⟩ = some (.string bs[k]) := by rw [hBr.cell, strs_at bs k hkb]
      generalize bs[k] = x at hx hsz hcell
      have HX := Lib.hid hx
      have HR := Lib.hid hR
      have HBr := Lib.hid hBr
      have HB0r := Lib.hid hB0r
      have Hbr := Lib.hid hbr
      have HG := Lib.hid hgs
      have HNl := Lib.hid hnl
      clear hx hR hBr hbr hgs hnl hh hB0r
      have hcell0 : wr.cell? ⟨W0.heap.size, 0 + k, none⟩ = some (.string x) := by rw [Nat.zero_add]; exact hcell
      by_cases hok : ∃ u, Lib.parseUintB 8 x.data.toList = .ok u
      · obtain ⟨u, hu⟩ := hok
        have HU := Lib.hid hu
        clear hu
        by_cases hz : 1 < x.data.toList.length ∧ x.data.toList.head? = some 48
        · have hg : num10 x.data.toList = none := num10_zero _ hz
          have h1 : 1 < x.size := by rw [Lib.size_eq]; exact hz.1
          have h48 : x[0] = 48 := by
            have := head_at x h1
            rw [hz.2] at this
            exact (Option.some.inj this).symm
          have h48' : ((x[0].toNat : Int) == 48) = true := by rw [h48]; rfl
          have HG1 := Lib.hid hg
          clear hg h48 hz
          go_wp2_with fail
          refine (pu8_ok x (by omega) u HU.out wr).mono ?_
          rintro e w2 ⟨rfl, hb2⟩
          have HB2r := Lib.hid (HB0r.out.kept hb2)
          go_wp2_with (refine wpl_store 25 _ _ rfl _ (adr false z16) rfl rfl _ _ HB2r.out 17 Tryz.infoAddr rfl rfl (adr_one _ _) rfl ?_)
          refine retA2 rfl w.heap.size rfl _ _ _ (HB2r.out.row _) Tryz.underlying25 rfl 17 Tryz.infoAddr rfl rfl _ rfl (.inr ⟨allOf_none num10 ps k _ HX.out HG1.out, rfl, below_setRow (bel2 Hbr.out hb2) (Nat.le_refl _) _⟩)
        · have hg : num10 x.data.toList = some u := num10_ok _ _ HU.out hz
          have hu255 := num10_le hg
          by_cases h1 : 1 < x.size
          · have h48' : ((x[0].toNat : Int) == 48) = false := by
              rw [beq_eq_false_iff_ne]
              intro e
              apply hz
              refine ⟨by rw [← Lib.size_eq]; exact h1, ?_⟩
              rw [head_at x h1]
              congr 1
              exact UInt8.toNat_inj.1 (by simpa using (Int.ofNat.inj e))
            clear hz
            have HG1 := Lib.hid hg
            clear hg
            go_wp2_with fail
            refine (pu8_ok x (by omega) u HU.out wr).mono ?_
            rintro e w2 ⟨rfl, hb2⟩
            have hR2 := HR.out.kept hb2
            have hcl : w2.cell? ⟨W1.heap.size, 1 + k, none⟩ = some (.int .u8 (nth (rowOf ns 16) k)) := by rw [hR2.cell, adr_at _ _ _ (by rw [rowOf_length _ _ (by rw [HNl.out]; omega)]; omega)]
            have hfz := hR2.frozen (1 + k)
            have HR2 := Lib.hid hR2
            clear hR2
            go_wp2
            go_roundw
            case rel =>
              refine ⟨k + 1, ns ++ [u], by omega, by go_num, by simp [HNl.out], fun j y hj hy => ?_, ?_, ?_, ?_, ?_⟩
              · by_cases e : j = k
                · subst e
                  rw [HX.out] at hy
                  cases hy
                  rw [HG1.out, ← HNl.out]
                  simp
                · rw [HG.out j y (by omega) hy]
                  simp [List.getElem?_append_left (show j < ns.length by rw [HNl.out]; omega)]
              · have := HR2.out.set (1 + k) (.int .u8 (u : Int))
                rw [adr_set, ← HNl.out, rowOf_set _ _ _ (by rw [HNl.out]; omega), HNl.out] at this
                exact this
              · exact (HBr.out.kept hb2).setOther (by have := HSz.out; omega) _ _
              · exact (HB0r.out.kept hb2).setOther (by have := HSz.out; omega) _ _
              · exact (bel2 Hbr.out hb2).setCell (by have := HSz.out; show w.heap.size ≤ W1.heap.size; omega) _
            case measure => simp [intOf]; omega
          · clear hz
            have HG1 := Lib.hid hg
            clear hg
            go_wp2_with fail
            refine (pu8_ok x (by omega) u HU.out wr).mono ?_
            rintro e w2 ⟨rfl, hb2⟩
            have hR2 := HR.out.kept hb2
            have hcl : w2.cell? ⟨W1.heap.size, 1 + k, none⟩ = some (.int .u8 (nth (rowOf ns 16) k)) := by rw [hR2.cell, adr_at _ _ _ (by rw [rowOf_length _ _ (by rw [HNl.out]; omega)]; omega)]
            have hfz := hR2.frozen (1 + k)
            have HR2 := Lib.hid hR2
            clear hR2
            go_wp2
            go_roundw
            case rel =>
              refine ⟨k + 1, ns ++ [u], by omega, by go_num, by simp [HNl.out], fun j y hj hy => ?_, ?_, ?_, ?_, ?_⟩
              · by_cases e : j = k
                · subst e
                  rw [HX.out] at hy
                  cases hy
                  rw [HG1.out, ← HNl.out]
                  simp
                · rw [HG.out j y (by omega) hy]
                  simp [List.getElem?_append_left (show j < ns.length by rw [HNl.out]; omega)]
              · have := HR2.out.set (1 + k) (.int .u8 (u : Int))
                rw [adr_set, ← HNl.out, rowOf_set _ _ _ (by rw [HNl.out]; omega), HNl.out] at this
                exact this
              · exact (HBr.out.kept hb2).setOther (by have := HSz.out; omega) _ _
              · exact (HB0r.out.kept hb2).setOther (by have := HSz.out; omega) _ _
              · exact (bel2 Hbr.out hb2).setCell (by have := HSz.out; show w.heap.size ≤ W1.heap.size; omega) _
            case measure => simp [intOf]; omega
      · have hg : num10 x.data.toList = none := num10_bad _ (fun u hu => hok ⟨u, hu⟩)
        have HG1 := Lib.hid hg
        have HK : Hid (∀ u, Lib.parseUintB 8 x.data.toList ≠ .ok u) := Lib.hid (fun u hu => hok ⟨u, hu⟩)
        clear hg hok
        go_wp2_with fail
        refine (pu8_bad x (by omega) HK.out E wr (HE.out.kept Hbr.out)).mono ?_
        rintro e w2 ⟨v, p, rfl, hb2⟩
        have HB2r := Lib.hid (HB0r.out.kept hb2)
        go_wp2_with (refine wpl_store 25 _ _ rfl _ (adr false z16) rfl rfl _ _ HB2r.out 17 Tryz.infoAddr rfl rfl (adr_one _ _) rfl ?_)
        refine retA2 rfl w.heap.size rfl _ _ _ (HB2r.out.row _) Tryz.underlying25 rfl 17 Tryz.infoAddr rfl rfl _ rfl (.inr ⟨allOf_none num10 ps k _ HX.out HG1.out, rfl, below_setRow (bel2 Hbr.out hb2) (Nat.le_refl _) _⟩)
    · obtain rfl : k = 4 := by omega
      obtain ⟨hnl, hgs, hR, hBr, hB0r, hbr⟩ := hh.out
      have HR := Lib.hid hR
      have HB0r := Lib.hid hB0r
      have Hbr := Lib.hid hbr
      have HG := Lib.hid hgs
      have HNl := Lib.hid hnl
      have HSi : Hid (17 = (adr false (rowOf ns 16)).size) := Lib.hid (by rw [adr_size, rowOf_length _ _ (by omega)])
      clear hR hB0r hbr hgs hnl hh hBr
      go_wp2_with (first | (refine wpl_load 25 _ rfl _ rfl _ _ _ HR.out Tryz.underlying25 rfl 17 Tryz.infoAddr HSi.out rfl ?_) | (refine wpl_store 25 _ _ rfl _ (adr false (rowOf ns 16)) rfl rfl _ _ HB0r.out 17 Tryz.infoAddr HSi.out rfl (adr_one _ _) rfl ?_))
      refine retA2 rfl w.heap.size rfl _ _ _ (HB0r.out.row _) Tryz.underlying25 rfl 17 Tryz.infoAddr HSi.out rfl _ rfl (.inl ⟨ns, allOf_some num10 ps ns (by rw [HNl.out, HP4.out]) (fun j x hx => HG.out j x ?_ hx), rfl, below_setRow Hbr.out (Nat.le_refl _) _⟩)
      have := (List.getElem?_eq_some_iff.1 hx).1
      rw [HP4.out] at this
      exact this
end Go.Proofs.YtijboclcbbnhbaaGreatDoor
