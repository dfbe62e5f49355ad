/-
  The walk of the document's four.
-/
import Derived.Test.YtnfkgoeocebenaaGreatDoorRspl
namespace Go.Proofs.YtnfkgoeocebenaaGreatDoor
open Go.RowKit

/-- An address and that there is one, or the zero address and that there is none. -/
def ROpt (r : Option (Bool × List Int)) (w : World) (e : Ending) (w' : World) : Prop :=
  (match r with
   | some (s, b) => e = .returned (.tuple #[.agg (adr s b), .bool true])
   | none => e = .returned (.tuple #[.agg (adr false z16), .bool false])) ∧ Below w.heap.size w w'

theorem num10_of (l : List UInt8) (n : Nat) (h : numI 10 3 l = (n : Int)) (h255 : n ≤ 255) (hz : ¬ (1 < l.length ∧ l.head? = some 48)) : num10 l = some n := by
  unfold numI at h
  split at h
  · rename_i hh
    have e : numb 10 0 l = n := by omega
    unfold num10
    rw [if_pos ⟨hh.1, hh.2.1, hh.2.2, by omega, hz⟩, e]
  · omega

theorem num10_no (l : List UInt8) (h : numI 10 3 l < 0 ∨ 255 < numI 10 3 l) : num10 l = none := by
  unfold num10
  rw [if_neg]
  rintro ⟨h1, h2, h3, h4, h5⟩
  have : numI 10 3 l = (numb 10 0 l : Int) := by unfold numI; rw [if_pos ⟨h1, h2, h3⟩]
  omega

/-- Cells that lie in a row stay. -/
def Row (w : World) (g : Nat) (ps : List (List UInt8)) : Prop := ∀ j x, ps[j]? = some x → w.cell? ⟨g, j, none⟩ = some (.string ⟨x.toArray⟩)

theorem cell_lt {w : World} {g j : Nat} {v : Value} (h : w.cell? ⟨g, j, none⟩ = some v) : g < w.heap.size := by
  have := World.new_ne w _ h
  rcases Nat.lt_or_ge g w.heap.size with h' | h'
  · exact h'
  · exfalso
    simp [World.cell?, Array.getElem?_eq_none h'] at h

theorem Row.kept {w w' : World} {g : Nat} {ps : List (List UInt8)} (h : Row w g ps) (hb : Below w.heap.size w w') : Row w' g ps := fun j x hx => cell_kept (h j x hx) hb

theorem Row.set {w : World} {g k i : Nat} {v : Value} {ps : List (List UInt8)} (h : Row w g ps) (hne : g ≠ k) : Row (w.setCell ⟨k, i, none⟩ v) g ps := fun j x hx => by
  have h1 := h j x hx
  unfold World.cell? at h1 ⊢
  rw [heap_setCell_other w ⟨k, i, none⟩ g v hne]
  exact h1

theorem Row.row {w : World} {g k : Nat} {cs : Array Value} {ps : List (List UInt8)} (h : Row w g ps) (hne : g ≠ k) : Row (w.setRow k cs) g ps := fun j x hx => by
  have h1 := h j x hx
  unfold World.cell? at h1 ⊢
  rw [show (w.setRow k cs).heap[g]? = w.heap[g]? from setRow_other w k g cs hne]
  exact h1

set_option maxRecDepth 100000 in
set_option maxHeartbeats 4000000 in
theorem rfour_any (s : ByteArray) (hs : s.size ≤ 1000) (w : World) : Calls Tryz.prog 110 #[.string s] w (ROpt ((four s.data.toList).map fun ns => (false, rowOf ns 16)) w) := by
  obtain ⟨W0, hW0⟩ : ∃ W, W = w.alloc (.cells (adr false z16) 24) := ⟨_, rfl⟩
  have hB0 : Blk W0 w.heap.size 24 (adr false z16) := hW0 ▸ Blk.new w _ _
  have hb0 : Below w.heap.size w W0 := hW0 ▸ (Below.refl _ _).alloc (Nat.le_refl _) _
  have HW0 : Hid (w.alloc (.cells #[.bool false, .int .u8 0, .int .u8 0, .int .u8 0, .int .u8 0, .int .u8 0, .int .u8 0, .int .u8 0, .int .u8 0, .int .u8 0, .int .u8 0, .int .u8 0, .int .u8 0, .int .u8 0, .int .u8 0, .int .u8 0, .int .u8 0] 24) = W0) := Lib.hid hW0.symm
  have HB0 := Lib.hid hB0
  have HS : Hid (∀ w, Calls Tryz.prog 111 #[.string s, .int .u8 46] w (SplitEnd (pieces 46 s.data.toList) w)) := Lib.hid fun w => rsplit_any s hs 46 w
  have HPl : Hid (∀ x ∈ pieces 46 s.data.toList, x.length ≤ 1000) := Lib.hid fun x hx => by
    have := pieces_le 46 s.data.toList x hx
    rw [← Lib.size_eq] at this
    omega
  have HMx : Hid ((pieces 46 s.data.toList).length ≤ 1001) := Lib.hid (by
    have := parts_max 46 s
    rw [parts_length] at this
    have h3 := pieces_length 46 s.data.toList
    have h4 : Lib.countB s ⟨#[46]⟩ = Lib.count s.data.toList [46] := rfl
    omega)
  have HF : Hid (four s.data.toList = if (pieces 46 s.data.toList).length = 4 then allOf num10 (pieces 46 s.data.toList) else none) := Lib.hid rfl
  generalize pieces 46 s.data.toList = ps at HS HPl HMx HF
  obtain ⟨R, hR⟩ : ∃ R, R = four s.data.toList := ⟨_, rfl⟩
  rw [← hR] at HF ⊢
  obtain ⟨n, hn⟩ : ∃ n, n = ps.length := ⟨_, rfl⟩
  have hn1 : n ≤ 1001 := by rw [hn]; exact HMx.out
  have HN := Lib.hid hn
  clear hW0 hB0 hR hn
  go_enter Tryz.func110, Tryz.ntmps110
  go_wp2_with fail
  rw [HW0.out]
  refine (HS.out W0).mono ?_
  rintro e w1 ⟨g, cap, rfl, hg, hcells, hb1⟩
  have hB1 := HB0.out.kept hb1
  have hbw1 : Below w.heap.size w w1 := bel2 hb0 hb1
  obtain ⟨W2, hW2⟩ : ∃ W, W = w1.alloc (.cells (adr false z16) 24) := ⟨_, rfl⟩
  have hb2 : Below w1.heap.size w1 W2 := hW2 ▸ (Below.refl _ _).alloc (Nat.le_refl _) _
  have hB2 : Blk W2 w1.heap.size 24 (adr false z16) := hW2 ▸ Blk.new w1 _ _
  have HW2 : Hid (w1.alloc (.cells #[.bool false, .int .u8 0, .int .u8 0, .int .u8 0, .int .u8 0, .int .u8 0, .int .u8 0, .int .u8 0, .int .u8 0, .int .u8 0, .int .u8 0, .int .u8 0, .int .u8 0, .int .u8 0, .int .u8 0, .int .u8 0, .int .u8 0] 24) = W2) := Lib.hid hW2.symm
  have HB2 := Lib.hid hB2
  have hlt1 : w.heap.size < w1.heap.size := hB1.lt
  obtain ⟨V, hV⟩ : ∃ V, V = W2.setRow w1.heap.size (adr false z16) := ⟨_, rfl⟩
  have HV := Lib.hid hV.symm
  have HQ : Hid (Blk V w1.heap.size 24 (adr false z16) ∧ Blk V w.heap.size 24 (adr false z16) ∧ Below w.heap.size w V) := Lib.hid (by
    rw [hV]
    exact ⟨hB2.row _, (hB1.kept hb2).rowOther (by omega) _, below_setRow (bel2 hbw1 hb2) (by omega) _⟩)
  have HRo : Hid (0 < ps.length → g < w1.heap.size) := Lib.hid fun h0 => cell_lt (hcells 0 _ (List.getElem?_eq_getElem h0))
  have HRw : Hid (Row V g ps) := Lib.hid (by
    have h := (Row.kept (w := w1) (fun j x hx => hcells j x hx) hb2 : Row W2 g ps)
    rw [hV]
    intro j x hx
    have hne : g ≠ w1.heap.size := by
      have := HRo.out (by have := (List.getElem?_eq_some_iff.1 hx).1; omega)
      omega
    exact Row.row h hne j x hx)
  rw [← HN.out]
  by_cases h4 : n = 4
  · have q4 : ((n : Int) != 4) = false := by rw [h4]; rfl
    have HF4 : Hid (R = allOf num10 ps) := Lib.hid (by rw [HF.out, if_pos (by rw [← HN.out, h4])])
    have HF := HF4
    have HG : Hid (g < w1.heap.size) := Lib.hid (HRo.out (by rw [← HN.out]; omega))
    clear hB1 hW2 hB2 hV HRo hcells hg hb0 hb1 hb2 hbw1 HF4
    subst h4
    go_wp2_with ((try rw [HW2.out]); refine wpl_store 24 _ _ rfl _ (adr false z16) rfl rfl _ _ HB2.out 17 Tryz.infoAddr rfl rfl (adr_one _ _) rfl ?_; rw [HV.out])
    go_loopw [18] (fun i wr => ∃ (k : Nat) (ns : List Nat), k ≤ 4 ∧ i = .int .i64 k ∧ Hid (ns.length = k ∧ (∀ j x, j < k → ps[j]? = some x → num10 x = some (ns.getD j 0)) ∧ Blk wr w1.heap.size 24 (adr false (rowOf ns 16)) ∧ Row wr g ps ∧ Blk wr w.heap.size 24 (adr false z16) ∧ Below w.heap.size w wr)) (fun i _ => 4 - (intOf i).toNat)
    case atStart => exact ⟨0, [], Nat.zero_le _, rfl, rfl, fun j x h => by omega, HQ.out.1, HRw.out, HQ.out.2⟩
    case round =>
      obtain ⟨k, ns, hk, rfl, hh⟩ := hrel
      clear HQ HRw
      by_cases hlt : k < 4
      · obtain ⟨hnl, hgs, hR, hRw, hB0r, hbr⟩ := hh.out
        have hkb : k < ps.length := by rw [← HN.out]; exact hlt
        have hx : ps[k]? = some ps[k] := List.getElem?_eq_getElem hkb
        have hlen := HPl.out ps[k] (List.getElem_mem hkb)
        have hcell := hRw k _ hx
        generalize ps[k] = x at hx hlen hcell
        obtain ⟨sx, hsx⟩ : ∃ t : ByteArray, t = ⟨x.toArray⟩ := ⟨_, rfl⟩
        have hdx : sx.data.toList = x := by rw [hsx]
        have hsz : sx.size = x.length := by rw [Lib.size_eq, hdx]
        rw [← hsx] at hcell
        have hcell0 : wr.cell? ⟨g, 0 + k, none⟩ = some (.string sx) := by rw [Nat.zero_add]; exact hcell
        have HNum : Hid (∀ w, Calls Tryz.prog 112 #[.string sx, .int .i64 10, .int .i64 3] w fun e w' => e = .returned (.int .i64 (numI 10 3 x)) ∧ w = w') := Lib.hid fun w => by
          have := number_any sx (by omega) 10 3 (by omega) (by omega) (by omega) w
          rw [hdx] at this
          exact this
        have HX := Lib.hid hx
        have HR := Lib.hid hR
        have HRw := Lib.hid hRw
        have HB0r := Lib.hid hB0r
        have Hbr := Lib.hid hbr
        have HG' := Lib.hid hgs
        have HNl := Lib.hid hnl
        have h48 : ∀ h : 1 < sx.size, x.head? = some (sx[0]'(Nat.lt_trans Nat.zero_lt_one h)) := fun h => by rw [← head_at sx h, hdx]
        have H48 := Lib.hid h48
        have HSz := Lib.hid hsz
        obtain ⟨v, hv⟩ : ∃ v, v = numI 10 3 x := ⟨_, rfl⟩
        rw [← hv] at HNum
        have HVv := Lib.hid hv
        clear hx hR hRw hbr hgs hnl hh hB0r hsx hdx hsz h48 hv hkb
        by_cases hneg : v < 0
        · have HNo : Hid (num10 x = none) := Lib.hid (num10_no x (.inl (by rw [← HVv.out]; exact hneg)))
          go_wp2_with fail
          refine (HNum.out wr).mono ?_
          rintro e w2 ⟨rfl, rfl⟩
          go_wp2_with (refine wpl_store 24 _ _ rfl _ (adr false z16) rfl rfl _ _ HB0r.out 17 Tryz.infoAddr rfl rfl (adr_one _ _) rfl ?_)
          exact retA2 rfl w.heap.size rfl _ _ _ (HB0r.out.row _) Tryz.underlying24 rfl 17 Tryz.infoAddr rfl rfl _ rfl (by rw [HF.out, allOf_none num10 ps k _ HX.out HNo.out]; exact ⟨rfl, below_setRow Hbr.out (Nat.le_refl _) _⟩)
        · by_cases hbig : 255 < v
          · have HNo : Hid (num10 x = none) := Lib.hid (num10_no x (.inr (by rw [← HVv.out]; exact hbig)))
            go_wp2_with fail
            refine (HNum.out wr).mono ?_
            rintro e w2 ⟨rfl, rfl⟩
            go_wp2_with (refine wpl_store 24 _ _ rfl _ (adr false z16) rfl rfl _ _ HB0r.out 17 Tryz.infoAddr rfl rfl (adr_one _ _) rfl ?_)
            exact retA2 rfl w.heap.size rfl _ _ _ (HB0r.out.row _) Tryz.underlying24 rfl 17 Tryz.infoAddr rfl rfl _ rfl (by rw [HF.out, allOf_none num10 ps k _ HX.out HNo.out]; exact ⟨rfl, below_setRow Hbr.out (Nat.le_refl _) _⟩)
          · obtain ⟨u, hu⟩ : ∃ u : Nat, v = u := ⟨v.toNat, by omega⟩
            subst hu
            by_cases h1 : 1 < sx.size
            · by_cases hz : sx[0] = 48
              · have q48 : ((sx[0].toNat : Int) == 48) = true := by rw [hz]; rfl
                have HNo : Hid (num10 x = none) := Lib.hid (num10_zero x ⟨by rw [← HSz.out]; exact h1, by rw [H48.out h1, hz]⟩)
                clear hz
                go_wp2_with fail
                refine (HNum.out wr).mono ?_
                rintro e w2 ⟨rfl, rfl⟩
                go_wp2_with (refine wpl_store 24 _ _ rfl _ (adr false z16) rfl rfl _ _ HB0r.out 17 Tryz.infoAddr rfl rfl (adr_one _ _) rfl ?_)
                exact retA2 rfl w.heap.size rfl _ _ _ (HB0r.out.row _) Tryz.underlying24 rfl 17 Tryz.infoAddr rfl rfl _ rfl (by rw [HF.out, allOf_none num10 ps k _ HX.out HNo.out]; exact ⟨rfl, below_setRow Hbr.out (Nat.le_refl _) _⟩)
              · have q48 : ((sx[0].toNat : Int) == 48) = false := by
                  rw [beq_eq_false_iff_ne]
                  intro e
                  exact hz (UInt8.toNat_inj.1 (by simpa using (Int.ofNat.inj e)))
                have HY : Hid (num10 x = some u) := Lib.hid (num10_of x u HVv.out.symm (by omega) (fun h => hz (Option.some.inj ((H48.out h1).symm.trans h.2))))
                clear hz
                have ec : IntKind.u8.wrap (u : Int) = (u : Int) := by simp only [IntKind.wrap, IntKind.signed, IntKind.bits]; simp; omega
                have hcl : wr.cell? ⟨w1.heap.size, 1 + k, none⟩ = some (.int .u8 (nth (rowOf ns 16) k)) := by rw [HR.out.cell, adr_at _ _ _ (by rw [rowOf_length _ _ (by rw [HNl.out]; omega)]; omega)]
                have hfz := HR.out.frozen (1 + k)
                go_wp2_with fail
                refine (HNum.out wr).mono ?_
                rintro e w2 ⟨rfl, rfl⟩
                go_wp2
                go_roundw
                case rel =>
                  refine ⟨k + 1, ns ++ [u], by omega, by go_num, by simp [HNl.out], fun j y hj hy => ?_, ?_, ?_, ?_, ?_⟩
                  · by_cases e : j = k
                    · subst e
                      rw [HX.out] at hy
                      cases hy
                      rw [HY.out, ← HNl.out]
                      simp
                    · rw [HG'.out j y (by omega) hy]
                      simp [List.getElem?_append_left (show j < ns.length by rw [HNl.out]; omega)]
                  · have := HR.out.set (1 + k) (.int .u8 (u : Int))
                    rw [adr_set, ← HNl.out, rowOf_set _ _ _ (by rw [HNl.out]; omega), HNl.out] at this
                    exact this
                  · exact HRw.out.set (by have := HG.out; omega)
                  · exact HB0r.out.setOther (by omega) _ _
                  · exact Hbr.out.setCell (by show w.heap.size ≤ w1.heap.size; omega) _
                case measure => simp [intOf]; omega
            · have HY : Hid (num10 x = some u) := Lib.hid (num10_of x u HVv.out.symm (by omega) (fun h => h1 (by rw [HSz.out]; exact h.1)))
              have ec : IntKind.u8.wrap (u : Int) = (u : Int) := by simp only [IntKind.wrap, IntKind.signed, IntKind.bits]; simp; omega
              have hcl : wr.cell? ⟨w1.heap.size, 1 + k, none⟩ = some (.int .u8 (nth (rowOf ns 16) k)) := by rw [HR.out.cell, adr_at _ _ _ (by rw [rowOf_length _ _ (by rw [HNl.out]; omega)]; omega)]
              have hfz := HR.out.frozen (1 + k)
              go_wp2_with fail
              refine (HNum.out wr).mono ?_
              rintro e w2 ⟨rfl, rfl⟩
              go_wp2
              go_roundw
              case rel =>
                refine ⟨k + 1, ns ++ [u], by omega, by go_num, by simp [HNl.out], fun j y hj hy => ?_, ?_, ?_, ?_, ?_⟩
                · by_cases e : j = k
                  · subst e
                    rw [HX.out] at hy
                    cases hy
                    rw [HY.out, ← HNl.out]
                    simp
                  · rw [HG'.out j y (by omega) hy]
                    simp [List.getElem?_append_left (show j < ns.length by rw [HNl.out]; omega)]
                · have := HR.out.set (1 + k) (.int .u8 (u : Int))
                  rw [adr_set, ← HNl.out, rowOf_set _ _ _ (by rw [HNl.out]; omega), HNl.out] at this
                  exact this
                · exact HRw.out.set (by have := HG.out; omega)
                · exact HB0r.out.setOther (by omega) _ _
                · exact Hbr.out.setCell (by show w.heap.size ≤ w1.heap.size; omega) _
              case measure => simp [intOf]; omega
      · obtain rfl : k = 4 := by omega
        obtain ⟨hnl, hgs, hR, hRw, hB0r, hbr⟩ := hh.out
        have HR := Lib.hid hR
        have HB0r := Lib.hid hB0r
        have Hbr := Lib.hid hbr
        have HNl := Lib.hid hnl
        have HSi : Hid (17 = (adr false (rowOf ns 16)).size) := Lib.hid (by rw [adr_size, rowOf_length _ _ (by omega)])
        have HY : Hid (R = some ns) := Lib.hid (by
          rw [HF.out]
          refine allOf_some num10 ps ns (by rw [hnl, ← HN.out]) (fun j x hx => hgs j x ?_ hx)
          have := (List.getElem?_eq_some_iff.1 hx).1
          rw [← HN.out] at this
          exact this)
        clear hR hB0r hbr hgs hnl hh hRw
        go_wp2_with (first | (refine wpl_load 24 _ rfl _ rfl _ _ _ HR.out Tryz.underlying24 rfl 17 Tryz.infoAddr HSi.out rfl ?_) | (refine wpl_store 24 _ _ rfl _ (adr false (rowOf ns 16)) rfl rfl _ _ HB0r.out 17 Tryz.infoAddr HSi.out rfl (adr_one _ _) rfl ?_))
        exact retA2 rfl w.heap.size rfl _ _ _ (HB0r.out.row _) Tryz.underlying24 rfl 17 Tryz.infoAddr HSi.out rfl _ rfl (by rw [HY.out]; exact ⟨rfl, below_setRow Hbr.out (Nat.le_refl _) _⟩)
  · have q4 : ((n : Int) != 4) = true := by rw [bne_iff_ne]; omega
    have HF4 : Hid (R = none) := Lib.hid (by rw [HF.out, if_neg (by rw [← HN.out]; exact h4)])
    have HL : Hid (Blk V w1.heap.size 24 (adr false z16)) := Lib.hid HQ.out.1
    have HB5 : Hid (Blk V w.heap.size 24 (adr false z16)) := Lib.hid HQ.out.2.1
    clear hB1 hW2 hB2 hV HRo hcells hg hb0 hb1 hb2 hbw1
    go_wp2_with ((try rw [HW2.out]); first | (refine wpl_store 24 _ _ rfl w1.heap.size (adr false z16) rfl rfl _ _ HB2.out 17 Tryz.infoAddr rfl rfl (adr_one _ _) rfl ?_; rw [HV.out]) | (refine wpl_load 24 _ rfl w1.heap.size rfl _ _ _ HL.out Tryz.underlying24 rfl 17 Tryz.infoAddr rfl rfl ?_) | (refine wpl_store 24 _ _ rfl w.heap.size (adr false z16) rfl rfl _ _ HB5.out 17 Tryz.infoAddr rfl rfl (adr_one _ _) rfl ?_))
    exact retA2 rfl w.heap.size rfl _ _ _ (HB5.out.row _) Tryz.underlying24 rfl 17 Tryz.infoAddr rfl rfl _ rfl (by rw [HF4.out]; exact ⟨rfl, below_setRow HQ.out.2.2 (Nat.le_refl _) _⟩)
end Go.Proofs.YtnfkgoeocebenaaGreatDoor
