/-
  The walks of addr.parseGroups and addr.parseFour.
-/
import Derived.Test.YtijboclcbbnhbaaGreatDoorHexc
namespace Go.Proofs.YtijboclcbbnhbaaGreatDoor
open Go.RowKit

/-- The groups of a text, none of the empty one. -/
def groups (l : List UInt8) : Option (List Nat) := if l = [] then some [] else allOf grp (pieces 58 l)

/-- What strings.Split tells, at a separator of one byte. -/
def parts (c : UInt8) (s : ByteArray) : List ByteArray := Lib.splitB ⟨#[c]⟩ 0 (Lib.countB s ⟨#[c]⟩) s
theorem parts_data (c : UInt8) (s : ByteArray) : (parts c s).map (·.data.toList) = pieces c s.data.toList := by
  unfold parts
  rw [Lib.splitB_data]
  exact split_piece c s.data.toList.length s.data.toList (Nat.le_refl _)
theorem parts_length (c : UInt8) (s : ByteArray) : (parts c s).length = Lib.countB s ⟨#[c]⟩ + 1 := by
  rw [← List.length_map (f := fun x : ByteArray => x.data.toList), parts_data, pieces_length]
theorem parts_at (c : UInt8) (s : ByteArray) (j : Nat) (h : j < (parts c s).length) : (pieces c s.data.toList)[j]? = some ((parts c s)[j].data.toList) := by
  rw [← parts_data, List.getElem?_map, List.getElem?_eq_getElem h]
  rfl
theorem parts_le (c : UInt8) (s : ByteArray) (j : Nat) (h : j < (parts c s).length) : (parts c s)[j].size ≤ s.size := by
  rw [Lib.size_eq, Lib.size_eq s]
  exact pieces_le c s.data.toList _ (List.mem_of_getElem? (parts_at c s j h))
theorem parts_max (c : UInt8) (s : ByteArray) : (parts c s).length ≤ s.size + 1 := by
  rw [parts_length]
  have := Lib.countB_le ⟨#[c]⟩ (by simp [ByteArray.size]) s.size s (Nat.le_refl _)
  omega

theorem split_any (c : UInt8) (s : ByteArray) (hs : s.size ≤ 100000) (E : Value) (w : World) (hE : Env E w) :
    Calls Tryz.prog 60 #[.string s, .string ⟨#[c]⟩] w fun e w' => e = .returned (.slice (some ⟨w.heap.size, 0, none⟩) (parts c s).length (parts c s).length) ∧ w' = w.alloc (.cells (strs (parts c s)) 9) := by
  obtain ⟨m, hm⟩ := hE.max
  refine (Tryz.strings_Split s ⟨#[c]⟩ m w (by omega) hm (by simp [ByteArray.size])).mono ?_
  rintro e w' ⟨rfl, rfl⟩
  rw [parts_length]
  exact ⟨rfl, rfl⟩

/-- Groups so far, then noughts. -/
def rowOf (ns : List Nat) (n : Nat) : List Int := ns.map (fun k : Nat => (k : Int)) ++ List.replicate (n - ns.length) 0
theorem rowOf_nil (n : Nat) : rowOf [] n = List.replicate n 0 := by simp [rowOf]
theorem rowOf_length (ns : List Nat) (n : Nat) (h : ns.length ≤ n) : (rowOf ns n).length = n := by simp [rowOf]; omega
theorem rowOf_full (ns : List Nat) (n : Nat) (h : ns.length = n) : rowOf ns n = ns.map (fun k : Nat => (k : Int)) := by simp [rowOf, h]
theorem rowOf_set (ns : List Nat) (n v : Nat) (h : ns.length < n) : (rowOf ns n).set ns.length (v : Int) = rowOf (ns ++ [v]) n := by
  unfold rowOf
  obtain ⟨m, hm⟩ : ∃ m, n - ns.length = m + 1 := ⟨n - ns.length - 1, by omega⟩
  rw [hm, List.set_append_right _ _ (by simp), List.replicate_succ]
  simp [show n - (ns.length + 1) = m by omega]

theorem Tryz.infoU16 : (Tryz.prog.info? 73).map (fun i => (i.zero, i.size, i.bytes)) = some (some (.int .u16 0), 1, 2) := by kernel_rfl

/-- Groups come back, in memory of their own. -/
def GrpsEnd (ns : List Nat) (w : World) (e : Ending) (w' : World) : Prop :=
  ∃ v, e = .returned (.tuple #[v, .bool true]) ∧ ((v = .slice none 0 0 ∧ ns = []) ∨ ∃ g, v = .slice (some ⟨g, 0, none⟩) ns.length ns.length ∧ w.heap.size ≤ g ∧ Blk w' g 73 (arr .u16 (ns.map (fun k : Nat => (k : Int))))) ∧ Below w.heap.size w w'
def NoGrps (w : World) (e : Ending) (w' : World) : Prop := e = .returned (.tuple #[.slice none 0 0, .bool false]) ∧ Below w.heap.size w w'

theorem nonempty_of {s : ByteArray} (h : s.data.toList ≠ []) : s.toList.isEmpty = false := by
  rw [← decide_eq_emptyBytes]
  exact decide_eq_false (fun e => h (by rw [e]; rfl))

set_option maxHeartbeats 1000000 in
theorem groups_empty (w : World) : Calls Tryz.prog 62 #[.string ⟨#[]⟩] w (GrpsEnd [] w) := by
  have hemp : (⟨#[]⟩ : ByteArray).toList.isEmpty = true := by rw [← decide_eq_emptyBytes]; rfl
  go_enter Tryz.func62, Tryz.ntmps62
  go_wp2
  go_ret2
  exact ⟨_, rfl, .inl ⟨rfl, rfl⟩, Below.refl _ _⟩

set_option maxRecDepth 100000 in
set_option maxHeartbeats 4000000 in
theorem groups_walk (s : ByteArray) (hs : s.size ≤ 1000) (hne : s.data.toList ≠ []) (E : Value) (w : World) (hE : Env E w) :
    Calls Tryz.prog 62 #[.string s] w fun e w' => (∃ ns, allOf grp (pieces 58 s.data.toList) = some ns ∧ GrpsEnd ns w e w') ∨ (allOf grp (pieces 58 s.data.toList) = none ∧ NoGrps w e w') := by
  have hemp := nonempty_of hne
  have HS := Lib.hid (split_any 58 s (by omega) E w hE)
  have hmax := parts_max 58 s
  have hlen := pieces_length 58 s.data.toList
  have hpl := parts_length 58 s
  have HA := Lib.hid (parts_at 58 s)
  have HP := Lib.hid (parts_le 58 s)
  have hpos : 0 < (parts 58 s).length := by rw [hpl]; omega
  have HLen : Hid ((pieces 58 s.data.toList).length = (parts 58 s).length) := Lib.hid (by rw [hlen, hpl])
  generalize pieces 58 s.data.toList = ps at HA HLen ⊢
  generalize parts 58 s = bs at HS hmax HA HP HLen hpos
  clear hlen hpl
  obtain ⟨W, hW⟩ : ∃ W, W = w.alloc (.cells (strs bs) 9) := ⟨_, rfl⟩
  have hB : Blk W w.heap.size 9 (strs bs) := hW ▸ Blk.new w _ _
  have hb0 : Below w.heap.size w W := hW ▸ (Below.refl _ _).alloc (Nat.le_refl _) _
  have hWs : W.heap.size = w.heap.size + 1 := by rw [hW]; simp
  rw [← hW] at HS
  have HB := Lib.hid hB
  have HE := Lib.hid hE
  have HWs := Lib.hid hWs
  clear hB hE hW hne hWs
  obtain ⟨n, hn⟩ : ∃ n, n = bs.length := ⟨_, rfl⟩
  rw [← hn] at HS hmax hpos HLen
  have HN := Lib.hid hn
  clear hn
  have HML : Hid (n ≤ maxLen) := Lib.hid (Nat.le_trans (show n ≤ 1001 by omega) (by decide))
  obtain ⟨i0, hi, hz0, hz1, hz2⟩ := info_parts Tryz.infoU16
  have hz3 := Lib.hid hz2
  go_enter Tryz.func62, Tryz.ntmps62
  go_wp2_with fail
  refine HS.out.mono ?_
  rintro e w' ⟨rfl, hw'⟩
  obtain rfl : W = w' := hw'.symm
  go_wp2_with (first | (refine wpList_make_full _ rfl (.tmp 15) (.tmp 15) 88 rfl W.heap.size 73 i0 (.int .u16 0) 1 Tryz.underlying88 hi hz0 hz1 .i64 .i64 n n n rfl rfl rfl rfl ?c1 ?c2 (Nat.le_refl _) ?_; rotate_right; intro w1 hown hgrow) | fail)
  case c1 => rw [hz3.out]; omega
  case c2 => exact HML.out
  clear hz3 hz2 hz1 hz0
  have hb1 : Below W.heap.size W w1 := (Below.refl _ _).grown hgrow (Nat.le_refl _) (fun k hk => by cases hk)
  have hR0 : Blk w1 W.heap.size 73 (arr .u16 (rowOf [] n)) := by
    have := own_blk hown
    rw [rowOf_nil]
    simpa [arr, Value.cells, toList_madeCells_one] using this
  have hB1 : Blk w1 w.heap.size 9 (strs bs) := HB.out.kept hb1
  have H1 : Hid (Blk w1 W.heap.size 73 (arr .u16 (rowOf [] n)) ∧ Blk w1 w.heap.size 9 (strs bs) ∧ Below w.heap.size w w1) := Lib.hid ⟨hR0, hB1, bel2 hb0 hb1⟩
  clear hown hgrow hR0 hB1
  go_loopw [19] (fun i wr => ∃ (k : Nat) (ns : List Nat), k ≤ n ∧ i = .int .i64 k ∧ Hid (ns.length = k ∧ (∀ j x, j < k → ps[j]? = some x → grp x = some (ns.getD j 0)) ∧ Blk wr W.heap.size 73 (arr .u16 (rowOf ns n)) ∧ Blk wr w.heap.size 9 (strs bs) ∧ Below w.heap.size w wr)) (fun i _ => n - (intOf i).toNat)
  case atStart => exact ⟨0, [], Nat.zero_le _, rfl, rfl, fun j x h => by omega, H1.out⟩
  case round =>
    obtain ⟨k, ns, hk, rfl, hh⟩ := hrel
    by_cases hlt : k < n
    · obtain ⟨hnl, hgs, hR, hBr, hbr⟩ := hh.out
      have hkb : k < bs.length := by rw [← HN.out]; exact hlt
      have hx := HA.out k hkb
      have hsz := HP.out k hkb
      have hcell : wr.cell? ⟨w.heap.size, k, none⟩ = some (.string bs[k]) := by rw [hBr.cell, strs_at bs k hkb]
      generalize bs[k] = x at hx hsz hcell
      have HX := Lib.hid hx
      have HR := Lib.hid hR
      have HBr := Lib.hid hBr
      have Hbr := Lib.hid hbr
      have HG := Lib.hid hgs
      have HNl := Lib.hid hnl
      clear hx hR hBr hbr hgs hnl hh
      have hcell0 : wr.cell? ⟨w.heap.size, 0 + k, none⟩ = some (.string x) := by rw [Nat.zero_add]; exact hcell
      by_cases hok : (hexB x.data.toList).1 = 0
      · obtain ⟨u, hu⟩ : ∃ u, u = (hexB x.data.toList).2 := ⟨_, rfl⟩
        have HU : Hid (hexB x.data.toList = (0, u)) := Lib.hid (by rw [hu, ← hok])
        clear hu hok
        by_cases h4 : x.size ≤ 4
        · have hg : grp x.data.toList = some u := grp_ok _ _ HU.out (by rw [← Lib.size_eq]; exact h4)
          have hu16 := grp_lt hg
          have HG1 := Lib.hid hg
          clear hg
          go_wp2_with fail
          refine (pu16_ok x (by omega) u HU.out wr).mono ?_
          rintro e w2 ⟨rfl, hb2⟩
          have hR2 := HR.out.kept hb2
          have hcl : w2.cell? ⟨W.heap.size, k, none⟩ = some (.int .u16 (nth (rowOf ns n) k)) := by rw [hR2.cell, arr_at _ _ _ (by rw [rowOf_length _ _ (by rw [HNl.out]; exact hk)]; exact hlt)]
          have hfz := hR2.frozen k
          have HR2 := Lib.hid hR2
          clear hR2
          go_wp2
          go_roundw
          case rel =>
            refine ⟨k + 1, ns ++ [u], by omega, by go_num, by simp [HNl.out], fun j y hj hy => ?_, ?_, ?_, ?_⟩
            · by_cases e : j = k
              · subst e
                rw [HX.out] at hy
                cases hy
                rw [HG1.out, ← HNl.out]
                simp
              · rw [HG.out j y (by omega) hy]
                simp [List.getElem?_append_left (show j < ns.length by rw [HNl.out]; omega)]
            · have := HR2.out.set k (.int .u16 (u : Int))
              rw [arr_set, ← HNl.out, rowOf_set _ _ _ (by rw [HNl.out]; exact hlt), HNl.out] at this
              exact this
            · exact (HBr.out.kept hb2).setOther (by rw [HWs.out]; omega) _ _
            · exact (bel2 Hbr.out hb2).setCell (by show w.heap.size ≤ W.heap.size; rw [HWs.out]; omega) _
          case measure => simp [intOf]; omega
        · have hg : grp x.data.toList = none := grp_long _ (by rw [← Lib.size_eq]; omega)
          have HG1 := Lib.hid hg
          clear hg
          go_wp2_with fail
          refine (pu16_ok x (by omega) u HU.out wr).mono ?_
          rintro e w2 ⟨rfl, hb2⟩
          go_wp2
          go_ret2
          exact .inr ⟨allOf_none grp ps k _ HX.out HG1.out, rfl, bel2 Hbr.out hb2⟩
      · have hg : grp x.data.toList = none := grp_bad _ hok
        have HG1 := Lib.hid hg
        have HK := Lib.hid hok
        clear hg hok
        go_wp2_with fail
        refine (pu16_bad x (by omega) HK.out E wr (HE.out.kept Hbr.out)).mono ?_
        rintro e w2 ⟨v, p, rfl, hb2⟩
        go_wp2
        go_ret2
        exact .inr ⟨allOf_none grp ps k _ HX.out HG1.out, rfl, bel2 Hbr.out hb2⟩
    · obtain rfl : k = n := by omega
      go_wp2
      go_ret2
      obtain ⟨hnl, hgs, hR, hBr, hbr⟩ := hh.out
      refine .inl ⟨ns, allOf_some grp ps ns (by rw [hnl, HLen.out]) (fun j x hx => hgs j x ?_ hx), _, rfl, .inr ⟨W.heap.size, by rw [hnl]; rfl, by rw [HWs.out]; omega, ?_⟩, hbr⟩
      · have := (List.getElem?_eq_some_iff.1 hx).1
        rw [HLen.out] at this
        exact this
      · rw [rowOf_full _ _ hnl] at hR
        exact hR
end Go.Proofs.YtijboclcbbnhbaaGreatDoor
