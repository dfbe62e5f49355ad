/-
  The walk of the document's Parse.
-/
import Derived.Test.YtnfkgoeocebenaaGreatDoorRab
import Derived.Test.YtnfkgoeocebenaaGreatDoorParsed
import Derived.Deep.Cut
import Derived.Deep.AppendLies
namespace Go.Proofs.YtnfkgoeocebenaaGreatDoor
open Go.RowKit

theorem extract_take (s : ByteArray) (c : Nat) : (s.extract 0 c).data.toList = s.data.toList.take c := by
  simp [ByteArray.data_extract, Array.toList_extract, List.extract_eq_take_drop]
theorem extract_drop (s : ByteArray) (c : Nat) : (s.extract c s.size).data.toList = s.data.toList.drop c := by
  simp only [ByteArray.data_extract, Array.toList_extract, List.extract_eq_take_drop]
  apply List.take_of_length_le
  rw [List.length_drop, ← Lib.size_eq]
  exact Nat.le_refl _

theorem Tryz.infoU8 : (Tryz.prog.info? 5).map (fun i => (i.zero, i.size, i.bytes)) = some (some (.int .u8 0), 1, 1) := by kernel_rfl

/-- What the scan for two colons has found so far. -/
def CutAt (l : List UInt8) (k : Nat) (ci : Int) : Prop := (ci = -1 ∧ ∀ j, k ≤ j → ¬ pairAt l j) ∨ ∃ c : Nat, ci = (c : Int) ∧ k ≤ c ∧ pairAt l c ∧ ∀ j, k ≤ j → j < c → ¬ pairAt l j

theorem six_of (l hd tl : List UInt8) (f : Bool) (hc : Lib.cut l [58, 58] = (hd, tl, f)) :
    six l = match groups hd, groups tl with
      | some a, some b => if (f = true ∧ a.length + b.length ≤ 7) ∨ (f = false ∧ a.length + b.length = 8) then some (a ++ (List.replicate (8 - a.length - b.length) 0 ++ b)) else none
      | _, _ => none := by
  unfold six
  rw [hc]
  rfl

theorem parsed_six (l : List UInt8) (h : (58 : UInt8) ∈ l) : parsed l = (six l).map fun g => (true, (by2 g).map (fun k : Nat => (k : Int))) := by
  unfold parsed
  rw [if_pos ((has_iff l).2 h)]
theorem parsed_four (l : List UInt8) (h : (58 : UInt8) ∉ l) : parsed l = (four l).map fun ns => (false, rowOf ns 16) := by
  unfold parsed
  rw [if_neg (fun h' => h ((has_iff l).1 h'))]

/-- How long a slice is. -/
def slLen : Value → Nat
  | .slice _ n _ => n
  | _ => 0

theorem cut_false {l a b sep : List UInt8} (h : Lib.cut l sep = (a, b, false)) : b = [] := by
  unfold Lib.cut at h
  split at h
  · simp at h
  · simp only [Prod.mk.injEq] at h
    exact h.2.1.symm

section
variable {P : Program}
/-- An append to a row that the call owns, at a step of a region that draws. -/
theorem step_append_own {ops : Array Oper} {o : Oper} {a : Act} {w : World} {K : Act → World → Prop} {Q : Exit → Act → World → Prop} {E : Prop} (hgd : o.guard = none) (s x : Operand) (t : TypeId)
    (ho : o.op = .call { callee := .builtin .append, args := #[s, x], argTypes := #[t, t] })
    (base : Nat) (e : TypeId) (i : TypeInfo) (z : Value) (size bytes : Nat) (ht : P.underlying t = some (.slice e)) (hi : P.info? e = some i) (hz : i.zero = some z)
    (hsize : i.size = size) (hby : i.bytes = bytes) (hzs : z.cells.size = size) (hsz : 0 < size)
    (v : Value) (n : Nat) (xs : List Value) (hs : a.eval s = v) (hown : w.ownsRow base e size v n xs)
    (ad : Addr) (m c : Nat) (news : List Value) (hx : a.eval x = .slice (some ad) m c) (hl : news.length = m * size) (hnews : ∀ j u, news[j]? = some u → w.cell? (ad.add j) = some u) (h1 : ∀ u ∈ news, u.oneCell' = true)
    (h63 : n + m ≤ maxLen) (hbytes : (n + m) * bytes ≤ 140737488355328) (hbase : base ≤ w.heap.size)
    (h : ∀ v' w', w'.ownsRow base e size v' (n + m) (xs ++ news) → w.grownBy w' v.ownBlock → K (a.put o.dst v') w') :
    if Region.wanted o (yielded ops a.tmps) = true then Oper.wp P o a w K Q else E := by
  rw [if_pos (by simp [Region.wanted, hgd])]
  exact wp_append_own w s x t ho base e i z size bytes ht hi hz hsize hby hzs hsz v n xs hs hown ad m c news hx hl hnews h1 h63 hbytes hbase fun v' w' h2 h3 _ => h v' w' h2 h3
end

theorem Tryz.oneU8 : (Tryz.prog.info? 5).map (·.size) = some 1 := by kernel_rfl

theorem splice_adr (sx : Bool) (l : List Nat) (h : l.length = 16) : (splice (adr sx z16).toList 1 (bcells l)).toArray = adr sx (l.map fun k : Nat => (k : Int)) := by
  unfold splice adr bcells
  simp [h]

set_option maxRecDepth 100000 in
set_option maxHeartbeats 8000000 in
theorem rparse_any (s : ByteArray) (hs : s.size ≤ 1000) (w : World) : Calls Tryz.prog 77 #[.string s] w (ROpt (parsed s.data.toList) w) := by
  obtain ⟨W0, hW0⟩ : ∃ W, W = w.alloc (.cells (adr false z16) 24) := ⟨_, rfl⟩
  have hB0 : Blk W0 w.heap.size 24 (adr false z16) := hW0 ▸ Blk.new w _ _
  have hb0 : Below w.heap.size w W0 := hW0 ▸ (Below.refl _ _).alloc (Nat.le_refl _) _
  have hW0s : W0.heap.size = w.heap.size + 1 := by rw [hW0]; simp
  have HW0 : Hid (w.alloc (.cells #[.bool false, .int .u8 0, .int .u8 0, .int .u8 0, .int .u8 0, .int .u8 0, .int .u8 0, .int .u8 0, .int .u8 0, .int .u8 0, .int .u8 0, .int .u8 0, .int .u8 0, .int .u8 0, .int .u8 0, .int .u8 0, .int .u8 0] 24) = W0) := Lib.hid hW0.symm
  have HB0 := Lib.hid hB0
  have Hb0 := Lib.hid hb0
  have HWs := Lib.hid hW0s
  have HLs := Lib.hid (Lib.size_eq s)
  obtain ⟨l, hl⟩ : ∃ l, l = s.data.toList := ⟨_, rfl⟩
  have HL := Lib.hid hl
  have HAt : Hid (∀ k, ∀ h : k < s.size, l[k]? = some s[k]) := Lib.hid fun k h => by rw [hl]; exact list_at s k h
  have HSz : Hid (l.length = s.size) := Lib.hid (by rw [hl, Lib.size_eq])
  rw [← hl] at HLs ⊢
  clear hW0 hB0 hb0 hl hW0s
  go_enter Tryz.func77, Tryz.ntmps77
  go_wp2
  rw [HW0.out]
  go_loop [4, 5] (fun h i => ∃ k : Nat, k ≤ s.size ∧ i = .int .i64 k ∧ ∃ b : Bool, h = .bool b ∧ Hid (b = true ↔ (58 : UInt8) ∈ l.take k)) (fun _ i => s.size - (intOf i).toNat)
  case atStart => exact ⟨0, Nat.zero_le _, rfl, false, rfl, (fun h => by cases h), fun h => by simp at h⟩
  case round =>
    obtain ⟨k, hk, rfl, b, rfl, hh⟩ := hrel
    by_cases hlt : k < s.size
    · have htk : l.take (k + 1) = l.take k ++ [s[k]] := by rw [List.take_add_one, HAt.out k hlt]; rfl
      cases b with
      | true =>
        have HX : Hid ((58 : UInt8) ∈ l.take (k + 1)) := Lib.hid (by rw [htk]; exact List.mem_append_left _ (hh.out.1 rfl))
        clear hh htk
        go_wp2
        go_round
        case rel => exact ⟨k + 1, by omega, by go_num, true, rfl, fun _ => HX.out, fun _ => rfl⟩
        case measure => simp [intOf]; omega
      | false =>
        by_cases hc : s[k] = 58
        · have qc : ((s[k].toNat : Int) == 58) = true := by rw [hc]; rfl
          have HX : Hid ((58 : UInt8) ∈ l.take (k + 1)) := Lib.hid (by rw [htk, hc]; simp)
          clear hh htk hc
          go_wp2
          go_round
          case rel => exact ⟨k + 1, by omega, by go_num, true, rfl, fun _ => HX.out, fun _ => rfl⟩
          case measure => simp [intOf]; omega
        · have qc : ((s[k].toNat : Int) == 58) = false := by
            rw [beq_eq_false_iff_ne]
            intro e
            exact hc (UInt8.toNat_inj.1 (by simpa using Int.ofNat.inj e))
          have HX : Hid ((58 : UInt8) ∉ l.take (k + 1)) := Lib.hid (by
            rw [htk, List.mem_append, List.mem_singleton]
            rintro (h | h)
            · exact absurd (hh.out.2 h) (by simp)
            · exact hc h.symm)
          clear hh htk hc
          go_wp2
          go_round
          case rel => exact ⟨k + 1, by omega, by go_num, false, rfl, (fun h => by cases h), fun h => absurd h HX.out⟩
          case measure => simp [intOf]; omega
    · obtain rfl : k = s.size := by omega
      have htk : l.take s.size = l := List.take_of_length_le (by rw [HSz.out]; exact Nat.le_refl _)
      rw [htk] at hh
      cases b with
      | false =>
        have hp := parsed_four l (fun h => absurd (hh.out.2 h) (by simp))
        have HF : Hid (∀ w, Calls Tryz.prog 110 #[.string s] w (ROpt (parsed l) w)) := Lib.hid fun w => by
          have := rfour_any s hs w
          rw [← HL.out] at this
          rw [hp]
          exact this
        have HPl : Hid (∀ sx bb, parsed l = some (sx, bb) → bb.length = 16) := Lib.hid fun sx bb h => by
          rw [hp] at h
          unfold four at h
          split at h
          · rename_i h4
            cases e : allOf num10 (pieces 46 l) with
            | none => rw [e] at h; cases h
            | some ns =>
              rw [e] at h
              cases h
              have := allOf_length num10 _ _ e
              exact rowOf_length _ _ (by omega)
          · cases h
        obtain ⟨r, hr⟩ : ∃ r, r = parsed l := ⟨_, rfl⟩
        rw [← hr] at HF HPl
        have HRr := Lib.hid hr
        clear hh htk hp hr
        go_wp2_with fail
        refine (HF.out W0).mono ?_
        rintro e w1 ⟨he, hb1⟩
        clear HF
        have HB1 := Lib.hid (HB0.out.kept hb1)
        have Hb1 := Lib.hid (bel2 Hb0.out hb1)
        cases r with
        | none =>
          subst he
          go_wp2_with (refine wpl_store 24 _ _ rfl _ (adr false z16) rfl rfl _ _ HB1.out 17 Tryz.infoAddr rfl rfl (adr_one _ _) rfl ?_)
          exact retA2 rfl w.heap.size rfl _ _ _ (HB1.out.row _) Tryz.underlying24 rfl 17 Tryz.infoAddr rfl rfl _ rfl (by rw [← HRr.out]; exact ⟨rfl, below_setRow Hb1.out (Nat.le_refl _) _⟩)
        | some x =>
          obtain ⟨sx, bb⟩ := x
          simp only at he
          subst he
          have HSi : Hid (17 = (adr sx bb).size) := Lib.hid (by rw [adr_size, HPl.out sx bb rfl])
          go_wp2_with (refine wpl_store 24 _ _ rfl _ (adr sx bb) rfl rfl _ _ HB1.out 17 Tryz.infoAddr HSi.out rfl (adr_one _ _) rfl ?_)
          exact retA2 rfl w.heap.size rfl _ _ _ (HB1.out.row _) Tryz.underlying24 rfl 17 Tryz.infoAddr HSi.out rfl _ rfl (by rw [← HRr.out]; exact ⟨rfl, below_setRow Hb1.out (Nat.le_refl _) _⟩)
      | true =>
        have hmem : (58 : UInt8) ∈ l := hh.out.1 rfl
        have hp := parsed_six l hmem
        have h1s : 1 ≤ s.size := by rw [← HSz.out]; exact List.length_pos_of_mem hmem
        have HP := Lib.hid hp
        have e0 : IntKind.i64.wrap ((s.size : Int) - 2) = (s.size : Int) - 2 := by simp only [IntKind.wrap, IntKind.signed, IntKind.bits]; simp; omega
        clear hh htk hp hmem
        go_wp2
        go_loop [6, 7] (fun c i => ∃ (k : Nat) (z ci : Int), k < s.size ∧ i = .int .i64 z ∧ z = (k : Int) - 1 ∧ c = .int .i64 ci ∧ -1 ≤ ci ∧ ci < 1000 ∧ Hid (CutAt l k ci)) (fun _ i => (intOf i + 1).toNat)
        case atStart =>
          refine ⟨s.size - 1, (s.size : Int) - 2, -1, by omega, rfl, by omega, rfl, by omega, by omega, .inl ⟨rfl, fun j hj h => ?_⟩⟩
          have := (List.getElem?_eq_some_iff.1 h.2).1
          rw [HSz.out] at this
          omega
        case round =>
          obtain ⟨k, z, ci, hk, rfl, hz, rfl, hc1, hc2, hh⟩ := hrel
          by_cases hk0 : k = 0
          · obtain rfl : z = -1 := by omega
            subst hk0
            have HCut := Lib.hid hh.out
            clear hz hk hh
            go_upto_if 59 with fail
            go_cut [8, 9] from 19 (fun h t wc => Hid (Blk wc w.heap.size 24 (adr false z16) ∧ Below w.heap.size w wc ∧ wc.heap.size = w.heap.size + 1) ∧ ∃ hd tl : ByteArray, h = .string hd ∧ t = .string tl ∧ hd.size ≤ 1000 ∧ tl.size ≤ 1000 ∧ (ci < 0 → 0 < hd.size) ∧ Hid (Lib.cut l [58, 58] = (hd.data.toList, tl.data.toList, decide (0 ≤ ci))))
            case first =>
              rcases HCut.out with ⟨h1, h2⟩ | ⟨c, h1, _, h3, h4⟩
              · subst h1
                have HX : Hid (Lib.cut l [58, 58] = (s.data.toList, ([] : List UInt8), decide ((0 : Int) ≤ -1))) := Lib.hid (by rw [cut_none2 l (fun j => h2 j (Nat.zero_le _)), ← HL.out]; rfl)
                clear h2
                go_wp2
                go_meet
                case rel => exact ⟨⟨HB0.out, Hb0.out, HWs.out⟩, s, ⟨#[]⟩, rfl, rfl, hs, by decide, fun _ => by omega, HX.out⟩
              · subst h1
                have hcl : c + 1 < s.size := by have := (List.getElem?_eq_some_iff.1 h3.2).1; rw [HSz.out] at this; exact this
                have HX : Hid (Lib.cut l [58, 58] = ((s.extract 0 c).data.toList, (s.extract (c + 2) s.size).data.toList, decide ((0 : Int) ≤ (c : Int)))) := Lib.hid (by
                  rw [cut_at l c h3 (fun j hj => h4 j (Nat.zero_le _) hj), extract_take, extract_drop, ← HL.out, decide_eq_true (by omega)])
                have HZ1 : Hid ((s.extract 0 c).size ≤ 1000 ∧ (s.extract (c + 2) s.size).size ≤ 1000) := Lib.hid (by
                  rw [Lib.size_eq, Lib.size_eq (s.extract (c + 2) s.size), extract_take, extract_drop, List.length_take, List.length_drop, ← HL.out, HSz.out]
                  omega)
                obtain ⟨c2, hc2'⟩ : ∃ c2, c2 = c + 2 := ⟨_, rfl⟩
                rw [← hc2'] at HX HZ1
                have e2 : IntKind.i64.wrap ((c : Int) + 2) = (c2 : Int) := by simp only [IntKind.wrap, IntKind.signed, IntKind.bits]; simp; omega
                have b1 : (0 : Int) ≤ (c : Int) := by omega
                have b2 : (c : Int) ≤ (s.size : Int) := by omega
                have b3 : (0 : Int) ≤ (c2 : Int) := by omega
                have b4 : (c2 : Int) ≤ (s.size : Int) := by omega
                clear h3 h4 hc2'
                go_wp2_with fail
                go_region
                go_wp2
                go_meet
                case rel => exact ⟨⟨HB0.out, bel2 Hb0.out (below_drewN W0 1), HWs.out⟩, s.extract 0 c, s.extract c2 s.size, rfl, rfl, HZ1.out.1, HZ1.out.2, fun h => by omega, HX.out⟩
            case rest =>
              obtain ⟨hW, hd, tl, rfl, rfl, hhd, htl, hpos, hcut'⟩ := hcut
              clear HCut HB0 Hb0 HWs HW0
              obtain ⟨hB0, hb0, hwsz⟩ := hW.out
              obtain ⟨W1, hW1⟩ : ∃ W, W = wc.alloc (.cells #[] 5) := ⟨_, rfl⟩
              obtain ⟨W2, hW2⟩ : ∃ W, W = W1.alloc (.cells #[] 5) := ⟨_, rfl⟩
              have hs1 : W1.heap.size = wc.heap.size + 1 := by rw [hW1]; simp
              have HAB : Hid (AB w W2 (w.heap.size + 1) 0 [] (w.heap.size + 1 + 1) 0 []) := Lib.hid (by
                have h1 : Own (w.heap.size + 1) W1 wc.heap.size 0 [] := hW1 ▸ World.ownsRow_made wc #[] 0 (by omega) (by decide) rfl
                have hb1 : Below wc.heap.size wc W1 := hW1 ▸ (Below.refl _ _).alloc (Nat.le_refl _) _
                have hb2 : Below W1.heap.size W1 W2 := hW2 ▸ (Below.refl _ _).alloc (Nat.le_refl _) _
                have h2 : Own (w.heap.size + 1) W2 W1.heap.size 0 [] := hW2 ▸ World.ownsRow_made W1 #[] 0 (by omega) (by decide) rfl
                rw [hs1, hwsz] at h2
                rw [hwsz] at h1
                exact ⟨h1.kept hb2, h2, by omega, (hB0.kept hb1).kept hb2, bel2 (bel2 hb0 hb1) hb2⟩)
              have HW1 := Lib.hid hW1.symm
              have HW2 := Lib.hid hW2.symm
              clear hB0 hb0 hW1 hW2 hW
              obtain ⟨gb, hgb⟩ : ∃ gb, gb = w.heap.size + 1 + 1 := ⟨_, rfl⟩
              rw [← hgb] at HAB
              obtain ⟨i0, hi0, hz0, hz1, hz2⟩ := info_parts Tryz.infoU8
              have HI := Lib.hid hi0
              have HZ0 := Lib.hid hz0
              have HZ1 := Lib.hid hz1
              have HZ2 := Lib.hid hz2
              clear hi0 hz0 hz1 hz2
              have HBad : Hid (groups hd.data.toList = none → parsed l = none) := Lib.hid fun h => by rw [HP.out, six_of l _ _ _ hcut'.out, h]; rfl
              go_upto_region 18 with fail
              rw [HW1.out]
              rw [HW2.out]
              rw [← hgb]
              clear hgb hs1 hwsz HW1 HW2
              go_cut [75] from 19 (fun t wx => wx = W2 ∧ t = .bool (decide (0 < hd.size)))
              case first =>
                by_cases hci : ci < 0
                · have q0 := hpos hci
                  have q1 : decide (0 < hd.size) = true := by simp [q0]
                  go_wp2
                  go_meet
                  case rel => exact ⟨rfl, by simp [q0]⟩
                · go_wp2
                  go_meet
                  case rel => exact ⟨rfl, by simp⟩
              case rest =>
              obtain ⟨hw, rfl⟩ := hcut
              rw [hw]
              clear hw
              go_upto_if 75 with fail
              go_cut [10] from 19 (fun a wx => ∃ ga ca m : Nat, a = .slice (some ⟨ga, 0, none⟩) m ca ∧ m ≤ 2004 ∧ Hid (∃ ns, groups hd.data.toList = some ns ∧ m = (by2 ns).length ∧ AB w wx ga ca (by2 ns) gb 0 []))
              case first =>
                by_cases hne : 0 < hd.size
                · have q : (decide (0 < hd.size)) = true := decide_eq_true hne
                  have hgr : groups hd.data.toList = allOf grp (pieces 58 hd.data.toList) := by
                    unfold groups
                    rw [if_neg]
                    intro e
                    have h0 : hd.size = 0 := by rw [Lib.size_eq, e]; rfl
                    omega
                  have HS : Hid (∀ w, Calls Tryz.prog 111 #[.string hd, .int .u8 58] w (SplitEnd (pieces 58 hd.data.toList) w)) := Lib.hid fun w => rsplit_any hd (by omega) 58 w
                  have HPl : Hid (∀ x ∈ pieces 58 hd.data.toList, x.length ≤ 1000) := Lib.hid fun x hx => by
                    have := pieces_le 58 hd.data.toList x hx
                    rw [← Lib.size_eq] at this
                    omega
                  have HMx : Hid ((pieces 58 hd.data.toList).length ≤ 1001) := Lib.hid (by
                    have := parts_max 58 hd
                    rw [parts_length] at this
                    have h3 := pieces_length 58 hd.data.toList
                    have h4 : Lib.countB hd ⟨#[58]⟩ = Lib.count hd.data.toList [58] := rfl
                    omega)
                  have HGr := Lib.hid hgr
                  have HAB0 : Hid (AB w W2 (w.heap.size + 1) 0 [] gb 0 []) := Lib.hid HAB.out
                  clear hgr
                  generalize pieces 58 hd.data.toList = ps at HS HPl HMx HGr
                  obtain ⟨n, hn⟩ : ∃ n, n = ps.length := ⟨_, rfl⟩
                  have hn1 : n ≤ 1001 := by rw [hn]; exact HMx.out
                  have HN := Lib.hid hn
                  clear hn
                  go_wp2_with fail
                  refine (HS.out W2).mono ?_
                  rintro e w3 ⟨g, cap, rfl, hg, hcells, hb3⟩
                  rw [← HN.out]
                  have HQ : Hid (AB w w3 (w.heap.size + 1) 0 [] gb 0 [] ∧ Row w3 g ps ∧ g ≠ w.heap.size + 1) := Lib.hid ⟨HAB0.out.kept hb3, hcells, by
                    have := HAB0.out.1.lt
                    omega⟩
                  clear hcells hg hb3
                  go_wp2_with fail
                  go_loopw [10, 79] (fun a i wr => ∃ (k ga' ca' m : Nat), k ≤ n ∧ i = .int .i64 k ∧ a = .slice (some ⟨ga', 0, none⟩) m ca' ∧ m ≤ 2 * k ∧ Hid (∃ ns' : List Nat, ns'.length = k ∧ m = (by2 ns').length ∧ (∀ j x, j < k → ps[j]? = some x → grp x = some (ns'.getD j 0)) ∧ AB w wr ga' ca' (by2 ns') gb 0 [] ∧ Row wr g ps ∧ g ≠ ga')) (fun _ i _ => n - (intOf i).toNat)
                  case atStart => exact ⟨0, w.heap.size + 1, 0, 0, Nat.zero_le _, rfl, rfl, by omega, [], rfl, rfl, (fun j x h => by omega), HQ.out⟩
                  case round =>
                    obtain ⟨k, ga', ca', m, hk, rfl, rfl, hm2, hh⟩ := hrel
                    clear HQ HAB0 HS
                    obtain ⟨ns', hnl, hml, hgs, hab, hrow, hgne⟩ := hh.out
                    by_cases hlt : k < n
                    · have hkb : k < ps.length := by rw [← HN.out]; exact hlt
                      have hx : ps[k]? = some ps[k] := List.getElem?_eq_getElem hkb
                      have hlen := HPl.out ps[k] (List.getElem_mem hkb)
                      have hcell := hrow k _ hx
                      generalize ps[k] = x at hx hlen hcell
                      obtain ⟨sx, hsx⟩ : ∃ t : ByteArray, t = ⟨x.toArray⟩ := ⟨_, rfl⟩
                      have hdx : sx.data.toList = x := by rw [hsx]
                      have hszx : sx.size = x.length := by rw [Lib.size_eq, hdx]
                      rw [← hsx] at hcell
                      have hcell0 : wr.cell? ⟨g, 0 + k, none⟩ = some (.string sx) := by rw [Nat.zero_add]; exact hcell
                      have HNum : Hid (∀ w, Calls Tryz.prog 112 #[.string sx, .int .i64 16, .int .i64 4] w fun e w' => e = .returned (.int .i64 (numI 16 4 x)) ∧ w = w') := Lib.hid fun w => by
                        have := number_any sx (by omega) 16 4 (by omega) (by omega) (by omega) w
                        rw [hdx] at this
                        exact this
                      obtain ⟨v, hv⟩ : ∃ v, v = numI 16 4 x := ⟨_, rfl⟩
                      rw [← hv] at HNum
                      have HVv := Lib.hid hv
                      have HX := Lib.hid hx
                      have HAB' := Lib.hid hab
                      have HRow := Lib.hid hrow
                      have HGs := Lib.hid hgs
                      have HNl := Lib.hid hnl
                      have HMl := Lib.hid hml
                      have HGne := Lib.hid hgne
                      clear hx hab hrow hgs hnl hh hsx hdx hszx hv hkb hml hgne
                      by_cases hneg : v < 0
                      · have HB0r : Hid (Blk wr w.heap.size 24 (adr false z16)) := Lib.hid HAB'.out.2.2.2.1
                        have HNo : Hid (parsed l = none) := Lib.hid (HBad.out (by rw [HGr.out]; exact allOf_none grp ps k _ HX.out (grp_no x (by rw [← HVv.out]; exact hneg))))
                        go_wp2_with fail
                        refine (HNum.out wr).mono ?_
                        rintro e w4 ⟨rfl, rfl⟩
                        go_wp2_with (refine wpl_store 24 _ _ rfl _ (adr false z16) rfl rfl _ _ HB0r.out 17 Tryz.infoAddr rfl rfl (adr_one _ _) rfl ?_)
                        exact retA2 rfl w.heap.size rfl _ _ _ (HB0r.out.row _) Tryz.underlying24 rfl 17 Tryz.infoAddr rfl rfl _ rfl (by rw [HNo.out]; exact ⟨rfl, below_setRow HAB'.out.2.2.2.2 (Nat.le_refl _) _⟩)
                      · obtain ⟨u, hu⟩ : ∃ u : Nat, v = u := ⟨v.toNat, by omega⟩
                        subst hu
                        have hgu : grp x = some u := grp_of x u HVv.out.symm
                        have hu6 := grp_lt hgu
                        have HY := Lib.hid hgu
                        obtain ⟨qq, hqq⟩ : ∃ q : Nat, q = u / 256 := ⟨_, rfl⟩
                        obtain ⟨rr, hrr⟩ : ∃ r : Nat, r = u % 256 := ⟨_, rfl⟩
                        have e1 : IntKind.i64.wrap ((u : Int) / 256) = (qq : Int) := by simp only [IntKind.wrap, IntKind.signed, IntKind.bits]; simp; omega
                        have e1' : IntKind.i64.wrap ((u : Int).tdiv 256) = (qq : Int) := by rw [Int.tdiv_eq_ediv_of_nonneg (by omega)]; exact e1
                        have e2 : (u : Int).tmod 256 = (rr : Int) := by rw [Int.tmod_eq_emod_of_nonneg (by omega)]; omega
                        have e3 : (u : Int) % 256 = (rr : Int) := by omega
                        have e4 : IntKind.i64.wrap (rr : Int) = (rr : Int) := by simp only [IntKind.wrap, IntKind.signed, IntKind.bits]; simp; omega
                        have e5 : IntKind.u8.wrap (qq : Int) = (qq : Int) := by simp only [IntKind.wrap, IntKind.signed, IntKind.bits]; simp; omega
                        have e6 : IntKind.u8.wrap (rr : Int) = (rr : Int) := by simp only [IntKind.wrap, IntKind.signed, IntKind.bits]; simp; omega
                        have HQr : Hid (by2 (ns' ++ [u]) = by2 ns' ++ [qq, rr]) := Lib.hid (by rw [by2_append, hqq, hrr]; rfl)
                        obtain ⟨W4, hW4⟩ : ∃ W, W = wr.alloc (.cells #[.int .u8 (qq : Int), .int .u8 (rr : Int)] 5) := ⟨_, rfl⟩
                        have hb4 : Below wr.heap.size wr W4 := hW4 ▸ (Below.refl _ _).alloc (Nat.le_refl _) _
                        have HW4 := Lib.hid hW4.symm
                        have HA4 : Hid (AB w W4 ga' ca' (by2 ns') gb 0 []) := Lib.hid (HAB'.out.kept hb4)
                        have HO4 : Hid (W4.ownsRow (w.heap.size + 1) 5 1 (.slice (some ⟨ga', 0, none⟩) m ca') m (bcells (by2 ns'))) := Lib.hid (by have := HA4.out.1; unfold Own at this; rw [← HMl.out] at this; exact this)
                        have HRow4 := Lib.hid (HRow.out.kept hb4)
                        have HNw : Hid (∀ j u, ([.int .u8 (qq : Int), .int .u8 (rr : Int)] : List Value)[j]? = some u → W4.cell? ((⟨wr.heap.size, 0, none⟩ : Addr).add j) = some u) := Lib.hid (hW4 ▸ World.news_of_block (cs := #[.int .u8 (qq : Int), .int .u8 (rr : Int)]) (t := 5) (fr := (0, 0)) (heap_alloc_new wr _))
                        have hws : W4.heap.size = wr.heap.size + 1 := by rw [hW4]; simp
                        have HWs4 := Lib.hid hws
                        clear hW4 hb4 hqq hrr hgu hws
                        go_wp2_with fail
                        refine (HNum.out wr).mono ?_
                        rintro e w4 ⟨rfl, rfl⟩
                        go_wp2_with ((try rw [HW4.out]); at_builtin; refine wpList_append_lies _ rfl (.tmp 88) (.tmp 95) 25 rfl (w.heap.size + 1) 5 i0 (.int .u8 0) 1 1 Tryz.underlying25 HI.out HZ0.out HZ1.out HZ2.out rfl (by decide) _ m (bcells (by2 ns')) rfl HO4.out ⟨wr.heap.size, 0, none⟩ 2 2 [.int .u8 (qq : Int), .int .u8 (rr : Int)] rfl rfl HNw.out ?d1 (by decide) ?d2 ?d3 ?d4 W4.heap.size rfl ?_; rotate_right; intro g5 c5 w5 hown hgrow hat hlt5)
                        case d1 => intro u hu; simp only [List.mem_cons, List.not_mem_nil, or_false] at hu; rcases hu with rfl | rfl <;> rfl
                        case d2 => show m + 2 ≤ maxLen; unfold maxLen; omega
                        case d3 => omega
                        case d4 => have := HA4.out.1.lt; omega
                        have HE : Hid (AB w w5 g5 c5 (by2 (ns' ++ [u])) gb 0 [] ∧ Row w5 g ps ∧ g ≠ g5) := Lib.hid (by
                          have hown' : w5.ownsRow (w.heap.size + 1) 5 1 (.slice (some ⟨g5, 0, none⟩) ((by2 ns').length + 2) c5) ((by2 ns').length + 2) (bcells (by2 ns') ++ bcells [qq, rr]) := by rw [← HMl.out]; exact hown
                          have h := AB.app HA4.out 2 (xs := [qq, rr]) rfl hown' hgrow hat
                          rw [← HQr.out] at h
                          refine ⟨h, HRow4.out.grown hgrow HGne.out, ?_⟩
                          have hgl := cell_lt (HRow.out k _ HX.out)
                          rcases hat with e | e
                          · cases e; exact HGne.out
                          · have := HWs4.out; omega)
                        clear hown hgrow hat hlt5
                        exact ⟨⟨k + 1, g5, c5, m + 2, by omega, by go_num, rfl, by omega, ns' ++ [u], by simp [HNl.out], by rw [by2_append, List.length_append, ← HMl.out]; rfl, fun j y hj hy => by
                          by_cases e : j = k
                          · subst e
                            rw [HX.out] at hy
                            cases hy
                            rw [HY.out, ← HNl.out]
                            simp
                          · rw [HGs.out j y (by omega) hy]
                            simp [List.getElem?_append_left (show j < ns'.length by rw [HNl.out]; omega)], HE.out⟩, by simp [intOf]; omega⟩
                    · obtain rfl : k = n := by omega
                      have HR : Hid (groups hd.data.toList = some ns') := Lib.hid (by
                        rw [HGr.out]
                        refine allOf_some grp ps ns' (by rw [hnl, HN.out]) (fun j x hx => hgs j x ?_ hx)
                        have := (List.getElem?_eq_some_iff.1 hx).1
                        rw [← HN.out] at this
                        exact this)
                      have HE : Hid (AB w wr ga' ca' (by2 ns') gb 0 []) := Lib.hid hab
                      have HMl := Lib.hid hml
                      clear hh hab hrow hgs hnl hgne hml
                      go_wp2
                      go_meet
                      case rel => exact ⟨ga', ca', m, rfl, by omega, ns', HR.out, HMl.out, HE.out⟩
                · have q : (decide (0 < hd.size)) = false := decide_eq_false hne
                  have HG0 : Hid (groups hd.data.toList = some []) := Lib.hid (by
                    unfold groups
                    rw [if_pos]
                    apply List.eq_nil_of_length_eq_zero
                    rw [← Lib.size_eq]
                    omega)
                  go_wp2
                  go_meet
                  case rel => exact ⟨w.heap.size + 1, 0, 0, rfl, by omega, [], HG0.out, rfl, HAB.out⟩
              case rest =>
                obtain ⟨ga, ca, m, rfl, hm, hA⟩ := hcut
                obtain ⟨ns, hgn, hml, hab⟩ := hA.out
                have HAB := Lib.hid hab
                have HGn := Lib.hid hgn
                have HBad : Hid (groups tl.data.toList = none → parsed l = none) := Lib.hid fun h => by rw [HP.out, six_of l _ _ _ hcut'.out, hgn, h]; rfl
                have HMl := Lib.hid hml
                clear hA hgn hml hab
                go_upto_if 100 with fail
                go_cut [11] from 19 (fun b wx => ∃ gb cb m : Nat, b = .slice (some ⟨gb, 0, none⟩) m cb ∧ m ≤ 2004 ∧ Hid (∃ ms, groups tl.data.toList = some ms ∧ m = (by2 ms).length ∧ AB w wx ga ca (by2 ns) gb cb (by2 ms)))
                case first =>
                  by_cases hne : 0 < tl.size
                  · have q : (decide (0 < tl.size)) = true := decide_eq_true hne
                    have hgr : groups tl.data.toList = allOf grp (pieces 58 tl.data.toList) := by
                      unfold groups
                      rw [if_neg]
                      intro e
                      have h0 : tl.size = 0 := by rw [Lib.size_eq, e]; rfl
                      omega
                    have HS : Hid (∀ w, Calls Tryz.prog 111 #[.string tl, .int .u8 58] w (SplitEnd (pieces 58 tl.data.toList) w)) := Lib.hid fun w => rsplit_any tl (by omega) 58 w
                    have HPl : Hid (∀ x ∈ pieces 58 tl.data.toList, x.length ≤ 1000) := Lib.hid fun x hx => by
                      have := pieces_le 58 tl.data.toList x hx
                      rw [← Lib.size_eq] at this
                      omega
                    have HMx : Hid ((pieces 58 tl.data.toList).length ≤ 1001) := Lib.hid (by
                      have := parts_max 58 tl
                      rw [parts_length] at this
                      have h3 := pieces_length 58 tl.data.toList
                      have h4 : Lib.countB tl ⟨#[58]⟩ = Lib.count tl.data.toList [58] := rfl
                      omega)
                    have HGr := Lib.hid hgr
                    have HAB0 : Hid (AB w wc (gb) 0 [] ga ca (by2 ns)) := Lib.hid HAB.out.flip
                    clear hgr
                    generalize pieces 58 tl.data.toList = ps at HS HPl HMx HGr
                    obtain ⟨n, hn⟩ : ∃ n, n = ps.length := ⟨_, rfl⟩
                    have hn1 : n ≤ 1001 := by rw [hn]; exact HMx.out
                    have HN := Lib.hid hn
                    clear hn
                    go_wp2_with fail
                    refine (HS.out wc).mono ?_
                    rintro e w3 ⟨g, cap, rfl, hg, hcells, hb3⟩
                    rw [← HN.out]
                    have HQ : Hid (AB w w3 (gb) 0 [] ga ca (by2 ns) ∧ Row w3 g ps ∧ g ≠ gb) := Lib.hid ⟨HAB0.out.kept hb3, hcells, by
                      have := HAB0.out.1.lt
                      omega⟩
                    clear hcells hg hb3
                    go_wp2_with fail
                    go_loopw [11, 104] (fun a i wr => ∃ (k ga' ca' m : Nat), k ≤ n ∧ i = .int .i64 k ∧ a = .slice (some ⟨ga', 0, none⟩) m ca' ∧ m ≤ 2 * k ∧ Hid (∃ ns' : List Nat, ns'.length = k ∧ m = (by2 ns').length ∧ (∀ j x, j < k → ps[j]? = some x → grp x = some (ns'.getD j 0)) ∧ AB w wr ga' ca' (by2 ns') ga ca (by2 ns) ∧ Row wr g ps ∧ g ≠ ga')) (fun _ i _ => n - (intOf i).toNat)
                    case atStart => exact ⟨0, gb, 0, 0, Nat.zero_le _, rfl, rfl, by omega, [], rfl, rfl, (fun j x h => by omega), HQ.out⟩
                    case round =>
                      obtain ⟨k, ga', ca', m, hk, rfl, rfl, hm2, hh⟩ := hrel
                      clear HQ HAB0 HS
                      obtain ⟨ns', hnl, hml, hgs, hab, hrow, hgne⟩ := hh.out
                      by_cases hlt : k < n
                      · have hkb : k < ps.length := by rw [← HN.out]; exact hlt
                        have hx : ps[k]? = some ps[k] := List.getElem?_eq_getElem hkb
                        have hlen := HPl.out ps[k] (List.getElem_mem hkb)
                        have hcell := hrow k _ hx
                        generalize ps[k] = x at hx hlen hcell
                        obtain ⟨sx, hsx⟩ : ∃ t : ByteArray, t = ⟨x.toArray⟩ := ⟨_, rfl⟩
                        have hdx : sx.data.toList = x := by rw [hsx]
                        have hszx : sx.size = x.length := by rw [Lib.size_eq, hdx]
                        rw [← hsx] at hcell
                        have hcell0 : wr.cell? ⟨g, 0 + k, none⟩ = some (.string sx) := by rw [Nat.zero_add]; exact hcell
                        have HNum : Hid (∀ w, Calls Tryz.prog 112 #[.string sx, .int .i64 16, .int .i64 4] w fun e w' => e = .returned (.int .i64 (numI 16 4 x)) ∧ w = w') := Lib.hid fun w => by
                          have := number_any sx (by omega) 16 4 (by omega) (by omega) (by omega) w
                          rw [hdx] at this
                          exact this
                        obtain ⟨v, hv⟩ : ∃ v, v = numI 16 4 x := ⟨_, rfl⟩
                        rw [← hv] at HNum
                        have HVv := Lib.hid hv
                        have HX := Lib.hid hx
                        have HAB' := Lib.hid hab
                        have HRow := Lib.hid hrow
                        have HGs := Lib.hid hgs
                        have HNl := Lib.hid hnl
                        have HMl := Lib.hid hml
                        have HGne := Lib.hid hgne
                        clear hx hab hrow hgs hnl hh hsx hdx hszx hv hkb hml hgne
                        by_cases hneg : v < 0
                        · have HB0r : Hid (Blk wr w.heap.size 24 (adr false z16)) := Lib.hid HAB'.out.2.2.2.1
                          have HNo : Hid (parsed l = none) := Lib.hid (HBad.out (by rw [HGr.out]; exact allOf_none grp ps k _ HX.out (grp_no x (by rw [← HVv.out]; exact hneg))))
                          go_wp2_with fail
                          refine (HNum.out wr).mono ?_
                          rintro e w4 ⟨rfl, rfl⟩
                          go_wp2_with (refine wpl_store 24 _ _ rfl _ (adr false z16) rfl rfl _ _ HB0r.out 17 Tryz.infoAddr rfl rfl (adr_one _ _) rfl ?_)
                          exact retA2 rfl w.heap.size rfl _ _ _ (HB0r.out.row _) Tryz.underlying24 rfl 17 Tryz.infoAddr rfl rfl _ rfl (by rw [HNo.out]; exact ⟨rfl, below_setRow HAB'.out.2.2.2.2 (Nat.le_refl _) _⟩)
                        · obtain ⟨u, hu⟩ : ∃ u : Nat, v = u := ⟨v.toNat, by omega⟩
                          subst hu
                          have hgu : grp x = some u := grp_of x u HVv.out.symm
                          have hu6 := grp_lt hgu
                          have HY := Lib.hid hgu
                          obtain ⟨qq, hqq⟩ : ∃ q : Nat, q = u / 256 := ⟨_, rfl⟩
                          obtain ⟨rr, hrr⟩ : ∃ r : Nat, r = u % 256 := ⟨_, rfl⟩
                          have e1 : IntKind.i64.wrap ((u : Int) / 256) = (qq : Int) := by simp only [IntKind.wrap, IntKind.signed, IntKind.bits]; simp; omega
                          have e1' : IntKind.i64.wrap ((u : Int).tdiv 256) = (qq : Int) := by rw [Int.tdiv_eq_ediv_of_nonneg (by omega)]; exact e1
                          have e2 : (u : Int).tmod 256 = (rr : Int) := by rw [Int.tmod_eq_emod_of_nonneg (by omega)]; omega
                          have e3 : (u : Int) % 256 = (rr : Int) := by omega
                          have e4 : IntKind.i64.wrap (rr : Int) = (rr : Int) := by simp only [IntKind.wrap, IntKind.signed, IntKind.bits]; simp; omega
                          have e5 : IntKind.u8.wrap (qq : Int) = (qq : Int) := by simp only [IntKind.wrap, IntKind.signed, IntKind.bits]; simp; omega
                          have e6 : IntKind.u8.wrap (rr : Int) = (rr : Int) := by simp only [IntKind.wrap, IntKind.signed, IntKind.bits]; simp; omega
                          have HQr : Hid (by2 (ns' ++ [u]) = by2 ns' ++ [qq, rr]) := Lib.hid (by rw [by2_append, hqq, hrr]; rfl)
                          obtain ⟨W4, hW4⟩ : ∃ W, W = wr.alloc (.cells #[.int .u8 (qq : Int), .int .u8 (rr : Int)] 5) := ⟨_, rfl⟩
                          have hb4 : Below wr.heap.size wr W4 := hW4 ▸ (Below.refl _ _).alloc (Nat.le_refl _) _
                          have HW4 := Lib.hid hW4.symm
                          have HA4 : Hid (AB w W4 ga' ca' (by2 ns') ga ca (by2 ns)) := Lib.hid (HAB'.out.kept hb4)
                          have HO4 : Hid (W4.ownsRow (w.heap.size + 1) 5 1 (.slice (some ⟨ga', 0, none⟩) m ca') m (bcells (by2 ns'))) := Lib.hid (by have := HA4.out.1; unfold Own at this; rw [← HMl.out] at this; exact this)
                          have HRow4 := Lib.hid (HRow.out.kept hb4)
                          have HNw : Hid (∀ j u, ([.int .u8 (qq : Int), .int .u8 (rr : Int)] : List Value)[j]? = some u → W4.cell? ((⟨wr.heap.size, 0, none⟩ : Addr).add j) = some u) := Lib.hid (hW4 ▸ World.news_of_block (cs := #[.int .u8 (qq : Int), .int .u8 (rr : Int)]) (t := 5) (fr := (0, 0)) (heap_alloc_new wr _))
                          have hws : W4.heap.size = wr.heap.size + 1 := by rw [hW4]; simp
                          have HWs4 := Lib.hid hws
                          clear hW4 hb4 hqq hrr hgu hws
                          go_wp2_with fail
                          refine (HNum.out wr).mono ?_
                          rintro e w4 ⟨rfl, rfl⟩
                          go_wp2_with ((try rw [HW4.out]); at_builtin; refine wpList_append_lies _ rfl (.tmp 113) (.tmp 120) 25 rfl (w.heap.size + 1) 5 i0 (.int .u8 0) 1 1 Tryz.underlying25 HI.out HZ0.out HZ1.out HZ2.out rfl (by decide) _ m (bcells (by2 ns')) rfl HO4.out ⟨wr.heap.size, 0, none⟩ 2 2 [.int .u8 (qq : Int), .int .u8 (rr : Int)] rfl rfl HNw.out ?d1 (by decide) ?d2 ?d3 ?d4 W4.heap.size rfl ?_; rotate_right; intro g5 c5 w5 hown hgrow hat hlt5)
                          case d1 => intro u hu; simp only [List.mem_cons, List.not_mem_nil, or_false] at hu; rcases hu with rfl | rfl <;> rfl
                          case d2 => show m + 2 ≤ maxLen; unfold maxLen; omega
                          case d3 => omega
                          case d4 => have := HA4.out.1.lt; omega
                          have HE : Hid (AB w w5 g5 c5 (by2 (ns' ++ [u])) ga ca (by2 ns) ∧ Row w5 g ps ∧ g ≠ g5) := Lib.hid (by
                            have hown' : w5.ownsRow (w.heap.size + 1) 5 1 (.slice (some ⟨g5, 0, none⟩) ((by2 ns').length + 2) c5) ((by2 ns').length + 2) (bcells (by2 ns') ++ bcells [qq, rr]) := by rw [← HMl.out]; exact hown
                            have h := AB.app HA4.out 2 (xs := [qq, rr]) rfl hown' hgrow hat
                            rw [← HQr.out] at h
                            refine ⟨h, HRow4.out.grown hgrow HGne.out, ?_⟩
                            have hgl := cell_lt (HRow.out k _ HX.out)
                            rcases hat with e | e
                            · cases e; exact HGne.out
                            · have := HWs4.out; omega)
                          clear hown hgrow hat hlt5
                          exact ⟨⟨k + 1, g5, c5, m + 2, by omega, by go_num, rfl, by omega, ns' ++ [u], by simp [HNl.out], by rw [by2_append, List.length_append, ← HMl.out]; rfl, fun j y hj hy => by
                            by_cases e : j = k
                            · subst e
                              rw [HX.out] at hy
                              cases hy
                              rw [HY.out, ← HNl.out]
                              simp
                            · rw [HGs.out j y (by omega) hy]
                              simp [List.getElem?_append_left (show j < ns'.length by rw [HNl.out]; omega)], HE.out⟩, by simp [intOf]; omega⟩
                      · obtain rfl : k = n := by omega
                        have HR : Hid (groups tl.data.toList = some ns') := Lib.hid (by
                          rw [HGr.out]
                          refine allOf_some grp ps ns' (by rw [hnl, HN.out]) (fun j x hx => hgs j x ?_ hx)
                          have := (List.getElem?_eq_some_iff.1 hx).1
                          rw [← HN.out] at this
                          exact this)
                        have HE : Hid (AB w wr ga' ca' (by2 ns') ga ca (by2 ns)) := Lib.hid hab
                        have HMl := Lib.hid hml
                        clear hh hab hrow hgs hnl hgne hml
                        go_wp2
                        go_meet
                        case rel => exact ⟨ga', ca', m, rfl, by omega, ns', HR.out, HMl.out, HE.out.flip⟩
                  · have q : (decide (0 < tl.size)) = false := decide_eq_false hne
                    have HG0 : Hid (groups tl.data.toList = some []) := Lib.hid (by
                      unfold groups
                      rw [if_pos]
                      apply List.eq_nil_of_length_eq_zero
                      rw [← Lib.size_eq]
                      omega)
                    go_wp2
                    go_meet
                    case rel => exact ⟨gb, 0, 0, rfl, by omega, [], HG0.out, rfl, HAB.out⟩
                case rest =>
                  obtain ⟨gb2, cb, mb, rfl, hmb, hB⟩ := hcut
                  obtain ⟨ms, hgm, hmm, hab⟩ := hB.out
                  have hln : m = 2 * ns.length := by rw [HMl.out, by2_length]
                  have hlm : mb = 2 * ms.length := by rw [hmm, by2_length]
                  have HMb := Lib.hid hmm
                  have HB0r : Hid (Blk wc w.heap.size 24 (adr false z16)) := Lib.hid hab.2.2.2.1
                  have HAB := Lib.hid hab
                  have hsix := six_of l _ _ _ hcut'.out
                  rw [HGn.out, hgm] at hsix
                  simp only at hsix
                  have hms0 : ci < 0 → ms = [] := fun h => by
                    have hd0 : decide (0 ≤ ci) = false := decide_eq_false (by omega)
                    have := hcut'.out
                    rw [hd0] at this
                    have := cut_false this
                    rw [this] at hgm
                    unfold groups at hgm
                    rw [if_pos rfl] at hgm
                    exact (Option.some.inj hgm).symm
                  have HBadI : Hid (¬ ((decide (0 ≤ ci) = true ∧ ns.length + ms.length ≤ 7) ∨ (decide (0 ≤ ci) = false ∧ ns.length + ms.length = 8)) → parsed l = none) := Lib.hid fun h => by rw [HP.out, hsix, if_neg h]; rfl
                  obtain ⟨G, hG⟩ : ∃ G, G = ns ++ (List.replicate (8 - ns.length - ms.length) 0 ++ ms) := ⟨_, rfl⟩
                  rw [← hG] at hsix
                  have HGoodI : Hid (((decide (0 ≤ ci) = true ∧ ns.length + ms.length ≤ 7) ∨ (decide (0 ≤ ci) = false ∧ ns.length + ms.length = 8)) → parsed l = some (true, (by2 G).map fun k : Nat => (k : Int))) := Lib.hid fun h => by rw [HP.out, hsix, if_pos h]; rfl
                  have HG := Lib.hid hG
                  have e3 : IntKind.i64.wrap ((m : Int) + (mb : Int)) = (m : Int) + (mb : Int) := by simp only [IntKind.wrap, IntKind.signed, IntKind.bits]; simp; omega
                  have hmb0 : ci < 0 → mb = 0 := fun h => by rw [hlm, hms0 h]; rfl
                  clear hB hgm hmm hab hsix hms0 hG
                  have hdec : (ci < 0 ∧ m = 16) ∨ (ci < 0 ∧ m ≠ 16) ∨ (¬ ci < 0 ∧ m + mb ≤ 14) ∨ (¬ ci < 0 ∧ ¬ m + mb ≤ 14) := by omega
                  have HAB2 : Hid (Below w.heap.size w wc) := Lib.hid HAB.out.2.2.2.2
                  rcases hdec with ⟨hci, h16⟩ | ⟨hci, h16⟩ | ⟨hci, h16⟩ | ⟨hci, h16⟩
                  · have hY := HGoodI.out (.inr ⟨decide_eq_false (by omega), by have := hmb0 hci; omega⟩)
                    have q16 : ((m : Int) != 16) = false := by rw [h16]; rfl
                    have h16' : m + mb ≤ 16 := by have := hmb0 hci; omega
                    clear h16
                    have HY0 := Lib.hid hY
                    have HLn := Lib.hid hln
                    have HLm := Lib.hid hlm
                    have hpq : 2 * (8 - ns.length - ms.length) = 16 - m - mb := by omega
                    have HPq := Lib.hid hpq
                    clear hY HGoodI HBadI HBad HB0r hln hlm hpq hmb0
                    go_wp2_with fail
                    go_loopw [10] (fun a wr => ∃ (ga' ca' m' p : Nat), a = .slice (some ⟨ga', 0, none⟩) m' ca' ∧ m' + mb ≤ 16 ∧ Hid (m' = m + p ∧ AB w wr ga' ca' (by2 ns ++ List.replicate p 0) gb2 cb (by2 ms))) (fun a _ => 16 - slLen a)
                    case atStart => exact ⟨ga, ca, m, 0, rfl, h16', rfl, by rw [List.replicate_zero, List.append_nil]; exact HAB.out⟩
                    case round =>
                      obtain ⟨ga', ca', m', p, rfl, hle, hh⟩ := hrel
                      obtain ⟨hmp, hab⟩ := hh.out
                      have eS : IntKind.i64.wrap ((m' : Int) + (mb : Int)) = (m' : Int) + (mb : Int) := by simp only [IntKind.wrap, IntKind.signed, IntKind.bits]; simp; omega
                      have hll : (by2 ns ++ List.replicate p 0).length = m' := by rw [List.length_append, List.length_replicate, ← HMl.out, hmp]
                      have HLl := Lib.hid hll
                      have HMp := Lib.hid hmp
                      by_cases hlt : m' + mb < 16
                      · have qlt : decide ((m' : Int) + (mb : Int) < 16) = true := by simp; omega
                        obtain ⟨W4, hW4⟩ : ∃ W, W = wr.alloc (.cells #[.int .u8 0] 5) := ⟨_, rfl⟩
                        have hb4 : Below wr.heap.size wr W4 := hW4 ▸ (Below.refl _ _).alloc (Nat.le_refl _) _
                        have HW4 := Lib.hid hW4.symm
                        have HA4 := Lib.hid (hab.kept hb4)
                        have HO4 : Hid (W4.ownsRow (w.heap.size + 1) 5 1 (.slice (some ⟨ga', 0, none⟩) m' ca') m' (bcells (by2 ns ++ List.replicate p 0))) := Lib.hid (by have := HA4.out.1; unfold Own at this; rw [hll] at this; exact this)
                        have HNw : Hid (∀ j u, ([.int .u8 0] : List Value)[j]? = some u → W4.cell? ((⟨wr.heap.size, 0, none⟩ : Addr).add j) = some u) := Lib.hid (hW4 ▸ World.news_of_block (cs := #[.int .u8 0]) (t := 5) (fr := (0, 0)) (heap_alloc_new wr _))
                        clear hW4 hb4 hab hh hmp hll
                        go_wp2_with ((try rw [HW4.out]); at_builtin; refine wpList_append_lies _ rfl (.tmp 149) (.tmp 150) 25 rfl (w.heap.size + 1) 5 i0 (.int .u8 0) 1 1 Tryz.underlying25 HI.out HZ0.out HZ1.out HZ2.out rfl (by decide) _ m' (bcells (by2 ns ++ List.replicate p 0)) rfl HO4.out ⟨wr.heap.size, 0, none⟩ 1 1 [.int .u8 0] rfl rfl HNw.out ?d1 (by decide) ?d2 ?d3 ?d4 W4.heap.size rfl ?_; rotate_right; intro g5 c5 w5 hown hgrow hat hlt5)
                        case d1 => intro u hu; simp only [List.mem_singleton] at hu; subst hu; rfl
                        case d2 => show m' + 1 ≤ maxLen; unfold maxLen; omega
                        case d3 => omega
                        case d4 => have := HA4.out.1.lt; omega
                        have HE : Hid (AB w w5 g5 c5 (by2 ns ++ List.replicate (p + 1) 0) gb2 cb (by2 ms)) := Lib.hid (by
                          have hown' : w5.ownsRow (w.heap.size + 1) 5 1 (.slice (some ⟨g5, 0, none⟩) ((by2 ns ++ List.replicate p 0).length + 1) c5) ((by2 ns ++ List.replicate p 0).length + 1) (bcells (by2 ns ++ List.replicate p 0) ++ bcells [0]) := by rw [HLl.out]; exact hown
                          have h := AB.app HA4.out 1 (xs := [0]) rfl hown' hgrow hat
                          rw [List.append_assoc, ← List.replicate_succ'] at h
                          exact h)
                        clear hown hgrow hat hlt5
                        exact ⟨⟨g5, c5, m' + 1, p + 1, rfl, by omega, by have := HMp.out; omega, HE.out⟩, by simp [slLen]; omega⟩
                      · have qlt : decide ((m' : Int) + (mb : Int) < 16) = false := by simp; omega
                        have h16e : m' + mb = 16 := by omega
                        obtain ⟨W5, hW5⟩ : ∃ W, W = wr.alloc (.cells (adr false z16) 24) := ⟨_, rfl⟩
                        have hb5 : Below wr.heap.size wr W5 := hW5 ▸ (Below.refl _ _).alloc (Nat.le_refl _) _
                        have hB5 : Blk W5 wr.heap.size 24 (adr false z16) := hW5 ▸ Blk.new wr _ _
                        have HW5 : Hid (wr.alloc (.cells #[.bool false, .int .u8 0, .int .u8 0, .int .u8 0, .int .u8 0, .int .u8 0, .int .u8 0, .int .u8 0, .int .u8 0, .int .u8 0, .int .u8 0, .int .u8 0, .int .u8 0, .int .u8 0, .int .u8 0, .int .u8 0, .int .u8 0] 24) = W5) := Lib.hid hW5.symm
                        have HB5 := Lib.hid hB5
                        obtain ⟨V, hV⟩ : ∃ V, V = W5.setRow wr.heap.size (adr true z16) := ⟨_, rfl⟩
                        have HV := Lib.hid hV.symm
                        have hgaL := hab.1.lt
                        have hgbL := hab.2.1.lt
                        have hbV : Below wr.heap.size wr V := hV ▸ below_setRow hb5 (Nat.le_refl _) _
                        have habV := hab.kept hbV
                        have HBV : Hid (Blk V wr.heap.size 24 (adr true z16)) := Lib.hid (hV ▸ hB5.row _)
                        have HOV : Hid (V.drew.ownsRow (w.heap.size + 1) 5 1 (.slice (some ⟨ga', 0, none⟩) m' ca') m' (bcells (by2 ns ++ List.replicate p 0))) := Lib.hid (by have := habV.1; unfold Own at this; rw [hll] at this; exact this)
                        have HNv : Hid (∀ j u, (bcells (by2 ms))[j]? = some u → V.drew.cell? ((⟨gb2, 0, none⟩ : Addr).add j) = some u) := Lib.hid (World.ownsRow.cells habV.2.1 rfl)
                        have hmsl : (bcells (by2 ms)).length = mb := by rw [bcells_length, ← HMb.out]
                        have HMs := Lib.hid hmsl
                        obtain ⟨L, hL⟩ : ∃ L, L = (by2 ns ++ List.replicate p 0) ++ by2 ms := ⟨_, rfl⟩
                        have hLb : bcells (by2 ns ++ List.replicate p 0) ++ bcells (by2 ms) = bcells L := by rw [hL, bcells_append (by2 ns ++ List.replicate p 0)]
                        have hLl : L.length = 16 := by rw [hL, List.length_append, hll, ← bcells_length (by2 ms), hmsl, h16e]
                        have hLG : L = by2 G := by
                          rw [hL, HG.out, by2_append, by2_append, by2_zeros, List.append_assoc, HPq.out]
                          congr 3
                          omega
                        have HLb := Lib.hid hLb
                        have HLl2 := Lib.hid hLl
                        have HLG := Lib.hid hLG
                        have HbV : Hid (Below w.heap.size w V) := Lib.hid habV.2.2.2.2
                        have HBV0 : Hid (Blk V w.heap.size 24 (adr false z16)) := Lib.hid habV.2.2.2.1
                        have hsz : w.heap.size < wr.heap.size := hab.2.2.2.1.lt
                        have hsz2 : wr.heap.size < V.heap.size := HBV.out.lt
                        have HGa : Hid (ga' < wr.heap.size) := Lib.hid hgaL.2
                        have Hsz2 := Lib.hid hsz2
                        clear hW5 hb5 hB5 hV hgaL hgbL habV hab hh hmp hll hmsl hL hLb hLl hLG hbV hsz2
                        go_wp2_with ((try rw [HW5.out]); refine wpl_store 24 _ _ rfl _ (adr true z16) rfl rfl _ _ HB5.out 17 Tryz.infoAddr rfl rfl (adr_one _ _) rfl ?_; rw [HV.out])
                        go_region_held3 (fun _ => True) (exact trivial) (first
                          | (refine step_append_own (by rfl) (.tmp 155) (.tmp 156) 25 (by rfl) (w.heap.size + 1) 5 i0 (.int .u8 0) 1 1 Tryz.underlying25 HI.out HZ0.out HZ1.out HZ2.out rfl (by decide) _ m' (bcells (by2 ns ++ List.replicate p 0)) (by rfl) HOV.out ⟨gb2, 0, none⟩ mb cb (bcells (by2 ms)) (by rfl) (by rw [HMs.out]; omega) HNv.out (bcells_one _) (by unfold maxLen; omega) (by omega) (by have := Hsz2.out; show w.heap.size + 1 ≤ V.heap.size; omega) ?_; intro v' w6 hown hgrow; rw [HLb.out] at hown; obtain ⟨g6, c6, rfl, hg6, hl6⟩ := hown.form (by omega))
                          | (refine step_copy_splice (by rfl) (.tmp 154) (.tmp 157) 25 25 (by rfl) 5 Tryz.underlying25 Tryz.oneU8 (some ⟨wr.heap.size, 1, none⟩) (some ⟨g6, 0, none⟩) 16 16 (m' + mb) c6 (by rfl) (by rfl) wr.heap.size 1 (adr true z16).toList 24 ((hgrow.block wr.heap.size Hsz2.out (by intro e; have e' : wr.heap.size = ga' := Option.some.inj e; have := HGa.out; omega)).trans HBV.out) (bcells L) (by rw [bcells_length, HLl2.out, h16e]; rfl) (fun _ => ⟨rfl, ⟨g6, 0, none⟩, rfl, World.ownsRow.cells hown rfl⟩) (by rw [bcells_length, HLl2.out]; decide) (bcells_one _) wr.heap.size w6 (Below.refl _ _) (Nat.le_refl _) ?_; intro w7 hB7 hb7))
                        have hne0 : some w.heap.size ≠ (some ga' : Option Nat) := by intro e; have := (HOV.out.lt _ e.symm).1; omega
                        have hbl6 : Below w.heap.size w w6 := (bel2 HbV.out (below_drewN V 1)).grown hgrow (by have := Hsz2.out; show w.heap.size ≤ V.heap.size; omega) (fun k hk => by have := (HOV.out.lt k hk).1; omega)
                        have HBl7 : Hid (Below w.heap.size w w7) := Lib.hid (hbl6.trans (hb7.mono (by omega)))
                        have HB06 : Hid (Blk w7 w.heap.size 24 (adr false z16)) := Lib.hid (by
                          unfold Blk
                          rw [hb7.block w.heap.size hsz, hgrow.block w.heap.size (by have := Hsz2.out; show w.heap.size < V.heap.size; omega) hne0]
                          exact HBV0.out)
                        have HB7 : Hid (Blk w7 wr.heap.size 24 (adr true (L.map fun k : Nat => (k : Int)))) := Lib.hid (by
                          have := hB7.out
                          rw [splice_adr true L HLl2.out] at this
                          exact this)
                        have HSi : Hid (17 = (adr true (L.map fun k : Nat => (k : Int))).size) := Lib.hid (by rw [adr_size, List.length_map, HLl2.out])
                        clear hne0 hbl6 hB7 hb7 hgrow hown hg6 hl6
                        go_wp2_with (first | (refine wpl_load 24 _ rfl wr.heap.size rfl _ _ _ HB7.out Tryz.underlying24 rfl 17 Tryz.infoAddr HSi.out rfl ?_) | (refine wpl_store 24 _ _ rfl w.heap.size (adr true (L.map fun k : Nat => (k : Int))) rfl rfl _ _ HB06.out 17 Tryz.infoAddr HSi.out rfl (adr_one _ _) rfl ?_))
                        exact retA2 rfl w.heap.size rfl _ _ _ (HB06.out.row _) Tryz.underlying24 rfl 17 Tryz.infoAddr HSi.out rfl _ rfl (by rw [HY0.out, ← HLG.out]; exact ⟨rfl, below_setRow HBl7.out (Nat.le_refl _) _⟩)
                  · have hN := HBadI.out (by rintro (⟨h, _⟩ | ⟨_, h⟩); have := of_decide_eq_true h; omega; have := hmb0 hci; omega)
                    have q16 : ((m : Int) != 16) = true := by rw [bne_iff_ne]; omega
                    have HN0 := Lib.hid hN
                    clear hN HAB HGoodI HBadI HG HBad hmb0
                    go_wp2_with (refine wpl_store 24 _ _ rfl _ (adr false z16) rfl rfl _ _ HB0r.out 17 Tryz.infoAddr rfl rfl (adr_one _ _) rfl ?_)
                    exact retA2 rfl w.heap.size rfl _ _ _ (HB0r.out.row _) Tryz.underlying24 rfl 17 Tryz.infoAddr rfl rfl _ rfl (by rw [HN0.out]; exact ⟨rfl, below_setRow HAB2.out (Nat.le_refl _) _⟩)
                  · have hY := HGoodI.out (.inl ⟨decide_eq_true (by omega), by omega⟩)
                    have h16' : m + mb ≤ 16 := by omega
                    have HY0 := Lib.hid hY
                    have HLn := Lib.hid hln
                    have HLm := Lib.hid hlm
                    have hpq : 2 * (8 - ns.length - ms.length) = 16 - m - mb := by omega
                    have HPq := Lib.hid hpq
                    clear hY HGoodI HBadI HBad HB0r hln hlm hpq hmb0
                    go_wp2_with fail
                    go_loopw [10] (fun a wr => ∃ (ga' ca' m' p : Nat), a = .slice (some ⟨ga', 0, none⟩) m' ca' ∧ m' + mb ≤ 16 ∧ Hid (m' = m + p ∧ AB w wr ga' ca' (by2 ns ++ List.replicate p 0) gb2 cb (by2 ms))) (fun a _ => 16 - slLen a)
                    case atStart => exact ⟨ga, ca, m, 0, rfl, h16', rfl, by rw [List.replicate_zero, List.append_nil]; exact HAB.out⟩
                    case round =>
                      obtain ⟨ga', ca', m', p, rfl, hle, hh⟩ := hrel
                      obtain ⟨hmp, hab⟩ := hh.out
                      have eS : IntKind.i64.wrap ((m' : Int) + (mb : Int)) = (m' : Int) + (mb : Int) := by simp only [IntKind.wrap, IntKind.signed, IntKind.bits]; simp; omega
                      have hll : (by2 ns ++ List.replicate p 0).length = m' := by rw [List.length_append, List.length_replicate, ← HMl.out, hmp]
                      have HLl := Lib.hid hll
                      have HMp := Lib.hid hmp
                      by_cases hlt : m' + mb < 16
                      · have qlt : decide ((m' : Int) + (mb : Int) < 16) = true := by simp; omega
                        obtain ⟨W4, hW4⟩ : ∃ W, W = wr.alloc (.cells #[.int .u8 0] 5) := ⟨_, rfl⟩
                        have hb4 : Below wr.heap.size wr W4 := hW4 ▸ (Below.refl _ _).alloc (Nat.le_refl _) _
                        have HW4 := Lib.hid hW4.symm
                        have HA4 := Lib.hid (hab.kept hb4)
                        have HO4 : Hid (W4.ownsRow (w.heap.size + 1) 5 1 (.slice (some ⟨ga', 0, none⟩) m' ca') m' (bcells (by2 ns ++ List.replicate p 0))) := Lib.hid (by have := HA4.out.1; unfold Own at this; rw [hll] at this; exact this)
                        have HNw : Hid (∀ j u, ([.int .u8 0] : List Value)[j]? = some u → W4.cell? ((⟨wr.heap.size, 0, none⟩ : Addr).add j) = some u) := Lib.hid (hW4 ▸ World.news_of_block (cs := #[.int .u8 0]) (t := 5) (fr := (0, 0)) (heap_alloc_new wr _))
                        clear hW4 hb4 hab hh hmp hll
                        go_wp2_with ((try rw [HW4.out]); at_builtin; refine wpList_append_lies _ rfl (.tmp 149) (.tmp 150) 25 rfl (w.heap.size + 1) 5 i0 (.int .u8 0) 1 1 Tryz.underlying25 HI.out HZ0.out HZ1.out HZ2.out rfl (by decide) _ m' (bcells (by2 ns ++ List.replicate p 0)) rfl HO4.out ⟨wr.heap.size, 0, none⟩ 1 1 [.int .u8 0] rfl rfl HNw.out ?d1 (by decide) ?d2 ?d3 ?d4 W4.heap.size rfl ?_; rotate_right; intro g5 c5 w5 hown hgrow hat hlt5)
                        case d1 => intro u hu; simp only [List.mem_singleton] at hu; subst hu; rfl
                        case d2 => show m' + 1 ≤ maxLen; unfold maxLen; omega
                        case d3 => omega
                        case d4 => have := HA4.out.1.lt; omega
                        have HE : Hid (AB w w5 g5 c5 (by2 ns ++ List.replicate (p + 1) 0) gb2 cb (by2 ms)) := Lib.hid (by
                          have hown' : w5.ownsRow (w.heap.size + 1) 5 1 (.slice (some ⟨g5, 0, none⟩) ((by2 ns ++ List.replicate p 0).length + 1) c5) ((by2 ns ++ List.replicate p 0).length + 1) (bcells (by2 ns ++ List.replicate p 0) ++ bcells [0]) := by rw [HLl.out]; exact hown
                          have h := AB.app HA4.out 1 (xs := [0]) rfl hown' hgrow hat
                          rw [List.append_assoc, ← List.replicate_succ'] at h
                          exact h)
                        clear hown hgrow hat hlt5
                        exact ⟨⟨g5, c5, m' + 1, p + 1, rfl, by omega, by have := HMp.out; omega, HE.out⟩, by simp [slLen]; omega⟩
                      · have qlt : decide ((m' : Int) + (mb : Int) < 16) = false := by simp; omega
                        have h16e : m' + mb = 16 := by omega
                        obtain ⟨W5, hW5⟩ : ∃ W, W = wr.alloc (.cells (adr false z16) 24) := ⟨_, rfl⟩
                        have hb5 : Below wr.heap.size wr W5 := hW5 ▸ (Below.refl _ _).alloc (Nat.le_refl _) _
                        have hB5 : Blk W5 wr.heap.size 24 (adr false z16) := hW5 ▸ Blk.new wr _ _
                        have HW5 : Hid (wr.alloc (.cells #[.bool false, .int .u8 0, .int .u8 0, .int .u8 0, .int .u8 0, .int .u8 0, .int .u8 0, .int .u8 0, .int .u8 0, .int .u8 0, .int .u8 0, .int .u8 0, .int .u8 0, .int .u8 0, .int .u8 0, .int .u8 0, .int .u8 0] 24) = W5) := Lib.hid hW5.symm
                        have HB5 := Lib.hid hB5
                        obtain ⟨V, hV⟩ : ∃ V, V = W5.setRow wr.heap.size (adr true z16) := ⟨_, rfl⟩
                        have HV := Lib.hid hV.symm
                        have hgaL := hab.1.lt
                        have hgbL := hab.2.1.lt
                        have hbV : Below wr.heap.size wr V := hV ▸ below_setRow hb5 (Nat.le_refl _) _
                        have habV := hab.kept hbV
                        have HBV : Hid (Blk V wr.heap.size 24 (adr true z16)) := Lib.hid (hV ▸ hB5.row _)
                        have HOV : Hid (V.drew.ownsRow (w.heap.size + 1) 5 1 (.slice (some ⟨ga', 0, none⟩) m' ca') m' (bcells (by2 ns ++ List.replicate p 0))) := Lib.hid (by have := habV.1; unfold Own at this; rw [hll] at this; exact this)
                        have HNv : Hid (∀ j u, (bcells (by2 ms))[j]? = some u → V.drew.cell? ((⟨gb2, 0, none⟩ : Addr).add j) = some u) := Lib.hid (World.ownsRow.cells habV.2.1 rfl)
                        have hmsl : (bcells (by2 ms)).length = mb := by rw [bcells_length, ← HMb.out]
                        have HMs := Lib.hid hmsl
                        obtain ⟨L, hL⟩ : ∃ L, L = (by2 ns ++ List.replicate p 0) ++ by2 ms := ⟨_, rfl⟩
                        have hLb : bcells (by2 ns ++ List.replicate p 0) ++ bcells (by2 ms) = bcells L := by rw [hL, bcells_append (by2 ns ++ List.replicate p 0)]
                        have hLl : L.length = 16 := by rw [hL, List.length_append, hll, ← bcells_length (by2 ms), hmsl, h16e]
                        have hLG : L = by2 G := by
                          rw [hL, HG.out, by2_append, by2_append, by2_zeros, List.append_assoc, HPq.out]
                          congr 3
                          omega
                        have HLb := Lib.hid hLb
                        have HLl2 := Lib.hid hLl
                        have HLG := Lib.hid hLG
                        have HbV : Hid (Below w.heap.size w V) := Lib.hid habV.2.2.2.2
                        have HBV0 : Hid (Blk V w.heap.size 24 (adr false z16)) := Lib.hid habV.2.2.2.1
                        have hsz : w.heap.size < wr.heap.size := hab.2.2.2.1.lt
                        have hsz2 : wr.heap.size < V.heap.size := HBV.out.lt
                        have HGa : Hid (ga' < wr.heap.size) := Lib.hid hgaL.2
                        have Hsz2 := Lib.hid hsz2
                        clear hW5 hb5 hB5 hV hgaL hgbL habV hab hh hmp hll hmsl hL hLb hLl hLG hbV hsz2
                        go_wp2_with ((try rw [HW5.out]); refine wpl_store 24 _ _ rfl _ (adr true z16) rfl rfl _ _ HB5.out 17 Tryz.infoAddr rfl rfl (adr_one _ _) rfl ?_; rw [HV.out])
                        go_region_held3 (fun _ => True) (exact trivial) (first
                          | (refine step_append_own (by rfl) (.tmp 155) (.tmp 156) 25 (by rfl) (w.heap.size + 1) 5 i0 (.int .u8 0) 1 1 Tryz.underlying25 HI.out HZ0.out HZ1.out HZ2.out rfl (by decide) _ m' (bcells (by2 ns ++ List.replicate p 0)) (by rfl) HOV.out ⟨gb2, 0, none⟩ mb cb (bcells (by2 ms)) (by rfl) (by rw [HMs.out]; omega) HNv.out (bcells_one _) (by unfold maxLen; omega) (by omega) (by have := Hsz2.out; show w.heap.size + 1 ≤ V.heap.size; omega) ?_; intro v' w6 hown hgrow; rw [HLb.out] at hown; obtain ⟨g6, c6, rfl, hg6, hl6⟩ := hown.form (by omega))
                          | (refine step_copy_splice (by rfl) (.tmp 154) (.tmp 157) 25 25 (by rfl) 5 Tryz.underlying25 Tryz.oneU8 (some ⟨wr.heap.size, 1, none⟩) (some ⟨g6, 0, none⟩) 16 16 (m' + mb) c6 (by rfl) (by rfl) wr.heap.size 1 (adr true z16).toList 24 ((hgrow.block wr.heap.size Hsz2.out (by intro e; have e' : wr.heap.size = ga' := Option.some.inj e; have := HGa.out; omega)).trans HBV.out) (bcells L) (by rw [bcells_length, HLl2.out, h16e]; rfl) (fun _ => ⟨rfl, ⟨g6, 0, none⟩, rfl, World.ownsRow.cells hown rfl⟩) (by rw [bcells_length, HLl2.out]; decide) (bcells_one _) wr.heap.size w6 (Below.refl _ _) (Nat.le_refl _) ?_; intro w7 hB7 hb7))
                        have hne0 : some w.heap.size ≠ (some ga' : Option Nat) := by intro e; have := (HOV.out.lt _ e.symm).1; omega
                        have hbl6 : Below w.heap.size w w6 := (bel2 HbV.out (below_drewN V 1)).grown hgrow (by have := Hsz2.out; show w.heap.size ≤ V.heap.size; omega) (fun k hk => by have := (HOV.out.lt k hk).1; omega)
                        have HBl7 : Hid (Below w.heap.size w w7) := Lib.hid (hbl6.trans (hb7.mono (by omega)))
                        have HB06 : Hid (Blk w7 w.heap.size 24 (adr false z16)) := Lib.hid (by
                          unfold Blk
                          rw [hb7.block w.heap.size hsz, hgrow.block w.heap.size (by have := Hsz2.out; show w.heap.size < V.heap.size; omega) hne0]
                          exact HBV0.out)
                        have HB7 : Hid (Blk w7 wr.heap.size 24 (adr true (L.map fun k : Nat => (k : Int)))) := Lib.hid (by
                          have := hB7.out
                          rw [splice_adr true L HLl2.out] at this
                          exact this)
                        have HSi : Hid (17 = (adr true (L.map fun k : Nat => (k : Int))).size) := Lib.hid (by rw [adr_size, List.length_map, HLl2.out])
                        clear hne0 hbl6 hB7 hb7 hgrow hown hg6 hl6
                        go_wp2_with (first | (refine wpl_load 24 _ rfl wr.heap.size rfl _ _ _ HB7.out Tryz.underlying24 rfl 17 Tryz.infoAddr HSi.out rfl ?_) | (refine wpl_store 24 _ _ rfl w.heap.size (adr true (L.map fun k : Nat => (k : Int))) rfl rfl _ _ HB06.out 17 Tryz.infoAddr HSi.out rfl (adr_one _ _) rfl ?_))
                        exact retA2 rfl w.heap.size rfl _ _ _ (HB06.out.row _) Tryz.underlying24 rfl 17 Tryz.infoAddr HSi.out rfl _ rfl (by rw [HY0.out, ← HLG.out]; exact ⟨rfl, below_setRow HBl7.out (Nat.le_refl _) _⟩)
                  · have hN := HBadI.out (by rintro (⟨_, h⟩ | ⟨h, _⟩); omega; have := of_decide_eq_false h; omega)
                    have HN0 := Lib.hid hN
                    clear hN HAB HGoodI HBadI HG HBad hmb0
                    go_wp2_with (refine wpl_store 24 _ _ rfl _ (adr false z16) rfl rfl _ _ HB0r.out 17 Tryz.infoAddr rfl rfl (adr_one _ _) rfl ?_)
                    exact retA2 rfl w.heap.size rfl _ _ _ (HB0r.out.row _) Tryz.underlying24 rfl 17 Tryz.infoAddr rfl rfl _ rfl (by rw [HN0.out]; exact ⟨rfl, below_setRow HAB2.out (Nat.le_refl _) _⟩)
          · obtain ⟨m, hm⟩ : ∃ m, k = m + 1 := ⟨k - 1, by omega⟩
            obtain rfl : z = (m : Int) := by omega
            obtain ⟨p, hp⟩ : ∃ p, p = m + 1 := ⟨_, rfl⟩
            have hms : m < s.size := by omega
            have hps : p < s.size := by omega
            have ep : IntKind.i64.wrap ((m : Int) + 1) = (p : Int) := by simp only [IntKind.wrap, IntKind.signed, IntKind.bits]; simp; omega
            have em : IntKind.i64.wrap ((m : Int) - 1) = (m : Int) - 1 := by simp only [IntKind.wrap, IntKind.signed, IntKind.bits]; simp; omega
            have hm1 := HAt.out m hms
            have hp1 := HAt.out p hps
            have HPr : Hid (pairAt l m ↔ (s[m] = 58 ∧ s[p] = 58)) := Lib.hid (by
              unfold pairAt
              rw [← hp, hm1, hp1]
              simp)
            have HC : Hid (CutAt l (m + 1) ci) := Lib.hid (hm ▸ hh.out)
            have HP1 := Lib.hid hp
            clear hz hh hm1 hp1 hp hm hk
            by_cases h1 : s[m] = 58
            · have q1 : ((s[m].toNat : Int) == 58) = true := by rw [h1]; rfl
              by_cases h2 : s[p] = 58
              · have q2 : ((s[p].toNat : Int) == 58) = true := by rw [h2]; rfl
                have HX : Hid (CutAt l m (m : Int)) := Lib.hid (.inr ⟨m, rfl, Nat.le_refl _, HPr.out.2 ⟨h1, h2⟩, fun j h h' => by omega⟩)
                clear h1 h2
                go_wp2
                go_round
                case rel => exact ⟨m, (m : Int) - 1, m, by omega, rfl, rfl, rfl, by omega, by omega, HX.out⟩
                case measure => simp [intOf] <;> omega
              · have q2 : ((s[p].toNat : Int) == 58) = false := by
                  rw [beq_eq_false_iff_ne]
                  intro e
                  exact h2 (UInt8.toNat_inj.1 (by simpa using Int.ofNat.inj e))
                have HX : Hid (CutAt l m ci) := Lib.hid (by
                  have hn : ¬ pairAt l m := fun h => h2 (HPr.out.1 h).2
                  rcases HC.out with ⟨h, h'⟩ | ⟨c, h, h', h'', h3⟩
                  · exact .inl ⟨h, fun j hj => by rcases Nat.lt_or_eq_of_le hj with e | e; exact h' j e; rw [← e]; exact hn⟩
                  · exact .inr ⟨c, h, by omega, h'', fun j hj hj' => by rcases Nat.lt_or_eq_of_le hj with e | e; exact h3 j e hj'; rw [← e]; exact hn⟩)
                clear h1 h2
                go_wp2
                go_round
                case rel => exact ⟨m, (m : Int) - 1, ci, by omega, rfl, rfl, rfl, by omega, by omega, HX.out⟩
                case measure => simp [intOf] <;> omega
            · have q1 : ((s[m].toNat : Int) == 58) = false := by
                rw [beq_eq_false_iff_ne]
                intro e
                exact h1 (UInt8.toNat_inj.1 (by simpa using Int.ofNat.inj e))
              have HX : Hid (CutAt l m ci) := Lib.hid (by
                have hn : ¬ pairAt l m := fun h => h1 (HPr.out.1 h).1
                rcases HC.out with ⟨h, h'⟩ | ⟨c, h, h', h'', h3⟩
                · exact .inl ⟨h, fun j hj => by rcases Nat.lt_or_eq_of_le hj with e | e; exact h' j e; rw [← e]; exact hn⟩
                · exact .inr ⟨c, h, by omega, h'', fun j hj hj' => by rcases Nat.lt_or_eq_of_le hj with e | e; exact h3 j e hj'; rw [← e]; exact hn⟩)
              clear h1
              go_wp2
              go_round
              case rel => exact ⟨m, (m : Int) - 1, ci, by omega, rfl, rfl, rfl, by omega, by omega, HX.out⟩
              case measure => simp [intOf] <;> omega
end Go.Proofs.YtnfkgoeocebenaaGreatDoor
