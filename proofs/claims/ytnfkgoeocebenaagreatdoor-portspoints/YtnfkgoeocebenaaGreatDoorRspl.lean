/-
  The walk of the document's split.
-/
import Derived.Test.YtnfkgoeocebenaaGreatDoorRnum
import Derived.Test.YtnfkgoeocebenaaGreatDoorHeld
import Derived.Deep.AppendLies
import Derived.OwnWalk
import Derived.Laws.OwnMore
namespace Go.Proofs.YtnfkgoeocebenaaGreatDoor
open Go.RowKit

theorem Tryz.infoTxt : (Tryz.prog.info? 9).map (fun i => (i.zero, i.size, i.bytes)) = some (some (.string ⟨#[]⟩), 1, 16) := by kernel_rfl

/-- Texts as cells. -/
def scells (l : List (List UInt8)) : List Value := l.map fun x => Value.string ⟨x.toArray⟩

theorem scells_sep (c : UInt8) (l : List UInt8) : scells (pieces c l) ++ [.string ⟨#[]⟩] = scells (pieces c (l ++ [c])) := by
  rw [pieces_snoc_sep, scells, scells, List.map_append]
  rfl

theorem set_last {α : Type} (l : List α) (h : l ≠ []) (x : α) : l.set (l.length - 1) x = l.dropLast ++ [x] := by
  have h0 : 0 < l.length := List.length_pos_iff.2 h
  conv => lhs; rw [← List.dropLast_concat_getLast h]
  rw [List.set_append_right _ _ (by simp)]
  simp

/-- The last of the pieces so far. -/
def lastP (c : UInt8) (l : List UInt8) : List UInt8 := (pieces c l).getLastD []

theorem lastP_at (c : UInt8) (l : List UInt8) : (pieces c l)[(pieces c l).length - 1]? = some (lastP c l) := by
  have h := pieces_ne c l
  unfold lastP
  rw [← List.getLast?_eq_getElem?, List.getLastD_eq_getLast?, List.getLast?_eq_some_getLast h]
  rfl

theorem scells_more (c x : UInt8) (hx : x ≠ c) (l : List UInt8) :
    (scells (pieces c l)).set ((pieces c l).length - 1) (.string ⟨(lastP c l ++ [x]).toArray⟩) = scells (pieces c (l ++ [x])) ∧ (pieces c (l ++ [x])).length = (pieces c l).length := by
  have h := pieces_ne c l
  have h0 := pieces_length_pos c l
  rw [pieces_snoc c x hx]
  constructor
  · unfold scells
    rw [← List.map_set, set_last _ h]
    rfl
  · simp
    omega

theorem extract_one (s : ByteArray) (k : Nat) (h : k < s.size) : s.extract k (k + 1) = ⟨#[s[k]]⟩ := by
  apply ByteArray.ext
  apply Array.ext'
  have h' : k < s.data.toList.length := by rw [← Lib.size_eq]; exact h
  have := list_at s k h
  simp only [ByteArray.data_extract, Array.toList_extract, List.extract_eq_take_drop, Nat.add_sub_cancel_left]
  rw [List.drop_eq_getElem_cons h', List.take_succ_cons, List.take_zero]
  rw [List.getElem?_eq_getElem h'] at this
  rw [Option.some.inj this]

theorem run_at1 (s : ByteArray) (k : Nat) (h : k < s.size) (i j : Int) (hi : i = (k : Int)) (hj : j = ((k + 1 : Nat) : Int)) (w : World) :
    (Instr.sliceAt 9 (.string s) (some (.int .i64 i)) (some (.int .i64 j)) none).run Tryz.prog w = .ok (.string ⟨#[s[k]]⟩) w := by
  subst hi hj
  have h0 : (0 : Int) ≤ (k : Int) := by omega
  have h2 : ((k + 1 : Nat) : Int) ≤ (s.size : Int) := by omega
  have h3 : (k : Int) ≤ ((k + 1 : Nat) : Int) := by omega
  have h4 : (k : Int) + 1 ≤ (s.size : Int) := by omega
  have h5 : (k : Int) ≤ (k : Int) + 1 := by omega
  have h6 : (0 : Int) ≤ (k : Int) + 1 := by omega
  have h7 : ((k : Int) + 1).toNat = k + 1 := by omega
  have := extract_one s k h
  simp [Instr.sliceAt, run_underlying Tryz.underlying9, Instr.sliceBounds, go_sem, h0, h4, h5, h7, this]

/-- Pieces come back, in memory of their own. -/
def SplitEnd (ps : List (List UInt8)) (w : World) (e : Ending) (w' : World) : Prop :=
  ∃ g cap, e = .returned (.slice (some ⟨g, 0, none⟩) ps.length cap) ∧ w.heap.size ≤ g ∧ (∀ j x, ps[j]? = some x → w'.cell? ⟨g, j, none⟩ = some (.string ⟨x.toArray⟩)) ∧ Below w.heap.size w w'

set_option maxRecDepth 100000 in
set_option maxHeartbeats 4000000 in
theorem rsplit_any (s : ByteArray) (hs : s.size ≤ 1000) (c : UInt8) (w : World) :
    Calls Tryz.prog 111 #[.string s, .int .u8 (c.toNat : Int)] w (SplitEnd (pieces c s.data.toList) w) := by
  obtain ⟨W0, hW0⟩ : ∃ W, W = w.alloc (.cells #[.string ⟨#[]⟩] 9) := ⟨_, rfl⟩
  have H0 : Hid (W0.ownsRow w.heap.size 9 1 (.slice (some ⟨w.heap.size, 0, none⟩) 1 1) 1 (scells (pieces c (s.data.toList.take 0))) ∧ Below w.heap.size w W0) := Lib.hid ⟨by
    rw [hW0]
    exact World.ownsRow_lit w #[.string ⟨#[]⟩] 1 (Nat.le_refl _) (by decide) rfl, hW0 ▸ (Below.refl _ _).alloc (Nat.le_refl _) _⟩
  have HW0 := Lib.hid hW0.symm
  have HL := Lib.hid (Lib.size_eq s)
  obtain ⟨i0, hi0, hz0, hz1, hz2⟩ := info_parts Tryz.infoTxt
  have HI := Lib.hid hi0
  have HZ0 := Lib.hid hz0
  have HZ1 := Lib.hid hz1
  have HZ2 := Lib.hid hz2
  clear hW0 hi0 hz0 hz1 hz2
  go_enter Tryz.func111, Tryz.ntmps111
  go_wp2
  rw [HW0.out]
  go_loopw [5, 6] (fun v i wr => ∃ k : Nat, k ≤ s.size ∧ i = .int .i64 k ∧ ∃ g n cap : Nat, v = .slice (some ⟨g, 0, none⟩) n cap ∧ n ≤ k + 1 ∧ 0 < n ∧ Hid (n = (pieces c (s.data.toList.take k)).length ∧ w.heap.size ≤ g ∧ wr.ownsRow w.heap.size 9 1 v n (scells (pieces c (s.data.toList.take k))) ∧ Below w.heap.size w wr)) (fun _ i _ => s.size - (intOf i).toNat)
  case atStart => exact ⟨0, Nat.zero_le _, rfl, w.heap.size, 1, 1, rfl, by omega, by omega, rfl, Nat.le_refl _, H0.out⟩
  case round =>
    obtain ⟨k, hk, rfl, g, n, cap, rfl, hn1, hn0, hh⟩ := hrel
    clear H0 HW0
    by_cases hlt : k < s.size
    · have hat := list_at s k hlt
      have htk : s.data.toList.take (k + 1) = s.data.toList.take k ++ [s[k]] := by rw [List.take_add_one, hat]; rfl
      by_cases hc : s[k] = c
      · have qc : ((s[k].toNat : Int) == (c.toNat : Int)) = true := by rw [hc]; simp
        obtain ⟨hn, hg, hO, hb⟩ := hh.out
        have hsz : w.heap.size ≤ wr.heap.size := hb.size
        have HT : Hid (scells (pieces c (s.data.toList.take k)) ++ [.string ⟨#[]⟩] = scells (pieces c (s.data.toList.take (k + 1))) ∧ n + 1 = (pieces c (s.data.toList.take (k + 1))).length) := Lib.hid (by
          rw [htk, hc]
          refine ⟨scells_sep c _, ?_⟩
          rw [pieces_snoc_sep, List.length_append, hn]
          rfl)
        obtain ⟨W1, hW1⟩ : ∃ W, W = wr.alloc (.cells #[.string ⟨#[]⟩] 9) := ⟨_, rfl⟩
        have HW1 := Lib.hid hW1.symm
        have HO : Hid (W1.ownsRow w.heap.size 9 1 (.slice (some ⟨g, 0, none⟩) n cap) n (scells (pieces c (s.data.toList.take k))) ∧ Below w.heap.size w W1 ∧ w.heap.size ≤ W1.heap.size) := Lib.hid (by
          rw [hW1]
          exact ⟨hO.alloc _, hb.alloc hsz _, by simp; omega⟩)
        have HN : Hid (∀ j u, ([.string ⟨#[]⟩] : List Value)[j]? = some u → W1.cell? ((⟨wr.heap.size, 0, none⟩ : Addr).add j) = some u) := Lib.hid (hW1 ▸ World.news_of_block (cs := #[.string ⟨#[]⟩]) (t := 9) (fr := (0, 0)) (heap_alloc_new wr _))
        have HG := Lib.hid hg
        clear hn hg hO hb hh hW1 hat htk hc hsz
        go_wp2_with ((try rw [HW1.out]); at_builtin; refine wpList_append_own _ rfl (.tmp 19) (.tmp 20) 108 rfl w.heap.size 9 i0 (.string ⟨#[]⟩) 1 16 Tryz.underlying108 HI.out HZ0.out HZ1.out HZ2.out rfl (by decide) _ n (scells (pieces c (s.data.toList.take k))) rfl HO.out.1 ⟨wr.heap.size, 0, none⟩ 1 1 [.string ⟨#[]⟩] rfl rfl HN.out ?d1 ?d2 ?d3 ?d4 ?_; rotate_right; intro v' w1 hown hgrow hnil)
        case d1 => intro u hu; simp only [List.mem_singleton] at hu; subst hu; rfl
        case d2 => show n + 1 ≤ maxLen; unfold maxLen; omega
        case d3 => omega
        case d4 => exact HO.out.2.2
        obtain ⟨gg, cc, rfl, hgg, _⟩ := hown.form (by omega)
        rw [HT.out.1] at hown
        have HE : Hid (w.heap.size ≤ gg ∧ w1.ownsRow w.heap.size 9 1 (.slice (some ⟨gg, 0, none⟩) (n + 1) cc) (n + 1) (scells (pieces c (s.data.toList.take (k + 1)))) ∧ Below w.heap.size w w1) := Lib.hid ⟨hgg, hown, HO.out.2.1.grown hgrow HO.out.2.2 (fun j hj => (HO.out.1.lt j hj).1)⟩
        clear hown hgrow hnil
        exact ⟨⟨k + 1, by omega, by go_num, gg, n + 1, cc, rfl, by omega, by omega, HT.out.2, HE.out⟩, by simp [intOf]; omega⟩
      · have qc : ((s[k].toNat : Int) == (c.toNat : Int)) = false := by
          rw [beq_eq_false_iff_ne]
          intro e
          exact hc (UInt8.toNat_inj.1 (by simpa using Int.ofNat.inj e))
        obtain ⟨hn, hg, hO, hb⟩ := hh.out
        have hm := scells_more c s[k] hc (s.data.toList.take k)
        rw [← htk] at hm
        obtain ⟨la, hla⟩ : ∃ la, la = lastP c (s.data.toList.take k) := ⟨_, rfl⟩
        have hcell : wr.cell? ⟨g, n - 1, none⟩ = some (.string ⟨la.toArray⟩) := by
          rw [hO.cellAt (n - 1) (by omega), hn, hla]
          unfold scells
          rw [List.getElem?_map, lastP_at]
          rfl
        have hfz := hO.frozenAt (n - 1)
        rw [← hla, ← hn] at hm
        have HM := Lib.hid hm
        have HLa := Lib.hid hla
        have HO := Lib.hid hO
        have Hb := Lib.hid hb
        have HG := Lib.hid hg
        clear hh hO hb hg hn hm hla hat htk hc
        obtain ⟨j, hj⟩ : ∃ j, j = n - 1 := ⟨_, rfl⟩
        obtain ⟨k2, hk2⟩ : ∃ k2, k2 = k + 1 := ⟨_, rfl⟩
        rw [← hj] at hcell hfz HM
        have ew : IntKind.i64.wrap ((n : Int) - 1) = (j : Int) := by simp only [IntKind.wrap, IntKind.signed, IntKind.bits]; simp; omega
        have ek : IntKind.i64.wrap ((k : Int) + 1) = (k2 : Int) := by simp only [IntKind.wrap, IntKind.signed, IntKind.bits]; simp; omega
        have b1 : (0 : Int) ≤ (j : Int) := by omega
        have b2 : (j : Int) < (n : Int) := by omega
        have b3 : (0 : Int) ≤ (k : Int) := by omega
        have b4 : (k : Int) ≤ (k2 : Int) := by omega
        have b5 : (k2 : Int) ≤ (s.size : Int) := by omega
        have hsl := run_at1 s k hlt (k : Int) (k2 : Int) rfl (by rw [hk2])
        have hle : la.length ≤ 1000 := by
          have h := pieces_le c (s.data.toList.take k) la (List.mem_of_getElem? (HLa.out ▸ lastP_at c (s.data.toList.take k)))
          rw [List.length_take] at h
          omega
        have ha : ∀ w', (Op.stringOp .add ⟨la.toArray⟩ ⟨#[s[k]]⟩).run Tryz.prog w' = .ok (.string ⟨(la ++ [s[k]]).toArray⟩) w' := fun w' => run_string_add_lists w' la [s[k]] (by omega) (by simp)
        obtain ⟨sA, hsA⟩ : ∃ s : ByteArray, s = ⟨la.toArray⟩ := ⟨_, rfl⟩
        obtain ⟨sX, hsX⟩ : ∃ t : ByteArray, t = ⟨#[s[k]]⟩ := ⟨_, rfl⟩
        obtain ⟨sR, hsR⟩ : ∃ t : ByteArray, t = ⟨(la ++ [s[k]]).toArray⟩ := ⟨_, rfl⟩
        rw [← hsA, ← hsX, ← hsR] at ha
        rw [← hsA] at hcell
        rw [← hsX] at hsl
        rw [← hsR] at HM
        have HJ := Lib.hid hj
        have HK2 := Lib.hid hk2
        clear hsA hsX hsR hle
        clear hj hk2
        go_wp2_with fail
        go_region
        go_wp2
        go_roundw
        case rel =>
          refine ⟨k + 1, by omega, by have := HK2.out; go_num, g, n, cap, rfl, by omega, by omega, by rw [HM.out.2], HG.out, ?_, ?_⟩
          · have := (HO.out.drew.stored j (.string sR)).1
            rw [HM.out.1] at this
            exact this
          · exact (bel2 Hb.out (below_drewN wr 1)).setCell HG.out _
        case measure => have := HK2.out; simp [intOf]; omega
    · obtain rfl : k = s.size := by omega
      obtain ⟨hn, hg, hO, hb⟩ := hh.out
      rw [List.take_of_length_le (by rw [← HL.out]; exact Nat.le_refl _)] at hn hO
      have HX : Hid (SplitEnd (pieces c s.data.toList) w (.returned (.slice (some ⟨g, 0, none⟩) n cap)) wr) := Lib.hid (by
        refine ⟨g, cap, by rw [hn], hg, fun j x hx => ?_, hb⟩
        have hlt := (List.getElem?_eq_some_iff.1 hx).1
        rw [hO.cellAt j (by omega), scells, List.getElem?_map, hx]
        rfl)
      clear hh hn hg hO hb
      go_wp2
      go_ret
      exact HX.out
end Go.Proofs.YtnfkgoeocebenaaGreatDoor
