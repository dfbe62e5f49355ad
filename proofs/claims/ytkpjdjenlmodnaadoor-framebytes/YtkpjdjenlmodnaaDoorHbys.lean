/-
  Bytes in memory; linkboynum.Bytes (a copy with marked room behind) and linkboynum.Kept.
-/
import Derived.Test.YtkpjdjenlmodnaaDoorHpure
import Derived.Lib.Hide
import Derived.TacticsInMore
import Derived.WalkKit
import Derived.BigQuiet
import Derived.Deep.QuietTactic
import Derived.OwnWalk
import Derived.Deep.DeepMust
import Derived.Laws.BytesArg
import Derived.Deep.WholeRow
namespace Go.Proofs.YtkpjdjenlmodnaaDoor
open Go.RowKit Go.Lib

theorem ret_k {k : IntKind} {v : Value} {x y : Int} (hv : v = .int k x) (h : x = y) : Ending.returned v = .returned (.int k y) := by rw [hv, h]
theorem new_cell (w : World) (t : TypeId) (cs : Array Value) (i : Nat) : (w.alloc (.cells cs t)).cell? ⟨w.heap.size, i, none⟩ = cs[i]? := cell_of_row _ _ i cs t (0, 0) (heap_alloc_last w _)
theorem ret_b {v : Value} {x y : Bool} (hv : v = .bool x) (h : x = y) : Ending.returned v = .returned (.bool y) := by rw [hv, h]

def Byt (bs : List Int) : Prop := ∀ j, 0 ≤ bs.getD j 0 ∧ bs.getD j 0 ≤ 255
theorem Byt.of {bs : List Int} (h : ∀ x ∈ bs, 0 ≤ x ∧ x ≤ 255) : Byt bs := fun j => by
  by_cases hj : j < bs.length
  · rw [List.getD, List.getElem?_eq_getElem hj]
    exact h _ (List.getElem_mem hj)
  · rw [List.getD, List.getElem?_eq_none (by omega)]
    simp

/-- The bytes bs lie at the address, below n₀. -/
def Bys (n₀ : Nat) (W : World) (ad : Option Addr) (bs : List Int) : Prop := ∀ j, j < bs.length → ∃ g o, ad = some ⟨g, o, none⟩ ∧ g < n₀ ∧ W.cell? ⟨g, o + j, none⟩ = some (.int .u8 (bs.getD j 0))
theorem Bys.below {n₀ : Nat} {A B : World} (h : Below n₀ A B) {ad : Option Addr} {bs : List Int} (hb : Bys n₀ A ad bs) : Bys n₀ B ad bs := fun j hj => by
  obtain ⟨g, o, h1, h2, h3⟩ := hb j hj
  exact ⟨g, o, h1, h2, (h.cell (p := ⟨g, o + j, none⟩) h2).trans h3⟩
theorem Bys.mono {n₀ n₁ : Nat} {A : World} {ad : Option Addr} {bs : List Int} (hb : Bys n₀ A ad bs) (h : n₀ ≤ n₁) : Bys n₁ A ad bs := fun j hj => by
  obtain ⟨g, o, h1, h2, h3⟩ := hb j hj
  exact ⟨g, o, h1, Nat.lt_of_lt_of_le h2 h, h3⟩

theorem Tryd.infoByteS : (Tryd.prog.info? 5).map (fun i => (i.zero, i.size, i.bytes)) = some (some (.int .u8 0), 1, 1) := by kernel_rfl
theorem sbelow_drewN (w : World) (n : Nat) : Below w.heap.size w (w.drewN n) := ⟨rfl, rfl, rfl, Nat.le_refl _, fun _ _ => rfl⟩
theorem sbel2 {w W w' : World} (h1 : Below w.heap.size w W) (h2 : Below W.heap.size W w') : Below w.heap.size w w' := h1.trans (h2.mono h1.size)

def marks : List Int := [201, 202, 203, 204, 205, 206]
theorem u8_one (l : List Int) : ∀ u ∈ l.map (Value.int .u8), u.oneCell' = true := fun u hu => by
  obtain ⟨x, _, rfl⟩ := List.mem_map.1 hu
  rfl

/-- g bears the copy of bs, with the marks behind. -/
def CopyAt (w : World) (g : Nat) (bs : List Int) : Prop := g < w.heap.size ∧ ∀ j, j < bs.length + 6 → w.cell? ⟨g, j, none⟩ = some (.int .u8 ((bs ++ marks).getD j 0))
theorem CopyAt.kept {w w' : World} {g : Nat} {bs : List Int} (h : CopyAt w g bs) (hb : Below w.heap.size w w') : CopyAt w' g bs :=
  ⟨Nat.lt_of_lt_of_le h.1 hb.size, fun j hj => (hb.cell (p := ⟨g, j, none⟩) h.1).trans (h.2 j hj)⟩
theorem CopyAt.bys {w : World} {g : Nat} {bs : List Int} (h : CopyAt w g bs) : Bys w.heap.size w (some ⟨g, 0, none⟩) bs := fun j hj =>
  ⟨g, 0, rfl, h.1, by rw [Nat.zero_add, h.2 j (by omega)]; simp [List.getD, List.getElem?_append_left hj]⟩
theorem CopyAt.mark {w : World} {g : Nat} {bs : List Int} (h : CopyAt w g bs) (k : Nat) (hk : k < 6) : w.cell? ⟨g, bs.length + k, none⟩ = some (.int .u8 (201 + k)) := by
  rw [h.2 _ (by omega), List.getD, List.getElem?_append_right (by omega), Nat.add_sub_cancel_left]
  match k, hk with
  | 0, _ => rfl
  | 1, _ => rfl
  | 2, _ => rfl
  | 3, _ => rfl
  | 4, _ => rfl
  | 5, _ => rfl

/-- What linkboynum.Bytes answers. -/
def CopyEnd (bs : List Int) (w : World) (e : Ending) (w' : World) : Prop := ∃ g, e = .returned (.slice (some ⟨g, 0, none⟩) bs.length (bs.length + 6)) ∧ w.heap.size ≤ g ∧ CopyAt w' g bs ∧ Below w.heap.size w w'

theorem copy_own {w : World} {base g n : Nat} {bs : List Int} (h : w.ownsRow base 5 1 (.slice (some ⟨g, 0, none⟩) (bs.length + 6) n) (bs.length + 6) (bs.map (Value.int .u8) ++ marks.map (Value.int .u8))) : CopyAt w g bs := by
  refine ⟨?_, fun j hj => ?_⟩
  · rcases h.2 with ⟨h', _⟩ | ⟨g', cap, cur, h', _, hg, _⟩
    · cases h'
    · simp only [Value.slice.injEq, Option.some.injEq, Addr.mk.injEq, and_true] at h'
      obtain ⟨rfl, _⟩ := h'
      exact (Array.getElem?_eq_some_iff.1 hg).1
  · rw [h.cellAt j (by rw [Nat.mul_one]; exact hj), ← List.map_append, List.getElem?_map]
    have hl : j < (bs ++ marks).length := by rw [List.length_append]; exact hj
    rw [List.getElem?_eq_getElem hl, List.getD, List.getElem?_eq_getElem hl]
    rfl

set_option maxRecDepth 100000 in
set_option maxHeartbeats 2000000 in
theorem bytes_any (ad : Option Addr) (cap : Nat) (bs : List Int) (hm : bs.length ≤ 1000000) (w : World) (hI : Bys w.heap.size w ad bs) (hn : ad = none → bs.length = 0 ∧ cap = 0) :
    Calls Tryd.prog 7 #[.slice ad bs.length cap] w (CopyEnd bs w) := by
  obtain ⟨i0, hi, hz0, hz1, hz2⟩ := info_parts Tryd.infoByteS
  obtain ⟨len, hlen⟩ : ∃ len, bs.length = len := ⟨_, rfl⟩
  have HN : Hid ((bs.map (Value.int .u8)).length = len) := hid (by rw [List.length_map, hlen])
  have HL := hid hlen
  have HI := hid hI
  have HNo : Hid (ad = none → len = 0 ∧ cap = 0) := hid (hlen ▸ hn)
  have HZ2 := hid hz2
  have HC : Hid (∀ W, Below w.heap.size w W → ∀ a, ad = some a → ∀ j u, (bs.map (Value.int .u8))[j]? = some u → W.cell? (a.add j) = some u) := hid fun W hb a ha j u hu => by
    rw [List.getElem?_map] at hu
    obtain ⟨x, hx, rfl⟩ := Option.map_eq_some_iff.1 hu
    have hj := (List.getElem?_eq_some_iff.1 hx).1
    obtain ⟨g, o, e, hg, hc⟩ := hI j hj
    rw [ha] at e
    cases e
    rw [show (⟨g, o, none⟩ : Addr).add j = ⟨g, o + j, none⟩ by unfold Addr.add; split <;> simp_all, hb.cell (p := ⟨g, o + j, none⟩) hg, hc, List.getD, hx]
    rfl
  have HM : Hid (∀ W : World, ∀ j u, (marks.map (Value.int .u8))[j]? = some u → (W.alloc (.cells #[.int .u8 201, .int .u8 202, .int .u8 203, .int .u8 204, .int .u8 205, .int .u8 206] 5)).cell? ((⟨W.heap.size, 0, none⟩ : Addr).add j) = some u) := hid fun W j u hu => by
    rw [show (⟨W.heap.size, 0, none⟩ : Addr).add j = ⟨W.heap.size, j, none⟩ by unfold Addr.add; split <;> simp_all, new_cell, ← Array.getElem?_toList]
    exact hu
  rw [hlen] at hm ⊢
  clear hlen hI hn hz2
  go_enter Tryd.func7, Tryd.ntmps7
  go_wp2_with (first
    | ((show wpList _ _ _ (⟨some 7, _, _, _, _, _⟩ :: _) _ _); go_must (refine wpList_make_own _ rfl _ (.tmp 6) 22 rfl w.heap.size 5 i0 (.int .u8 0) 1 Tryd.underlying22 hi hz0 hz1 .i64 .i64 _ (len + 6) rfl rfl (by push_cast; rfl) (by rw [HZ2.out]; omega) (by unfold maxLen; omega) (Nat.le_refl _) ?_; intro w1 hown hgrow))
    | ((show wpList _ _ _ (⟨some 9, _, _, _, _, _⟩ :: _) _ _); go_must (refine wpList_append_fits_any _ rfl (.tmp 7) (.tmp 8) 22 rfl w.heap.size 5 i0 1 Tryd.underlying22 hi hz1 w.heap.size 0 (len + 6) [] rfl hown ad len cap _ rfl (by rw [HN.out]; omega) HNo.out (HC.out _ ((Below.refl _ _).grown hgrow (Nat.le_refl _) (fun k hk => by cases hk))) (u8_one bs) (by omega) ?_; intro w2 hown2 hgrow2; rw [Nat.zero_add] at hown2 ⊢; rw [List.nil_append] at hown2))
    | ((show wpList _ _ _ (⟨some 11, _, _, _, _, _⟩ :: _) _ _); go_must (refine wpList_append_fits _ rfl (.tmp 9) (.tmp 10) 22 rfl w.heap.size 5 i0 1 Tryd.underlying22 hi hz1 w.heap.size len (len + 6) _ rfl (hown2.alloc _) ⟨w2.heap.size, 0, none⟩ 6 6 (marks.map (Value.int .u8)) rfl rfl (HM.out w2) (u8_one marks) (by omega) ?_; intro w3 hown3 hgrow3)))
  have hb1 : Below w.heap.size w w1 := (Below.refl _ _).grown hgrow (Nat.le_refl _) (fun k hk => by cases hk)
  have hb2 := hb1.grown hgrow2 hb1.size (fun k hk => by cases hk; exact Nat.le_refl _)
  have hb2' := hb2.alloc hb2.size (.cells #[.int .u8 201, .int .u8 202, .int .u8 203, .int .u8 204, .int .u8 205, .int .u8 206] 5)
  have hb3 := hb2'.grown hgrow3 hb2'.size (fun k hk => by cases hk; exact Nat.le_refl _)
  go_ret
  refine ⟨w.heap.size, by rw [HL.out]; rfl, Nat.le_refl _, copy_own (base := w.heap.size) (n := len + 6) ?_, hb3⟩
  rw [HL.out]
  exact hown3

/-- The text of bytes. -/
theorem conv_bys {w : World} {n₀ : Nat} {ad : Option Addr} {bs : List Int} (h : Bys n₀ w ad bs) (cap : Nat) : (convert 22 9 (.slice ad bs.length cap)).run Tryd.prog w = .ok (.string (strOfNums bs)) w := by
  by_cases h0 : bs.length = 0
  · obtain rfl : bs = [] := List.length_eq_zero_iff.1 h0
    cases ad with
    | none => exact run_convert_bytes_nil (P := Tryd.prog) w 22 5 Tryd.underlying22 Tryd.underlying5 0 cap 9 Tryd.underlying9
    | some a =>
      rw [run_convert_bytes_string w 22 9 5 _ _ _ Tryd.underlying22 Tryd.underlying5 Tryd.underlying9]
      exact run_bytesToString w a 0 cap [] (by simpa using run_loadCells_list (P := Tryd.prog) w a [] (fun j v hj => by simp at hj))
  · obtain ⟨g, o, rfl, _, _⟩ := h 0 (by omega)
    exact run_convert_bytes_arg (P := Tryd.prog) w 22 5 Tryd.underlying22 Tryd.underlying5 g o bs.length cap bs rfl (fun j hj => by
      obtain ⟨g', o', e, _, hc⟩ := h j hj
      cases e
      exact hc) 9 Tryd.underlying9

theorem wrapMark (k : Nat) (h : k < 6) : IntKind.u8.wrap (201 + (k : Int)) = 201 + (k : Int) := by
  simp only [IntKind.wrap, IntKind.bits, IntKind.signed]
  simp
  omega

set_option maxRecDepth 100000 in
set_option maxHeartbeats 2000000 in
theorem kept_any (ad : Option Addr) (cap g : Nat) (bs : List Int) (hm : bs.length ≤ 1000000) (w : World) (hC : CopyAt w g bs) (hI : Bys w.heap.size w ad bs) :
    Calls Tryd.prog 13 #[.slice (some ⟨g, 0, none⟩) bs.length (bs.length + 6), .slice ad bs.length cap] w fun e w' => e = .returned (.bool true) ∧ Below w.heap.size w w' := by
  have q1 : ∀ n, (convert 22 9 (.slice (some ⟨g, 0, none⟩) bs.length (bs.length + 6))).run Tryd.prog (w.drewN n) = .ok (.string (strOfNums bs)) (w.drewN n) := fun n => conv_bys (hC.bys.below (n₀ := w.heap.size) (sbelow_drewN w n)) _
  have q2 : ∀ n, (convert 22 9 (.slice ad bs.length cap)).run Tryd.prog (w.drewN n) = .ok (.string (strOfNums bs)) (w.drewN n) := fun n => conv_bys (hI.below (sbelow_drewN w n)) _
  have HM : Hid (∀ k, k < 6 → w.cell? ⟨g, bs.length + k, none⟩ = some (.int .u8 (201 + (k : Int)))) := hid hC.mark
  clear hC hI
  generalize strOfNums bs = S at q1 q2
  generalize bs.length = len at *
  have d1 : decide ((len : Int) + 6 < (len : Int) + 6) = false := by simp
  go_enter Tryd.func13, Tryd.ntmps13
  go_wp2
  go_quiet (fail)
  go_wp2
  go_loop [6] (fun i => ∃ k : Nat, k ≤ 6 ∧ i = .int .i64 k) (fun i => 6 - (intOf i).toNat)
  case atStart => exact ⟨0, by omega, rfl⟩
  case round =>
    obtain ⟨k, hk, rfl⟩ := hrel
    by_cases hlt : k < 6
    · have hc := HM.out k hlt
      have hw := wrapMark k hlt
      go_wp2
      go_round
      case rel => exact ⟨k + 1, by omega, by go_num⟩
      case measure => simp [intOf]; omega
    · obtain rfl : k = 6 := by omega
      go_wp2
      go_ret
      exact ⟨rfl, sbelow_drewN w nq⟩
end Go.Proofs.YtkpjdjenlmodnaaDoor
