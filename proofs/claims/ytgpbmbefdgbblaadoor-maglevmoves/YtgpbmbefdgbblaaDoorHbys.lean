/-
  Bytes in memory; linkboynum.Bytes (a copy with marked room behind) and linkboynum.Kept.
-/
import Derived.Test.YtgpbmbefdgbblaaDoorHpure
import Derived.Lib.Hide
import Derived.TacticsInMore
import Derived.WalkKit
import Derived.BigQuiet
import Derived.Deep.QuietTactic
import Derived.OwnWalk
import Derived.Deep.DeepMust
import Derived.Laws.BytesArg
import Derived.Deep.WholeRow
namespace Go.Proofs.YtgpbmbefdgbblaaDoor
open Go.RowKit Go.Lib

theorem ret_k {k : IntKind} {v : Value} {x y : Int} (hv : v = .int k x) (h : x = y) : Ending.returned v = .returned (.int k y) := by rw [hv, h]
theorem new_cell (w : World) (t : TypeId) (cs : Array Value) (i : Nat) : (w.alloc (.cells cs t)).cell? ⟨w.heap.size, i, none⟩ = cs[i]? := cell_of_row _ _ i cs t (0, 0) (heap_alloc_last w _)
theorem ret_b {v : Value} {x y : Bool} (hv : v = .bool x) (h : x = y) : Ending.returned v = .returned (.bool y) := by rw [hv, h]

def Byt (bs : List Int) : Prop := ∀ j, 0 ≤ bs.getD j 0 ∧ bs.getD j 0 ≤ 255
theorem Byt.of {bs : List Int} (h : ∀ x ∈ bs, 0 ≤ x ∧ x ≤ 255) : Byt bs := fun j => by
  by_cases hj : j < bs.length
  · rw [List.getD, List.getElem?_eq_getElem hj]
    exact h _ (List.getElem_mem hj)
  · rw [List.getD, List.getElem?_eq_none (by omega)]
    simp

/-- The bytes bs lie at the address, below n₀. -/
def Bys (n₀ : Nat) (W : World) (ad : Option Addr) (bs : List Int) : Prop := ∀ j, j < bs.length → ∃ g o, ad = some ⟨g, o, none⟩ ∧ g < n₀ ∧ W.cell? ⟨g, o + j, none⟩ = some (.int .u8 (bs.getD j 0))
theorem Bys.below {n₀ : Nat} {A B : World} (h : Below n₀ A B) {ad : Option Addr} {bs : List Int} (hb : Bys n₀ A ad bs) : Bys n₀ B ad bs := fun j hj => by
  obtain ⟨g, o, h1, h2, h3⟩ := hb j hj
  exact ⟨g, o, h1, h2, (h.cell (p := ⟨g, o + j, none⟩) h2).trans h3⟩
theorem Bys.mono {n₀ n₁ : Nat} {A : World} {ad : Option Addr} {bs : List Int} (hb : Bys n₀ A ad bs) (h : n₀ ≤ n₁) : Bys n₁ A ad bs := fun j hj => by
  obtain ⟨g, o, h1, h2, h3⟩ := hb j hj
  exact ⟨g, o, h1, Nat.lt_of_lt_of_le h2 h, h3⟩

theorem Tryd.infoByteS : (Tryd.prog.info? 5).map (fun i => (i.zero, i.size, i.bytes)) = some (some (.int .u8 0), 1, 1) := by kernel_rfl
theorem sbelow_drewN (w : World) (n : Nat) : Below w.heap.size w (w.drewN n) := ⟨rfl, rfl, rfl, Nat.le_refl _, fun _ _ => rfl⟩
theorem sbel2 {w W w' : World} (h1 : Below w.heap.size w W) (h2 : Below W.heap.size W w') : Below w.heap.size w w' := h1.trans (h2.mono h1.size)

def marks : List Int := [201, 202, 203, 204, 205, 206]
theorem u8_one (l : List Int) : ∀ u ∈ l.map (Value.int .u8), u.oneCell' = true := fun u hu => by
  obtain ⟨x, _, rfl⟩ := List.mem_map.1 hu
  rfl

/-- g bears the copy of bs, with the marks behind. -/
def CopyAt (w : World) (g : Nat) (bs : List Int) : Prop := g < w.heap.size ∧ ∀ j, j < bs.length + 6 → w.cell? ⟨g, j, none⟩ = some (.int .u8 ((bs ++ marks).getD j 0))
theorem CopyAt.kept {w w' : World} {g : Nat} {bs : List Int} (h : CopyAt w g bs) (hb : Below w.heap.size w w') : CopyAt w' g bs :=
  ⟨Nat.lt_of_lt_of_le h.1 hb.size, fun j hj => (hb.cell (p := ⟨g, j, none⟩) h.1).trans (h.2 j hj)⟩
theorem CopyAt.bys {w : World} {g : Nat} {bs : List Int} (h : CopyAt w g bs) : Bys w.heap.size w (some ⟨g, 0, none⟩) bs := fun j hj =>
  ⟨g, 0, rfl, h.1, by rw [Nat.zero_add, h.2 j (by omega)]; simp [List.getD, List.getElem?_append_left hj]⟩
theorem CopyAt.mark {w : World} {g : Nat} {bs : List Int} (h : CopyAt w g bs) (k : Nat) (hk : k < 6) : w.cell? ⟨g, bs.length + k, none⟩ = some (.int .u8 (201 + k)) := by
  rw [h.2 _ (by omega), List.getD, List.getElem?_append_right (by omega), Nat.add_sub_cancel_left]
  match k, hk with
  | 0, _ => rfl
  | 1, _ => rfl
  | 2, _ => rfl
  | 3, _ => rfl
  | 4, _ => rfl
  | 5, _ => rfl

/-- What linkboynum.Bytes answers. -/
def CopyEnd (bs : List Int) (w : World) (e : Ending) (w' : World) : Prop := ∃ g, e = .returned (.slice (some ⟨g, 0, none⟩) bs.length (bs.length + 6)) ∧ w.heap.size ≤ g ∧ CopyAt w' g bs ∧ Below w.heap.size w w'

theorem copy_own {w : World} {base g n : Nat} {bs : List Int} (h : w.ownsRow base 5 1 (.slice (some ⟨g, 0, none⟩) (bs.length + 6) n) (bs.length + 6) (bs.map (Value.int .u8) ++ marks.map (Value.int .u8))) : CopyAt w g bs := by
  refine ⟨?_, fun j hj => ?_⟩
  · rcases h.2 with ⟨h', _⟩ | ⟨g', cap, cur, h', _, hg, _⟩
    · cases h'
    · simp only [Value.slice.injEq, Option.some.injEq, Addr.mk.injEq, and_true] at h'
      obtain ⟨rfl, _⟩ := h'
      exact (Array.getElem?_eq_some_iff.1 hg).1
  · rw [h.cellAt j (by rw [Nat.mul_one]; exact hj), ← List.map_append, List.getElem?_map]
    have hl : j < (bs ++ marks).length := by rw [List.length_append]; exact hj
    rw [List.getElem?_eq_getElem hl, List.getD, List.getElem?_eq_getElem hl]
    rfl


/-- The text of bytes. -/
theorem conv_bys {w : World} {n₀ : Nat} {ad : Option Addr} {bs : List Int} (h : Bys n₀ w ad bs) (cap : Nat) : (convert 77 9 (.slice ad bs.length cap)).run Tryd.prog w = .ok (.string (strOfNums bs)) w := by
  by_cases h0 : bs.length = 0
  · obtain rfl : bs = [] := List.length_eq_zero_iff.1 h0
    cases ad with
    | none => exact run_convert_bytes_nil (P := Tryd.prog) w 77 5 Tryd.underlying77 Tryd.underlying5 0 cap 9 Tryd.underlying9
    | some a =>
      rw [run_convert_bytes_string w 77 9 5 _ _ _ Tryd.underlying77 Tryd.underlying5 Tryd.underlying9]
      exact run_bytesToString w a 0 cap [] (by simpa using run_loadCells_list (P := Tryd.prog) w a [] (fun j v hj => by simp at hj))
  · obtain ⟨g, o, rfl, _, _⟩ := h 0 (by omega)
    exact run_convert_bytes_arg (P := Tryd.prog) w 77 5 Tryd.underlying77 Tryd.underlying5 g o bs.length cap bs rfl (fun j hj => by
      obtain ⟨g', o', e, _, hc⟩ := h j hj
      cases e
      exact hc) 9 Tryd.underlying9

theorem wrapMark (k : Nat) (h : k < 6) : IntKind.u8.wrap (201 + (k : Int)) = 201 + (k : Int) := by
  simp only [IntKind.wrap, IntKind.bits, IntKind.signed]
  simp
  omega

end Go.Proofs.YtgpbmbefdgbblaaDoor
