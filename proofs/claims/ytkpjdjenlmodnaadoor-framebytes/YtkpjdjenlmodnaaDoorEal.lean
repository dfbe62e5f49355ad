/-
  The chapter's example.
-/
import Derived.Test.YtkpjdjenlmodnaaDoorEct
namespace Go.Proofs.YtkpjdjenlmodnaaDoor
open Go.RowKit Go.Lib

theorem cuts_ex : Cuts [0, 2, 7, 9] [(7, [9])] 0 false :=
  .whole (bs := [0, 2, 7, 9]) (F := []) (n := 0) (b := false) (by decide) (by decide) (by decide) (by decide) (.short (bs := []) (by decide))
theorem row_lit (w : World) : RowA (fun _ => True) (w.alloc (.cells #[.int .u8 0, .int .u8 2, .int .u8 7, .int .u8 9] 5)) (some ⟨w.heap.size, 0, none⟩) [0, 2, 7, 9] := fun j hj => by
  refine ⟨_, _, rfl, trivial, ?_⟩
  rw [Nat.zero_add, new_cell]
  match j, hj with
  | 0, _ => rfl
  | 1, _ => rfl
  | 2, _ => rfl
  | 3, _ => rfl
theorem own_shapeG {w : World} {base : Nat} {e : TypeId} {size : Nat} {v : Value} {n : Nat} {xs : List Value} (h : w.ownsRow base e size v n xs) : ∃ ad cap, v = .slice ad n cap := by
  rcases h.2 with ⟨h', h0⟩ | ⟨g, cap, cur, h', _⟩
  · exact ⟨none, 0, by rw [h0]; exact h'⟩
  · exact ⟨_, _, h'⟩

section
variable {w : World} {eF : Addr}
set_option linter.unusedSimpArgs false in
set_option maxRecDepth 100000 in
set_option maxHeartbeats 4000000 in
theorem alive_any (hE : w.cell? ⟨3, 0, none⟩ = some (.iface 82 (.pointer (some eF)))) :
    Calls Tryd.prog 6 #[] w fun e w' => e = .returned (.bool true) ∧ Below w.heap.size w w' := by
  have HC : Hid (∀ w1, w1 = w.alloc (.cells #[.int .u8 0, .int .u8 2, .int .u8 7, .int .u8 9] 5) → Calls Tryd.prog 8 #[.slice (some ⟨w.heap.size, 0, none⟩) 4 4] w1 (CutEnd w1 [0, 2, 7, 9] eF)) := hid fun w1 h1 => by
    have hb : Below w.heap.size w w1 := h1 ▸ (Below.refl _ _).alloc (Nat.le_refl _) _
    exact cut_any ((hb.cell (World.block_lt_of_cell? w _ hE)).trans hE) [0, 2, 7, 9] (h1 ▸ row_lit w) (by decide) (fun e => by cases e) (Byt.of (by decide)) (by decide)
  clear hE
  go_enter Tryd.func6, Tryd.ntmps6
  go_wp2_with fail
  obtain ⟨w1, h1⟩ : ∃ w1, w1 = w.alloc (.cells #[.int .u8 0, .int .u8 2, .int .u8 7, .int .u8 9] 5) := ⟨_, rfl⟩
  have hb : Below w.heap.size w w1 := h1 ▸ (Below.refl _ _).alloc (Nat.le_refl _) _
  have HB := hid hb
  have HC1 := hid (HC.out w1 h1)
  rw [← h1]
  clear h1 hb HC
  refine HC1.out.mono ?_
  rintro e w2 ⟨v, F, xs, n, b, rfl, hcu, ho, hf, hb⟩
  obtain ⟨rfl, rfl, rfl⟩ := hcu.unique cuts_ex
  have HB2 : Hid (Below w.heap.size w w2) := hid (HB.out.trans (hb.mono HB.out.size))
  obtain ⟨k, s, rfl⟩ : ∃ k s, xs = [k, s] := by
    match xs, hf with
    | [k, s], _ => exact ⟨k, s, rfl⟩
    | k :: s :: _ :: _, h => first | exact h.2.2.elim | (cases ‹List Value› <;> exact h.2.2.elim)
  obtain ⟨rfl, ⟨ad, cap, rfl, hc, hn, hr⟩, -⟩ := hf
  have q1 : (convert 22 9 (.slice ad 1 cap)).run Tryd.prog w2 = .ok (.string (strOfNums [9])) w2 := conv_bys (bs := [9]) hr.bys cap
  obtain ⟨adv, capv, rfl⟩ := own_shapeG ho
  obtain ⟨g, rfl⟩ : ∃ g, adv = some ⟨g, 0, none⟩ := by
    rcases ho.2 with ⟨h', h0⟩ | ⟨g, cap, cur, h', _⟩
    · cases h0
    · cases h'
      exact ⟨_, rfl⟩
  have hcs := ho.cells (g := g) rfl
  have c0 : w2.cell? ⟨g, 0, none⟩ = some (.int .i64 7) := hcs 0 _ rfl
  have c1 : w2.cell? ⟨g, 1, none⟩ = some (.slice ad 1 cap) := hcs 1 _ rfl
  clear ho hcu hr hcs hb HC1 HB hn
  rw [show errV eF false = .nilIface from rfl]
  go_wp2
  go_ret
  exact ⟨by simp; rw [show strOfNums [9] = (⟨#[9]⟩ : ByteArray) from rfl]; simp [ByteArray.toList, ByteArray.toList.loop, ByteArray.size, ByteArray.get!], HB2.out⟩
end
end Go.Proofs.YtkpjdjenlmodnaaDoor
