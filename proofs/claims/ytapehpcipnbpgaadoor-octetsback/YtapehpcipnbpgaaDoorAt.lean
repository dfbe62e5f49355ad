/-
  octets.apart and octets.At: a cursor over a copy of bytes.
-/
import Derived.Test.YtapehpcipnbpgaaDoorCur
namespace Go.Proofs.YtapehpcipnbpgaaDoor
open Go.RowKit

set_option maxHeartbeats 400000 in
theorem apart_any {w : World} {B g cap : Nat} {bs : List Int} (h : w.ownsRow B 5 1 (.slice (some ⟨g, 0, none⟩) bs.length cap) bs.length (bs.map (Value.int .u8))) (h0 : 0 < bs.length) (h1 : bs.length ≤ 1000000) :
    Calls Tryd.prog 19 #[.slice (some ⟨g, 0, none⟩) bs.length cap] w fun e w' => ∃ g' cap', e = .returned (.slice (some ⟨g', 0, none⟩) bs.length cap') ∧
      w'.ownsRow w.heap.size 5 1 (.slice (some ⟨g', 0, none⟩) bs.length cap') bs.length (bs.map (Value.int .u8)) ∧ Below w.heap.size w w' := by
  obtain ⟨i0, hi, hz0, hz1, hz2⟩ := info_parts Tryd.info5
  have hcell : ∀ j u, (bs.map (Value.int .u8))[j]? = some u → w.cell? ((⟨g, 0, none⟩ : Addr).add j) = some u := h.cells rfl
  have HC := Lib.hid hcell
  have HW := Lib.hid h
  clear hcell h
  go_enter Tryd.func19, Tryd.ntmps19
  go_wp2_with (at_builtin; refine wpList_append_grows _ rfl (.tmp 4) (.tmp 5) 23 rfl 5 i0 (.int .u8 0) 1 1 Tryd.underlying23 hi hz0 hz1 hz2 rfl (by decide) _ 0 0 [] rfl ?c1 rfl ?c2 ⟨g, 0, none⟩ bs.length cap (bs.map (Value.int .u8)) rfl ?c3 HC.out (ints_oneCell _ _) ?c4 ?c5 ?c6 ?_; rotate_right; intro v' w1 hown hgrow)
  case c2 => intro b _ j u hu; simp at hu
  case c3 => simp
  case c4 => omega
  case c5 => unfold maxLen; omega
  case c6 => omega
  go_ret
  simp only [Nat.zero_add, List.nil_append] at hown
  obtain ⟨g', cap', rfl, -⟩ := own_shape hown h0
  exact ⟨g', cap', rfl, hown, (Below.refl _ _).grown hgrow (Nat.le_refl _) (fun k hk => by cases hk)⟩

set_option maxHeartbeats 400000 in
theorem at_any {w : World} {B g cap : Nat} {bs : List Int} (h : w.ownsRow B 5 1 (.slice (some ⟨g, 0, none⟩) bs.length cap) bs.length (bs.map (Value.int .u8))) (h0 : 0 < bs.length) (h1 : bs.length ≤ 1000000)
    (hby : ∀ x ∈ bs, 0 ≤ x ∧ x ≤ 255) :
    Calls Tryd.prog 11 #[.slice (some ⟨g, 0, none⟩) bs.length cap] w fun e w' => ∃ c g' cap', e = .returned (.pointer (some ⟨c, 0, none⟩)) ∧ Cur w' w.heap.size c g' cap' bs 0 ∧ Below w.heap.size w w' := by
  have H := Lib.hid h
  have HB := Lib.hid hby
  clear h hby
  go_enter Tryd.func11, Tryd.ntmps11
  go_wp2_with fail
  refine (apart_any H.out h0 h1).mono ?_
  rintro e w1 ⟨g', cap', rfl, ho, hb⟩
  have hsz := hb.size
  have HO := Lib.hid ho
  clear ho
  go_wp2
  go_ret
  refine ⟨w1.heap.size, g', cap', rfl, ⟨heap_alloc_new w1 _, HO.out.alloc _, hsz, h1, HB.out⟩, hb.alloc hsz _⟩
end Go.Proofs.YtapehpcipnbpgaaDoor
