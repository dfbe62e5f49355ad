/-
  The walks of alive, octets.Text, octets.Flag.
-/
import Derived.Test.YtapehpcipnbpgaaDoorNum
import Derived.Lib.AppendStr
namespace Go.Proofs.YtapehpcipnbpgaaDoor
open Go.RowKit

theorem conv_own {w : World} {base g n cap : Nat} {xs : List Int} (h : w.ownsRow base 5 1 (.slice (some ⟨g, 0, none⟩) n cap) n (xs.map (Value.int .u8))) :
    (convert 23 9 (.slice (some ⟨g, 0, none⟩) n cap)).run Tryd.prog w = .ok (.string (strOfNums xs)) w := by
  have hl : xs.length = n := by simpa using h.1
  refine run_convert_bytes_arg w 23 5 Tryd.underlying23 Tryd.underlying5 g 0 n cap xs hl (fun i hi => ?_) 9 Tryd.underlying9
  have := h.cellAt i (by omega)
  rw [Nat.zero_add, this]
  simp [List.getD, List.getElem?_map, List.getElem?_eq_getElem (show i < xs.length by omega)]

theorem toList_data (s : ByteArray) : s.toList = s.data.toList := ByteArray.toList_eq s

theorem own_shape {w : World} {base n : Nat} {v : Value} {xs : List Value} (h : w.ownsRow base 5 1 v n xs) (hn : 0 < n) : ∃ g cap, v = .slice (some ⟨g, 0, none⟩) n cap ∧ base ≤ g ∧ n ≤ cap ∧ g < w.heap.size := by
  rcases h.2 with ⟨_, h0⟩ | ⟨g, cap, cur, rfl, hb, hg, hnc, _⟩
  · omega
  · exact ⟨g, cap, rfl, hb, hnc, (Array.getElem?_eq_some_iff.1 hg).1⟩

set_option maxHeartbeats 400000 in
theorem alive_any (w : World) : Calls Tryd.prog 5 #[] w fun e w' => e = .returned (.bool true) ∧ Below w.heap.size w w' := by
  have hn := octNum_good 258 2 w (by omega) (by omega) (by omega) (by decide)
  have Hn := Lib.hid hn
  clear hn
  go_enter Tryd.func5, Tryd.ntmps5
  go_wp2_with fail
  refine (Hn.out).mono ?_
  rintro e w1 ⟨rfl, ho, hb⟩
  have hc := conv_own ho
  have e0 : be 258 2 = [1, 2] := by decide
  rw [e0] at hc
  clear e0 ho Hn
  go_wp2
  go_ret
  have e1 : ((strOfNums [1, 2]).toList == [1, 2]) = true := by rw [toList_data, strOfNums_data]; decide
  exact ⟨congrArg Ending.returned (congrArg Value.bool e1), hb⟩

set_option maxHeartbeats 400000 in
theorem flag_any (b : Bool) (w : World) : Calls Tryd.prog 10 #[.bool b] w fun e w' => e = .returned (.slice (some ⟨w.heap.size, 0, none⟩) 1 1) ∧
    w'.ownsRow w.heap.size 5 1 (.slice (some ⟨w.heap.size, 0, none⟩) 1 1) 1 ([if b then 1 else 0].map (Value.int .u8)) ∧ Below w.heap.size w w' := by
  cases b
  all_goals
    go_enter Tryd.func10, Tryd.ntmps10
    go_wp2
    go_ret
    exact ⟨rfl, World.ownsRow_lit w _ 1 (Nat.le_refl _) (by decide) rfl, (Below.refl _ _).alloc (Nat.le_refl _) _⟩

/-- A text's bytes, as numbers. -/
def txt (s : ByteArray) : List Int := s.data.toList.map fun b => (b.toNat : Int)
theorem txt_length (s : ByteArray) : (txt s).length = s.size := by simp [txt]
theorem txt_cells (s : ByteArray) : (txt s).map (Value.int .u8) = Lib.strCells s := by simp [txt, Lib.strCells]
theorem strOfNums_txt (s : ByteArray) : strOfNums (txt s) = s := by
  have : (strOfNums (txt s)).data.toList = s.data.toList := by
    rw [strOfNums_data, txt, List.map_map]
    conv => rhs; rw [← List.map_id s.data.toList]
    apply List.map_congr_left
    intro b _
    simp
  cases s
  simp only [strOfNums] at this ⊢
  congr 1
  exact Array.ext' this

set_option maxHeartbeats 400000 in
theorem text_long (s : ByteArray) (w : World) (E2 : Value) (hE : w.cell? ⟨2, 0, none⟩ = some E2) (hs : s.size ≤ maxLen) (h : 255 < s.size) :
    Calls Tryd.prog 9 #[.string s] w fun e w' => e = .returned (.tuple #[.slice none 0 0, E2]) ∧ Below w.heap.size w w' := by
  unfold maxLen at hs
  go_enter Tryd.func9, Tryd.ntmps9
  go_wp2
  go_quiet (fail)
  go_wp2
  go_ret2
  exact ⟨rfl, below_drewN _ _⟩

set_option maxHeartbeats 400000 in
theorem text_short (s : ByteArray) (w : World) (h : s.size ≤ 255) :
    Calls Tryd.prog 9 #[.string s] w fun e w' => ∃ g cap, e = .returned (.tuple #[.slice (some ⟨g, 0, none⟩) (1 + s.size) cap, .nilIface]) ∧
      w'.ownsRow w.heap.size 5 1 (.slice (some ⟨g, 0, none⟩) (1 + s.size) cap) (1 + s.size) (((s.size : Int) :: txt s).map (Value.int .u8)) ∧ Below w.heap.size w w' := by
  obtain ⟨i0, hi, hz0, hz1, hz2⟩ := info_parts Tryd.info5
  go_enter Tryd.func9, Tryd.ntmps9
  go_wp2_with (at_builtin; refine Lib.wpList_append_own_string _ rfl (.tmp 11) (.tmp 12) 23 9 rfl w.heap.size 5 i0 Tryd.underlying23 Tryd.underlying9 hi hz0 hz1 hz2 _ 1 _ rfl (World.ownsRow_lit w _ 1 (Nat.le_refl _) (by decide) rfl) s rfl ?c1 ?c2 ?c3 ?_; rotate_right; intro v' w1 hown hgrow _)
  case c1 => unfold maxLen; omega
  case c2 => omega
  case c3 => simp
  go_ret2
  obtain ⟨g, cap, rfl, -⟩ := own_shape hown (by omega)
  refine ⟨g, cap, rfl, ?_, ?_⟩
  · simpa [← txt_cells] using hown
  · exact ((Below.refl _ _).alloc (Nat.le_refl _) _).grown hgrow (by simp) (fun k hk => by
      have : w.heap.size = k := by simpa [Act.eval, Value.ownBlock] using hk
      omega)
end Go.Proofs.YtapehpcipnbpgaaDoor
