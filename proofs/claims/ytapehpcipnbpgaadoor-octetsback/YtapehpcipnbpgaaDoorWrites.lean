/-
  The walk of the law OctetsWrites.
-/
import Derived.Test.YtapehpcipnbpgaaDoorErr
namespace Go.Proofs.YtapehpcipnbpgaaDoor
open Go.RowKit

theorem own_below {w w' : World} {base : Nat} {v : Value} {n : Nat} {xs : List Value} (h : w.ownsRow base 5 1 v n xs) (hb : Below w.heap.size w w') : w'.ownsRow base 5 1 v n xs := by
  refine ⟨h.1, ?_⟩
  rcases h.2 with h1 | ⟨g, cap, cur, rfl, h2, h3, h4⟩
  · exact .inl h1
  · exact .inr ⟨g, cap, cur, rfl, h2, by rw [hb.block g (Array.getElem?_eq_some_iff.1 h3).1]; exact h3, h4⟩

/-- A list of bytes, as a text, from here on. -/
def Conv (v : Value) (S : ByteArray) (w : World) : Prop := ∀ w', Below w.heap.size w w' → (convert 23 9 v).run Tryd.prog w' = .ok (.string S) w'

theorem conv_of_own {w : World} {base g n cap : Nat} {xs : List Int} (h : w.ownsRow base 5 1 (.slice (some ⟨g, 0, none⟩) n cap) n (xs.map (Value.int .u8))) : Conv (.slice (some ⟨g, 0, none⟩) n cap) (strOfNums xs) w :=
  fun _ hb => conv_own (own_below h hb)
theorem conv_nil (w : World) : Conv (.slice none 0 0) ByteArray.empty w := fun w' _ => run_convert_bytes_nil w' 23 5 Tryd.underlying23 Tryd.underlying5 0 0 9 Tryd.underlying9

def NumEnd (er : Value) (S : ByteArray) (w : World) (e : Ending) (w' : World) : Prop := ∃ v, e = .returned (.tuple #[v, er]) ∧ Conv v S w' ∧ Below w.heap.size w w'
def CodeEnd (c : Int) (w : World) (e : Ending) (w' : World) : Prop := e = .returned (.int .i64 c) ∧ Below w.heap.size w w'

/-- What stands behind the first byte of a text's bytes, as a text. -/
theorem conv_tail {w : World} {base g cap : Nat} {t : ByteArray} {x : Int} (h : w.ownsRow base 5 1 (.slice (some ⟨g, 0, none⟩) (1 + t.size) cap) (1 + t.size) ((x :: txt t).map (Value.int .u8))) :
    (convert 23 9 (.slice (some ⟨g, 1, none⟩) t.size (cap - 1))).run Tryd.prog w = .ok (.string t) w := by
  have q := run_convert_bytes_arg w 23 5 Tryd.underlying23 Tryd.underlying5 g 1 t.size (cap - 1) (txt t) (txt_length t) (fun i hi => ?_) 9 Tryd.underlying9
  · rwa [strOfNums_txt] at q
  · have := h.cellAt (1 + i) (by omega)
    rw [this, Nat.add_comm 1 i, List.map_cons, List.getElem?_cons_succ]
    simp [List.getD, List.getElem?_map, List.getElem?_eq_getElem (show i < (txt t).length by rw [txt_length]; exact hi)]

theorem conv_none (w : World) (g c : Nat) (t : ByteArray) (h : t.size = 0) : (convert 23 9 (.slice (some ⟨g, 0, none⟩) t.size c)).run Tryd.prog w = .ok (.string t) w := by
  have q := run_convert_bytes_arg w 23 5 Tryd.underlying23 Tryd.underlying5 g 0 t.size c (txt t) (txt_length t) (fun i hi => by omega) 9 Tryd.underlying9
  rwa [strOfNums_txt] at q

theorem one_str : ((strOfNums [1]).toList == [1]) = true := by rw [toList_data, strOfNums_data]; decide
theorem zero_str : ((strOfNums [0]).toList == [0]) = true := by rw [toList_data, strOfNums_data]; decide

set_option maxRecDepth 100000 in
set_option maxHeartbeats 1000000 in
theorem writes_long (n s : Int) (t : ByteArray) (a : Nat → Addr) (w : World) (hE : Errs 18 a w) (h4 : t.size ≤ 400) (h2 : 255 < t.size) (er : Value) (S : ByteArray) (c : Int)
    (hN : ∀ w, Errs 18 a w → Calls Tryd.prog 6 #[.int .i64 n, .int .i64 s] w (NumEnd er S w)) (hR : ∀ w, Calls Tryd.prog 7 #[.int .i64 n, .int .i64 s] w (NumEnd (.int .i64 c) S w))
    (hC : ∀ w, Errs 18 a w → Calls Tryd.prog 8 #[er] w (CodeEnd c w)) :
    Calls Tryd.prog 3 #[.int .i64 n, .int .i64 s, .string t] w fun e w' => e = .returned (.bool true) ∧ Below w.heap.size w w' := by
  have HN := Lib.hid hN
  have HR := Lib.hid hR
  have HC := Lib.hid hC
  have HE := Lib.hid hE
  clear hN hR hC hE
  go_enter Tryd.func3, Tryd.ntmps3
  go_wp2_with fail
  refine (alive_any w).mono ?_
  rintro e w1 ⟨rfl, hb1⟩
  have HE1 := Lib.hid (HE.out.below hb1)
  go_wp2_with fail
  refine (HN.out w1 HE1.out).mono ?_
  rintro e w2 ⟨v2, rfl, hc2, hb2⟩
  have HE2 := Lib.hid (HE1.out.below hb2)
  have HC2 := Lib.hid hc2
  clear hc2
  go_wp2_with fail
  refine (HR.out w2).mono ?_
  rintro e w3 ⟨v3, rfl, hc3, hb3⟩
  have HE3 := Lib.hid (HE2.out.below hb3)
  have q2 := HC2.out w3 hb3
  have q3 := hc3 w3 (Below.refl _ _)
  clear hc3 HC2
  go_wp2_with fail
  refine (HC.out w3 HE3.out).mono ?_
  rintro e w4 ⟨rfl, hb4⟩
  have HE4 := Lib.hid (HE3.out.below hb4)
  clear q2 q3
  go_wp2_with fail
  refine (text_long t w4 _ (HE4.out.cell 2 (by omega)) (by unfold maxLen; omega) h2).mono ?_
  rintro e w5 ⟨rfl, hb5⟩
  have HE5 := Lib.hid (HE4.out.below hb5)
  go_wp2_with fail
  refine (num_err a 2 (by omega) w5 HE5.out).mono ?_
  rintro e w6 ⟨rfl, hb6⟩
  go_wp2_with fail
  refine (flag_any _ w6).mono ?_
  rintro e w7 ⟨rfl, ho7, hb7⟩
  have q7 := conv_own ho7
  have k7 := one_str
  simp only [if_true] at q7
  go_wp2_with fail
  refine (flag_any _ w7).mono ?_
  rintro e w8 ⟨rfl, ho8, hb8⟩
  have q8 := conv_own ho8
  have k8 := zero_str
  simp only [Bool.false_eq_true, if_false] at q8
  go_wp2
  go_ret
  refine ⟨rfl, ?_⟩
  exact hb1.trans ((hb2.trans ((hb3.trans ((hb4.trans ((hb5.trans ((hb6.trans ((hb7.trans (hb8.mono hb7.size)).mono hb6.size)).mono hb5.size)).mono hb4.size)).mono hb3.size)).mono hb2.size)).mono hb1.size)

set_option maxRecDepth 100000 in
set_option maxHeartbeats 1000000 in
theorem writes_short (n s : Int) (t : ByteArray) (a : Nat → Addr) (w : World) (hE : Errs 18 a w) (h2 : t.size ≤ 255) (er : Value) (S : ByteArray) (c : Int)
    (hN : ∀ w, Errs 18 a w → Calls Tryd.prog 6 #[.int .i64 n, .int .i64 s] w (NumEnd er S w)) (hR : ∀ w, Calls Tryd.prog 7 #[.int .i64 n, .int .i64 s] w (NumEnd (.int .i64 c) S w))
    (hC : ∀ w, Errs 18 a w → Calls Tryd.prog 8 #[er] w (CodeEnd c w)) :
    Calls Tryd.prog 3 #[.int .i64 n, .int .i64 s, .string t] w fun e w' => e = .returned (.bool true) ∧ Below w.heap.size w w' := by
  have HN := Lib.hid hN
  have HR := Lib.hid hR
  have HC := Lib.hid hC
  have HE := Lib.hid hE
  clear hN hR hC hE
  go_enter Tryd.func3, Tryd.ntmps3
  go_wp2_with fail
  refine (alive_any w).mono ?_
  rintro e w1 ⟨rfl, hb1⟩
  have HE1 := Lib.hid (HE.out.below hb1)
  go_wp2_with fail
  refine (HN.out w1 HE1.out).mono ?_
  rintro e w2 ⟨v2, rfl, hc2, hb2⟩
  have HE2 := Lib.hid (HE1.out.below hb2)
  have HC2 := Lib.hid hc2
  clear hc2
  go_wp2_with fail
  refine (HR.out w2).mono ?_
  rintro e w3 ⟨v3, rfl, hc3, hb3⟩
  have HE3 := Lib.hid (HE2.out.below hb3)
  have q2 := HC2.out w3 hb3
  have q3 := hc3 w3 (Below.refl _ _)
  clear hc3 HC2
  go_wp2_with fail
  refine (HC.out w3 HE3.out).mono ?_
  rintro e w4 ⟨rfl, hb4⟩
  clear q2 q3
  go_wp2_with fail
  refine (text_short t w4 h2).mono ?_
  rintro e w5 ⟨g, cap, rfl, ho5, hb5⟩
  have hc0 := ho5.cellAt 0 (by omega)
  simp only [List.map_cons, List.getElem?_cons_zero] at hc0
  have hcap : 1 + t.size ≤ cap := by
    rcases ho5.2 with ⟨h, _⟩ | ⟨g', cap', cur, h, _, _, h3, _⟩
    · cases h
    · cases h; exact h3
  have K1 := one_str
  have K0 := zero_str
  have fin : ∀ w8, Below w5.heap.size w5 w8 → Below w.heap.size w w8 := fun w8 hb =>
    hb1.trans ((hb2.trans ((hb3.trans ((hb4.trans ((hb5.trans (hb.mono hb5.size)).mono hb4.size)).mono hb3.size)).mono hb2.size)).mono hb1.size)
  have HF := Lib.hid fin
  clear fin hb1 hb2 hb3 hb4
  by_cases h1 : cap = 1
  · have h0 : t.size = 0 := by omega
    have q5 := conv_none w5 g 0 t h0
    rw [h0] at q5
    clear h0
    have HO := Lib.hid ho5
    clear ho5
    subst h1
    go_wp2_with fail
    refine (flag_any _ w5).mono ?_
    rintro e w7 ⟨rfl, ho7, hb7⟩
    have q7 := conv_own ho7
    simp only [if_true] at q7
    clear q5
    go_wp2_with fail
    refine (flag_any _ w7).mono ?_
    rintro e w8 ⟨rfl, ho8, hb8⟩
    have q8 := conv_own ho8
    simp only [Bool.false_eq_true, if_false] at q8
    go_wp2
    go_ret
    exact ⟨rfl, HF.out _ (hb7.trans (hb8.mono hb7.size))⟩
  · have q5 := conv_tail ho5
    have HO := Lib.hid ho5
    clear ho5
    go_wp2_with fail
    refine (flag_any _ w5).mono ?_
    rintro e w7 ⟨rfl, ho7, hb7⟩
    have q7 := conv_own ho7
    simp only [if_true] at q7
    clear q5
    go_wp2_with fail
    refine (flag_any _ w7).mono ?_
    rintro e w8 ⟨rfl, ho8, hb8⟩
    have q8 := conv_own ho8
    simp only [Bool.false_eq_true, if_false] at q8
    go_wp2
    go_ret
    exact ⟨rfl, HF.out _ (hb7.trans (hb8.mono hb7.size))⟩
end Go.Proofs.YtapehpcipnbpgaaDoor
