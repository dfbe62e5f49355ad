/-
  The walk of the law PortsWords.
-/
import Derived.Test.YtnfkgoeocebenaaDoorPalive
namespace Go.Proofs.YtnfkgoeocebenaaDoor
open Go.RowKit


theorem wright_any (n : Int) (w : World) : Calls Tryd.prog 7 #[.int .i64 n] w fun e w' => e = .returned (.bool (rp n)) ∧ w = w' := by
  unfold rp
  by_cases h1 : 1 ≤ n
  · have q1 : decide (n > 0) = true := decide_eq_true (by omega)
    have q1' : decide (0 < n) = true := decide_eq_true (by omega)
    have q2 : decide (1 ≤ n) = true := decide_eq_true h1
    have q3 : decide (n ≤ 65535) = decide (n < 65536) := by rw [decide_eq_decide]; omega
    rw [q2, Bool.true_and, q3]
    go_enter Tryd.func7, Tryd.ntmps7
    go_wp2
    go_ret
    exact ⟨rfl, rfl⟩
  · have q1 : decide (n > 0) = false := decide_eq_false (by omega)
    have q1' : decide (0 < n) = false := decide_eq_false (by omega)
    have q2 : decide (1 ≤ n) = false := decide_eq_false h1
    rw [q2, Bool.false_and]
    go_enter Tryd.func7, Tryd.ntmps7
    go_wp2
    go_ret
    exact ⟨rfl, rfl⟩

theorem wproto_any (n : Int) (w : World) : Calls Tryd.prog 8 #[.int .i64 n] w fun e w' => e = .returned (.bool (n == 6 || n == 17)) ∧ w = w' := by
  cases h : (n == 6)
  all_goals
    go_enter Tryd.func8, Tryd.ntmps8
    go_wp2
    go_ret
    exact ⟨rfl, rfl⟩
theorem wrproto_any (n : Int) (w : World) : Calls Tryd.prog 9 #[.int .i64 n] w fun e w' => e = .returned (.bool (n == 6 || n == 17)) ∧ w = w' := by
  cases h : (n == 6)
  all_goals
    go_enter Tryd.func9, Tryd.ntmps9
    go_wp2
    go_ret
    exact ⟨rfl, rfl⟩
/-- A protocol's word. -/
def wordOf (n : Int) : ByteArray := if (n == 6) = true then ⟨#[116, 99, 112]⟩ else if (n == 17) = true then ⟨#[117, 100, 112]⟩ else ⟨#[]⟩
theorem wword_any (n : Int) (w : World) : Calls Tryd.prog 10 #[.int .i64 n] w fun e w' => e = .returned (.string (wordOf n)) ∧ w = w' := by
  unfold wordOf
  cases h : (n == 6)
  · cases h2 : (n == 17)
    all_goals
      go_enter Tryd.func10, Tryd.ntmps10
      go_wp2
      go_ret
      exact ⟨rfl, rfl⟩
  · go_enter Tryd.func10, Tryd.ntmps10
    go_wp2
    go_ret
    exact ⟨rfl, rfl⟩

/-- A word's protocol, and its error. -/
def namedOf (x : ByteArray) (P : Value) : Int × Value := if (x.toList == [116, 99, 112]) = true then (6, .nilIface) else if (x.toList == [117, 100, 112]) = true then (17, .nilIface) else (0, P)
set_option maxRecDepth 100000 in
theorem named_any (x : ByteArray) (P : Value) (w : World) (hP : w.cell? ⟨0, 0, none⟩ = some P) :
    Calls Tryd.prog 5 #[.string x] w fun e w' => e = .returned (.tuple #[.int .i64 (namedOf x P).1, (namedOf x P).2]) ∧ Below w.heap.size w w' := by
  unfold namedOf
  cases h : (x.toList == [116, 99, 112])
  · cases h2 : (x.toList == [117, 100, 112])
    · have hP2 : w.drew.cell? ⟨0, 0, none⟩ = some P := hP
      go_enter Tryd.func5, Tryd.ntmps5
      go_wp2_with fail
      go_region
      all_goals go_wp2
      all_goals go_ret2
      all_goals exact ⟨rfl, below_drewN w 1⟩
    · go_enter Tryd.func5, Tryd.ntmps5
      go_wp2
      go_ret2
      exact ⟨rfl, Below.refl _ _⟩
  · go_enter Tryd.func5, Tryd.ntmps5
    go_wp2
    go_ret2
    exact ⟨rfl, Below.refl _ _⟩

theorem tcp_udp : (([116, 99, 112] : List UInt8) == [117, 100, 112]) = false := by decide +kernel
theorem not_both (x : ByteArray) (h1 : (x.toList == [116, 99, 112]) = true) (h2 : (x.toList == [117, 100, 112]) = true) : False := by
  have e := (beq_iff_eq.1 h1).symm.trans (beq_iff_eq.1 h2)
  have := tcp_udp
  rw [beq_eq_false_iff_ne] at this
  exact this e

set_option maxRecDepth 100000 in
set_option maxHeartbeats 1000000 in
theorem words_long (n : Int) (x : ByteArray) (hs : 100 < x.size) (w : World)
    (c0 : Calls Tryd.prog 4 #[] w fun e w' => e = .returned (.bool true) ∧ Below w.heap.size w w') :
    Calls Tryd.prog 3 #[.int .i64 n, .string x] w fun e w' => e = .returned (.bool true) ∧ Below w.heap.size w w' := by
  have C0 := Lib.hid c0
  clear c0
  go_enter Tryd.func3, Tryd.ntmps3
  go_wp2_with fail
  refine C0.out.mono ?_
  rintro e w1 ⟨rfl, hb1⟩
  go_wp2
  go_ret
  exact ⟨rfl, hb1⟩

set_option maxRecDepth 100000 in
set_option maxHeartbeats 8000000 in
theorem words_walk (n : Int) (x : ByteArray) (hs : x.size ≤ 100) (R Q : Bool) (P : Value) (w : World)
    (c0 : Calls Tryd.prog 4 #[] w fun e w' => e = .returned (.bool true) ∧ Below w.heap.size w w')
    (c1 : ∀ w', Below w.heap.size w w' → Calls Tryd.prog 5 #[.string x] w' fun e w2 => e = .returned (.tuple #[.int .i64 (namedOf x P).1, (namedOf x P).2]) ∧ Below w'.heap.size w' w2)
    (c2 : ∀ w, Calls Tryd.prog 6 #[.int .i64 n] w fun e w' => e = .returned (.bool R) ∧ w = w')
    (c3 : ∀ w, Calls Tryd.prog 7 #[.int .i64 n] w fun e w' => e = .returned (.bool R) ∧ w = w')
    (c4 : ∀ w, Calls Tryd.prog 8 #[.int .i64 n] w fun e w' => e = .returned (.bool Q) ∧ w = w')
    (c5 : ∀ w, Calls Tryd.prog 9 #[.int .i64 n] w fun e w' => e = .returned (.bool Q) ∧ w = w')
    (c6 : ∀ w', Below w.heap.size w w' → Calls Tryd.prog 11 #[P] w' fun e w2 => e = .returned (.int .i64 17) ∧ Below w'.heap.size w' w2)
    (c7 : ∀ w, Calls Tryd.prog 11 #[.nilIface] w fun e w' => e = .returned (.int .i64 0) ∧ Below w.heap.size w w') :
    Calls Tryd.prog 3 #[.int .i64 n, .string x] w fun e w' => e = .returned (.bool true) ∧ Below w.heap.size w w' := by
  have C0 := Lib.hid c0
  have C1 := Lib.hid c1
  have C2 := Lib.hid c2
  have C3 := Lib.hid c3
  have C4 := Lib.hid c4
  have C5 := Lib.hid c5
  have C6 := Lib.hid c6
  have C7 := Lib.hid c7
  have CW := Lib.hid (wword_any n)
  clear c0 c1 c2 c3 c4 c5 c6 c7
  unfold namedOf at C1
  unfold wordOf at CW
  obtain h6 | h6 | h6 : ((n == 6) = true ∧ (n == 17) = false) ∨ ((n == 6) = false ∧ (n == 17) = true) ∨ ((n == 6) = false ∧ (n == 17) = false) := by
    by_cases h : n = 6
    · subst h; exact .inl ⟨rfl, rfl⟩
    · by_cases h' : n = 17
      · subst h'; exact .inr (.inl ⟨rfl, rfl⟩)
      · exact .inr (.inr ⟨by rw [beq_eq_false_iff_ne]; exact h, by rw [beq_eq_false_iff_ne]; exact h'⟩)
  all_goals
    obtain ⟨n6, n17⟩ := h6
    rw [n6, n17] at CW
    simp only [if_true, if_false, Bool.false_eq_true] at CW
    cases h1 : (x.toList == [116, 99, 112])
    · cases h2 : (x.toList == [117, 100, 112])
      · rw [h1, h2] at C1
        simp only [if_false, Bool.false_eq_true] at C1
        go_enter Tryd.func3, Tryd.ntmps3
        go_wp2_with fail
        refine C0.out.mono ?_
        rintro e w1 ⟨rfl, hb1⟩
        go_wp2_with fail
        refine (C1.out w1 hb1).mono ?_
        rintro e w2 ⟨rfl, hb2⟩
        have hb := bel2 hb1 hb2
        go_wp2_with fail
        refine (C2.out w2).mono ?_
        rintro e w3 ⟨rfl, hw3⟩
        rw [← hw3]
        clear hw3
        go_wp2_with fail
        refine (C3.out w2).mono ?_
        rintro e w3 ⟨rfl, hw3⟩
        rw [← hw3]
        clear hw3
        have hR : (R == R) = true := by simp
        have hQ : (Q == Q) = true := by simp
        go_wp2_with fail
        refine (C4.out w2).mono ?_
        rintro e w3 ⟨rfl, hw3⟩
        rw [← hw3]
        clear hw3
        go_wp2_with fail
        refine (C5.out w2).mono ?_
        rintro e w3 ⟨rfl, hw3⟩
        rw [← hw3]
        clear hw3
        go_wp2_with fail
        refine (CW.out w2).mono ?_
        rintro e w3 ⟨rfl, hw3⟩
        rw [← hw3]
        clear hw3
        go_wp2_with fail
        refine (C6.out w2 hb).mono ?_
        rintro e w3 ⟨rfl, hb3⟩
        go_wp2
        go_ret
        exact ⟨rfl, bel2 hb hb3⟩
      · rw [h1, h2] at C1
        simp only [if_true, if_false, Bool.false_eq_true] at C1
        go_enter Tryd.func3, Tryd.ntmps3
        go_wp2_with fail
        refine C0.out.mono ?_
        rintro e w1 ⟨rfl, hb1⟩
        go_wp2_with fail
        refine (C1.out w1 hb1).mono ?_
        rintro e w2 ⟨rfl, hb2⟩
        have hb := bel2 hb1 hb2
        go_wp2_with fail
        refine (C2.out w2).mono ?_
        rintro e w3 ⟨rfl, hw3⟩
        rw [← hw3]
        clear hw3
        go_wp2_with fail
        refine (C3.out w2).mono ?_
        rintro e w3 ⟨rfl, hw3⟩
        rw [← hw3]
        clear hw3
        have hR : (R == R) = true := by simp
        have hQ : (Q == Q) = true := by simp
        go_wp2_with fail
        refine (C4.out w2).mono ?_
        rintro e w3 ⟨rfl, hw3⟩
        rw [← hw3]
        clear hw3
        go_wp2_with fail
        refine (C5.out w2).mono ?_
        rintro e w3 ⟨rfl, hw3⟩
        rw [← hw3]
        clear hw3
        go_wp2_with fail
        refine (CW.out w2).mono ?_
        rintro e w3 ⟨rfl, hw3⟩
        rw [← hw3]
        clear hw3
        go_wp2_with fail
        refine (C7.out w2).mono ?_
        rintro e w3 ⟨rfl, hb3⟩
        go_wp2
        go_ret
        exact ⟨rfl, bel2 hb hb3⟩
    · have h2 : (x.toList == [117, 100, 112]) = false := by
        cases h2 : (x.toList == [117, 100, 112])
        · rfl
        · exact (not_both x h1 h2).elim
      rw [h1] at C1
      simp only [if_true] at C1
      go_enter Tryd.func3, Tryd.ntmps3
      go_wp2_with fail
      refine C0.out.mono ?_
      rintro e w1 ⟨rfl, hb1⟩
      go_wp2_with fail
      refine (C1.out w1 hb1).mono ?_
      rintro e w2 ⟨rfl, hb2⟩
      have hb := bel2 hb1 hb2
      go_wp2_with fail
      refine (C2.out w2).mono ?_
      rintro e w3 ⟨rfl, hw3⟩
      rw [← hw3]
      clear hw3
      go_wp2_with fail
      refine (C3.out w2).mono ?_
      rintro e w3 ⟨rfl, hw3⟩
      rw [← hw3]
      clear hw3
      have hR : (R == R) = true := by simp
      have hQ : (Q == Q) = true := by simp
      go_wp2_with fail
      refine (C4.out w2).mono ?_
      rintro e w3 ⟨rfl, hw3⟩
      rw [← hw3]
      clear hw3
      go_wp2_with fail
      refine (C5.out w2).mono ?_
      rintro e w3 ⟨rfl, hw3⟩
      rw [← hw3]
      clear hw3
      go_wp2_with fail
      refine (CW.out w2).mono ?_
      rintro e w3 ⟨rfl, hw3⟩
      rw [← hw3]
      clear hw3
      go_wp2_with fail
      refine (C7.out w2).mono ?_
      rintro e w3 ⟨rfl, hb3⟩
      go_wp2
      go_ret
      exact ⟨rfl, bel2 hb hb3⟩

theorem words_any (n : Int) (x : ByteArray) (a : Nat → Addr) (w : World) (hE : Env (.iface 97 (.pointer (some (a 3)))) w) (hErr : Errs 18 a w) :
    Calls Tryd.prog 3 #[.int .i64 n, .string x] w fun e w' => e = .returned (.bool true) ∧ Below w.heap.size w w' := by
  have c0 := alive4_any 97 (.pointer (some (a 3))) w hE
  by_cases hs : 100 < x.size
  · exact words_long n x hs w c0
  · have hP : w.cell? ⟨0, 0, none⟩ = some (.iface 97 (.pointer (some (a 16)))) := hErr.cell 16 (by decide)
    exact words_walk n x (by omega) (rp n) (n == 6 || n == 17) (.iface 97 (.pointer (some (a 16)))) w c0
      (fun w' hb => named_any x _ w' (cell_kept hP hb)) (pright_any n) (wright_any n) (wproto_any n) (wrproto_any n)
      (fun w' hb => num_err a 16 (by decide) w' (hErr.below hb)) (fun w => (num_nil w).mono fun e w2 hh => ⟨hh.1, by rw [← hh.2]; exact Below.refl _ _⟩)
end Go.Proofs.YtnfkgoeocebenaaDoor
