/-
  stride: sized, Right, rest, order and what it makes; the document's Sized, Right.
-/
import Derived.Test.YtgpbmbefdgbblaaDoorFinv
import Derived.Test.YtgpbmbefdgbblaaDoorVpure
import Derived.Test.YtgpbmbefdgbblaaDoorNkit
namespace Go.Proofs.YtgpbmbefdgbblaaDoor
open Go.RowKit Go.Lib

set_option maxHeartbeats 1000000 in
theorem sized_any (n : Int) (w : World) : Calls Tryd.prog 56 #[.int .i64 n] w fun e w' => e = .returned (.bool (sizedB n)) ∧ Below w.heap.size w w' := by
  have HI := hid (is_any n w)
  by_cases h : n ≤ 251
  · have HE : Hid (isP n = sizedB n) := hid (by unfold sizedB; rw [decide_eq_true h, Bool.true_and])
    generalize isP n = b at *
    go_enter Tryd.func56, Tryd.ntmps56
    go_wp2_with fail
    refine HI.out.mono ?_
    rintro e w1 ⟨rfl, hb⟩
    have Hb := hid hb
    clear hb
    go_wp2
    go_ret
    exact ⟨ret_b rfl HE.out, Hb.out⟩
  · have HE : Hid (false = sizedB n) := hid (by unfold sizedB; rw [decide_eq_false h, Bool.false_and])
    go_enter Tryd.func56, Tryd.ntmps56
    go_wp2
    go_ret
    exact ⟨ret_b rfl HE.out, Below.refl _ _⟩


set_option maxHeartbeats 4000000 in
theorem right_any (m o k : Int) (w : World) : Calls Tryd.prog 77 #[.agg #[.int .i64 m, .int .i64 o, .int .i64 k]] w fun e w' => e = .returned (.bool (rightS m o k)) ∧ Below w.heap.size w w' := by
  have HI := hid (fun W => sized_any m W)
  have HN := hid (Blk.new w 74 #[.int .i64 m, .int .i64 o, .int .i64 k])
  have HB : Hid (Below w.heap.size w (w.alloc (.cells #[.int .i64 m, .int .i64 o, .int .i64 k] 74))) := hid ((Below.refl _ w).alloc (Nat.le_refl _) _)
  have HR : Hid (rightS m o k = (sizedB m && decide (0 ≤ o) && decide (o < m) && decide (0 < k) && decide (k < m))) := hid rfl
  generalize sizedB m = b at HI HR
  generalize rightS m o k = r at HR ⊢
  have key : ∀ c : Bool, (b && decide (0 ≤ o) && decide (o < m) && decide (0 < k) && decide (k < m)) = c → (b = false ∧ c = false) ∨ (b = true ∧ ((o < 0 ∧ c = false) ∨ (0 ≤ o ∧ ((m ≤ o ∧ c = false) ∨ (o < m ∧ ((k ≤ 0 ∧ c = false) ∨ (0 < k ∧ ((m ≤ k ∧ c = false) ∨ (k < m ∧ c = true))))))))) := by
    intro c hc
    subst hc
    cases b
    · simp
    · by_cases h1 : 0 ≤ o <;> by_cases h2 : o < m <;> by_cases h3 : 0 < k <;> by_cases h4 : k < m <;> simp [h1, h2, h3, h4] <;> omega
  rcases key r HR.out.symm with ⟨rfl, h0⟩ | ⟨rfl, ⟨h1, h0⟩ | ⟨h1, ⟨h2, h0⟩ | ⟨h2, ⟨h3, h0⟩ | ⟨h3, ⟨h4, h0⟩ | ⟨h4, h0⟩⟩⟩⟩⟩
  all_goals
    have HE := hid h0.symm
    clear h0 HR key
    go_enter Tryd.func77, Tryd.ntmps77
    go_wp2_with fail
    refine (HI.out _).mono ?_
    rintro e w1 ⟨rfl, hb⟩
    have Hb := hid hb
    have c0 : w1.cell? ⟨w.heap.size, 0, none⟩ = some (.int .i64 m) := (HN.out.kept hb).cell 0
    have c1 : w1.cell? ⟨w.heap.size, 1, none⟩ = some (.int .i64 o) := (HN.out.kept hb).cell 1
    have c2 : w1.cell? ⟨w.heap.size, 2, none⟩ = some (.int .i64 k) := (HN.out.kept hb).cell 2
    clear hb
    go_wp2
    go_ret
    exact ⟨ret_b rfl (by first | exact HE.out | (rw [decide_eq_false (by omega)]; exact HE.out) | (rw [decide_eq_true (by omega)]; exact HE.out)), bel2 HB.out Hb.out⟩


set_option maxHeartbeats 2000000 in
theorem srest_any (n m : Int) (h1 : 1 ≤ m) (h2 : m ≤ 251) (w : World) : Calls Tryd.prog 80 #[.int .i64 n, .int .i64 m] w fun e w' => e = .returned (.int .i64 (n % m)) ∧ w = w' := by
  have hne : m ≠ 0 := by omega
  have hc := tmod_cases n h1
  have h3 := Int.emod_nonneg n hne
  have h4 := Int.emod_lt_of_pos n (show 0 < m by omega)
  generalize ht : n.tmod m = t at *
  have hs : 0 ≤ t + m := by omega
  have ht1 : -m < t := by omega
  have ht2 : t < m := by omega
  have e1 : (t + m) % m = n % m := by
    rw [Int.add_emod_right]
    rcases hc with ⟨a, b, c⟩ | ⟨a, b, c⟩
    · rw [c, Int.emod_eq_of_lt a b]
    · rw [c, ← Int.add_emod_right, Int.emod_eq_of_lt (by omega) (by omega)]
  have e2 : (t + m).tmod m = n % m := by rw [Int.tmod_eq_emod_of_nonneg hs, e1]
  clear hc
  generalize n % m = r at *
  go_enter Tryd.func80, Tryd.ntmps80
  go_wp2
  go_ret
  exact ⟨ret_i rfl (by first | rfl | exact e1 | exact e2), rfl⟩

/-- The functions that tell a stride's places. -/
def noF : Value := .func (.func 78) #[] #[]
def yesF (b : Nat) : Value := .func (.func 79) #[] #[.pointer (some ⟨b, 0, none⟩)]

set_option maxHeartbeats 2000000 in
theorem order_no (m o k : Int) (h : rightS m o k = false) (w : World) : Calls Tryd.prog 60 #[.agg #[.int .i64 m, .int .i64 o, .int .i64 k]] w fun e w' => e = .returned (.func (.func 78) #[] #[]) ∧ Below w.heap.size w w' := by
  have HI := hid (fun W => h ▸ right_any m o k W)
  have HB : Hid (Below w.heap.size w (w.alloc (.cells #[.int .i64 m, .int .i64 o, .int .i64 k] 74))) := hid ((Below.refl _ w).alloc (Nat.le_refl _) _)
  clear h
  go_enter Tryd.func60, Tryd.ntmps60
  go_wp2_with fail
  refine (HI.out _).mono ?_
  rintro e w1 ⟨rfl, hb⟩
  have Hb := hid hb
  clear hb
  go_wp2
  go_ret
  exact ⟨rfl, bel2 HB.out Hb.out⟩

set_option maxHeartbeats 2000000 in
theorem order_yes (m o k : Int) (h : rightS m o k = true) (w : World) : Calls Tryd.prog 60 #[.agg #[.int .i64 m, .int .i64 o, .int .i64 k]] w fun e w' => e = .returned (.func (.func 79) #[] #[.pointer (some ⟨w.heap.size, 0, none⟩)]) ∧ Blk w' w.heap.size 74 #[.int .i64 m, .int .i64 o, .int .i64 k] ∧ Below w.heap.size w w' := by
  have HI := hid (fun W => h ▸ right_any m o k W)
  have HN := hid (Blk.new w 74 #[.int .i64 m, .int .i64 o, .int .i64 k])
  have HB : Hid (Below w.heap.size w (w.alloc (.cells #[.int .i64 m, .int .i64 o, .int .i64 k] 74))) := hid ((Below.refl _ w).alloc (Nat.le_refl _) _)
  clear h
  go_enter Tryd.func60, Tryd.ntmps60
  go_wp2_with fail
  refine (HI.out _).mono ?_
  rintro e w1 ⟨rfl, hb⟩
  have Hb := hid hb
  clear hb
  go_wp2
  go_ret
  exact ⟨rfl, HN.out.kept Hb.out, bel2 HB.out Hb.out⟩

set_option maxHeartbeats 2000000 in
theorem placeno_any (j : Int) (w : World) : Calls Tryd.prog 78 #[.int .i64 j] w fun e w' => e = .returned (.int .i64 (-1)) ∧ w = w' := by
  go_enter Tryd.func78, Tryd.ntmps78
  go_wp2
  go_ret
  exact ⟨rfl, rfl⟩

theorem calls_flip {P : Program} {f : FuncId} {args : Array Value} {w : World} {x : Ending} (h : Calls P f args w fun e w' => e = x ∧ w = w') : Calls P f args w fun e w' => e = x ∧ w' = w := h.mono fun _ _ ⟨a, b⟩ => ⟨a, b.symm⟩

theorem mul_small {x y : Int} (hx : 0 ≤ x ∧ x ≤ 251) (hy : 0 ≤ y ∧ y ≤ 251) : 0 ≤ x * y ∧ x * y ≤ 63001 := by
  refine ⟨Int.mul_nonneg hx.1 hy.1, ?_⟩
  have := Int.mul_le_mul hx.2 hy.2 hy.1 (show (0 : Int) ≤ 251 by omega)
  omega

set_option maxHeartbeats 4000000 in
theorem placeyes_any (m o k j : Int) (h : rightS m o k = true) (b : Nat) (w : World) (hb : Blk w b 74 #[.int .i64 m, .int .i64 o, .int .i64 k]) :
    Calls Tryd.prog 79 #[.int .i64 j, .pointer (some ⟨b, 0, none⟩)] w fun e w' => e = .returned (.int .i64 (plc m o k j)) ∧ Below w.heap.size w w' := by
  obtain ⟨a1, a2, a3, a4, a5, a6⟩ := (rightS_iff m o k).1 h
  have a7 := (isP_range a2).1
  have HI := hid (fun W => srest_any j m (by omega) a1 W)
  have HE : Hid ((o + j % m * k) % m = plc m o k j) := hid rfl
  have r1 := Int.emod_nonneg j (show m ≠ 0 by omega)
  have r2 := Int.emod_lt_of_pos j (show 0 < m by omega)
  have q := mul_small (x := j % m) (y := k) ⟨r1, by omega⟩ ⟨by omega, by omega⟩
  have c0 : w.cell? ⟨b, 0, none⟩ = some (.int .i64 m) := hb.cell 0
  have c1 : w.cell? ⟨b, 1, none⟩ = some (.int .i64 o) := hb.cell 1
  have c2 : w.cell? ⟨b, 2, none⟩ = some (.int .i64 k) := hb.cell 2
  clear h a2 hb
  have hne : m ≠ 0 := by omega
  generalize j % m = r at *
  generalize plc m o k j = z at *
  generalize hrk : r * k = y at *
  have e1 : IntKind.i64.wrap (r * k) = y := by rw [hrk]; exact IntWalk.i64_in _ (by omega)
  have e2 : IntKind.i64.wrap (o + y) = o + y := IntWalk.i64_in _ (by omega)
  have e3 : (o + y).tmod m = (o + y) % m := Int.tmod_eq_emod_of_nonneg (by omega)
  have HE := hid HE.out
  clear hrk
  go_enter Tryd.func79, Tryd.ntmps79
  go_wp2
  go_quiet ((go_at_call 80; exact Calls.quiet_of_same (calls_flip (HI.out _))))
  go_wp2
  go_ret
  exact ⟨ret_i rfl HE.out, below_drewN _ _⟩
end Go.Proofs.YtgpbmbefdgbblaaDoor
