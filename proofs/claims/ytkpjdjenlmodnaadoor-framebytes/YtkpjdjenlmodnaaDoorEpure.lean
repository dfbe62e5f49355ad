/-
  Bytes as frames: what is cut off, what is left, what breaks; no program here.
-/
namespace Go.Proofs.YtkpjdjenlmodnaaDoor
/-- A frame: its kind and its body. -/
abbrev Fr := Int × List Int
/-- How many bytes the head tells. -/
def hdN (bs : List Int) : Nat := (bs.getD 0 0).toNat * 256 + (bs.getD 1 0).toNat
/-- The frame that bytes begin with. -/
def frm (bs : List Int) : Fr := (bs.getD 2 0, (bs.drop 3).take (hdN bs - 1))

/-- The frames that bytes begin with, how many bytes are left, whether it breaks. -/
inductive Cuts : List Int → List Fr → Nat → Bool → Prop
  | short {bs : List Int} (h : bs.length < 2) : Cuts bs [] bs.length false
  | bad {bs : List Int} (h : 2 ≤ bs.length) (hb : hdN bs = 0 ∨ 1200 < hdN bs) : Cuts bs [] 0 true
  | wait {bs : List Int} (h : 2 ≤ bs.length) (h1 : 1 ≤ hdN bs) (h2 : hdN bs ≤ 1200) (h3 : bs.length < 2 + hdN bs) : Cuts bs [] bs.length false
  | whole {bs : List Int} {F : List Fr} {n : Nat} {b : Bool} (h : 2 ≤ bs.length) (h1 : 1 ≤ hdN bs) (h2 : hdN bs ≤ 1200) (h3 : 2 + hdN bs ≤ bs.length) (hc : Cuts (bs.drop (2 + hdN bs)) F n b) : Cuts bs (frm bs :: F) n b

theorem Cuts.unique {bs : List Int} {F F' : List Fr} {n n' : Nat} {b b' : Bool} (h : Cuts bs F n b) : Cuts bs F' n' b' → F = F' ∧ n = n' ∧ b = b' := by
  induction h generalizing F' n' b' with
  | short h =>
    intro h'
    cases h' with
    | short _ => exact ⟨rfl, rfl, rfl⟩
    | bad h2 _ => omega
    | wait h2 => omega
    | whole h2 => omega
  | bad h hb =>
    intro h'
    cases h' with
    | short _ => omega
    | bad _ _ => exact ⟨rfl, rfl, rfl⟩
    | wait _ _ _ => omega
    | whole _ _ _ => omega
  | wait h h1 h2 h3 =>
    intro h'
    cases h' with
    | short _ => omega
    | bad _ _ => omega
    | wait _ _ _ => exact ⟨rfl, rfl, rfl⟩
    | whole _ _ _ => omega
  | whole h h1 h2 h3 hc ih =>
    intro h'
    cases h' with
    | short _ => omega
    | bad _ _ => omega
    | wait _ _ _ => omega
    | whole _ _ _ _ hc' =>
      obtain ⟨rfl, rfl, rfl⟩ := ih hc'
      exact ⟨rfl, rfl, rfl⟩

theorem Cuts.le {bs : List Int} {F : List Fr} {n : Nat} {b : Bool} (h : Cuts bs F n b) : n ≤ bs.length := by
  induction h with
  | short h => exact Nat.le_refl _
  | bad h hb => exact Nat.zero_le _
  | wait h h1 h2 h3 => exact Nat.le_refl _
  | whole h h1 h2 h3 hc ih =>
    rw [List.length_drop] at ih
    omega
theorem Cuts.few {bs : List Int} {F : List Fr} {n : Nat} {b : Bool} (h : Cuts bs F n b) : F.length * 3 + n ≤ bs.length := by
  induction h with
  | short h => simp
  | bad h hb => simp
  | wait h h1 h2 h3 => simp
  | whole h h1 h2 h3 hc ih =>
    rw [List.length_drop] at ih
    rw [List.length_cons]
    omega
theorem Cuts.left {bs : List Int} {F : List Fr} {n : Nat} (h : Cuts bs F n false) : n ≤ 1201 := by
  generalize hb : false = b at h
  induction h with
  | short h => omega
  | bad h hb => cases hb
  | wait h h1 h2 h3 => omega
  | whole h h1 h2 h3 hc ih => exact ih hb
theorem Cuts.none {bs : List Int} {F : List Fr} {n : Nat} (h : Cuts bs F n true) : n = 0 := by
  generalize hb : true = b at h
  induction h with
  | short h => cases hb
  | bad h hb => rfl
  | wait h h1 h2 h3 => cases hb
  | whole h h1 h2 h3 hc ih => exact ih hb
theorem Cuts.ex : ∀ (k : Nat) (bs : List Int), bs.length ≤ k → ∃ F n b, Cuts bs F n b := by
  intro k
  induction k with
  | zero => exact fun bs h => ⟨_, _, _, .short (by omega)⟩
  | succ k ih =>
    intro bs h
    by_cases h2 : bs.length < 2
    · exact ⟨_, _, _, .short h2⟩
    by_cases hb : hdN bs = 0 ∨ 1200 < hdN bs
    · exact ⟨_, _, _, .bad (by omega) hb⟩
    by_cases h3 : bs.length < 2 + hdN bs
    · exact ⟨_, _, _, .wait (by omega) (by omega) (by omega) h3⟩
    · obtain ⟨F, n, b, hc⟩ := ih (bs.drop (2 + hdN bs)) (by rw [List.length_drop]; omega)
      exact ⟨_, _, _, .whole (by omega) (by omega) (by omega) (by omega) hc⟩
theorem Cuts.some (bs : List Int) : ∃ F n b, Cuts bs F n b := Cuts.ex _ bs (Nat.le_refl _)

theorem getD_app {x y : List Int} {j : Nat} (h : j < x.length) : (x ++ y).getD j 0 = x.getD j 0 := by simp [List.getD, List.getElem?_append_left h]
theorem hdN_app {x y : List Int} (h : 2 ≤ x.length) : hdN (x ++ y) = hdN x := by
  unfold hdN
  rw [getD_app (by omega), getD_app (by omega)]
theorem frm_app {x y : List Int} (h : 2 ≤ x.length) (h1 : 1 ≤ hdN x) (h3 : 2 + hdN x ≤ x.length) : frm (x ++ y) = frm x := by
  unfold frm
  rw [hdN_app h, getD_app (by omega), List.drop_append_of_le_length (by omega), List.take_append_of_le_length (by rw [List.length_drop]; omega)]
theorem frm_take {x : List Int} (h1 : 1 ≤ hdN x) (h3 : 2 + hdN x ≤ x.length) : frm (x.take (2 + hdN x)) = frm x ∧ hdN (x.take (2 + hdN x)) = hdN x := by
  have e : x.take (2 + hdN x) ++ x.drop (2 + hdN x) = x := List.take_append_drop _ _
  have hl : (x.take (2 + hdN x)).length = 2 + hdN x := by rw [List.length_take]; omega
  have h4 : hdN (x.take (2 + hdN x)) = hdN x := by
    have := hdN_app (x := x.take (2 + hdN x)) (y := x.drop (2 + hdN x)) (by omega)
    rw [e] at this
    exact this.symm
  refine ⟨?_, h4⟩
  have := frm_app (x := x.take (2 + hdN x)) (y := x.drop (2 + hdN x)) (by omega) (by omega) (by omega)
  rw [e] at this
  exact this.symm

/-- Bytes that came later go on where bytes are left. -/
theorem Cuts.app {x y : List Int} {F F' : List Fr} {n n' : Nat} {b b' : Bool} (h : Cuts x F n b) : b = false → Cuts (x.drop (x.length - n) ++ y) F' n' b' → Cuts (x ++ y) (F ++ F') n' b' := by
  induction h with
  | short _ => intro _ h'; simpa using h'
  | bad _ _ => intro e; cases e
  | wait _ _ _ _ => intro _ h'; simpa using h'
  | @whole x F n b h h1 h2 h3 hc ih =>
    intro e h'
    have hl := hc.le
    rw [List.length_drop] at hl
    have e2 : (x.drop (2 + hdN x)).drop ((x.drop (2 + hdN x)).length - n) = x.drop (x.length - n) := by
      rw [List.drop_drop, List.length_drop]
      congr 1
      omega
    have h4 := ih e (by rw [e2]; exact h')
    have e3 : hdN (x ++ y) = hdN x := hdN_app h
    have e4 : frm (x ++ y) = frm x := frm_app h h1 h3
    have := Cuts.whole (bs := x ++ y) (F := F ++ F') (n := n') (b := b') (by rw [List.length_append]; omega) (by omega) (by omega) (by rw [List.length_append]; omega)
      (by rw [e3, List.drop_append_of_le_length (by omega)]; exact h4)
    rw [e4] at this
    exact this
/-- What is left is left of what came with it, too. -/
theorem tail_app {x y : List Int} {n n' : Nat} (h : n ≤ x.length) (h' : n' ≤ n + y.length) : (x.drop (x.length - n) ++ y).drop ((x.drop (x.length - n) ++ y).length - n') = (x ++ y).drop ((x ++ y).length - n') := by
  have e : x.drop (x.length - n) ++ y = (x ++ y).drop (x.length - n) := by rw [List.drop_append_of_le_length (by omega)]
  rw [e, List.drop_drop, List.length_drop, List.length_append]
  congr 1
  omega
/-- What is left waits. -/
theorem Cuts.rest {x : List Int} {F : List Fr} {n : Nat} {b : Bool} (h : Cuts x F n b) : b = false → Cuts (x.drop (x.length - n)) [] n false := by
  induction h with
  | short h =>
    intro _
    simpa using Cuts.short h
  | bad h hb => intro e; cases e
  | wait h h1 h2 h3 =>
    intro _
    simpa using Cuts.wait h h1 h2 h3
  | @whole x F n b h h1 h2 h3 hc ih =>
    intro e
    have hl := hc.le
    rw [List.length_drop] at hl
    have e2 : (x.drop (2 + hdN x)).drop ((x.drop (2 + hdN x)).length - n) = x.drop (x.length - n) := by
      rw [List.drop_drop, List.length_drop]
      congr 1
      omega
    rw [← e2]
    exact ih e
end Go.Proofs.YtkpjdjenlmodnaaDoor
