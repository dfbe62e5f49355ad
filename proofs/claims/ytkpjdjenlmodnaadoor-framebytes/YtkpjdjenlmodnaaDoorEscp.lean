/-
  A scope of several labels: what holds at each jump, with a number that every pass lowers.
-/
import Derived.Test.YtkpjdjenlmodnaaDoorProg
import Derived.ScopeJumps
import Derived.WalkMore
namespace Go.Proofs.YtkpjdjenlmodnaaDoor

/-- As Q; by a goto to label l: J l. -/
def jumps (J : Nat → Act → World → Prop) (Q : Exit → Act → World → Prop) : Exit → Act → World → Prop
  | .goto l, a, w => J l a w
  | e, a, w => Q e a w

def Any (J : Nat → Nat → Act → World → Prop) (l : Nat) (a : Act) (w : World) : Prop := ∃ n, J n l a w
def Low (J : Nat → Nat → Act → World → Prop) (n : Nat) (l : Nat) (a : Act) (w : World) : Prop := ∃ n', n' < n ∧ J n' l a w
theorem jumps_mono {J J' : Nat → Act → World → Prop} {Q : Exit → Act → World → Prop} (h : ∀ l a w, J l a w → J' l a w) : ∀ e a w, jumps J Q e a w → jumps J' Q e a w := fun e a w hq => by
  cases e <;> first | exact h _ _ _ hq | exact hq

section
variable {P : Program} {a : Act} {w : World} {Q : Exit → Act → World → Prop}

theorem wp_scope_any {c : Code} (J : Nat → Nat → Act → World → Prop)
    (first : c.wp P (jumps (Any J) Q) a w)
    (pass : ∀ n l a w, J n l a w → ∃ X, findLabel c l = some (.seq .skip X) ∧ X.wp P (jumps (Low J n) Q) a w) : (Code.scope c).wp P Q a w := by
  intro b k cs
  have key : ∀ n l a w, J n l a w → ∀ k', gotoIn l (.inScope c :: k) = some k' → ∃ e a' w', Q e a' w' ∧ Arrives P (lone (b.at a k') cs w) b k cs e a' w' := by
    intro n
    induction n using Nat.strongRecOn with
    | _ n ih =>
      intro l a w hJ k' hk'
      obtain ⟨X, hf, hX⟩ := pass n l a w hJ
      obtain ⟨rest, hr⟩ : ∃ rest, rest = Code.seq .skip X := ⟨_, rfl⟩
      rw [← hr] at hf
      have hp : rest.wp P (jumps (Low J n) Q) a w := hr ▸ wp_seq (wp_skip hX)
      obtain rfl : k' = .code rest :: .inScope c :: k := by
        simp only [gotoIn, hf, Option.some.injEq] at hk'
        exact hk'.symm
      obtain ⟨e, a₁, w₁, hq, harr⟩ := hp b (.inScope c :: k) cs
      cases e with
      | normal => exact ⟨.normal, a₁, w₁, hq, Steps.trans harr (.one step_inScope)⟩
      | exit id => exact ⟨.exit id, a₁, w₁, hq, fun k' hk => harr k' (by simp [exitTo, hk])⟩
      | goto l' =>
        obtain ⟨n', hlt, hJ'⟩ := hq
        obtain ⟨rest', hf', _⟩ := pass n' l' a₁ w₁ hJ'
        have hg : gotoIn l' (.inScope c :: k) = some (.code (.seq .skip rest') :: .inScope c :: k) := by simp [gotoIn, hf']
        obtain ⟨e₂, a₂, w₂, hq₂, harr₂⟩ := ih n' hlt l' a₁ w₁ hJ' _ hg
        exact ⟨e₂, a₂, w₂, hq₂, .of_steps (harr _ hg) harr₂⟩
      | ret => exact ⟨_, a₁, w₁, hq, harr⟩
      | panic ch => exact ⟨_, a₁, w₁, hq, harr⟩
      | outgrown => exact ⟨_, a₁, w₁, hq, harr⟩
  obtain ⟨e, a₁, w₁, hq, harr⟩ := first b (.inScope c :: k) cs
  cases e with
  | normal => exact ⟨.normal, a₁, w₁, hq, .head step_scope (Steps.trans harr (.one step_inScope))⟩
  | exit id => exact ⟨.exit id, a₁, w₁, hq, fun k' hk => .head step_scope (harr k' (by simp [exitTo, hk]))⟩
  | goto l' =>
    obtain ⟨n', hJ'⟩ := hq
    obtain ⟨rest', hf', _⟩ := pass n' l' a₁ w₁ hJ'
    have hg : gotoIn l' (.inScope c :: k) = some (.code (.seq .skip rest') :: .inScope c :: k) := by simp [gotoIn, hf']
    obtain ⟨e₂, a₂, w₂, hq₂, harr₂⟩ := key n' l' a₁ w₁ hJ' _ hg
    exact ⟨e₂, a₂, w₂, hq₂, .of_steps (.head step_scope (harr _ hg)) harr₂⟩
  | ret => exact ⟨_, a₁, w₁, hq, .of_steps (.one step_scope) harr⟩
  | panic ch => exact ⟨_, a₁, w₁, hq, .of_steps (.one step_scope) harr⟩
  | outgrown => exact ⟨_, a₁, w₁, hq, .of_steps (.one step_scope) harr⟩
theorem wp_fall {c X : Code} {J : Nat → Nat → Act → World → Prop} {J' : Nat → Act → World → Prop} {n l : Nat} (hf : findLabel c l = some (.seq .skip X)) (h : ∃ Y, findLabel c l = some (.seq .skip Y) ∧ Y.wp P (jumps (Low J n) Q) a w)
    (hJ : ∀ l a w, Low J n l a w → J' l a w) : ((Code.label l).seq X).wp P (jumps J' Q) a w := by
  obtain ⟨Y, hY, hw⟩ := h
  rw [hf] at hY
  cases hY
  exact wp_seq (wp_label (wp_mono hw (jumps_mono hJ)))
theorem wp_fallK {c X : Code} {J : Nat → Nat → Act → World → Prop} {J' : Nat → Act → World → Prop} {n l : Nat} {K : Act → World → Prop} (hK : ∀ a w, X.wp P (jumps J' Q) a w → K a w) (hf : findLabel c l = some (.seq .skip X)) (h : ∃ Y, findLabel c l = some (.seq .skip Y) ∧ Y.wp P (jumps (Low J n) Q) a w)
    (hJ : ∀ l a w, Low J n l a w → J' l a w) : (Code.label l).wp P (Exit.then K (jumps J' Q)) a w := by
  obtain ⟨Y, hY, hw⟩ := h
  rw [hf] at hY
  cases hY
  exact wp_label (hK _ _ (wp_mono hw (jumps_mono hJ)))
end
end Go.Proofs.YtkpjdjenlmodnaaDoor
