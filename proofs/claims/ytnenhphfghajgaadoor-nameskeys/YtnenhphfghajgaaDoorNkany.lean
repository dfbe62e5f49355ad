/-
  The law NamesKeys at every input.
-/
import Derived.Test.YtnenhphfghajgaaDoorNkeys
namespace Go.Proofs.YtnenhphfghajgaaDoor
open Go.RowKit

theorem same_below {e : Ending} {w w' : World} {v : Value} (h : e = .returned v ∧ w = w') : e = .returned v ∧ Below w.heap.size w w' := ⟨h.1, h.2 ▸ Below.refl _ _⟩

theorem keys_any (s a b : ByteArray) (ae : Nat → Addr) (w : World) (hE : NEnv (.iface 97 (.pointer (some (ae 5)))) w) (hA : Errs 18 ae w) :
    Calls Tryd.prog 3 #[.string s, kv a b] w fun e w' => e = .returned (.bool true) ∧ Below w.heap.size w w' := by
  by_cases hs : s.size ≤ 100
  · by_cases ha : a.size ≤ 100
    · by_cases hb : b.size ≤ 100
      · have c1 : ∀ w, Calls Tryd.prog 8 #[.string s] w fun e w' => e = .returned (.bool (lab s)) ∧ Below w.heap.size w w' := fun w => (label_any s w).mono fun _ _ h => same_below h
        have c2 : ∀ w, Calls Tryd.prog 9 #[.string s] w fun e w' => e = .returned (.bool (lab s)) ∧ Below w.heap.size w w' := fun w => (rlabel_any s w).mono fun _ _ h => same_below h
        have c6 : (lab a && lab b) = true → ∀ w, NEnv (.iface 97 (.pointer (some (ae 5)))) w → Calls Tryd.prog 6 #[.string (a ++ ⟨#[47]⟩ ++ b)] w fun e w' => e = .returned (.tuple #[kv a b, .nilIface]) ∧ Below w.heap.size w w' := by
          intro hR w hE
          obtain ⟨k1, k2, k3⟩ := key_back a b hR
          have hT : keyText a b = a ++ ⟨#[47]⟩ ++ b := by unfold keyText; rw [if_pos hR]
          have h1 : (⟨#[47]⟩ : ByteArray).size = 1 := rfl
          have := nparse_any (keyText a b) (by rw [hT, ByteArray.size_append, ByteArray.size_append]; omega) _ w hE
          rw [k1, k2, k3, hT] at this
          exact this
        cases hk : isKey s.data.toList with
        | true =>
          refine keys_true s a b (pieceA s.data.toList) (pieceB s.data.toList) hs ha hb (lab s) (lab a && lab b) _ w hE ?_ ?_ c1 c2 (key_any a b) (rkey_any a b) (nformat_any a b ha hb) c6
          · intro w hE
            have := nparse_any s (by omega) _ w hE
            rw [hk] at this
            exact this
          · intro w
            refine (rparse_any s (by omega) w).mono fun e w' h => ?_
            unfold RpEnd at h
            rw [hk] at h
            exact h
        | false =>
          refine keys_false s a b ⟨#[]⟩ ⟨#[]⟩ hs ha hb 97 (.pointer (some (ae 5))) (lab s) (lab a && lab b) _ w hE ?_ ?_ ?_ c1 c2 (key_any a b) (rkey_any a b) (nformat_any a b ha hb) c6
          · intro w hE
            have := nparse_any s (by omega) _ w hE
            rw [hk] at this
            exact this
          · intro w
            refine (rparse_any s (by omega) w).mono fun e w' h => ?_
            unfold RpEnd at h
            rw [hk] at h
            exact h
          · intro w' hb'
            exact num_err ae 5 (by omega) w' (hA.below hb')
      · exact keys_long s a b (.inr (.inr ⟨hs, ha, by omega⟩)) _ w hE
    · exact keys_long s a b (.inr (.inl ⟨hs, by omega⟩)) _ w hE
  · exact keys_long s a b (.inl (by omega)) _ w hE
end Go.Proofs.YtnenhphfghajgaaDoor
