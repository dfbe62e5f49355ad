/-
  The law CidrContains, of every input.
-/
import Derived.Test.YtambnnahgbegfaaGreatDoorCcontains
namespace Go.Proofs.YtambnnahgbegfaaGreatDoor
open Go.RowKit

theorem env3_of {a : Nat → Addr} {w : World} (h : Errs 18 a w) : Env3 (.iface 201 (.pointer (some (a 7)))) (.iface 201 (.pointer (some (a 0)))) w := ⟨h.cell 7 (by decide), h.cell 0 (by decide)⟩

theorem contains_any (cs ds sa : Bool) (C D A : List Nat) (hlc : C.length = 16) (hld : D.length = 16) (hla : A.length = 16) (hC : ∀ x ∈ C, x < 256) (hD : ∀ x ∈ D, x < 256) (hA : ∀ x ∈ A, x < 256) (n m : Int) (E : Value) (a : Nat → Addr) (w : World) (hE : Env E w) (hErr : Errs 18 a w) :
    Calls Tryz.prog 5 #[.agg (cid cs (ints C) n), .agg (cid ds (ints D) m), .agg (adr sa (ints A))] w fun e w' => e = .returned (.bool true) ∧ Below w.heap.size w w' := by
  have hE3 := env3_of hErr
  have lc : (ints C).length = 16 := by rw [ints_length, hlc]
  have ld : (ints D).length = 16 := by rw [ints_length, hld]
  have la : (ints A).length = 16 := by rw [ints_length, hla]
  have c0 := fun w hE hE3 => alive3_any E 201 201 (.pointer (some (a 7))) (.pointer (some (a 0))) w hE hE3
  have cc := fun (xs : Bool) (X : List Nat) (hx : X.length = 16) (hX : ∀ x ∈ X, x < 256) (w : World) hE3 => cont_any cs xs C X hlc hx hX n 201 201 (.pointer (some (a 7))) (.pointer (some (a 0))) w hE3
  have c1 := fun w hE3 => cc sa A hla hA w hE3
  simp only [cont_eq cs sa C A hlc hC n] at c1
  have c2 := rcont_any cs sa C A hlc hla hC hA n
  have cr := fun w hE3 => cright_any ds D hld hD m 201 201 (.pointer (some (a 7))) (.pointer (some (a 0))) w hE3
  simp only [right_eq ds D hld hD m] at cr
  have cd := fun w hE3 => cc ds D hld hD w hE3
  simp only [cont_eq cs ds C D hlc hC n] at cd
  have c3 := fun w hE3 => ccov_walk cs ds (ints C) (ints D) lc ld n m _ _ _ _ w hE3 cr cd
  have ev : ((rightC ds (ints D) m && decide (n ≤ m)) && containsC cs (ints C) n ds (ints D)) = coversC cs (ints C) n ds (ints D) m := by
    unfold coversC
    cases rightC ds (ints D) m <;> cases containsC cs (ints C) n ds (ints D) <;> cases decide (n ≤ m) <;> rfl
  simp only [ev] at c3
  have c4 := rcov_any cs ds C D hlc hld hC hD n m
  have c5 := ccmp_any cs ds C D hlc hld hC hD n m
  have c6 := rcmp_any cs ds C D hlc hld n m
  have c7 := fun w hE3 => of_any sa A hla hA n (.iface 201 (.pointer (some (a 7)))) (.iface 201 (.pointer (some (a 0)))) w hE3
  have c8 := refRight_any sa (ints A) la
  have cN7 : ∀ w', Below w.heap.size w w' → Calls Tryz.prog 15 #[.iface 201 (.pointer (some (a 7)))] w' fun e w2 => e = .returned (.int .i64 8) ∧ Below w'.heap.size w' w2 := fun w' hb => num_err a 7 (by decide) w' (hErr.below hb)
  have cN0 : ∀ w', Below w.heap.size w w' → Calls Tryz.prog 15 #[.iface 201 (.pointer (some (a 0)))] w' fun e w2 => e = .returned (.int .i64 1) ∧ Below w'.heap.size w' w2 := fun w' hb => num_err a 0 (by decide) w' (hErr.below hb)
  have cW := width_any sa (ints A)
  unfold ofC at c7
  cases hr : (sa || flat (ints A)) with
  | false =>
    rw [hr] at c8
    rw [hr, if_neg (by simp)] at c7
    exact con_A cs ds sa (ints C) (ints D) (ints A) lc ld la n m _ _ _ E _ _ w hE hE3 c0 c1 c2 c3 c4 c5 c6 c7 c8 cN7
  | true =>
    rw [hr] at c8
    rw [hr, if_pos rfl] at c7
    by_cases h0 : 0 ≤ n
    · by_cases h1 : n ≤ wid sa
      · rw [if_pos ⟨h0, h1⟩] at c7
        obtain ⟨N, rfl⟩ : ∃ N : Nat, n = N := ⟨n.toNat, by omega⟩
        have := wid_le sa
        have cX : ∀ w, Env3 (.iface 201 (.pointer (some (a 7)))) (.iface 201 (.pointer (some (a 0)))) w → Calls Tryz.prog 30 #[.agg (cid sa (ints (cutTo A N 16)) N), .agg (adr sa (ints A))] w fun e w' => e = .returned (.bool true) ∧ Below w.heap.size w w' := fun w hE3 => by
          have h := cont_any sa sa (cutTo A N 16) A (cutTo_length _ _ _) hla hA N 201 201 (.pointer (some (a 7))) (.pointer (some (a 0))) w hE3
          have e : contC sa (cutTo A N 16) N sa A = true := by
            unfold contC
            rw [hr, decide_eq_true ⟨h0, h1⟩]
            simp
          rw [e] at h
          exact h
        exact con_D cs ds sa (ints C) (ints D) (ints A) lc ld la N m _ _ _ E _ _ w hE hE3 (ints (cutTo A N 16)) (by rw [ints_length, cutTo_length]) c0 c1 c2 c3 c4 c5 c6 c7 c8 (rcut_any sa A hla hA N (by omega)) cX (wid sa) cW (decide_eq_false (by omega)) (decide_eq_false (by omega))
      · rw [if_neg (by omega)] at c7
        exact con_C cs ds sa (ints C) (ints D) (ints A) lc ld la n m _ _ _ E _ _ w hE hE3 c0 c1 c2 c3 c4 c5 c6 c7 c8 cN0 (wid sa) cW (decide_eq_false (by omega)) (decide_eq_true (by omega))
    · rw [if_neg (by omega)] at c7
      exact con_B cs ds sa (ints C) (ints D) (ints A) lc ld la n m _ _ _ E _ _ w hE hE3 c0 c1 c2 c3 c4 c5 c6 c7 c8 cN0 (decide_eq_true (by omega))
end Go.Proofs.YtambnnahgbegfaaGreatDoor
