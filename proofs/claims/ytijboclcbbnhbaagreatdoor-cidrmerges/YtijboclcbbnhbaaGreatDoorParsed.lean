/-
  addr.Parse, of every text.
-/
import Derived.Test.YtijboclcbbnhbaaGreatDoorParse
namespace Go.Proofs.YtijboclcbbnhbaaGreatDoor
open Go.RowKit

theorem parse_any (s : ByteArray) (hs : s.size ≤ 1000) (E : Value) (w : World) (hE : Env E w) : Calls Tryz.prog 27 #[.string s] w (ParseEnd E (parsed s.data.toList) w) := by
  by_cases hc : 0 ≤ Lib.indexByte s.data.toList 58
  · have hp : parsed s.data.toList = (six s.data.toList).map fun g => (true, (by2 g).map (fun k : Nat => (k : Int))) := by unfold parsed; rw [if_pos hc]
    have hd : decide (0 ≤ Lib.indexByte s.data.toList 58) = true := decide_eq_true hc
    have hle := cut_le s.data.toList [58, 58]
    rw [← Lib.size_eq] at hle
    have hC := fun w hE => cut_any s hs E w hE
    have h1 := fun w hE => groups_any ⟨(Lib.cut s.data.toList [58, 58]).1.toArray⟩ (by rw [Lib.size_eq]; simp only; omega) E w hE
    have h2 := fun w hE => groups_any ⟨(Lib.cut s.data.toList [58, 58]).2.1.toArray⟩ (by rw [Lib.size_eq]; simp only; omega) E w hE
    simp only at h1 h2
    rw [hp]
    unfold six
    cases e1 : groups (Lib.cut s.data.toList [58, 58]).1 with
    | none =>
      rw [e1] at h1
      exact parse_no s true E w hE hd fun w hE => six_bad s _ _ _ none _ E w hE hC h1 h2 (.inl rfl)
    | some a =>
      cases e2 : groups (Lib.cut s.data.toList [58, 58]).2.1 with
      | none =>
        rw [e2] at h2
        exact parse_no s true E w hE hd fun w hE => six_bad s _ _ _ _ none E w hE hC h1 h2 (.inr rfl)
      | some b =>
        rw [e1] at h1
        rw [e2] at h2
        have ha := groups_lt e1
        have hb := groups_lt e2
        simp only
        by_cases hn : ((Lib.cut s.data.toList [58, 58]).2.2 = true ∧ a.length + b.length ≤ 7) ∨ ((Lib.cut s.data.toList [58, 58]).2.2 = false ∧ a.length + b.length = 8)
        · rw [if_pos hn]
          have hlen : (a ++ (List.replicate (8 - a.length - b.length) 0 ++ b)).length = 8 := by simp; omega
          exact parse_yes s true true _ (by rw [List.length_map, by2_length, hlen]) E w hE hd fun w hE => six_right s _ _ _ a b ha hb E w hE hC h1 h2 hn
        · rw [if_neg hn]
          have hlen : ∀ (l : List UInt8) (ns : List Nat), l.length ≤ 1000 → groups l = some ns → ns.length ≤ 1001 := by
            intro l ns hl h
            unfold groups at h
            split at h
            · cases h; simp
            · rw [allOf_length grp _ _ h]
              have := parts_max 58 ⟨l.toArray⟩
              rw [parts_length] at this
              have h3 := pieces_length 58 l
              rw [Lib.size_eq] at this
              simp only at this
              have h4 : Lib.countB ⟨l.toArray⟩ ⟨#[58]⟩ = Lib.count l [58] := rfl
              omega
          exact parse_no s true E w hE hd fun w hE => six_wrong s _ _ _ a b (hlen _ a (by omega) e1) (hlen _ b (by omega) e2) E w hE hC h1 h2 hn
  · have hp : parsed s.data.toList = (four s.data.toList).map fun ns => (false, rowOf ns 16) := by unfold parsed; rw [if_neg hc]
    have hd : decide (0 ≤ Lib.indexByte s.data.toList 58) = false := decide_eq_false hc
    rw [hp]
    unfold four
    by_cases h4 : (pieces 46 s.data.toList).length = 4
    · rw [if_pos h4]
      cases e : allOf num10 (pieces 46 s.data.toList) with
      | none =>
        refine parse_no s false E w hE hd fun w hE => (four_walk s hs h4 E w hE).mono ?_
        rintro e' w' (⟨ns, h, _⟩ | ⟨_, h⟩)
        · rw [e] at h; cases h
        · exact h
      | some ns =>
        have hl : ns.length = 4 := by rw [allOf_length num10 _ _ e, h4]
        refine parse_yes s false false (rowOf ns 16) (rowOf_length _ _ (by omega)) E w hE hd fun w hE => (four_walk s hs h4 E w hE).mono ?_
        rintro e' w' (⟨ms, h, h'⟩ | ⟨h, _⟩)
        · rw [e] at h; cases h; exact h'
        · rw [e] at h; cases h
    · rw [if_neg h4]
      exact parse_no s false E w hE hd fun w hE => four_bad s hs h4 E w hE
end Go.Proofs.YtijboclcbbnhbaaGreatDoor
