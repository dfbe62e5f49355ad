/-
  cmp.Compare of two texts.
-/
import Derived.Test.YtnlhdeffoalhiaaDoorNkit
namespace Go.Proofs.YtnlhdeffoalhiaaDoor
open Go.RowKit

/-- How two texts stand to each other: -1, 0, 1. -/
def scmp (a b : ByteArray) : Int := if Op.bytesLess a.toList b.toList = true then -1 else if (a.toList == b.toList) = true then 0 else 1

set_option maxHeartbeats 1000000 in
theorem isnan_str (s : ByteArray) (w : World) : Calls Tryd.prog 29 #[.string s] w fun e w' => e = .returned (.bool false) ∧ w = w' := by
  go_enter Tryd.func29, Tryd.ntmps29
  go_wp2
  go_ret
  exact ⟨ret_bool (by simp), rfl⟩

set_option maxHeartbeats 2000000 in
theorem scompare_any (a b : ByteArray) (w : World) : Calls Tryd.prog 18 #[.string a, .string b] w fun e w' => e = .returned (.int .i64 (scmp a b)) ∧ w = w' := by
  have HA := Lib.hid (isnan_str a)
  have HB := Lib.hid (isnan_str b)
  have HS : Hid (scmp a b = if Op.bytesLess a.toList b.toList = true then -1 else if (a.toList == b.toList) = true then 0 else 1) := Lib.hid rfl
  cases h1 : Op.bytesLess a.toList b.toList <;> cases h2 : (a.toList == b.toList)
  all_goals
    go_enter Tryd.func18, Tryd.ntmps18
    go_wp2_with fail
    refine (HA.out _).mono ?_
    rintro e w1 ⟨rfl, rfl⟩
    go_wp2_with fail
    refine (HB.out _).mono ?_
    rintro e w1 ⟨rfl, rfl⟩
    go_wp2
    go_ret
    refine ⟨?_, rfl⟩
    rw [HS.out]
    simp [h1, h2]

/-- How two keys stand to each other: -1, 0, 1. -/
def kcmp (a b c d : ByteArray) : Int := if (Op.bytesLess a.toList c.toList || (a.toList == c.toList && Op.bytesLess b.toList d.toList)) = true then -1 else if (a.toList == c.toList && b.toList == d.toList) = true then 0 else 1

set_option maxRecDepth 100000 in
set_option maxHeartbeats 4000000 in
theorem rkcompare_any (a b c d : ByteArray) (w : World) : Calls Tryd.prog 9 #[.agg #[.string a, .string b], .agg #[.string c, .string d]] w fun e w' => e = .returned (.int .i64 (kcmp a b c d)) ∧ Below w.heap.size w w' := by
  obtain ⟨W, hW⟩ : ∃ W, W = (w.alloc (.cells #[.string a, .string b] 25)).alloc (.cells #[.string c, .string d] 25) := ⟨_, rfl⟩
  have hb : Below w.heap.size w W := hW ▸ bel2 ((Below.refl _ _).alloc (Nat.le_refl _) _) ((Below.refl _ _).alloc (Nat.le_refl _) _)
  have heq := eql_key a b c d
  have HS : Hid (kcmp a b c d = if (Op.bytesLess a.toList c.toList || (a.toList == c.toList && Op.bytesLess b.toList d.toList)) = true then -1 else if (a.toList == c.toList && b.toList == d.toList) = true then 0 else 1) := Lib.hid rfl
  cases h1 : Op.bytesLess a.toList c.toList <;> cases h2 : (a.toList == c.toList) <;> cases h3 : Op.bytesLess b.toList d.toList <;> cases h4 : (b.toList == d.toList)
  all_goals
    rw [h2, h4] at heq
    simp only [Bool.and_true, Bool.and_false] at heq
    go_enter Tryd.func9, Tryd.ntmps9
    go_wp2
    go_ret
    refine ⟨?_, hW ▸ hb⟩
    rw [HS.out]
    simp [h1, h2, h3, h4]
end Go.Proofs.YtnlhdeffoalhiaaDoor
