/-
  The walk of addr.parseSix.
-/
import Derived.Test.YtijboclcbbnhbaaGreatDoorAdof
import Derived.Lib.IndexMore
namespace Go.Proofs.YtijboclcbbnhbaaGreatDoor
open Go.RowKit

/-- Where groups lie. -/
def Src (w : World) (p : Option Addr) (ns : List Nat) : Prop := 0 < ns.length → ∃ g, p = some ⟨g, 0, none⟩ ∧ Blk w g 73 (arr .u16 (ns.map (fun k : Nat => (k : Int))))
theorem Src.kept {w w' : World} {p : Option Addr} {ns : List Nat} (h : Src w p ns) (hb : Below w.heap.size w w') : Src w' p ns := fun h0 => by
  obtain ⟨g, hp, hB⟩ := h h0
  exact ⟨g, hp, hB.kept hb⟩

def GAny (r : Option (List Nat)) (w : World) (e : Ending) (w' : World) : Prop :=
  ∃ p n, e = .returned (.tuple #[.slice p n n, .bool r.isSome]) ∧ (∀ ns, r = some ns → n = ns.length ∧ Src w' p ns) ∧ Below w.heap.size w w'

theorem groups_any (s : ByteArray) (hs : s.size ≤ 1000) (E : Value) (w : World) (hE : Env E w) : Calls Tryz.prog 62 #[.string s] w (GAny (groups s.data.toList) w) := by
  by_cases h0 : s.data.toList = []
  · have hz : s.size = 0 := by rw [Lib.size_eq, h0]; rfl
    rw [empty_of_size s hz]
    refine (groups_empty w).mono ?_
    rintro e w' ⟨v, rfl, hv, hb⟩
    rcases hv with ⟨rfl, _⟩ | ⟨g, rfl, _⟩
    · exact ⟨none, 0, rfl, fun ns h => by cases h; exact ⟨rfl, fun h => by simp at h⟩, hb⟩
    · exact ⟨_, 0, rfl, fun ns h => by cases h; exact ⟨rfl, fun h => by simp at h⟩, hb⟩
  · have hg : groups s.data.toList = allOf grp (pieces 58 s.data.toList) := by unfold groups; rw [if_neg h0]
    rw [hg]
    refine (groups_walk s hs h0 E w hE).mono ?_
    rintro e w' (⟨ns, hn, v, rfl, hv, hb⟩ | ⟨hn, rfl, hb⟩)
    · rw [hn]
      rcases hv with ⟨rfl, rfl⟩ | ⟨g, rfl, _, hB⟩
      · exact ⟨none, 0, rfl, fun ns h => by cases h; exact ⟨rfl, fun h => by simp at h⟩, hb⟩
      · exact ⟨_, _, rfl, fun ms h => by cases h; exact ⟨rfl, fun _ => ⟨g, rfl, hB⟩⟩, hb⟩
    · rw [hn]
      exact ⟨none, 0, rfl, (fun ns h => by cases h), hb⟩

/-- The groups of a text of sixteen bytes. -/
def six (l : List UInt8) : Option (List Nat) :=
  match groups (Lib.cut l [58, 58]).1, groups (Lib.cut l [58, 58]).2.1 with
  | some a, some b => if ((Lib.cut l [58, 58]).2.2 = true ∧ a.length + b.length ≤ 7) ∨ ((Lib.cut l [58, 58]).2.2 = false ∧ a.length + b.length = 8) then some (a ++ (List.replicate (8 - a.length - b.length) 0 ++ b)) else none
  | _, _ => none

/-- strings.Cut, as addr asks it. -/
theorem cut_any (s : ByteArray) (hs : s.size ≤ 1000) (E : Value) (w : World) (hE : Env E w) :
    Calls Tryz.prog 26 #[.string s, .string ⟨#[58, 58]⟩] w fun e w' => e = .returned (.tuple #[.string ⟨(Lib.cut s.data.toList [58, 58]).1.toArray⟩, .string ⟨(Lib.cut s.data.toList [58, 58]).2.1.toArray⟩, .bool (Lib.cut s.data.toList [58, 58]).2.2]) ∧ Below w.heap.size w w' := by
  obtain ⟨m, hm⟩ := hE.max
  refine (Tryz.strings_Cut s ⟨#[58, 58]⟩ m w (by omega) hm).mono ?_
  rintro e w' ⟨rfl, n, rfl⟩
  exact ⟨rfl, below_drewN w n⟩

theorem cut_le (l sep : List UInt8) : (Lib.cut l sep).1.length ≤ l.length ∧ (Lib.cut l sep).2.1.length ≤ l.length := by
  unfold Lib.cut
  split
  · exact ⟨List.length_take_le' _ _, by simp⟩
  · simp

theorem groups_lt {l : List UInt8} {ns : List Nat} (h : groups l = some ns) : ∀ n ∈ ns, n < 65536 := by
  unfold groups at h
  split at h
  · cases h; intro n hn; cases hn
  · intro n hn
    obtain ⟨x, _, hx⟩ := allOf_mem grp _ ns h n hn
    exact grp_lt hx

set_option maxRecDepth 100000 in
set_option maxHeartbeats 4000000 in
/-- The walk as far as the two lists; what is asked of the rest. -/
theorem six_bad (s h t : ByteArray) (gp : Bool) (r1 r2 : Option (List Nat)) (E : Value) (w : World) (hE : Env E w)
    (hC : ∀ w, Env E w → Calls Tryz.prog 26 #[.string s, .string ⟨#[58, 58]⟩] w fun e w' => e = .returned (.tuple #[.string h, .string t, .bool gp]) ∧ Below w.heap.size w w')
    (h1 : ∀ w, Env E w → Calls Tryz.prog 62 #[.string h] w (GAny r1 w)) (h2 : ∀ w, Env E w → Calls Tryz.prog 62 #[.string t] w (GAny r2 w)) (hn : r1 = none ∨ r2 = none) :
    Calls Tryz.prog 45 #[.string s] w (AddrEnd false z16 false w) := by
  obtain ⟨W0, hW0⟩ : ∃ W, W = w.alloc (.cells (adr false z16) 25) := ⟨_, rfl⟩
  have hB0 : Blk W0 w.heap.size 25 (adr false z16) := hW0 ▸ Blk.new w _ _
  have hb0 : Below w.heap.size w W0 := hW0 ▸ (Below.refl _ _).alloc (Nat.le_refl _) _
  have HW0 : Hid (w.alloc (.cells #[.bool false, .int .u8 0, .int .u8 0, .int .u8 0, .int .u8 0, .int .u8 0, .int .u8 0, .int .u8 0, .int .u8 0, .int .u8 0, .int .u8 0, .int .u8 0, .int .u8 0, .int .u8 0, .int .u8 0, .int .u8 0, .int .u8 0] 25) = W0) := Lib.hid hW0.symm
  have HC := Lib.hid hC
  have H1 := Lib.hid h1
  have H2 := Lib.hid h2
  have HE := Lib.hid hE
  have HB0 := Lib.hid hB0
  clear hC h1 h2 hE hW0 hB0
  go_enter Tryz.func45, Tryz.ntmps45
  go_wp2_with fail
  rw [HW0.out]
  refine (HC.out W0 (HE.out.kept hb0)).mono ?_
  rintro e w1 ⟨rfl, hb1⟩
  have Hb1 := Lib.hid (bel2 hb0 hb1)
  go_wp2_with fail
  refine (H1.out w1 (HE.out.kept Hb1.out)).mono ?_
  rintro e w2 ⟨p1, n1, rfl, hs1, hb2⟩
  have HS1 := Lib.hid hs1
  have Hb2 := Lib.hid (bel2 Hb1.out hb2)
  clear hs1
  go_wp2_with fail
  refine (H2.out w2 (HE.out.kept Hb2.out)).mono ?_
  rintro e w3 ⟨p2, n2, rfl, hs2, hb3⟩
  have HS2 := Lib.hid hs2
  have Hb3 := Lib.hid (bel2 Hb2.out hb3)
  clear hs2
  have HB3 := Lib.hid (((HB0.out.kept hb1).kept hb2).kept hb3)
  clear HS1 HS2 HC H1 H2
  cases r1 with
  | none =>
    go_wp2_with (refine wpl_store 25 _ _ rfl _ (adr false z16) rfl rfl _ _ HB3.out 17 Tryz.infoAddr rfl rfl (adr_one _ _) rfl ?_)
    exact retA2 rfl w.heap.size rfl _ _ _ (HB3.out.row _) Tryz.underlying25 rfl 17 Tryz.infoAddr rfl rfl _ rfl ⟨rfl, below_setRow Hb3.out (Nat.le_refl _) _⟩
  | some a =>
    cases r2 with
    | some b => rcases hn with h | h <;> cases h
    | none =>
      go_wp2_with (refine wpl_store 25 _ _ rfl _ (adr false z16) rfl rfl _ _ HB3.out 17 Tryz.infoAddr rfl rfl (adr_one _ _) rfl ?_)
      exact retA2 rfl w.heap.size rfl _ _ _ (HB3.out.row _) Tryz.underlying25 rfl 17 Tryz.infoAddr rfl rfl _ rfl ⟨rfl, below_setRow Hb3.out (Nat.le_refl _) _⟩

set_option maxRecDepth 100000 in
set_option maxHeartbeats 4000000 in
theorem six_wrong (s h t : ByteArray) (gp : Bool) (a b : List Nat) (ha1 : a.length ≤ 1001) (hb1' : b.length ≤ 1001) (E : Value) (w : World) (hE : Env E w)
    (hC : ∀ w, Env E w → Calls Tryz.prog 26 #[.string s, .string ⟨#[58, 58]⟩] w fun e w' => e = .returned (.tuple #[.string h, .string t, .bool gp]) ∧ Below w.heap.size w w')
    (h1 : ∀ w, Env E w → Calls Tryz.prog 62 #[.string h] w (GAny (some a) w)) (h2 : ∀ w, Env E w → Calls Tryz.prog 62 #[.string t] w (GAny (some b) w))
    (hn : ¬ ((gp = true ∧ a.length + b.length ≤ 7) ∨ (gp = false ∧ a.length + b.length = 8))) :
    Calls Tryz.prog 45 #[.string s] w (AddrEnd false z16 false w) := by
  obtain ⟨W0, hW0⟩ : ∃ W, W = w.alloc (.cells (adr false z16) 25) := ⟨_, rfl⟩
  have hB0 : Blk W0 w.heap.size 25 (adr false z16) := hW0 ▸ Blk.new w _ _
  have hb0 : Below w.heap.size w W0 := hW0 ▸ (Below.refl _ _).alloc (Nat.le_refl _) _
  have HW0 : Hid (w.alloc (.cells #[.bool false, .int .u8 0, .int .u8 0, .int .u8 0, .int .u8 0, .int .u8 0, .int .u8 0, .int .u8 0, .int .u8 0, .int .u8 0, .int .u8 0, .int .u8 0, .int .u8 0, .int .u8 0, .int .u8 0, .int .u8 0, .int .u8 0] 25) = W0) := Lib.hid hW0.symm
  have HC := Lib.hid hC
  have H1 := Lib.hid h1
  have H2 := Lib.hid h2
  have HE := Lib.hid hE
  have HB0 := Lib.hid hB0
  clear hC h1 h2 hE hW0 hB0
  go_enter Tryz.func45, Tryz.ntmps45
  go_wp2_with fail
  rw [HW0.out]
  refine (HC.out W0 (HE.out.kept hb0)).mono ?_
  rintro e w1 ⟨rfl, hb1⟩
  have Hb1 := Lib.hid (bel2 hb0 hb1)
  go_wp2_with fail
  refine (H1.out w1 (HE.out.kept Hb1.out)).mono ?_
  rintro e w2 ⟨p1, n1, rfl, hs1, hb2⟩
  obtain ⟨rfl, -⟩ := hs1 a rfl
  have Hb2 := Lib.hid (bel2 Hb1.out hb2)
  clear hs1
  go_wp2_with fail
  refine (H2.out w2 (HE.out.kept Hb2.out)).mono ?_
  rintro e w3 ⟨p2, n2, rfl, hs2, hb3⟩
  obtain ⟨rfl, -⟩ := hs2 b rfl
  have Hb3 := Lib.hid (bel2 Hb2.out hb3)
  clear hs2
  have HB3 := Lib.hid (((HB0.out.kept hb1).kept hb2).kept hb3)
  clear HC H1 H2
  cases gp with
  | true =>
    have q : ¬ a.length + b.length ≤ 7 := fun h => hn (.inl ⟨rfl, h⟩)
    have q1 : (8 : Int) - a.length - b.length < 1 := by omega
    clear hn
    go_wp2_with (refine wpl_store 25 _ _ rfl _ (adr false z16) rfl rfl _ _ HB3.out 17 Tryz.infoAddr rfl rfl (adr_one _ _) rfl ?_)
    exact retA2 rfl w.heap.size rfl _ _ _ (HB3.out.row _) Tryz.underlying25 rfl 17 Tryz.infoAddr rfl rfl _ rfl ⟨rfl, below_setRow Hb3.out (Nat.le_refl _) _⟩
  | false =>
    have q : ¬ a.length + b.length = 8 := fun h => hn (.inr ⟨rfl, h⟩)
    have q1 : ((8 : Int) - a.length - b.length != 0) = true := by rw [bne_iff_ne]; omega
    clear hn
    go_wp2_with (refine wpl_store 25 _ _ rfl _ (adr false z16) rfl rfl _ _ HB3.out 17 Tryz.infoAddr rfl rfl (adr_one _ _) rfl ?_)
    exact retA2 rfl w.heap.size rfl _ _ _ (HB3.out.row _) Tryz.underlying25 rfl 17 Tryz.infoAddr rfl rfl _ rfl ⟨rfl, below_setRow Hb3.out (Nat.le_refl _) _⟩
end Go.Proofs.YtijboclcbbnhbaaGreatDoor
