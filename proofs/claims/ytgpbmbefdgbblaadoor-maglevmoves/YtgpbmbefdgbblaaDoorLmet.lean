/-
  maglev: a table in memory; has, owners and what it makes, At.
-/
import Derived.Test.YtgpbmbefdgbblaaDoorLmag
namespace Go.Proofs.YtgpbmbefdgbblaaDoor
open Go.RowKit Go.Lib

/-- A list of numbers in memory. -/
def IntsIn (n₀ : Nat) (W : World) (ad : Option Addr) (L : List Int) : Prop := ∀ j, j < L.length → ∃ g o, ad = some ⟨g, o, none⟩ ∧ g < n₀ ∧ W.cell? ⟨g, o + j, none⟩ = some (.int .i64 (L.getD j 0))
theorem IntsIn.below {n₀ : Nat} {A B : World} (h : Below n₀ A B) {ad : Option Addr} {L : List Int} (hb : IntsIn n₀ A ad L) : IntsIn n₀ B ad L := fun j hj => by
  obtain ⟨g, o, e, hg, hc⟩ := hb j hj
  exact ⟨g, o, e, hg, (h.cell (p := ⟨g, o + j, none⟩) hg).trans hc⟩
theorem IntsIn.mono {n₀ n₁ : Nat} {A : World} {ad : Option Addr} {L : List Int} (hb : IntsIn n₀ A ad L) (h : n₀ ≤ n₁) : IntsIn n₁ A ad L := fun j hj => by
  obtain ⟨g, o, e, hg, hc⟩ := hb j hj
  exact ⟨g, o, e, Nat.lt_of_lt_of_le hg h, hc⟩
theorem SlotB.ints {W : World} {S : Nat} {L : List Int} (h : SlotB W S L) : IntsIn W.heap.size W (some ⟨S, 0, none⟩) L := fun j hj => ⟨S, 0, rfl, h.lt, by rw [Nat.zero_add]; exact h.cell hj⟩

/-- A table in memory. -/
structure TabIn (n₀ : Nat) (W : World) (ab as' : Option Addr) (bs : List PS) (L : List Int) : Prop where
  els : Elems encP 18 n₀ W ab bs
  ints : IntsIn n₀ W as' L
theorem TabIn.kept {W W' : World} {ab as' : Option Addr} {bs : List PS} {L : List Int} (h : TabIn W.heap.size W ab as' bs L) (hb : Below W.heap.size W W') : TabIn W'.heap.size W' ab as' bs L :=
  ⟨(h.els.below hb).mono hb.size, (h.ints.below hb).mono hb.size⟩

def pz : PS := ⟨(false, List.replicate 16 0, 0), by
  refine ⟨rfl, fun x hx => ?_⟩
  have := (List.mem_replicate.1 hx).2
  omega⟩
/-- Whose a place is, where the table is whole. -/
def ownT (m : Int) (bs : List PS) (L : List Int) (p : Int) : Option PS := if 0 ≤ p ∧ p < m ∧ 0 ≤ L.getD p.toNat 0 ∧ L.getD p.toNat 0 < bs.length then some bs[(L.getD p.toNat 0).toNat]! else none
/-- Can it tell any? -/
def wholeT (m : Int) (L : List Int) : Bool := sizedB m && decide ((L.length : Int) = m)
def ownW (m : Int) (bs : List PS) (L : List Int) (p : Int) : Option PS := if wholeT m L = true then ownT m bs L p else none
def ansO (x : Option PS) : Value := .tuple #[.agg (encP (x.getD pz)), .bool x.isSome]

def cellsT (m : Int) (ab as' : Option Addr) (nb cb ns cs : Nat) : Array Value := #[.int .i64 m, .slice ab nb cb, .slice as' ns cs]

set_option maxRecDepth 100000 in
set_option maxHeartbeats 4000000 in
theorem has_any (m who : Int) (ab as' : Option Addr) (nb cb ns cs : Nat) (w : World) :
    Calls Tryd.prog 21 #[.agg #[.int .i64 m, .slice ab nb cb, .slice as' ns cs], .int .i64 who] w fun e w' => e = .returned (.bool (decide (0 ≤ who) && decide (who < nb))) ∧ Below w.heap.size w w' := by
  have HB : Hid (Below w.heap.size w (w.alloc (.cells #[.int .i64 m, .slice ab nb cb, .slice as' ns cs] 26))) := hid ((Below.refl _ _).alloc (Nat.le_refl _) _)
  by_cases h : 0 ≤ who
  · have q1 : decide (who ≥ 0) = true := decide_eq_true h
    have q2 : decide (0 ≤ who) = true := decide_eq_true h
    go_enter Tryd.func21, Tryd.ntmps21
    go_wp2
    go_ret
    exact ⟨ret_b rfl (by first | rfl | rw [q2, Bool.true_and]), HB.out⟩
  · have q1 : decide (who ≥ 0) = false := decide_eq_false h
    have q2 : decide (0 ≤ who) = false := decide_eq_false h
    go_enter Tryd.func21, Tryd.ntmps21
    go_wp2
    go_ret
    exact ⟨ret_b rfl (by first | rfl | rw [q2, Bool.false_and]), HB.out⟩

set_option maxRecDepth 100000 in
set_option maxHeartbeats 4000000 in
theorem owners_no (m : Int) (ab as' : Option Addr) (nb cb cs : Nat) (L : List Int) (h : wholeT m L = false) (w : World) :
    Calls Tryd.prog 20 #[.agg #[.int .i64 m, .slice ab nb cb, .slice as' L.length cs]] w fun e w' => e = .returned (.func (.func 32) #[] #[]) ∧ Below w.heap.size w w' := by
  have HB : Hid (Below w.heap.size w (w.alloc (.cells #[.int .i64 m, .slice ab nb cb, .slice as' L.length cs] 26))) := hid ((Below.refl _ _).alloc (Nat.le_refl _) _)
  have HN := hid (Blk.new w 26 #[.int .i64 m, .slice ab nb cb, .slice as' L.length cs])
  have HS := hid (fun W => msized_any m W)
  unfold wholeT at h
  generalize L.length = n at *
  cases hs : sizedB m
  · rw [hs] at HS
    clear h hs
    go_enter Tryd.func20, Tryd.ntmps20
    go_wp2_with fail
    refine (HS.out _).mono ?_
    rintro e w1 ⟨rfl, hb⟩
    have Hb := hid (bel2 HB.out hb)
    clear hb
    go_wp2
    go_ret
    exact ⟨rfl, Hb.out⟩
  · rw [hs, Bool.true_and] at h
    rw [hs] at HS
    have hne : ((n : Int) != m) = true := by rw [bne_iff_ne]; exact of_decide_eq_false h
    clear h hs
    go_enter Tryd.func20, Tryd.ntmps20
    go_wp2_with fail
    refine (HS.out _).mono ?_
    rintro e w1 ⟨rfl, hb⟩
    have Hb := hid (bel2 HB.out hb)
    have c0 : w1.cell? ⟨w.heap.size, 0, none⟩ = some (.int .i64 m) := (HN.out.kept hb).cell 0
    have c2 : w1.cell? ⟨w.heap.size, 2, none⟩ = some (.slice as' n cs) := (HN.out.kept hb).cell 2
    clear hb
    go_wp2
    go_ret
    exact ⟨rfl, Hb.out⟩

set_option maxRecDepth 100000 in
set_option maxHeartbeats 4000000 in
theorem owners_yes (m : Int) (ab as' : Option Addr) (nb cb cs : Nat) (L : List Int) (h : wholeT m L = true) (w : World) :
    Calls Tryd.prog 20 #[.agg #[.int .i64 m, .slice ab nb cb, .slice as' L.length cs]] w fun e w' => e = .returned (.func (.func 33) #[] #[.pointer (some ⟨w.heap.size, 0, none⟩)]) ∧ Blk w' w.heap.size 26 #[.int .i64 m, .slice ab nb cb, .slice as' L.length cs] ∧ Below w.heap.size w w' := by
  have HB : Hid (Below w.heap.size w (w.alloc (.cells #[.int .i64 m, .slice ab nb cb, .slice as' L.length cs] 26))) := hid ((Below.refl _ _).alloc (Nat.le_refl _) _)
  have HN := hid (Blk.new w 26 #[.int .i64 m, .slice ab nb cb, .slice as' L.length cs])
  have HS := hid (fun W => msized_any m W)
  unfold wholeT at h
  generalize L.length = n at *
  rw [Bool.and_eq_true] at h
  obtain ⟨hs, h⟩ := h
  rw [hs] at HS
  have hne : ((n : Int) != m) = false := by
    have := of_decide_eq_true h
    rw [this]
    simp
  clear h hs
  go_enter Tryd.func20, Tryd.ntmps20
  go_wp2_with fail
  refine (HS.out _).mono ?_
  rintro e w1 ⟨rfl, hb⟩
  have Hb := hid (bel2 HB.out hb)
  have HN1 := hid (HN.out.kept hb)
  have c0 : w1.cell? ⟨w.heap.size, 0, none⟩ = some (.int .i64 m) := (HN.out.kept hb).cell 0
  have c2 : w1.cell? ⟨w.heap.size, 2, none⟩ = some (.slice as' n cs) := (HN.out.kept hb).cell 2
  clear hb
  go_wp2
  go_ret
  exact ⟨rfl, HN1.out, Hb.out⟩

theorem encP_pz : encP pz = #[.bool false, .int .u8 0, .int .u8 0, .int .u8 0, .int .u8 0, .int .u8 0, .int .u8 0, .int .u8 0, .int .u8 0, .int .u8 0, .int .u8 0, .int .u8 0, .int .u8 0, .int .u8 0, .int .u8 0, .int .u8 0, .int .u8 0, .int .i64 0] := rfl

set_option maxRecDepth 100000 in
set_option maxHeartbeats 4000000 in
theorem own1_any (p : Int) (w : World) : Calls Tryd.prog 32 #[.int .i64 p] w fun e w' => e = .returned (ansO none) ∧ Below w.heap.size w w' := by
  have HB : Hid (Below w.heap.size w (w.alloc (.cells (encP pz) 36))) := hid ((Below.refl _ _).alloc (Nat.le_refl _) _)
  have HK := hid (Blk.new w 36 (encP pz))
  have HS := hid (encP_size pz)
  have H1 := hid (encP_one pz)
  go_enter Tryd.func32, Tryd.ntmps32
  go_upto_region 1 with fail
  go_wp2_with ((show wpList _ _ _ (⟨none, _, _, _, _, _⟩ :: _) _ _); go_must (refine wpl_store 36 (.tmp 2) (.tmp 4) rfl w.heap.size (encP pz) rfl rfl 36 _ (Blk.new w _ _) 18 Tryd.infoPoint HS.out.symm rfl H1.out rfl ?_; rw [setRow_new]))
  refine retA2 rfl w.heap.size rfl 36 _ _ HK.out Tryd.underlying36 rfl 18 Tryd.infoPoint HS.out.symm rfl _ rfl ⟨rfl, HB.out⟩
end Go.Proofs.YtgpbmbefdgbblaaDoor
