/-
  names.Parse, names.Format, alive of layer 5: which texts are keys.
-/
import Derived.Test.YtnlhdeffoalhiaaDoorNlab
import Derived.Test.YtnlhdeffoalhiaaDoorNkit
import Derived.Test.YtnlhdeffoalhiaaDoorShelf
namespace Go.Proofs.YtnlhdeffoalhiaaDoor
open Go.RowKit

/-- What the walks ask of package-level variables. -/
structure NEnv (E : Value) (w : World) : Prop where
  max : ∃ m, w.cell? ⟨2, 0, none⟩ = some (.int .i64 m)
  err : w.cell? ⟨0, 0, none⟩ = some E
theorem NEnv.kept {E : Value} {w w' : World} (h : NEnv E w) (hb : Below w.heap.size w w') : NEnv E w' := by
  obtain ⟨m, hm⟩ := h.max
  exact ⟨⟨m, cell_stays hm hb⟩, cell_stays h.err hb⟩

/-- The two pieces of a text. -/
def pieceA (l : List UInt8) : ByteArray := ⟨(Lib.cut l [47]).1.toArray⟩
def pieceB (l : List UInt8) : ByteArray := ⟨(Lib.cut l [47]).2.1.toArray⟩
/-- Is it a key's text? -/
def isKey (l : List UInt8) : Bool := lab (pieceA l) && lab (pieceB l)

theorem ncut_any (s : ByteArray) (hs : s.size ≤ 1000) (E : Value) (w : World) (hE : NEnv E w) :
    Calls Tryd.prog 24 #[.string s, .string ⟨#[47]⟩] w fun e w' => ∃ b, e = .returned (.tuple #[.string (pieceA s.data.toList), .string (pieceB s.data.toList), .bool b]) ∧ Below w.heap.size w w' := by
  obtain ⟨m, hm⟩ := hE.max
  refine (Tryd.strings_Cut s ⟨#[47]⟩ m w (by omega) hm).mono ?_
  rintro e w' ⟨rfl, n, rfl⟩
  exact ⟨_, rfl, below_drewN w n⟩

abbrev nk : Value := .agg #[.string ⟨#[]⟩, .string ⟨#[]⟩]

set_option maxRecDepth 100000 in
set_option maxHeartbeats 2000000 in
theorem nparse_any (s : ByteArray) (hs : s.size ≤ 1000) (E : Value) (w : World) (hE : NEnv E w) :
    Calls Tryd.prog 13 #[.string s] w fun e w' => e = .returned (.tuple (if isKey s.data.toList = true then #[kv (pieceA s.data.toList) (pieceB s.data.toList), .nilIface] else #[nk, E])) ∧ Below w.heap.size w w' := by
  obtain ⟨W0, hW0⟩ : ∃ W, W = w.alloc (.cells #[.string ⟨#[]⟩, .string ⟨#[]⟩] 25) := ⟨_, rfl⟩
  have hB0 : Blk W0 w.heap.size 25 #[.string ⟨#[]⟩, .string ⟨#[]⟩] := hW0 ▸ Blk.new w _ _
  have hb0 : Below w.heap.size w W0 := hW0 ▸ (Below.refl _ _).alloc (Nat.le_refl _) _
  have HW0 := Lib.hid hW0.symm
  have HC := Lib.hid (ncut_any s hs E W0 (hE.kept hb0))
  obtain ⟨a, ha⟩ : ∃ a, a = pieceA s.data.toList := ⟨_, rfl⟩
  obtain ⟨b, hb⟩ : ∃ b, b = pieceB s.data.toList := ⟨_, rfl⟩
  have hk : isKey s.data.toList = (lab a && lab b) := by rw [ha, hb]; rfl
  rw [← ha, ← hb] at HC
  rw [hk, ← ha, ← hb]
  have HK : Hid (∀ w, Calls Tryd.prog 25 #[kv a b] w fun e w' => e = .returned (.bool (lab a && lab b)) ∧ Below w.heap.size w w') := Lib.hid (key_any a b)
  obtain ⟨x, hx⟩ : ∃ x, x = (lab a && lab b) := ⟨_, rfl⟩
  rw [← hx] at HK ⊢
  have HE := Lib.hid hE
  have HB0 := Lib.hid hB0
  have Hb0 := Lib.hid hb0
  clear hx hk ha hb hE hB0 hW0
  go_enter Tryd.func13, Tryd.ntmps13
  go_wp2_with fail
  rw [HW0.out]
  refine HC.out.mono ?_
  rintro e w1 ⟨bb, rfl, hb1⟩
  have HB1 := Lib.hid (HB0.out.kept hb1)
  have Hb1 := Lib.hid (bel2 Hb0.out hb1)
  have hlt1 : w.heap.size < w1.heap.size := HB1.out.lt
  obtain ⟨V1, hV1⟩ : ∃ V, V = w1.alloc (.cells #[.string a, .string b] 25) := ⟨_, rfl⟩
  have hBV1 : Blk V1 w1.heap.size 25 #[.string a, .string b] := hV1 ▸ Blk.new w1 _ _
  have hbV1 : Below w1.heap.size w1 V1 := hV1 ▸ (Below.refl _ _).alloc (Nat.le_refl _) _
  have HV1 := Lib.hid hV1.symm
  clear hb1 hV1
  go_wp2_with fail
  rw [HV1.out]
  refine (HK.out _).mono ?_
  rintro e w2 ⟨rfl, hb2⟩
  have HX2 := Lib.hid (hBV1.kept hb2)
  have HB2 := Lib.hid ((HB1.out.kept hbV1).kept hb2)
  have Hb2 := Lib.hid (bel2 (bel2 Hb1.out hbV1) hb2)
  clear hBV1 hbV1 hb2
  cases x with
  | true =>
    go_wp2_with (first | (refine wpl_load 25 _ rfl w1.heap.size rfl _ _ _ HX2.out Tryd.underlying25 rfl 2 Tryd.infoKey rfl rfl ?_) | (refine wpl_store 25 _ _ rfl w.heap.size #[.string a, .string b] rfl rfl _ _ HB2.out 2 Tryd.infoKey rfl rfl (kv_one _ _) rfl ?_))
    exact retA2 rfl w.heap.size rfl _ _ _ (HB2.out.row _) Tryd.underlying25 rfl 2 Tryd.infoKey rfl rfl _ rfl ⟨rfl, below_setRow Hb2.out (Nat.le_refl _) _⟩
  | false =>
    go_wp2_with fail
    have HB5d : Hid (Blk w2.drew w.heap.size 25 #[.string ⟨#[]⟩, .string ⟨#[]⟩]) := Lib.hid (HB2.out.kept (below_drewN w2 1))
    have hform : w2.cell? ⟨0, 0, none⟩ = some E := cell_stays HE.out.err Hb2.out
    have hform2 : (w2.drew.setRow w.heap.size #[.string ⟨#[]⟩, .string ⟨#[]⟩]).cell? ⟨0, 0, none⟩ = some E := cell_stays HE.out.err (below_setRow (bel2 Hb2.out (below_drewN w2 1)) (Nat.le_refl _) _)
    refine wp_region_any (by kernel_rfl) ?_
    change wpAny _ _ _ _ _ _ _ (World.drew _)
    refine wpAny_take (i := 0) (v := nk) rfl (by kernel_rfl) (by kernel_rfl) (by kernel_rfl) (fun _ _ _ h => h) (Or.inl ⟨by rfl, fun w => by kernel_rfl⟩) ?_
    refine wpAny_ready (rs := [1, 2]) (by kernel_rfl) (by simp) ?_
    refine AllReady.cons rfl (fun K hK => ?_) (AllReady.cons rfl (fun K hK => ?_) AllReady.nil)
    · refine step_run E w2.drew (by go_simp) rfl (hK _ _ ?_)
      refine wpAny_ready (rs := [2]) (by kernel_rfl) (by simp) ?_
      refine AllReady.cons rfl (fun K hK => ?_) AllReady.nil
      refine step_store 25 (.tmp 2) (.tmp 20) rfl w.heap.size #[.string ⟨#[]⟩, .string ⟨#[]⟩] rfl rfl 25 _ HB5d.out 2 Tryd.infoKey rfl rfl (kv_one _ _) rfl (hK _ _ ?_)
      refine wpAny_ready (rs := [3]) (by kernel_rfl) (by simp) ?_
      refine AllReady.cons rfl (fun K hK => ?_) AllReady.nil
      refine step_run E _ rfl rfl (hK _ _ ?_)
      refine wpAny_done (by kernel_rfl) ?_ _
      go_wp2
      exact retA2 rfl w.heap.size rfl _ _ _ (HB5d.out.row _) Tryd.underlying25 rfl 2 Tryd.infoKey rfl rfl _ rfl ⟨rfl, below_setRow (bel2 Hb2.out (below_drewN w2 1)) (Nat.le_refl _) _⟩
    · refine step_store 25 (.tmp 2) (.tmp 20) rfl w.heap.size #[.string ⟨#[]⟩, .string ⟨#[]⟩] rfl rfl 25 _ HB5d.out 2 Tryd.infoKey rfl rfl (kv_one _ _) rfl (hK _ _ ?_)
      refine wpAny_ready (rs := [1]) (by kernel_rfl) (by simp) ?_
      refine AllReady.cons rfl (fun K hK => ?_) AllReady.nil
      refine step_run E (w2.drew.setRow w.heap.size #[.string ⟨#[]⟩, .string ⟨#[]⟩]) (by go_simp) rfl (hK _ _ ?_)
      refine wpAny_ready (rs := [3]) (by kernel_rfl) (by simp) ?_
      refine AllReady.cons rfl (fun K hK => ?_) AllReady.nil
      refine step_run E _ rfl rfl (hK _ _ ?_)
      refine wpAny_done (by kernel_rfl) ?_ _
      go_wp2
      exact retA2 rfl w.heap.size rfl _ _ _ (HB5d.out.row _) Tryd.underlying25 rfl 2 Tryd.infoKey rfl rfl _ rfl ⟨rfl, below_setRow (bel2 Hb2.out (below_drewN w2 1)) (Nat.le_refl _) _⟩

/-- A key's text. -/
def keyText (a b : ByteArray) : ByteArray := if (lab a && lab b) = true then a ++ ⟨#[47]⟩ ++ b else ⟨#[]⟩


theorem alive_key : isKey [97, 47, 119, 101, 98] = true ∧ pieceA [97, 47, 119, 101, 98] = ⟨#[97]⟩ ∧ pieceB [97, 47, 119, 101, 98] = ⟨#[119, 101, 98]⟩ := by
  refine ⟨?_, ?_, ?_⟩ <;> decide +kernel

set_option maxRecDepth 100000 in
set_option maxHeartbeats 2000000 in
theorem nalive_any (E : Value) (w : World) (hE : NEnv E w) :
    Calls Tryd.prog 5 #[] w fun e w' => e = .returned (.bool true) ∧ Below w.heap.size w w' := by
  have hP := nparse_any ⟨#[97, 47, 119, 101, 98]⟩ (by decide) E w hE
  obtain ⟨h1, h2, h3⟩ := alive_key
  simp only [h1, h2, h3, if_true] at hP
  have HP := Lib.hid hP
  have heq := eql_key ⟨#[97]⟩ ⟨#[119, 101, 98]⟩ ⟨#[97]⟩ ⟨#[119, 101, 98]⟩
  rw [show ((⟨#[97]⟩ : ByteArray).toList == (⟨#[97]⟩ : ByteArray).toList && (⟨#[119, 101, 98]⟩ : ByteArray).toList == (⟨#[119, 101, 98]⟩ : ByteArray).toList) = true by simp] at heq
  clear hP h1 h2 h3
  go_enter Tryd.func5, Tryd.ntmps5
  go_wp2_with fail
  refine HP.out.mono ?_
  rintro e w1 ⟨rfl, hb1⟩
  go_wp2
  go_ret
  exact ⟨rfl, bel2 hb1 ((Below.refl _ _).alloc (Nat.le_refl _) _)⟩
end Go.Proofs.YtnlhdeffoalhiaaDoor
