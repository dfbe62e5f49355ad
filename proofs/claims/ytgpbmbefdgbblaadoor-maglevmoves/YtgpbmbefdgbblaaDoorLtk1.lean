/-
  What the taker does when it is called.
-/
import Derived.Test.YtgpbmbefdgbblaaDoorLtak
namespace Go.Proofs.YtgpbmbefdgbblaaDoor
open Go.RowKit Go.Lib

/-- All but two blocks stay. -/
structure Two (w w' : World) (c S : Nat) : Prop where
  os : w'.os = w.os
  tape : w'.tape = w.tape
  output : w'.output = w.output
  size : w.heap.size ≤ w'.heap.size
  block : ∀ k, k < w.heap.size → k ≠ c → k ≠ S → w'.heap[k]? = w.heap[k]?

/-- A row of numbers that is a block. -/
def SlotB (W : World) (S : Nat) (L : List Int) : Prop := Blk W S 3 (L.map (Value.int .i64)).toArray
theorem SlotB.cell {W : World} {S : Nat} {L : List Int} (h : SlotB W S L) {i : Nat} (hi : i < L.length) : W.cell? ⟨S, i, none⟩ = some (.int .i64 (L.getD i 0)) := by
  rw [Blk.cell h i]
  simp [List.getD, List.getElem?_eq_getElem hi]
theorem SlotB.set {W : World} {S : Nat} {L : List Int} (h : SlotB W S L) (i : Nat) (v : Int) : SlotB (W.setCell ⟨S, i, none⟩ (.int .i64 v)) S (L.set i v) := by
  have := Blk.set h i (.int .i64 v)
  unfold SlotB
  rw [List.map_set]
  simpa using this
theorem grown_trans {a b c : World} {o : Option Nat} (h : a.grownBy b o) (k : b.grownBy c o) : a.grownBy c o :=
  ⟨k.os.trans h.os, k.tape.trans h.tape, k.output.trans h.output, Nat.le_trans h.size k.size, fun i hi hne => (k.block i (Nat.lt_of_lt_of_le hi h.size) hne).trans (h.block i hi hne)⟩
theorem grown_drew (w : World) (o : Option Nat) : w.grownBy w.drew o := ⟨rfl, rfl, rfl, Nat.le_refl _, fun _ _ _ => rfl⟩

set_option maxRecDepth 100000 in
set_option maxHeartbeats 8000000 in
theorem take_any (M : Nat) (hM : sizedB (M : Int) = true) (S p q r c b : Nat) (x : PS) (who d J : Nat) (L : List Int) (hl : L.length = M) (w : World)
    (hne : p ≠ c ∧ q ≠ c ∧ r ≠ c) (hSc : S ≠ c) (hSb : S ≠ b) (kp : Blk w p 79 #[.pointer (some ⟨c, 0, none⟩)]) (kq : Blk w q 24 #[.slice (some ⟨S, 0, none⟩) M M]) (kr : Blk w r 3 #[.int .i64 who])
    (hC : CurYes w c b M (oOf M x) (kOf M x) d) (hS : SlotB w S L) (hJ : d ≤ J) (hJM : J ≤ 100000) (hf : L.getD (ordP M x J) 0 = -1) (hb : ∀ i, d ≤ i → i < J → L.getD (ordP M x i) 0 ≠ -1) :
    Calls Tryd.prog 46 #[.pointer (some ⟨p, 0, none⟩), .pointer (some ⟨q, 0, none⟩), .pointer (some ⟨r, 0, none⟩)] w fun e w' =>
      e = .returned (.tuple #[]) ∧ CurYes w' c b M (oOf M x) (kOf M x) (J + 1 : Nat) ∧ SlotB w' S (L.set (ordP M x J) who) ∧ Two w w' c S := by
  have HN : Hid (∀ (j : Nat) W, j ≤ 100000 → CurYes W c b M (oOf M x) (kOf M x) j → Calls Tryd.prog 47 #[.pointer (some ⟨c, 0, none⟩)] W fun e w' => e = .returned (.int .i64 (ordP M x j : Nat)) ∧ CurYes w' c b M (oOf M x) (kOf M x) (j + 1 : Nat) ∧ W.grownBy w' (some c)) := hid fun j W hj h => by
    rw [← ordP_cast M hM x j]
    exact next_yes c b M (oOf M x) (kOf M x) j (right_of M hM x) (by omega) W h
  have HO : Hid (∀ j, ordP M x j < M) := hid (ordP_lt M hM x)
  have cp := kp.cell 0
  have cq := kq.cell 0
  have cr := kr.cell 0
  simp only [List.getElem?_toArray, List.getElem?_cons_zero] at cp cq cr
  have HK : Hid (∀ W, w.grownBy W (some c) → W.cell? ⟨p, 0, none⟩ = some (.pointer (some ⟨c, 0, none⟩)) ∧ W.cell? ⟨q, 0, none⟩ = some (.slice (some ⟨S, 0, none⟩) M M) ∧ W.cell? ⟨r, 0, none⟩ = some (.int .i64 who) ∧ SlotB W S L) := hid fun W h => by
    have z1 := (kp.grown h (fun e => hne.1 (Option.some.inj e).symm)).cell 0
    have z2 := (kq.grown h (fun e => hne.2.1 (Option.some.inj e).symm)).cell 0
    have z3 := (kr.grown h (fun e => hne.2.2 (Option.some.inj e).symm)).cell 0
    exact ⟨z1, z2, z3, Blk.grown hS h (fun e => hSc (Option.some.inj e).symm)⟩
  have HL := hid hl
  have HB := hid hb
  have HF := hid hf
  have HSS := hid (And.intro hSc hSb)
  have M251 := (sized_range hM).2.1
  have HC0 := hid hC
  clear hne kp kq kr hl hb hf hS hSc hSb hM hC
  go_enter Tryd.func46, Tryd.ntmps46
  go_wp2_with fail
  refine (HN.out d _ (by omega) HC0.out).mono ?_
  rintro e w1 ⟨rfl, hc1, hg1⟩
  have HC1 := hid hc1
  have HG1 := hid hg1
  clear hc1 hg1 cp cq cr HC0
  go_wp2_with fail
  go_loopg [3] (J + 1) (fun g s3 wr => ∃ j y : Nat, d ≤ j ∧ j ≤ J ∧ J - j ≤ g ∧ s3 = .int .i64 (y : Int) ∧ y = ordP M x j ∧ Hid (CurYes wr c b M (oOf M x) (kOf M x) (j + 1 : Nat)) ∧ Hid (w.grownBy wr (some c)))
  case atStart => exact ⟨d, _, Nat.le_refl _, hJ, by omega, rfl, rfl, HC1, HG1⟩
  case round =>
    obtain ⟨j, y, hdj, hjJ, hgj, rfl, hy, HCj, HGj⟩ := hrel
    obtain ⟨z1, z2, z3, z4⟩ := HK.out _ HGj.out
    have hyM : y < M := by rw [hy]; exact HO.out j
    obtain ⟨v, hv⟩ : ∃ v, v = L.getD y 0 := ⟨_, rfl⟩
    have z5 : wr.cell? ⟨S, y, none⟩ = some (.int .i64 v) := hv ▸ z4.cell (by rw [HL.out]; exact hyM)
    have z6 : wr.frozen? ⟨S, y, none⟩ = false := Blk.frozen z4 y
    have Z4 := hid z4
    have HY := hid hy
    clear z4
    by_cases hjj : j = J
    · subst hjj
      have hv1 : (v != -1) = false := by rw [hv, hy, HF.out]; rfl
      have F : Hid (SlotB (wr.setCell ⟨S, y, none⟩ (.int .i64 who)) S (L.set (ordP M x j) who)) := hid (by rw [← HY.out]; exact Z4.out.set y who)
      have F2 : Hid (CurYes (wr.setCell ⟨S, y, none⟩ (.int .i64 who)) c b M (oOf M x) (kOf M x) (j + 1 : Nat)) := hid ⟨Blk.setOther HCj.out.1 (Ne.symm HSS.out.1) _ _, HCj.out.2.1, Blk.setOther HCj.out.2.2 (Ne.symm HSS.out.2) _ _⟩
      have F3 : Hid (Two w (wr.setCell ⟨S, y, none⟩ (.int .i64 who)) c S) := hid (by
        have g2 := grown_set wr S y (.int .i64 who)
        have g1 := HGj.out
        exact ⟨g2.os.trans g1.os, g2.tape.trans g1.tape, g2.output.trans g1.output, Nat.le_trans g1.size g2.size, fun k hk h1 h2 => (g2.block k (Nat.lt_of_lt_of_le hk g1.size) (fun e => h2 (Option.some.inj e))).trans (g1.block k hk (fun e => h1 (Option.some.inj e)))⟩)
      clear hv hy HCj HGj Z4
      go_wp2
      go_end0
      exact ⟨rfl, F2.out, F.out, F3.out⟩
    · have hv1 : (v != -1) = true := by rw [hv, hy, bne_iff_ne]; exact HB.out j hdj (by omega)
      have HNj := hid (HN.out (j + 1) wr (by omega) HCj.out)
      clear hv hy
      go_wp2_with fail
      refine HNj.out.mono ?_
      rintro e w2 ⟨rfl, hc2, hg2⟩
      have HC2 := hid hc2
      have HG2 := hid (grown_trans HGj.out hg2)
      clear hc2 hg2
      go_wp2
      go_roundg (J - (j + 1))
      case measure => omega
      case rel => exact ⟨j + 1, _, by omega, by omega, Nat.le_refl _, rfl, rfl, HC2, HG2⟩
end Go.Proofs.YtgpbmbefdgbblaaDoor
