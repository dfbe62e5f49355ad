/-
  Same, of two rows of the same frames.
-/
import Derived.Test.YtkpjdjenlmodnaaDoorErc
namespace Go.Proofs.YtkpjdjenlmodnaaDoor
open Go.RowKit Go.Lib

section
variable {w : World} {ad bd : Option Addr} {cap capb : Nat} {A B : Nat → Prop} {F : List Fr} {xs ys : List Value}
theorem frs_at (hF : Frs A w xs F) (hs : Src w ad xs) (hn : ad = none → F.length = 0) (c : Nat) (hc : c < F.length) :
    ∃ g o ad1 cap1, ad = some ⟨g, o, none⟩ ∧ ∀ V, Below w.heap.size w V → V.cell? ⟨g, o + c * 2, none⟩ = some (.int .i64 (F.getD c (0, [])).1) ∧ V.cell? ⟨g, o + c * 2 + 1, none⟩ = some (.slice ad1 (F.getD c (0, [])).2.length cap1) ∧ Bys w.heap.size V ad1 (F.getD c (0, [])).2 := by
  obtain ⟨a, ha⟩ : ∃ a, ad = some a := by
    cases ad with
    | none => have := hn rfl; omega
    | some a => exact ⟨a, rfl⟩
  obtain ⟨g, o, rfl, hcell⟩ := hs a ha
  have hf : F[c]? = some F[c] := List.getElem?_eq_getElem hc
  have hg : F.getD c (0, []) = F[c] := by simp [List.getD, hf]
  obtain ⟨h1, v, h2, adb, capb, rfl, _, _, hr⟩ := hF.at c _ hf
  rw [hg]
  refine ⟨g, o, adb, capb, ha, fun V hV => ⟨?_, ?_, Bys.below hV hr.bys⟩⟩
  · have := hcell (c * 2) _ h1
    exact (hV.cell (World.block_lt_of_cell? w _ this)).trans this
  · have := hcell (c * 2 + 1) _ h2
    exact (hV.cell (World.block_lt_of_cell? w _ this)).trans this

set_option linter.unusedSimpArgs false in
set_option maxRecDepth 100000 in
set_option maxHeartbeats 8000000 in
theorem same_any (hF : Frs A w xs F) (hs : Src w ad xs) (hn : ad = none → F.length = 0) (hG : Frs B w ys F) (ht : Src w bd ys) (hm : bd = none → F.length = 0) (hl : F.length ≤ 1000000) :
    Calls Tryd.prog 10 #[.slice ad F.length cap, .slice bd F.length capb] w fun e w' => e = .returned (.bool true) ∧ Below w.heap.size w w' := by
  have H1 := hid (fun c hc => frs_at hF hs hn c hc)
  have H2 := hid (fun c hc => frs_at hG ht hm c hc)
  clear hF hs hn hG ht hm
  obtain ⟨n, hnn⟩ : ∃ n, n = F.length := ⟨_, rfl⟩
  rw [← hnn] at hl H1 H2 ⊢
  clear hnn
  go_enter Tryd.func10, Tryd.ntmps10
  go_wp2
  go_loopg [13] n (fun g t wr => ∃ c : Nat, c ≤ n ∧ g = n - c ∧ t = .int .i64 c ∧ Hid (Below w.heap.size w wr))
  case atStart => exact ⟨0, by omega, by omega, rfl, hid (Below.refl _ _)⟩
  case round =>
    obtain ⟨c, hc, rfl, rfl, hb⟩ := hrel
    by_cases hlt : c < n
    · obtain ⟨g1, o1, ad1, cap1, rfl, h1⟩ := H1.out c hlt
      obtain ⟨g2, o2, ad2, cap2, rfl, h2⟩ := H2.out c hlt
      obtain ⟨a1, a2, -⟩ := h1 wr hb.out
      obtain ⟨b1, b2, -⟩ := h2 wr hb.out
      have q1 : ∀ n, (convert 22 9 (.slice ad1 (F.getD c (0, [])).2.length cap1)).run Tryd.prog (wr.drewN n) = .ok (.string (strOfNums (F.getD c (0, [])).2)) (wr.drewN n) := fun n => conv_bys (h1 _ (hb.out.trans ((sbelow_drewN wr n).mono hb.out.size))).2.2 _
      have q2 : ∀ n, (convert 22 9 (.slice ad2 (F.getD c (0, [])).2.length cap2)).run Tryd.prog (wr.drewN n) = .ok (.string (strOfNums (F.getD c (0, [])).2)) (wr.drewN n) := fun n => conv_bys (h2 _ (hb.out.trans ((sbelow_drewN wr n).mono hb.out.size))).2.2 _
      have HB : Hid (∀ n, Below w.heap.size w (wr.drewN n)) := hid fun n => hb.out.trans ((sbelow_drewN wr n).mono hb.out.size)
      clear h1 h2 hb
      generalize strOfNums (F.getD c (0, [])).2 = st at *
      generalize (F.getD c (0, [])).2.length = fl at *
      generalize (F.getD c (0, [])).1 = fk at *
      go_wp2
      go_quiet (fail)
      go_wp2
      go_roundg (n - (c + 1))
      case measure => omega
      case rel => exact ⟨c + 1, by omega, rfl, by go_num, hid (HB.out _)⟩
    · obtain rfl : c = n := by omega
      go_wp2
      go_ret
      exact ⟨rfl, hb.out⟩
end
end Go.Proofs.YtkpjdjenlmodnaaDoor
