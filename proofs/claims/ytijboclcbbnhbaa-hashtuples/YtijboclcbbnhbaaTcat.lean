/-
  slices.Grow and slices.Concat of bytes.
-/
import Derived.Test.YtijboclcbbnhbaaHapp
import Derived.Test.YtijboclcbbnhbaaSadr
import Derived.Lib.AppendZeros
namespace Go.Proofs.Ytijboclcbbnhbaa
open Go.RowKit Go.Lib

def GrownEnd (w : World) (e : Ending) (w' : World) : Prop := ∃ v, e = .returned v ∧ w'.ownsRow w.heap.size 5 1 v 0 [] ∧ Below w.heap.size w w'

set_option maxHeartbeats 1000000 in
theorem grow_any (n : Nat) (h0 : 0 < n) (h1 : n ≤ 100000) (w : World) : Calls Try.prog 12 #[.slice none 0 0, .int .i64 n] w (GrownEnd w) := by
  obtain ⟨i0, hi, hz0, hz1, hz2⟩ := info_parts Try.infoByteS
  have hr := fun ty => Lib.run_append_nil_zeros (P := Try.prog) w 29 3 ty 5 i0 (.int .u8 0) .i64 .i64 Try.underlying29 Try.underlying3 hi hz0 n h0 (by omega) (by omega) (by rw [hz2]; omega)
  have hcap := grownCap_le_maxLen w n 0 5 (by unfold maxLen; omega)
  have hge := grownCap_ge w n 0 5
  obtain ⟨cap, hcp⟩ : ∃ cap, grownCap w n 0 5 = cap := ⟨_, rfl⟩
  rw [hcp] at hr hcap hge
  obtain ⟨W, hW⟩ : ∃ W, w.drew.alloc (.cells (Builtin.zeroCells (Value.int .u8 0).cells n ++ Builtin.zeroCells (Value.int .u8 0).cells (cap - n)) 5) = W := ⟨_, rfl⟩
  have HR : Hid (∀ ty, (Builtin.append_ #[29, 3] ty #[.slice none 0 0, .int .i64 n]).run Try.prog w = .ok (.slice (some ⟨w.heap.size, 0, none⟩) n cap) W) := hid (fun ty => by rw [hr ty, hW])
  have F : Hid (GrownEnd w (.returned (.slice (some ⟨w.heap.size, 0, none⟩) 0 cap)) W) := hid (by
    refine ⟨_, rfl, ⟨rfl, .inr ⟨w.heap.size, cap, _, rfl, Nat.le_refl _, by rw [← hW]; exact heap_alloc_last w.drew _, Nat.zero_le _, hcap, ?_, ?_⟩⟩, ?_⟩
    · rw [Array.size_append, size_zeroCells, size_zeroCells]
      simp [Value.cells]
      omega
    · rw [Nat.zero_mul, List.take_zero]
    · rw [← hW]
      exact (Below.refl _ _).drew.alloc (Nat.le_refl _) _)
  clear hr hW hcp hi hz0 hz1 hz2
  go_enter Try.func12, Try.ntmps12
  go_wp2_with ((show wpList _ _ _ (⟨some 22, _, _, _, _, _⟩ :: _) _ _); go_must (refine Lib.wpList_append_run _ rfl _ _ _ _ rfl _ _ rfl rfl _ _ (HR.out _) ?_))
  go_ret
  exact F.out

/-- A part: where it begins, its room, its bytes. -/
abbrev Part := Option Addr × Nat × List Int
def partV (p : Part) : Value := .slice p.1 p.2.2.length p.2.1
def psum : List Part → Nat
  | [] => 0
  | p :: ps => p.2.2.length + psum ps
def pcat : List Part → List Int
  | [] => []
  | p :: ps => p.2.2 ++ pcat ps
theorem pcat_length : ∀ ps : List Part, (pcat ps).length = psum ps
  | [] => rfl
  | p :: ps => by rw [pcat, psum, List.length_append, pcat_length ps]
theorem psum_snoc (p : Part) : ∀ ps : List Part, psum (ps ++ [p]) = psum ps + p.2.2.length
  | [] => by simp [psum]
  | q :: ps => by rw [List.cons_append, psum, psum, psum_snoc p ps]; omega
theorem pcat_snoc (p : Part) : ∀ ps : List Part, pcat (ps ++ [p]) = pcat ps ++ p.2.2
  | [] => by simp [pcat]
  | q :: ps => by rw [List.cons_append, pcat, pcat, pcat_snoc p ps, List.append_assoc]
theorem psum_take (ps : List Part) (k : Nat) (hk : k < ps.length) : psum (ps.take (k + 1)) = psum (ps.take k) + ps[k].2.2.length := by
  rw [List.take_succ_eq_append_getElem hk, psum_snoc]
theorem pcat_take (ps : List Part) (k : Nat) (hk : k < ps.length) : pcat (ps.take (k + 1)) = pcat (ps.take k) ++ ps[k].2.2 := by
  rw [List.take_succ_eq_append_getElem hk, pcat_snoc]
theorem psum_le (ps : List Part) : ∀ k, psum (ps.take k) ≤ psum ps := by
  induction ps with
  | nil => intro k; simp [psum]
  | cons p ps ih =>
    intro k
    cases k with
    | zero => simp [psum]
    | succ k => rw [List.take_succ_cons, psum, psum]; have := ih k; omega

set_option maxRecDepth 100000 in
set_option maxHeartbeats 4000000 in
theorem concat_any (G : Nat) (ps : List Part) (n₀ : Nat) (h0 : 0 < psum ps) (h1 : psum ps ≤ 100000) (hm : ps.length ≤ 100) (w : World) (hn₀ : n₀ ≤ w.heap.size) (hG : G < w.heap.size) (hc : ∀ k (hk : k < ps.length), w.cell? ⟨G, k, none⟩ = some (partV ps[k]))
    (hb : ∀ p ∈ ps, Bys n₀ w p.1 p.2.2 ∧ (p.1 = none → p.2.2.length = 0 ∧ p.2.1 = 0)) :
    Calls Try.prog 8 #[.slice (some ⟨G, 0, none⟩) ps.length ps.length] w (OwnEnd (pcat ps) w) := by
  obtain ⟨m, hlm⟩ : ∃ m, ps.length = m := ⟨_, rfl⟩
  have HC : Hid (∀ k, k < m → ∃ p ∈ ps, w.cell? ⟨G, k, none⟩ = some (.slice p.1 p.2.2.length p.2.1) ∧ psum (ps.take (k + 1)) = psum (ps.take k) + p.2.2.length ∧ pcat (ps.take (k + 1)) = pcat (ps.take k) ++ p.2.2) := hid fun k hk =>
    ⟨ps[k]'(by omega), List.getElem_mem _, hc k (by omega), psum_take ps k (by omega), pcat_take ps k (by omega)⟩
  have HB := hid hb
  have HT : Hid (psum (ps.take m) = psum ps ∧ pcat (ps.take m) = pcat ps) := hid (by rw [List.take_of_length_le (by omega)]; exact ⟨rfl, rfl⟩)
  have HLE := hid (psum_le ps)
  have HGr := hid (grow_any (psum ps) h0 (by omega) w)
  have HPL := hid (pcat_length ps)
  have H1 := hid h1
  rw [hlm] at hm ⊢
  clear hc hb hlm h0 h1
  obtain ⟨T, hT⟩ : ∃ T, psum ps = T := ⟨_, rfl⟩
  rw [hT] at HGr HT HLE HPL H1
  clear hT
  go_enter Try.func8, Try.ntmps8
  go_wp2
  go_loop [3, 11] (fun s t => ∃ k S : Nat, k ≤ m ∧ t = .int .i64 k ∧ Hid (S = psum (ps.take k)) ∧ S ≤ 100000 ∧ s = .int .i64 S) (fun _ t => m - (intOf t).toNat)
  case atStart => exact ⟨0, 0, by omega, rfl, hid rfl, by omega, rfl⟩
  case round =>
    obtain ⟨k, S, hk, rfl, HS, hS, rfl⟩ := hrel
    by_cases hlt : k < m
    · obtain ⟨p, hp, hc, he, _⟩ := HC.out k hlt
      have HS2 : Hid (S + p.2.2.length = psum (ps.take (k + 1))) := hid (by rw [he, HS.out])
      have hS2 : S + p.2.2.length ≤ 100000 := by rw [HS2.out]; exact Nat.le_trans (HLE.out _) H1.out
      clear he hp
      go_wp2
      go_round
      case rel => exact ⟨k + 1, S + p.2.2.length, by omega, by go_num, hid HS2.out, hS2, by go_num⟩
      case measure => simp [intOf]; omega
    · obtain rfl : k = m := by omega
      have hST : S = T := by rw [HS.out, HT.out.1]
      subst hST
      go_wp2_with fail
      refine HGr.out.mono ?_
      rintro e w1 ⟨v0, rfl, ho0, hb0⟩
      have HO0 := hid ho0
      have Hb0 := hid hb0
      clear ho0 hb0 HGr
      go_wp2
      go_loopw [6, 27] (fun v t wr => ∃ (j N : Nat) (V : Value), j ≤ k ∧ t = .int .i64 j ∧ V = v ∧ Hid (N = psum (ps.take j)) ∧ Hid (wr.ownsRow w.heap.size 5 1 V N ((pcat (ps.take j)).map (Value.int .u8))) ∧ Hid (Below w.heap.size w wr)) (fun _ t _ => k - (intOf t).toNat)
      case atStart => exact ⟨0, 0, _, by omega, rfl, rfl, hid rfl, hid HO0.out, hid Hb0.out⟩
      case round =>
        obtain ⟨j, N, V, hj, rfl, rfl, HN, HO, Hb⟩ := hrel
        by_cases hlt : j < k
        · obtain ⟨p, hp, hc, he, hcat⟩ := HC.out j hlt
          have hcr : wr.cell? ⟨G, j, none⟩ = some (.slice p.1 p.2.2.length p.2.1) := (Hb.out.cell (p := ⟨G, j, none⟩) hG).trans hc
          have HN2 : Hid (N + p.2.2.length = psum (ps.take (j + 1))) := hid (by rw [he, HN.out])
          have hN2 : N + p.2.2.length ≤ 100000 := by rw [HN2.out]; exact Nat.le_trans (HLE.out _) H1.out
          have HBp := hid (HB.out p hp)
          have Hcat := hid hcat
          clear he hp hc hcat
          go_wp2_with ((show wpList _ _ _ (⟨some 33, _, _, _, _, _⟩ :: _) _ _); go_must (refine wpl_app (.tmp 31) (.tmp 32) rfl w.heap.size _ N _ rfl HO.out p.1 p.2.2.length p.2.1 p.2.2 rfl rfl n₀ (HBp.out.1.below (Hb.out.mono hn₀)) HBp.out.2 (by omega) Hb.out.size rfl ?_; intro v2 w2 ho2 hg2))
          go_roundw
          case rel => exact ⟨j + 1, _, _, by omega, by go_num, rfl, hid HN2.out, hid (by rw [Hcat.out, List.map_append]; exact ho2), hid (Hb.out.grown hg2 Hb.out.size (by
            rcases HO.out.2 with ⟨rfl, _⟩ | ⟨g, cp, cr, rfl, hbg, _⟩
            · intro k e; cases e
            · intro k e; cases e; exact hbg))⟩
          case measure => simp [intOf]; omega
        · obtain rfl : j = k := by omega
          have F : Hid (OwnEnd (pcat ps) w (.returned V) wr) := hid ⟨_, rfl, by rw [HPL.out, ← HT.out.2]; have h := HO.out; rw [HN.out, HT.out.1] at h; exact h, Hb.out⟩
          go_wp2
          go_ret
          exact F.out
end Go.Proofs.Ytijboclcbbnhbaa
