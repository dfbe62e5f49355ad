/-
  The law PrimeLists at every input.
-/
import Derived.Test.YteaebljfcidejaaDoorFlist
namespace Go.Proofs.YteaebljfcidejaaDoor
open Go.RowKit Go.Lib

/-- A row of one's own, element by element (nil too). -/
theorem row_open {W : World} {b : Nat} {e : TypeId} {v : Value} {n : Nat} {xs : List Value} (h : W.ownsRow b e 1 v n xs) : ∃ ad cap, v = .slice ad n cap ∧ ∀ j, j < n → ∃ g, ad = some ⟨g, 0, none⟩ ∧ W.cell? ⟨g, j, none⟩ = xs[j]? := by
  have hh := h
  rcases h.2 with ⟨rfl, rfl⟩ | ⟨g, cap, cur, rfl, _⟩
  · exact ⟨none, 0, rfl, fun j hj => by omega⟩
  · exact ⟨some ⟨g, 0, none⟩, cap, rfl, fun j hj => ⟨g, rfl, hh.cellAt j (by omega)⟩⟩

set_option maxHeartbeats 4000000 in
theorem llists_low (most : Int) (hm : most ≤ 10000) (w : World) (u : TypeId) (pv : Value) (hE : w.cell? ⟨0, 0, none⟩ = some (.iface u pv)) :
    Calls Tryd.prog 4 #[.int .i64 most] w fun e w' => e = .returned (.bool true) ∧ Below w.heap.size w w' := by
  have HA := hid (palive_any w u pv hE)
  have HL := hid (list_any most)
  have HI := hid ris_any
  obtain ⟨K, hK⟩ : ∃ K : Nat, (min most 10000 + 1 - 2).toNat = K := ⟨_, rfl⟩
  have HP : Hid (listOf most = pls 2 K) := hid (by unfold listOf; rw [hK])
  have HT : Hid (∀ j : Nat, j ≤ K → ((2 + (j : Int) ≤ most → j < K) ∧ (most < 2 + (j : Int) → j = K))) := hid fun j hj => by omega
  have HL2 : Hid ((pls 2 K).length ≤ 10000) := hid (Nat.le_trans (pls_length 2 K) (by omega))
  clear hK
  go_enter Tryd.func4, Tryd.ntmps4
  go_wp2_with fail
  refine HA.out.mono ?_
  rintro e w1 ⟨rfl, hb1⟩
  have B1 := hid hb1
  clear hb1
  go_wp2_with fail
  refine (HL.out _).mono ?_
  rintro e W ⟨v, rfl, hrow, hb2⟩
  have B2 := hid (bel2 B1.out hb2)
  clear hb2
  obtain ⟨ad, cap, rfl, hc⟩ := row_open hrow
  rw [HP.out] at hc ⊢
  have HC : Hid (∀ j, j < K → isP (2 + j) = true → ∃ g, ad = some ⟨g, 0, none⟩ ∧ (pls 2 j).length < (pls 2 K).length ∧ W.cell? ⟨g, (pls 2 j).length, none⟩ = some (.int .i64 (2 + j))) := hid fun j hj hp => by
    have h1 := pls_length_lt (a := 2) hj hp
    obtain ⟨g, h2, h3⟩ := hc _ h1
    refine ⟨g, h2, h1, ?_⟩
    rw [h3, List.getElem?_map, pls_at hj hp]
    rfl
  clear hc hrow
  obtain ⟨L, hL⟩ : ∃ L : Nat, (pls 2 K).length = L := ⟨_, rfl⟩
  rw [hL] at HC ⊢
  have HL3 : Hid (L = (pls 2 K).length ∧ L ≤ 10000) := hid ⟨hL.symm, by rw [← hL]; exact HL2.out⟩
  have hL4 := HL3.out.2
  clear hL HL2
  go_wp2
  go_loop [5, 6] (fun c i => ∃ j : Nat, ∃ k : Int, ∃ n : Nat, Hid (k = 2 + (j : Int) ∧ j ≤ K ∧ n = (pls 2 j).length) ∧ n ≤ 10000 ∧ 2 ≤ k ∧ k ≤ 10001 ∧ c = .int .i64 n ∧ i = .int .i64 k) (fun _ i => (10002 - intOf i).toNat)
  case atStart => exact ⟨0, 2, 0, hid ⟨rfl, Nat.zero_le _, rfl⟩, by omega, by omega, by omega, rfl, rfl⟩
  case round =>
    obtain ⟨j, k, n, HJ, hn, hk1, hk2, rfl, rfl⟩ := hrel
    by_cases hlt : k ≤ most
    · have hjK : j < K := ((HT.out j HJ.out.2.1).1 (by rw [← HJ.out.1]; exact hlt))
      have HQ := hid (HI.out k)
      cases hp : isP k with
      | false =>
        rw [hp] at HQ
        go_wp2_with fail
        refine (HQ.out _).mono ?_
        rintro e w3 ⟨rfl, rfl⟩
        go_wp2
        go_round
        case rel => exact ⟨j + 1, k + 1, n, hid ⟨by have := HJ.out.1; omega, hjK, by rw [pls_no (by rw [← HJ.out.1]; exact hp)]; exact HJ.out.2.2⟩, by omega, by omega, by omega, rfl, rfl⟩
        case measure => simp [intOf]; omega
      | true =>
        rw [hp] at HQ
        obtain ⟨g, rfl, h1, h2⟩ := HC.out j hjK (by rw [← HJ.out.1]; exact hp)
        rw [← HJ.out.1, ← HJ.out.2.2] at h2
        rw [← HJ.out.2.2] at h1
        go_wp2_with fail
        refine (HQ.out _).mono ?_
        rintro e w3 ⟨rfl, rfl⟩
        go_wp2
        go_round
        case rel => exact ⟨j + 1, k + 1, n + 1, hid ⟨by have := HJ.out.1; omega, hjK, by rw [pls_yes (by rw [← HJ.out.1]; exact hp), List.length_append, List.length_singleton, ← HJ.out.2.2]⟩, by omega, by omega, by omega, by first | rfl | go_num, rfl⟩
        case measure => simp [intOf]; omega
    · have hjK : j = K := ((HT.out j HJ.out.2.1).2 (by rw [← HJ.out.1]; omega))
      have hnL : n = L := by rw [HL3.out.1, HJ.out.2.2, hjK]
      clear hjK
      subst hnL
      go_wp2
      go_ret
      exact ⟨ret_b rfl (by simp), B2.out⟩

set_option maxHeartbeats 4000000 in
theorem llists_high (most : Int) (hm : 10000 < most) (w : World) (u : TypeId) (pv : Value) (hE : w.cell? ⟨0, 0, none⟩ = some (.iface u pv)) :
    Calls Tryd.prog 4 #[.int .i64 most] w fun e w' => e = .returned (.bool true) ∧ Below w.heap.size w w' := by
  have HA := hid (palive_any w u pv hE)
  have HL := hid (list_any most)
  have HI := hid ris_any
  obtain ⟨K, hK⟩ : ∃ K : Nat, (min most 10000 + 1 - 2).toNat = K := ⟨_, rfl⟩
  have HP : Hid (listOf most = pls 2 K) := hid (by unfold listOf; rw [hK])
  have HT : Hid (∀ j : Nat, j ≤ K → ((2 + (j : Int) ≤ 10000 → j < K) ∧ (10000 < 2 + (j : Int) → j = K))) := hid fun j hj => by omega
  have HL2 : Hid ((pls 2 K).length ≤ 10000) := hid (Nat.le_trans (pls_length 2 K) (by omega))
  clear hK
  go_enter Tryd.func4, Tryd.ntmps4
  go_wp2_with fail
  refine HA.out.mono ?_
  rintro e w1 ⟨rfl, hb1⟩
  have B1 := hid hb1
  clear hb1
  go_wp2_with fail
  refine (HL.out _).mono ?_
  rintro e W ⟨v, rfl, hrow, hb2⟩
  have B2 := hid (bel2 B1.out hb2)
  clear hb2
  obtain ⟨ad, cap, rfl, hc⟩ := row_open hrow
  rw [HP.out] at hc ⊢
  have HC : Hid (∀ j, j < K → isP (2 + j) = true → ∃ g, ad = some ⟨g, 0, none⟩ ∧ (pls 2 j).length < (pls 2 K).length ∧ W.cell? ⟨g, (pls 2 j).length, none⟩ = some (.int .i64 (2 + j))) := hid fun j hj hp => by
    have h1 := pls_length_lt (a := 2) hj hp
    obtain ⟨g, h2, h3⟩ := hc _ h1
    refine ⟨g, h2, h1, ?_⟩
    rw [h3, List.getElem?_map, pls_at hj hp]
    rfl
  clear hc hrow
  obtain ⟨L, hL⟩ : ∃ L : Nat, (pls 2 K).length = L := ⟨_, rfl⟩
  rw [hL] at HC ⊢
  have HL3 : Hid (L = (pls 2 K).length ∧ L ≤ 10000) := hid ⟨hL.symm, by rw [← hL]; exact HL2.out⟩
  have hL4 := HL3.out.2
  clear hL HL2
  go_wp2
  go_loop [5, 6] (fun c i => ∃ j : Nat, ∃ k : Int, ∃ n : Nat, Hid (k = 2 + (j : Int) ∧ j ≤ K ∧ n = (pls 2 j).length) ∧ n ≤ 10000 ∧ 2 ≤ k ∧ k ≤ 10001 ∧ c = .int .i64 n ∧ i = .int .i64 k) (fun _ i => (10002 - intOf i).toNat)
  case atStart => exact ⟨0, 2, 0, hid ⟨rfl, Nat.zero_le _, rfl⟩, by omega, by omega, by omega, rfl, rfl⟩
  case round =>
    obtain ⟨j, k, n, HJ, hn, hk1, hk2, rfl, rfl⟩ := hrel
    by_cases hlt : k ≤ 10000
    · have hjK : j < K := ((HT.out j HJ.out.2.1).1 (by rw [← HJ.out.1]; exact hlt))
      have HQ := hid (HI.out k)
      cases hp : isP k with
      | false =>
        rw [hp] at HQ
        go_wp2_with fail
        refine (HQ.out _).mono ?_
        rintro e w3 ⟨rfl, rfl⟩
        go_wp2
        go_round
        case rel => exact ⟨j + 1, k + 1, n, hid ⟨by have := HJ.out.1; omega, hjK, by rw [pls_no (by rw [← HJ.out.1]; exact hp)]; exact HJ.out.2.2⟩, by omega, by omega, by omega, rfl, rfl⟩
        case measure => simp [intOf]; omega
      | true =>
        rw [hp] at HQ
        obtain ⟨g, rfl, h1, h2⟩ := HC.out j hjK (by rw [← HJ.out.1]; exact hp)
        rw [← HJ.out.1, ← HJ.out.2.2] at h2
        rw [← HJ.out.2.2] at h1
        go_wp2_with fail
        refine (HQ.out _).mono ?_
        rintro e w3 ⟨rfl, rfl⟩
        go_wp2
        go_round
        case rel => exact ⟨j + 1, k + 1, n + 1, hid ⟨by have := HJ.out.1; omega, hjK, by rw [pls_yes (by rw [← HJ.out.1]; exact hp), List.length_append, List.length_singleton, ← HJ.out.2.2]⟩, by omega, by omega, by omega, by first | rfl | go_num, rfl⟩
        case measure => simp [intOf]; omega
    · have hjK : j = K := ((HT.out j HJ.out.2.1).2 (by rw [← HJ.out.1]; omega))
      have hnL : n = L := by rw [HL3.out.1, HJ.out.2.2, hjK]
      clear hjK
      subst hnL
      go_wp2
      go_ret
      exact ⟨ret_b rfl (by simp), B2.out⟩


theorem llists_any (most : Int) (w : World) (u : TypeId) (pv : Value) (hE : w.cell? ⟨0, 0, none⟩ = some (.iface u pv)) :
    Calls Tryd.prog 4 #[.int .i64 most] w fun e w' => e = .returned (.bool true) ∧ Below w.heap.size w w' := by
  by_cases h : most ≤ 10000
  · exact llists_low most h w u pv hE
  · exact llists_high most (by omega) w u pv hE
end Go.Proofs.YteaebljfcidejaaDoor
