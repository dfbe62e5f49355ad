/-
  Sums: the document's Changed of two lists of one length.
-/
import Derived.Test.YtnlhdeffoalhiaaSchk
import Derived.Test.YtnlhdeffoalhiaaSpch
namespace Go.Proofs.Ytnlhdeffoalhiaa
open Go.RowKit Go.Lib

set_option maxHeartbeats 2000000 in
theorem pair_any (ad : Option Addr) (cap : Nat) (bs : List Int) (hby : Byt bs) (hm : bs.length ≤ 1000000) (p : Nat) (hp : p < bs.length) (w : World) (hI : Bys w.heap.size w ad bs) :
    Calls Try.prog 24 #[.slice ad bs.length cap, .int .i64 p] w fun e w' => e = .returned (.int .i64 (wordAt bs p)) ∧ w = w' := by
  obtain ⟨g, o, rfl, _, hc⟩ := hI p hp
  have hx := hby p
  have hy := hby (p + 1)
  have HW : Hid (bs.getD p 0 * 256 + bs.getD (p + 1) 0 = wordAt bs p) := hid rfl
  by_cases h1 : p + 1 < bs.length
  · obtain ⟨g', o', e, _, hc1⟩ := hI (p + 1) h1
    cases e
    generalize bs.getD p 0 = x at *
    generalize bs.getD (p + 1) 0 = y at *
    generalize wordAt bs p = z at HW
    clear hI hby
    generalize bs.length = len at *
    have d1 : decide ((p : Int) + 1 < (len : Int)) = true := by simp; omega
    go_enter Try.func24, Try.ntmps24
    go_wp2
    go_ret
    exact ⟨ret_i rfl HW.out, rfl⟩
  · have h0 : bs.getD (p + 1) 0 = 0 := by rw [List.getD, List.getElem?_eq_none (by omega)]; rfl
    rw [h0] at HW
    generalize bs.getD p 0 = x at *
    generalize wordAt bs p = z at HW
    clear hI hby hy h0
    generalize bs.length = len at *
    have d1 : decide ((p : Int) + 1 < (len : Int)) = false := by simp; omega
    go_enter Try.func24, Try.ntmps24
    go_wp2
    go_ret
    exact ⟨ret_i rfl (by have := HW.out; omega), rfl⟩

set_option maxRecDepth 100000 in
set_option maxHeartbeats 2000000 in
theorem rchanged_any (c0 : Int) (hc0 : 0 ≤ c0 ∧ c0 ≤ 65535) (capw capn : Nat) (adw adn : Option Addr) (bs ns : List Int) (hbs : Byt bs) (hns : Byt ns) (hm : bs.length ≤ 1000000) (he : ns.length = bs.length) (w : World) (hIw : Bys w.heap.size w adw bs) (hIn : Bys w.heap.size w adn ns) :
    Calls Try.prog 20 #[.int .i64 c0, .slice adw bs.length capw, .slice adn ns.length capn] w fun e w' => e = .returned (.int .i64 (changes c0 (pairs bs ns (nw bs.length)))) ∧ w = w' := by
  have HL0 := low_any c0 w
  rw [show c0 % 65536 = c0 by omega] at HL0
  have HL := hid HL0
  have HP := hid (fun p (hp : p < bs.length) => pair_any adw capw bs hbs hm p hp w hIw)
  have HQ0 := fun p (hp : p < ns.length) => pair_any adn capn ns hns (by omega) p hp w hIn
  rw [he] at HQ0 ⊢
  have HQ := hid HQ0
  have HC := hid (fun c x y => rchange_any c x y w)
  clear hIw hIn hbs hns he HL0 HQ0
  obtain ⟨len, hlen⟩ : ∃ len, bs.length = len := ⟨_, rfl⟩
  rw [hlen] at hm HP HQ ⊢
  clear hlen
  have HN : Hid (nw len = (len + 1) / 2) := hid rfl
  go_enter Try.func20, Try.ntmps20
  go_wp2_with fail
  refine HL.out.mono ?_
  rintro e w' ⟨rfl, h⟩
  subst h
  go_wp2
  go_loop [7, 8] (fun c i => ∃ k p : Nat, Hid (p = 2 * k ∧ k ≤ (len + 1) / 2) ∧ p ≤ len + 1 ∧ i = .int .i64 p ∧ ∃ T : Int, Hid (T = changes c0 (pairs bs ns k)) ∧ c = .int .i64 T) (fun _ i => len + 1 - (intOf i).toNat)
  case atStart => exact ⟨0, 0, hid ⟨rfl, by omega⟩, by omega, rfl, c0, hid rfl, rfl⟩
  case round =>
    obtain ⟨k, p, HK, hp1, rfl, T, HT, rfl⟩ := hrel
    by_cases hlt : p < len
    · have HA := hid (HP.out p hlt)
      have HB := hid (HQ.out p hlt)
      obtain ⟨x, hx⟩ : ∃ x, wordAt bs p = x := ⟨_, rfl⟩
      obtain ⟨y, hy⟩ : ∃ y, wordAt ns p = y := ⟨_, rfl⟩
      have HE : Hid (change T x y = changes c0 (pairs bs ns (k + 1))) := hid (by rw [pairs_succ, changes_snoc, HT.out, ← HK.out.1, hx, hy])
      rw [hx] at HA
      rw [hy] at HB
      have HCc := hid (HC.out T x y)
      clear hx hy
      generalize change T x y = C at HE HCc
      go_wp2_with fail
      refine HA.out.mono ?_
      rintro e w' ⟨rfl, h⟩
      subst h
      go_wp2_with fail
      refine HB.out.mono ?_
      rintro e w' ⟨rfl, h⟩
      subst h
      go_wp2_with fail
      refine HCc.out.mono ?_
      rintro e w' ⟨rfl, h⟩
      subst h
      go_wp2
      go_round
      case rel => exact ⟨k + 1, p + 2, hid (by have := HK.out; omega), by omega, by go_num, _, hid HE.out, rfl⟩
      case measure => simp [intOf]; omega
    · have HE : Hid (T = changes c0 (pairs bs ns (nw len))) := hid (by rw [HT.out, HN.out]; congr 2; have := HK.out; omega)
      go_wp2
      go_ret
      exact ⟨ret_i rfl HE.out, rfl⟩
end Go.Proofs.Ytnlhdeffoalhiaa
