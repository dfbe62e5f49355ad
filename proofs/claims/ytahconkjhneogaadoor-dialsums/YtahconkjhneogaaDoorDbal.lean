/-
  dial: the balance of one backend.
-/
import Derived.Test.YtahconkjhneogaaDoorDqua
import Derived.Laws.ComplexArith
import Derived.Deep.LoopGhost
namespace Go.Proofs.YtahconkjhneogaaDoor
open Go.RowKit Go.Lib

/-- Whole numbers in memory. -/
def IntsIn (n₀ : Nat) (W : World) (ad : Option Addr) (L : List Int) : Prop := ∀ j, j < L.length → ∃ g o, ad = some ⟨g, o, none⟩ ∧ g < n₀ ∧ W.cell? ⟨g, o + j, none⟩ = some (.int .i64 (L.getD j 0))
theorem IntsIn.below {n₀ : Nat} {A B : World} (h : Below n₀ A B) {ad : Option Addr} {L : List Int} (hb : IntsIn n₀ A ad L) : IntsIn n₀ B ad L := fun j hj => by
  obtain ⟨g, o, e, hg, hc⟩ := hb j hj
  exact ⟨g, o, e, hg, (h.cell (p := ⟨g, o + j, none⟩) hg).trans hc⟩
theorem IntsIn.mono {n₀ n₁ : Nat} {A : World} {ad : Option Addr} {L : List Int} (hb : IntsIn n₀ A ad L) (h : n₀ ≤ n₁) : IntsIn n₁ A ad L := fun j hj => by
  obtain ⟨g, o, e, hg, hc⟩ := hb j hj
  exact ⟨g, o, e, Nat.lt_of_lt_of_le hg h, hc⟩
theorem IntsIn.kept {A B : World} {ad : Option Addr} {L : List Int} (hb : IntsIn A.heap.size A ad L) (h : Below A.heap.size A B) : IntsIn B.heap.size B ad L := (hb.below h).mono h.size

/-- The sum over the first k places that are who's. -/
def balr (xs : List Int) (who : Int) : Nat → Int
  | 0 => 0
  | k + 1 => balr xs who k + (if xs.getD k 0 = who then qr k else 0)
def bali (xs : List Int) (who : Int) : Nat → Int
  | 0 => 0
  | k + 1 => bali xs who k + (if xs.getD k 0 = who then qi k else 0)
theorem qr_small (k : Nat) : (qr k).natAbs ≤ 1 := by unfold qr; split; · decide
                                                     · split <;> decide
theorem qi_small (k : Nat) : (qi k).natAbs ≤ 1 := by unfold qi; split; · decide
                                                     · split <;> decide
theorem balr_small (xs : List Int) (who : Int) : ∀ k, (balr xs who k).natAbs ≤ k
  | 0 => by simp [balr]
  | k + 1 => by
    have := balr_small xs who k
    have := qr_small k
    unfold balr
    split <;> omega
theorem bali_small (xs : List Int) (who : Int) : ∀ k, (bali xs who k).natAbs ≤ k
  | 0 => by simp [bali]
  | k + 1 => by
    have := bali_small xs who k
    have := qi_small k
    unfold bali
    split <;> omega

theorem exec_cadd {P : Program} {a : Act} {w : World} {o : Oper} (t t' : TypeId) (x y : Operand) (ho : o.op = .binOp .add t x y t') (p q r s u v : Nat) (hx : a.eval x = .complex .f64 p q) (hy : a.eval y = .complex .f64 r s)
    (h : cSumBits .add .f64 p q r s = some (u, v)) : (execOp a.eval o).run P w = .ok (.value (.complex .f64 u v)) w := by
  unfold execOp
  simp only [ho, hx, hy, eqGuard, Sem.run_bind, Sem.run_pure, Result.andThen_ok, run_complex_sum w .add (.inl rfl) _ .f64 p q r s u v h, Bool.not_false, if_true]
theorem cadd (a b c d : Int) (h1 : a.natAbs ≤ 1000000) (h2 : b.natAbs ≤ 1000000) (h3 : c.natAbs ≤ 1000000) (h4 : d.natAbs ≤ 1000000) : cSumBits .add .f64 (fi a) (fi b) (fi c) (fi d) = some (fi (a + c), fi (b + d)) := by
  have p : (1000000 : Nat) + 1000000 < 2 ^ 53 := by decide
  unfold cSumBits floatBits
  simp only [FloatKind.format, fi_add a c (by omega) (by omega) (by omega), fi_add b d (by omega) (by omega) (by omega), Option.bind_some]

set_option linter.unusedSimpArgs false in
set_option maxRecDepth 100000 in
set_option maxHeartbeats 4000000 in
theorem balance_any (ad : Option Addr) (cap : Nat) (xs : List Int) (who : Int) (hx : xs.length ≤ 1000) (w : World) (hX : IntsIn w.heap.size w ad xs) :
    Calls Tryd.prog 10 #[.slice ad xs.length cap, .int .i64 who] w fun e w' => e = .returned (cx (balr xs who xs.length) (bali xs who xs.length)) ∧ Below w.heap.size w w' := by
  have HX := hid hX
  have HQ := hid (fun k (h : k ≤ 1000) W => quarter_any k (by omega) W)
  have HA := hid (fun k (h : k ≤ 1000) => cadd (balr xs who k) (bali xs who k) (qr k) (qi k) (by have := balr_small xs who k; omega) (by have := bali_small xs who k; omega) (by have := qr_small k; omega) (by have := qi_small k; omega))
  obtain ⟨n, hn⟩ : ∃ n, n = xs.length := ⟨_, rfl⟩
  rw [← hn] at hx ⊢
  have HN := hid hn.symm
  have H0 : Hid ((.complex .f64 0 0 : Value) = cx (balr xs who 0) (bali xs who 0)) := hid (by unfold cx balr bali; rw [fi_zero])
  clear hX hn
  go_enter Tryd.func10, Tryd.ntmps10
  go_wp2
  go_loopg [5, 10] n (fun g s i wr => ∃ p : Nat, i = .int .i64 (p : Int) ∧ p ≤ n ∧ n - p ≤ g ∧ s = cx (balr xs who p) (bali xs who p) ∧ Hid (Below w.heap.size w wr))
  case atStart => exact ⟨0, rfl, by omega, by omega, H0.out, hid (Below.refl _ _)⟩
  case round =>
    obtain ⟨p, rfl, hp, hgp, rfl, HB⟩ := hrel
    by_cases hlt : p < n
    · obtain ⟨g, o, rfl, hg, hc⟩ := HX.out p (by have := HN.out; omega)
      have d0 : wr.cell? ⟨g, o + p, none⟩ = some (.int .i64 (xs.getD p 0)) := by rw [← hc]; exact HB.out.cell (p := ⟨g, o + p, none⟩) hg
      have HS := (show balr xs who (p + 1) = balr xs who p + (if xs.getD p 0 = who then qr p else 0) from rfl)
      have HT := (show bali xs who (p + 1) = bali xs who p + (if xs.getD p 0 = who then qi p else 0) from rfl)
      have HAp := hid (HA.out p (by omega))
      have HQp := hid (HQ.out p (by omega) wr)
      have HEy : Hid (xs.getD p 0 = who → cx (balr xs who p + qr p) (bali xs who p + qi p) = cx (balr xs who (p + 1)) (bali xs who (p + 1))) := hid (fun h => by rw [HS, HT, if_pos h, if_pos h])
      have HEn : Hid (xs.getD p 0 ≠ who → cx (balr xs who p) (bali xs who p) = cx (balr xs who (p + 1)) (bali xs who (p + 1))) := hid (fun h => by rw [HS, HT, if_neg h, if_neg h, Int.add_zero, Int.add_zero])
      clear HS HT
      generalize balr xs who p = a at *
      generalize bali xs who p = b at *
      generalize xs.getD p 0 = x at *
      clear hc hg
      by_cases hxw : x = who
      · subst hxw
        go_wp2_with fail
        refine HQp.out.mono ?_
        rintro e w2 ⟨rfl, hb⟩
        have HB2 := hid (bel2 HB.out hb)
        clear hb
        go_wp2_with (refine wpl_run (cx (a + qr p) (b + qi p)) _ (exec_cadd 33 33 (.tmp 18) (.tmp 20) rfl _ _ _ _ _ _ rfl rfl HAp.out) rfl ?_)
        go_roundg (n - (p + 1))
        case measure => omega
        case rel => exact ⟨p + 1, by go_num, by omega, Nat.le_refl _, by first | exact HEy.out trivial | exact HEy.out rfl, HB2⟩
      · clear HQp HAp
        go_wp2
        go_roundg (n - (p + 1))
        case measure => omega
        case rel => exact ⟨p + 1, by go_num, by omega, Nat.le_refl _, HEn.out hxw, HB⟩
    · obtain rfl : p = n := by omega
      go_wp2
      go_ret
      exact ⟨rfl, HB.out⟩
end Go.Proofs.YtahconkjhneogaaDoor
