/-
  stride: Place, When, All, the cursor; the document's All; linkboynum.SameInts; the example.
-/
import Derived.Test.YtpijdbajonddlaaDoorVstr
import Derived.Deep.OwnRows
import Derived.OwnWalk
import Derived.Laws.OwnMore
import Derived.Deep.DeepMust
namespace Go.Proofs.YtpijdbajonddlaaDoor
open Go.RowKit Go.Lib

/-- M numbers lie at the head of block g. -/
def NumAt (W : World) (g M : Nat) (f : Nat → Int) : Prop := g < W.heap.size ∧ ∀ j, j < M → W.cell? ⟨g, j, none⟩ = some (.int .i64 (f j))
theorem NumAt.kept {w w' : World} {g M : Nat} {f : Nat → Int} (h : NumAt w g M f) (hb : Below w.heap.size w w') : NumAt w' g M f :=
  ⟨Nat.lt_of_lt_of_le h.1 hb.size, fun j hj => (hb.cell (p := ⟨g, j, none⟩) h.1).trans (h.2 j hj)⟩
theorem NumAt.grown {w w' : World} {g M c : Nat} {f : Nat → Int} (h : NumAt w g M f) (hb : w.grownBy w' (some c)) (hne : g ≠ c) : NumAt w' g M f :=
  ⟨Nat.lt_of_lt_of_le h.1 hb.size, fun j hj => (World.cell?_of_block (a := ⟨g, j, none⟩) (hb.block g h.1 (fun e => hne (Option.some.inj e)))).trans (h.2 j hj)⟩

set_option maxHeartbeats 2000000 in
theorem place_no (m o k j : Int) (h : rightS m o k = false) (w : World) : Calls Tryd.prog 14 #[.agg #[.int .i64 m, .int .i64 o, .int .i64 k], .int .i64 j] w fun e w' => e = .returned (.int .i64 (-1)) ∧ Below w.heap.size w w' := by
  have HO := hid (fun W => order_no m o k h W)
  have HP := hid (fun W => placeno_any j W)
  have HB : Hid (Below w.heap.size w (w.alloc (.cells #[.int .i64 m, .int .i64 o, .int .i64 k] 25))) := hid ((Below.refl _ w).alloc (Nat.le_refl _) _)
  clear h
  go_enter Tryd.func14, Tryd.ntmps14
  go_wp2_with fail
  refine (HO.out _).mono ?_
  rintro e w1 ⟨rfl, hb⟩
  have Hb := hid (bel2 HB.out hb)
  clear hb
  go_wp2_with fail
  refine (HP.out _).mono ?_
  rintro e w2 ⟨rfl, rfl⟩
  go_wp2
  go_ret
  exact ⟨rfl, Hb.out⟩

set_option maxHeartbeats 2000000 in
theorem place_yes (m o k j : Int) (h : rightS m o k = true) (w : World) : Calls Tryd.prog 14 #[.agg #[.int .i64 m, .int .i64 o, .int .i64 k], .int .i64 j] w fun e w' => e = .returned (.int .i64 (plc m o k j)) ∧ Below w.heap.size w w' := by
  have HO := hid (fun W => order_yes m o k h W)
  have HP := hid (fun b W hB => placeyes_any m o k j h b W hB)
  have HB : Hid (Below w.heap.size w (w.alloc (.cells #[.int .i64 m, .int .i64 o, .int .i64 k] 25))) := hid ((Below.refl _ w).alloc (Nat.le_refl _) _)
  clear h
  generalize plc m o k j = z at *
  go_enter Tryd.func14, Tryd.ntmps14
  go_wp2_with fail
  refine (HO.out _).mono ?_
  rintro e w1 ⟨rfl, hB, hb⟩
  have Hb := hid (bel2 HB.out hb)
  rw [World.size_alloc] at hB
  have HB1 := hid hB
  clear hb hB
  go_wp2_with fail
  refine (HP.out _ _ HB1.out).mono ?_
  rintro e w2 ⟨rfl, hb⟩
  have Hb2 := hid (bel2 Hb.out hb)
  clear hb
  go_wp2
  go_ret
  exact ⟨rfl, Hb2.out⟩

set_option maxHeartbeats 4000000 in
theorem when_no (m o k p : Int) (h : rightS m o k = false ∨ p < 0 ∨ m ≤ p) (w : World) : Calls Tryd.prog 15 #[.agg #[.int .i64 m, .int .i64 o, .int .i64 k], .int .i64 p] w fun e w' => e = .returned (.int .i64 (-1)) ∧ Below w.heap.size w w' := by
  have HR := hid (fun W => right_any m o k W)
  have HN := hid (Blk.new w 25 #[.int .i64 m, .int .i64 o, .int .i64 k])
  have HB : Hid (Below w.heap.size w (w.alloc (.cells #[.int .i64 m, .int .i64 o, .int .i64 k] 25))) := hid ((Below.refl _ w).alloc (Nat.le_refl _) _)
  cases hr : rightS m o k with
  | false =>
    rw [hr] at HR
    clear h hr
    go_enter Tryd.func15, Tryd.ntmps15
    go_wp2_with fail
    refine (HR.out _).mono ?_
    rintro e w1 ⟨rfl, hb⟩
    have Hb := hid (bel2 HB.out hb)
    clear hb
    go_wp2
    go_ret
    exact ⟨rfl, Hb.out⟩
  | true =>
    rw [hr] at HR h
    have h' : p < 0 ∨ (¬ p < 0 ∧ m ≤ p) := by
      rcases h with h | h | h
      · cases h
      · exact .inl h
      · by_cases h0 : p < 0
        · exact .inl h0
        · exact .inr ⟨h0, h⟩
    clear h hr
    rcases h' with h | ⟨h0, h⟩
    all_goals
      go_enter Tryd.func15, Tryd.ntmps15
      go_wp2_with fail
      refine (HR.out _).mono ?_
      rintro e w1 ⟨rfl, hb⟩
      have Hb := hid (bel2 HB.out hb)
      have c0 : w1.cell? ⟨w.heap.size, 0, none⟩ = some (.int .i64 m) := (HN.out.kept hb).cell 0
      clear hb
      go_wp2
      go_ret
      exact ⟨rfl, Hb.out⟩

set_option maxHeartbeats 4000000 in
theorem when_yes (m o k p : Int) (h : rightS m o k = true) (hp0 : 0 ≤ p) (hp1 : p < m) (w : World) (u1 u2 : TypeId) (v1 v2 : Value) (h1 : w.cell? ⟨0, 0, none⟩ = some (.iface u1 v1)) (h2 : w.cell? ⟨10, 0, none⟩ = some (.iface u2 v2)) :
    Calls Tryd.prog 15 #[.agg #[.int .i64 m, .int .i64 o, .int .i64 k], .int .i64 p] w fun e w' => e = .returned (.int .i64 (whn m o k p)) ∧ Below w.heap.size w w' := by
  have HR := hid (fun W => h ▸ right_any m o k W)
  have HN := hid (Blk.new w 25 #[.int .i64 m, .int .i64 o, .int .i64 k])
  have HB : Hid (Below w.heap.size w (w.alloc (.cells #[.int .i64 m, .int .i64 o, .int .i64 k] 25))) := hid ((Below.refl _ w).alloc (Nat.le_refl _) _)
  obtain ⟨a1, a2, a3, a4, a5, a6⟩ := (rightS_iff m o k).1 h
  have hkm : k % m = k := Int.emod_eq_of_lt (by omega) a6
  obtain ⟨_, i1, i2⟩ := pwr_inverse k a2 (by omega)
  have HV : Hid (∀ W, Below w.heap.size w W → Calls Tryd.prog 28 #[.int .i64 k, .int .i64 m] W fun e w' => e = .returned (.tuple #[.int .i64 (pwr k (m.toNat - 2) m), .nilIface]) ∧ Below W.heap.size W w') := hid fun W hb => by
    have := inverse_any k m W u1 u2 v1 v2 (cell_stays h1 hb) (cell_stays h2 hb)
    rwa [show inverseOf k m (.iface u1 v1) (.iface u2 v2) = .tuple #[.int .i64 (pwr k (m.toNat - 2) m), .nilIface] by unfold inverseOf; rw [a2, if_pos rfl, if_neg (by omega)]] at this
  have HE : Hid ((p - o) * pwr k (m.toNat - 2) m % m = whn m o k p) := hid rfl
  generalize pwr k (m.toNat - 2) m = i at *
  generalize whn m o k p = z at *
  have hq : -63001 ≤ (p - o) * i ∧ (p - o) * i ≤ 63001 := by
    by_cases hs : 0 ≤ p - o
    · have := mul_small (x := p - o) (y := i) ⟨hs, by omega⟩ ⟨by omega, by omega⟩
      omega
    · have := mul_small (x := o - p) (y := i) ⟨by omega, by omega⟩ ⟨by omega, by omega⟩
      rw [show p - o = -(o - p) by omega, Int.neg_mul]
      omega
  have HS := hid (fun W => srest_any ((p - o) * i) m (by omega) (by omega) W)
  rw [HE.out] at HS
  have e1 : IntKind.i64.wrap (p - o) = p - o := IntWalk.i64_in _ (by omega)
  have e2 : IntKind.i64.wrap ((p - o) * i) = (p - o) * i := IntWalk.i64_in _ (by omega)
  clear hkm a2 h h1 h2
  go_enter Tryd.func15, Tryd.ntmps15
  go_wp2_with fail
  refine (HR.out _).mono ?_
  rintro e w1 ⟨rfl, hb⟩
  have Hb := hid (bel2 HB.out hb)
  have HN1 := hid (HN.out.kept hb)
  have c0 : w1.cell? ⟨w.heap.size, 0, none⟩ = some (.int .i64 m) := (HN.out.kept hb).cell 0
  have c2 : w1.cell? ⟨w.heap.size, 2, none⟩ = some (.int .i64 k) := (HN.out.kept hb).cell 2
  clear hb
  go_wp2_with fail
  refine (HV.out _ Hb.out).mono ?_
  rintro e w2 ⟨rfl, hb⟩
  have Hb2 := hid (bel2 Hb.out hb)
  have d0 : w2.cell? ⟨w.heap.size, 0, none⟩ = some (.int .i64 m) := (HN1.out.kept hb).cell 0
  have d1 : w2.cell? ⟨w.heap.size, 1, none⟩ = some (.int .i64 o) := (HN1.out.kept hb).cell 1
  clear hb c0 c2
  go_wp2_with fail
  refine (HS.out _).mono ?_
  rintro e w3 ⟨rfl, rfl⟩
  go_wp2
  go_ret
  exact ⟨rfl, Hb2.out⟩

set_option maxHeartbeats 2000000 in
theorem all_no (m o k : Int) (h : rightS m o k = false) (w : World) : Calls Tryd.prog 16 #[.agg #[.int .i64 m, .int .i64 o, .int .i64 k]] w fun e w' => e = .returned (.slice none 0 0) ∧ Below w.heap.size w w' := by
  have HR := hid (fun W => h ▸ right_any m o k W)
  have HB : Hid (Below w.heap.size w (w.alloc (.cells #[.int .i64 m, .int .i64 o, .int .i64 k] 25))) := hid ((Below.refl _ w).alloc (Nat.le_refl _) _)
  clear h
  go_enter Tryd.func16, Tryd.ntmps16
  go_wp2_with fail
  refine (HR.out _).mono ?_
  rintro e w1 ⟨rfl, hb⟩
  have Hb := hid (bel2 HB.out hb)
  clear hb
  go_wp2
  go_ret
  exact ⟨rfl, Hb.out⟩
end Go.Proofs.YtpijdbajonddlaaDoor
