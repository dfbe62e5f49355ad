/-
  The law StridePlaces at a right stride.
-/
import Derived.Test.YtpijdbajonddlaaDoorVplc
namespace Go.Proofs.YtpijdbajonddlaaDoor
open Go.RowKit Go.Lib

/-- What the law's loop has seen of a place, of the first c numbers. -/
def seenP (M : Nat) (o k p : Int) (c : Nat) : Int := if 0 ≤ p ∧ p < M ∧ whn M o k p < c then whn M o k p else -1
theorem seenP_zero (M : Nat) (o k p : Int) (hM : 1 ≤ M) : seenP M o k p 0 = -1 := by
  unfold seenP
  have := (whn_range (m := M) o k p (by omega)).1
  rw [if_neg (by omega)]
theorem seenP_yes {M : Nat} {o k p : Int} (h : rightS M o k = true) {c : Nat} (hc : c < M) (e : plc M o k c = p) : seenP M o k p (c + 1) = c := by
  obtain ⟨⟨h1, h2⟩, h3⟩ := (last_plc h c (by omega)).1 e
  unfold seenP
  rw [if_pos ⟨h1, h2, by omega⟩, h3]
theorem seenP_no {M : Nat} {o k p : Int} (h : rightS M o k = true) {c : Nat} (hc : c < M) (e : plc M o k c ≠ p) : seenP M o k p (c + 1) = seenP M o k p c := by
  unfold seenP
  by_cases h1 : 0 ≤ p ∧ p < M
  · have h2 : whn M o k p ≠ c := fun h3 => e ((last_plc h c (by omega)).2 ⟨h1, h3⟩)
    by_cases h3 : whn M o k p < c
    · rw [if_pos ⟨h1.1, h1.2, by omega⟩, if_pos ⟨h1.1, h1.2, h3⟩]
    · rw [if_neg (by omega), if_neg (by omega)]
  · rw [if_neg (by omega), if_neg (by omega)]
theorem seenP_all {M : Nat} {o k p : Int} (h : rightS M o k = true) : seenP M o k p M = whenOf M o k p := by
  unfold seenP whenOf
  have hM := (isP_range ((rightS_iff _ _ _).1 h).2.1).1
  have := (whn_range (m := M) o k p (by omega)).2
  by_cases h1 : 0 ≤ p ∧ p < M
  · rw [if_pos ⟨h1.1, h1.2, this⟩, if_pos ⟨h, h1⟩]
  · rw [if_neg (by omega), if_neg (fun x => h1 x.2)]

theorem when_right (m o k p : Int) (h : rightS m o k = true) (w : World) (u1 u2 : TypeId) (v1 v2 : Value) (h1 : w.cell? ⟨0, 0, none⟩ = some (.iface u1 v1)) (h2 : w.cell? ⟨10, 0, none⟩ = some (.iface u2 v2)) :
    Calls Tryd.prog 15 #[.agg #[.int .i64 m, .int .i64 o, .int .i64 k], .int .i64 p] w fun e w' => e = .returned (.int .i64 (whenOf m o k p)) ∧ Below w.heap.size w w' := by
  unfold whenOf
  by_cases hp : 0 ≤ p ∧ p < m
  · rw [if_pos ⟨h, hp⟩]
    exact when_yes m o k p h hp.1 hp.2 w u1 u2 v1 v2 h1 h2
  · rw [if_neg (fun x => hp x.2)]
    exact when_no m o k p (.inr (by omega)) w

theorem sq_kept {w w' W : World} {a0 a1 a2 a3 : Addr} {v0 v1 v2 v3 : Value} (h : w.cell? a0 = some v0 ∧ w.cell? a1 = some v1 ∧ w.cell? a2 = some v2 ∧ w.cell? a3 = some v3 ∧ Below W.heap.size W w) (hb : Below w.heap.size w w') :
    w'.cell? a0 = some v0 ∧ w'.cell? a1 = some v1 ∧ w'.cell? a2 = some v2 ∧ w'.cell? a3 = some v3 ∧ Below W.heap.size W w' :=
  ⟨cell_stays h.1 hb, cell_stays h.2.1 hb, cell_stays h.2.2.1 hb, cell_stays h.2.2.2.1 hb, bel2 h.2.2.2.2 hb⟩

set_option maxRecDepth 100000 in
set_option maxHeartbeats 8000000 in
theorem lplaces_yes (M : Nat) (o k j p : Int) (h : rightS M o k = true) (w : World) (u1 u2 : TypeId) (v1 v2 : Value) (h1 : w.cell? ⟨0, 0, none⟩ = some (.iface u1 v1)) (h2 : w.cell? ⟨10, 0, none⟩ = some (.iface u2 v2)) :
    Calls Tryd.prog 4 #[.agg #[.int .i64 M, .int .i64 o, .int .i64 k], .int .i64 j, .int .i64 p] w fun e w' => e = .returned (.bool true) ∧ Below w.heap.size w w' := by
  obtain ⟨W0, hW0⟩ : ∃ W, W = w.alloc (.cells #[.int .i64 M, .int .i64 o, .int .i64 k] 25) := ⟨_, rfl⟩
  have hbW : Below w.heap.size w W0 := hW0 ▸ (Below.refl _ _).alloc (Nat.le_refl _) _
  have HB0 : Hid (Blk W0 w.heap.size 25 #[.int .i64 M, .int .i64 o, .int .i64 k]) := hid (hW0 ▸ Blk.new w _ _)
  have HB := hid hbW
  have HW0 := hid hW0.symm
  obtain ⟨a1, a2, a3, a4, a5, a6⟩ := (rightS_iff M o k).1 h
  have a7 := (isP_range a2).1
  have HA := hid (fun W => salive_any W)
  have HQ := hid (fun W => h ▸ rright_any M o k W)
  have HR := hid (fun W => h ▸ right_any M o k W)
  have HC := hid (fun W => cursor_yes M o k h W)
  have HP := hid (fun W => place_yes M o k j h W)
  have HN : Hid (∀ W, Below W0.heap.size W0 W → Calls Tryd.prog 15 #[.agg #[.int .i64 M, .int .i64 o, .int .i64 k], .int .i64 p] W fun e w' => e = .returned (.int .i64 (whenOf M o k p)) ∧ Below W.heap.size W w') :=
    hid (fun W hb => when_right M o k p h W u1 u2 v1 v2 (cell_stays h1 (bel2 hbW hb)) (cell_stays h2 (bel2 hbW hb)))
  have HL := hid (fun W => all_yes M o k h W)
  have HRL := hid (fun W => rall_yes M o k h W)
  have HSm := hid (fun g1 g2 c1 c2 W e1 e2 => same_any M (by omega) (fun i => plc M o k i) g1 g2 c1 c2 W e1 e2)
  have HX := hid (fun c b d (hd : 0 ≤ d ∧ d ≤ 1000000) W hC => next_yes c b M o k d h hd W hC)
  have HD := hid (fun c b d W hC => done_yes c b M o k d W hC)
  have HZ := hid (seenP_zero M o k p (by omega))
  have HY := hid (fun c (hc : c < M) e => seenP_yes (p := p) h (c := c) hc e)
  have HNo := hid (fun c (hc : c < M) e => seenP_no (p := p) h (c := c) hc e)
  have HAll := hid (seenP_all (p := p) h)
  have HM := hid (fun i => plc_mod M o k i)
  have key : ∃ (t : Int) (K : Nat), j.tmod M = t ∧ Hid (j % M = K) ∧ K < M ∧ ((0 ≤ t ∧ t = K) ∨ (t < 0 ∧ -(M : Int) < t ∧ t + M = K)) := by
    have q1 := Int.emod_nonneg j (show (M : Int) ≠ 0 by omega)
    have q2 := Int.emod_lt_of_pos j (show 0 < (M : Int) by omega)
    refine ⟨j.tmod M, (j % M).toNat, rfl, hid (by omega), by omega, ?_⟩
    rcases tmod_cases j (show 1 ≤ (M : Int) by omega) with ⟨b1, b2, b3⟩ | ⟨b1, b2, b3⟩
    · exact .inl ⟨b1, by omega⟩
    · exact .inr ⟨b2, b1, by omega⟩
  obtain ⟨t, K, ht, HK, hK, hcase⟩ := key
  have HPK : Hid (plc M o k j = plc M o k K) := hid (by rw [← HK.out]; exact (HM.out j).symm)
  have hMM : (M : Int) ≠ 0 := by omega
  clear hW0 h h1 h2 a2 hbW
  rcases hcase with ⟨t0, t1⟩ | ⟨t0, t1, t2⟩
  all_goals
    try have tq : decide (t < 0) = false := by simp; omega
    try subst t1
    go_enter Tryd.func4, Tryd.ntmps4
    go_wp2_with fail
    rw [HW0.out]
    refine (HA.out _).mono ?_
    rintro e w1 ⟨rfl, hb⟩
    have Hb1 := hid hb
    have B1 := hid (HB0.out.kept hb)
    clear hb
    have c10 : w1.cell? ⟨w.heap.size, 0, none⟩ = some (.int .i64 M) := B1.out.cell 0
    have c11 : w1.cell? ⟨w.heap.size, 1, none⟩ = some (.int .i64 o) := B1.out.cell 1
    have c12 : w1.cell? ⟨w.heap.size, 2, none⟩ = some (.int .i64 k) := B1.out.cell 2
    go_wp2_with fail
    refine (HQ.out _).mono ?_
    rintro e w2 ⟨rfl, rfl⟩
    go_wp2_with fail
    refine (HC.out _).mono ?_
    rintro e w2 ⟨c, b, rfl, hc, hbb, hC, hb⟩
    have Hc : Hid (W0.heap.size ≤ c) := hid (Nat.le_trans Hb1.out.size hc)
    have Hb2 := hid (bel2 Hb1.out hb)
    have B2 := hid (B1.out.kept hb)
    have C2 := hid hC
    clear hb hC hc hbb c10 c11 c12
    have c20 : w2.cell? ⟨w.heap.size, 0, none⟩ = some (.int .i64 M) := B2.out.cell 0
    have c21 : w2.cell? ⟨w.heap.size, 1, none⟩ = some (.int .i64 o) := B2.out.cell 1
    have c22 : w2.cell? ⟨w.heap.size, 2, none⟩ = some (.int .i64 k) := B2.out.cell 2
    go_wp2_with fail
    refine (HR.out _).mono ?_
    rintro e w3 ⟨rfl, hb⟩
    have Hb3 := hid (bel2 Hb2.out hb)
    have B3 := hid (B2.out.kept hb)
    have C3 := hid (C2.out.kept hb)
    clear hb c20 c21 c22
    have c30 : w3.cell? ⟨w.heap.size, 0, none⟩ = some (.int .i64 M) := B3.out.cell 0
    have c31 : w3.cell? ⟨w.heap.size, 1, none⟩ = some (.int .i64 o) := B3.out.cell 1
    have c32 : w3.cell? ⟨w.heap.size, 2, none⟩ = some (.int .i64 k) := B3.out.cell 2
    go_wp2_with fail
    refine (HRL.out _).mono ?_
    rintro e w4 ⟨g, cap, rfl, hg, hn, hb⟩
    have Hg : Hid (c < g) := hid (Nat.lt_of_lt_of_le C3.out.1.lt hg)
    have Hb4 := hid (bel2 Hb3.out hb)
    have B4 := hid (B3.out.kept hb)
    have C4 := hid (C3.out.kept hb)
    have N4 := hid hn
    clear hb c30 c31 c32 hg hn
    have c40 : w4.cell? ⟨w.heap.size, 0, none⟩ = some (.int .i64 M) := B4.out.cell 0
    have c41 : w4.cell? ⟨w.heap.size, 1, none⟩ = some (.int .i64 o) := B4.out.cell 1
    have c42 : w4.cell? ⟨w.heap.size, 2, none⟩ = some (.int .i64 k) := B4.out.cell 2
    go_wp2
    go_loop [81, 11] (fun i x => ∃ n : Nat, ∃ y : Int, n ≤ M ∧ i = .int .i64 n ∧ x = .int .i64 y ∧ Hid (y = seenP M o k p n)) (fun i _ => M - (intOf i).toNat)
    case atStart => exact ⟨0, _, by omega, rfl, rfl, hid HZ.out.symm⟩
    case round =>
      obtain ⟨n, y, hn, rfl, rfl, HSn⟩ := hrel
      by_cases hlt : n < M
      · have e1 : w4.cell? ⟨g, n, none⟩ = some (.int .i64 (plc M o k n)) := N4.out.2 n hlt
        by_cases hep : plc M o k n = p
        · have H1 : Hid ((n : Int) = seenP M o k p (n + 1)) := hid (HY.out n hlt hep).symm
          rw [hep] at e1
          have hpp : (p == p) = true := by simp
          clear hep
          go_wp2
          go_round
          case rel => exact ⟨n + 1, _, by omega, by go_num, rfl, H1⟩
          case measure => simp [intOf]; omega
        · have H1 : Hid (y = seenP M o k p (n + 1)) := hid (HSn.out.trans (HNo.out n hlt hep).symm)
          generalize plc M o k n = z at e1 hep
          have hzp : (z == p) = false := by simpa using hep
          clear hep
          go_wp2
          go_round
          case rel => exact ⟨n + 1, _, by omega, by go_num, rfl, H1⟩
          case measure => simp [intOf]; omega
      · obtain rfl : M = n := by omega
        have hy : whenOf M o k p = y := (HSn.out.trans HAll.out).symm
        rw [hy] at HN
        have HN4 : Hid (∀ W, Below w4.heap.size w4 W → Calls Tryd.prog 15 #[.agg #[.int .i64 M, .int .i64 o, .int .i64 k], .int .i64 p] W fun e w' => e = .returned (.int .i64 y) ∧ Below W.heap.size W w') := hid (fun W hb => HN.out W (bel2 Hb4.out hb))
        clear hy HN HSn HAll HZ HY HNo
        rw [HPK.out] at HP
        have e1 : w4.cell? ⟨g, K, none⟩ = some (.int .i64 (plc M o k K)) := N4.out.2 K hK
        obtain ⟨z, hz⟩ : ∃ z, plc M o k K = z := ⟨_, rfl⟩
        rw [hz] at HP e1
        clear hz HPK
        have hzz : (z != z) = false := by simp
        have hyy : (y != y) = false := by simp
        have hK1 : (0 : Int) ≤ K := by omega
        have hK2 : (K : Int) < M := by omega
        have hS0 : w4.drew.cell? ⟨w.heap.size, 0, none⟩ = some (.int .i64 M) ∧ w4.drew.cell? ⟨w.heap.size, 1, none⟩ = some (.int .i64 o) ∧ w4.drew.cell? ⟨w.heap.size, 2, none⟩ = some (.int .i64 k) ∧ w4.drew.cell? ⟨g, K, none⟩ = some (.int .i64 z) ∧ Below w4.heap.size w4 w4.drew := ⟨c40, c41, c42, e1, below_drew w4⟩
        go_wp2
        go_region_held3 (fun w' => w'.cell? ⟨w.heap.size, 0, none⟩ = some (.int .i64 M) ∧ w'.cell? ⟨w.heap.size, 1, none⟩ = some (.int .i64 o) ∧ w'.cell? ⟨w.heap.size, 2, none⟩ = some (.int .i64 k) ∧ w'.cell? ⟨g, K, none⟩ = some (.int .i64 z) ∧ Below w4.heap.size w4 w') (first | assumption | exact sq_kept (by assumption) (by assumption)) (first
          | (go_at_call 14; (refine (HP.out _).mono ?_); rintro e wA ⟨rfl, hbA⟩)
          | (go_at_call 15; (refine (HN4.out _ (And.right (And.right (And.right (And.right (by assumption)))))).mono ?_); rintro e wA ⟨rfl, hbA⟩)
          | (go_at_call 16; (refine (HL.out _).mono ?_); rintro e wA ⟨g2, rfl, hg2, hn2, hbA⟩)
          | (go_at_call 20; (refine (HSm.out _ _ _ _ _ (by assumption) (N4.out.kept (And.right (And.right (And.right (And.right (by assumption))))))).mono ?_); rintro e wA ⟨rfl, hbA⟩))
        have hb5 : Below w4.heap.size w4 wA := And.right (And.right (And.right (And.right (by assumption))))
        have C5 := hid (C4.out.kept hb5)
        have N5 := hid (N4.out.kept hb5)
        have Hb5 := hid (bel2 Hb4.out hb5)
        clear hb5
        clear hS0 HN4 HP HSm HL HRL HC HR HQ HA
        go_wp2
        go_loopw [117] (fun i wr => ∃ d : Nat, d ≤ 2 * M + 1 ∧ i = .int .i64 d ∧ Hid (CurYes wr c b M o k d) ∧ Hid (NumAt wr g M (fun i => plc M o k i)) ∧ Hid (Below W0.heap.size W0 wr)) (fun i _ => 2 * M + 1 - (intOf i).toNat)
        case atStart => exact ⟨0, by omega, rfl, C5, N5, Hb5⟩
        case round =>
          obtain ⟨d, hd, rfl, HCd, HNd, HBd⟩ := hrel
          by_cases hlt : d < 2 * M + 1
          · obtain ⟨r, hr⟩ : ∃ r : Nat, d % M = r := ⟨_, rfl⟩
            have hrM : r < M := by rw [← hr]; exact Nat.mod_lt _ (by omega)
            have er : (d : Int) % (M : Int) = (r : Int) := by rw [← hr]; omega
            have et : (d : Int).tmod (M : Int) = (r : Int) := by rw [Int.tmod_eq_emod_of_nonneg (by omega)]; exact er
            have e1 : wr.cell? ⟨g, r, none⟩ = some (.int .i64 (plc M o k r)) := HNd.out.2 r hrM
            have ez : plc M o k r = plc M o k d := by rw [← er]; exact HM.out d
            rw [ez] at e1
            have HXd := hid (HX.out c b d ⟨by omega, by omega⟩ wr.drew (HCd.out.kept (below_drew wr)))
            have HDd := hid (HD.out c b d wr.drew (HCd.out.kept (below_drew wr)))
            obtain ⟨z, hz⟩ : ∃ z, plc M o k d = z := ⟨_, rfl⟩
            rw [hz] at e1 HXd
            clear hz ez hr
            have hzz : (z != z) = false := by simp
            have hdd : ((d : Int) != (d : Int)) = false := by simp
            have hM0 : ¬ M = 0 := by omega
            have hr0 : (0 : Int) ≤ r := by omega
            have hr1 : (r : Int) < M := by omega
            have HKeep : Hid (∀ V, wr.drew.grownBy V (some c) → V.cell? ⟨g, r, none⟩ = some (.int .i64 z) ∧ NumAt V g M (fun i => plc M o k i) ∧ Below W0.heap.size W0 V) := hid fun V hV => by
              have n1 := (HNd.out.kept (below_drew wr)).grown hV (Nat.ne_of_gt Hg.out)
              have b1 := (bel2 HBd.out (below_drew wr)).grown hV (bel2 HBd.out (below_drew wr)).size (fun i hi => by cases hi; exact Hc.out)
              exact ⟨(World.cell?_of_block (a := ⟨g, r, none⟩) (hV.block g HNd.out.1 (fun e => Nat.ne_of_gt Hg.out (Option.some.inj e)))).trans e1, n1, b1⟩
            have hS1 : wr.drew.cell? ⟨g, r, none⟩ = some (.int .i64 z) ∧ NumAt wr.drew g M (fun i => plc M o k i) ∧ Below W0.heap.size W0 wr.drew := ⟨e1, HNd.out.kept (below_drew wr), bel2 HBd.out (below_drew wr)⟩
            clear HNd HCd HBd
            go_wp2
            go_region_held3 (fun w' => w'.cell? ⟨g, r, none⟩ = some (.int .i64 z) ∧ NumAt w' g M (fun i => plc M o k i) ∧ Below W0.heap.size W0 w') (first | assumption | exact HKeep.out _ (by assumption)) (first
              | (go_at_call 18; (refine HDd.out.mono ?_); rintro e wB ⟨rfl, rfl⟩)
              | (go_at_call 17; (refine HXd.out.mono ?_); rintro e wB ⟨rfl, hCB, hGB⟩))
            go_wp2
            go_roundw
            case rel => exact ⟨d + 1, by omega, by go_num, hid hCB, hid (HKeep.out _ hGB).2.1, hid (HKeep.out _ hGB).2.2⟩
            case measure => simp [intOf]; omega
          · go_wp2
            go_ret
            exact ⟨rfl, bel2 HB.out HBd.out⟩
end Go.Proofs.YtpijdbajonddlaaDoor
