/-
  The document's Contains where it is not so, its Covers and its Compare.
-/
import Derived.Test.YtambnnahgbegfaaGreatDoorCrcon
import Derived.Test.YtambnnahgbegfaaGreatDoorCmpr
namespace Go.Proofs.YtambnnahgbegfaaGreatDoor
open Go.RowKit

/-- Does an address begin so? -/
def containsC (cs : Bool) (cb : List Int) (n : Int) (sa : Bool) (ab : List Int) : Bool := rightC cs cb n && ((sa || flat ab) && ((sa == cs) && agreeB ab cb n.toNat))

set_option maxRecDepth 100000 in
set_option maxHeartbeats 4000000 in
theorem rcont_no (cs sa : Bool) (cb ab : List Int) (hlc : cb.length = 16) (hla : ab.length = 16) (n : Int) (r q : Bool) (w : World)
    (cR : ∀ w, Calls Tryz.prog 27 #[.agg (cid cs cb n)] w fun e w' => e = .returned (.bool r) ∧ Below w.heap.size w w')
    (cQ : ∀ w, Calls Tryz.prog 16 #[.agg (adr sa ab)] w fun e w' => e = .returned (.bool q) ∧ Below w.heap.size w w')
    (h : r = false ∨ q = false ∨ sa ≠ cs) :
    Calls Tryz.prog 31 #[.agg (cid cs cb n), .agg (adr sa ab)] w fun e w' => e = .returned (.bool false) ∧ Below w.heap.size w w' := by
  obtain ⟨W0, hW0⟩ : ∃ W, W = w.alloc (.cells (cid cs cb n) 48) := ⟨_, rfl⟩
  obtain ⟨W1, hW1⟩ : ∃ W, W = W0.alloc (.cells (adr sa ab) 24) := ⟨_, rfl⟩
  have hB0 : Blk W0 w.heap.size 48 (cid cs cb n) := hW0 ▸ Blk.new w _ _
  have hb0 : Below w.heap.size w W0 := hW0 ▸ (Below.refl _ _).alloc (Nat.le_refl _) _
  have hs0 : W0.heap.size = w.heap.size + 1 := by rw [hW0]; simp
  have hb1 : Below W0.heap.size W0 W1 := hW1 ▸ (Below.refl _ _).alloc (Nat.le_refl _) _
  have hB1 : Blk W1 (w.heap.size + 1) 24 (adr sa ab) := by rw [← hs0]; exact hW1 ▸ Blk.new W0 _ _
  have HW0 := Lib.hid hW0.symm
  have HW1 := Lib.hid hW1.symm
  have HBc : Hid (Blk W1 (w.heap.size) 48 (cid cs cb n)) := Lib.hid (hB0.kept hb1)
  have HBa0 := Lib.hid hB1
  have Hb0 : Hid (Below w.heap.size w W1) := Lib.hid (bel2 hb0 hb1)
  have LA : Hid (17 = (adr sa ab).size) := Lib.hid (by rw [adr_size, hla])
  have L18 : Hid (18 = (cid cs cb n).size) := Lib.hid (by rw [cid_size, hlc])
  have CR := Lib.hid cR
  have CQ := Lib.hid cQ
  have HSz := Lib.hid hs0
  clear hW0 hW1 hB0 hb0 hb1 hB1 hlc hla cR cQ hs0
  go_enter Tryz.func31, Tryz.ntmps31
  go_upto_region 1 with fail
  rw [HW0.out]
  rw [HW1.out]
  go_wp2_with (refine wpl_load 48 _ rfl w.heap.size rfl _ _ _ HBc.out Tryz.underlying48 rfl 18 Tryz.infoCidr L18.out rfl ?_)
  refine (CR.out W1).mono ?_
  rintro e w1 ⟨rfl, hb1⟩
  have HBc1 := Lib.hid (HBc.out.kept hb1)
  have HBa := Lib.hid (HBa0.out.kept hb1)
  have Hb1 := Lib.hid (bel2 Hb0.out hb1)
  clear hb1
  cases r with
  | false =>
    go_wp2
    go_ret
    exact ⟨rfl, Hb1.out⟩
  | true =>
    go_wp2_with (refine wpl_load 24 _ rfl (w.heap.size + 1) rfl _ _ _ HBa.out Tryz.underlying24 rfl 17 Tryz.infoAddr LA.out rfl ?_)
    refine (CQ.out w1).mono ?_
    rintro e w2 ⟨rfl, hb2⟩
    have Hb2 := Lib.hid (bel2 Hb1.out hb2)
    cases q with
    | false =>
      go_wp2
      go_ret
      exact ⟨rfl, Hb2.out⟩
    | true =>
      have hne : (sa != cs) = true := by
        rcases h with h | h | h
        · cases h
        · cases h
        · simpa using h
      have c0 : w2.cell? ⟨w.heap.size, 0, none⟩ = some (.bool cs) := by rw [(HBc1.out.kept hb2).cell]; rfl
      have c1 : w2.cell? ⟨w.heap.size + 1, 0, none⟩ = some (.bool sa) := by rw [(HBa.out.kept hb2).cell]; rfl
      clear h hb2
      cases sa <;> cases cs
      · cases hne
      · go_wp2
        go_ret
        exact ⟨rfl, Hb2.out⟩
      · go_wp2
        go_ret
        exact ⟨rfl, Hb2.out⟩
      · cases hne

theorem rcont_any (cs sa : Bool) (C A : List Nat) (hlc : C.length = 16) (hla : A.length = 16) (hC : ∀ x ∈ C, x < 256) (hA : ∀ x ∈ A, x < 256) (n : Int) (w : World) :
    Calls Tryz.prog 31 #[.agg (cid cs (ints C) n), .agg (adr sa (ints A))] w fun e w' => e = .returned (.bool (containsC cs (ints C) n sa (ints A))) ∧ Below w.heap.size w w' := by
  have hli : (ints C).length = 16 := by rw [ints_length, hlc]
  have hlj : (ints A).length = 16 := by rw [ints_length, hla]
  have cR := rright_any cs C hlc hC n
  have cQ := refRight_any sa (ints A) hlj
  by_cases h : rightC cs (ints C) n = true ∧ (sa || flat (ints A)) = true ∧ sa = cs
  · obtain ⟨h1, h2, h3⟩ := h
    have h0 : 0 ≤ n ∧ n ≤ wid cs := by
      unfold rightC at h1
      simp only [Bool.and_eq_true, decide_eq_true_eq] at h1
      exact ⟨h1.2.1, h1.2.2.1⟩
    obtain ⟨N, rfl⟩ : ∃ N : Nat, n = N := ⟨n.toNat, by omega⟩
    have := wid_le cs
    refine (rcont_yes cs sa C A hlc hla hC hA N (by omega) h3 w (fun w => (cR w).mono fun e w' hh => ⟨by rw [hh.1, h1], hh.2⟩) (fun w => (cQ w).mono fun e w' hh => ⟨by rw [hh.1, h2], hh.2⟩)).mono fun e w' hh => ⟨?_, hh.2⟩
    rw [hh.1]
    unfold containsC
    rw [h1, h2, h3]
    simp
  · refine (rcont_no cs sa (ints C) (ints A) hli hlj n _ _ w cR cQ ?_).mono fun e w' hh => ⟨?_, hh.2⟩
    · cases e1 : rightC cs (ints C) n with
      | false => exact .inl rfl
      | true =>
        cases e2 : (sa || flat (ints A)) with
        | false => exact .inr (.inl rfl)
        | true => exact .inr (.inr fun e3 => h ⟨e1, e2, e3⟩)
    · rw [hh.1]
      unfold containsC
      cases e1 : rightC cs (ints C) n with
      | false => rfl
      | true =>
        cases e2 : (sa || flat (ints A)) with
        | false => rfl
        | true =>
          have : (sa == cs) = false := by rw [beq_eq_false_iff_ne]; exact fun e3 => h ⟨e1, e2, e3⟩
          rw [this]
          rfl

/-- Does a cidr contain all of another one? -/
def coversC (cs : Bool) (cb : List Int) (n : Int) (ds : Bool) (db : List Int) (m : Int) : Bool := rightC ds db m && (containsC cs cb n ds db && decide (n ≤ m))

set_option maxRecDepth 100000 in
set_option maxHeartbeats 4000000 in
theorem rcov_walk (cs ds : Bool) (cb db : List Int) (hlc : cb.length = 16) (hld : db.length = 16) (n m : Int) (r q : Bool) (w : World)
    (cR : ∀ w, Calls Tryz.prog 27 #[.agg (cid ds db m)] w fun e w' => e = .returned (.bool r) ∧ Below w.heap.size w w')
    (cQ : ∀ w, Calls Tryz.prog 31 #[.agg (cid cs cb n), .agg (adr ds db)] w fun e w' => e = .returned (.bool q) ∧ Below w.heap.size w w') :
    Calls Tryz.prog 33 #[.agg (cid cs cb n), .agg (cid ds db m)] w fun e w' => e = .returned (.bool (r && (q && decide (n ≤ m)))) ∧ Below w.heap.size w w' := by
  obtain ⟨W0, hW0⟩ : ∃ W, W = w.alloc (.cells (cid cs cb n) 48) := ⟨_, rfl⟩
  obtain ⟨W1, hW1⟩ : ∃ W, W = W0.alloc (.cells (cid ds db m) 48) := ⟨_, rfl⟩
  have hB0 : Blk W0 w.heap.size 48 (cid cs cb n) := hW0 ▸ Blk.new w _ _
  have hb0 : Below w.heap.size w W0 := hW0 ▸ (Below.refl _ _).alloc (Nat.le_refl _) _
  have hs0 : W0.heap.size = w.heap.size + 1 := by rw [hW0]; simp
  have hb1 : Below W0.heap.size W0 W1 := hW1 ▸ (Below.refl _ _).alloc (Nat.le_refl _) _
  have hB1 : Blk W1 (w.heap.size + 1) 48 (cid ds db m) := by rw [← hs0]; exact hW1 ▸ Blk.new W0 _ _
  have HW0 := Lib.hid hW0.symm
  have HW1 := Lib.hid hW1.symm
  have HBc : Hid (Blk W1 (w.heap.size) 48 (cid cs cb n)) := Lib.hid (hB0.kept hb1)
  have HBd := Lib.hid hB1
  have Hb0 : Hid (Below w.heap.size w W1) := Lib.hid (bel2 hb0 hb1)
  have L18 : Hid (18 = (cid cs cb n).size) := Lib.hid (by rw [cid_size, hlc])
  have L18d : Hid (18 = (cid ds db m).size) := Lib.hid (by rw [cid_size, hld])
  have LD := Lib.hid hld
  have LC := Lib.hid hlc
  have CR := Lib.hid cR
  have CQ := Lib.hid cQ
  have HSz := Lib.hid hs0
  clear hW0 hW1 hB0 hb0 hb1 hB1 hlc hld cR cQ hs0
  go_enter Tryz.func33, Tryz.ntmps33
  go_upto_region 1 with fail
  rw [HW0.out]
  rw [HW1.out]
  go_wp2_with (refine wpl_load 48 _ rfl (w.heap.size + 1) rfl _ _ _ HBd.out Tryz.underlying48 rfl 18 Tryz.infoCidr L18d.out rfl ?_)
  refine (CR.out W1).mono ?_
  rintro e w1 ⟨rfl, hb1⟩
  have HBc1 := Lib.hid (HBc.out.kept hb1)
  have HBd1 := Lib.hid (HBd.out.kept hb1)
  have Hb1 := Lib.hid (bel2 Hb0.out hb1)
  clear hb1
  cases r with
  | false =>
    go_wp2
    go_ret
    exact ⟨rfl, Hb1.out⟩
  | true =>
    go_wp2_with (first | (refine wpl_load 48 _ rfl w.heap.size rfl _ _ _ HBc1.out Tryz.underlying48 rfl 18 Tryz.infoCidr L18.out rfl ?_) | (refine wpl_load_addr _ rfl (w.heap.size + 1) rfl ds db m HBd1.out LD.out rfl ?_))
    refine (CQ.out w1).mono ?_
    rintro e w2 ⟨rfl, hb2⟩
    have Hb2 := Lib.hid (bel2 Hb1.out hb2)
    cases q with
    | false =>
      go_wp2
      go_ret
      exact ⟨rfl, Hb2.out⟩
    | true =>
      have c0 : w2.cell? ⟨w.heap.size, 17, none⟩ = some (.int .i64 n) := cid_bitsCell (HBc1.out.kept hb2) LC.out
      have c1 : w2.cell? ⟨w.heap.size + 1, 17, none⟩ = some (.int .i64 m) := cid_bitsCell (HBd1.out.kept hb2) LD.out
      clear hb2
      go_wp2
      go_ret
      exact ⟨rfl, Hb2.out⟩

theorem rcov_any (cs ds : Bool) (C D : List Nat) (hlc : C.length = 16) (hld : D.length = 16) (hC : ∀ x ∈ C, x < 256) (hD : ∀ x ∈ D, x < 256) (n m : Int) (w : World) :
    Calls Tryz.prog 33 #[.agg (cid cs (ints C) n), .agg (cid ds (ints D) m)] w fun e w' => e = .returned (.bool (coversC cs (ints C) n ds (ints D) m)) ∧ Below w.heap.size w w' :=
  rcov_walk cs ds (ints C) (ints D) (by rw [ints_length, hlc]) (by rw [ints_length, hld]) n m _ _ w (rright_any ds D hld hD m) (rcont_any cs ds C D hlc hld hC hD n)

/-- Which of two cidrs comes first. -/
def cmpC (s t : Bool) (x y : List Nat) (n m : Int) : Int := if cmpA s t x y ≠ 0 then cmpA s t x y else if n < m then -1 else if m < n then 1 else 0

set_option maxRecDepth 100000 in
set_option maxHeartbeats 4000000 in
theorem rcmp_any (s t : Bool) (X Y : List Nat) (hx : X.length = 16) (hy : Y.length = 16) (n m : Int) (w : World) :
    Calls Tryz.prog 35 #[.agg (cid s (ints X) n), .agg (cid t (ints Y) m)] w fun e w' => e = .returned (.int .i64 (cmpC s t X Y n m)) ∧ Below w.heap.size w w' := by
  obtain ⟨W0, hW0⟩ : ∃ W, W = w.alloc (.cells (cid s (ints X) n) 48) := ⟨_, rfl⟩
  obtain ⟨W1, hW1⟩ : ∃ W, W = W0.alloc (.cells (cid t (ints Y) m) 48) := ⟨_, rfl⟩
  have hlx : (ints X).length = 16 := by rw [ints_length, hx]
  have hly : (ints Y).length = 16 := by rw [ints_length, hy]
  have hB0 : Blk W0 w.heap.size 48 (cid s (ints X) n) := hW0 ▸ Blk.new w _ _
  have hb0 : Below w.heap.size w W0 := hW0 ▸ (Below.refl _ _).alloc (Nat.le_refl _) _
  have hs0 : W0.heap.size = w.heap.size + 1 := by rw [hW0]; simp
  have hb1 : Below W0.heap.size W0 W1 := hW1 ▸ (Below.refl _ _).alloc (Nat.le_refl _) _
  have hB1 : Blk W1 (w.heap.size + 1) 48 (cid t (ints Y) m) := by rw [← hs0]; exact hW1 ▸ Blk.new W0 _ _
  have HW0 := Lib.hid hW0.symm
  have HW1 := Lib.hid hW1.symm
  have HBc : Hid (Blk W1 (w.heap.size) 48 (cid s (ints X) n)) := Lib.hid (hB0.kept hb1)
  have HBd := Lib.hid hB1
  have Hb0 : Hid (Below w.heap.size w W1) := Lib.hid (bel2 hb0 hb1)
  have LX := Lib.hid hlx
  have LY := Lib.hid hly
  have CQ := Lib.hid (refCompare_any s t X Y hx hy)
  have HC : Hid (cmpC s t X Y n m = if cmpA s t X Y ≠ 0 then cmpA s t X Y else if n < m then -1 else if m < n then 1 else 0) := Lib.hid rfl
  generalize cmpC s t X Y n m = R at *
  obtain ⟨c, hc⟩ : ∃ c, c = cmpA s t X Y := ⟨_, rfl⟩
  rw [← hc] at CQ HC
  clear hW0 hW1 hB0 hb0 hb1 hB1 hs0 hlx hly hx hy hc
  go_enter Tryz.func35, Tryz.ntmps35
  go_upto_region 1 with fail
  rw [HW0.out]
  rw [HW1.out]
  go_wp2_with (first | (refine wpl_load_addr _ rfl w.heap.size rfl s (ints X) n HBc.out LX.out rfl ?_) | (refine wpl_load_addr _ rfl (w.heap.size + 1) rfl t (ints Y) m HBd.out LY.out rfl ?_))
  refine (CQ.out W1).mono ?_
  rintro e w1 ⟨rfl, hb1⟩
  have c0 : w1.cell? ⟨w.heap.size, 17, none⟩ = some (.int .i64 n) := cid_bitsCell (HBc.out.kept hb1) LX.out
  have c1 : w1.cell? ⟨w.heap.size + 1, 17, none⟩ = some (.int .i64 m) := cid_bitsCell (HBd.out.kept hb1) LY.out
  have Hb1 := Lib.hid (bel2 Hb0.out hb1)
  clear hb1
  by_cases hc0 : c = 0
  · have q : (c != 0) = false := by rw [hc0]; rfl
    have HC2 : Hid (R = if n < m then -1 else if m < n then 1 else 0) := Lib.hid (by rw [HC.out, if_neg (by simp [hc0])])
    clear hc0
    by_cases h1 : n < m
    · go_wp2
      go_ret
      exact ⟨ret_int (by rw [HC2.out, if_pos h1]), Hb1.out⟩
    · by_cases h2 : m < n
      · go_wp2
        go_ret
        exact ⟨ret_int (by rw [HC2.out, if_neg (by omega), if_pos (by omega)]), Hb1.out⟩
      · go_wp2
        go_ret
        exact ⟨ret_int (by rw [HC2.out, if_neg (by omega), if_neg (by omega)]), Hb1.out⟩
  · have q : (c != 0) = true := by rw [bne_iff_ne]; exact hc0
    have HC2 : Hid (R = c) := Lib.hid (by rw [HC.out, if_pos hc0])
    go_wp2
    go_ret
    exact ⟨ret_int HC2.out.symm, Hb1.out⟩
end Go.Proofs.YtambnnahgbegfaaGreatDoor
