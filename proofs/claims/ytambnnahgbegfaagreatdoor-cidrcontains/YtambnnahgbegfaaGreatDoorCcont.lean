/-
  cidr.Contains, Right and Covers.
-/
import Derived.Test.YtambnnahgbegfaaGreatDoorCofbad
namespace Go.Proofs.YtambnnahgbegfaaGreatDoor
open Go.RowKit

set_option maxRecDepth 100000 in
set_option maxHeartbeats 4000000 in
theorem cont_walk (cs sa : Bool) (cb ab : List Int) (hlc : cb.length = 16) (hla : ab.length = 16) (n : Int) (so : Bool) (ob : List Int) (hlo : ob.length = 16) (m : Int) (E : Value) (R : Bool) (EA ER : Value) (w : World) (hE : Env3 EA ER w)
    (hR : (E = .nilIface ∧ R = ((so == cs && ob == cb) && m == n)) ∨ ((∃ u p, E = .iface u p) ∧ R = false))
    (cO : ∀ w, Env3 EA ER w → Calls Tryz.prog 36 #[.agg (adr sa ab), .int .i64 n] w fun e w' => e = .returned (.tuple #[.agg (cid so ob m), E]) ∧ Below w.heap.size w w') :
    Calls Tryz.prog 30 #[.agg (cid cs cb n), .agg (adr sa ab)] w fun e w' => e = .returned (.bool R) ∧ Below w.heap.size w w' := by
  obtain ⟨W0, hW0⟩ : ∃ W, W = w.alloc (.cells (cid cs cb n) 48) := ⟨_, rfl⟩
  obtain ⟨W1, hW1⟩ : ∃ W, W = W0.alloc (.cells (adr sa ab) 24) := ⟨_, rfl⟩
  have hB0 : Blk W0 w.heap.size 48 (cid cs cb n) := hW0 ▸ Blk.new w _ _
  have hb0 : Below w.heap.size w W0 := hW0 ▸ (Below.refl _ _).alloc (Nat.le_refl _) _
  have hs0 : W0.heap.size = w.heap.size + 1 := by rw [hW0]; simp
  have hb1 : Below W0.heap.size W0 W1 := hW1 ▸ (Below.refl _ _).alloc (Nat.le_refl _) _
  have hB1 : Blk W1 (w.heap.size + 1) 24 (adr sa ab) := by rw [← hs0]; exact hW1 ▸ Blk.new W0 _ _
  have HW0 := Lib.hid hW0.symm
  have HW1 := Lib.hid hW1.symm
  have HBc : Hid (Blk W1 (w.heap.size) 48 (cid cs cb n)) := Lib.hid (hB0.kept hb1)
  have HBa := Lib.hid hB1
  have Hb0 : Hid (Below w.heap.size w W1) := Lib.hid (bel2 hb0 hb1)
  have LA : Hid (17 = (adr sa ab).size) := Lib.hid (by rw [adr_size, hla])
  have L18 : Hid (18 = (cid cs cb n).size) := Lib.hid (by rw [cid_size, hlc])
  have L18o : Hid (18 = (cid so ob m).size) := Lib.hid (by rw [cid_size, hlo])
  have c17 : W1.cell? ⟨w.heap.size, 17, none⟩ = some (.int .i64 n) := cid_bitsCell HBc.out hlc
  have HE1 : Hid (Env3 EA ER W1) := Lib.hid (hE.kept Hb0.out)
  have CO := Lib.hid cO
  have hq := eql_cid so cs ob cb m n hlo hlc
  have HR := Lib.hid hR
  clear hW0 hW1 hB0 hb0 hb1 hB1 hs0 hlc hla hlo hE cO hR
  go_enter Tryz.func30, Tryz.ntmps30
  go_upto_region 1 with fail
  rw [HW0.out]
  rw [HW1.out]
  go_wp2_with (refine wpl_load 24 _ rfl (w.heap.size + 1) rfl _ _ _ HBa.out Tryz.underlying24 rfl 17 Tryz.infoAddr LA.out rfl ?_)
  refine (CO.out W1 HE1.out).mono ?_
  rintro e w2 ⟨rfl, hb2⟩
  have HBc2 := Lib.hid (HBc.out.kept hb2)
  have Hb2 := Lib.hid (bel2 Hb0.out hb2)
  have hsz : w.heap.size < w2.heap.size := HBc2.out.lt
  obtain ⟨W3, hW3⟩ : ∃ W, W = w2.alloc (.cells (cid false z16 0) 48) := ⟨_, rfl⟩
  have hB3 : Blk W3 w2.heap.size 48 (cid false z16 0) := hW3 ▸ Blk.new w2 _ _
  have hb3 : Below w2.heap.size w2 W3 := hW3 ▸ (Below.refl _ _).alloc (Nat.le_refl _) _
  have HW3 : Hid (w2.alloc (.cells #[.bool false, .int .u8 0, .int .u8 0, .int .u8 0, .int .u8 0, .int .u8 0, .int .u8 0, .int .u8 0, .int .u8 0, .int .u8 0, .int .u8 0, .int .u8 0, .int .u8 0, .int .u8 0, .int .u8 0, .int .u8 0, .int .u8 0, .int .i64 0] 48) = W3) := Lib.hid hW3.symm
  have HB3 := Lib.hid hB3
  obtain ⟨V, hV⟩ : ∃ V, V = W3.setRow w2.heap.size (cid so ob m) := ⟨_, rfl⟩
  have HV := Lib.hid hV.symm
  have HBV : Hid (Blk V w2.heap.size 48 (cid so ob m)) := Lib.hid (hV ▸ hB3.row _)
  have HBc3 : Hid (Blk V (w.heap.size) 48 (cid cs cb n)) := Lib.hid (hV ▸ (HBc2.out.kept hb3).rowOther (by omega) _)
  have HbV : Hid (Below w.heap.size w V) := Lib.hid (hV ▸ below_setRow (bel2 Hb2.out hb3) (by omega) _)
  clear hb2 hW3 hB3 hb3 hV c17
  rcases HR.out with ⟨rfl, rfl⟩ | ⟨⟨u, p, rfl⟩, rfl⟩
  · obtain ⟨q, hqq⟩ : ∃ q, q = ((so == cs && ob == cb) && m == n) := ⟨_, rfl⟩
    rw [← hqq] at hq HR
    have HQ := Lib.hid hqq
    clear hqq
    go_wp2_with ((try rw [HW3.out]); first | (refine wpl_store 48 _ _ rfl w2.heap.size (cid so ob m) rfl rfl _ _ HB3.out 18 Tryz.infoCidr L18o.out rfl (cid_one _ _ _) rfl ?_; rw [HV.out]) | (refine wpl_load 48 _ rfl w2.heap.size rfl _ _ _ HBV.out Tryz.underlying48 rfl 18 Tryz.infoCidr L18o.out rfl ?_) | (refine wpl_load 48 _ rfl w.heap.size rfl _ _ _ HBc3.out Tryz.underlying48 rfl 18 Tryz.infoCidr L18.out rfl ?_))
    go_ret
    exact ⟨by rw [← HQ.out]; rfl, HbV.out⟩
  · go_wp2_with ((try rw [HW3.out]); first | (refine wpl_store 48 _ _ rfl w2.heap.size (cid so ob m) rfl rfl _ _ HB3.out 18 Tryz.infoCidr L18o.out rfl (cid_one _ _ _) rfl ?_; rw [HV.out]))
    go_ret
    exact ⟨rfl, HbV.out⟩

/-- What cidr.Contains answers. -/
def contC (cs : Bool) (C : List Nat) (n : Int) (sa : Bool) (A : List Nat) : Bool := ((sa || flat (ints A)) && (decide (0 ≤ n ∧ n ≤ wid sa))) && (sa == cs && ints (cutTo A n 16) == ints C)

theorem cont_any (cs sa : Bool) (C A : List Nat) (hlc : C.length = 16) (hla : A.length = 16) (hA : ∀ x ∈ A, x < 256) (n : Int) (u u' : TypeId) (p p' : Value) (w : World) (hE : Env3 (.iface u p) (.iface u' p') w) :
    Calls Tryz.prog 30 #[.agg (cid cs (ints C) n), .agg (adr sa (ints A))] w fun e w' => e = .returned (.bool (contC cs C n sa A)) ∧ Below w.heap.size w w' := by
  have hli : (ints C).length = 16 := by rw [ints_length, hlc]
  have hlj : (ints A).length = 16 := by rw [ints_length, hla]
  have cO := fun w hE => of_any sa A hla hA n (.iface u p) (.iface u' p') w hE
  unfold ofC at cO
  unfold contC
  cases hr : (sa || flat (ints A)) with
  | false =>
    rw [hr, if_neg (by simp)] at cO
    exact cont_walk cs sa (ints C) (ints A) hli hlj n false z16 rfl 0 (.iface u p) false _ _ w hE (.inr ⟨⟨u, p, rfl⟩, rfl⟩) cO
  | true =>
    rw [hr, if_pos rfl] at cO
    by_cases h : 0 ≤ n ∧ n ≤ wid sa
    · rw [if_pos h] at cO
      rw [decide_eq_true h]
      refine cont_walk cs sa (ints C) (ints A) hli hlj n sa (ints (cutTo A n 16)) (by rw [ints_length, cutTo_length]) n .nilIface _ _ _ w hE (.inl ⟨rfl, ?_⟩) cO
      simp
    · rw [if_neg h] at cO
      rw [decide_eq_false h]
      exact cont_walk cs sa (ints C) (ints A) hli hlj n false z16 rfl 0 (.iface u' p') false _ _ w hE (.inr ⟨⟨u', p', rfl⟩, rfl⟩) cO

set_option maxRecDepth 100000 in
set_option maxHeartbeats 4000000 in
theorem cright_any (cs : Bool) (C : List Nat) (hlc : C.length = 16) (hC : ∀ x ∈ C, x < 256) (n : Int) (u u' : TypeId) (p p' : Value) (w : World) (hE : Env3 (.iface u p) (.iface u' p') w) :
    Calls Tryz.prog 26 #[.agg (cid cs (ints C) n)] w fun e w' => e = .returned (.bool (contC cs C n cs C)) ∧ Below w.heap.size w w' := by
  obtain ⟨W0, hW0⟩ : ∃ W, W = w.alloc (.cells (cid cs (ints C) n) 48) := ⟨_, rfl⟩
  have hB0 : Blk W0 w.heap.size 48 (cid cs (ints C) n) := hW0 ▸ Blk.new w _ _
  have hb0 : Below w.heap.size w W0 := hW0 ▸ (Below.refl _ _).alloc (Nat.le_refl _) _
  have hli : (ints C).length = 16 := by rw [ints_length, hlc]
  have HW0 := Lib.hid hW0.symm
  have HB0 := Lib.hid hB0
  have Hb0 := Lib.hid hb0
  have HLi := Lib.hid hli
  have L18 : Hid (18 = (cid cs (ints C) n).size) := Lib.hid (by rw [cid_size, hli])
  have CC := Lib.hid (cont_any cs cs C C hlc hlc hC n u u' p p' W0 (hE.kept hb0))
  clear hW0 hB0 hb0 hli hlc hC hE
  go_enter Tryz.func26, Tryz.ntmps26
  go_upto_region 1 with fail
  rw [HW0.out]
  go_wp2_with (first | (refine wpl_load 48 _ rfl w.heap.size rfl _ _ _ HB0.out Tryz.underlying48 rfl 18 Tryz.infoCidr L18.out rfl ?_) | (refine wpl_load_addr _ rfl w.heap.size rfl cs (ints C) n HB0.out HLi.out rfl ?_))
  refine CC.out.mono ?_
  rintro e w2 ⟨rfl, hb2⟩
  go_wp2
  go_ret
  exact ⟨rfl, bel2 Hb0.out hb2⟩

set_option maxRecDepth 100000 in
set_option maxHeartbeats 4000000 in
theorem ccov_walk (cs ds : Bool) (cb db : List Int) (hlc : cb.length = 16) (hld : db.length = 16) (n m : Int) (r q : Bool) (EA ER : Value) (w : World) (hE : Env3 EA ER w)
    (cR : ∀ w, Env3 EA ER w → Calls Tryz.prog 26 #[.agg (cid ds db m)] w fun e w' => e = .returned (.bool r) ∧ Below w.heap.size w w')
    (cQ : ∀ w, Env3 EA ER w → Calls Tryz.prog 30 #[.agg (cid cs cb n), .agg (adr ds db)] w fun e w' => e = .returned (.bool q) ∧ Below w.heap.size w w') :
    Calls Tryz.prog 32 #[.agg (cid cs cb n), .agg (cid ds db m)] w fun e w' => e = .returned (.bool ((r && decide (n ≤ m)) && q)) ∧ Below w.heap.size w w' := by
  obtain ⟨W0, hW0⟩ : ∃ W, W = w.alloc (.cells (cid cs cb n) 48) := ⟨_, rfl⟩
  obtain ⟨W1, hW1⟩ : ∃ W, W = W0.alloc (.cells (cid ds db m) 48) := ⟨_, rfl⟩
  have hB0 : Blk W0 w.heap.size 48 (cid cs cb n) := hW0 ▸ Blk.new w _ _
  have hb0 : Below w.heap.size w W0 := hW0 ▸ (Below.refl _ _).alloc (Nat.le_refl _) _
  have hs0 : W0.heap.size = w.heap.size + 1 := by rw [hW0]; simp
  have hb1 : Below W0.heap.size W0 W1 := hW1 ▸ (Below.refl _ _).alloc (Nat.le_refl _) _
  have hB1 : Blk W1 (w.heap.size + 1) 48 (cid ds db m) := by rw [← hs0]; exact hW1 ▸ Blk.new W0 _ _
  have HW0 := Lib.hid hW0.symm
  have HW1 := Lib.hid hW1.symm
  have HBc : Hid (Blk W1 (w.heap.size) 48 (cid cs cb n)) := Lib.hid (hB0.kept hb1)
  have HBd := Lib.hid hB1
  have Hb0 : Hid (Below w.heap.size w W1) := Lib.hid (bel2 hb0 hb1)
  have HE := Lib.hid (hE.kept Hb0.out)
  have L18 : Hid (18 = (cid cs cb n).size) := Lib.hid (by rw [cid_size, hlc])
  have L18d : Hid (18 = (cid ds db m).size) := Lib.hid (by rw [cid_size, hld])
  have LD := Lib.hid hld
  have LC := Lib.hid hlc
  have CR := Lib.hid cR
  have CQ := Lib.hid cQ
  clear hW0 hW1 hB0 hb0 hb1 hB1 hlc hld cR cQ hs0 hE
  go_enter Tryz.func32, Tryz.ntmps32
  go_upto_region 1 with fail
  rw [HW0.out]
  rw [HW1.out]
  go_wp2_with (refine wpl_load 48 _ rfl (w.heap.size + 1) rfl _ _ _ HBd.out Tryz.underlying48 rfl 18 Tryz.infoCidr L18d.out rfl ?_)
  refine (CR.out W1 HE.out).mono ?_
  rintro e w1 ⟨rfl, hb1⟩
  have HBc1 := Lib.hid (HBc.out.kept hb1)
  have HBd1 := Lib.hid (HBd.out.kept hb1)
  have Hb1 := Lib.hid (bel2 Hb0.out hb1)
  have HE1 := Lib.hid (HE.out.kept hb1)
  have c0 : w1.cell? ⟨w.heap.size, 17, none⟩ = some (.int .i64 n) := cid_bitsCell HBc1.out LC.out
  have c1 : w1.cell? ⟨w.heap.size + 1, 17, none⟩ = some (.int .i64 m) := cid_bitsCell HBd1.out LD.out
  clear hb1
  cases r with
  | false =>
    go_wp2
    go_ret
    exact ⟨rfl, Hb1.out⟩
  | true =>
    by_cases hnm : n ≤ m
    · have qn : decide (n ≤ m) = true := decide_eq_true hnm
      go_wp2_with (first | (refine wpl_load 48 _ rfl w.heap.size rfl _ _ _ HBc1.out Tryz.underlying48 rfl 18 Tryz.infoCidr L18.out rfl ?_) | (refine wpl_load_addr _ rfl (w.heap.size + 1) rfl ds db m HBd1.out LD.out rfl ?_))
      refine (CQ.out w1 HE1.out).mono ?_
      rintro e w2 ⟨rfl, hb2⟩
      have HQn := Lib.hid qn
      go_wp2
      go_ret
      exact ⟨by rw [HQn.out]; rfl, bel2 Hb1.out hb2⟩
    · have qn : decide (n ≤ m) = false := decide_eq_false hnm
      have HQn := Lib.hid qn
      go_wp2
      go_ret
      exact ⟨by rw [HQn.out]; rfl, Hb1.out⟩
end Go.Proofs.YtambnnahgbegfaaGreatDoor
