/-
  addr.Bytes, addr.Put, and the document's Put: the bytes of an address.
-/
import Derived.Test.YtnfkgoeocebenaaGreatDoorKfrom
import Derived.Test.YtnfkgoeocebenaaGreatDoorBits
namespace Go.Proofs.YtnfkgoeocebenaaGreatDoor
open Go.RowKit

/-- What a call ends in that answers bytes in memory of its own. -/
def OwnEnd (l : List Int) (w : World) (e : Ending) (w' : World) : Prop :=
  ∃ v, e = .returned v ∧ w'.ownsRow w.heap.size 5 1 v l.length (l.map (Value.int .u8)) ∧ Below w.heap.size w w'

theorem adr_src {w : World} {g : Nat} {s : Bool} {b : List Int} (h : Blk w g 24 (adr s b)) (n : Nat) (hn : n ≤ b.length) : ∀ j u, ((b.take n).map (Value.int .u8))[j]? = some u → w.cell? ((⟨g, 1, none⟩ : Addr).add j) = some u := fun j u hu => by
  rw [List.getElem?_map] at hu
  obtain ⟨x, hx, rfl⟩ := Option.map_eq_some_iff.1 hu
  have hj : j < (b.take n).length := (List.getElem?_eq_some_iff.1 hx).1
  rw [List.length_take] at hj
  rw [List.getElem?_take_of_lt (by omega)] at hx
  rw [add_plain, h.cell, adr_at s b j (by omega), nth, List.getD, hx]
  rfl

theorem own_below {w w' : World} {base : Nat} {e : TypeId} {size : Nat} {v : Value} {n : Nat} {xs : List Value} (h : w.ownsRow base e size v n xs) (hb : Below w.heap.size w w') : w'.ownsRow base e size v n xs := by
  refine ⟨h.1, ?_⟩
  rcases h.2 with h' | ⟨g, cap, cur, h1, h2, h3, h4⟩
  · exact .inl h'
  · exact .inr ⟨g, cap, cur, h1, h2, by rw [hb.block g (Array.getElem?_eq_some_iff.1 h3).1]; exact h3, h4⟩
theorem own_mono {w : World} {base base' : Nat} {e : TypeId} {size : Nat} {v : Value} {n : Nat} {xs : List Value} (h : w.ownsRow base e size v n xs) (hb : base' ≤ base) : w.ownsRow base' e size v n xs := by
  refine ⟨h.1, ?_⟩
  rcases h.2 with h' | ⟨g, cap, cur, h1, h2, h3⟩
  · exact .inl h'
  · exact .inr ⟨g, cap, cur, h1, Nat.le_trans hb h2, h3⟩

/-- The bytes of an address as it is put. -/
def putA (s : Bool) (b : List Int) : List Int := if s then 6 :: b.take 16 else 4 :: b.take 4
theorem putA_len (s : Bool) (b : List Int) (hl : b.length = 16) : (putA s b).length = if s then 17 else 5 := by
  cases s <;> simp [putA, hl]

set_option maxRecDepth 100000 in
set_option maxHeartbeats 1000000 in
theorem abytes_false (b : List Int) (hl : b.length = 16) (w : World) : Calls Tryz.prog 9 #[.agg (adr false b)] w (OwnEnd (b.take 4) w) := by
  obtain ⟨W0, hW0⟩ : ∃ W, W = w.alloc (.cells (adr false b) 24) := ⟨_, rfl⟩
  have hB0 : Blk W0 w.heap.size 24 (adr false b) := hW0 ▸ Blk.new w _ _
  have hb0 : Below w.heap.size w W0 := hW0 ▸ (Below.refl _ _).alloc (Nat.le_refl _) _
  have HW0 := Lib.hid hW0.symm
  have HB0 := Lib.hid hB0
  have Hb0 := Lib.hid hb0
  have L17 : Hid (17 = (adr false b).size) := Lib.hid (by rw [adr_size, hl])
  obtain ⟨i0, hi, hp⟩ := Option.map_eq_some_iff.1 Tryz.infoByte
  simp only [Prod.mk.injEq] at hp
  obtain ⟨hz1, hz0, hz2⟩ := hp
  have HZ2 := Lib.hid hz2
  have HL := Lib.hid hl
  have hln : (b.take 4).length = 4 := by rw [List.length_take, hl]; rfl
  obtain ⟨cs, hcs⟩ : ∃ cs, cs = (b.take 4).map (Value.int .u8) := ⟨_, rfl⟩
  have Hn : Hid (cs.length = 4) := Lib.hid (by rw [hcs, List.length_map, hln])
  have H1 : Hid (∀ v ∈ cs, v.oneCell' = true) := Lib.hid (by rw [hcs]; exact bytes_one _)
  have HS : Hid (∀ w', Blk w' w.heap.size 24 (adr false b) → ∀ j u, cs[j]? = some u → w'.cell? ((⟨w.heap.size, 1, none⟩ : Addr).add j) = some u) := Lib.hid (fun w' h => by rw [hcs]; exact adr_src h 4 (by omega))
  have HCs := Lib.hid hcs
  have HLn := Lib.hid hln
  clear hW0 hB0 hb0 hl hln hcs hz2
  go_enter Tryz.func9, Tryz.ntmps9
  go_upto_region 1 with fail
  rw [HW0.out]
  go_wp2_with (refine wpl_load 24 _ rfl w.heap.size rfl _ _ _ HB0.out Tryz.underlying24 rfl 17 Tryz.infoAddr L17.out rfl ?_)
  refine (size_any false b W0).mono ?_
  rintro e w1 ⟨rfl, hb1⟩
  have HB1 := Lib.hid (HB0.out.kept hb1)
  have Hb1 := Lib.hid (bel2 Hb0.out hb1)
  clear hb1
  go_upto_region 2 with (first | (refine wpList_make_full _ rfl (.tmp 5) (.tmp 5) 25 rfl w1.heap.size 5 i0 (.int .u8 0) 1 Tryz.underlying25 hi hz0 hz1 .i64 .i64 4 4 4 rfl rfl rfl rfl (by rw [HZ2.out]; omega) (by decide) (Nat.le_refl _) ?_; intro w2 hown hgrow) | fail)
  have hb2 : Below w1.heap.size w1 w2 := (Below.refl _ _).grown hgrow (Nat.le_refl _) (fun k hk => by cases hk)
  have hlt : w.heap.size < w1.heap.size := HB1.out.lt
  have hR := own_blk hown
  obtain ⟨Z, hZ⟩ : ∃ Z : List Value, Z.length = 4 ∧ Blk w2 w1.heap.size 5 Z.toArray := ⟨_, by simpa using hown.1, hR⟩
  have HB2 := Lib.hid (HB1.out.kept hb2)
  have Hb2 := Lib.hid (bel2 Hb1.out hb2)
  have HZ := Lib.hid hZ
  clear hown hgrow hb2 hR hZ
  go_upto_region 3 with ((show wpList _ _ _ (⟨some 10, _, _, _, _, _⟩ :: _) _ _); go_must (refine wpList_copy_splice rfl (.tmp 7) (.tmp 9) 25 25 rfl 5 Tryz.underlying25 Tryz.oneU8x (some ⟨w1.heap.size, 0, none⟩) (some ⟨w.heap.size, 1, none⟩) 4 4 16 16 rfl rfl w1.heap.size 0 Z 5 HZ.out.2 cs (by rw [Hn.out]; rfl) (fun _ => ⟨rfl, _, rfl, HS.out w2 HB2.out⟩) (by rw [Hn.out, HZ.out.1]; decide) H1.out w1.heap.size w2 (Below.refl _ _) (Nat.le_refl _) ?_; intro w3 HG3 hB3))
  have F : Hid (OwnEnd (b.take 4) w (.returned (.slice (some ⟨w1.heap.size, 0, none⟩) 4 4)) w3) := Lib.hid ⟨_, rfl, by
    rw [HLn.out, ← HCs.out]
    refine ⟨by rw [Hn.out], .inr ⟨w1.heap.size, 4, (splice Z 0 cs).toArray, rfl, Nat.le_of_lt hlt, HG3.out, Nat.le_refl _, by decide, ?_, ?_⟩⟩
    · rw [List.size_toArray, length_splice Z 0 cs (by rw [Hn.out, HZ.out.1]; decide), HZ.out.1]
    · unfold splice
      rw [List.take_zero, List.nil_append, List.take_left' (by rw [Hn.out])], Hb2.out.trans (hB3.mono (Nat.le_of_lt hlt))⟩
  clear HG3 hB3
  go_wp2
  go_ret
  exact F.out

set_option maxRecDepth 100000 in
set_option maxHeartbeats 1000000 in
theorem aput_false (b : List Int) (hl : b.length = 16) (w : World) : Calls Tryz.prog 11 #[.agg (adr false b)] w (OwnEnd (putA false b) w) := by
  obtain ⟨W0, hW0⟩ : ∃ W, W = w.alloc (.cells (adr false b) 24) := ⟨_, rfl⟩
  have hB0 : Blk W0 w.heap.size 24 (adr false b) := hW0 ▸ Blk.new w _ _
  have hb0 : Below w.heap.size w W0 := hW0 ▸ (Below.refl _ _).alloc (Nat.le_refl _) _
  have h0 : W0.cell? ⟨w.heap.size, 0, none⟩ = some (.bool false) := by rw [hB0.cell]; rfl
  obtain ⟨W1, hW1⟩ : ∃ W, W = W0.alloc (.cells #[.int .u8 4] 5) := ⟨_, rfl⟩
  have hb1 : Below W0.heap.size W0 W1 := hW1 ▸ (Below.refl _ _).alloc (Nat.le_refl _) _
  have HW0 := Lib.hid hW0.symm
  have HW1 := Lib.hid hW1.symm
  have HB1 := Lib.hid (hB0.kept hb1)
  have Hb1 := Lib.hid (bel2 hb0 hb1)
  have L17 : Hid (17 = (adr false b).size) := Lib.hid (by rw [adr_size, hl])
  obtain ⟨i0, hi, hp⟩ := Option.map_eq_some_iff.1 Tryz.infoByte
  simp only [Prod.mk.injEq] at hp
  obtain ⟨hz1, hz0, hz2⟩ := hp
  have hln : (b.take 4).length = 4 := by rw [List.length_take, hl]; rfl
  have hlt : w.heap.size < W0.heap.size := hB0.lt
  have HO : Hid (W1.ownsRow W0.heap.size 5 1 (.slice (some ⟨W0.heap.size, 0, none⟩) 1 1) 1 [.int .u8 4]) := Lib.hid (hW1 ▸ World.ownsRow_lit W0 _ 1 (Nat.le_refl _) (by decide) rfl)
  have HC := Lib.hid (abytes_false b hl W1)
  have HLn := Lib.hid hln
  have HL := Lib.hid hl
  have Hsz1 : Hid (W0.heap.size ≤ W1.heap.size) := Lib.hid hb1.size
  clear hW0 hB0 hb0 hW1 hb1 hl hln
  go_enter Tryz.func11, Tryz.ntmps11
  go_upto_region 1 with fail
  rw [HW0.out]
  go_wp2_with ((try rw [HW1.out]); refine wpl_load 24 _ rfl w.heap.size rfl _ _ _ HB1.out Tryz.underlying24 rfl 17 Tryz.infoAddr L17.out rfl ?_)
  refine HC.out.mono ?_
  rintro e w2 ⟨v, rfl, hown, hb2⟩
  rw [HLn.out] at hown
  obtain ⟨g, cap, rfl, _, _, _⟩ := own_shape hown (by decide)
  have HCell := Lib.hid (World.ownsRow.cells hown rfl)
  have HO2 := Lib.hid (own_below HO.out hb2)
  have hb3 : Below w.heap.size w w2 := bel2 Hb1.out hb2
  have Hsz : Hid (W0.heap.size ≤ w2.heap.size) := Lib.hid (Nat.le_trans Hsz1.out hb2.size)
  clear hown hb2
  go_wp2_with (at_builtin; refine wpList_append_own _ rfl (.tmp 7) (.tmp 9) 25 rfl W0.heap.size 5 i0 (.int .u8 0) 1 1 Tryz.underlying25 hi hz0 hz1 hz2 rfl (by decide) _ 1 _ rfl HO2.out ⟨g, 0, none⟩ 4 cap ((b.take 4).map (Value.int .u8)) rfl (by rw [List.length_map, HLn.out]) HCell.out (bytes_one _) (by decide) (by decide) Hsz.out ?_; intro v' w3 hown hgrow _)
  go_ret
  refine ⟨v', rfl, ?_, hb3.grown hgrow (by have := hb3.size; omega) (fun k hk => by
    have : W0.heap.size = k := by simpa [Act.eval, Value.ownBlock] using hk
    omega)⟩
  have e1 : (putA false b).length = 1 + 4 := by rw [putA_len false b HL.out]; rfl
  rw [e1]
  exact own_mono hown (Nat.le_of_lt hlt)

set_option maxRecDepth 100000 in
set_option maxHeartbeats 1000000 in
theorem rput_false (b : List Int) (hl : b.length = 16) (w : World) : Calls Tryz.prog 12 #[.agg (adr false b)] w (OwnEnd (putA false b) w) := by
  obtain ⟨W0, hW0⟩ : ∃ W, W = w.alloc (.cells (adr false b) 24) := ⟨_, rfl⟩
  have hB0 : Blk W0 w.heap.size 24 (adr false b) := hW0 ▸ Blk.new w _ _
  have hb0 : Below w.heap.size w W0 := hW0 ▸ (Below.refl _ _).alloc (Nat.le_refl _) _
  have h0 : W0.cell? ⟨w.heap.size, 0, none⟩ = some (.bool false) := by rw [hB0.cell]; rfl
  obtain ⟨W1, hW1⟩ : ∃ W, W = W0.alloc (.cells #[.int .u8 4] 5) := ⟨_, rfl⟩
  have hb1 : Below W0.heap.size W0 W1 := hW1 ▸ (Below.refl _ _).alloc (Nat.le_refl _) _
  have HW0 := Lib.hid hW0.symm
  have HW1 := Lib.hid hW1.symm
  have hb3 : Below w.heap.size w W1 := bel2 hb0 hb1
  obtain ⟨i0, hi, hp⟩ := Option.map_eq_some_iff.1 Tryz.infoByte
  simp only [Prod.mk.injEq] at hp
  obtain ⟨hz1, hz0, hz2⟩ := hp
  have hln : (b.take 4).length = 4 := by rw [List.length_take, hl]; rfl
  have hlt : w.heap.size < W0.heap.size := hB0.lt
  have HO2 : Hid (W1.ownsRow W0.heap.size 5 1 (.slice (some ⟨W0.heap.size, 0, none⟩) 1 1) 1 [.int .u8 4]) := Lib.hid (hW1 ▸ World.ownsRow_lit W0 _ 1 (Nat.le_refl _) (by decide) rfl)
  have HCell := Lib.hid (adr_src (hB0.kept hb1) 4 (by omega))
  have HLn := Lib.hid hln
  have HL := Lib.hid hl
  have Hsz : Hid (W0.heap.size ≤ W1.heap.size) := Lib.hid hb1.size
  have Hb3 := Lib.hid hb3
  clear hW0 hB0 hb0 hW1 hb1 hl hln hb3
  go_enter Tryz.func12, Tryz.ntmps12
  go_upto_region 1 with fail
  rw [HW0.out]
  go_wp2_with (at_builtin; (try rw [HW1.out]); refine wpList_append_own _ rfl (.tmp 9) (.tmp 11) 25 rfl W0.heap.size 5 i0 (.int .u8 0) 1 1 Tryz.underlying25 hi hz0 hz1 hz2 rfl (by decide) _ 1 _ rfl HO2.out ⟨w.heap.size, 1, none⟩ 4 16 ((b.take 4).map (Value.int .u8)) rfl (by rw [List.length_map, HLn.out]) HCell.out (bytes_one _) (by decide) (by decide) Hsz.out ?_; intro v' w3 hown hgrow _)
  go_ret
  refine ⟨v', rfl, ?_, Hb3.out.grown hgrow (by have := Hb3.out.size; omega) (fun k hk => by
    have : W0.heap.size = k := by simpa [Act.eval, Value.ownBlock] using hk
    omega)⟩
  have e1 : (putA false b).length = 1 + 4 := by rw [putA_len false b HL.out]; rfl
  rw [e1]
  exact own_mono hown (Nat.le_of_lt hlt)

set_option maxRecDepth 100000 in
set_option maxHeartbeats 1000000 in
theorem abytes_true (b : List Int) (hl : b.length = 16) (w : World) : Calls Tryz.prog 9 #[.agg (adr true b)] w (OwnEnd (b.take 16) w) := by
  obtain ⟨W0, hW0⟩ : ∃ W, W = w.alloc (.cells (adr true b) 24) := ⟨_, rfl⟩
  have hB0 : Blk W0 w.heap.size 24 (adr true b) := hW0 ▸ Blk.new w _ _
  have hb0 : Below w.heap.size w W0 := hW0 ▸ (Below.refl _ _).alloc (Nat.le_refl _) _
  have HW0 := Lib.hid hW0.symm
  have HB0 := Lib.hid hB0
  have Hb0 := Lib.hid hb0
  have L17 : Hid (17 = (adr true b).size) := Lib.hid (by rw [adr_size, hl])
  obtain ⟨i0, hi, hp⟩ := Option.map_eq_some_iff.1 Tryz.infoByte
  simp only [Prod.mk.injEq] at hp
  obtain ⟨hz1, hz0, hz2⟩ := hp
  have HZ2 := Lib.hid hz2
  have HL := Lib.hid hl
  have hln : (b.take 16).length = 16 := by rw [List.length_take, hl]; rfl
  obtain ⟨cs, hcs⟩ : ∃ cs, cs = (b.take 16).map (Value.int .u8) := ⟨_, rfl⟩
  have Hn : Hid (cs.length = 16) := Lib.hid (by rw [hcs, List.length_map, hln])
  have H1 : Hid (∀ v ∈ cs, v.oneCell' = true) := Lib.hid (by rw [hcs]; exact bytes_one _)
  have HS : Hid (∀ w', Blk w' w.heap.size 24 (adr true b) → ∀ j u, cs[j]? = some u → w'.cell? ((⟨w.heap.size, 1, none⟩ : Addr).add j) = some u) := Lib.hid (fun w' h => by rw [hcs]; exact adr_src h 16 (by omega))
  have HCs := Lib.hid hcs
  have HLn := Lib.hid hln
  clear hW0 hB0 hb0 hl hln hcs hz2
  go_enter Tryz.func9, Tryz.ntmps9
  go_upto_region 1 with fail
  rw [HW0.out]
  go_wp2_with (refine wpl_load 24 _ rfl w.heap.size rfl _ _ _ HB0.out Tryz.underlying24 rfl 17 Tryz.infoAddr L17.out rfl ?_)
  refine (size_any true b W0).mono ?_
  rintro e w1 ⟨rfl, hb1⟩
  have HB1 := Lib.hid (HB0.out.kept hb1)
  have Hb1 := Lib.hid (bel2 Hb0.out hb1)
  clear hb1
  go_upto_region 2 with (first | (refine wpList_make_full _ rfl (.tmp 5) (.tmp 5) 25 rfl w1.heap.size 5 i0 (.int .u8 0) 1 Tryz.underlying25 hi hz0 hz1 .i64 .i64 16 16 16 rfl rfl rfl rfl (by rw [HZ2.out]; omega) (by decide) (Nat.le_refl _) ?_; intro w2 hown hgrow) | fail)
  have hb2 : Below w1.heap.size w1 w2 := (Below.refl _ _).grown hgrow (Nat.le_refl _) (fun k hk => by cases hk)
  have hlt : w.heap.size < w1.heap.size := HB1.out.lt
  have hR := own_blk hown
  obtain ⟨Z, hZ⟩ : ∃ Z : List Value, Z.length = 16 ∧ Blk w2 w1.heap.size 5 Z.toArray := ⟨_, by simpa using hown.1, hR⟩
  have HB2 := Lib.hid (HB1.out.kept hb2)
  have Hb2 := Lib.hid (bel2 Hb1.out hb2)
  have HZ := Lib.hid hZ
  clear hown hgrow hb2 hR hZ
  go_upto_region 3 with ((show wpList _ _ _ (⟨some 10, _, _, _, _, _⟩ :: _) _ _); go_must (refine wpList_copy_splice rfl (.tmp 7) (.tmp 9) 25 25 rfl 5 Tryz.underlying25 Tryz.oneU8x (some ⟨w1.heap.size, 0, none⟩) (some ⟨w.heap.size, 1, none⟩) 16 16 16 16 rfl rfl w1.heap.size 0 Z 5 HZ.out.2 cs (by rw [Hn.out]; rfl) (fun _ => ⟨rfl, _, rfl, HS.out w2 HB2.out⟩) (by rw [Hn.out, HZ.out.1]; decide) H1.out w1.heap.size w2 (Below.refl _ _) (Nat.le_refl _) ?_; intro w3 HG3 hB3))
  have F : Hid (OwnEnd (b.take 16) w (.returned (.slice (some ⟨w1.heap.size, 0, none⟩) 16 16)) w3) := Lib.hid ⟨_, rfl, by
    rw [HLn.out, ← HCs.out]
    refine ⟨by rw [Hn.out], .inr ⟨w1.heap.size, 16, (splice Z 0 cs).toArray, rfl, Nat.le_of_lt hlt, HG3.out, Nat.le_refl _, by decide, ?_, ?_⟩⟩
    · rw [List.size_toArray, length_splice Z 0 cs (by rw [Hn.out, HZ.out.1]; decide), HZ.out.1]
    · unfold splice
      rw [List.take_zero, List.nil_append, List.take_left' (by rw [Hn.out])], Hb2.out.trans (hB3.mono (Nat.le_of_lt hlt))⟩
  clear HG3 hB3
  go_wp2
  go_ret
  exact F.out

set_option maxRecDepth 100000 in
set_option maxHeartbeats 1000000 in
theorem aput_true (b : List Int) (hl : b.length = 16) (w : World) : Calls Tryz.prog 11 #[.agg (adr true b)] w (OwnEnd (putA true b) w) := by
  obtain ⟨W0, hW0⟩ : ∃ W, W = w.alloc (.cells (adr true b) 24) := ⟨_, rfl⟩
  have hB0 : Blk W0 w.heap.size 24 (adr true b) := hW0 ▸ Blk.new w _ _
  have hb0 : Below w.heap.size w W0 := hW0 ▸ (Below.refl _ _).alloc (Nat.le_refl _) _
  have h0 : W0.cell? ⟨w.heap.size, 0, none⟩ = some (.bool true) := by rw [hB0.cell]; rfl
  obtain ⟨W1, hW1⟩ : ∃ W, W = W0.alloc (.cells #[.int .u8 6] 5) := ⟨_, rfl⟩
  have hb1 : Below W0.heap.size W0 W1 := hW1 ▸ (Below.refl _ _).alloc (Nat.le_refl _) _
  have HW0 := Lib.hid hW0.symm
  have HW1 := Lib.hid hW1.symm
  have HB1 := Lib.hid (hB0.kept hb1)
  have Hb1 := Lib.hid (bel2 hb0 hb1)
  have L17 : Hid (17 = (adr true b).size) := Lib.hid (by rw [adr_size, hl])
  obtain ⟨i0, hi, hp⟩ := Option.map_eq_some_iff.1 Tryz.infoByte
  simp only [Prod.mk.injEq] at hp
  obtain ⟨hz1, hz0, hz2⟩ := hp
  have hln : (b.take 16).length = 16 := by rw [List.length_take, hl]; rfl
  have hlt : w.heap.size < W0.heap.size := hB0.lt
  have HO : Hid (W1.ownsRow W0.heap.size 5 1 (.slice (some ⟨W0.heap.size, 0, none⟩) 1 1) 1 [.int .u8 6]) := Lib.hid (hW1 ▸ World.ownsRow_lit W0 _ 1 (Nat.le_refl _) (by decide) rfl)
  have HC := Lib.hid (abytes_true b hl W1)
  have HLn := Lib.hid hln
  have HL := Lib.hid hl
  have Hsz1 : Hid (W0.heap.size ≤ W1.heap.size) := Lib.hid hb1.size
  clear hW0 hB0 hb0 hW1 hb1 hl hln
  go_enter Tryz.func11, Tryz.ntmps11
  go_upto_region 1 with fail
  rw [HW0.out]
  go_wp2_with ((try rw [HW1.out]); refine wpl_load 24 _ rfl w.heap.size rfl _ _ _ HB1.out Tryz.underlying24 rfl 17 Tryz.infoAddr L17.out rfl ?_)
  refine HC.out.mono ?_
  rintro e w2 ⟨v, rfl, hown, hb2⟩
  rw [HLn.out] at hown
  obtain ⟨g, cap, rfl, _, _, _⟩ := own_shape hown (by decide)
  have HCell := Lib.hid (World.ownsRow.cells hown rfl)
  have HO2 := Lib.hid (own_below HO.out hb2)
  have hb3 : Below w.heap.size w w2 := bel2 Hb1.out hb2
  have Hsz : Hid (W0.heap.size ≤ w2.heap.size) := Lib.hid (Nat.le_trans Hsz1.out hb2.size)
  clear hown hb2
  go_wp2_with (at_builtin; refine wpList_append_own _ rfl (.tmp 7) (.tmp 9) 25 rfl W0.heap.size 5 i0 (.int .u8 0) 1 1 Tryz.underlying25 hi hz0 hz1 hz2 rfl (by decide) _ 1 _ rfl HO2.out ⟨g, 0, none⟩ 16 cap ((b.take 16).map (Value.int .u8)) rfl (by rw [List.length_map, HLn.out]) HCell.out (bytes_one _) (by decide) (by decide) Hsz.out ?_; intro v' w3 hown hgrow _)
  go_ret
  refine ⟨v', rfl, ?_, hb3.grown hgrow (by have := hb3.size; omega) (fun k hk => by
    have : W0.heap.size = k := by simpa [Act.eval, Value.ownBlock] using hk
    omega)⟩
  have e1 : (putA true b).length = 1 + 16 := by rw [putA_len true b HL.out]; rfl
  rw [e1]
  exact own_mono hown (Nat.le_of_lt hlt)

set_option maxRecDepth 100000 in
set_option maxHeartbeats 1000000 in
theorem rput_true (b : List Int) (hl : b.length = 16) (w : World) : Calls Tryz.prog 12 #[.agg (adr true b)] w (OwnEnd (putA true b) w) := by
  obtain ⟨W0, hW0⟩ : ∃ W, W = w.alloc (.cells (adr true b) 24) := ⟨_, rfl⟩
  have hB0 : Blk W0 w.heap.size 24 (adr true b) := hW0 ▸ Blk.new w _ _
  have hb0 : Below w.heap.size w W0 := hW0 ▸ (Below.refl _ _).alloc (Nat.le_refl _) _
  have h0 : W0.cell? ⟨w.heap.size, 0, none⟩ = some (.bool true) := by rw [hB0.cell]; rfl
  obtain ⟨W1, hW1⟩ : ∃ W, W = W0.alloc (.cells #[.int .u8 6] 5) := ⟨_, rfl⟩
  have hb1 : Below W0.heap.size W0 W1 := hW1 ▸ (Below.refl _ _).alloc (Nat.le_refl _) _
  have HW0 := Lib.hid hW0.symm
  have HW1 := Lib.hid hW1.symm
  have hb3 : Below w.heap.size w W1 := bel2 hb0 hb1
  obtain ⟨i0, hi, hp⟩ := Option.map_eq_some_iff.1 Tryz.infoByte
  simp only [Prod.mk.injEq] at hp
  obtain ⟨hz1, hz0, hz2⟩ := hp
  have hln : (b.take 16).length = 16 := by rw [List.length_take, hl]; rfl
  have hlt : w.heap.size < W0.heap.size := hB0.lt
  have HO2 : Hid (W1.ownsRow W0.heap.size 5 1 (.slice (some ⟨W0.heap.size, 0, none⟩) 1 1) 1 [.int .u8 6]) := Lib.hid (hW1 ▸ World.ownsRow_lit W0 _ 1 (Nat.le_refl _) (by decide) rfl)
  have HCell := Lib.hid (adr_src (hB0.kept hb1) 16 (by omega))
  have HLn := Lib.hid hln
  have HL := Lib.hid hl
  have Hsz : Hid (W0.heap.size ≤ W1.heap.size) := Lib.hid hb1.size
  have Hb3 := Lib.hid hb3
  clear hW0 hB0 hb0 hW1 hb1 hl hln hb3
  go_enter Tryz.func12, Tryz.ntmps12
  go_upto_region 1 with fail
  rw [HW0.out]
  go_wp2_with (at_builtin; (try rw [HW1.out]); refine wpList_append_own _ rfl (.tmp 5) (.tmp 7) 25 rfl W0.heap.size 5 i0 (.int .u8 0) 1 1 Tryz.underlying25 hi hz0 hz1 hz2 rfl (by decide) _ 1 _ rfl HO2.out ⟨w.heap.size, 1, none⟩ 16 16 ((b.take 16).map (Value.int .u8)) rfl (by rw [List.length_map, HLn.out]) HCell.out (bytes_one _) (by decide) (by decide) Hsz.out ?_; intro v' w3 hown hgrow _)
  go_ret
  refine ⟨v', rfl, ?_, Hb3.out.grown hgrow (by have := Hb3.out.size; omega) (fun k hk => by
    have : W0.heap.size = k := by simpa [Act.eval, Value.ownBlock] using hk
    omega)⟩
  have e1 : (putA true b).length = 1 + 16 := by rw [putA_len true b HL.out]; rfl
  rw [e1]
  exact own_mono hown (Nat.le_of_lt hlt)

theorem aput_any (s : Bool) (b : List Int) (hl : b.length = 16) (w : World) : Calls Tryz.prog 11 #[.agg (adr s b)] w (OwnEnd (putA s b) w) := by
  cases s with
  | true => exact aput_true b hl w
  | false => exact aput_false b hl w
theorem rput_any (s : Bool) (b : List Int) (hl : b.length = 16) (w : World) : Calls Tryz.prog 12 #[.agg (adr s b)] w (OwnEnd (putA s b) w) := by
  cases s with
  | true => exact rput_true b hl w
  | false => exact rput_false b hl w
end Go.Proofs.YtnfkgoeocebenaaGreatDoor
