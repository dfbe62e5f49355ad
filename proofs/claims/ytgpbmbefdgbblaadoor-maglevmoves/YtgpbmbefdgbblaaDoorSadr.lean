/-
  What layer 6 asks of addresses: their cells, addr.size, addr.Bytes.
-/
import Derived.Test.YtgpbmbefdgbblaaDoorNkit
import Derived.Deep.DeepMust
import Derived.Laws.CopyOwn
import Derived.OwnWalk
import Derived.Laws.OwnMore
import Derived.Deep.Cut
namespace Go.Proofs.YtgpbmbefdgbblaaDoor
open Go.RowKit

theorem ret_int {k : IntKind} {a b : Int} (h : a = b) : Ending.returned (.int k a) = .returned (.int k b) := by rw [h]

/-- What stands at a place of a list; 0 behind its end. -/
def nth (b : List Int) (i : Nat) : Int := b.getD i 0

/-- An address's cells. -/
def adr (six : Bool) (b : List Int) : Array Value := (Value.bool six :: b.map (Value.int .u8)).toArray
theorem adr_size (six : Bool) (b : List Int) : (adr six b).size = b.length + 1 := by simp [adr]
theorem adr_zero (six : Bool) (b : List Int) : (adr six b)[0]? = some (.bool six) := rfl
theorem adr_at (six : Bool) (b : List Int) (i : Nat) (h : i < b.length) : (adr six b)[1 + i]? = some (.int .u8 (nth b i)) := by
  simp [adr, nth, Nat.add_comm 1 i, List.getElem?_eq_getElem h, List.getD]
theorem adr_one (six : Bool) (b : List Int) : (adr six b).all (·.oneCell') = true := by
  rw [Array.all_eq_true_iff_forall_mem]
  intro v hv
  simp only [adr, List.mem_toArray, List.mem_cons, List.mem_map] at hv
  rcases hv with rfl | ⟨x, _, rfl⟩ <;> rfl

theorem Tryd.infoAddr : (Tryd.prog.info? 34).map (·.size) = some 17 := by kernel_rfl

set_option maxHeartbeats 400000 in
theorem size_any (six : Bool) (b : List Int) (w : World) : Calls Tryd.prog 87 #[.agg (adr six b)] w fun e w' => e = .returned (.int .i64 (if six then 16 else 4)) ∧ Below w.heap.size w w' := by
  have h0 := adr_zero six b
  cases six
  all_goals
    go_enter Tryd.func87, Tryd.ntmps87
    go_wp2
    go_ret
    exact ⟨rfl, (Below.refl _ _).alloc (Nat.le_refl _) _⟩

theorem add_plain (b off k : Nat) : (⟨b, off, none⟩ : Addr).add k = ⟨b, off + k, none⟩ := by unfold Addr.add; split <;> simp_all

theorem Tryd.infoByte : (Tryd.prog.info? 5).map (fun i => (i.size, i.zero, i.bytes)) = some (1, some (.int .u8 0), 1) := by kernel_rfl

theorem bytes_one (bs : List Int) : ∀ u ∈ bs.map (Value.int .u8), u.oneCell' = true := by
  intro u hu
  obtain ⟨x, _, rfl⟩ := List.mem_map.1 hu
  rfl

theorem Tryd.oneU8x : (Tryd.prog.info? 5).map (·.size) = some 1 := by kernel_rfl

/-- What a call ends in that answers bytes in memory of its own. -/
def OwnEnd (l : List Int) (w : World) (e : Ending) (w' : World) : Prop :=
  ∃ v, e = .returned v ∧ w'.ownsRow w.heap.size 5 1 v l.length (l.map (Value.int .u8)) ∧ Below w.heap.size w w'

theorem adr_src {w : World} {g : Nat} {s : Bool} {b : List Int} (h : Blk w g 34 (adr s b)) (n : Nat) (hn : n ≤ b.length) : ∀ j u, ((b.take n).map (Value.int .u8))[j]? = some u → w.cell? ((⟨g, 1, none⟩ : Addr).add j) = some u := fun j u hu => by
  rw [List.getElem?_map] at hu
  obtain ⟨x, hx, rfl⟩ := Option.map_eq_some_iff.1 hu
  have hj : j < (b.take n).length := (List.getElem?_eq_some_iff.1 hx).1
  rw [List.length_take] at hj
  rw [List.getElem?_take_of_lt (by omega)] at hx
  rw [add_plain, h.cell, adr_at s b j (by omega), nth, List.getD, hx]
  rfl

theorem own_below {w w' : World} {base : Nat} {e : TypeId} {size : Nat} {v : Value} {n : Nat} {xs : List Value} (h : w.ownsRow base e size v n xs) (hb : Below w.heap.size w w') : w'.ownsRow base e size v n xs := by
  refine ⟨h.1, ?_⟩
  rcases h.2 with h' | ⟨g, cap, cur, h1, h2, h3, h4⟩
  · exact .inl h'
  · exact .inr ⟨g, cap, cur, h1, h2, by rw [hb.block g (Array.getElem?_eq_some_iff.1 h3).1]; exact h3, h4⟩
theorem own_mono {w : World} {base base' : Nat} {e : TypeId} {size : Nat} {v : Value} {n : Nat} {xs : List Value} (h : w.ownsRow base e size v n xs) (hb : base' ≤ base) : w.ownsRow base' e size v n xs := by
  refine ⟨h.1, ?_⟩
  rcases h.2 with h' | ⟨g, cap, cur, h1, h2, h3⟩
  · exact .inl h'
  · exact .inr ⟨g, cap, cur, h1, Nat.le_trans hb h2, h3⟩

set_option maxRecDepth 100000 in
set_option maxHeartbeats 1000000 in
theorem abytes_false (b : List Int) (hl : b.length = 16) (w : World) : Calls Tryd.prog 76 #[.agg (adr false b)] w (OwnEnd (b.take 4) w) := by
  obtain ⟨W0, hW0⟩ : ∃ W, W = w.alloc (.cells (adr false b) 34) := ⟨_, rfl⟩
  have hB0 : Blk W0 w.heap.size 34 (adr false b) := hW0 ▸ Blk.new w _ _
  have hb0 : Below w.heap.size w W0 := hW0 ▸ (Below.refl _ _).alloc (Nat.le_refl _) _
  have HW0 := Lib.hid hW0.symm
  have HB0 := Lib.hid hB0
  have Hb0 := Lib.hid hb0
  have L17 : Hid (17 = (adr false b).size) := Lib.hid (by rw [adr_size, hl])
  obtain ⟨i0, hi, hp⟩ := Option.map_eq_some_iff.1 Tryd.infoByte
  simp only [Prod.mk.injEq] at hp
  obtain ⟨hz1, hz0, hz2⟩ := hp
  have HZ2 := Lib.hid hz2
  have HL := Lib.hid hl
  have hln : (b.take 4).length = 4 := by rw [List.length_take, hl]; rfl
  obtain ⟨cs, hcs⟩ : ∃ cs, cs = (b.take 4).map (Value.int .u8) := ⟨_, rfl⟩
  have Hn : Hid (cs.length = 4) := Lib.hid (by rw [hcs, List.length_map, hln])
  have H1 : Hid (∀ v ∈ cs, v.oneCell' = true) := Lib.hid (by rw [hcs]; exact bytes_one _)
  have HS : Hid (∀ w', Blk w' w.heap.size 34 (adr false b) → ∀ j u, cs[j]? = some u → w'.cell? ((⟨w.heap.size, 1, none⟩ : Addr).add j) = some u) := Lib.hid (fun w' h => by rw [hcs]; exact adr_src h 4 (by omega))
  have HCs := Lib.hid hcs
  have HLn := Lib.hid hln
  clear hW0 hB0 hb0 hl hln hcs hz2
  go_enter Tryd.func76, Tryd.ntmps76
  go_upto_region 1 with fail
  rw [HW0.out]
  go_wp2_with (refine wpl_load 34 _ rfl w.heap.size rfl _ _ _ HB0.out Tryd.underlying34 rfl 17 Tryd.infoAddr L17.out rfl ?_)
  refine (size_any false b W0).mono ?_
  rintro e w1 ⟨rfl, hb1⟩
  have HB1 := Lib.hid (HB0.out.kept hb1)
  have Hb1 := Lib.hid (bel2 Hb0.out hb1)
  clear hb1
  go_upto_region 2 with (first | (refine wpList_make_full _ rfl (.tmp 5) (.tmp 5) 77 rfl w1.heap.size 5 i0 (.int .u8 0) 1 Tryd.underlying77 hi hz0 hz1 .i64 .i64 4 4 4 rfl rfl rfl rfl (by rw [HZ2.out]; omega) (by decide) (Nat.le_refl _) ?_; intro w2 hown hgrow) | fail)
  have hb2 : Below w1.heap.size w1 w2 := (Below.refl _ _).grown hgrow (Nat.le_refl _) (fun k hk => by cases hk)
  have hlt : w.heap.size < w1.heap.size := HB1.out.lt
  have hR := own_blk hown
  obtain ⟨Z, hZ⟩ : ∃ Z : List Value, Z.length = 4 ∧ Blk w2 w1.heap.size 5 Z.toArray := ⟨_, by simpa using hown.1, hR⟩
  have HB2 := Lib.hid (HB1.out.kept hb2)
  have Hb2 := Lib.hid (bel2 Hb1.out hb2)
  have HZ := Lib.hid hZ
  clear hown hgrow hb2 hR hZ
  go_upto_region 3 with ((show wpList _ _ _ (⟨some 10, _, _, _, _, _⟩ :: _) _ _); go_must (refine wpList_copy_splice rfl (.tmp 7) (.tmp 9) 77 77 rfl 5 Tryd.underlying77 Tryd.oneU8x (some ⟨w1.heap.size, 0, none⟩) (some ⟨w.heap.size, 1, none⟩) 4 4 16 16 rfl rfl w1.heap.size 0 Z 5 HZ.out.2 cs (by rw [Hn.out]; rfl) (fun _ => ⟨rfl, _, rfl, HS.out w2 HB2.out⟩) (by rw [Hn.out, HZ.out.1]; decide) H1.out w1.heap.size w2 (Below.refl _ _) (Nat.le_refl _) ?_; intro w3 HG3 hB3))
  have F : Hid (OwnEnd (b.take 4) w (.returned (.slice (some ⟨w1.heap.size, 0, none⟩) 4 4)) w3) := Lib.hid ⟨_, rfl, by
    rw [HLn.out, ← HCs.out]
    refine ⟨by rw [Hn.out], .inr ⟨w1.heap.size, 4, (splice Z 0 cs).toArray, rfl, Nat.le_of_lt hlt, HG3.out, Nat.le_refl _, by decide, ?_, ?_⟩⟩
    · rw [List.size_toArray, length_splice Z 0 cs (by rw [Hn.out, HZ.out.1]; decide), HZ.out.1]
    · unfold splice
      rw [List.take_zero, List.nil_append, List.take_left' (by rw [Hn.out])], Hb2.out.trans (hB3.mono (Nat.le_of_lt hlt))⟩
  clear HG3 hB3
  go_wp2
  go_ret
  exact F.out

set_option maxRecDepth 100000 in
set_option maxHeartbeats 1000000 in
theorem abytes_true (b : List Int) (hl : b.length = 16) (w : World) : Calls Tryd.prog 76 #[.agg (adr true b)] w (OwnEnd (b.take 16) w) := by
  obtain ⟨W0, hW0⟩ : ∃ W, W = w.alloc (.cells (adr true b) 34) := ⟨_, rfl⟩
  have hB0 : Blk W0 w.heap.size 34 (adr true b) := hW0 ▸ Blk.new w _ _
  have hb0 : Below w.heap.size w W0 := hW0 ▸ (Below.refl _ _).alloc (Nat.le_refl _) _
  have HW0 := Lib.hid hW0.symm
  have HB0 := Lib.hid hB0
  have Hb0 := Lib.hid hb0
  have L17 : Hid (17 = (adr true b).size) := Lib.hid (by rw [adr_size, hl])
  obtain ⟨i0, hi, hp⟩ := Option.map_eq_some_iff.1 Tryd.infoByte
  simp only [Prod.mk.injEq] at hp
  obtain ⟨hz1, hz0, hz2⟩ := hp
  have HZ2 := Lib.hid hz2
  have HL := Lib.hid hl
  have hln : (b.take 16).length = 16 := by rw [List.length_take, hl]; rfl
  obtain ⟨cs, hcs⟩ : ∃ cs, cs = (b.take 16).map (Value.int .u8) := ⟨_, rfl⟩
  have Hn : Hid (cs.length = 16) := Lib.hid (by rw [hcs, List.length_map, hln])
  have H1 : Hid (∀ v ∈ cs, v.oneCell' = true) := Lib.hid (by rw [hcs]; exact bytes_one _)
  have HS : Hid (∀ w', Blk w' w.heap.size 34 (adr true b) → ∀ j u, cs[j]? = some u → w'.cell? ((⟨w.heap.size, 1, none⟩ : Addr).add j) = some u) := Lib.hid (fun w' h => by rw [hcs]; exact adr_src h 16 (by omega))
  have HCs := Lib.hid hcs
  have HLn := Lib.hid hln
  clear hW0 hB0 hb0 hl hln hcs hz2
  go_enter Tryd.func76, Tryd.ntmps76
  go_upto_region 1 with fail
  rw [HW0.out]
  go_wp2_with (refine wpl_load 34 _ rfl w.heap.size rfl _ _ _ HB0.out Tryd.underlying34 rfl 17 Tryd.infoAddr L17.out rfl ?_)
  refine (size_any true b W0).mono ?_
  rintro e w1 ⟨rfl, hb1⟩
  have HB1 := Lib.hid (HB0.out.kept hb1)
  have Hb1 := Lib.hid (bel2 Hb0.out hb1)
  clear hb1
  go_upto_region 2 with (first | (refine wpList_make_full _ rfl (.tmp 5) (.tmp 5) 77 rfl w1.heap.size 5 i0 (.int .u8 0) 1 Tryd.underlying77 hi hz0 hz1 .i64 .i64 16 16 16 rfl rfl rfl rfl (by rw [HZ2.out]; omega) (by decide) (Nat.le_refl _) ?_; intro w2 hown hgrow) | fail)
  have hb2 : Below w1.heap.size w1 w2 := (Below.refl _ _).grown hgrow (Nat.le_refl _) (fun k hk => by cases hk)
  have hlt : w.heap.size < w1.heap.size := HB1.out.lt
  have hR := own_blk hown
  obtain ⟨Z, hZ⟩ : ∃ Z : List Value, Z.length = 16 ∧ Blk w2 w1.heap.size 5 Z.toArray := ⟨_, by simpa using hown.1, hR⟩
  have HB2 := Lib.hid (HB1.out.kept hb2)
  have Hb2 := Lib.hid (bel2 Hb1.out hb2)
  have HZ := Lib.hid hZ
  clear hown hgrow hb2 hR hZ
  go_upto_region 3 with ((show wpList _ _ _ (⟨some 10, _, _, _, _, _⟩ :: _) _ _); go_must (refine wpList_copy_splice rfl (.tmp 7) (.tmp 9) 77 77 rfl 5 Tryd.underlying77 Tryd.oneU8x (some ⟨w1.heap.size, 0, none⟩) (some ⟨w.heap.size, 1, none⟩) 16 16 16 16 rfl rfl w1.heap.size 0 Z 5 HZ.out.2 cs (by rw [Hn.out]; rfl) (fun _ => ⟨rfl, _, rfl, HS.out w2 HB2.out⟩) (by rw [Hn.out, HZ.out.1]; decide) H1.out w1.heap.size w2 (Below.refl _ _) (Nat.le_refl _) ?_; intro w3 HG3 hB3))
  have F : Hid (OwnEnd (b.take 16) w (.returned (.slice (some ⟨w1.heap.size, 0, none⟩) 16 16)) w3) := Lib.hid ⟨_, rfl, by
    rw [HLn.out, ← HCs.out]
    refine ⟨by rw [Hn.out], .inr ⟨w1.heap.size, 16, (splice Z 0 cs).toArray, rfl, Nat.le_of_lt hlt, HG3.out, Nat.le_refl _, by decide, ?_, ?_⟩⟩
    · rw [List.size_toArray, length_splice Z 0 cs (by rw [Hn.out, HZ.out.1]; decide), HZ.out.1]
    · unfold splice
      rw [List.take_zero, List.nil_append, List.take_left' (by rw [Hn.out])], Hb2.out.trans (hB3.mono (Nat.le_of_lt hlt))⟩
  clear HG3 hB3
  go_wp2
  go_ret
  exact F.out
end Go.Proofs.YtgpbmbefdgbblaaDoor
