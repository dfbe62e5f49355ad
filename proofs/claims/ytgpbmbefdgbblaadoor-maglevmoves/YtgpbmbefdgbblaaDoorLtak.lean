/-
  maglev.taker, and the function that it makes: each call takes the first free place of one's own order.
-/
import Derived.Test.YtgpbmbefdgbblaaDoorLpure
import Derived.Test.YtgpbmbefdgbblaaDoorVof
import Derived.Test.YtgpbmbefdgbblaaDoorZpt
import Derived.Deep.LoopGhost
import Derived.Deep.Cut
namespace Go.Proofs.YtgpbmbefdgbblaaDoor
open Go.RowKit Go.Lib

/-- A point's bytes; the offset and the skip of its stride. -/
def putQ (x : PS) : List Int := putP x.1.1 (ints x.1.2.1) x.1.2.2
def oOf (m : Int) (x : PS) : Int := offN m (putQ x)
def kOf (m : Int) (x : PS) : Int := skpN m (putQ x)
/-- The place number j of a point. -/
def ordP (M : Nat) (x : PS) (j : Nat) : Nat := (plc M (oOf M x) (kOf M x) j).toNat
theorem right_of (M : Nat) (hM : sizedB (M : Int) = true) (x : PS) : rightS M (oOf M x) (kOf M x) = true := of_right (putQ x) hM
theorem ordP_lt (M : Nat) (hM : sizedB (M : Int) = true) (x : PS) (j : Nat) : ordP M x j < M := by
  obtain ⟨a, b, _⟩ := sized_range hM
  have := plc_range (m := (M : Int)) (oOf M x) (kOf M x) j (by omega)
  unfold ordP
  omega
theorem ordP_cast (M : Nat) (hM : sizedB (M : Int) = true) (x : PS) (j : Nat) : plc M (oOf M x) (kOf M x) j = (ordP M x j : Int) := by
  obtain ⟨a, b, _⟩ := sized_range hM
  have := plc_range (m := (M : Int)) (oOf M x) (kOf M x) j (by omega)
  unfold ordP
  omega
theorem ordP_onto (M : Nat) (hM : sizedB (M : Int) = true) (x : PS) (p : Nat) (hp : p < M) : ∃ j, j < M ∧ ordP M x j = p := by
  obtain ⟨a, b, _⟩ := sized_range hM
  have h1 := whn_range (m := (M : Int)) (oOf M x) (kOf M x) p (by omega)
  have h2 := plc_whn (right_of M hM x) (show (0 : Int) ≤ p by omega) (show (p : Int) < M by omega)
  refine ⟨(whn M (oOf M x) (kOf M x) p).toNat, by omega, ?_⟩
  unfold ordP
  rw [Int.toNat_of_nonneg h1.1, h2]
  rfl

theorem putQ_byt (x : PS) : Byt (putQ x) := fun j => by
  have hb : ∀ v ∈ putQ x, 0 ≤ v ∧ v ≤ 255 := fun v hv => by
    unfold putQ putP at hv
    rw [List.mem_append] at hv
    rcases hv with hv | hv
    · unfold putA at hv
      have hi : ∀ n, v ∈ (ints x.1.2.1).take n → 0 ≤ v ∧ v ≤ 255 := fun n h => by
        have h := List.mem_of_mem_take h
        unfold ints at h
        obtain ⟨k, hk, rfl⟩ := List.mem_map.1 h
        have := x.2.2 k hk
        omega
      split at hv
      · rcases List.mem_cons.1 hv with rfl | h
        · omega
        · exact hi _ h
      · rcases List.mem_cons.1 hv with rfl | h
        · omega
        · exact hi _ h
    · simp only [List.mem_cons, List.not_mem_nil, or_false] at hv
      rcases hv with rfl | rfl <;> omega
  rw [List.getD_eq_getElem?_getD]
  by_cases h : j < (putQ x).length
  · rw [List.getElem?_eq_getElem h]
    exact hb _ (List.getElem_mem h)
  · rw [List.getElem?_eq_none (by omega)]
    exact ⟨by decide, by decide⟩
theorem putQ_len (x : PS) : (putQ x).length ≤ 19 := by
  unfold putQ putP
  rw [List.length_append, putA_len _ _ (by rw [ints_length, x.2.1])]
  simp only [List.length_cons, List.length_nil]
  split <;> omega
theorem bys_own {w : World} {base : Nat} {v : Value} {l : List Int} (h : w.ownsRow base 5 1 v l.length (l.map (Value.int .u8))) (hl : 0 < l.length) : ∃ g cap, v = .slice (some ⟨g, 0, none⟩) l.length cap ∧ Bys w.heap.size w (some ⟨g, 0, none⟩) l := by
  obtain ⟨_, ⟨_, h0⟩ | ⟨g, cap, cur, rfl, hg, hblk, hn, hcap, hcs, htk⟩⟩ := h
  · omega
  · refine ⟨g, cap, rfl, fun j hj => ⟨g, 0, rfl, (Array.getElem?_eq_some_iff.1 hblk).1, ?_⟩⟩
    unfold World.cell?
    rw [hblk]
    have h1 : cur.toList[j]? = some (.int .u8 (l.getD j 0)) := by
      have h2 : (cur.toList.take (l.length * 1))[j]? = (l.map (Value.int .u8))[j]? := by rw [htk]
      rw [List.getElem?_take_of_lt (by omega)] at h2
      rw [h2, List.getElem?_map, List.getElem?_eq_getElem hj, List.getD_eq_getElem?_getD, List.getElem?_eq_getElem hj]
      rfl
    rw [Array.getElem?_toList] at h1
    simpa using h1
theorem putQ_pos (x : PS) : 0 < (putQ x).length := by
  unfold putQ putP
  rw [List.length_append]
  simp only [List.length_cons, List.length_nil]
  omega

/-- The taker of a point in memory, within the blocks from lo to hi: it asked for d places. -/
def TakeAt (W : World) (f : Value) (lo hi S M : Nat) (x : PS) (who : Nat) (d : Nat) : Prop := ∃ p q r c b,
  f = .func (.func 46) #[] #[.pointer (some ⟨p, 0, none⟩), .pointer (some ⟨q, 0, none⟩), .pointer (some ⟨r, 0, none⟩)] ∧
  (lo ≤ p ∧ lo ≤ q ∧ lo ≤ r ∧ lo ≤ c ∧ lo ≤ b) ∧ (p < hi ∧ q < hi ∧ r < hi ∧ c < hi ∧ b < hi) ∧ (p ≠ c ∧ q ≠ c ∧ r ≠ c) ∧
  Blk W p 79 #[.pointer (some ⟨c, 0, none⟩)] ∧ Blk W q 24 #[.slice (some ⟨S, 0, none⟩) M M] ∧ Blk W r 3 #[.int .i64 who] ∧
  CurYes W c b M (oOf M x) (kOf M x) d
theorem blk_same {W W' : World} {g : Nat} {t : TypeId} {cs : Array Value} (h : Blk W g t cs) (hs : W'.heap[g]? = W.heap[g]?) : Blk W' g t cs := by
  unfold Blk at *
  rw [hs, h]
theorem TakeAt.same {W W' : World} {f : Value} {lo hi S M : Nat} {x : PS} {who d : Nat} (h : TakeAt W f lo hi S M x who d) (hs : ∀ g, lo ≤ g → g < hi → W'.heap[g]? = W.heap[g]?) : TakeAt W' f lo hi S M x who d := by
  obtain ⟨p, q, r, c, b, e, ⟨l1, l2, l3, l4, l5⟩, ⟨h1, h2, h3, h4, h5⟩, n, b1, b2, b3, b4, b5, b6⟩ := h
  exact ⟨p, q, r, c, b, e, ⟨l1, l2, l3, l4, l5⟩, ⟨h1, h2, h3, h4, h5⟩, n, blk_same b1 (hs p l1 h1), blk_same b2 (hs q l2 h2), blk_same b3 (hs r l3 h3), blk_same b4 (hs c l4 h4), b5, blk_same b6 (hs b l5 h5)⟩

set_option linter.unusedSimpArgs false in
set_option maxRecDepth 100000 in
set_option maxHeartbeats 8000000 in
theorem taker_any (M : Nat) (hM : sizedB (M : Int) = true) (S : Nat) (x : PS) (who : Nat) (w : World) (hE : FEnv w) :
    Calls Tryd.prog 31 #[.slice (some ⟨S, 0, none⟩) M M, .agg (encP x), .int .i64 who] w fun e w' => ∃ f, e = .returned (.tuple #[f, .nilIface]) ∧ TakeAt w' f w.heap.size w'.heap.size S M x who 0 ∧ Below w.heap.size w w' := by
  obtain ⟨W1, hW1⟩ : ∃ W, W = w.alloc (.cells #[.slice (some ⟨S, 0, none⟩) M M] 24) := ⟨_, rfl⟩
  obtain ⟨W2, hW2⟩ : ∃ W, W = W1.alloc (.cells (encP x) 36) := ⟨_, rfl⟩
  obtain ⟨W3, hW3⟩ : ∃ W, W = W2.alloc (.cells #[.int .i64 who] 3) := ⟨_, rfl⟩
  have s1 : W1.heap.size = w.heap.size + 1 := by rw [hW1]; simp
  have s2 : W2.heap.size = w.heap.size + 2 := by rw [hW2]; simp [s1]
  have s3 : W3.heap.size = w.heap.size + 3 := by rw [hW3]; simp [s2]
  have b1 : Below w.heap.size w W1 := hW1 ▸ (Below.refl _ _).alloc (Nat.le_refl _) _
  have b2 : Below W1.heap.size W1 W2 := hW2 ▸ (Below.refl _ _).alloc (Nat.le_refl _) _
  have b3 : Below W2.heap.size W2 W3 := hW3 ▸ (Below.refl _ _).alloc (Nat.le_refl _) _
  have k1 : Blk W3 w.heap.size 24 #[.slice (some ⟨S, 0, none⟩) M M] := (((hW1 ▸ Blk.new w _ _ : Blk W1 w.heap.size 24 _)).kept b2).kept b3
  have k2 : Blk W3 (w.heap.size + 1) 36 (encP x) := by rw [← s1]; exact (hW2 ▸ Blk.new W1 _ _ : Blk W2 W1.heap.size 36 (encP x)).kept b3
  have k3 : Blk W3 (w.heap.size + 2) 3 #[.int .i64 who] := by rw [← s2]; exact (hW3 ▸ Blk.new W2 _ _ : Blk W3 W2.heap.size 3 _)
  have HW1 := hid hW1.symm
  have HW2 := hid hW2.symm
  have HW3 := hid hW3.symm
  have Hb3 := hid (bel2 (bel2 b1 b2) b3)
  have K1 := hid k1
  have K2 := hid k2
  have K3 := hid k3
  have Hs3 := hid s3
  have HE3 : Hid (FEnv W3) := hid (hE.kept Hb3.out)
  have HP : Hid (∀ W, Calls Tryd.prog 44 #[.agg (encP x)] W (OwnEnd (putQ x) W)) := hid (fun W => pput_any x.1.1 (ints x.1.2.1) (by rw [ints_length, x.2.1]) x.1.2.2 W)
  have HO : Hid (∀ ad cap W, FEnv W → Bys W.heap.size W ad (putQ x) → Calls Tryd.prog 43 #[.slice ad (putQ x).length cap, .int .i64 M] W fun e w' => e = .returned (.tuple #[.agg #[.int .i64 M, .int .i64 (oOf M x), .int .i64 (kOf M x)], .nilIface]) ∧ Below W.heap.size W w') := hid (fun ad cap W h1 h2 => sof_yes M hM ad cap (putQ x) (putQ_byt x) (by have := putQ_len x; omega) W h1 h2)
  have HC : Hid (∀ W, Calls Tryd.prog 45 #[.agg #[.int .i64 M, .int .i64 (oOf M x), .int .i64 (kOf M x)]] W fun e w' => ∃ c b, e = .returned (.pointer (some ⟨c, 0, none⟩)) ∧ W.heap.size ≤ c ∧ W.heap.size ≤ b ∧ CurYes w' c b M (oOf M x) (kOf M x) 0 ∧ Below W.heap.size W w') := hid (fun W => cursor_yes M _ _ (right_of M hM x) W)
  have HL := hid (putQ_pos x)
  have HX := hid (encP_size x)
  have HT : Hid (∀ W p c b, W3.heap.size ≤ p → W3.heap.size ≤ c → W3.heap.size ≤ b → p ≠ c → c < W.heap.size → b < W.heap.size → Below W3.heap.size W3 W → Blk W p 79 #[.pointer (some ⟨c, 0, none⟩)] → CurYes W c b M (oOf M x) (kOf M x) 0 →
      TakeAt W (.func (.func 46) #[] #[.pointer (some ⟨p, 0, none⟩), .pointer (some ⟨w.heap.size, 0, none⟩), .pointer (some ⟨w.heap.size + 2, 0, none⟩)]) w.heap.size W.heap.size S M x who 0) := hid (fun W p c b h1 h2 h3 h4 h5 h6 hb hk hc =>
    ⟨p, w.heap.size, w.heap.size + 2, c, b, rfl, by have := Hs3.out; omega, by have := Hs3.out; have := hk.lt; omega, by have := Hs3.out; omega, hk, K1.out.kept hb, K3.out.kept hb, hc⟩)
  clear hW1 hW2 hW3 s1 s2 s3 b1 b2 b3 k1 k2 k3 hE
  generalize oOf M x = O at *
  generalize kOf M x = K at *
  go_enter Tryd.func31, Tryd.ntmps31
  go_upto_region 1 with fail
  rw [HW1.out]
  rw [HW2.out]
  rw [HW3.out]
  have hS0 : Below W3.heap.size W3 W3.drew := below_drewN W3 1
  refine wp_region_held_drew (S := fun W => Below W3.heap.size W3 W) (by kernel_rfl) hS0 (fun hS => ?_)
  change wpAnyH _ _ _ _ _ 11 #[false, false, false, false, false, false, false, false, false, false, false] _ _
  refine wpAnyH_take (i := 0) (v := .agg (encP x)) rfl (by kernel_rfl) (by kernel_rfl) (by kernel_rfl) (fun _ _ _ h => h) (yields_load 36 (.tmp 4) rfl (w.heap.size + 1) rfl 36 _ _ (fun W h => K2.out.kept h) Tryd.underlying36 rfl 18 Tryd.infoPoint HX.out.symm (by kernel_rfl)) hS ?_
  simp only [List.getElem_toArray, List.getElem_cons_zero, List.getElem_cons_succ, Act.put, List.setIfInBounds_toArray, List.set_cons_zero, List.set_cons_succ]
  refine wpAnyH_take (i := 2) (v := .slice (some ⟨S, 0, none⟩) M M) rfl (by kernel_rfl) (by kernel_rfl) (by kernel_rfl) (fun _ _ _ h => h) (.inl ⟨by kernel_rfl, fun W h => by unfold execOp; have c := (K1.out.kept h).cell 0; go_simp⟩) hS ?_
  simp only [List.getElem_toArray, List.getElem_cons_zero, List.getElem_cons_succ, Act.put, List.setIfInBounds_toArray, List.set_cons_zero, List.set_cons_succ]
  refine wpAnyH_take (i := 3) (v := .int .i64 M) rfl (by kernel_rfl) (by kernel_rfl) (by kernel_rfl) (fun _ _ _ h => h) (.inl ⟨by kernel_rfl, fun w _ => by kernel_rfl⟩) hS ?_
  simp only [List.getElem_toArray, List.getElem_cons_zero, List.getElem_cons_succ, Act.put, List.setIfInBounds_toArray, List.set_cons_zero, List.set_cons_succ]
  refine wpAnyH_ready (rs := [1, 8]) (by kernel_rfl) (by simp) ?_
  refine AllReadyH.cons rfl (fun K' hK => ?_) (AllReadyH.cons rfl (fun K' hK => ?_) AllReadyH.nil)
  ·
    refine step_callE 44 #[.agg (encP x)] (by kernel_rfl) (by kernel_rfl) (HP.out _) (fun v A hv => ?_)
    obtain ⟨hown, hbA⟩ := hv
    obtain ⟨g13, cap13, rfl, hby⟩ := bys_own hown HL.out
    refine hK.out _ _ (hS.trans (hbA.mono hS.size)) (fun hS => ?_)
    simp only [List.getElem_toArray, List.getElem_cons_zero, List.getElem_cons_succ, Act.put, List.setIfInBounds_toArray, List.set_cons_zero, List.set_cons_succ]
    refine wpAnyH_ready (rs := [4, 8]) (by kernel_rfl) (by simp) ?_
    refine AllReadyH.cons rfl (fun K' hK => ?_) (AllReadyH.cons rfl (fun K' hK => ?_) AllReadyH.nil)
    ·
      refine step_call 43 #[.slice (some ⟨g13, 0, none⟩) (putQ x).length cap13, .int .i64 M] (by kernel_rfl) (by kernel_rfl) (.tuple #[.agg #[.int .i64 M, .int .i64 O, .int .i64 K], .nilIface]) (HO.out _ _ _ (HE3.out.kept hS) hby) (fun B hbB => hK.out _ _ (hS.trans (hbB.mono hS.size)) (fun hS => ?_))
      simp only [List.getElem_toArray, List.getElem_cons_zero, List.getElem_cons_succ, Act.put, List.setIfInBounds_toArray, List.set_cons_zero, List.set_cons_succ]
      refine wpAnyH_take (i := 5) (v := .tuple #[.agg #[.int .i64 M, .int .i64 O, .int .i64 K], .nilIface]) rfl (by kernel_rfl) (by kernel_rfl) (by kernel_rfl) (fun _ _ _ h => h) (.inl ⟨by kernel_rfl, fun w _ => by kernel_rfl⟩) hS ?_
      simp only [List.getElem_toArray, List.getElem_cons_zero, List.getElem_cons_succ, Act.put, List.setIfInBounds_toArray, List.set_cons_zero, List.set_cons_succ]
      refine wpAnyH_take (i := 6) (v := .agg #[.int .i64 M, .int .i64 O, .int .i64 K]) rfl (by kernel_rfl) (by kernel_rfl) (by kernel_rfl) (fun _ _ _ h => h) (.inl ⟨by kernel_rfl, fun w _ => by kernel_rfl⟩) hS ?_
      simp only [List.getElem_toArray, List.getElem_cons_zero, List.getElem_cons_succ, Act.put, List.setIfInBounds_toArray, List.set_cons_zero, List.set_cons_succ]
      refine wpAnyH_take (i := 7) (v := .nilIface) rfl (by kernel_rfl) (by kernel_rfl) (by kernel_rfl) (fun _ _ _ h => h) (.inl ⟨by kernel_rfl, fun w _ => by kernel_rfl⟩) hS ?_
      simp only [List.getElem_toArray, List.getElem_cons_zero, List.getElem_cons_succ, Act.put, List.setIfInBounds_toArray, List.set_cons_zero, List.set_cons_succ]
      refine wpAnyH_ready (rs := [8]) (by kernel_rfl) (by simp) ?_
      refine AllReadyH.cons rfl (fun K' hK => ?_) AllReadyH.nil
      obtain ⟨C, hC⟩ : ∃ W, W = World.alloc B (.cells #[.int .i64 0, .int .i64 0, .int .i64 0] 74) := ⟨_, rfl⟩
      have hbC : Below (World.heap B).size B C := hC ▸ (Below.refl _ _).alloc (Nat.le_refl _) _
      have hk8 : Blk C (World.heap B).size 74 #[.int .i64 0, .int .i64 0, .int .i64 0] := hC ▸ Blk.new B _ _
      have h8 : W3.heap.size ≤ (World.heap B).size := hS.size
      refine step_run (.pointer (some ⟨(World.heap B).size, 0, none⟩)) C (by rw [hC]; kernel_rfl) (by kernel_rfl) (hK.out _ _ (hS.trans (hbC.mono hS.size)) (fun hS => ?_))
      simp only [List.getElem_toArray, List.getElem_cons_zero, List.getElem_cons_succ, Act.put, List.setIfInBounds_toArray, List.set_cons_zero, List.set_cons_succ]
      refine wpAnyH_ready (rs := [9]) (by kernel_rfl) (by simp) ?_
      refine AllReadyH.cons rfl (fun K' hK => ?_) AllReadyH.nil
      refine step_store 74 _ _ rfl B.heap.size #[.int .i64 M, .int .i64 O, .int .i64 K] rfl rfl 74 #[.int .i64 0, .int .i64 0, .int .i64 0] hk8 3 (by kernel_rfl) rfl rfl (by simp [Value.oneCell']) (by kernel_rfl) (hK.out _ _ (below_setRow hS h8 _) (fun hS => ?_))
      simp only [List.getElem_toArray, List.getElem_cons_zero, List.getElem_cons_succ, Act.put, List.setIfInBounds_toArray, List.set_cons_zero, List.set_cons_succ]
      refine wpAnyH_take (i := 10) (v := .nilIface) rfl (by kernel_rfl) (by kernel_rfl) (by kernel_rfl) (fun _ _ _ h => h) (.inl ⟨by kernel_rfl, fun w _ => by kernel_rfl⟩) hS ?_
      simp only [List.getElem_toArray, List.getElem_cons_zero, List.getElem_cons_succ, Act.put, List.setIfInBounds_toArray, List.set_cons_zero, List.set_cons_succ]
      refine wpAnyH_done (by kernel_rfl) ?_ _
      have hk9 := Blk.row hk8 (#[.int .i64 M, .int .i64 O, .int .i64 K] : Array Value)
      generalize World.setRow C (B.heap.size) #[.int .i64 M, .int .i64 O, .int .i64 K] = U at hS hk9 ⊢
      have HU := hid hS
      have c0 : U.cell? ⟨B.heap.size, 0, none⟩ = some (.int .i64 M) := hk9.cell 0
      have c1 : U.cell? ⟨B.heap.size, 1, none⟩ = some (.int .i64 O) := hk9.cell 1
      have c2 : U.cell? ⟨B.heap.size, 2, none⟩ = some (.int .i64 K) := hk9.cell 2
      clear hS hk9 hk8 h8 hby
      generalize B.heap.size = g8 at c0 c1 c2 ⊢
      go_wp2_with fail
      refine (HC.out _).mono ?_
      rintro e w5 ⟨c, b, rfl, hc1, hb1, hcy, hb5⟩
      have hu := HU.out.size
      have hcl := hcy.1.lt
      have hbl := hcy.2.2.lt
      have F := hid (HT.out (w5.alloc (.cells #[.pointer (some ⟨c, 0, none⟩)] 79)) w5.heap.size c b (by have := hb5.size; omega) (by omega) (by omega) (by omega) (by rw [World.size_alloc]; omega) (by rw [World.size_alloc]; omega) ((HU.out.trans (hb5.mono hu)).alloc (by have := hb5.size; omega) _) (Blk.new w5 _ _) ⟨hcy.1.alloc _, hcy.2.1, hcy.2.2.alloc _⟩)
      have Hb9 : Hid (Below w.heap.size w (w5.alloc (.cells #[.pointer (some ⟨c, 0, none⟩)] 79))) := hid ((bel2 Hb3.out (HU.out.trans (hb5.mono hu))).alloc (by have := hb5.size; have := Hs3.out; omega) _)
      clear hc1 hb1 hcy hb5 hu hcl hbl
      go_wp2
      go_ret2
      exact ⟨_, rfl, F.out, Hb9.out⟩
    ·
      obtain ⟨B, hB⟩ : ∃ W, W = World.alloc A (.cells #[.int .i64 0, .int .i64 0, .int .i64 0] 74) := ⟨_, rfl⟩
      have hbB : Below (World.heap A).size A B := hB ▸ (Below.refl _ _).alloc (Nat.le_refl _) _
      have hk8 : Blk B (World.heap A).size 74 #[.int .i64 0, .int .i64 0, .int .i64 0] := hB ▸ Blk.new A _ _
      have h8 : W3.heap.size ≤ (World.heap A).size := hS.size
      refine step_run (.pointer (some ⟨(World.heap A).size, 0, none⟩)) B (by rw [hB]; kernel_rfl) (by kernel_rfl) (hK.out _ _ (hS.trans (hbB.mono hS.size)) (fun hS => ?_))
      simp only [List.getElem_toArray, List.getElem_cons_zero, List.getElem_cons_succ, Act.put, List.setIfInBounds_toArray, List.set_cons_zero, List.set_cons_succ]
      have hby : Bys B.heap.size B (some ⟨g13, 0, none⟩) (putQ x) := (hby.below hbB).mono hbB.size
      refine wpAnyH_ready (rs := [4]) (by kernel_rfl) (by simp) ?_
      refine AllReadyH.cons rfl (fun K' hK => ?_) AllReadyH.nil
      refine step_call 43 #[.slice (some ⟨g13, 0, none⟩) (putQ x).length cap13, .int .i64 M] (by kernel_rfl) (by kernel_rfl) (.tuple #[.agg #[.int .i64 M, .int .i64 O, .int .i64 K], .nilIface]) (HO.out _ _ _ (HE3.out.kept hS) hby) (fun C hbC => hK.out _ _ (hS.trans (hbC.mono hS.size)) (fun hS => ?_))
      simp only [List.getElem_toArray, List.getElem_cons_zero, List.getElem_cons_succ, Act.put, List.setIfInBounds_toArray, List.set_cons_zero, List.set_cons_succ]
      refine wpAnyH_take (i := 5) (v := .tuple #[.agg #[.int .i64 M, .int .i64 O, .int .i64 K], .nilIface]) rfl (by kernel_rfl) (by kernel_rfl) (by kernel_rfl) (fun _ _ _ h => h) (.inl ⟨by kernel_rfl, fun w _ => by kernel_rfl⟩) hS ?_
      simp only [List.getElem_toArray, List.getElem_cons_zero, List.getElem_cons_succ, Act.put, List.setIfInBounds_toArray, List.set_cons_zero, List.set_cons_succ]
      refine wpAnyH_take (i := 6) (v := .agg #[.int .i64 M, .int .i64 O, .int .i64 K]) rfl (by kernel_rfl) (by kernel_rfl) (by kernel_rfl) (fun _ _ _ h => h) (.inl ⟨by kernel_rfl, fun w _ => by kernel_rfl⟩) hS ?_
      simp only [List.getElem_toArray, List.getElem_cons_zero, List.getElem_cons_succ, Act.put, List.setIfInBounds_toArray, List.set_cons_zero, List.set_cons_succ]
      refine wpAnyH_take (i := 7) (v := .nilIface) rfl (by kernel_rfl) (by kernel_rfl) (by kernel_rfl) (fun _ _ _ h => h) (.inl ⟨by kernel_rfl, fun w _ => by kernel_rfl⟩) hS ?_
      simp only [List.getElem_toArray, List.getElem_cons_zero, List.getElem_cons_succ, Act.put, List.setIfInBounds_toArray, List.set_cons_zero, List.set_cons_succ]
      have hk8 := hk8.kept hbC
      refine wpAnyH_ready (rs := [9]) (by kernel_rfl) (by simp) ?_
      refine AllReadyH.cons rfl (fun K' hK => ?_) AllReadyH.nil
      refine step_store 74 _ _ rfl A.heap.size #[.int .i64 M, .int .i64 O, .int .i64 K] rfl rfl 74 #[.int .i64 0, .int .i64 0, .int .i64 0] hk8 3 (by kernel_rfl) rfl rfl (by simp [Value.oneCell']) (by kernel_rfl) (hK.out _ _ (below_setRow hS h8 _) (fun hS => ?_))
      simp only [List.getElem_toArray, List.getElem_cons_zero, List.getElem_cons_succ, Act.put, List.setIfInBounds_toArray, List.set_cons_zero, List.set_cons_succ]
      refine wpAnyH_take (i := 10) (v := .nilIface) rfl (by kernel_rfl) (by kernel_rfl) (by kernel_rfl) (fun _ _ _ h => h) (.inl ⟨by kernel_rfl, fun w _ => by kernel_rfl⟩) hS ?_
      simp only [List.getElem_toArray, List.getElem_cons_zero, List.getElem_cons_succ, Act.put, List.setIfInBounds_toArray, List.set_cons_zero, List.set_cons_succ]
      refine wpAnyH_done (by kernel_rfl) ?_ _
      have hk9 := Blk.row hk8 (#[.int .i64 M, .int .i64 O, .int .i64 K] : Array Value)
      generalize World.setRow C (A.heap.size) #[.int .i64 M, .int .i64 O, .int .i64 K] = U at hS hk9 ⊢
      have HU := hid hS
      have c0 : U.cell? ⟨A.heap.size, 0, none⟩ = some (.int .i64 M) := hk9.cell 0
      have c1 : U.cell? ⟨A.heap.size, 1, none⟩ = some (.int .i64 O) := hk9.cell 1
      have c2 : U.cell? ⟨A.heap.size, 2, none⟩ = some (.int .i64 K) := hk9.cell 2
      clear hS hk9 hk8 h8 hby
      generalize A.heap.size = g8 at c0 c1 c2 ⊢
      go_wp2_with fail
      refine (HC.out _).mono ?_
      rintro e w5 ⟨c, b, rfl, hc1, hb1, hcy, hb5⟩
      have hu := HU.out.size
      have hcl := hcy.1.lt
      have hbl := hcy.2.2.lt
      have F := hid (HT.out (w5.alloc (.cells #[.pointer (some ⟨c, 0, none⟩)] 79)) w5.heap.size c b (by have := hb5.size; omega) (by omega) (by omega) (by omega) (by rw [World.size_alloc]; omega) (by rw [World.size_alloc]; omega) ((HU.out.trans (hb5.mono hu)).alloc (by have := hb5.size; omega) _) (Blk.new w5 _ _) ⟨hcy.1.alloc _, hcy.2.1, hcy.2.2.alloc _⟩)
      have Hb9 : Hid (Below w.heap.size w (w5.alloc (.cells #[.pointer (some ⟨c, 0, none⟩)] 79))) := hid ((bel2 Hb3.out (HU.out.trans (hb5.mono hu))).alloc (by have := hb5.size; have := Hs3.out; omega) _)
      clear hc1 hb1 hcy hb5 hu hcl hbl
      go_wp2
      go_ret2
      exact ⟨_, rfl, F.out, Hb9.out⟩
  ·
    obtain ⟨A, hA⟩ : ∃ W, W = World.alloc W3.drew (.cells #[.int .i64 0, .int .i64 0, .int .i64 0] 74) := ⟨_, rfl⟩
    have hbA : Below (World.heap W3.drew).size W3.drew A := hA ▸ (Below.refl _ _).alloc (Nat.le_refl _) _
    have hk8 : Blk A (World.heap W3.drew).size 74 #[.int .i64 0, .int .i64 0, .int .i64 0] := hA ▸ Blk.new W3.drew _ _
    have h8 : W3.heap.size ≤ (World.heap W3.drew).size := hS.size
    refine step_run (.pointer (some ⟨(World.heap W3.drew).size, 0, none⟩)) A (by rw [hA]; kernel_rfl) (by kernel_rfl) (hK.out _ _ (hS.trans (hbA.mono hS.size)) (fun hS => ?_))
    simp only [List.getElem_toArray, List.getElem_cons_zero, List.getElem_cons_succ, Act.put, List.setIfInBounds_toArray, List.set_cons_zero, List.set_cons_succ]
    refine wpAnyH_ready (rs := [1]) (by kernel_rfl) (by simp) ?_
    refine AllReadyH.cons rfl (fun K' hK => ?_) AllReadyH.nil
    refine step_callE 44 #[.agg (encP x)] (by kernel_rfl) (by kernel_rfl) (HP.out _) (fun v B hv => ?_)
    obtain ⟨hown, hbB⟩ := hv
    obtain ⟨g13, cap13, rfl, hby⟩ := bys_own hown HL.out
    refine hK.out _ _ (hS.trans (hbB.mono hS.size)) (fun hS => ?_)
    simp only [List.getElem_toArray, List.getElem_cons_zero, List.getElem_cons_succ, Act.put, List.setIfInBounds_toArray, List.set_cons_zero, List.set_cons_succ]
    have hk8 := hk8.kept hbB
    refine wpAnyH_ready (rs := [4]) (by kernel_rfl) (by simp) ?_
    refine AllReadyH.cons rfl (fun K' hK => ?_) AllReadyH.nil
    refine step_call 43 #[.slice (some ⟨g13, 0, none⟩) (putQ x).length cap13, .int .i64 M] (by kernel_rfl) (by kernel_rfl) (.tuple #[.agg #[.int .i64 M, .int .i64 O, .int .i64 K], .nilIface]) (HO.out _ _ _ (HE3.out.kept hS) hby) (fun C hbC => hK.out _ _ (hS.trans (hbC.mono hS.size)) (fun hS => ?_))
    simp only [List.getElem_toArray, List.getElem_cons_zero, List.getElem_cons_succ, Act.put, List.setIfInBounds_toArray, List.set_cons_zero, List.set_cons_succ]
    refine wpAnyH_take (i := 5) (v := .tuple #[.agg #[.int .i64 M, .int .i64 O, .int .i64 K], .nilIface]) rfl (by kernel_rfl) (by kernel_rfl) (by kernel_rfl) (fun _ _ _ h => h) (.inl ⟨by kernel_rfl, fun w _ => by kernel_rfl⟩) hS ?_
    simp only [List.getElem_toArray, List.getElem_cons_zero, List.getElem_cons_succ, Act.put, List.setIfInBounds_toArray, List.set_cons_zero, List.set_cons_succ]
    refine wpAnyH_take (i := 6) (v := .agg #[.int .i64 M, .int .i64 O, .int .i64 K]) rfl (by kernel_rfl) (by kernel_rfl) (by kernel_rfl) (fun _ _ _ h => h) (.inl ⟨by kernel_rfl, fun w _ => by kernel_rfl⟩) hS ?_
    simp only [List.getElem_toArray, List.getElem_cons_zero, List.getElem_cons_succ, Act.put, List.setIfInBounds_toArray, List.set_cons_zero, List.set_cons_succ]
    refine wpAnyH_take (i := 7) (v := .nilIface) rfl (by kernel_rfl) (by kernel_rfl) (by kernel_rfl) (fun _ _ _ h => h) (.inl ⟨by kernel_rfl, fun w _ => by kernel_rfl⟩) hS ?_
    simp only [List.getElem_toArray, List.getElem_cons_zero, List.getElem_cons_succ, Act.put, List.setIfInBounds_toArray, List.set_cons_zero, List.set_cons_succ]
    have hk8 := hk8.kept hbC
    refine wpAnyH_ready (rs := [9]) (by kernel_rfl) (by simp) ?_
    refine AllReadyH.cons rfl (fun K' hK => ?_) AllReadyH.nil
    refine step_store 74 _ _ rfl W3.drew.heap.size #[.int .i64 M, .int .i64 O, .int .i64 K] rfl rfl 74 #[.int .i64 0, .int .i64 0, .int .i64 0] hk8 3 (by kernel_rfl) rfl rfl (by simp [Value.oneCell']) (by kernel_rfl) (hK.out _ _ (below_setRow hS h8 _) (fun hS => ?_))
    simp only [List.getElem_toArray, List.getElem_cons_zero, List.getElem_cons_succ, Act.put, List.setIfInBounds_toArray, List.set_cons_zero, List.set_cons_succ]
    refine wpAnyH_take (i := 10) (v := .nilIface) rfl (by kernel_rfl) (by kernel_rfl) (by kernel_rfl) (fun _ _ _ h => h) (.inl ⟨by kernel_rfl, fun w _ => by kernel_rfl⟩) hS ?_
    simp only [List.getElem_toArray, List.getElem_cons_zero, List.getElem_cons_succ, Act.put, List.setIfInBounds_toArray, List.set_cons_zero, List.set_cons_succ]
    refine wpAnyH_done (by kernel_rfl) ?_ _
    have hk9 := Blk.row hk8 (#[.int .i64 M, .int .i64 O, .int .i64 K] : Array Value)
    generalize World.setRow C (W3.drew.heap.size) #[.int .i64 M, .int .i64 O, .int .i64 K] = U at hS hk9 ⊢
    have HU := hid hS
    have c0 : U.cell? ⟨W3.drew.heap.size, 0, none⟩ = some (.int .i64 M) := hk9.cell 0
    have c1 : U.cell? ⟨W3.drew.heap.size, 1, none⟩ = some (.int .i64 O) := hk9.cell 1
    have c2 : U.cell? ⟨W3.drew.heap.size, 2, none⟩ = some (.int .i64 K) := hk9.cell 2
    clear hS hk9 hk8 h8 hby
    generalize W3.drew.heap.size = g8 at c0 c1 c2 ⊢
    go_wp2_with fail
    refine (HC.out _).mono ?_
    rintro e w5 ⟨c, b, rfl, hc1, hb1, hcy, hb5⟩
    have hu := HU.out.size
    have hcl := hcy.1.lt
    have hbl := hcy.2.2.lt
    have F := hid (HT.out (w5.alloc (.cells #[.pointer (some ⟨c, 0, none⟩)] 79)) w5.heap.size c b (by have := hb5.size; omega) (by omega) (by omega) (by omega) (by rw [World.size_alloc]; omega) (by rw [World.size_alloc]; omega) ((HU.out.trans (hb5.mono hu)).alloc (by have := hb5.size; omega) _) (Blk.new w5 _ _) ⟨hcy.1.alloc _, hcy.2.1, hcy.2.2.alloc _⟩)
    have Hb9 : Hid (Below w.heap.size w (w5.alloc (.cells #[.pointer (some ⟨c, 0, none⟩)] 79))) := hid ((bel2 Hb3.out (HU.out.trans (hb5.mono hu))).alloc (by have := hb5.size; have := Hs3.out; omega) _)
    clear hc1 hb1 hcy hb5 hu hcl hbl
    go_wp2
    go_ret2
    exact ⟨_, rfl, F.out, Hb9.out⟩
end Go.Proofs.YtgpbmbefdgbblaaDoor
