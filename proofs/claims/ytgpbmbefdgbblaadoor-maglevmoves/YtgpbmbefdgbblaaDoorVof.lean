/-
  stride.Of; the document's Of.
-/
import Derived.Test.YtgpbmbefdgbblaaDoorVcur
import Derived.Test.YtgpbmbefdgbblaaDoorHrof
namespace Go.Proofs.YtgpbmbefdgbblaaDoor
open Go.RowKit Go.Lib

/-- Layer 7's hash of bytes by a seed, as a number. -/
def hashN (x : Int) (bs : List Int) : Int := uv (mixB (furB (furB first64 (headOf x)) bs))
/-- The offset of bytes, and the skip. -/
def offN (m : Int) (bs : List Int) : Int := hashN 1 bs % m
def skpN (m : Int) (bs : List Int) : Int := hashN 2 bs % (m - 1) + 1
theorem hashN_range (x : Int) (bs : List Int) : 0 ≤ hashN x bs ∧ hashN x bs ≤ 18446744073709551615 := uv_range _
theorem of_right {m : Int} (bs : List Int) (h : sizedB m = true) : rightS m (offN m bs) (skpN m bs) = true := by
  obtain ⟨a, b, c⟩ := sized_range h
  have h1 := Int.emod_nonneg (hashN 1 bs) (show m ≠ 0 by omega)
  have h2 := Int.emod_lt_of_pos (hashN 1 bs) (show 0 < m by omega)
  have h3 := Int.emod_nonneg (hashN 2 bs) (show m - 1 ≠ 0 by omega)
  have h4 := Int.emod_lt_of_pos (hashN 2 bs) (show 0 < m - 1 by omega)
  exact (rightS_iff _ _ _).2 ⟨b, c, h1, h2, by unfold skpN; omega, by unfold skpN; omega⟩

set_option maxRecDepth 100000 in
set_option maxHeartbeats 4000000 in
theorem sof_no (m : Int) (h : sizedB m = false) (ad : Option Addr) (cap len : Nat) (w : World) (u : TypeId) (v : Value) (hE : w.cell? ⟨0, 0, none⟩ = some (.iface u v)) :
    Calls Tryd.prog 43 #[.slice ad len cap, .int .i64 m] w fun e w' => e = .returned (.tuple #[.agg #[.int .i64 0, .int .i64 0, .int .i64 0], .iface u v]) ∧ Below w.heap.size w w' := by
  have HI := hid (fun W => h ▸ sized_any m W)
  have HE := hid hE
  have HB : Hid (Below w.heap.size w (w.alloc (.cells #[.int .i64 0, .int .i64 0, .int .i64 0] 74))) := hid ((Below.refl _ w).alloc (Nat.le_refl _) _)
  have HN := hid (Blk.new w 74 #[.int .i64 0, .int .i64 0, .int .i64 0])
  clear h hE
  go_enter Tryd.func43, Tryd.ntmps43
  go_wp2_with fail
  refine (HI.out _).mono ?_
  rintro e w1 ⟨rfl, hb⟩
  have Hb := hid (bel2 HB.out hb)
  have HN1 := hid (HN.out.kept hb)
  have c0 : w1.cell? ⟨w.heap.size, 0, none⟩ = some (.int .i64 0) := HN1.out.cell 0
  have c1 : w1.cell? ⟨w.heap.size, 1, none⟩ = some (.int .i64 0) := HN1.out.cell 1
  have c2 : w1.cell? ⟨w.heap.size, 2, none⟩ = some (.int .i64 0) := HN1.out.cell 2
  have f0 : w1.frozen? ⟨w.heap.size, 0, none⟩ = false := HN1.out.frozen 0
  have f1 : w1.frozen? ⟨w.heap.size, 1, none⟩ = false := HN1.out.frozen 1
  have f2 : w1.frozen? ⟨w.heap.size, 2, none⟩ = false := HN1.out.frozen 2
  have e0 : w1.cell? ⟨0, 0, none⟩ = some (.iface u v) := cell_stays HE.out Hb.out
  have hz : 0 < w.heap.size := World.block_lt_of_cell? w _ HE.out
  have e1 : (w1.setCell ⟨w.heap.size, 0, none⟩ (.int .i64 0)).cell? ⟨0, 0, none⟩ = some (.iface u v) := (World.cell?_of_block (a := ⟨0, 0, none⟩) (Below.heap_setCell w1 _ _ 0 (by show 0 ≠ w.heap.size; omega))).trans e0
  clear hb hz
  go_wp2
  go_region
  all_goals
    go_wp2
    exact bodyPost_ret (by simp [results, Tryd.f43, go_sem, c0, c1, c2]) rfl ⟨rfl, by first | exact (((Hb.out.setCell (Nat.le_refl _) _).setCell (Nat.le_refl _) _).setCell (Nat.le_refl _) _).drew | exact (((Hb.out.drew.setCell (Nat.le_refl _) _).setCell (Nat.le_refl _) _).setCell (Nat.le_refl _) _)⟩

set_option maxRecDepth 100000 in
set_option maxHeartbeats 4000000 in
theorem sof_yes (m : Int) (h : sizedB m = true) (ad : Option Addr) (cap : Nat) (bs : List Int) (hby : Byt bs) (hm : bs.length ≤ 1000) (w : World) (hE : FEnv w) (hI : Bys w.heap.size w ad bs) :
    Calls Tryd.prog 43 #[.slice ad bs.length cap, .int .i64 m] w fun e w' => e = .returned (.tuple #[.agg #[.int .i64 m, .int .i64 (offN m bs), .int .i64 (skpN m bs)], .nilIface]) ∧ Below w.heap.size w w' := by
  have HI := hid (fun W => h ▸ sized_any m W)
  obtain ⟨a1, a2, _⟩ := sized_range h
  have HO : Hid (∀ x W, Below w.heap.size w W → Calls Tryd.prog 58 #[.int .u64 x, .slice ad bs.length cap] W fun e w' => e = .returned (.int .u64 (hashN x bs)) ∧ Below W.heap.size W w') := hid fun x W hb => of_any x ad cap bs hby (by omega) W (hE.kept hb) ((hI.below hb).mono hb.size)
  have hx1 := hashN_range 1 bs
  have hx2 := hashN_range 2 bs
  have H1 : Hid (∀ W, Calls Tryd.prog 57 #[.int .u64 (hashN 1 bs), .int .i64 m] W fun e w' => e = .returned (.int .i64 (hashN 1 bs % m)) ∧ W = w') := hid fun W => by
    have := below_any (hashN 1 bs) m hx1 (by omega) (by omega) W
    rwa [if_neg (by omega)] at this
  have H2 : Hid (∀ W, Calls Tryd.prog 57 #[.int .u64 (hashN 2 bs), .int .i64 (m - 1)] W fun e w' => e = .returned (.int .i64 (hashN 2 bs % (m - 1))) ∧ W = w') := hid fun W => by
    have := below_any (hashN 2 bs) (m - 1) hx2 (by omega) (by omega) W
    rwa [if_neg (by omega)] at this
  have h3 := Int.emod_nonneg (hashN 2 bs) (show m - 1 ≠ 0 by omega)
  have h4 := Int.emod_lt_of_pos (hashN 2 bs) (show 0 < m - 1 by omega)
  have E1 : Hid (hashN 1 bs % m = offN m bs) := hid rfl
  have E2 : Hid (hashN 2 bs % (m - 1) + 1 = skpN m bs) := hid rfl
  have HB : Hid (Below w.heap.size w (w.alloc (.cells #[.int .i64 0, .int .i64 0, .int .i64 0] 74))) := hid ((Below.refl _ w).alloc (Nat.le_refl _) _)
  have HN := hid (Blk.new w 74 #[.int .i64 0, .int .i64 0, .int .i64 0])
  generalize offN m bs = q1 at *
  generalize skpN m bs = q2 at *
  generalize hashN 2 bs % (m - 1) = y2 at *
  generalize hashN 1 bs % m = y1 at *
  have HX1 : Hid (∀ W, Below w.heap.size w W → Calls Tryd.prog 58 #[.int .u64 1, .slice ad bs.length cap] W fun e w' => e = .returned (.int .u64 (hashN 1 bs)) ∧ Below W.heap.size W w') := hid (HO.out 1)
  have HX2 : Hid (∀ W, Below w.heap.size w W → Calls Tryd.prog 58 #[.int .u64 2, .slice ad bs.length cap] W fun e w' => e = .returned (.int .u64 (hashN 2 bs)) ∧ Below W.heap.size W w') := hid (HO.out 2)
  clear HO hx1 hx2
  generalize hashN 1 bs = x1 at *
  generalize hashN 2 bs = x2 at *
  clear h hE hI hby hm
  generalize bs.length = len at *
  go_enter Tryd.func43, Tryd.ntmps43
  go_wp2_with fail
  refine (HI.out _).mono ?_
  rintro e w1 ⟨rfl, hb⟩
  have Hb := hid (bel2 HB.out hb)
  have HN1 := hid (HN.out.kept hb)
  clear hb
  go_wp2_with fail
  refine (HX1.out _ Hb.out).mono ?_
  rintro e w2 ⟨rfl, hb⟩
  have Hb2 := hid (bel2 Hb.out hb)
  have HN2 := hid (HN1.out.kept hb)
  clear hb
  go_wp2_with fail
  refine (H1.out _).mono ?_
  rintro e w3 ⟨rfl, rfl⟩
  go_wp2_with fail
  refine (HX2.out _ Hb2.out).mono ?_
  rintro e w3 ⟨rfl, hb⟩
  have Hb3 := hid (bel2 Hb2.out hb)
  have HN3 := hid (HN2.out.kept hb)
  clear hb
  go_wp2_with fail
  refine (H2.out _).mono ?_
  rintro e w4 ⟨rfl, rfl⟩
  have c0 : w3.cell? ⟨w.heap.size, 0, none⟩ = some (.int .i64 0) := HN3.out.cell 0
  have c1 : w3.cell? ⟨w.heap.size, 1, none⟩ = some (.int .i64 0) := HN3.out.cell 1
  have c2 : w3.cell? ⟨w.heap.size, 2, none⟩ = some (.int .i64 0) := HN3.out.cell 2
  have f0 : w3.frozen? ⟨w.heap.size, 0, none⟩ = false := HN3.out.frozen 0
  have f1 : w3.frozen? ⟨w.heap.size, 1, none⟩ = false := HN3.out.frozen 1
  have f2 : w3.frozen? ⟨w.heap.size, 2, none⟩ = false := HN3.out.frozen 2
  go_wp2
  exact bodyPost_ret (v := .tuple #[.agg #[.int .i64 m, .int .i64 y1, .int .i64 (y2 + 1)], .nilIface]) (by simp [results, Tryd.f43, go_sem, c0, c1, c2]) rfl ⟨by rw [E1.out, E2.out], ((Hb3.out.setCell (Nat.le_refl _) _).setCell (Nat.le_refl _) _).setCell (Nat.le_refl _) _⟩

end Go.Proofs.YtgpbmbefdgbblaaDoor
