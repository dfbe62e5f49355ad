/-
  The law MaglevRaw, whatever it is given. · A table as an argument, taken apart.
-/
import Derived.Test.YtahconkjhneogaaGreatDoorGt02
namespace Go.Proofs.YtahconkjhneogaaGreatDoor
open Go.RowKit Go.Lib

theorem raw_any (E : Nat → TypeId × Value) (m m2 : Int) (hm1 : -9223372036854775808 ≤ m) (hm2 : m ≤ 9223372036854775807) (bs bs2 : List PS) (L L2 : List Int) (ys : List Int) (ab ab2 as1 as2 ay : Option Addr) (cb cb2 cl cl2 cy : Nat)
    (hcb : bs.length ≤ cb) (hay : ay = none → ys.length = 0 ∧ cy = 0) (w : World) (hE : MEnv E w) (hT : TabIn w.heap.size w ab as1 bs L) (hT2 : TabIn w.heap.size w ab2 as2 bs2 L2) (hby : Byt ys) (hY : Bys w.heap.size w ay ys) :
    Calls Tryz.prog 4 #[.agg #[.int .i64 m, .slice ab bs.length cb, .slice as1 L.length cl], .agg #[.int .i64 m2, .slice ab2 bs2.length cb2, .slice as2 L2.length cl2], .slice ay ys.length cy] w fun e w' => e = .returned (.bool true) ∧ Below w.heap.size w w' := by
  by_cases h : 300 < L.length ∨ 300 < L2.length ∨ 40 < bs.length ∨ 40 < bs2.length ∨ 200 < ys.length
  · exact raw_long E m m2 ab ab2 as1 as2 ay bs.length cb bs2.length cb2 L.length cl L2.length cl2 ys.length cy h w hE
  · exact raw_in E m m2 hm1 hm2 bs bs2 L L2 ys ab ab2 as1 as2 ay cb cb2 cl cl2 cy hcb (by omega) (by omega) (by omega) (by omega) (by omega) hay w hE hT hT2 hby hY
end Go.Proofs.YtahconkjhneogaaGreatDoor

namespace Go.Proofs.YtahconkjhneogaaGreatDoor
open Go.ChangeShapes Go.WideShapes Go.ChangeAt Go.WideMaps Go.WideElems Go.RowKit Go.Joins

theorem Tryz.cellsTable : Tryz.prog.cellsOf 27 = 3 := by kernel_rfl

section
variable {H : Type} {enc : TypeId × Value → H}
set_option maxRecDepth 100000 in
theorem open_isl {W : World} {v : Value} {d : DataW H} {p : List MemPlace} (hsl : ∃ a len cap, v = .slice a len cap) (h : DataW.Trod enc Tryz.prog W 0 (fun _ => true) true 25 v d p) :
    ∃ ad cap xs, v = .slice ad xs.length cap ∧ IntsIn W.heap.size W ad xs := by
  obtain ⟨a1, len1, cap1, rfl⟩ := hsl
  obtain ⟨fuel, hf⟩ := h
  rcases open_ints Tryz.underlying25 Tryz.underlying3 (by kernel_rfl) hf with ⟨hcs, _⟩ | ⟨x, ln, c, zs, hcs, _, hl, hm, hz, _, hcell, _⟩
  · simp [Value.cells] at hcs
    obtain ⟨rfl, rfl, rfl⟩ := hcs
    exact ⟨none, 0, [], rfl, (fun j hj => absurd hj (by simp))⟩
  · simp [Value.cells] at hcs
    obtain ⟨rfl, rfl, rfl⟩ := hcs
    simp only [if_true] at hz
    have e : (zs.take len1).length = len1 := by rw [List.length_take]; omega
    refine ⟨some x, cap1, zs.take len1, by rw [e], fun j hj => ?_⟩
    rw [e] at hj
    obtain ⟨b, off, spot⟩ := x
    have hspot : spot = none := by simpa [Addr.add] using World.cell?_spot (hcell 0 (by omega))
    subst hspot
    have hc := hcell j (by omega)
    rw [show (⟨b, off, none⟩ : Addr).add j = ⟨b, off + j, none⟩ by unfold Addr.add; split <;> simp_all] at hc
    refine ⟨b, off, rfl, cell_lt hc, ?_⟩
    rw [hc]
    simp [List.getD, show j < len1 by omega]

theorem slice_shape {W : World} {base fuel : Nat} {sp : Nat → Bool} {held : Bool} {t e : TypeId} {c : Value} {y : DataW H × List MemPlace} (ht : Tryz.prog.underlying t = some (.slice e)) (h : DataW.trod enc Tryz.prog W base sp held fuel t [c] = some y) : ∃ a len cap, c = .slice a len cap := by
  rcases DataW.trod_slice ht h with ⟨h0, _⟩ | ⟨a, len, cap, elems, rest, n, _, h0, _⟩
  · exact ⟨none, 0, 0, by simpa using h0⟩
  · exact ⟨_, len, cap, by simpa using h0⟩

set_option maxRecDepth 100000 in
theorem open_table {W : World} {b0 : Nat} {r : Reach} {v : Value} {d : DataW H} {ps : List MemPlace} (hv : Value.okWide Tryz.prog W r b0 27 v) (h : DataW.Trod enc Tryz.prog W 0 (fun _ => true) true 27 v d ps) :
    ∃ (m : Int) (ab as1 : Option Addr) (cb cl : Nat) (bs : List PS) (L : List Int), v = .agg #[.int .i64 m, .slice ab bs.length cb, .slice as1 L.length cl] ∧ (-9223372036854775808 ≤ m ∧ m ≤ 9223372036854775807) ∧ bs.length ≤ cb ∧ TabIn W.heap.size W ab as1 bs L := by
  obtain ⟨c0, c1, c2, y0, y1, y2, m, rfl, rfl, rfl, hy0, hy1, hy2⟩ := open_agg3 Tryz.underlying27 (by kernel_rfl) Tryz.cellsTable hv h
  obtain ⟨a, e0, rfl, wa⟩ := DataW.trod_int Tryz.underlying3 hy0
  obtain ⟨a1, l1, k1, rfl⟩ := slice_shape Tryz.underlying22 hy1
  obtain ⟨a2, l2, k2, rfl⟩ := slice_shape Tryz.underlying25 hy2
  obtain ⟨ab, cb, bs, e1, hcb, _, hE⟩ := open_points ⟨_, _, _, rfl⟩ (⟨m, by simpa [Value.cells] using hy1⟩ : DataW.Trod enc Tryz.prog W 0 (fun _ => true) true 22 (.slice a1 l1 k1) y1.1 y1.2)
  obtain ⟨as1, cl, L, e2, hI⟩ := open_isl ⟨_, _, _, rfl⟩ (⟨m, by simpa [Value.cells] using hy2⟩ : DataW.Trod enc Tryz.prog W 0 (fun _ => true) true 25 (.slice a2 l2 k2) y2.1 y2.2)
  simp at e0
  subst e0
  rw [e1, e2]
  exact ⟨a, ab, as1, cb, cl, bs, L, rfl, bounds_i64 wa, hcb, hE, hI⟩
end
end Go.Proofs.YtahconkjhneogaaGreatDoor
