/-
  whole: the frame that waits.
-/
import Derived.Test.YtkpjdjenlmodnaaDoorEstr2
namespace Go.Proofs.YtkpjdjenlmodnaaDoor
open Go.RowKit Go.Lib

section
variable {w w' : World} {c : Nat} {p : List Int} {n : Nat} {b : Bool}
theorem slice_arr2 (c m : Nat) (h1 : 2 < m) (h2 : m ≤ 1202) (V : World) : (Instr.sliceAt 53 (.pointer (some ⟨c, 0, none⟩)) (some (.int .i64 2)) (some (.int .i64 m)) none).run Tryd.prog V = .ok (.slice (some ⟨c, 2, none⟩) (m - 2) 1200) V :=
  slice_arr c 2 m h1 h2 V

set_option maxHeartbeats 1000000 in
theorem ahead_zero {g o cap : Nat} {bs : List Int} (h : Cur w 78 c (some ⟨g, o, none⟩) cap bs bs.length .nilIface) :
    Calls Tryd.prog 35 #[.pointer (some ⟨c, 0, none⟩), .int .i64 0] w fun e w' => ∃ a, (e = .returned (.slice (some a) 0 0)) ∧ ∃ m, w' = w.drewN m := by
  have h0 := h.cell0
  have h1 := h.cell1
  have h2 := h.cell2
  have hm := h.most
  have hcap := h.room
  have HL := hid (left_any h)
  clear h
  generalize bs.length = l at *
  rw [Int.sub_self] at HL
  go_enter Tryd.func35, Tryd.ntmps35
  go_wp2_with fail
  refine HL.out.mono ?_
  rintro e w' ⟨rfl, n, rfl⟩
  go_wp2_with fail
  by_cases hz : l = cap
  · subst hz
    go_quiet (fail)
    go_wp2
    go_ret
    refine ⟨_, rfl, n + nq, drewN_drewN _ _ _⟩
  · go_quiet (fail)
    go_wp2
    go_ret
    refine ⟨_, rfl, n + nq, drewN_drewN _ _ _⟩

set_option maxHeartbeats 1000000 in
theorem bytes_zero {g o cap : Nat} {bs : List Int} (h : Cur w 78 c (some ⟨g, o, none⟩) cap bs bs.length .nilIface) :
    Calls Tryd.prog 31 #[.pointer (some ⟨c, 0, none⟩), .int .i64 0] w fun e w' => (∃ a, e = .returned (.slice (some a) 0 0)) ∧ Keep c w w' := by
  have HA := hid (ahead_zero h)
  have c1 := h.cell1
  have hf := h.free 1
  have hm := h.most
  have HK : Hid (∀ n, Keep c w ((w.drewN n).setCell ⟨c, 1, none⟩ (.int .i64 (bs.length : Int)))) := hid fun n => (keep_drewN c w n).trans (Keep.set _ c 1 _)
  clear h
  go_enter Tryd.func31, Tryd.ntmps31
  go_wp2_with fail
  refine HA.out.mono ?_
  rintro e w' ⟨a, rfl, n, rfl⟩
  go_wp2_with fail
  refine (apart_zero _ _ _).mono ?_
  rintro e w' ⟨rfl, rfl⟩
  have HK2 := hid (HK.out n)
  clear HK HA
  go_wp2
  go_ret
  exact ⟨⟨_, rfl⟩, HK2.out⟩
end
end Go.Proofs.YtkpjdjenlmodnaaDoor
