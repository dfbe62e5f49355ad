/-
  slices.Compact of points.
-/
import Derived.Test.YtgpbmbefdgbblaaDoorZcpa
import Derived.Lib.SliceRun
import Derived.Deep.LoopGhost
import Derived.Deep.MidRow
import Derived.Deep.Cut
namespace Go.Proofs.YtgpbmbefdgbblaaDoor
open Go.RowKit Go.Shelf Go.Lib Go.Sort

theorem wrap_small (k : Nat) (h : k ≤ 100000) : IntKind.i64.wrap (k : Int) = k := by
  rw [IntKind.wrap_i64]
  omega

theorem run_clear_keys (w : World) (b o n c : Nat) (hn : 0 < n) (ht : w.there b o (n * 18)) :
    ∃ vs, ∀ ty, (Builtin.clear_ #[22] ty #[.slice (some ⟨b, o, none⟩) n c]).run Tryd.prog w = .ok (.tuple #[]) (w.setCells b o vs) := by
  refine ⟨(Builtin.zeroCells #[.bool false, .int .u8 0, .int .u8 0, .int .u8 0, .int .u8 0, .int .u8 0, .int .u8 0, .int .u8 0, .int .u8 0, .int .u8 0, .int .u8 0, .int .u8 0, .int .u8 0, .int .u8 0, .int .u8 0, .int .u8 0, .int .u8 0, .int .i64 0] n).toList, fun ty => ?_⟩
  have hz : (Builtin.zeroCells #[.bool false, .int .u8 0, .int .u8 0, .int .u8 0, .int .u8 0, .int .u8 0, .int .u8 0, .int .u8 0, .int .u8 0, .int .u8 0, .int .u8 0, .int .u8 0, .int .u8 0, .int .u8 0, .int .u8 0, .int .u8 0, .int .u8 0, .int .i64 0] n).size = n * 18 := by simp [Builtin.zeroCells]
  have hst := run_storeCells_cells (P := Tryd.prog) b o (Builtin.zeroCells #[.bool false, .int .u8 0, .int .u8 0, .int .u8 0, .int .u8 0, .int .u8 0, .int .u8 0, .int .u8 0, .int .u8 0, .int .u8 0, .int .u8 0, .int .u8 0, .int .u8 0, .int .u8 0, .int .u8 0, .int .u8 0, .int .u8 0, .int .i64 0] n).toList 0 w
    (fun j hj => by simpa using (ht j (by simpa [hz] using hj)).1) (fun j hj => by simpa using (ht j (by simpa [hz] using hj)).2)
    (fun v hv => by
      simp only [Builtin.zeroCells, List.mem_map, Array.toList_map, Array.toList_range] at hv
      obtain ⟨i, _, rfl⟩ := hv
      have key : ∀ k, k < 18 → ((#[.bool false, .int .u8 0, .int .u8 0, .int .u8 0, .int .u8 0, .int .u8 0, .int .u8 0, .int .u8 0, .int .u8 0, .int .u8 0, .int .u8 0, .int .u8 0, .int .u8 0, .int .u8 0, .int .u8 0, .int .u8 0, .int .u8 0, .int .i64 0] : Array Value).getD k default).oneCell' = true := by decide
      have := key (i % 18) (Nat.mod_lt _ (by omega))
      simpa using this)
  simp only [Nat.add_zero] at hst
  obtain ⟨m, rfl⟩ : ∃ m, n = m + 1 := ⟨n - 1, by omega⟩
  have hv := Tryd.zeroValue36 w
  simp [Builtin.clear_, run_underlying Tryd.underlying22, hv, Value.cells, hst]

/-! ### The walk -/
theorem encPL_info (c : PS) : (Tryd.prog.info? 36).map (·.size) = some (encPL c).length := by rw [encPL_length]; exact Tryd.infoPoint
theorem encPL_infoA (c : PS) : (Tryd.prog.info? 36).map (·.size) = some (encPL c).toArray.size := by rw [List.size_toArray]; exact encPL_info c

set_option maxRecDepth 100000 in
set_option maxHeartbeats 4000000 in
theorem compact_blk (base blk cap : Nat) (hb : base ≤ blk) (d : Array PS) (hsz : d.size ≤ 100000) (hcap : d.size ≤ cap) (w : World) (hR : RowAt base blk cap w w d) :
    Calls Tryd.prog 26 #[.slice (some ⟨blk, 0, none⟩) d.size cap] w fun e w' => ∃ dk, dk.toList = compactUpTo d d.size ∧ e = .returned (.slice (some ⟨blk, 0, none⟩) dk.size cap) ∧ RowAt base blk cap w w' dk := by
  have same : (∀ j, j < d.size → keeps d j = true) → d.toList = compactUpTo d d.size := fun hall => by rw [compactUpTo_all d _ hall, range_map_get]
  have HS := hid same
  have HR := hid hR
  have Hb := hid hb
  clear same hR hb
  by_cases h2 : d.size < 2
  · go_enter Tryd.func26, Tryd.ntmps26
    go_wp2
    go_ret
    exact ⟨d, HS.out (fun j hj => keeps_lt_one d j (by omega)), rfl, HR.out⟩
  · go_enter Tryd.func26, Tryd.ntmps26
    go_wp2
    go_loopg [3] d.size (fun g s3 wr => ∃ k m : Nat, k < m ∧ m ≤ k + 1 ∧ k + 1 ≤ d.size ∧ d.size - k ≤ g ∧ s3 = .int .i64 (m : Int) ∧ Hid (RowAt base blk cap w wr d) ∧ Hid (∀ j, j < k + 1 → keeps d j = true))
    case atStart => exact ⟨0, 1, by omega, by omega, by omega, by omega, rfl, HR, hid (fun j hj => keeps_lt_one d j (by omega))⟩
    case round =>
      obtain ⟨k, m, hm, hm', hk, hg, rfl, HW, HA⟩ := hrel
      by_cases hlt : m < d.size
      · obtain ⟨x, hx⟩ : ∃ x, x = d[k + 1]! := ⟨_, rfl⟩
        obtain ⟨y, hy⟩ : ∃ y, y = d[k]! := ⟨_, rfl⟩
        have HX : Hid (wr.drew.rangeAt blk (m * 18) (encPL x)) := hid (by rw [show m = k + 1 by omega]; exact hx ▸ HW.out.elems (k + 1) (by omega))
        have HY : Hid (wr.drew.rangeAt blk (k * 18) (encPL y)) := hid (hy ▸ HW.out.elems k (by omega))
        have HXY : Hid (d[k + 1]! = x ∧ d[k]! = y) := hid ⟨hx.symm, hy.symm⟩
        clear hx hy
        have heq := eql_pt x y
        by_cases hdup : x = y
        · subst hdup
          have heqx := eql_pt x x
          have hxx : decide (x = x) = true := by simp
          rw [hxx] at heqx
          clear heq hxx
          go_wp2_with fail

          refine wp_region_held_drew (S := fun V => V = wr.drew) (by kernel_rfl) rfl (fun hS => ?_)
          change wpAnyH _ _ _ _ _ 10 #[false, false, false, false, false, false, false, false, false, false] _ _
          refine wpAnyH_take (i := 0) (v := .slice (some ⟨blk, 0, none⟩) d.size cap) rfl (by kernel_rfl) (by kernel_rfl) (by kernel_rfl) (fun _ _ _ h => h) (.inl ⟨by kernel_rfl, fun w' _ => by unfold execOp; go_simp⟩) hS ?_
          simp only [List.getElem_toArray, List.getElem_cons_zero, Act.put, List.setIfInBounds_toArray, List.set_cons_zero, List.set_cons_succ]
          refine wpAnyH_take (i := 1) (v := .int .i64 (m : Int)) rfl (by kernel_rfl) (by kernel_rfl) (by kernel_rfl) (fun _ _ _ h => h) (.inl ⟨by kernel_rfl, fun w' _ => by unfold execOp; go_simp⟩) hS ?_
          simp only [List.getElem_toArray, List.getElem_cons_zero, List.getElem_cons_succ, Act.put, List.setIfInBounds_toArray, List.set_cons_zero, List.set_cons_succ]
          refine wpAnyH_take (i := 2) (v := .pointer (some ⟨blk, m * 18, none⟩)) rfl (by kernel_rfl) (by kernel_rfl) (by kernel_rfl) (fun _ _ _ h => h) (.inl ⟨by kernel_rfl, fun w' _ => by unfold execOp; go_simp; try (intro h; omega)⟩) hS ?_
          simp only [List.getElem_toArray, List.getElem_cons_zero, List.getElem_cons_succ, Act.put, List.setIfInBounds_toArray, List.set_cons_zero, List.set_cons_succ]
          refine wpAnyH_take (i := 3) (v := .agg (encP x)) rfl (by kernel_rfl) (by kernel_rfl) (by kernel_rfl) (fun _ _ _ h => h) (yieldsIf_load_mid (by kernel_rfl) 36 (.tmp 18) rfl blk (m * 18) rfl (encPL x) _ (fun w' hw' => hw' ▸ HX.out) Tryd.underlying36 rfl (encPL_info _)) hS ?_
          simp only [List.getElem_toArray, List.getElem_cons_zero, List.getElem_cons_succ, Act.put, List.setIfInBounds_toArray, List.set_cons_zero, List.set_cons_succ]
          refine wpAnyH_take (i := 4) (v := .slice (some ⟨blk, 0, none⟩) d.size cap) rfl (by kernel_rfl) (by kernel_rfl) (by kernel_rfl) (fun _ _ _ h => h) (.inl ⟨by kernel_rfl, fun w' _ => by unfold execOp; go_simp⟩) hS ?_
          simp only [List.getElem_toArray, List.getElem_cons_zero, List.getElem_cons_succ, Act.put, List.setIfInBounds_toArray, List.set_cons_zero, List.set_cons_succ]
          refine wpAnyH_take (i := 5) (v := .int .i64 (m : Int)) rfl (by kernel_rfl) (by kernel_rfl) (by kernel_rfl) (fun _ _ _ h => h) (.inl ⟨by kernel_rfl, fun w' _ => by unfold execOp; go_simp⟩) hS ?_
          simp only [List.getElem_toArray, List.getElem_cons_zero, List.getElem_cons_succ, Act.put, List.setIfInBounds_toArray, List.set_cons_zero, List.set_cons_succ]
          refine wpAnyH_take (i := 6) (v := .int .i64 (k : Int)) rfl (by kernel_rfl) (by kernel_rfl) (by kernel_rfl) (fun _ _ _ h => h) (.inl ⟨by kernel_rfl, fun w' _ => by unfold execOp; go_simp; rw [show ((m : Int) - 1) = (k : Int) by omega]; exact wrap_small _ (by omega)⟩) hS ?_
          simp only [List.getElem_toArray, List.getElem_cons_zero, List.getElem_cons_succ, Act.put, List.setIfInBounds_toArray, List.set_cons_zero, List.set_cons_succ]
          refine wpAnyH_take (i := 7) (v := .pointer (some ⟨blk, k * 18, none⟩)) rfl (by kernel_rfl) (by kernel_rfl) (by kernel_rfl) (fun _ _ _ h => h) (.inl ⟨by kernel_rfl, fun w' _ => by unfold execOp; go_simp; try (intro h; omega)⟩) hS ?_
          simp only [List.getElem_toArray, List.getElem_cons_zero, List.getElem_cons_succ, Act.put, List.setIfInBounds_toArray, List.set_cons_zero, List.set_cons_succ]
          refine wpAnyH_take (i := 8) (v := .agg (encP x)) rfl (by kernel_rfl) (by kernel_rfl) (by kernel_rfl) (fun _ _ _ h => h) (yieldsIf_load_mid (by kernel_rfl) 36 (.tmp 23) rfl blk (k * 18) rfl (encPL x) _ (fun w' hw' => hw' ▸ HY.out) Tryd.underlying36 rfl (encPL_info _)) hS ?_
          simp only [List.getElem_toArray, List.getElem_cons_zero, List.getElem_cons_succ, Act.put, List.setIfInBounds_toArray, List.set_cons_zero, List.set_cons_succ]
          refine wpAnyH_take (i := 9) (v := .bool true) rfl (by kernel_rfl) (by kernel_rfl) (by kernel_rfl) (fun _ _ _ h => h) (.inl ⟨by kernel_rfl, fun w' _ => by unfold execOp; simp [go_sem, heqx]⟩) hS ?_
          simp only [List.getElem_toArray, List.getElem_cons_zero, List.getElem_cons_succ, Act.put, List.setIfInBounds_toArray, List.set_cons_zero, List.set_cons_succ]
          refine wpAnyH_done (by kernel_rfl) ?_ _
          clear hS heqx
          have HW1 := hid HW.out.drew
          clear HX HY HW
          go_wp2
          try simp only [show decide ((m : Int) < (d.size : Int)) = true from decide_eq_true (by omega)]
          go_loopg [3, 5] d.size (fun g s3 s5 wr => ∃ (kk k2 m2 : Nat) (dk : Array PS), k2 < m2 ∧ m2 ≤ k2 + 1 ∧ s3 = .int .i64 (kk : Int) ∧ s5 = .int .i64 (m2 : Int) ∧ k + 1 + (k2 + 1) ≤ d.size ∧ d.size - (k + 1 + k2) ≤ g ∧ kk < k + 1 + (k2 + 1) ∧ Hid (RowAt base blk cap w wr dk) ∧ Hid (CompInv d (k + 1 + (k2 + 1)) kk dk))
          case atStart => exact ⟨m, 0, 1, d, by omega, by omega, rfl, rfl, by omega, by omega, by omega, HW1, hid (by rw [show m = k + 1 by omega]; exact CompInv.start HA.out (keeps_neg (by omega) (by rw [HXY.out.1, show k + 1 - 1 = k from rfl, HXY.out.2])))⟩
          case round =>
            obtain ⟨kk, k2, m2, dk, hm2, hm2', rfl, rfl, h1, hg2, hkk, HR2, HI⟩ := hrel
            have hds := HI.out.size
            have Hds := hid hds
            by_cases hlt2 : k + 1 + (k2 + 1) < d.size
            · obtain ⟨u, hu⟩ : ∃ u, u = dk[k + 1 + (k2 + 1)]! := ⟨_, rfl⟩
              obtain ⟨v, hv⟩ : ∃ v, v = dk[k + 1 + k2]! := ⟨_, rfl⟩
              have HU : Hid (wr.drew.rangeAt blk (m * 18 + m2 * 18) (encPL u)) := hid (by
                have := hu ▸ HR2.out.elems (k + 1 + (k2 + 1)) (by omega)
                rwa [show (k + 1 + (k2 + 1)) * 18 = m * 18 + m2 * 18 by omega] at this)
              have HV : Hid (wr.drew.rangeAt blk (m * 18 + k2 * 18) (encPL v)) := hid (by
                have := hv ▸ HR2.out.elems (k + 1 + k2) (by omega)
                rwa [show (k + 1 + k2) * 18 = m * 18 + k2 * 18 by omega] at this)
              have HUV : Hid (d[k + 1 + (k2 + 1)]! = u ∧ d[k + 1 + k2]! = v) := hid ⟨by rw [hu, HI.out.high _ (by omega)], by rw [hv, HI.out.high _ (by omega)]⟩
              clear hu hv hds
              by_cases huv : u = v
              · subst huv
                have heqx := neq_pt u u
                have hxx : decide (u = u) = true := by simp
                rw [hxx] at heqx
                clear hxx
                go_wp2_with fail

                refine wp_region_held_drew (S := fun V => V = wr.drew) (by kernel_rfl) rfl (fun hS => ?_)
                change wpAnyH _ _ _ _ _ 10 #[false, false, false, false, false, false, false, false, false, false] _ _
                refine wpAnyH_take (i := 0) (v := .slice (some ⟨blk, m * 18, none⟩) (d.size - m) (cap - m)) rfl (by kernel_rfl) (by kernel_rfl) (by kernel_rfl) (fun _ _ _ h => h) (.inl ⟨by kernel_rfl, fun w' _ => by unfold execOp; go_simp⟩) hS ?_
                simp only [List.getElem_toArray, List.getElem_cons_zero, Act.put, List.setIfInBounds_toArray, List.set_cons_zero, List.set_cons_succ]
                refine wpAnyH_take (i := 1) (v := .int .i64 (m2 : Int)) rfl (by kernel_rfl) (by kernel_rfl) (by kernel_rfl) (fun _ _ _ h => h) (.inl ⟨by kernel_rfl, fun w' _ => by unfold execOp; go_simp⟩) hS ?_
                simp only [List.getElem_toArray, List.getElem_cons_zero, List.getElem_cons_succ, Act.put, List.setIfInBounds_toArray, List.set_cons_zero, List.set_cons_succ]
                refine wpAnyH_take (i := 2) (v := .pointer (some ⟨blk, m * 18 + m2 * 18, none⟩)) rfl (by kernel_rfl) (by kernel_rfl) (by kernel_rfl) (fun _ _ _ h => h) (.inl ⟨by kernel_rfl, fun w' _ => by unfold execOp; go_simp; try (intro h; omega)⟩) hS ?_
                simp only [List.getElem_toArray, List.getElem_cons_zero, List.getElem_cons_succ, Act.put, List.setIfInBounds_toArray, List.set_cons_zero, List.set_cons_succ]
                refine wpAnyH_take (i := 3) (v := .agg (encP u)) rfl (by kernel_rfl) (by kernel_rfl) (by kernel_rfl) (fun _ _ _ h => h) (yieldsIf_load_mid (by kernel_rfl) 36 (.tmp 37) rfl blk (m * 18 + m2 * 18) rfl (encPL u) _ (fun w' hw' => hw' ▸ HU.out) Tryd.underlying36 rfl (encPL_info _)) hS ?_
                simp only [List.getElem_toArray, List.getElem_cons_zero, List.getElem_cons_succ, Act.put, List.setIfInBounds_toArray, List.set_cons_zero, List.set_cons_succ]
                refine wpAnyH_take (i := 4) (v := .slice (some ⟨blk, m * 18, none⟩) (d.size - m) (cap - m)) rfl (by kernel_rfl) (by kernel_rfl) (by kernel_rfl) (fun _ _ _ h => h) (.inl ⟨by kernel_rfl, fun w' _ => by unfold execOp; go_simp⟩) hS ?_
                simp only [List.getElem_toArray, List.getElem_cons_zero, List.getElem_cons_succ, Act.put, List.setIfInBounds_toArray, List.set_cons_zero, List.set_cons_succ]
                refine wpAnyH_take (i := 5) (v := .int .i64 (m2 : Int)) rfl (by kernel_rfl) (by kernel_rfl) (by kernel_rfl) (fun _ _ _ h => h) (.inl ⟨by kernel_rfl, fun w' _ => by unfold execOp; go_simp⟩) hS ?_
                simp only [List.getElem_toArray, List.getElem_cons_zero, List.getElem_cons_succ, Act.put, List.setIfInBounds_toArray, List.set_cons_zero, List.set_cons_succ]
                refine wpAnyH_take (i := 6) (v := .int .i64 (k2 : Int)) rfl (by kernel_rfl) (by kernel_rfl) (by kernel_rfl) (fun _ _ _ h => h) (.inl ⟨by kernel_rfl, fun w' _ => by unfold execOp; go_simp; rw [show ((m2 : Int) - 1) = (k2 : Int) by omega]; exact wrap_small _ (by omega)⟩) hS ?_
                simp only [List.getElem_toArray, List.getElem_cons_zero, List.getElem_cons_succ, Act.put, List.setIfInBounds_toArray, List.set_cons_zero, List.set_cons_succ]
                refine wpAnyH_take (i := 7) (v := .pointer (some ⟨blk, m * 18 + k2 * 18, none⟩)) rfl (by kernel_rfl) (by kernel_rfl) (by kernel_rfl) (fun _ _ _ h => h) (.inl ⟨by kernel_rfl, fun w' _ => by unfold execOp; go_simp; try (intro h; omega)⟩) hS ?_
                simp only [List.getElem_toArray, List.getElem_cons_zero, List.getElem_cons_succ, Act.put, List.setIfInBounds_toArray, List.set_cons_zero, List.set_cons_succ]
                refine wpAnyH_take (i := 8) (v := .agg (encP u)) rfl (by kernel_rfl) (by kernel_rfl) (by kernel_rfl) (fun _ _ _ h => h) (yieldsIf_load_mid (by kernel_rfl) 36 (.tmp 42) rfl blk (m * 18 + k2 * 18) rfl (encPL u) _ (fun w' hw' => hw' ▸ HV.out) Tryd.underlying36 rfl (encPL_info _)) hS ?_
                simp only [List.getElem_toArray, List.getElem_cons_zero, List.getElem_cons_succ, Act.put, List.setIfInBounds_toArray, List.set_cons_zero, List.set_cons_succ]
                refine wpAnyH_take (i := 9) (v := .bool false) rfl (by kernel_rfl) (by kernel_rfl) (by kernel_rfl) (fun _ _ _ h => h) (.inl ⟨by kernel_rfl, fun w' _ => by unfold execOp; simp [go_sem, heqx]⟩) hS ?_
                simp only [List.getElem_toArray, List.getElem_cons_zero, List.getElem_cons_succ, Act.put, List.setIfInBounds_toArray, List.set_cons_zero, List.set_cons_succ]
                refine wpAnyH_done (by kernel_rfl) ?_ _
                clear hS heqx
                go_wp2
                go_roundg (d.size - (k + 1 + (k2 + 1)))
                case measure => omega
                case rel => exact ⟨kk, k2 + 1, m2 + 1, dk, by omega, by omega, rfl, by go_num, by omega, by omega, by omega, hid HR2.out.drew, hid (HI.out.skip (keeps_neg (by omega) (by rw [HUV.out.1, show k + 1 + (k2 + 1) - 1 = k + 1 + k2 from rfl, HUV.out.2])))⟩
              · have heqx := neq_pt u v
                have hne : decide (u = v) = false := decide_eq_false huv
                rw [hne] at heqx
                clear hne
                have HT : Hid (wr.drew.there blk (kk * 18) 18) := hid (HR2.out.drew.there (by omega))
                go_wp2_with fail

                refine wp_region_held_drew (S := fun V => V = wr.drew) (by kernel_rfl) rfl (fun hS => ?_)
                change wpAnyH _ _ _ _ _ 10 #[false, false, false, false, false, false, false, false, false, false] _ _
                refine wpAnyH_take (i := 0) (v := .slice (some ⟨blk, m * 18, none⟩) (d.size - m) (cap - m)) rfl (by kernel_rfl) (by kernel_rfl) (by kernel_rfl) (fun _ _ _ h => h) (.inl ⟨by kernel_rfl, fun w' _ => by unfold execOp; go_simp⟩) hS ?_
                simp only [List.getElem_toArray, List.getElem_cons_zero, Act.put, List.setIfInBounds_toArray, List.set_cons_zero, List.set_cons_succ]
                refine wpAnyH_take (i := 1) (v := .int .i64 (m2 : Int)) rfl (by kernel_rfl) (by kernel_rfl) (by kernel_rfl) (fun _ _ _ h => h) (.inl ⟨by kernel_rfl, fun w' _ => by unfold execOp; go_simp⟩) hS ?_
                simp only [List.getElem_toArray, List.getElem_cons_zero, List.getElem_cons_succ, Act.put, List.setIfInBounds_toArray, List.set_cons_zero, List.set_cons_succ]
                refine wpAnyH_take (i := 2) (v := .pointer (some ⟨blk, m * 18 + m2 * 18, none⟩)) rfl (by kernel_rfl) (by kernel_rfl) (by kernel_rfl) (fun _ _ _ h => h) (.inl ⟨by kernel_rfl, fun w' _ => by unfold execOp; go_simp; try (intro h; omega)⟩) hS ?_
                simp only [List.getElem_toArray, List.getElem_cons_zero, List.getElem_cons_succ, Act.put, List.setIfInBounds_toArray, List.set_cons_zero, List.set_cons_succ]
                refine wpAnyH_take (i := 3) (v := .agg (encP u)) rfl (by kernel_rfl) (by kernel_rfl) (by kernel_rfl) (fun _ _ _ h => h) (yieldsIf_load_mid (by kernel_rfl) 36 (.tmp 37) rfl blk (m * 18 + m2 * 18) rfl (encPL u) _ (fun w' hw' => hw' ▸ HU.out) Tryd.underlying36 rfl (encPL_info _)) hS ?_
                simp only [List.getElem_toArray, List.getElem_cons_zero, List.getElem_cons_succ, Act.put, List.setIfInBounds_toArray, List.set_cons_zero, List.set_cons_succ]
                refine wpAnyH_take (i := 4) (v := .slice (some ⟨blk, m * 18, none⟩) (d.size - m) (cap - m)) rfl (by kernel_rfl) (by kernel_rfl) (by kernel_rfl) (fun _ _ _ h => h) (.inl ⟨by kernel_rfl, fun w' _ => by unfold execOp; go_simp⟩) hS ?_
                simp only [List.getElem_toArray, List.getElem_cons_zero, List.getElem_cons_succ, Act.put, List.setIfInBounds_toArray, List.set_cons_zero, List.set_cons_succ]
                refine wpAnyH_take (i := 5) (v := .int .i64 (m2 : Int)) rfl (by kernel_rfl) (by kernel_rfl) (by kernel_rfl) (fun _ _ _ h => h) (.inl ⟨by kernel_rfl, fun w' _ => by unfold execOp; go_simp⟩) hS ?_
                simp only [List.getElem_toArray, List.getElem_cons_zero, List.getElem_cons_succ, Act.put, List.setIfInBounds_toArray, List.set_cons_zero, List.set_cons_succ]
                refine wpAnyH_take (i := 6) (v := .int .i64 (k2 : Int)) rfl (by kernel_rfl) (by kernel_rfl) (by kernel_rfl) (fun _ _ _ h => h) (.inl ⟨by kernel_rfl, fun w' _ => by unfold execOp; go_simp; rw [show ((m2 : Int) - 1) = (k2 : Int) by omega]; exact wrap_small _ (by omega)⟩) hS ?_
                simp only [List.getElem_toArray, List.getElem_cons_zero, List.getElem_cons_succ, Act.put, List.setIfInBounds_toArray, List.set_cons_zero, List.set_cons_succ]
                refine wpAnyH_take (i := 7) (v := .pointer (some ⟨blk, m * 18 + k2 * 18, none⟩)) rfl (by kernel_rfl) (by kernel_rfl) (by kernel_rfl) (fun _ _ _ h => h) (.inl ⟨by kernel_rfl, fun w' _ => by unfold execOp; go_simp; try (intro h; omega)⟩) hS ?_
                simp only [List.getElem_toArray, List.getElem_cons_zero, List.getElem_cons_succ, Act.put, List.setIfInBounds_toArray, List.set_cons_zero, List.set_cons_succ]
                refine wpAnyH_take (i := 8) (v := .agg (encP v)) rfl (by kernel_rfl) (by kernel_rfl) (by kernel_rfl) (fun _ _ _ h => h) (yieldsIf_load_mid (by kernel_rfl) 36 (.tmp 42) rfl blk (m * 18 + k2 * 18) rfl (encPL v) _ (fun w' hw' => hw' ▸ HV.out) Tryd.underlying36 rfl (encPL_info _)) hS ?_
                simp only [List.getElem_toArray, List.getElem_cons_zero, List.getElem_cons_succ, Act.put, List.setIfInBounds_toArray, List.set_cons_zero, List.set_cons_succ]
                refine wpAnyH_take (i := 9) (v := .bool true) rfl (by kernel_rfl) (by kernel_rfl) (by kernel_rfl) (fun _ _ _ h => h) (.inl ⟨by kernel_rfl, fun w' _ => by unfold execOp; simp [go_sem, heqx]⟩) hS ?_
                simp only [List.getElem_toArray, List.getElem_cons_zero, List.getElem_cons_succ, Act.put, List.setIfInBounds_toArray, List.set_cons_zero, List.set_cons_succ]
                refine wpAnyH_done (by kernel_rfl) ?_ _
                clear hS heqx
                go_wp2_with (first
                  | ((show wpList _ _ _ (⟨some 50, _, _, _, _, _⟩ :: _) _ _); go_must (refine wpList_load_mid rfl 36 (.tmp 49) rfl blk (m * 18 + m2 * 18) rfl (encPL u) _ HU.out Tryd.underlying36 rfl (encPL_info _) ?_))
                  | ((show wpList _ _ _ (⟨none, _, _, _, _, _⟩ :: _) _ _); go_must (refine wpList_store_mid rfl 36 (.tmp 51) (.tmp 50) rfl blk (kk * 18) (encPL u).toArray rfl rfl (by rw [List.size_toArray, encPL_length]; exact HT.out) (encPL_infoA _) (all_oneCell_toArray (encPL_one u)) ?_)))
                go_roundg (d.size - (k + 1 + (k2 + 1)))
                case measure => omega
                case rel => exact ⟨kk + 1, k2 + 1, m2 + 1, dk.setIfInBounds kk u, by omega, by omega, by go_num, by go_num, by omega, by omega, by omega, hid (HR2.out.drew.set Hb.out (by have := Hds.out; omega) (by have := Hds.out; omega) u), hid (by
                  have := HI.out.keep hlt2 (keeps_pos (by rw [HUV.out.1, show k + 1 + (k2 + 1) - 1 = k + 1 + k2 from rfl, HUV.out.2]; exact huv))
                  rwa [HUV.out.1] at this)⟩
            · have hke : k + 1 + (k2 + 1) = d.size := by omega
              obtain ⟨vs, hvs⟩ := run_clear_keys wr blk (kk * 18) (d.size - kk) (cap - kk) (by omega) (HR2.out.there (by omega))
              have HE : Hid ((dk.extract 0 kk).toList = compactUpTo d d.size) := hid (comp_done (by have := HI.out; rwa [hke] at this))
              have HZ : Hid ((dk.extract 0 kk).size = kk) := hid (by simp; omega)
              have HF : Hid (RowAt base blk cap w (wr.setCells blk (kk * 18) vs) (dk.extract 0 kk)) := hid (HR2.out.cut Hb.out (by omega) vs)
              clear hke hds
              go_wp2
              go_ret
              exact ⟨dk.extract 0 kk, HE.out, by rw [HZ.out]; rfl, HF.out⟩
        · have hne : decide (x = y) = false := decide_eq_false hdup
          rw [hne] at heq
          go_wp2_with fail
          refine wp_region_held_drew (S := fun V => V = wr.drew) (by kernel_rfl) rfl (fun hS => ?_)
          change wpAnyH _ _ _ _ _ 10 #[false, false, false, false, false, false, false, false, false, false] _ _
          refine wpAnyH_take (i := 0) (v := .slice (some ⟨blk, 0, none⟩) d.size cap) rfl (by kernel_rfl) (by kernel_rfl) (by kernel_rfl) (fun _ _ _ h => h) (.inl ⟨by kernel_rfl, fun w' _ => by unfold execOp; go_simp⟩) hS ?_
          simp only [List.getElem_toArray, List.getElem_cons_zero, Act.put, List.setIfInBounds_toArray, List.set_cons_zero, List.set_cons_succ]
          refine wpAnyH_take (i := 1) (v := .int .i64 (m : Int)) rfl (by kernel_rfl) (by kernel_rfl) (by kernel_rfl) (fun _ _ _ h => h) (.inl ⟨by kernel_rfl, fun w' _ => by unfold execOp; go_simp⟩) hS ?_
          simp only [List.getElem_toArray, List.getElem_cons_zero, List.getElem_cons_succ, Act.put, List.setIfInBounds_toArray, List.set_cons_zero, List.set_cons_succ]
          refine wpAnyH_take (i := 2) (v := .pointer (some ⟨blk, m * 18, none⟩)) rfl (by kernel_rfl) (by kernel_rfl) (by kernel_rfl) (fun _ _ _ h => h) (.inl ⟨by kernel_rfl, fun w' _ => by unfold execOp; go_simp; try (intro h; omega)⟩) hS ?_
          simp only [List.getElem_toArray, List.getElem_cons_zero, List.getElem_cons_succ, Act.put, List.setIfInBounds_toArray, List.set_cons_zero, List.set_cons_succ]
          refine wpAnyH_take (i := 3) (v := .agg (encP x)) rfl (by kernel_rfl) (by kernel_rfl) (by kernel_rfl) (fun _ _ _ h => h) (yieldsIf_load_mid (by kernel_rfl) 36 (.tmp 18) rfl blk (m * 18) rfl (encPL x) _ (fun w' hw' => hw' ▸ HX.out) Tryd.underlying36 rfl (encPL_info _)) hS ?_
          simp only [List.getElem_toArray, List.getElem_cons_zero, List.getElem_cons_succ, Act.put, List.setIfInBounds_toArray, List.set_cons_zero, List.set_cons_succ]
          refine wpAnyH_take (i := 4) (v := .slice (some ⟨blk, 0, none⟩) d.size cap) rfl (by kernel_rfl) (by kernel_rfl) (by kernel_rfl) (fun _ _ _ h => h) (.inl ⟨by kernel_rfl, fun w' _ => by unfold execOp; go_simp⟩) hS ?_
          simp only [List.getElem_toArray, List.getElem_cons_zero, List.getElem_cons_succ, Act.put, List.setIfInBounds_toArray, List.set_cons_zero, List.set_cons_succ]
          refine wpAnyH_take (i := 5) (v := .int .i64 (m : Int)) rfl (by kernel_rfl) (by kernel_rfl) (by kernel_rfl) (fun _ _ _ h => h) (.inl ⟨by kernel_rfl, fun w' _ => by unfold execOp; go_simp⟩) hS ?_
          simp only [List.getElem_toArray, List.getElem_cons_zero, List.getElem_cons_succ, Act.put, List.setIfInBounds_toArray, List.set_cons_zero, List.set_cons_succ]
          refine wpAnyH_take (i := 6) (v := .int .i64 (k : Int)) rfl (by kernel_rfl) (by kernel_rfl) (by kernel_rfl) (fun _ _ _ h => h) (.inl ⟨by kernel_rfl, fun w' _ => by unfold execOp; go_simp; rw [show ((m : Int) - 1) = (k : Int) by omega]; exact wrap_small _ (by omega)⟩) hS ?_
          simp only [List.getElem_toArray, List.getElem_cons_zero, List.getElem_cons_succ, Act.put, List.setIfInBounds_toArray, List.set_cons_zero, List.set_cons_succ]
          refine wpAnyH_take (i := 7) (v := .pointer (some ⟨blk, k * 18, none⟩)) rfl (by kernel_rfl) (by kernel_rfl) (by kernel_rfl) (fun _ _ _ h => h) (.inl ⟨by kernel_rfl, fun w' _ => by unfold execOp; go_simp; try (intro h; omega)⟩) hS ?_
          simp only [List.getElem_toArray, List.getElem_cons_zero, List.getElem_cons_succ, Act.put, List.setIfInBounds_toArray, List.set_cons_zero, List.set_cons_succ]
          refine wpAnyH_take (i := 8) (v := .agg (encP y)) rfl (by kernel_rfl) (by kernel_rfl) (by kernel_rfl) (fun _ _ _ h => h) (yieldsIf_load_mid (by kernel_rfl) 36 (.tmp 23) rfl blk (k * 18) rfl (encPL y) _ (fun w' hw' => hw' ▸ HY.out) Tryd.underlying36 rfl (encPL_info _)) hS ?_
          simp only [List.getElem_toArray, List.getElem_cons_zero, List.getElem_cons_succ, Act.put, List.setIfInBounds_toArray, List.set_cons_zero, List.set_cons_succ]
          refine wpAnyH_take (i := 9) (v := .bool false) rfl (by kernel_rfl) (by kernel_rfl) (by kernel_rfl) (fun _ _ _ h => h) (.inl ⟨by kernel_rfl, fun w' _ => by unfold execOp; simp [go_sem, heq]⟩) hS ?_
          simp only [List.getElem_toArray, List.getElem_cons_zero, List.getElem_cons_succ, Act.put, List.setIfInBounds_toArray, List.set_cons_zero, List.set_cons_succ]
          refine wpAnyH_done (by kernel_rfl) ?_ _
          clear hS
          go_wp2
          go_roundg (d.size - (k + 1))
          case measure => omega
          case rel => exact ⟨k + 1, m + 1, by omega, by omega, by omega, by omega, by go_num, hid HW.out.drew, hid (fun j hj => by
              by_cases e : j = k + 1
              · subst e
                exact keeps_pos (by rw [show k + 1 - 1 = k from rfl, HXY.out.1, HXY.out.2]; exact hdup)
              · exact HA.out j (by omega))⟩
      · have hke : k + 1 = d.size := by omega
        have HK := hid hke
        obtain rfl : m = d.size := by omega
        clear hke
        go_wp2
        go_ret
        exact ⟨d, HS.out (fun j hj => HA.out j (by have := HK.out; omega)), rfl, HW.out⟩
end Go.Proofs.YtgpbmbefdgbblaaDoor
