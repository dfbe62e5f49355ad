/-
  prime.Next; the chapter's example.
-/
import Derived.Test.YteaebljfcidejaaDoorFbtw
import Derived.Deep.RegionHeld3
import Derived.RegionTactic
namespace Go.Proofs.YteaebljfcidejaaDoor
open Go.RowKit Go.Shelf Go.Lib
attribute [local go_sem] Oper.semAt_some

/-- The last one that came. -/
def lastP (pre : List Pn) : Int := (pre.getLast?.map (·.1)).getD 0
theorem lastP_one (x : Pn) : lastP [x] = x.1 := rfl

/-- What prime.Next tells. -/
def NextEnd (n : Int) (er : Value) (e : Ending) : Prop :=
  (2147483647 < n ∧ e = .returned (.tuple #[.int .i64 0, er])) ∨
  (n ≤ 2147483647 ∧ ∃ p, e = .returned (.tuple #[.int .i64 p, .nilIface]) ∧ n ≤ p ∧ 2 ≤ p ∧ p ≤ 2147483647 ∧ isP p = true ∧ ∀ q, n ≤ q → q < p → isP q = false)

set_option maxRecDepth 100000 in
set_option maxHeartbeats 4000000 in
theorem next_in (F : Fence) (m : Nat) (h12 : F.fn 12) (h20 : F.fn 20) (h25 : F.fn 25) (h8 : F.fn 8) (h11 : F.fn 11) (h19 : F.fn 19) (h24 : F.fn 24) (hro : F.round = none) (hm : 6 ≤ m) (n : Int) (hn : n ≤ 9223372036854775807) (w : World) (u : TypeId) (pv : Value) (hE : w.cell? ⟨0, 0, none⟩ = some (.iface u pv)) :
    CallsIn F m Tryd.prog 12 #[.int .i64 n] w fun e W' => NextEnd n (.iface u pv) e ∧ Below w.heap.size w W' := by
  have h1 : 1 ≤ m := by omega
  have hgl : 0 < w.heap.size := World.block_lt_of_cell? w _ hE
  refine callsIn_of_wp_marks Tryd.func12 rfl h12 ?_ hro
  simp only [Tryd.ntmps12, List.size_toArray, List.length_cons, List.length_nil, Nat.reduceAdd, Nat.reduceSub, Array.replicate_succ, Array.replicate_zero, List.push_toArray, List.append_toArray, List.nil_append, List.cons_append]
  gi_wp2_with (gi_at_call 20; refine (between_in F (m - 1) h20 hro _ _ _).mono ?_; rintro e w' ⟨rfl, rfl⟩)
  have bR := Boxed.new w 3 (.int .i64 0)
  have bE := Boxed.new (w.alloc (.cells #[.int .i64 0] 3)) 26 .nilIface
  have bA := Boxed.new ((w.alloc (.cells #[.int .i64 0] 3)).alloc (.cells #[.nilIface] 26)) 3 (.int .i64 n)
  have bB := Boxed.new (((w.alloc (.cells #[.int .i64 0] 3)).alloc (.cells #[.nilIface] 26)).alloc (.cells #[.int .i64 n] 3)) 3 (.int .i64 2147483647)
  simp only [World.size_alloc] at bE bA bB
  have hB1 : Below w.heap.size w ((((w.alloc (.cells #[.int .i64 0] 3)).alloc (.cells #[.nilIface] 26)).alloc (.cells #[.int .i64 n] 3)).alloc (.cells #[.int .i64 2147483647] 3)) := ((((Below.refl _ w).alloc (Nat.le_refl _) _).alloc (by simp) _).alloc (by simp; omega) _).alloc (by simp; omega) _
  refine wpIn_rangeFunc_ownG hro h1 (gf := 25) (lb := #[.pointer (some ⟨w.heap.size + 1 + 1, 0, none⟩), .pointer (some ⟨w.heap.size + 1 + 1 + 1, 0, none⟩)]) rfl h25 (enters_of Tryd.func25 (by kernel_rfl) rfl)
    (between_stops F (m - 1) h25 h8 h11 h19 h24 hro (by omega) (w.heap.size + 1 + 1) (w.heap.size + 1 + 1 + 1) w.heap.size n 2147483647 hn (by omega) _ (by simp; omega) (by simp) (by simp) (bA.alloc _).cell bB.cell) KB.trans (KB.put (by simp; omega) (by simp)) (Below.refl _ _) (fun _ => rfl)
    (fun pre W => (pre = [] ∧ (W.cell? ⟨w.heap.size, 0, none⟩ = some (.int .i64 0) ∧ W.frozen? ⟨w.heap.size, 0, none⟩ = false) ∧ W.cell? ⟨w.heap.size + 1, 0, none⟩ = some .nilIface ∧ W.frozen? ⟨w.heap.size + 1, 0, none⟩ = false) ∧ Below w.heap.size w W)
    (fun c pre W => ((c = .ret ∧ ∃ x, pre = [x]) ∧ W.cell? ⟨w.heap.size, 0, none⟩ = some (.int .i64 (lastP pre)) ∧ W.cell? ⟨w.heap.size + 1, 0, none⟩ = some .nilIface) ∧ Below w.heap.size w W)
    (OwnFrom.and (Own.from (fun s A B row hs hg hr => ⟨hs.1, ⟨cell_kept hs.2.1.1 hg hr, (frozen_kept hs.2.1.1 hg hr).trans hs.2.1.2⟩, cell_kept hs.2.2.1 hg hr, (frozen_kept hs.2.2.1 hg hr).trans hs.2.2.2⟩) _) (ownFrom_below (Nat.le_refl _) (by simp; omega)))
    (fun c => OwnFrom.and (Own.from (fun s A B row hs hg hr => ⟨hs.1, cell_kept hs.2.1 hg hr, cell_kept hs.2.2 hg hr⟩) _) (ownFrom_below (Nat.le_refl _) (by simp; omega)))
    ⟨⟨rfl, ⟨(((bR.alloc _).alloc _).alloc _).cell, (((bR.alloc _).alloc _).alloc _).frozen⟩, ((bE.alloc _).alloc _).cell, ((bE.alloc _).alloc _).frozen⟩, hB1⟩
    (fun x => { tmps := #[.int .i64 n, undef, .pointer (some ⟨w.heap.size, 0, none⟩), .pointer (some ⟨w.heap.size + 1, 0, none⟩), .int .i64 x.1, .int .i64 n, .func (.func 25) #[] #[.pointer (some ⟨w.heap.size + 1 + 1, 0, none⟩), .pointer (some ⟨w.heap.size + 1 + 1 + 1, 0, none⟩)], .int .i64 x.1, undef, undef], defers := [] }) ?assign ?body ?done ?stop
  case assign =>
    intro l x W K hK
    gi_wp2
    exact hK
  case body =>
    rintro l pre x W ⟨⟨rfl, ⟨hcr, hfr⟩, hce, hfe⟩, hB⟩ _
    obtain ⟨x, hx1, hx2⟩ := x
    have hce2 : (W.setCell ⟨w.heap.size, 0, none⟩ (.int .i64 x)).cell? ⟨w.heap.size + 1, 0, none⟩ = some .nilIface := by
      rw [World.cell?_setCell_other _ _ _ _ (by simp)]; exact hce
    gi_wp2
    refine ⟨((KeepsOthers.setCell _ _ _).trans (KeepsOthers.setCell _ _ _)).from _, ⟨⟨rfl, _, rfl⟩, ?_, World.cell?_setCell_same' _ _ _ (by rw [hce2]; rfl)⟩, (hB.setCell (p := ⟨w.heap.size, 0, none⟩) (Nat.le_refl _) _).setCell (p := ⟨w.heap.size + 1, 0, none⟩) (by simp) _⟩
    rw [World.cell?_setCell_other _ _ _ _ (by simp)]
    exact World.cell?_setCell_same' _ _ _ (by rw [hcr]; rfl)
  case done =>
    rintro D ys W hD hys ⟨⟨rfl, ⟨hcr, hfr⟩, hce, hfe⟩, hB⟩ hK
    have hgt : 2147483647 < n := Int.not_le.1 fun hle => by
      have hm : (2147483647 : Int) ∈ pls (fr n) (2147483647 + 1 - fr n).toNat := pls_mem.2 ⟨by unfold fr; omega, by unfold fr; omega, isP_last⟩
      rw [← hys] at hm
      cases hm
    have hEW : W.cell? ⟨0, 0, none⟩ = some (.iface u pv) := (hB.cell (p := ⟨0, 0, none⟩) hgl).trans hE
    clear hys
    have hK1 := (KeepsOthers.setCell W ⟨w.heap.size, 0, none⟩ (.int .i64 0)).same D _ hK rfl
    have hK2 := (KeepsOthers.setCell (W.setCell ⟨w.heap.size, 0, none⟩ (.int .i64 0)) ⟨w.heap.size + 1, 0, none⟩ (.iface u pv)).same D _ hK1 rfl
    have hK3 : (((W.setCell ⟨w.heap.size, 0, none⟩ (.int .i64 0)).setCell ⟨w.heap.size + 1, 0, none⟩ (.iface u pv)).drew).heap[D]? = some (.deferred (some [])) := hK2
    have hce2 : (W.setCell ⟨w.heap.size, 0, none⟩ (.int .i64 0)).cell? ⟨w.heap.size + 1, 0, none⟩ = some .nilIface := by
      rw [World.cell?_setCell_other _ _ _ _ (by simp)]; exact hce
    have c5 : (((W.setCell ⟨w.heap.size, 0, none⟩ (.int .i64 0)).setCell ⟨w.heap.size + 1, 0, none⟩ (.iface u pv)).drew).cell? ⟨w.heap.size, 0, none⟩ = some (.int .i64 0) := by
      show ((W.setCell ⟨w.heap.size, 0, none⟩ (.int .i64 0)).setCell ⟨w.heap.size + 1, 0, none⟩ (.iface u pv)).cell? ⟨w.heap.size, 0, none⟩ = _
      rw [World.cell?_setCell_other _ _ _ _ (by simp)]
      exact World.cell?_setCell_same' _ _ _ (by rw [hcr]; rfl)
    have c6 : (((W.setCell ⟨w.heap.size, 0, none⟩ (.int .i64 0)).setCell ⟨w.heap.size + 1, 0, none⟩ (.iface u pv)).drew).cell? ⟨w.heap.size + 1, 0, none⟩ = some (.iface u pv) := World.cell?_setCell_same' _ _ _ (by rw [hce2]; rfl)
    have b6 : Below w.heap.size w (((W.setCell ⟨w.heap.size, 0, none⟩ (.int .i64 0)).setCell ⟨w.heap.size + 1, 0, none⟩ (.iface u pv)).drew) := ((hB.setCell (p := ⟨w.heap.size, 0, none⟩) (Nat.le_refl _) _).setCell (p := ⟨w.heap.size + 1, 0, none⟩) (by simp) _).drew
    have H6 := hid (And.intro hK3 (And.intro c5 (And.intro c6 b6)))
    clear hK1 hK2 hK3 hce2 c5 c6 b6
    gi_wp2
    gi_region
    all_goals
      gi_wp2
      obtain ⟨hK3, c5, c6, b6⟩ := H6.out
      refine ⟨by simp, .inl ⟨_, _, rfl, run_takeDeferred hK3, ?_⟩⟩
      have hc5 := cell_kept c5 (grownBy_putObj' _ D (.deferred none)) (fun r e => by cases e; exact ⟨_, hK3, rfl⟩)
      have hc6 := cell_kept c6 (grownBy_putObj' _ D (.deferred none)) (fun r e => by cases e; exact ⟨_, hK3, rfl⟩)
      refine ⟨.tuple #[.int .i64 0, .iface u pv], ?_, ⟨.inl ⟨hgt, rfl⟩, b6.trans (belowK_b (w := w) (Nat.le_refl _) _ D _ _ (by simp at hD; omega) hK3 rfl rfl)⟩⟩
      simp [results, Tryd.f12, go_sem, hc5, hc6]
  case stop =>
    rintro D c pre W hD ⟨k, hk, hpre⟩ ⟨⟨⟨rfl, x, rfl⟩, hcr, hce⟩, hB⟩ hK
    rw [lastP_one] at hcr
    obtain ⟨f1, f2, f3, f4⟩ := pls_first hpre.symm
    gi_wp2
    refine ⟨by simp, .inl ⟨_, _, rfl, run_takeDeferred hK, ?_⟩⟩
    have hc5 := cell_kept hcr (grownBy_putObj' _ D (.deferred none)) (fun r e => by cases e; exact ⟨_, hK, rfl⟩)
    have hc6 := cell_kept hce (grownBy_putObj' _ D (.deferred none)) (fun r e => by cases e; exact ⟨_, hK, rfl⟩)
    refine ⟨.tuple #[.int .i64 x.1, .nilIface], ?_, ⟨.inr ⟨?_, x.1, rfl, ?_, ?_, ?_, f3, ?_⟩, hB.trans (belowK_b (w := w) (Nat.le_refl _) W D _ _ (by simp at hD; omega) hK rfl rfl)⟩⟩
    · simp [results, Tryd.f12, go_sem, hc5, hc6]
    · unfold fr at *; omega
    · unfold fr at *; omega
    · unfold fr at *; omega
    · unfold fr at *; omega
    · intro q hq hlt
      by_cases h : q < 2
      · exact isP_small h
      · exact f4 q (by unfold fr; omega) hlt

theorem next_any (n : Int) (hn : n ≤ 9223372036854775807) (w : World) (u : TypeId) (pv : Value) (hE : w.cell? ⟨0, 0, none⟩ = some (.iface u pv)) :
    Calls Tryd.prog 12 #[.int .i64 n] w fun e W' => NextEnd n (.iface u pv) e ∧ Below w.heap.size w W' :=
  callsIn_wide.1 (next_in Fence.wide 6 trivial trivial trivial trivial trivial trivial trivial rfl (by omega) n hn w u pv hE)

theorem next_eight : ∀ p : Int, 8 ≤ p → isP p = true → (∀ q, 8 ≤ q → q < p → isP q = false) → p = 11 := by
  have h11 : isP 11 = true := (isP_iff 11).2 ⟨by omega, by omega, by
    refine ⟨by decide, fun d h1 h2 h3 => ?_⟩
    have : d = 2 ∨ d = 3 ∨ d = 4 ∨ d = 5 ∨ d = 6 ∨ d = 7 ∨ d = 8 ∨ d = 9 ∨ d = 10 := by
      have : d < 11 := h2
      omega
    rcases this with rfl | rfl | rfl | rfl | rfl | rfl | rfl | rfl | rfl <;> revert h3 <;> decide⟩
  have no : ∀ n d : Nat, 2 ≤ d → d < n → n % d = 0 → isP (n : Int) = false := fun n d h1 h2 h3 => (isP_false _).2 fun h => not_prm h1 h2 h3 h.2.2
  intro p h8 hp hq
  rcases Int.lt_or_le 11 p with h | h
  · rw [hq 11 (by omega) h] at h11
    cases h11
  · have : p = 8 ∨ p = 9 ∨ p = 10 ∨ p = 11 := by omega
    rcases this with rfl | rfl | rfl | rfl
    · rw [show (8 : Int) = ((8 : Nat) : Int) from rfl, no 8 2 (by decide) (by decide) (by decide)] at hp
      cases hp
    · rw [show (9 : Int) = ((9 : Nat) : Int) from rfl, no 9 3 (by decide) (by decide) (by decide)] at hp
      cases hp
    · rw [show (10 : Int) = ((10 : Nat) : Int) from rfl, no 10 2 (by decide) (by decide) (by decide)] at hp
      cases hp
    · rfl

set_option maxHeartbeats 2000000 in
theorem palive_any (w : World) (u : TypeId) (pv : Value) (hE : w.cell? ⟨0, 0, none⟩ = some (.iface u pv)) :
    Calls Tryd.prog 7 #[] w fun e w' => e = .returned (.bool true) ∧ Below w.heap.size w w' := by
  have HN := hid (next_any 8 (by omega) w u pv hE)
  have HI := hid (fun w => is_any 2 w)
  rw [isP_two] at HI
  go_enter Tryd.func7, Tryd.ntmps7
  go_wp2_with fail
  refine HN.out.mono ?_
  rintro e w1 ⟨he, hb1⟩
  obtain ⟨h, _⟩ | ⟨_, p, rfl, h1, _, _, h2, h3⟩ := he
  · omega
  obtain rfl := next_eight p h1 h2 h3
  have B1 := hid hb1
  clear hb1
  go_wp2_with fail
  refine (HI.out _).mono ?_
  rintro e w2 ⟨rfl, hb2⟩
  have B2 := hid (bel2 B1.out hb2)
  clear hb2
  go_wp2
  go_ret
  exact ⟨rfl, B2.out⟩
end Go.Proofs.YteaebljfcidejaaDoor
