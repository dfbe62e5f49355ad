/-
  Whole elements loaded and stored within the wide fence, in a round's body too. · slices.Values at api.Point: the iterator, and its contract. · slices.AppendSeq and slices.Collect at api.Point. · slices.Collect of slices.Values at api.Point. · A row of elements of k cells of one's own, as a sort takes it and leaves it. No program. · addr.Right, ports.Right and the document's; numbers as bytes. · addr.Compare, the document's Compare, cmp.Compare.
-/
import Derived.Test.YtahconkjhneogaaGreatDoorGr02
import Derived.Deep.MidRow
import Derived.RangeFuncNested
import Derived.RangeFuncBound
import Derived.RangeFuncCalls
import Derived.RangeFuncLeaves
import Derived.RangeFuncWrites
import Derived.RangeFuncBox
import Derived.Shelf.Abstract
import Derived.Shelf.RegionOpen
import Derived.WalkKit
import Derived.OwnWalkIn
import Derived.LoopNIn
import Derived.LoopIn
import Derived.TacticsInMore
import Derived.Maps.AppendAt
import Derived.Great.BuildSlice
import Derived.Great.FillDense
import Derived.Shelf.SlSortCmp.NoneTotal
import Derived.Deep.RegionHeld3
import Derived.StillTactics
import Derived.Laws.Pointers
import Derived.Lib.BytesEntry
namespace Go.Proofs.YtahconkjhneogaaGreatDoor
open Go.RowKit Go.Lib

/-- The wide fence, or a round's within it. -/
def WideF (F : Fence) : Prop := F = Fence.wide ∨ ∃ l, F = Fence.wide.inRound l

section
variable {P : Program} {F : Fence} {n : Nat}
theorem operIn_of (hF : WideF F) {o : Oper} (hop : ∀ c, o.op ≠ .defer c) {a : Act} {w : World} {K : Act → World → Prop} {Q : Exit → Act → World → Prop} (h : Oper.wp P o a w K Q) : Oper.wpIn F n P o a w K Q := by
  have e : o.semAt F.round a.eval = execOp a.eval o := by
    rcases hF with rfl | ⟨l, rfl⟩
    · rfl
    · exact Oper.semAt_some l a.eval o hop
  have hd : F.depth = none := by rcases hF with rfl | ⟨l, rfl⟩ <;> rfl
  refine ⟨fun f _ => by rcases hF with rfl | ⟨l, rfl⟩ <;> trivial, ?_⟩
  rw [e]
  unfold Oper.wp at h
  generalize (execOp a.eval o).run P w = r at h ⊢
  cases r with
  | ok x w' =>
    cases x <;> simp only [Oper.upon, Oper.uponIn] at h ⊢
    case enter f args =>
      refine ⟨fun h => by rw [hd] at h; simp at h, ?_⟩
      rcases hF with rfl | ⟨l, rfl⟩
      · exact callsIn_wide.2 h
      · exact CallsIn.inRound l (callsIn_wide.2 h)
    case row r args =>
      refine ⟨fun h => by rw [hd] at h; simp at h, ?_⟩
      rcases hF with rfl | ⟨l, rfl⟩
      · exact rowsIn_round (l := 0) h
      · exact rowsIn_round h
    all_goals exact h
  | halt x w' => cases x <;> simp only [Oper.upon, Oper.uponIn] at h ⊢ <;> exact h

def plainOp (o : Oper) : Bool := match o.op with | .defer _ => false | _ => true
theorem plain_spec {o : Oper} (h : plainOp o = true) (c : Call) : o.op ≠ .defer c := fun e => by
  unfold plainOp at h
  rw [e] at h
  cases h

/-- A step of a plain region, within the wide fence. -/
theorem wlIn (hF : WideF F) {ops : Array Oper} {rest : List Oper} {o : Oper} {a : Act} {w : World} {Q : Exit → Act → World → Prop} (hop : plainOp o = true) (hw : Region.wanted o (yielded ops a.tmps) = true)
    (h : ∀ K : Act → World → Prop, (∀ a w, wpListIn F n P ops Q rest a w → K a w) → o.wp P a w K Q) : wpListIn F n P ops Q (o :: rest) a w :=
  BigFrame.wpListIn_want hw fun K hK => operIn_of hF (plain_spec hop) (h K hK)

theorem wlIn_run (hF : WideF F) {ops : Array Oper} {rest : List Oper} {o : Oper} {a : Act} {w : World} {Q : Exit → Act → World → Prop} (v : Value) (w' : World) (hrun : (execOp a.eval o).run P w = .ok (.value v) w') (hop : plainOp o = true) (hw : Region.wanted o (yielded ops a.tmps) = true) {m : Nat}
    (h : wpListIn F m P ops Q rest (a.put o.dst v) w') : wpListIn F m P ops Q (o :: rest) a w :=
  wlIn hF hop hw fun _ hK => o_run v w' hrun (hK _ _ h)

theorem wlIn_load (hF : WideF F) {ops : Array Oper} {rest : List Oper} {o : Oper} {a : Act} {w : World} {Q : Exit → Act → World → Prop} (ty : TypeId) (x : Operand) (ho : o.op = .load ty x)
    (g : Nat) (hx : a.eval x = .pointer (some ⟨g, 0, none⟩)) (t : TypeId) (cs : Array Value) (d : TypeDesc) (hg : Blk w g t cs)
    (hu : P.underlying ty = some d) (hd : (match d with | .struct _ | .array _ _ => true | _ => false) = true) (n : Nat) (hi : (P.info? ty).map (·.size) = some n) (hn : n = cs.size)
    (hop : plainOp o = true) (hw : Region.wanted o (yielded ops a.tmps) = true) {m : Nat}
    (h : wpListIn F m P ops Q rest (a.put o.dst (.agg cs)) w) : wpListIn F m P ops Q (o :: rest) a w :=
  wlIn hF hop hw fun _ hK => wp_load_row ty x ho g hx t cs (0, 0) d hg hu hd (hn ▸ hi) (hK _ _ h)

theorem wlIn_load_mid (hF : WideF F) {ops : Array Oper} {rest : List Oper} {o : Oper} {a : Act} {w : World} {Q : Exit → Act → World → Prop} (ty : TypeId) (x : Operand) (ho : o.op = .load ty x)
    (b off : Nat) (hx : a.eval x = .pointer (some ⟨b, off, none⟩)) (cs : List Value) (d : TypeDesc) (hc : w.rangeAt b off cs)
    (hu : P.underlying ty = some d) (hd : d.isRow = true) (hi : (P.info? ty).map (·.size) = some cs.length)
    (hop : plainOp o = true) (hw : Region.wanted o (yielded ops a.tmps) = true) {m : Nat}
    (h : wpListIn F m P ops Q rest (a.put o.dst (.agg cs.toArray)) w) : wpListIn F m P ops Q (o :: rest) a w :=
  wlIn hF hop hw fun _ hK => wp_load_mid ty x ho b off hx cs d hc hu hd hi (hK _ _ h)

theorem wlIn_store (hF : WideF F) {ops : Array Oper} {rest : List Oper} {o : Oper} {a : Act} {w : World} {Q : Exit → Act → World → Prop} (ty : TypeId) (x y : Operand) (ho : o.op = .store ty x y)
    (g : Nat) (cells : Array Value) (hx : a.eval x = .pointer (some ⟨g, 0, none⟩)) (hy : a.eval y = .agg cells)
    (t : TypeId) (old : Array Value) (hg : Blk w g t old) (n : Nat) (hi : (P.info? ty).map (·.size) = some n) (hn : n = cells.size)
    (hold : old.size = n) (h1 : cells.all (·.oneCell') = true) (hop : plainOp o = true) (hw : Region.wanted o (yielded ops a.tmps) = true) {m : Nat}
    (h : wpListIn F m P ops Q rest (a.put o.dst undef) (w.setRow g cells)) : wpListIn F m P ops Q (o :: rest) a w :=
  wlIn hF hop hw fun _ hK => wp_store_row ty x y ho g cells hx hy t old hg (hn ▸ hi) (hold.trans hn) h1 (hK _ _ h)
end

/-- What is stored whole into a block just made. -/
theorem setRow_new (w : World) (z cs : Array Value) (t : TypeId) : (w.alloc (.cells z t)).setRow w.heap.size cs = w.alloc (.cells cs t) := by
  unfold World.setRow World.alloc
  congr 1
  apply Array.ext_getElem?
  intro i
  rw [Array.getElem?_modify]
  by_cases hi : w.heap.size = i
  · subst hi
    simp
  · rw [if_neg hi]
    by_cases h : i < w.heap.size
    · rw [Array.getElem?_push_lt h, Array.getElem?_push_lt h]
    · rw [Array.getElem?_eq_none (by simp; omega), Array.getElem?_eq_none (by simp; omega)]

/-- The elements xs lie at the address, k cells each, below n₀. -/
def Elems {α : Type} (enc : α → Array Value) (k n₀ : Nat) (W : World) (ad : Option Addr) (xs : List α) : Prop := ∀ j (hj : j < xs.length), ∃ g o, ad = some ⟨g, o, none⟩ ∧ g < n₀ ∧ W.rangeAt g (o + j * k) (enc xs[j]).toList
theorem rangeAt_below {n₀ : Nat} {A B : World} (h : Below n₀ A B) {g o : Nat} {cs : List Value} (hg : g < n₀) (hr : A.rangeAt g o cs) : B.rangeAt g o cs := fun j v hj => (h.cell (p := ⟨g, o + j, none⟩) hg).trans (hr j v hj)
theorem Elems.below {α : Type} {enc : α → Array Value} {k n₀ : Nat} {A B : World} (h : Below n₀ A B) {ad : Option Addr} {xs : List α} (hb : Elems enc k n₀ A ad xs) : Elems enc k n₀ B ad xs := fun j hj => by
  obtain ⟨g, o, h1, h2, h3⟩ := hb j hj
  exact ⟨g, o, h1, h2, rangeAt_below h h2 h3⟩
theorem Elems.mono {α : Type} {enc : α → Array Value} {k n₀ n₁ : Nat} {A : World} {ad : Option Addr} {xs : List α} (hb : Elems enc k n₀ A ad xs) (h : n₀ ≤ n₁) : Elems enc k n₁ A ad xs := fun j hj => by
  obtain ⟨g, o, h1, h2, h3⟩ := hb j hj
  exact ⟨g, o, h1, Nat.lt_of_lt_of_le h2 h, h3⟩
theorem Tryz.infoPntY : (Tryz.prog.info? 41).map (·.size) = some 18 := by kernel_rfl
end Go.Proofs.YtahconkjhneogaaGreatDoor

namespace Go.Proofs.YtahconkjhneogaaGreatDoor
open Go.RowKit Go.Shelf Go.Lib
attribute [local go_sem] Oper.semAt_some

section
variable {α : Type} {enc : α → Array Value}

set_option maxHeartbeats 1000000 in
theorem values_w (n : Nat) (a : Option Addr) (len cap : Nat) (w : World) :
    CallsIn Fence.wide n Tryz.prog 45 #[.slice a len cap] w fun e w' => e = .returned (.func (.func 66) #[] #[.pointer (some ⟨w.heap.size, 0, none⟩)]) ∧ w' = w.alloc (.cells #[.slice a len cap] 22) := by
  refine callsIn_of_wp Tryz.func45 rfl trivial ?_ rfl
  simp only [Tryz.ntmps45, List.size_toArray, List.length_cons, List.length_nil, Nat.reduceAdd, Nat.reduceSub, Array.replicate_succ, Array.replicate_zero, List.push_toArray, List.append_toArray, List.nil_append, List.cons_append]
  gi_wp2
  go_ret
  exact ⟨rfl, rfl⟩

theorem take_snoc' {xs : List α} {p : Nat} (hp : p < xs.length) : xs.take (p + 1) = xs.take p ++ [xs[p]] := List.take_succ_eq_append_getElem hp

set_option maxRecDepth 100000 in
set_option maxHeartbeats 4000000 in
theorem values1_w (hk : ∀ x, (enc x).size = 18) (h1c : ∀ x, (enc x).all (·.oneCell') = true) (n : Nat) (hn : 2 ≤ n) (l Bs n₀ g o cap : Nat) (xs : List α) (hcap : xs.length ≤ cap) (hm : xs.length ≤ 1000000) (hb : g < n₀) (J Jx : List α → World → Prop) (B : Nat) (hJ : AbidesFrom B J)
    (hY : ∀ pre x W, J pre W → pre.length < xs.length → YieldAt Fence.wide (n - 1) Tryz.prog l #[.agg (enc x)] W fun e W' =>
      (e = .returned (.bool true) ∧ J (pre ++ [x]) W' ∧ Below n₀ W W') ∨ (e = .returned (.bool false) ∧ Jx (pre ++ [x]) W'))
    (W : World) (hn₀ : n₀ ≤ W.heap.size) (hBs : W.cell? ⟨Bs, 0, none⟩ = some (.slice (some ⟨g, o, none⟩) xs.length cap)) (hc : ∀ j (hj : j < xs.length), W.rangeAt g (o + j * 18) (enc xs[j]).toList) (h0 : J [] W) :
    CallsIn Fence.wide n Tryz.prog 66 #[.func (.yield l) #[] #[], .pointer (some ⟨Bs, 0, none⟩)] W fun e W' => (∃ v, e = .returned v) ∧
      ((∃ ys, ys = xs ∧ J ys W') ∨ (∃ pre, pre <+: xs ∧ Jx pre W')) := by
  have h1 : 1 ≤ n := by omega
  have h1' : 1 ≤ n - 1 := by omega
  obtain ⟨len, hlen⟩ : ∃ len, xs.length = len := ⟨_, rfl⟩
  rw [hlen] at hcap hm hBs hY
  have HL := hid hlen
  have HC := hid hc
  clear hlen hc
  refine callsIn_of_wp Tryz.func66 rfl trivial ?_ rfl
  simp only [Tryz.ntmps66, List.size_toArray, List.length_cons, List.length_nil, Nat.reduceAdd, Nat.reduceSub, Array.replicate_succ, Array.replicate_zero, List.push_toArray, List.append_toArray, List.nil_append, List.cons_append]
  gi_wp2
  gi_loopw [7] (fun i wr => ∃ p : Nat, p ≤ len ∧ i = .int .i64 p ∧ Hid (J (xs.take p) wr) ∧ Hid (Below n₀ W wr)) (fun i _ => len - (intOf i).toNat)
  case atStart => exact ⟨0, by omega, rfl, hid h0, hid (Below.refl _ _)⟩
  case round =>
    obtain ⟨p, hp1, rfl, HJ, HB⟩ := hrel
    by_cases hlt : p < len
    · have hpx : p < xs.length := by have := HL.out; omega
      obtain ⟨x, hx⟩ : ∃ x, x = xs[p] := ⟨_, rfl⟩
      have hr : wr.rangeAt g (o + p * 18) (enc x).toList := hx ▸ rangeAt_below HB.out hb (HC.out p hpx)
      have HR := hid hr
      have HS : Hid (xs.take (p + 1) = xs.take p ++ [x]) := hid (hx ▸ take_snoc' hpx)
      obtain ⟨V, hV⟩ : ∃ V, V = wr.alloc (.cells (enc x) 41) := ⟨_, rfl⟩
      have hg0 : wr.grownBy V none := hV ▸ World.grownBy_alloc wr _ none
      have HJV := hid (hJ _ _ _ none HJ.out hg0 (fun r e => by cases e))
      have HBV : Hid (Below n₀ W V) := hid (hV ▸ HB.out.alloc (Nat.le_trans hn₀ HB.out.size) _)
      have HKV : Hid (Blk V wr.heap.size 41 (enc x)) := hid (hV ▸ Blk.new wr _ _)
      have HV := hid hV
      obtain ⟨fn, tmps, assign, body, hyy, hR⟩ := hY _ x V HJV.out (by rw [List.length_take]; have := HL.out; omega)
      have HRR := hid hR
      have HK := hid (hk x)
      have H1 := hid (h1c x)
      clear hx hr hV hg0 hR
      gi_wp2_with (first
        | ((show wpListIn _ _ _ _ _ (⟨some 10, _, _, _, _, _⟩ :: _) _ _); go_must (refine wlIn_load_mid (.inl rfl) 41 (.tmp 9) rfl g (o + p * 18) rfl (enc x).toList _ HR.out Tryz.underlying41 rfl (by rw [Array.length_toList, HK.out]; exact Tryz.infoPntY) rfl rfl ?_))
        | ((show wpListIn _ _ _ _ _ (⟨none, _, _, _, _, _⟩ :: _) _ _); go_must (refine wlIn_store (.inl rfl) 41 (.tmp 4) (.tmp 10) rfl wr.heap.size (enc x) rfl rfl 41 _ (Blk.new wr _ _) 18 Tryz.infoPntY HK.out.symm rfl H1.out rfl rfl ?_; rw [setRow_new, ← HV.out]))
        | ((show wpListIn _ _ _ _ _ (⟨some 12, _, _, _, _, _⟩ :: _) _ _); go_must (refine wlIn_load (.inl rfl) 41 (.tmp 4) rfl wr.heap.size rfl 41 _ _ HKV.out Tryz.underlying41 rfl 18 Tryz.infoPntY HK.out.symm rfl rfl ?_)))
      refine HRR.out.mono ?_
      rintro e W3 (⟨rfl, hJ3, hk3⟩ | ⟨rfl, hJx3⟩)
      · have HJ3 := hid hJ3
        have HK3 := hid hk3
        clear hJ3 hk3
        gi_wp2
        go_roundw
        case rel => exact ⟨p + 1, by omega, by simp, hid (by rw [HS.out]; exact HJ3.out), hid (HBV.out.trans HK3.out)⟩
        case measure => simp [intOf]; omega
      · have HJx := hid hJx3
        clear hJx3
        gi_wp2
        refine bodyPost_ret (results_none rfl _ _ _) rfl ?_
        exact ⟨⟨_, rfl⟩, .inr ⟨_, ⟨xs.drop (p + 1), by rw [← HS.out, List.take_append_drop]⟩, HJx.out⟩⟩
    · obtain rfl : p = len := by omega
      have HE : Hid (xs.take p = xs) := hid (List.take_of_length_le (by have := HL.out; omega))
      gi_wp2
      go_end0
      exact ⟨⟨_, rfl⟩, .inl ⟨_, HE.out, HJ.out⟩⟩

set_option maxRecDepth 100000 in
set_option maxHeartbeats 1000000 in
theorem values1_none (n : Nat) (l Bs cap : Nat) (ad : Option Addr) (J : List α → World → Prop) (W : World) (hBs : W.cell? ⟨Bs, 0, none⟩ = some (.slice ad 0 cap)) (h0 : J [] W) :
    CallsIn Fence.wide n Tryz.prog 66 #[.func (.yield l) #[] #[], .pointer (some ⟨Bs, 0, none⟩)] W fun e W' => (∃ v, e = .returned v) ∧ J [] W' := by
  refine callsIn_of_wp Tryz.func66 rfl trivial ?_ rfl
  simp only [Tryz.ntmps66, List.size_toArray, List.length_cons, List.length_nil, Nat.reduceAdd, Nat.reduceSub, Array.replicate_succ, Array.replicate_zero, List.push_toArray, List.append_toArray, List.nil_append, List.cons_append]
  gi_wp2
  gi_loopw [7] (fun i wr => i = .int .i64 0 ∧ J [] wr) (fun _ _ => 0)
  case atStart => exact ⟨rfl, h0⟩
  case round =>
    obtain ⟨rfl, hJs⟩ := hrel
    gi_wp2
    go_end0
    exact ⟨⟨_, rfl⟩, hJs⟩

theorem values_stopsW (hk : ∀ x, (enc x).size = 18) (h1c : ∀ x, (enc x).all (·.oneCell') = true) (n : Nat) (hn : 2 ≤ n) (Bs n₀ cap : Nat) (ad : Option Addr) (xs : List α) (hcap : xs.length ≤ cap) (hm : xs.length ≤ 1000000) (w : World) (hBn : Bs < w.heap.size) (hn₀ : n₀ ≤ w.heap.size)
    (hc : w.cell? ⟨Bs, 0, none⟩ = some (.slice ad xs.length cap)) (hI : Elems enc 18 n₀ w ad xs) :
    SeqStopsK Fence.wide n Tryz.prog 66 #[.pointer (some ⟨Bs, 0, none⟩)] (fun x : α => #[Value.agg (enc x)]) (Below n₀) (fun ys => ys = xs) (fun pre => pre <+: xs) xs.length w := fun l J Jx W hW hJ _ hY h0 => by
  have hc' := (hW.cell (p := ⟨Bs, 0, none⟩) hBn).trans hc
  have hI' := hI.below (hW.mono hn₀)
  by_cases hl : xs.length = 0
  · obtain rfl : xs = [] := List.length_eq_zero_iff.1 hl
    exact (values1_none n l Bs cap ad J W hc' h0).mono fun e W' ⟨he, hj⟩ => ⟨he, .inl ⟨_, rfl, hj⟩⟩
  · obtain ⟨g, o, rfl, hg, _⟩ := hI' 0 (by omega)
    exact values1_w hk h1c n hn l Bs n₀ g o cap xs hcap hm hg J Jx W.heap.size hJ hY W (Nat.le_trans hn₀ hW.size) hc' (fun j hj => by
      obtain ⟨g', o', e, _, h⟩ := hI' j hj
      cases e
      exact h) h0
end
end Go.Proofs.YtahconkjhneogaaGreatDoor

namespace Go.Proofs.YtahconkjhneogaaGreatDoor
open Go.RowKit Go.Shelf Go.Lib
attribute [local go_sem] Oper.semAt_some

theorem Tryz.info3PntY : (Tryz.prog.info? 41).map (fun i => (i.size, i.bytes)) = some (18, 32) := by kernel_rfl

theorem Tryz.info4PntY : (Tryz.prog.info? 41).map (fun i => (i.zero.isSome, i.size)) = some (true, 18) := by kernel_rfl
theorem Tryz.info5PntY : (Tryz.prog.info? 41).map (fun i => i.zero.map (·.cells.size)) = some (some 18) := by kernel_rfl

section
variable {α : Type} {enc : α → Array Value}

/-- The cells of elements. -/
def flatY (enc : α → Array Value) (xs : List α) : List Value := xs.flatMap fun x => (enc x).toList
theorem flat_snoc (xs : List α) (x : α) : flatY enc (xs ++ [x]) = flatY enc xs ++ (enc x).toList := by simp [flatY]
theorem flat_length (k : Nat) (hk : ∀ x, (enc x).size = k) : ∀ xs : List α, (flatY enc xs).length = xs.length * k
  | [] => by simp [flatY]
  | x :: xs => by
    have := flat_length k hk xs
    simp only [flatY, List.flatMap_cons, List.length_append, Array.length_toList, hk] at this ⊢
    rw [this, List.length_cons, Nat.add_mul]
    omega

theorem exec_lit1 {o : Oper} {a : Act} {w : World} (x : Operand) (ho : o.op = .buildSlice 22 1 #[(0, x)]) (cs : Array Value) (hx : a.eval x = .agg cs) (hk : cs.size = 18) :
    (execOp a.eval o).run Tryz.prog w = .ok (.value (.slice (some ⟨w.heap.size, 0, none⟩) 1 1)) (w.alloc (.cells cs 41)) := by
  obtain ⟨i, hi, h2⟩ := Option.map_eq_some_iff.1 Tryz.info4PntY
  simp only [Prod.mk.injEq] at h2
  obtain ⟨hz, hs⟩ := h2
  obtain ⟨z, hz⟩ := Option.isSome_iff_exists.1 hz
  have hr := run_buildSlice (P := Tryz.prog) w 22 41 1 #[(0, .agg cs)] cs i z Tryz.underlying22 hi hz (by rw [hs]; decide) (by rw [hs]; decide) (by
    rw [hs]
    have := Great.fill_whole (s := 18) (by decide) [.agg cs] ((Array.range (1 * 18)).map (z.cells[· % z.cells.size]!)) (by simp [Value.cells, hk]) (by simp)
    simpa [Value.cells] using this)
  unfold execOp
  simp only [ho, List.map_toArray, List.map_cons, List.map_nil, hx, Sem.run_bind, hr, Result.andThen_ok, Sem.run_pure]

theorem cells_news {w : World} {cs : Array Value} {t : TypeId} : ∀ j u, cs.toList[j]? = some u → (w.alloc (.cells cs t)).cell? ((⟨w.heap.size, 0, none⟩ : Addr).add j) = some u := fun j u hu => by
  rw [show (⟨w.heap.size, 0, none⟩ : Addr).add j = ⟨w.heap.size, j, none⟩ by unfold Addr.add; split <;> simp_all, (Blk.new w t cs).cell, ← Array.getElem?_toList]
  exact hu

theorem blk_ownf {B : Nat} {X Y : World} {row : Option Nat} {g : Nat} {t : TypeId} {cs : Array Value} (h : Blk X g t cs) (hg : X.grownBy Y row) (hr : ∀ r, row = some r → B ≤ r ∧ ∃ o : Obj, X.heap[r]? = some o ∧ o.isCells = false) : Blk Y g t cs := by
  unfold Blk
  rw [hg.block g h.lt (fun e => ?_)]
  · exact h
  · obtain ⟨_, o, ho, hc⟩ := hr g e.symm
    rw [show X.heap[g]? = _ from h] at ho
    cases ho
    cases hc

def CollEnd (xs : List α) (enc : α → Array Value) (w : World) (e : Ending) (w' : World) : Prop := ∃ v, e = .returned v ∧ w'.ownsRow w.heap.size 41 18 v xs.length (flatY enc xs) ∧ Below w.heap.size w w'

set_option maxRecDepth 100000 in
set_option maxHeartbeats 4000000 in
theorem appendseq_w (hk : ∀ x, (enc x).size = 18) (h1c : ∀ x, (enc x).all (·.oneCell') = true) (n : Nat) (hn : 4 ≤ n) (gf : Nat) (lb : Array Value) (eg : ∀ args w, (callFunc gf args).run Tryz.prog w = .ok (.enter gf args) w) (xs : List α) (hm : xs.length ≤ 100000) (Sp : List α → Prop) (w : World)
    (hseq : ∀ W, Below w.heap.size w W → SeqStopsK Fence.wide (n - 1) Tryz.prog gf lb (fun x : α => #[Value.agg (enc x)]) (Below w.heap.size) (fun ys => ys = xs) Sp xs.length W) :
    CallsIn Fence.wide n Tryz.prog 79 #[.slice none 0 0, .func (.func gf) #[] lb] w (CollEnd xs enc w) := by
  obtain ⟨i0, hi, h2⟩ := Option.map_eq_some_iff.1 Tryz.info3PntY
  simp only [Prod.mk.injEq] at h2
  obtain ⟨hz1, hz2⟩ := h2
  obtain ⟨z, hz0, hzs⟩ : ∃ z, i0.zero = some z ∧ z.cells.size = 18 := by
    have h5 := Tryz.info5PntY
    rw [hi] at h5
    simp only [Option.map_some, Option.some.injEq] at h5
    obtain ⟨z, hz, h6⟩ := Option.map_eq_some_iff.1 h5
    exact ⟨z, hz, h6⟩
  refine callsIn_of_wp_marks Tryz.func79 rfl trivial ?_ rfl
  simp only [Tryz.ntmps79, List.size_toArray, List.length_cons, List.length_nil, Nat.reduceAdd, Nat.reduceSub, Array.replicate_succ, Array.replicate_zero, List.push_toArray, List.append_toArray, List.nil_append, List.cons_append]
  gi_wp2
  have bS := Boxed.new w 22 (.slice none 0 0)
  have hB1 : Below w.heap.size w (w.alloc (.cells #[.slice none 0 0] 22)) := (Below.refl _ w).alloc (Nat.le_refl _) _
  refine wpIn_rangeFunc_ownH rfl (by omega) (gf := gf) (lb := lb) rfl trivial eg
    (hseq _ hB1) belowK_t (belowK_b (by simp)) (Below.refl _ _) (fun _ => rfl)
    (fun pre W => (∃ v, Boxed W w.heap.size 22 v ∧ W.ownsRow w.heap.size 41 18 v pre.length (flatY enc pre) ∧ True) ∧ Below w.heap.size w W)
    (fun _ _ _ => False)
    (OwnFrom.and (Own.from (holdsRow_own w.heap.size w.heap.size 22 41 18 (fun pre : List α => pre.length) (fun pre => flatY enc pre) (fun _ _ => True)) _) (ownFrom_below (Nat.le_refl _) (by simp)))
    (fun _ _ _ _ _ hs _ _ => hs)
    ⟨⟨_, bS, ⟨rfl, .inl ⟨rfl, rfl⟩⟩, trivial⟩, hB1⟩
    (fun x a' W => ∃ Bx, w.heap.size < Bx ∧ Blk W Bx 41 (enc x) ∧ a' = { tmps := #[.slice none 0 0, .func (.func gf) #[] lb, .pointer (some ⟨w.heap.size, 0, none⟩), undef, .slice none 0 0, .pointer (some ⟨Bx, 0, none⟩), .func (.func gf) #[] lb, .agg (enc x), undef, undef, undef, undef, undef], defers := [] })
    (fun x a' _ X Y row hs hg hr => by obtain ⟨Bx, h1, h2, h3⟩ := hs; exact ⟨Bx, h1, blk_ownf h2 hg hr, h3⟩)
    ?assign ?body ?done ?stop
  case assign =>
    rintro l pre x W K ⟨⟨v, hv, hrow, _⟩, hB⟩ hK
    have HKx := hid (hk x)
    have H1 := hid (h1c x)
    have HK := hid hK
    have HV := hid hv
    have HRo := hid hrow
    have hlt := hv.lt
    clear hK hv hrow
    gi_wp2_with ((show wpListIn _ _ _ _ _ (⟨none, _, _, _, _, _⟩ :: _) _ _); go_must (refine wlIn_store (.inr ⟨l, rfl⟩) 41 (.tmp 5) (.tmp 7) rfl W.heap.size (enc x) rfl rfl 41 _ (Blk.new W _ _) 18 Tryz.infoPntY HKx.out.symm rfl H1.out rfl rfl ?_; rw [setRow_new]))
    exact HK.out _ _ ((KeepsOthers.alloc _ _).from _) ((Below.refl _ W).alloc (Nat.le_of_lt hlt) _) ⟨⟨_, HV.out.alloc _, HRo.out.alloc _, trivial⟩, hB.alloc (Nat.le_of_lt hlt) _⟩ ⟨W.heap.size, hlt, Blk.new W _ _, rfl⟩
  case body =>
    rintro l pre x a' W hl hrec ⟨⟨v, hv, hrow, _⟩, hB⟩ ⟨Bx, hBx, bX, rfl⟩ hlt
    have HKx := hid (hk x)
    have H1 := hid (h1c x)
    have HBX := hid bX
    have HRo := hid hrow
    have HV := hid hv
    have HLen : Hid ((enc x).toList.length = 1 * 18) := hid (by rw [Array.length_toList, hk])
    have HOne : Hid (∀ u ∈ (enc x).toList, u.oneCell' = true) := hid (fun u hu => by
      have h := h1c x
      rw [Array.all_eq_true_iff_forall_mem] at h
      exact h u (by simpa using hu))
    have hc := hv.cell
    have hBs := hB.size
    clear hrow hv bX
    gi_wp2_with (first
      | ((show wpListIn _ _ _ _ _ (⟨some 9, _, _, _, _, _⟩ :: _) _ _); go_must (refine wlIn_load (.inr ⟨l, rfl⟩) 41 (.tmp 5) rfl Bx rfl 41 _ _ HBX.out Tryz.underlying41 rfl 18 Tryz.infoPntY HKx.out.symm rfl rfl ?_))
      | ((show wpListIn _ _ _ _ _ (⟨some 10, _, _, _, _, _⟩ :: _) _ _); go_must (refine wlIn_run (.inr ⟨l, rfl⟩) _ _ (exec_lit1 (.tmp 9) rfl (enc x) rfl HKx.out) rfl rfl ?_))
      | ((show wpListIn _ _ _ _ _ (⟨some 11, _, _, _, _, _⟩ :: _) _ _); go_must (refine wpListIn_append_own _ rfl _ _ 22 rfl w.heap.size 41 i0 z 18 32 Tryz.underlying22 hi hz0 hz1 hz2 hzs (by decide) v pre.length _ rfl (HRo.out.alloc _) ⟨W.heap.size, 0, none⟩ 1 1 (enc x).toList rfl HLen.out cells_news HOne.out (by unfold maxLen; omega) (by omega) (by simp; omega) ?_; intro v' w1 hown' hgrow _; obtain ⟨g', cap', rfl⟩ := ownsRow_succ hown'; obtain ⟨hv1, hv2, hr2, hk2, hb2⟩ := HV.out.appended (by decide) HRo.out hBs (Nat.le_refl _) hown' hgrow; have hc1 := hv1.cell; have hf1 := hv1.frozen)))
    exact ⟨hk2.from _, hb2, ⟨_, hv2, by rw [List.length_append, flat_snoc]; exact hr2, trivial⟩, hB.trans hb2⟩
  case done =>
    rintro D ys W hD rfl ⟨⟨v, hv, hrow, _⟩, hB⟩ hK
    have hc := hv.cell
    have F : Hid (CollEnd ys enc w (.returned v) (W.putObj D (.deferred none))) := hid ⟨v, rfl, ownsRow_putObj hrow _ hK rfl, hB.trans (belowK_b (w := w) (Nat.le_refl _) W D _ _ (by simp at hD; omega) hK rfl rfl)⟩
    clear hrow hv
    gi_wp2
    refine ⟨by simp, .inl ⟨_, _, rfl, run_takeDeferred hK, ?_⟩⟩
    refine ⟨_, results_tmp rfl _ _ _, ?_⟩
    exact F.out
  case stop =>
    rintro D c pre W _ _ h _
    exact h.elim
end
end Go.Proofs.YtahconkjhneogaaGreatDoor

namespace Go.Proofs.YtahconkjhneogaaGreatDoor
open Go.RowKit Go.Shelf Go.Lib
attribute [local go_sem] Oper.semAt_some

section
variable {α : Type} {enc : α → Array Value}

set_option maxRecDepth 100000 in
set_option maxHeartbeats 1000000 in
theorem collect_any (hk : ∀ x, (enc x).size = 18) (h1c : ∀ x, (enc x).all (·.oneCell') = true) (Bs cap : Nat) (ad : Option Addr) (xs : List α) (hcap : xs.length ≤ cap) (hm : xs.length ≤ 100000) (w : World) (hBs : Bs < w.heap.size)
    (hc : w.cell? ⟨Bs, 0, none⟩ = some (.slice ad xs.length cap)) (hI : Elems enc 18 w.heap.size w ad xs) :
    Calls Tryz.prog 64 #[.func (.func 66) #[] #[.pointer (some ⟨Bs, 0, none⟩)]] w (CollEnd xs enc w) := by
  have h := callsIn_wide.1 (appendseq_w hk h1c 8 (by omega) 66 #[.pointer (some ⟨Bs, 0, none⟩)] (enters_of Tryz.func66 (by kernel_rfl) rfl) xs hm (fun pre => pre <+: xs) w (fun W hW =>
    values_stopsW hk h1c 7 (by omega) Bs w.heap.size cap ad xs hcap (by omega) W (Nat.lt_of_lt_of_le hBs hW.size) hW.size ((hW.cell (p := ⟨Bs, 0, none⟩) hBs).trans hc) (hI.below hW)))
  have H := hid h
  clear h hc hI
  go_enter Tryz.func64, Tryz.ntmps64
  go_wp2_with fail
  refine H.out.mono ?_
  rintro e w1 ⟨v, rfl, ho, hb⟩
  have F : Hid (CollEnd xs enc w (.returned v) w1) := hid ⟨v, rfl, ho, hb⟩
  clear ho hb H
  go_wp2
  go_ret
  exact F.out

theorem values_any (a : Option Addr) (len cap : Nat) (w : World) :
    Calls Tryz.prog 45 #[.slice a len cap] w fun e w' => e = .returned (.func (.func 66) #[] #[.pointer (some ⟨w.heap.size, 0, none⟩)]) ∧ w' = w.alloc (.cells #[.slice a len cap] 22) :=
  callsIn_wide.1 (values_w 2 a len cap w)
end
end Go.Proofs.YtahconkjhneogaaGreatDoor

namespace Go.Proofs.YtahconkjhneogaaGreatDoor
open Go.RowKit Go.Shelf Go.Lib Go.Sort

section
variable {α : Type} [Inhabited α] {enc : α → Array Value} {encL : α → List Value}

theorem flat_get (k : Nat) (hk : ∀ x, (encL x).length = k) (he : ∀ x, (enc x).toList = encL x) : ∀ (xs : List α) (t : Nat), t < xs.length * k → (flatY enc xs)[t]! = (encL xs[t / k]!)[t % k]!
  | [], t, h => by simp at h
  | x :: xs, t, h => by
    have hf : flatY enc (x :: xs) = encL x ++ flatY enc xs := by simp [flatY, he]
    rw [hf]
    have hk0 : 0 < k := by rcases Nat.eq_zero_or_pos k with h0 | h0; · subst h0; simp at h
                           · exact h0
    have hl := hk x
    by_cases ht : t < k
    · have e1 : t / k = 0 := Nat.div_eq_of_lt ht
      have e2 : t % k = t := Nat.mod_eq_of_lt ht
      rw [e1, e2]
      have h1 : t < (encL x).length := by omega
      have h2 : t < (encL x ++ flatY enc xs).length := by rw [List.length_append]; omega
      show (encL x ++ flatY enc xs)[t]! = (encL x)[t]!
      rw [getElem!_pos _ t h2, getElem!_pos _ t h1, List.getElem_append_left h1]
    · obtain ⟨u, rfl⟩ : ∃ u, t = k + u := ⟨t - k, by omega⟩
      have hu : u < xs.length * k := by simp only [List.length_cons, Nat.add_mul, Nat.one_mul] at h; omega
      have ih := flat_get k hk he xs u hu
      have e1 : (k + u) / k = u / k + 1 := by rw [Nat.add_comm, Nat.add_div_right u hk0]
      have e2 : (k + u) % k = u % k := Nat.add_mod_left k u
      rw [e1, e2]
      show _ = (encL xs[u / k]!)[u % k]!
      rw [← ih]
      simp only [List.getElem!_eq_getElem?_getD]
      rw [List.getElem?_append_right (by omega), hl, Nat.add_sub_cancel_left]

theorem flat_flatK (k : Nat) (hk : ∀ x, (encL x).length = k) (he : ∀ x, (enc x).toList = encL x) (xs : List α) : flatK encL k xs.toArray = (flatY enc xs).toArray := by
  have hl : (flatY enc xs).length = xs.length * k := flat_length k (fun x => by rw [← Array.length_toList, he, hk]) xs
  refine ext_get! (by simp [hl]) fun t ht => ?_
  have ht' : t < xs.length * k := by simpa using ht
  have h1 := get_flatK encL k xs.toArray t (by simpa using ht')
  rw [h1]
  have h2 := flat_get k hk he xs t ht'
  simp only [List.getElem!_toArray]
  rw [h2]

theorem holds_own (k : Nat) (hk : ∀ x, (encL x).length = k) (he : ∀ x, (enc x).toList = encL x) (w : World) (g : Nat) (e : TypeId) (cur : Array Value) (xs : List α)
    (hb : w.heap[g]? = some (.cells cur e (0, 0))) (ht : cur.toList.take (xs.length * k) = flatY enc xs) : HoldsK encL k w g 0 xs.toArray := by
  intro j hj
  have hj' : j < xs.length * k := by simpa using hj
  have hl : (flatY enc xs).length = xs.length * k := flat_length k (fun x => by rw [← Array.length_toList, he, hk]) xs
  have hc : j < cur.size := by
    have := congrArg List.length ht
    rw [hl, List.length_take, show cur.toList.length = cur.size from rfl] at this
    omega
  rw [flat_flatK k hk he]
  have h2 : (flatY enc xs).toArray[j]! = cur[j] := by
    have h3 : j < (flatY enc xs).length := by omega
    rw [List.getElem!_toArray, getElem!_pos _ j h3]
    have h4 : (flatY enc xs)[j]? = some cur[j] := by
      rw [← ht, List.getElem?_take_of_lt hj', Array.getElem?_toList, Array.getElem?_eq_getElem hc]
    rw [List.getElem?_eq_getElem h3] at h4
    exact Option.some.inj h4
  rw [h2, Nat.zero_add]
  constructor
  · unfold World.cell?
    simp [hb, hc]
  · unfold World.frozen?
    simp [hb]

theorem own_sorted (k : Nat) (hk : ∀ x, (encL x).length = k) (he : ∀ x, (enc x).toList = encL x) (w : World) (g : Nat) (e : TypeId) (cur : Array Value) (d : List α) (m : Nat) (os : Array Obj)
    (hb : w.heap[g]? = some (.cells cur e (0, 0))) (hc : d.length * k ≤ cur.size) :
    (∃ cur', (sortWorldK encL k w g 0 m d.toArray os).heap[g]? = some (.cells cur' e (0, 0)) ∧ cur'.size = cur.size ∧ cur'.toList.take (d.length * k) = flatY enc d ∧ cur'.toList.drop (d.length * k) = cur.toList.drop (d.length * k)) ∧ ∀ n, n ≤ g → Below n w (sortWorldK encL k w g 0 m d.toArray os) := by
  have hl : (flatY enc d).length = d.length * k := flat_length k (fun x => by rw [← Array.length_toList, he, hk]) d
  have hz : g < w.heap.size := by
    rcases Nat.lt_or_ge g w.heap.size with h | h
    · exact h
    · rw [Array.getElem?_eq_none h] at hb; exact absurd hb (by simp)
  obtain ⟨F, hF⟩ : ∃ F, F = (flatY enc d).toArray := ⟨_, rfl⟩
  have hFs : F.size = d.length * k := by rw [hF]; simpa using hl
  have hw : sortWorldK encL k w g 0 m d.toArray os = { w with heap := (w.heap.modify g (onCells (putCells id 0 F))) ++ os, drawn := w.drawn + m } := by
    unfold sortWorldK putRowK
    rw [flat_flatK k hk he, ← hF]
    rfl
  constructor
  · refine ⟨putCells id 0 F cur, ?_, by simp [putCells], ?_, ?_⟩
    · rw [hw]
      show (w.heap.modify g (onCells (putCells id 0 F)) ++ os)[g]? = _
      rw [Array.getElem?_append_left (by simpa using hz), Array.getElem?_modify, if_pos rfl, hb]
      rfl
    · apply List.ext_getElem?
      intro i
      by_cases hi : i < d.length * k
      · rw [List.getElem?_take_of_lt hi, Array.getElem?_toList]
        unfold putCells
        rw [Array.getElem?_mapIdx, Array.getElem?_eq_getElem (by omega)]
        have h3 : i < (flatY enc d).length := by omega
        rw [Option.map_some, if_pos ⟨Nat.zero_le _, by omega⟩, Nat.sub_zero, hF, List.getElem!_toArray, getElem!_pos _ i h3, List.getElem?_eq_getElem h3]
        rfl
      · rw [List.getElem?_eq_none (by rw [List.length_take]; omega), List.getElem?_eq_none (by omega)]
    · apply List.ext_getElem?
      intro i
      rw [List.getElem?_drop, List.getElem?_drop, Array.getElem?_toList, Array.getElem?_toList]
      unfold putCells
      rw [Array.getElem?_mapIdx]
      cases cur[d.length * k + i]? with
      | none => rfl
      | some x => rw [Option.map_some, if_neg (by omega)]
  · intro n hn
    rw [hw]
    refine ⟨rfl, rfl, rfl, ?_, fun i hi => ?_⟩
    · show w.heap.size ≤ (w.heap.modify g (onCells (putCells id 0 F)) ++ os).size
      simp
    · show (w.heap.modify g (onCells (putCells id 0 F)) ++ os)[i]? = w.heap[i]?
      rw [Array.getElem?_append_left (by simp; omega), Array.getElem?_modify, if_neg (by omega)]
end
end Go.Proofs.YtahconkjhneogaaGreatDoor

namespace Go.Proofs.YtahconkjhneogaaGreatDoor
open Go.RowKit

set_option maxHeartbeats 400000 in
theorem four_any (a b c d : Int) (w : World) : Calls Tryz.prog 63 #[.int .u8 a, .int .u8 b, .int .u8 c, .int .u8 d] w fun e w' => e = .returned (.agg (adr false [a, b, c, d, 0, 0, 0, 0, 0, 0, 0, 0, 0, 0, 0, 0])) ∧ Below w.heap.size w w' := by
  have HB := Lib.hid (Blk.new w 39 (adr false z16))
  go_enter Tryz.func63, Tryz.ntmps63
  go_wp2_with (refine wpl_store 39 _ _ rfl _ (adr false [a, b, c, d, 0, 0, 0, 0, 0, 0, 0, 0, 0, 0, 0, 0]) rfl rfl _ _ HB.out 17 Tryz.infoAddr rfl rfl (adr_one _ _) rfl ?_)
  exact retA rfl w.heap.size rfl _ _ _ (HB.out.row _) Tryz.underlying39 rfl 17 Tryz.infoAddr rfl rfl ⟨rfl, below_setRow ((Below.refl _ _).alloc (Nat.le_refl _) _) (Nat.le_refl _) _⟩
/-- All cells of a block that holds an address. -/
theorem cells16 {w' : World} {g : Nat} {s : Bool} {b : List Int} (hl : b.length = 16) (h : Blk w' g 39 (adr s b)) : w'.cell? ⟨g, 0, none⟩ = some (.bool s) ∧ w'.cell? ⟨g, 1, none⟩ = some (.int .u8 (nth b 0)) ∧ w'.cell? ⟨g, 2, none⟩ = some (.int .u8 (nth b 1)) ∧ w'.cell? ⟨g, 3, none⟩ = some (.int .u8 (nth b 2)) ∧ w'.cell? ⟨g, 4, none⟩ = some (.int .u8 (nth b 3)) ∧ w'.cell? ⟨g, 5, none⟩ = some (.int .u8 (nth b 4)) ∧ w'.cell? ⟨g, 6, none⟩ = some (.int .u8 (nth b 5)) ∧ w'.cell? ⟨g, 7, none⟩ = some (.int .u8 (nth b 6)) ∧ w'.cell? ⟨g, 8, none⟩ = some (.int .u8 (nth b 7)) ∧ w'.cell? ⟨g, 9, none⟩ = some (.int .u8 (nth b 8)) ∧ w'.cell? ⟨g, 10, none⟩ = some (.int .u8 (nth b 9)) ∧ w'.cell? ⟨g, 11, none⟩ = some (.int .u8 (nth b 10)) ∧ w'.cell? ⟨g, 12, none⟩ = some (.int .u8 (nth b 11)) ∧ w'.cell? ⟨g, 13, none⟩ = some (.int .u8 (nth b 12)) ∧ w'.cell? ⟨g, 14, none⟩ = some (.int .u8 (nth b 13)) ∧ w'.cell? ⟨g, 15, none⟩ = some (.int .u8 (nth b 14)) ∧ w'.cell? ⟨g, 16, none⟩ = some (.int .u8 (nth b 15)) := by
  have hc : ∀ i, i < 16 → w'.cell? ⟨g, 1 + i, none⟩ = some (.int .u8 (nth b i)) := fun i hi => by rw [h.cell, adr_at _ _ _ (by omega)]
  exact ⟨by rw [h.cell]; rfl, hc 0 (by omega), hc 1 (by omega), hc 2 (by omega), hc 3 (by omega), hc 4 (by omega), hc 5 (by omega), hc 6 (by omega), hc 7 (by omega), hc 8 (by omega), hc 9 (by omega), hc 10 (by omega), hc 11 (by omega), hc 12 (by omega), hc 13 (by omega), hc 14 (by omega), hc 15 (by omega)⟩
/-- Are all bytes behind the fourth noughts? -/
def flat (b : List Int) : Bool := b == [nth b 0, nth b 1, nth b 2, nth b 3, 0, 0, 0, 0, 0, 0, 0, 0, 0, 0, 0, 0]
theorem lit16 (s : Bool) (b : List Int) (hl : b.length = 16) : adr s b = #[.bool s, .int .u8 (nth b 0), .int .u8 (nth b 1), .int .u8 (nth b 2), .int .u8 (nth b 3), .int .u8 (nth b 4), .int .u8 (nth b 5), .int .u8 (nth b 6), .int .u8 (nth b 7), .int .u8 (nth b 8), .int .u8 (nth b 9), .int .u8 (nth b 10), .int .u8 (nth b 11), .int .u8 (nth b 12), .int .u8 (nth b 13), .int .u8 (nth b 14), .int .u8 (nth b 15)] := by
  match b, hl with
  | [a0, a1, a2, a3, a4, a5, a6, a7, a8, a9, a10, a11, a12, a13, a14, a15], _ => rfl
theorem list16 (b : List Int) (hl : b.length = 16) : b = [nth b 0, nth b 1, nth b 2, nth b 3, nth b 4, nth b 5, nth b 6, nth b 7, nth b 8, nth b 9, nth b 10, nth b 11, nth b 12, nth b 13, nth b 14, nth b 15] := by
  match b, hl with
  | [a0, a1, a2, a3, a4, a5, a6, a7, a8, a9, a10, a11, a12, a13, a14, a15], _ => rfl
set_option maxHeartbeats 400000 in
theorem right_six (b : List Int) (w : World) : Calls Tryz.prog 41 #[.agg (adr true b)] w fun e w' => e = .returned (.bool true) ∧ Below w.heap.size w w' := by
  have h0 := adr_zero true b
  go_enter Tryz.func41, Tryz.ntmps41
  go_wp2
  go_ret
  exact ⟨rfl, (Below.refl _ _).alloc (Nat.le_refl _) _⟩
set_option maxHeartbeats 4000000 in
theorem right_four (b : List Int) (hl : b.length = 16) (w : World) : Calls Tryz.prog 41 #[.agg (adr false b)] w fun e w' => e = .returned (.bool (flat b)) ∧ Below w.heap.size w w' := by
  obtain ⟨W, hW⟩ : ∃ W, W = w.alloc (.cells (adr false b) 39) := ⟨_, rfl⟩
  have hB : Blk W w.heap.size 39 (adr false b) := hW ▸ Blk.new w _ _
  have hb0 : Below w.heap.size w W := hW ▸ (Below.refl _ _).alloc (Nat.le_refl _) _
  have h0 := adr_zero false b
  have HB : Hid (Blk W.drew w.heap.size 39 (adr false b)) := Lib.hid hB
  have HW := Lib.hid hW.symm
  have HL := Lib.hid hl
  have HS := Lib.hid (fun w' => @cells16 w' w.heap.size false b hl)
  have hq : ∀ w, (binOp .eql 39 (.agg #[.bool false, .int .u8 (nth b 0), .int .u8 (nth b 1), .int .u8 (nth b 2), .int .u8 (nth b 3), .int .u8 (nth b 4), .int .u8 (nth b 5), .int .u8 (nth b 6), .int .u8 (nth b 7), .int .u8 (nth b 8), .int .u8 (nth b 9), .int .u8 (nth b 10), .int .u8 (nth b 11), .int .u8 (nth b 12), .int .u8 (nth b 13), .int .u8 (nth b 14), .int .u8 (nth b 15)]) (.agg (adr false [nth b 0, nth b 1, nth b 2, nth b 3, 0, 0, 0, 0, 0, 0, 0, 0, 0, 0, 0, 0]))).run Tryz.prog w = .ok (.bool (flat b)) w := fun w => by
    have := eql_adr false false b [nth b 0, nth b 1, nth b 2, nth b 3, 0, 0, 0, 0, 0, 0, 0, 0, 0, 0, 0, 0] hl rfl w
    rw [lit16 false b hl] at this
    exact this
  clear hB hW hl
  go_enter Tryz.func41, Tryz.ntmps41
  go_wp2
  rw [HW.out]
  go_region_held3 (fun w' => w'.cell? ⟨w.heap.size, 0, none⟩ = some (.bool false) ∧ w'.cell? ⟨w.heap.size, 1, none⟩ = some (.int .u8 (nth b 0)) ∧ w'.cell? ⟨w.heap.size, 2, none⟩ = some (.int .u8 (nth b 1)) ∧ w'.cell? ⟨w.heap.size, 3, none⟩ = some (.int .u8 (nth b 2)) ∧ w'.cell? ⟨w.heap.size, 4, none⟩ = some (.int .u8 (nth b 3)) ∧ w'.cell? ⟨w.heap.size, 5, none⟩ = some (.int .u8 (nth b 4)) ∧ w'.cell? ⟨w.heap.size, 6, none⟩ = some (.int .u8 (nth b 5)) ∧ w'.cell? ⟨w.heap.size, 7, none⟩ = some (.int .u8 (nth b 6)) ∧ w'.cell? ⟨w.heap.size, 8, none⟩ = some (.int .u8 (nth b 7)) ∧ w'.cell? ⟨w.heap.size, 9, none⟩ = some (.int .u8 (nth b 8)) ∧ w'.cell? ⟨w.heap.size, 10, none⟩ = some (.int .u8 (nth b 9)) ∧ w'.cell? ⟨w.heap.size, 11, none⟩ = some (.int .u8 (nth b 10)) ∧ w'.cell? ⟨w.heap.size, 12, none⟩ = some (.int .u8 (nth b 11)) ∧ w'.cell? ⟨w.heap.size, 13, none⟩ = some (.int .u8 (nth b 12)) ∧ w'.cell? ⟨w.heap.size, 14, none⟩ = some (.int .u8 (nth b 13)) ∧ w'.cell? ⟨w.heap.size, 15, none⟩ = some (.int .u8 (nth b 14)) ∧ w'.cell? ⟨w.heap.size, 16, none⟩ = some (.int .u8 (nth b 15)))
    (first | exact HS.out _ HB.out | exact HS.out _ (HB.out.kept hb1))
    (first | (go_at_call 63; refine (four_any _ _ _ _ _).mono ?_; rintro e w1 ⟨rfl, hb1⟩))
  go_wp2
  go_ret
  exact ⟨rfl, hb0.trans (((below_drewN W 1).trans hb1).mono (Nat.le_of_lt HB.out.lt))⟩
theorem flat_of (b : List Int) (hl : b.length = 16) (h : ∀ j, 4 ≤ j → j < 16 → nth b j = 0) : flat b = true := by
  have e := list16 b hl
  rw [h 4 (by omega) (by omega), h 5 (by omega) (by omega), h 6 (by omega) (by omega), h 7 (by omega) (by omega), h 8 (by omega) (by omega), h 9 (by omega) (by omega), h 10 (by omega) (by omega), h 11 (by omega) (by omega), h 12 (by omega) (by omega), h 13 (by omega) (by omega), h 14 (by omega) (by omega), h 15 (by omega) (by omega)] at e
  unfold flat
  rw [← e]
  simp
theorem flat_not (b : List Int) (j : Nat) (h4 : 4 ≤ j) (h16 : j < 16) (h : nth b j ≠ 0) : flat b = false := by
  rw [← Bool.not_eq_true]
  intro hf
  unfold flat at hf
  have e := beq_iff_eq.1 hf
  apply h
  rw [e]
  have : j = 4 ∨ j = 5 ∨ j = 6 ∨ j = 7 ∨ j = 8 ∨ j = 9 ∨ j = 10 ∨ j = 11 ∨ j = 12 ∨ j = 13 ∨ j = 14 ∨ j = 15 := by omega
  rcases this with rfl | rfl | rfl | rfl | rfl | rfl | rfl | rfl | rfl | rfl | rfl | rfl <;> rfl
set_option maxHeartbeats 400000 in
theorem refRight_any (six : Bool) (b : List Int) (hl : b.length = 16) (w : World) : Calls Tryz.prog 49 #[.agg (adr six b)] w fun e w' => e = .returned (.bool (six || flat b)) ∧ Below w.heap.size w w' := by
  obtain ⟨W, hW⟩ : ∃ W, W = w.alloc (.cells (adr six b) 39) := ⟨_, rfl⟩
  have hB : Blk W w.heap.size 39 (adr six b) := hW ▸ Blk.new w _ _
  have hb0 : Below w.heap.size w W := hW ▸ (Below.refl _ _).alloc (Nat.le_refl _) _
  have h0 : W.cell? ⟨w.heap.size, 0, none⟩ = some (.bool six) := by rw [hB.cell]; rfl
  have HC : Hid (∀ i, i < 16 → W.cell? ⟨w.heap.size, 1 + i, none⟩ = some (.int .u8 (nth b i))) := Lib.hid fun i hi => by rw [hB.cell, adr_at _ _ _ (by omega)]
  have HW := Lib.hid hW.symm
  have HL := Lib.hid hl
  clear hB hW hl
  go_enter Tryz.func49, Tryz.ntmps49
  go_wp2_with fail
  rw [HW.out]
  go_loop [3] (fun i => ∃ k : Nat, 4 ≤ k ∧ k ≤ 16 ∧ i = .int .i64 k ∧ Hid (six = true ∨ ∀ j, 4 ≤ j → j < k → nth b j = 0)) (fun i => 16 - (intOf i).toNat)
  case atStart => exact ⟨4, by omega, by omega, rfl, .inr fun j h1 h2 => by omega⟩
  case round =>
    obtain ⟨k, hk4, hk, rfl, hr⟩ := hrel
    by_cases hlt : k < 16
    · have hc := HC.out k hlt
      cases hs : six
      · subst hs
        by_cases hz : nth b k = 0
        · have hz' : (nth b k != 0) = false := by rw [hz]; rfl
          have Hz := Lib.hid hz
          clear hz
          go_wp2
          go_round
          case rel =>
            refine ⟨k + 1, by omega, by omega, by go_num, .inr fun j h1 h2 => ?_⟩
            by_cases e : j = k
            · rw [e]; exact Hz.out
            · rcases hr.out with h | h
              · cases h
              · exact h j h1 (by omega)
          case measure => simp [intOf]; omega
        · have hz' : (nth b k != 0) = true := by rw [bne_iff_ne]; exact hz
          have Hz := Lib.hid hz
          clear hz
          go_wp2
          go_ret
          exact ⟨by rw [flat_not b k hk4 hlt Hz.out]; rfl, hb0⟩
      · subst hs
        go_wp2
        go_round
        case rel => exact ⟨k + 1, by omega, by omega, by go_num, Or.inl (by simp)⟩
        case measure => simp [intOf]; omega
    · have hk16 : k = 16 := by omega
      have HR : Hid ((six || flat b) = true) := Lib.hid (by
        rcases hr.out with h | h
        · rw [h]; rfl
        · rw [flat_of b HL.out (fun j h1 h2 => h j h1 (by omega))]; simp)
      go_wp2
      go_ret
      exact ⟨by rw [HR.out]; rfl, hb0⟩
/-- Numbers as Go's integers. -/
def ints (l : List Nat) : List Int := l.map (fun k : Nat => (k : Int))
theorem ints_length (l : List Nat) : (ints l).length = l.length := by simp [ints]
theorem nth_ints (l : List Nat) (i : Nat) : nth (ints l) i = ((l.getD i 0 : Nat) : Int) := by
  unfold nth ints
  by_cases h : i < l.length
  · simp [List.getD, List.getElem?_eq_getElem h]
  · simp [List.getD, List.getElem?_eq_none (Nat.le_of_not_lt h)]
/-- Is it a port? -/
def rp (n : Int) : Bool := decide (1 ≤ n) && decide (n ≤ 65535)
theorem pright_any (n : Int) (w : World) : Calls Tryz.prog 42 #[.int .i64 n] w fun e w' => e = .returned (.bool (rp n)) ∧ w = w' := by
  unfold rp
  by_cases h1 : 1 ≤ n
  · have q1 : decide (n ≥ 1) = true := decide_eq_true h1
    have q1' : decide (1 ≤ n) = true := decide_eq_true h1
    rw [q1', Bool.true_and]
    go_enter Tryz.func42, Tryz.ntmps42
    go_wp2
    go_ret
    exact ⟨rfl, rfl⟩
  · have q1 : decide (n ≥ 1) = false := decide_eq_false h1
    have q1' : decide (1 ≤ n) = false := decide_eq_false h1
    rw [q1', Bool.false_and]
    go_enter Tryz.func42, Tryz.ntmps42
    go_wp2
    go_ret
    exact ⟨rfl, rfl⟩
end Go.Proofs.YtahconkjhneogaaGreatDoor

namespace Go.Proofs.YtahconkjhneogaaGreatDoor
open Go.RowKit

/-- Which of two rows of numbers comes first. -/
def cmpN : List Nat → List Nat → Int
  | [], [] => 0
  | [], _ :: _ => -1
  | _ :: _, [] => 1
  | a :: x, b :: y => if a < b then -1 else if b < a then 1 else cmpN x y
/-- Which of two addresses comes first. -/
def cmpA (s t : Bool) (x y : List Nat) : Int := if s = t then cmpN x y else if t = true then -1 else 1
theorem cmp_bytes : ∀ (x y : List Nat), (∀ n ∈ x, n < 256) → (∀ n ∈ y, n < 256) → Lib.compareBytes (Lib.bytesOf (ints x)) (Lib.bytesOf (ints y)) = cmpN x y
  | [], [], _, _ => rfl
  | [], _ :: _, _, _ => rfl
  | _ :: _, [], _, _ => rfl
  | a :: x, b :: y, hx, hy => by
    have ha := hx a (by simp)
    have hb := hy b (by simp)
    have ih := cmp_bytes x y (fun n hn => hx n (by simp [hn])) (fun n hn => hy n (by simp [hn]))
    have e : ∀ (n : Nat) (l : List Nat), Lib.bytesOf (ints (n :: l)) = UInt8.ofNat n :: Lib.bytesOf (ints l) := fun n l => by
      simp [Lib.bytesOf, ints]
    rw [e, e, Lib.compareBytes, cmpN, ih]
    have h1 : (UInt8.ofNat a < UInt8.ofNat b) ↔ a < b := by
      rw [UInt8.lt_iff_toNat_lt]
      simp [Nat.mod_eq_of_lt ha, Nat.mod_eq_of_lt hb]
    have h2 : (UInt8.ofNat b < UInt8.ofNat a) ↔ b < a := by
      rw [UInt8.lt_iff_toNat_lt]
      simp [Nat.mod_eq_of_lt ha, Nat.mod_eq_of_lt hb]
    by_cases q1 : a < b
    · rw [if_pos q1, if_pos (h1.2 q1)]
    · rw [if_neg q1, if_neg (fun h => q1 (h1.1 h))]
      by_cases q2 : b < a
      · rw [if_pos q2, if_pos (h2.2 q2)]
      · rw [if_neg q2, if_neg (fun h => q2 (h2.1 h))]
theorem run_compare (w : World) (g1 g2 : Nat) (x y : List Nat) (hx : x.length = 16) (hy : y.length = 16) (lx : ∀ n ∈ x, n < 256) (ly : ∀ n ∈ y, n < 256)
    (c1 : ∀ j, j < 16 → w.cell? ⟨g1, 1 + j, none⟩ = some (.int .u8 ((x.getD j 0 : Nat) : Int))) (c2 : ∀ j, j < 16 → w.cell? ⟨g2, 1 + j, none⟩ = some (.int .u8 ((y.getD j 0 : Nat) : Int))) :
    (Extern.BytealgCompare.compare #[.slice (some ⟨g1, 1, none⟩) 16 16, .slice (some ⟨g2, 1, none⟩) 16 16]).run Tryz.prog w = .ok (.int .i64 (cmpN x y)) w := by
  have hl : ∀ (g : Nat) (z : List Nat), z.length = 16 → (∀ j, j < 16 → w.cell? ⟨g, 1 + j, none⟩ = some (.int .u8 ((z.getD j 0 : Nat) : Int))) →
      (Extern.Bytes.bytesOf (.slice (some ⟨g, 1, none⟩) 16 16)).run Tryz.prog w = .ok ⟨(Lib.bytesOf (ints z)).toArray⟩ w := by
    intro g z hz hc
    have h := Lib.run_loadBytesX (P := Tryz.prog) w (ints z) ⟨g, 1, none⟩ .empty (fun j v hj => by
      have hjl : j < (ints z).length := (List.getElem?_eq_some_iff.1 hj).1
      rw [ints_length] at hjl
      have e : (⟨g, 1, none⟩ : Addr).add j = ⟨g, 1 + j, none⟩ := by unfold Addr.add; split <;> simp_all
      rw [e, hc j (by omega)]
      have : nth (ints z) j = v := by unfold nth; rw [List.getD_eq_getElem?_getD, hj]; rfl
      rw [← this, nth_ints])
    rw [ints_length, hz] at h
    have he : (⟨ByteArray.empty.data ++ (Lib.bytesOf (ints z)).toArray⟩ : ByteArray) = ⟨(Lib.bytesOf (ints z)).toArray⟩ := by
      apply ByteArray.ext
      show (#[] : Array UInt8) ++ (Lib.bytesOf (ints z)).toArray = (Lib.bytesOf (ints z)).toArray
      simp
    rw [he] at h
    exact h
  have h1 := hl g1 x hx c1
  have h2 := hl g2 y hy c2
  change Sem.run Tryz.prog (do pure (goInt (Extern.BytealgCompare.cmp (← Extern.Bytes.bytesOf (.slice (some ⟨g1, 1, none⟩) 16 16)) (← Extern.Bytes.bytesOf (.slice (some ⟨g2, 1, none⟩) 16 16))))) w = _
  rw [Sem.run_bind, h1, Result.andThen_ok, Sem.run_bind, h2, Result.andThen_ok, Sem.run_pure, Lib.cmp_eq]
  rw [show goInt = Value.int .i64 from rfl]
  congr 2
  exact cmp_bytes x y lx ly
set_option maxHeartbeats 1000000 in
theorem bcmp (w : World) (g1 g2 : Nat) (x y : List Nat) (hx : x.length = 16) (hy : y.length = 16) (lx : ∀ n ∈ x, n < 256) (ly : ∀ n ∈ y, n < 256)
    (c1 : ∀ j, j < 16 → w.cell? ⟨g1, 1 + j, none⟩ = some (.int .u8 ((x.getD j 0 : Nat) : Int))) (c2 : ∀ j, j < 16 → w.cell? ⟨g2, 1 + j, none⟩ = some (.int .u8 ((y.getD j 0 : Nat) : Int))) :
    Calls Tryz.prog 82 #[.slice (some ⟨g1, 1, none⟩) 16 16, .slice (some ⟨g2, 1, none⟩) 16 16] w fun e w' => e = .returned (.int .i64 (cmpN x y)) ∧ w' = w := by
  have hr := run_compare w g1 g2 x y hx hy lx ly c1 c2
  have hc := @run_callFunc_extern Tryz.prog 100 _ Extern.BytealgCompare.compare Tryz.func100 (by kernel_rfl) (by kernel_rfl) (by kernel_rfl) (by kernel_rfl)
  have hc2 := hc #[.slice (some ⟨g1, 1, none⟩) 16 16, .slice (some ⟨g2, 1, none⟩) 16 16] w
  rw [hr] at hc2
  simp only [Result.andThen_ok] at hc2
  clear hr hc c1 c2 hx hy lx ly
  go_enter Tryz.func82, Tryz.ntmps82
  go_wp2
  go_ret
  exact ⟨rfl, rfl⟩
set_option maxRecDepth 100000 in
set_option maxHeartbeats 4000000 in
theorem compare_any (s t : Bool) (x y : List Nat) (hx : x.length = 16) (hy : y.length = 16) (lx : ∀ n ∈ x, n < 256) (ly : ∀ n ∈ y, n < 256) (w : World) :
    Calls Tryz.prog 68 #[.agg (adr s (ints x)), .agg (adr t (ints y))] w fun e w' => e = .returned (.int .i64 (cmpA s t x y)) ∧ Below w.heap.size w w' := by
  obtain ⟨W0, hW0⟩ : ∃ W, W = w.alloc (.cells (adr s (ints x)) 39) := ⟨_, rfl⟩
  have hB0 : Blk W0 w.heap.size 39 (adr s (ints x)) := hW0 ▸ Blk.new w _ _
  have hb0 : Below w.heap.size w W0 := hW0 ▸ (Below.refl _ _).alloc (Nat.le_refl _) _
  have hs0 : W0.heap.size = w.heap.size + 1 := by rw [hW0]; simp
  obtain ⟨W1, hW1⟩ : ∃ W, W = W0.alloc (.cells (adr t (ints y)) 39) := ⟨_, rfl⟩
  have hB1 : Blk W1 (w.heap.size + 1) 39 (adr t (ints y)) := hs0 ▸ hW1 ▸ Blk.new W0 _ _
  have hb1 : Below W0.heap.size W0 W1 := hW1 ▸ (Below.refl _ _).alloc (Nat.le_refl _) _
  have hB0' : Blk W1 w.heap.size 39 (adr s (ints x)) := hB0.kept hb1
  have HW : Hid ((w.alloc (.cells (adr s (ints x)) 39)).alloc (.cells (adr t (ints y)) 39) = W1) := Lib.hid (by rw [hW1, hW0])
  have h0 := adr_zero s (ints x)
  have h1 := adr_zero t (ints y)
  have Hb : Hid (Below w.heap.size w W1) := Lib.hid (bel2 hb0 hb1)
  have HC : Hid (∀ n, Calls Tryz.prog 82 #[.slice (some ⟨w.heap.size, 1, none⟩) 16 16, .slice (some ⟨w.heap.size + 1, 1, none⟩) 16 16] (W1.drewN n) fun e w' => e = .returned (.int .i64 (cmpN x y)) ∧ w' = W1.drewN n) := Lib.hid fun n =>
    bcmp (W1.drewN n) w.heap.size (w.heap.size + 1) x y hx hy lx ly
      (fun j hj => by have := hB0'.cell (1 + j); rw [adr_at _ _ _ (by rw [ints_length, hx]; exact hj), nth_ints] at this; exact this)
      (fun j hj => by have := hB1.cell (1 + j); rw [adr_at _ _ _ (by rw [ints_length, hy]; exact hj), nth_ints] at this; exact this)
  clear hB0 hB0' hB1 hb0 hb1 hs0 hW0 hW1 hx hy lx ly
  cases s <;> cases t
  · go_enter Tryz.func68, Tryz.ntmps68
    go_wp2
    rw [HW.out]
    go_quiet ((go_at_call 82; exact Calls.quiet_of_same (HC.out _)))
    go_wp2
    go_ret
    exact ⟨rfl, bel2 Hb.out (below_drewN _ _)⟩
  · go_enter Tryz.func68, Tryz.ntmps68
    go_wp2
    go_ret
    rw [HW.out]
    exact ⟨rfl, Hb.out⟩
  · go_enter Tryz.func68, Tryz.ntmps68
    go_wp2
    go_ret
    rw [HW.out]
    exact ⟨rfl, Hb.out⟩
  · go_enter Tryz.func68, Tryz.ntmps68
    go_wp2
    rw [HW.out]
    go_quiet ((go_at_call 82; exact Calls.quiet_of_same (HC.out _)))
    go_wp2
    go_ret
    exact ⟨rfl, bel2 Hb.out (below_drewN _ _)⟩
theorem cmpN_drop (x y : List Nat) (k : Nat) (hx : k < x.length) (hy : k < y.length) : cmpN (x.drop k) (y.drop k) = if x.getD k 0 < y.getD k 0 then -1 else if y.getD k 0 < x.getD k 0 then 1 else cmpN (x.drop (k + 1)) (y.drop (k + 1)) := by
  rw [List.drop_eq_getElem_cons hx, List.drop_eq_getElem_cons hy, cmpN]
  simp [List.getD, List.getElem?_eq_getElem hx, List.getElem?_eq_getElem hy]
set_option maxRecDepth 100000 in
set_option maxHeartbeats 4000000 in
theorem refCompare_any (s t : Bool) (x y : List Nat) (hx : x.length = 16) (hy : y.length = 16) (w : World) :
    Calls Tryz.prog 76 #[.agg (adr s (ints x)), .agg (adr t (ints y))] w fun e w' => e = .returned (.int .i64 (cmpA s t x y)) ∧ Below w.heap.size w w' := by
  obtain ⟨W0, hW0⟩ : ∃ W, W = w.alloc (.cells (adr s (ints x)) 39) := ⟨_, rfl⟩
  have hB0 : Blk W0 w.heap.size 39 (adr s (ints x)) := hW0 ▸ Blk.new w _ _
  have hb0 : Below w.heap.size w W0 := hW0 ▸ (Below.refl _ _).alloc (Nat.le_refl _) _
  have hs0 : W0.heap.size = w.heap.size + 1 := by rw [hW0]; simp
  obtain ⟨W1, hW1⟩ : ∃ W, W = W0.alloc (.cells (adr t (ints y)) 39) := ⟨_, rfl⟩
  have hB1 : Blk W1 (w.heap.size + 1) 39 (adr t (ints y)) := hs0 ▸ hW1 ▸ Blk.new W0 _ _
  have hb1 : Below W0.heap.size W0 W1 := hW1 ▸ (Below.refl _ _).alloc (Nat.le_refl _) _
  have hB0' : Blk W1 w.heap.size 39 (adr s (ints x)) := hB0.kept hb1
  have HW : Hid ((w.alloc (.cells (adr s (ints x)) 39)).alloc (.cells (adr t (ints y)) 39) = W1) := Lib.hid (by rw [hW1, hW0])
  have h0 := adr_zero s (ints x)
  have h1 := adr_zero t (ints y)
  have HS : Hid (Blk W1 w.heap.size 39 (adr s (ints x)) ∧ Blk W1 (w.heap.size + 1) 39 (adr t (ints y)) ∧ Below w.heap.size w W1) := Lib.hid ⟨hB0', hB1, bel2 hb0 hb1⟩
  have HX := Lib.hid hx
  have HY := Lib.hid hy
  clear hB0 hB0' hB1 hb0 hb1 hs0 hW0 hW1 hx hy
  by_cases hst : s = t
  · subst hst
    have hne : (s != s) = false := by simp
    go_enter Tryz.func76, Tryz.ntmps76
    cases s
    all_goals
      go_wp2
      rw [HW.out]
      clear HW h0 h1 hne
      go_loopw [13] (fun i wr => ∃ k : Nat, k ≤ 16 ∧ i = .int .i64 k ∧ Hid (cmpN x y = cmpN (x.drop k) (y.drop k) ∧ Blk wr w.heap.size 39 (adr _ (ints x)) ∧ Blk wr (w.heap.size + 1) 39 (adr _ (ints y)) ∧ Below w.heap.size w wr)) (fun i _ => 16 - (intOf i).toNat)
      case atStart => exact ⟨0, Nat.zero_le _, rfl, rfl, HS.out⟩
      case round =>
        obtain ⟨k, hk, rfl, hh⟩ := hrel
        clear HS
        obtain ⟨hd, hB0, hB1, hb⟩ := hh.out
        by_cases hlt : k < 16
        · obtain ⟨a, ha⟩ : ∃ a, a = x.getD k 0 := ⟨_, rfl⟩
          obtain ⟨b, hb'⟩ : ∃ b, b = y.getD k 0 := ⟨_, rfl⟩
          rw [cmpN_drop x y k (by rw [HX.out]; exact hlt) (by rw [HY.out]; exact hlt), ← ha, ← hb'] at hd
          have hc0 : wr.cell? ⟨w.heap.size, 1 + k, none⟩ = some (.int .u8 (a : Int)) := by rw [hB0.cell, adr_at _ _ _ (by rw [ints_length, HX.out]; exact hlt), nth_ints, ha]
          have hc1 : wr.cell? ⟨w.heap.size + 1, 1 + k, none⟩ = some (.int .u8 (b : Int)) := by rw [hB1.cell, adr_at _ _ _ (by rw [ints_length, HY.out]; exact hlt), nth_ints, hb']
          have HD := Lib.hid hd
          have HB0 := Lib.hid hB0
          have HB1 := Lib.hid hB1
          have Hb := Lib.hid hb
          have k0 : (0 : Int) ≤ (k : Int) := by omega
          have k16 : (k : Int) < 16 := by omega
          clear hd hB0 hB1 hb ha hb' hh
          by_cases h1 : a < b
          · have q1 : (a : Int) < (b : Int) := by omega
            go_wp2
            go_quiet (fail)
            go_wp2
            go_ret
            exact ⟨by rw [cmpA, if_pos rfl, HD.out, if_pos h1]; rfl, bel2 Hb.out (below_drewN _ _)⟩
          · have q1 : decide ((a : Int) < (b : Int)) = false := by simp; omega
            by_cases h2 : b < a
            · have q2 : (b : Int) < (a : Int) := by omega
              go_wp2
              go_quiet (fail)
              go_wp2
              go_quiet (fail)
              go_wp2
              go_ret
              exact ⟨by rw [cmpA, if_pos rfl, HD.out, if_neg h1, if_pos h2]; rfl, bel2 Hb.out (by first | exact bel2 (below_drewN _ _) (below_drewN _ _) | exact below_drewN _ _)⟩
            · have q2 : decide ((b : Int) < (a : Int)) = false := by simp; omega
              go_wp2
              go_quiet (fail)
              go_wp2
              go_quiet (fail)
              go_wp2
              go_roundw
              case rel => exact ⟨k + 1, by omega, by go_num, by rw [HD.out, if_neg h1, if_neg h2], HB0.out, HB1.out, bel2 Hb.out (by first | exact bel2 (below_drewN _ _) (below_drewN _ _) | exact below_drewN _ _)⟩
              case measure => simp [intOf]; omega
        · obtain rfl : k = 16 := by omega
          have HD : Hid (cmpN x y = 0) := Lib.hid (by rw [hd, List.drop_eq_nil_of_le (by rw [HX.out]; omega), List.drop_eq_nil_of_le (by rw [HY.out]; omega)]; rfl)
          have Hb := Lib.hid hb
          clear hd hB0 hB1 hb hh
          go_wp2
          go_ret
          exact ⟨by rw [cmpA, if_pos rfl, HD.out]; rfl, Hb.out⟩
  · have hv : cmpA s t x y = if t = true then -1 else 1 := by rw [cmpA, if_neg hst]
    have HV := Lib.hid hv
    clear hv
    cases s <;> cases t
    · exact absurd rfl hst
    · go_enter Tryz.func76, Tryz.ntmps76
      go_wp2
      go_ret
      rw [HW.out, HV.out]
      exact ⟨rfl, HS.out.2.2⟩
    · go_enter Tryz.func76, Tryz.ntmps76
      go_wp2
      go_ret
      rw [HW.out, HV.out]
      exact ⟨rfl, HS.out.2.2⟩
    · exact absurd rfl hst
theorem cmpN_swap : ∀ x y : List Nat, cmpN y x = - cmpN x y
  | [], [] => rfl
  | [], _ :: _ => rfl
  | _ :: _, [] => rfl
  | a :: x, b :: y => by
    have ih := cmpN_swap x y
    rw [cmpN, cmpN, ih]
    by_cases h1 : a < b
    · have h2 : ¬ b < a := by omega
      simp [h1, h2]
    · by_cases h2 : b < a
      · simp [h1, h2]
      · simp [h1, h2]
theorem cmpN_self : ∀ x : List Nat, cmpN x x = 0
  | [] => rfl
  | a :: x => by rw [cmpN, if_neg (by omega), if_neg (by omega), cmpN_self x]
theorem cmpN_trans : ∀ x y z : List Nat, cmpN x y ≤ 0 → cmpN y z ≤ 0 → cmpN x z ≤ 0
  | [], [], _, _, h => h
  | [], _ :: _, [], _, h => by simp [cmpN] at h
  | [], _ :: _, _ :: _, _, _ => by simp [cmpN]
  | _ :: _, [], _, h, _ => by simp [cmpN] at h
  | _ :: _, _ :: _, [], _, h => by simp [cmpN] at h
  | a :: x, b :: y, c :: z, h1, h2 => by
    rw [cmpN] at h1 h2 ⊢
    have ih := cmpN_trans x y z
    split at h1
    · split at h2
      · rw [if_pos (by omega)]; omega
      · split at h2
        · omega
        · rw [if_pos (by omega)]; omega
    · split at h1
      · omega
      · split at h2
        · rw [if_pos (by omega)]; omega
        · split at h2
          · omega
          · rw [if_neg (by omega), if_neg (by omega)]; exact ih h1 h2
theorem cmpN_range : ∀ x y : List Nat, -1 ≤ cmpN x y ∧ cmpN x y ≤ 1
  | [], [] => by simp [cmpN]
  | [], _ :: _ => by simp [cmpN]
  | _ :: _, [] => by simp [cmpN]
  | a :: x, b :: y => by
    have ih := cmpN_range x y
    rw [cmpN]
    split
    · omega
    · split <;> omega
theorem cmpA_swap (s t : Bool) (x y : List Nat) : cmpA t s y x = - cmpA s t x y := by
  unfold cmpA
  cases s <;> cases t <;> simp [cmpN_swap x y]
theorem cmpA_self (s : Bool) (x : List Nat) : cmpA s s x x = 0 := by simp [cmpA, cmpN_self]
theorem cmpA_range (s t : Bool) (x y : List Nat) : -1 ≤ cmpA s t x y ∧ cmpA s t x y ≤ 1 := by
  unfold cmpA
  have := cmpN_range x y
  split
  · exact this
  · split <;> omega
theorem cmpA_trans (s t u : Bool) (x y z : List Nat) (h1 : cmpA s t x y ≤ 0) (h2 : cmpA t u y z ≤ 0) : cmpA s u x z ≤ 0 := by
  unfold cmpA at *
  cases s <;> cases t <;> cases u <;> simp at * <;> exact cmpN_trans x y z h1 h2
set_option maxHeartbeats 400000 in
theorem nan_any (n : Int) (w : World) : Calls Tryz.prog 83 #[.int .i64 n] w fun e w' => e = .returned (.bool false) ∧ w = w' := by
  have q : (n != n) = false := by simp
  go_enter Tryz.func83, Tryz.ntmps83
  go_wp2
  go_ret
  exact ⟨rfl, rfl⟩
/-- Which of two numbers comes first. -/
def cmpI (n m : Int) : Int := if n < m then -1 else if m < n then 1 else 0
/-- Which of two cidrs comes first. -/
def cmpP (s t : Bool) (x y : List Nat) (n m : Int) : Int := if cmpA s t x y ≠ 0 then cmpA s t x y else if n < m then -1 else if m < n then 1 else 0
end Go.Proofs.YtahconkjhneogaaGreatDoor
