/-
  A region that draws its order, in the body of a round: by the laws of such a region outside of rounds (the fence is the wide one).
  Whole elements loaded and stored within the wide fence, in a round's body too.
  slices.Values at api.Cidr: the iterator, and its contract.
  slices.AppendSeq and slices.Collect at api.Cidr.
  slices.Collect of slices.Values at api.Cidr.
  A row of elements of k cells of one's own, as a sort takes it and leaves it. No program.
-/
import Derived.Test.YtijboclcbbnhbaaGreatDoorProg
import Derived.Test.YtijboclcbbnhbaaGreatDoorEq
import Derived.Deep.RegionHeld3
import Derived.RangeFuncCalls
import Derived.RangeFuncWrites
import Derived.CallsIn
import Derived.OrdersIn
import Derived.TacticsIn
import Derived.Deep.MidRow
import Derived.RangeFuncNested
import Derived.RangeFuncBound
import Derived.RangeFuncLeaves
import Derived.RangeFuncBox
import Derived.Shelf.Abstract
import Derived.Shelf.RegionOpen
import Derived.WalkKit
import Derived.OwnWalkIn
import Derived.LoopNIn
import Derived.LoopIn
import Derived.TacticsInMore
import Derived.Maps.AppendAt
import Derived.Great.BuildSlice
import Derived.Great.FillDense
import Derived.Shelf.SlSortCmp.NoneTotal
namespace Go.Proofs.YtijboclcbbnhbaaGreatDoor
open Go.RowKit

section
variable {P : Program} {ops : Array Oper} {Q : Exit → Act → World → Prop} {md : Region.Mode}

theorem rowsIn_round {l n : Nat} {row : String} {args : Array Value} {w : World} {R : Value → World → Prop} (h : Rows P row args w R) : RowsIn (Fence.wide.inRound l) n P row args w R := fun c cs _ => by
  obtain ⟨v, w', hr, hs⟩ := h c cs
  exact ⟨v, w', hr, stepsIn_wide.2 hs⟩

theorem wpOp_round (l n : Nat) (hop : ∀ (i : Nat) (o : Oper) (c : Call), ops[i]? = some o → o.op ≠ .defer c) (hQ : ¬ LetsOut Q) {i : Nat} {K : Act → World → Prop} {a : Act} {w : World} (h : wpOp P ops Q i K a w) :
    wpOpIn (Fence.wide.inRound l) n P ops Q i K a w := by
  unfold wpOp at h
  unfold wpOpIn
  cases ho : ops[i]? with
  | none => simpa [ho] using h
  | some o =>
    simp only [ho] at h ⊢
    by_cases hw : Region.wanted o (yielded ops a.tmps) = true
    · rw [if_pos hw] at h ⊢
      rcases h with h | h
      · refine ⟨fun _ _ => trivial, ?_⟩
        rw [show (Fence.wide.inRound l).round = some l from rfl, Oper.semAt_some l a.eval o (fun c => hop i o c ho)]
        unfold Oper.wp at h
        generalize (execOp a.eval o).run P w = r at h ⊢
        cases r with
        | ok x w' =>
          cases x <;> simp only [Oper.upon, Oper.uponIn] at h ⊢
          case enter f args => exact ⟨fun h => by simp [Fence.wide] at h, CallsIn.inRound l (callsIn_wide.2 h)⟩
          case row r args => exact ⟨fun h => by simp [Fence.wide] at h, rowsIn_round h⟩
          all_goals exact h
        | halt x w' => cases x <;> simp only [Oper.upon, Oper.uponIn] at h ⊢ <;> exact h
      · exact absurd h.2 hQ
    · rw [if_neg hw] at h ⊢
      exact ⟨fun _ _ => trivial, h⟩

theorem wpAny_round (l n : Nat) (hop : ∀ (i : Nat) (o : Oper) (c : Call), ops[i]? = some o → o.op ≠ .defer c) (hQ : ¬ LetsOut Q) : ∀ (fuel : Nat) (listed : Array Bool) (a : Act) (w : World),
    wpAny P md ops Q fuel listed a w → wpAnyIn (Fence.wide.inRound l) n P md ops Q fuel listed a w
  | 0, _, _, _, h => h
  | fuel + 1, _, _, _, h => ⟨h.1, fun i hi => wpOpIn_mono (fun a w h => wpAny_round l n hop hQ fuel _ a w h) (wpOp_round l n hop hQ (h.2 i hi))⟩

def noDefer (ops : Array Oper) : Bool := ops.all fun o => match o.op with | .defer _ => false | _ => true
theorem noDefer_spec (h : noDefer ops = true) (i : Nat) (o : Oper) (c : Call) (ho : ops[i]? = some o) : o.op ≠ .defer c := fun e => by
  have := Array.all_eq_true_iff_forall_mem.1 h o (Array.mem_of_getElem? ho)
  rw [e] at this
  cases this

/-- A drawn region of a round's body, some facts S holding all the time. -/
theorem wpIn_region_round {l n id : Nat} {S : World → Prop} {a : Act} {w : World} (hm : P.follows .mixedOrders = true) (hop : noDefer ops = true) (hQ : ¬ LetsOut Q) (hS : S w.drew)
    (h : S w.drew → wpAnyH P .any ops Q S ops.size (Array.replicate ops.size false) a w.drew) : (Code.region id ops true).wpIn (Fence.wide.inRound l) n P Q a w :=
  wpIn_region_any hm (wpAny_round l n (noDefer_spec hop) hQ _ _ _ _ (wpAny_of_held _ _ _ _ (h hS)))
end

section
variable {P : Program} {ops : Array Oper} {o : Oper} {a : Act} {w : World} {K : Act → World → Prop} {Q : Exit → Act → World → Prop} {E : Prop}
/-- A step of a drawn region: a call of a Go function by its contract. -/
theorem r_call (f : FuncId) (args : Array Value) (hrun : (execOp a.eval o).run P w = .ok (.enter f args) w) (hw : Region.wanted o (yielded ops a.tmps) = true) {R : World → Prop} (v : Value)
    (hc : Calls P f args w fun e w' => e = .returned v ∧ R w') (h : ∀ w', R w' → K (a.put o.dst v) w') : if Region.wanted o (yielded ops a.tmps) = true then Oper.wp P o a w K Q else E := by
  rw [if_pos hw]
  unfold Oper.wp
  rw [hrun, Oper.upon_enter]
  refine hc.mono fun e w'' hh => ?_
  obtain ⟨rfl, hR⟩ := hh
  exact h _ hR
/-- A step of a drawn region: any operation whose run is known. -/
theorem r_run (v : Value) (w' : World) (hrun : (execOp a.eval o).run P w = .ok (.value v) w') (hw : Region.wanted o (yielded ops a.tmps) = true)
    (h : K (a.put o.dst v) w') : if Region.wanted o (yielded ops a.tmps) = true then Oper.wp P o a w K Q else E := by
  rw [if_pos hw]
  unfold Oper.wp
  rw [hrun, Oper.upon_value]
  exact h
theorem r_skip (w' : World) (hrun : (execOp a.eval o).run P w = .ok .skip w') (hw : Region.wanted o (yielded ops a.tmps) = true)
    (h : K (a.put o.dst undef) w') : if Region.wanted o (yielded ops a.tmps) = true then Oper.wp P o a w K Q else E := by
  rw [if_pos hw]
  unfold Oper.wp
  rw [hrun, Oper.upon_skip]
  exact h
/-- The same, where the operation may be left out by its guard: what is left is the run. -/
theorem o_call (f : FuncId) (args : Array Value) (hrun : (execOp a.eval o).run P w = .ok (.enter f args) w) {R : World → Prop} (v : Value)
    (hc : Calls P f args w fun e w' => e = .returned v ∧ R w') (h : ∀ w', R w' → K (a.put o.dst v) w') : Oper.wp P o a w K Q := by
  unfold Oper.wp
  rw [hrun, Oper.upon_enter]
  refine hc.mono fun e w'' hh => ?_
  obtain ⟨rfl, hR⟩ := hh
  exact h _ hR
theorem o_run (v : Value) (w' : World) (hrun : (execOp a.eval o).run P w = .ok (.value v) w') (h : K (a.put o.dst v) w') : Oper.wp P o a w K Q := by
  unfold Oper.wp
  rw [hrun, Oper.upon_value]
  exact h
end
end Go.Proofs.YtijboclcbbnhbaaGreatDoor

namespace Go.Proofs.YtijboclcbbnhbaaGreatDoor
open Go.RowKit Go.Lib

/-- The wide fence, or a round's within it. -/
def WideF (F : Fence) : Prop := F = Fence.wide ∨ ∃ l, F = Fence.wide.inRound l

section
variable {P : Program} {F : Fence} {n : Nat}
theorem operIn_of (hF : WideF F) {o : Oper} (hop : ∀ c, o.op ≠ .defer c) {a : Act} {w : World} {K : Act → World → Prop} {Q : Exit → Act → World → Prop} (h : Oper.wp P o a w K Q) : Oper.wpIn F n P o a w K Q := by
  have e : o.semAt F.round a.eval = execOp a.eval o := by
    rcases hF with rfl | ⟨l, rfl⟩
    · rfl
    · exact Oper.semAt_some l a.eval o hop
  have hd : F.depth = none := by rcases hF with rfl | ⟨l, rfl⟩ <;> rfl
  refine ⟨fun f _ => by rcases hF with rfl | ⟨l, rfl⟩ <;> trivial, ?_⟩
  rw [e]
  unfold Oper.wp at h
  generalize (execOp a.eval o).run P w = r at h ⊢
  cases r with
  | ok x w' =>
    cases x <;> simp only [Oper.upon, Oper.uponIn] at h ⊢
    case enter f args =>
      refine ⟨fun h => by rw [hd] at h; simp at h, ?_⟩
      rcases hF with rfl | ⟨l, rfl⟩
      · exact callsIn_wide.2 h
      · exact CallsIn.inRound l (callsIn_wide.2 h)
    case row r args =>
      refine ⟨fun h => by rw [hd] at h; simp at h, ?_⟩
      rcases hF with rfl | ⟨l, rfl⟩
      · exact rowsIn_round (l := 0) h
      · exact rowsIn_round h
    all_goals exact h
  | halt x w' => cases x <;> simp only [Oper.upon, Oper.uponIn] at h ⊢ <;> exact h

def plainOp (o : Oper) : Bool := match o.op with | .defer _ => false | _ => true
theorem plain_spec {o : Oper} (h : plainOp o = true) (c : Call) : o.op ≠ .defer c := fun e => by
  unfold plainOp at h
  rw [e] at h
  cases h

/-- A step of a plain region, within the wide fence. -/
theorem wlIn (hF : WideF F) {ops : Array Oper} {rest : List Oper} {o : Oper} {a : Act} {w : World} {Q : Exit → Act → World → Prop} (hop : plainOp o = true) (hw : Region.wanted o (yielded ops a.tmps) = true)
    (h : ∀ K : Act → World → Prop, (∀ a w, wpListIn F n P ops Q rest a w → K a w) → o.wp P a w K Q) : wpListIn F n P ops Q (o :: rest) a w :=
  BigFrame.wpListIn_want hw fun K hK => operIn_of hF (plain_spec hop) (h K hK)

theorem wlIn_run (hF : WideF F) {ops : Array Oper} {rest : List Oper} {o : Oper} {a : Act} {w : World} {Q : Exit → Act → World → Prop} (v : Value) (w' : World) (hrun : (execOp a.eval o).run P w = .ok (.value v) w') (hop : plainOp o = true) (hw : Region.wanted o (yielded ops a.tmps) = true) {m : Nat}
    (h : wpListIn F m P ops Q rest (a.put o.dst v) w') : wpListIn F m P ops Q (o :: rest) a w :=
  wlIn hF hop hw fun _ hK => o_run v w' hrun (hK _ _ h)

theorem wlIn_load (hF : WideF F) {ops : Array Oper} {rest : List Oper} {o : Oper} {a : Act} {w : World} {Q : Exit → Act → World → Prop} (ty : TypeId) (x : Operand) (ho : o.op = .load ty x)
    (g : Nat) (hx : a.eval x = .pointer (some ⟨g, 0, none⟩)) (t : TypeId) (cs : Array Value) (d : TypeDesc) (hg : Blk w g t cs)
    (hu : P.underlying ty = some d) (hd : (match d with | .struct _ | .array _ _ => true | _ => false) = true) (n : Nat) (hi : (P.info? ty).map (·.size) = some n) (hn : n = cs.size)
    (hop : plainOp o = true) (hw : Region.wanted o (yielded ops a.tmps) = true) {m : Nat}
    (h : wpListIn F m P ops Q rest (a.put o.dst (.agg cs)) w) : wpListIn F m P ops Q (o :: rest) a w :=
  wlIn hF hop hw fun _ hK => wp_load_row ty x ho g hx t cs (0, 0) d hg hu hd (hn ▸ hi) (hK _ _ h)

theorem wlIn_load_mid (hF : WideF F) {ops : Array Oper} {rest : List Oper} {o : Oper} {a : Act} {w : World} {Q : Exit → Act → World → Prop} (ty : TypeId) (x : Operand) (ho : o.op = .load ty x)
    (b off : Nat) (hx : a.eval x = .pointer (some ⟨b, off, none⟩)) (cs : List Value) (d : TypeDesc) (hc : w.rangeAt b off cs)
    (hu : P.underlying ty = some d) (hd : d.isRow = true) (hi : (P.info? ty).map (·.size) = some cs.length)
    (hop : plainOp o = true) (hw : Region.wanted o (yielded ops a.tmps) = true) {m : Nat}
    (h : wpListIn F m P ops Q rest (a.put o.dst (.agg cs.toArray)) w) : wpListIn F m P ops Q (o :: rest) a w :=
  wlIn hF hop hw fun _ hK => wp_load_mid ty x ho b off hx cs d hc hu hd hi (hK _ _ h)

theorem wlIn_store (hF : WideF F) {ops : Array Oper} {rest : List Oper} {o : Oper} {a : Act} {w : World} {Q : Exit → Act → World → Prop} (ty : TypeId) (x y : Operand) (ho : o.op = .store ty x y)
    (g : Nat) (cells : Array Value) (hx : a.eval x = .pointer (some ⟨g, 0, none⟩)) (hy : a.eval y = .agg cells)
    (t : TypeId) (old : Array Value) (hg : Blk w g t old) (n : Nat) (hi : (P.info? ty).map (·.size) = some n) (hn : n = cells.size)
    (hold : old.size = n) (h1 : cells.all (·.oneCell') = true) (hop : plainOp o = true) (hw : Region.wanted o (yielded ops a.tmps) = true) {m : Nat}
    (h : wpListIn F m P ops Q rest (a.put o.dst undef) (w.setRow g cells)) : wpListIn F m P ops Q (o :: rest) a w :=
  wlIn hF hop hw fun _ hK => wp_store_row ty x y ho g cells hx hy t old hg (hn ▸ hi) (hold.trans hn) h1 (hK _ _ h)
end

/-- What is stored whole into a block just made. -/
theorem setRow_new (w : World) (z cs : Array Value) (t : TypeId) : (w.alloc (.cells z t)).setRow w.heap.size cs = w.alloc (.cells cs t) := by
  unfold World.setRow World.alloc
  congr 1
  apply Array.ext_getElem?
  intro i
  rw [Array.getElem?_modify]
  by_cases hi : w.heap.size = i
  · subst hi
    simp
  · rw [if_neg hi]
    by_cases h : i < w.heap.size
    · rw [Array.getElem?_push_lt h, Array.getElem?_push_lt h]
    · rw [Array.getElem?_eq_none (by simp; omega), Array.getElem?_eq_none (by simp; omega)]

/-- The elements xs lie at the address, k cells each, below n₀. -/
def Elems {α : Type} (enc : α → Array Value) (k n₀ : Nat) (W : World) (ad : Option Addr) (xs : List α) : Prop := ∀ j (hj : j < xs.length), ∃ g o, ad = some ⟨g, o, none⟩ ∧ g < n₀ ∧ W.rangeAt g (o + j * k) (enc xs[j]).toList
theorem rangeAt_below {n₀ : Nat} {A B : World} (h : Below n₀ A B) {g o : Nat} {cs : List Value} (hg : g < n₀) (hr : A.rangeAt g o cs) : B.rangeAt g o cs := fun j v hj => (h.cell (p := ⟨g, o + j, none⟩) hg).trans (hr j v hj)
theorem Elems.below {α : Type} {enc : α → Array Value} {k n₀ : Nat} {A B : World} (h : Below n₀ A B) {ad : Option Addr} {xs : List α} (hb : Elems enc k n₀ A ad xs) : Elems enc k n₀ B ad xs := fun j hj => by
  obtain ⟨g, o, h1, h2, h3⟩ := hb j hj
  exact ⟨g, o, h1, h2, rangeAt_below h h2 h3⟩
theorem Elems.mono {α : Type} {enc : α → Array Value} {k n₀ n₁ : Nat} {A : World} {ad : Option Addr} {xs : List α} (hb : Elems enc k n₀ A ad xs) (h : n₀ ≤ n₁) : Elems enc k n₁ A ad xs := fun j hj => by
  obtain ⟨g, o, h1, h2, h3⟩ := hb j hj
  exact ⟨g, o, h1, Nat.lt_of_lt_of_le h2 h, h3⟩
theorem Tryz.infoCidrY : (Tryz.prog.info? 29).map (·.size) = some 18 := by kernel_rfl
end Go.Proofs.YtijboclcbbnhbaaGreatDoor

namespace Go.Proofs.YtijboclcbbnhbaaGreatDoor
open Go.RowKit Go.Shelf Go.Lib
attribute [local go_sem] Oper.semAt_some

section
variable {α : Type} {enc : α → Array Value}

set_option maxHeartbeats 1000000 in
theorem values_w (n : Nat) (a : Option Addr) (len cap : Nat) (w : World) :
    CallsIn Fence.wide n Tryz.prog 16 #[.slice a len cap] w fun e w' => e = .returned (.func (.func 34) #[] #[.pointer (some ⟨w.heap.size, 0, none⟩)]) ∧ w' = w.alloc (.cells #[.slice a len cap] 22) := by
  refine callsIn_of_wp Tryz.func16 rfl trivial ?_ rfl
  simp only [Tryz.ntmps16, List.size_toArray, List.length_cons, List.length_nil, Nat.reduceAdd, Nat.reduceSub, Array.replicate_succ, Array.replicate_zero, List.push_toArray, List.append_toArray, List.nil_append, List.cons_append]
  gi_wp2
  go_ret
  exact ⟨rfl, rfl⟩

theorem take_snoc' {xs : List α} {p : Nat} (hp : p < xs.length) : xs.take (p + 1) = xs.take p ++ [xs[p]] := List.take_succ_eq_append_getElem hp

set_option maxRecDepth 100000 in
set_option maxHeartbeats 4000000 in
theorem values1_w (hk : ∀ x, (enc x).size = 18) (h1c : ∀ x, (enc x).all (·.oneCell') = true) (n : Nat) (hn : 2 ≤ n) (l Bs n₀ g o cap : Nat) (xs : List α) (hcap : xs.length ≤ cap) (hm : xs.length ≤ 1000000) (hb : g < n₀) (J Jx : List α → World → Prop) (B : Nat) (hJ : AbidesFrom B J)
    (hY : ∀ pre x W, J pre W → pre.length < xs.length → YieldAt Fence.wide (n - 1) Tryz.prog l #[.agg (enc x)] W fun e W' =>
      (e = .returned (.bool true) ∧ J (pre ++ [x]) W' ∧ Below n₀ W W') ∨ (e = .returned (.bool false) ∧ Jx (pre ++ [x]) W'))
    (W : World) (hn₀ : n₀ ≤ W.heap.size) (hBs : W.cell? ⟨Bs, 0, none⟩ = some (.slice (some ⟨g, o, none⟩) xs.length cap)) (hc : ∀ j (hj : j < xs.length), W.rangeAt g (o + j * 18) (enc xs[j]).toList) (h0 : J [] W) :
    CallsIn Fence.wide n Tryz.prog 34 #[.func (.yield l) #[] #[], .pointer (some ⟨Bs, 0, none⟩)] W fun e W' => (∃ v, e = .returned v) ∧
      ((∃ ys, ys = xs ∧ J ys W') ∨ (∃ pre, pre <+: xs ∧ Jx pre W')) := by
  have h1 : 1 ≤ n := by omega
  have h1' : 1 ≤ n - 1 := by omega
  obtain ⟨len, hlen⟩ : ∃ len, xs.length = len := ⟨_, rfl⟩
  rw [hlen] at hcap hm hBs hY
  have HL := hid hlen
  have HC := hid hc
  clear hlen hc
  refine callsIn_of_wp Tryz.func34 rfl trivial ?_ rfl
  simp only [Tryz.ntmps34, List.size_toArray, List.length_cons, List.length_nil, Nat.reduceAdd, Nat.reduceSub, Array.replicate_succ, Array.replicate_zero, List.push_toArray, List.append_toArray, List.nil_append, List.cons_append]
  gi_wp2
  gi_loopw [7] (fun i wr => ∃ p : Nat, p ≤ len ∧ i = .int .i64 p ∧ Hid (J (xs.take p) wr) ∧ Hid (Below n₀ W wr)) (fun i _ => len - (intOf i).toNat)
  case atStart => exact ⟨0, by omega, rfl, hid h0, hid (Below.refl _ _)⟩
  case round =>
    obtain ⟨p, hp1, rfl, HJ, HB⟩ := hrel
    by_cases hlt : p < len
    · have hpx : p < xs.length := by have := HL.out; omega
      obtain ⟨x, hx⟩ : ∃ x, x = xs[p] := ⟨_, rfl⟩
      have hr : wr.rangeAt g (o + p * 18) (enc x).toList := hx ▸ rangeAt_below HB.out hb (HC.out p hpx)
      have HR := hid hr
      have HS : Hid (xs.take (p + 1) = xs.take p ++ [x]) := hid (hx ▸ take_snoc' hpx)
      obtain ⟨V, hV⟩ : ∃ V, V = wr.alloc (.cells (enc x) 29) := ⟨_, rfl⟩
      have hg0 : wr.grownBy V none := hV ▸ World.grownBy_alloc wr _ none
      have HJV := hid (hJ _ _ _ none HJ.out hg0 (fun r e => by cases e))
      have HBV : Hid (Below n₀ W V) := hid (hV ▸ HB.out.alloc (Nat.le_trans hn₀ HB.out.size) _)
      have HKV : Hid (Blk V wr.heap.size 29 (enc x)) := hid (hV ▸ Blk.new wr _ _)
      have HV := hid hV
      obtain ⟨fn, tmps, assign, body, hyy, hR⟩ := hY _ x V HJV.out (by rw [List.length_take]; have := HL.out; omega)
      have HRR := hid hR
      have HK := hid (hk x)
      have H1 := hid (h1c x)
      clear hx hr hV hg0 hR
      gi_wp2_with (first
        | ((show wpListIn _ _ _ _ _ (⟨some 10, _, _, _, _, _⟩ :: _) _ _); go_must (refine wlIn_load_mid (.inl rfl) 29 (.tmp 9) rfl g (o + p * 18) rfl (enc x).toList _ HR.out Tryz.underlying29 rfl (by rw [Array.length_toList, HK.out]; exact Tryz.infoCidrY) rfl rfl ?_))
        | ((show wpListIn _ _ _ _ _ (⟨none, _, _, _, _, _⟩ :: _) _ _); go_must (refine wlIn_store (.inl rfl) 29 (.tmp 4) (.tmp 10) rfl wr.heap.size (enc x) rfl rfl 29 _ (Blk.new wr _ _) 18 Tryz.infoCidrY HK.out.symm rfl H1.out rfl rfl ?_; rw [setRow_new, ← HV.out]))
        | ((show wpListIn _ _ _ _ _ (⟨some 12, _, _, _, _, _⟩ :: _) _ _); go_must (refine wlIn_load (.inl rfl) 29 (.tmp 4) rfl wr.heap.size rfl 29 _ _ HKV.out Tryz.underlying29 rfl 18 Tryz.infoCidrY HK.out.symm rfl rfl ?_)))
      refine HRR.out.mono ?_
      rintro e W3 (⟨rfl, hJ3, hk3⟩ | ⟨rfl, hJx3⟩)
      · have HJ3 := hid hJ3
        have HK3 := hid hk3
        clear hJ3 hk3
        gi_wp2
        go_roundw
        case rel => exact ⟨p + 1, by omega, by simp, hid (by rw [HS.out]; exact HJ3.out), hid (HBV.out.trans HK3.out)⟩
        case measure => simp [intOf]; omega
      · have HJx := hid hJx3
        clear hJx3
        gi_wp2
        refine bodyPost_ret (results_none rfl _ _ _) rfl ?_
        exact ⟨⟨_, rfl⟩, .inr ⟨_, ⟨xs.drop (p + 1), by rw [← HS.out, List.take_append_drop]⟩, HJx.out⟩⟩
    · obtain rfl : p = len := by omega
      have HE : Hid (xs.take p = xs) := hid (List.take_of_length_le (by have := HL.out; omega))
      gi_wp2
      go_end0
      exact ⟨⟨_, rfl⟩, .inl ⟨_, HE.out, HJ.out⟩⟩

set_option maxRecDepth 100000 in
set_option maxHeartbeats 1000000 in
theorem values1_none (n : Nat) (l Bs cap : Nat) (ad : Option Addr) (J : List α → World → Prop) (W : World) (hBs : W.cell? ⟨Bs, 0, none⟩ = some (.slice ad 0 cap)) (h0 : J [] W) :
    CallsIn Fence.wide n Tryz.prog 34 #[.func (.yield l) #[] #[], .pointer (some ⟨Bs, 0, none⟩)] W fun e W' => (∃ v, e = .returned v) ∧ J [] W' := by
  refine callsIn_of_wp Tryz.func34 rfl trivial ?_ rfl
  simp only [Tryz.ntmps34, List.size_toArray, List.length_cons, List.length_nil, Nat.reduceAdd, Nat.reduceSub, Array.replicate_succ, Array.replicate_zero, List.push_toArray, List.append_toArray, List.nil_append, List.cons_append]
  gi_wp2
  gi_loopw [7] (fun i wr => i = .int .i64 0 ∧ J [] wr) (fun _ _ => 0)
  case atStart => exact ⟨rfl, h0⟩
  case round =>
    obtain ⟨rfl, hJs⟩ := hrel
    gi_wp2
    go_end0
    exact ⟨⟨_, rfl⟩, hJs⟩

theorem values_stopsW (hk : ∀ x, (enc x).size = 18) (h1c : ∀ x, (enc x).all (·.oneCell') = true) (n : Nat) (hn : 2 ≤ n) (Bs n₀ cap : Nat) (ad : Option Addr) (xs : List α) (hcap : xs.length ≤ cap) (hm : xs.length ≤ 1000000) (w : World) (hBn : Bs < w.heap.size) (hn₀ : n₀ ≤ w.heap.size)
    (hc : w.cell? ⟨Bs, 0, none⟩ = some (.slice ad xs.length cap)) (hI : Elems enc 18 n₀ w ad xs) :
    SeqStopsK Fence.wide n Tryz.prog 34 #[.pointer (some ⟨Bs, 0, none⟩)] (fun x : α => #[Value.agg (enc x)]) (Below n₀) (fun ys => ys = xs) (fun pre => pre <+: xs) xs.length w := fun l J Jx W hW hJ _ hY h0 => by
  have hc' := (hW.cell (p := ⟨Bs, 0, none⟩) hBn).trans hc
  have hI' := hI.below (hW.mono hn₀)
  by_cases hl : xs.length = 0
  · obtain rfl : xs = [] := List.length_eq_zero_iff.1 hl
    exact (values1_none n l Bs cap ad J W hc' h0).mono fun e W' ⟨he, hj⟩ => ⟨he, .inl ⟨_, rfl, hj⟩⟩
  · obtain ⟨g, o, rfl, hg, _⟩ := hI' 0 (by omega)
    exact values1_w hk h1c n hn l Bs n₀ g o cap xs hcap hm hg J Jx W.heap.size hJ hY W (Nat.le_trans hn₀ hW.size) hc' (fun j hj => by
      obtain ⟨g', o', e, _, h⟩ := hI' j hj
      cases e
      exact h) h0
end
end Go.Proofs.YtijboclcbbnhbaaGreatDoor

namespace Go.Proofs.YtijboclcbbnhbaaGreatDoor
open Go.RowKit Go.Shelf Go.Lib
attribute [local go_sem] Oper.semAt_some

theorem Tryz.info3CidrY : (Tryz.prog.info? 29).map (fun i => (i.size, i.bytes)) = some (18, 32) := by kernel_rfl

theorem Tryz.info4CidrY : (Tryz.prog.info? 29).map (fun i => (i.zero.isSome, i.size)) = some (true, 18) := by kernel_rfl
theorem Tryz.info5CidrY : (Tryz.prog.info? 29).map (fun i => i.zero.map (·.cells.size)) = some (some 18) := by kernel_rfl

section
variable {α : Type} {enc : α → Array Value}

/-- The cells of elements. -/
def flatY (enc : α → Array Value) (xs : List α) : List Value := xs.flatMap fun x => (enc x).toList
theorem flat_snoc (xs : List α) (x : α) : flatY enc (xs ++ [x]) = flatY enc xs ++ (enc x).toList := by simp [flatY]
theorem flat_length (k : Nat) (hk : ∀ x, (enc x).size = k) : ∀ xs : List α, (flatY enc xs).length = xs.length * k
  | [] => by simp [flatY]
  | x :: xs => by
    have := flat_length k hk xs
    simp only [flatY, List.flatMap_cons, List.length_append, Array.length_toList, hk] at this ⊢
    rw [this, List.length_cons, Nat.add_mul]
    omega

theorem exec_lit1 {o : Oper} {a : Act} {w : World} (x : Operand) (ho : o.op = .buildSlice 22 1 #[(0, x)]) (cs : Array Value) (hx : a.eval x = .agg cs) (hk : cs.size = 18) :
    (execOp a.eval o).run Tryz.prog w = .ok (.value (.slice (some ⟨w.heap.size, 0, none⟩) 1 1)) (w.alloc (.cells cs 29)) := by
  obtain ⟨i, hi, h2⟩ := Option.map_eq_some_iff.1 Tryz.info4CidrY
  simp only [Prod.mk.injEq] at h2
  obtain ⟨hz, hs⟩ := h2
  obtain ⟨z, hz⟩ := Option.isSome_iff_exists.1 hz
  have hr := run_buildSlice (P := Tryz.prog) w 22 29 1 #[(0, .agg cs)] cs i z Tryz.underlying22 hi hz (by rw [hs]; decide) (by rw [hs]; decide) (by
    rw [hs]
    have := Great.fill_whole (s := 18) (by decide) [.agg cs] ((Array.range (1 * 18)).map (z.cells[· % z.cells.size]!)) (by simp [Value.cells, hk]) (by simp)
    simpa [Value.cells] using this)
  unfold execOp
  simp only [ho, List.map_toArray, List.map_cons, List.map_nil, hx, Sem.run_bind, hr, Result.andThen_ok, Sem.run_pure]

theorem cells_news {w : World} {cs : Array Value} {t : TypeId} : ∀ j u, cs.toList[j]? = some u → (w.alloc (.cells cs t)).cell? ((⟨w.heap.size, 0, none⟩ : Addr).add j) = some u := fun j u hu => by
  rw [show (⟨w.heap.size, 0, none⟩ : Addr).add j = ⟨w.heap.size, j, none⟩ by unfold Addr.add; split <;> simp_all, (Blk.new w t cs).cell, ← Array.getElem?_toList]
  exact hu

theorem blk_ownf {B : Nat} {X Y : World} {row : Option Nat} {g : Nat} {t : TypeId} {cs : Array Value} (h : Blk X g t cs) (hg : X.grownBy Y row) (hr : ∀ r, row = some r → B ≤ r ∧ ∃ o : Obj, X.heap[r]? = some o ∧ o.isCells = false) : Blk Y g t cs := by
  unfold Blk
  rw [hg.block g h.lt (fun e => ?_)]
  · exact h
  · obtain ⟨_, o, ho, hc⟩ := hr g e.symm
    rw [show X.heap[g]? = _ from h] at ho
    cases ho
    cases hc

def CollEnd (xs : List α) (enc : α → Array Value) (w : World) (e : Ending) (w' : World) : Prop := ∃ v, e = .returned v ∧ w'.ownsRow w.heap.size 29 18 v xs.length (flatY enc xs) ∧ Below w.heap.size w w'

set_option maxRecDepth 100000 in
set_option maxHeartbeats 4000000 in
theorem appendseq_w (hk : ∀ x, (enc x).size = 18) (h1c : ∀ x, (enc x).all (·.oneCell') = true) (n : Nat) (hn : 4 ≤ n) (gf : Nat) (lb : Array Value) (eg : ∀ args w, (callFunc gf args).run Tryz.prog w = .ok (.enter gf args) w) (xs : List α) (hm : xs.length ≤ 100000) (Sp : List α → Prop) (w : World)
    (hseq : ∀ W, Below w.heap.size w W → SeqStopsK Fence.wide (n - 1) Tryz.prog gf lb (fun x : α => #[Value.agg (enc x)]) (Below w.heap.size) (fun ys => ys = xs) Sp xs.length W) :
    CallsIn Fence.wide n Tryz.prog 54 #[.slice none 0 0, .func (.func gf) #[] lb] w (CollEnd xs enc w) := by
  obtain ⟨i0, hi, h2⟩ := Option.map_eq_some_iff.1 Tryz.info3CidrY
  simp only [Prod.mk.injEq] at h2
  obtain ⟨hz1, hz2⟩ := h2
  obtain ⟨z, hz0, hzs⟩ : ∃ z, i0.zero = some z ∧ z.cells.size = 18 := by
    have h5 := Tryz.info5CidrY
    rw [hi] at h5
    simp only [Option.map_some, Option.some.injEq] at h5
    obtain ⟨z, hz, h6⟩ := Option.map_eq_some_iff.1 h5
    exact ⟨z, hz, h6⟩
  refine callsIn_of_wp_marks Tryz.func54 rfl trivial ?_ rfl
  simp only [Tryz.ntmps54, List.size_toArray, List.length_cons, List.length_nil, Nat.reduceAdd, Nat.reduceSub, Array.replicate_succ, Array.replicate_zero, List.push_toArray, List.append_toArray, List.nil_append, List.cons_append]
  gi_wp2
  have bS := Boxed.new w 22 (.slice none 0 0)
  have hB1 : Below w.heap.size w (w.alloc (.cells #[.slice none 0 0] 22)) := (Below.refl _ w).alloc (Nat.le_refl _) _
  refine wpIn_rangeFunc_ownH rfl (by omega) (gf := gf) (lb := lb) rfl trivial eg
    (hseq _ hB1) belowK_t (belowK_b (by simp)) (Below.refl _ _) (fun _ => rfl)
    (fun pre W => (∃ v, Boxed W w.heap.size 22 v ∧ W.ownsRow w.heap.size 29 18 v pre.length (flatY enc pre) ∧ True) ∧ Below w.heap.size w W)
    (fun _ _ _ => False)
    (OwnFrom.and (Own.from (holdsRow_own w.heap.size w.heap.size 22 29 18 (fun pre : List α => pre.length) (fun pre => flatY enc pre) (fun _ _ => True)) _) (ownFrom_below (Nat.le_refl _) (by simp)))
    (fun _ _ _ _ _ hs _ _ => hs)
    ⟨⟨_, bS, ⟨rfl, .inl ⟨rfl, rfl⟩⟩, trivial⟩, hB1⟩
    (fun x a' W => ∃ Bx, w.heap.size < Bx ∧ Blk W Bx 29 (enc x) ∧ a' = { tmps := #[.slice none 0 0, .func (.func gf) #[] lb, .pointer (some ⟨w.heap.size, 0, none⟩), undef, .slice none 0 0, .pointer (some ⟨Bx, 0, none⟩), .func (.func gf) #[] lb, .agg (enc x), undef, undef, undef, undef, undef], defers := [] })
    (fun x a' _ X Y row hs hg hr => by obtain ⟨Bx, h1, h2, h3⟩ := hs; exact ⟨Bx, h1, blk_ownf h2 hg hr, h3⟩)
    ?assign ?body ?done ?stop
  case assign =>
    rintro l pre x W K ⟨⟨v, hv, hrow, _⟩, hB⟩ hK
    have HKx := hid (hk x)
    have H1 := hid (h1c x)
    have HK := hid hK
    have HV := hid hv
    have HRo := hid hrow
    have hlt := hv.lt
    clear hK hv hrow
    gi_wp2_with ((show wpListIn _ _ _ _ _ (⟨none, _, _, _, _, _⟩ :: _) _ _); go_must (refine wlIn_store (.inr ⟨l, rfl⟩) 29 (.tmp 5) (.tmp 7) rfl W.heap.size (enc x) rfl rfl 29 _ (Blk.new W _ _) 18 Tryz.infoCidrY HKx.out.symm rfl H1.out rfl rfl ?_; rw [setRow_new]))
    exact HK.out _ _ ((KeepsOthers.alloc _ _).from _) ((Below.refl _ W).alloc (Nat.le_of_lt hlt) _) ⟨⟨_, HV.out.alloc _, HRo.out.alloc _, trivial⟩, hB.alloc (Nat.le_of_lt hlt) _⟩ ⟨W.heap.size, hlt, Blk.new W _ _, rfl⟩
  case body =>
    rintro l pre x a' W hl hrec ⟨⟨v, hv, hrow, _⟩, hB⟩ ⟨Bx, hBx, bX, rfl⟩ hlt
    have HKx := hid (hk x)
    have H1 := hid (h1c x)
    have HBX := hid bX
    have HRo := hid hrow
    have HV := hid hv
    have HLen : Hid ((enc x).toList.length = 1 * 18) := hid (by rw [Array.length_toList, hk])
    have HOne : Hid (∀ u ∈ (enc x).toList, u.oneCell' = true) := hid (fun u hu => by
      have h := h1c x
      rw [Array.all_eq_true_iff_forall_mem] at h
      exact h u (by simpa using hu))
    have hc := hv.cell
    have hBs := hB.size
    clear hrow hv bX
    gi_wp2_with (first
      | ((show wpListIn _ _ _ _ _ (⟨some 9, _, _, _, _, _⟩ :: _) _ _); go_must (refine wlIn_load (.inr ⟨l, rfl⟩) 29 (.tmp 5) rfl Bx rfl 29 _ _ HBX.out Tryz.underlying29 rfl 18 Tryz.infoCidrY HKx.out.symm rfl rfl ?_))
      | ((show wpListIn _ _ _ _ _ (⟨some 10, _, _, _, _, _⟩ :: _) _ _); go_must (refine wlIn_run (.inr ⟨l, rfl⟩) _ _ (exec_lit1 (.tmp 9) rfl (enc x) rfl HKx.out) rfl rfl ?_))
      | ((show wpListIn _ _ _ _ _ (⟨some 11, _, _, _, _, _⟩ :: _) _ _); go_must (refine wpListIn_append_own _ rfl _ _ 22 rfl w.heap.size 29 i0 z 18 32 Tryz.underlying22 hi hz0 hz1 hz2 hzs (by decide) v pre.length _ rfl (HRo.out.alloc _) ⟨W.heap.size, 0, none⟩ 1 1 (enc x).toList rfl HLen.out cells_news HOne.out (by unfold maxLen; omega) (by omega) (by simp; omega) ?_; intro v' w1 hown' hgrow _; obtain ⟨g', cap', rfl⟩ := ownsRow_succ hown'; obtain ⟨hv1, hv2, hr2, hk2, hb2⟩ := HV.out.appended (by decide) HRo.out hBs (Nat.le_refl _) hown' hgrow; have hc1 := hv1.cell; have hf1 := hv1.frozen)))
    exact ⟨hk2.from _, hb2, ⟨_, hv2, by rw [List.length_append, flat_snoc]; exact hr2, trivial⟩, hB.trans hb2⟩
  case done =>
    rintro D ys W hD rfl ⟨⟨v, hv, hrow, _⟩, hB⟩ hK
    have hc := hv.cell
    have F : Hid (CollEnd ys enc w (.returned v) (W.putObj D (.deferred none))) := hid ⟨v, rfl, ownsRow_putObj hrow _ hK rfl, hB.trans (belowK_b (w := w) (Nat.le_refl _) W D _ _ (by simp at hD; omega) hK rfl rfl)⟩
    clear hrow hv
    gi_wp2
    refine ⟨by simp, .inl ⟨_, _, rfl, run_takeDeferred hK, ?_⟩⟩
    refine ⟨_, results_tmp rfl _ _ _, ?_⟩
    exact F.out
  case stop =>
    rintro D c pre W _ _ h _
    exact h.elim
end
end Go.Proofs.YtijboclcbbnhbaaGreatDoor

namespace Go.Proofs.YtijboclcbbnhbaaGreatDoor
open Go.RowKit Go.Shelf Go.Lib
attribute [local go_sem] Oper.semAt_some

section
variable {α : Type} {enc : α → Array Value}

set_option maxRecDepth 100000 in
set_option maxHeartbeats 1000000 in
theorem collect_any (hk : ∀ x, (enc x).size = 18) (h1c : ∀ x, (enc x).all (·.oneCell') = true) (Bs cap : Nat) (ad : Option Addr) (xs : List α) (hcap : xs.length ≤ cap) (hm : xs.length ≤ 100000) (w : World) (hBs : Bs < w.heap.size)
    (hc : w.cell? ⟨Bs, 0, none⟩ = some (.slice ad xs.length cap)) (hI : Elems enc 18 w.heap.size w ad xs) :
    Calls Tryz.prog 32 #[.func (.func 34) #[] #[.pointer (some ⟨Bs, 0, none⟩)]] w (CollEnd xs enc w) := by
  have h := callsIn_wide.1 (appendseq_w hk h1c 8 (by omega) 34 #[.pointer (some ⟨Bs, 0, none⟩)] (enters_of Tryz.func34 (by kernel_rfl) rfl) xs hm (fun pre => pre <+: xs) w (fun W hW =>
    values_stopsW hk h1c 7 (by omega) Bs w.heap.size cap ad xs hcap (by omega) W (Nat.lt_of_lt_of_le hBs hW.size) hW.size ((hW.cell (p := ⟨Bs, 0, none⟩) hBs).trans hc) (hI.below hW)))
  have H := hid h
  clear h hc hI
  go_enter Tryz.func32, Tryz.ntmps32
  go_wp2_with fail
  refine H.out.mono ?_
  rintro e w1 ⟨v, rfl, ho, hb⟩
  have F : Hid (CollEnd xs enc w (.returned v) w1) := hid ⟨v, rfl, ho, hb⟩
  clear ho hb H
  go_wp2
  go_ret
  exact F.out

theorem values_any (a : Option Addr) (len cap : Nat) (w : World) :
    Calls Tryz.prog 16 #[.slice a len cap] w fun e w' => e = .returned (.func (.func 34) #[] #[.pointer (some ⟨w.heap.size, 0, none⟩)]) ∧ w' = w.alloc (.cells #[.slice a len cap] 22) :=
  callsIn_wide.1 (values_w 2 a len cap w)
end
end Go.Proofs.YtijboclcbbnhbaaGreatDoor

namespace Go.Proofs.YtijboclcbbnhbaaGreatDoor
open Go.RowKit Go.Shelf Go.Lib Go.Sort

section
variable {α : Type} [Inhabited α] {enc : α → Array Value} {encL : α → List Value}

theorem flat_get (k : Nat) (hk : ∀ x, (encL x).length = k) (he : ∀ x, (enc x).toList = encL x) : ∀ (xs : List α) (t : Nat), t < xs.length * k → (flatY enc xs)[t]! = (encL xs[t / k]!)[t % k]!
  | [], t, h => by simp at h
  | x :: xs, t, h => by
    have hf : flatY enc (x :: xs) = encL x ++ flatY enc xs := by simp [flatY, he]
    rw [hf]
    have hk0 : 0 < k := by rcases Nat.eq_zero_or_pos k with h0 | h0; · subst h0; simp at h
                           · exact h0
    have hl := hk x
    by_cases ht : t < k
    · have e1 : t / k = 0 := Nat.div_eq_of_lt ht
      have e2 : t % k = t := Nat.mod_eq_of_lt ht
      rw [e1, e2]
      have h1 : t < (encL x).length := by omega
      have h2 : t < (encL x ++ flatY enc xs).length := by rw [List.length_append]; omega
      show (encL x ++ flatY enc xs)[t]! = (encL x)[t]!
      rw [getElem!_pos _ t h2, getElem!_pos _ t h1, List.getElem_append_left h1]
    · obtain ⟨u, rfl⟩ : ∃ u, t = k + u := ⟨t - k, by omega⟩
      have hu : u < xs.length * k := by simp only [List.length_cons, Nat.add_mul, Nat.one_mul] at h; omega
      have ih := flat_get k hk he xs u hu
      have e1 : (k + u) / k = u / k + 1 := by rw [Nat.add_comm, Nat.add_div_right u hk0]
      have e2 : (k + u) % k = u % k := Nat.add_mod_left k u
      rw [e1, e2]
      show _ = (encL xs[u / k]!)[u % k]!
      rw [← ih]
      simp only [List.getElem!_eq_getElem?_getD]
      rw [List.getElem?_append_right (by omega), hl, Nat.add_sub_cancel_left]

theorem flat_flatK (k : Nat) (hk : ∀ x, (encL x).length = k) (he : ∀ x, (enc x).toList = encL x) (xs : List α) : flatK encL k xs.toArray = (flatY enc xs).toArray := by
  have hl : (flatY enc xs).length = xs.length * k := flat_length k (fun x => by rw [← Array.length_toList, he, hk]) xs
  refine ext_get! (by simp [hl]) fun t ht => ?_
  have ht' : t < xs.length * k := by simpa using ht
  have h1 := get_flatK encL k xs.toArray t (by simpa using ht')
  rw [h1]
  have h2 := flat_get k hk he xs t ht'
  simp only [List.getElem!_toArray]
  rw [h2]

theorem holds_own (k : Nat) (hk : ∀ x, (encL x).length = k) (he : ∀ x, (enc x).toList = encL x) (w : World) (g : Nat) (e : TypeId) (cur : Array Value) (xs : List α)
    (hb : w.heap[g]? = some (.cells cur e (0, 0))) (ht : cur.toList.take (xs.length * k) = flatY enc xs) : HoldsK encL k w g 0 xs.toArray := by
  intro j hj
  have hj' : j < xs.length * k := by simpa using hj
  have hl : (flatY enc xs).length = xs.length * k := flat_length k (fun x => by rw [← Array.length_toList, he, hk]) xs
  have hc : j < cur.size := by
    have := congrArg List.length ht
    rw [hl, List.length_take, show cur.toList.length = cur.size from rfl] at this
    omega
  rw [flat_flatK k hk he]
  have h2 : (flatY enc xs).toArray[j]! = cur[j] := by
    have h3 : j < (flatY enc xs).length := by omega
    rw [List.getElem!_toArray, getElem!_pos _ j h3]
    have h4 : (flatY enc xs)[j]? = some cur[j] := by
      rw [← ht, List.getElem?_take_of_lt hj', Array.getElem?_toList, Array.getElem?_eq_getElem hc]
    rw [List.getElem?_eq_getElem h3] at h4
    exact Option.some.inj h4
  rw [h2, Nat.zero_add]
  constructor
  · unfold World.cell?
    simp [hb, hc]
  · unfold World.frozen?
    simp [hb]

theorem own_sorted (k : Nat) (hk : ∀ x, (encL x).length = k) (he : ∀ x, (enc x).toList = encL x) (w : World) (g : Nat) (e : TypeId) (cur : Array Value) (d : List α) (m : Nat) (os : Array Obj)
    (hb : w.heap[g]? = some (.cells cur e (0, 0))) (hc : d.length * k ≤ cur.size) :
    (∃ cur', (sortWorldK encL k w g 0 m d.toArray os).heap[g]? = some (.cells cur' e (0, 0)) ∧ cur'.size = cur.size ∧ cur'.toList.take (d.length * k) = flatY enc d ∧ cur'.toList.drop (d.length * k) = cur.toList.drop (d.length * k)) ∧ ∀ n, n ≤ g → Below n w (sortWorldK encL k w g 0 m d.toArray os) := by
  have hl : (flatY enc d).length = d.length * k := flat_length k (fun x => by rw [← Array.length_toList, he, hk]) d
  have hz : g < w.heap.size := by
    rcases Nat.lt_or_ge g w.heap.size with h | h
    · exact h
    · rw [Array.getElem?_eq_none h] at hb; exact absurd hb (by simp)
  obtain ⟨F, hF⟩ : ∃ F, F = (flatY enc d).toArray := ⟨_, rfl⟩
  have hFs : F.size = d.length * k := by rw [hF]; simpa using hl
  have hw : sortWorldK encL k w g 0 m d.toArray os = { w with heap := (w.heap.modify g (onCells (putCells id 0 F))) ++ os, drawn := w.drawn + m } := by
    unfold sortWorldK putRowK
    rw [flat_flatK k hk he, ← hF]
    rfl
  constructor
  · refine ⟨putCells id 0 F cur, ?_, by simp [putCells], ?_, ?_⟩
    · rw [hw]
      show (w.heap.modify g (onCells (putCells id 0 F)) ++ os)[g]? = _
      rw [Array.getElem?_append_left (by simpa using hz), Array.getElem?_modify, if_pos rfl, hb]
      rfl
    · apply List.ext_getElem?
      intro i
      by_cases hi : i < d.length * k
      · rw [List.getElem?_take_of_lt hi, Array.getElem?_toList]
        unfold putCells
        rw [Array.getElem?_mapIdx, Array.getElem?_eq_getElem (by omega)]
        have h3 : i < (flatY enc d).length := by omega
        rw [Option.map_some, if_pos ⟨Nat.zero_le _, by omega⟩, Nat.sub_zero, hF, List.getElem!_toArray, getElem!_pos _ i h3, List.getElem?_eq_getElem h3]
        rfl
      · rw [List.getElem?_eq_none (by rw [List.length_take]; omega), List.getElem?_eq_none (by omega)]
    · apply List.ext_getElem?
      intro i
      rw [List.getElem?_drop, List.getElem?_drop, Array.getElem?_toList, Array.getElem?_toList]
      unfold putCells
      rw [Array.getElem?_mapIdx]
      cases cur[d.length * k + i]? with
      | none => rfl
      | some x => rw [Option.map_some, if_neg (by omega)]
  · intro n hn
    rw [hw]
    refine ⟨rfl, rfl, rfl, ?_, fun i hi => ?_⟩
    · show w.heap.size ≤ (w.heap.modify g (onCells (putCells id 0 F)) ++ os).size
      simp
    · show (w.heap.modify g (onCells (putCells id 0 F)) ++ os)[i]? = w.heap[i]?
      rw [Array.getElem?_append_left (by simp; omega), Array.getElem?_modify, if_neg (by omega)]
end
end Go.Proofs.YtijboclcbbnhbaaGreatDoor
