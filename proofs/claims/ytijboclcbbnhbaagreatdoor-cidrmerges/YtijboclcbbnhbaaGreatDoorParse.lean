/-
  The walk of addr.Parse.
-/
import Derived.Test.YtijboclcbbnhbaaGreatDoorSixq
import Derived.RegionTactic
namespace Go.Proofs.YtijboclcbbnhbaaGreatDoor
open Go.RowKit

section
variable {P : Program} {ops : Array Oper} {o : Oper} {a : Act} {w : World} {K : Act → World → Prop} {Q : Exit → Act → World → Prop} {E : Prop}
/-- The store of an aggregate into a block that is known whole, as a step of a region that draws its order. -/
theorem step_store (ty : TypeId) (x y : Operand) (ho : o.op = .store ty x y)
    (g : Nat) (cells : Array Value) (hx : a.eval x = .pointer (some ⟨g, 0, none⟩)) (hy : a.eval y = .agg cells)
    (t : TypeId) (old : Array Value) (hg : Blk w g t old) (n : Nat) (hi : (P.info? ty).map (·.size) = some n) (hn : n = cells.size)
    (hold : old.size = n) (h1 : cells.all (·.oneCell') = true) (hw : Region.wanted o (yielded ops a.tmps) = true)
    (h : K (a.put o.dst undef) (w.setRow g cells)) : if Region.wanted o (yielded ops a.tmps) = true then Oper.wp P o a w K Q else E := by
  rw [if_pos hw]
  exact wp_store_row ty x y ho g cells hx hy t old hg (hn ▸ hi) (hold.trans hn) h1 h
/-- Any operation whose run is known. -/
theorem step_run (v : Value) (w' : World) (hrun : (execOp a.eval o).run P w = .ok (.value v) w') (hw : Region.wanted o (yielded ops a.tmps) = true)
    (h : K (a.put o.dst v) w') : if Region.wanted o (yielded ops a.tmps) = true then Oper.wp P o a w K Q else E := by
  rw [if_pos hw]
  unfold Oper.wp
  rw [hrun, Oper.upon_value]
  exact h
end

/-- What a text is: an address, or none. -/
def parsed (l : List UInt8) : Option (Bool × List Int) :=
  if 0 ≤ Lib.indexByte l 58 then (six l).map fun g => (true, (by2 g).map (fun k : Nat => (k : Int))) else (four l).map fun ns => (false, rowOf ns 16)

def ParseEnd (E : Value) (r : Option (Bool × List Int)) (w : World) (e : Ending) (w' : World) : Prop :=
  (match r with
   | some (s, b) => e = .returned (.tuple #[.agg (adr s b), .nilIface])
   | none => e = .returned (.tuple #[.agg (adr false z16), E])) ∧ Below w.heap.size w w'

set_option maxRecDepth 100000 in
set_option maxHeartbeats 4000000 in
theorem parse_yes (s : ByteArray) (c : Bool) (sx : Bool) (b : List Int) (hl : b.length = 16) (E : Value) (w : World) (hE : Env E w)
    (hc : decide (0 ≤ Lib.indexByte s.data.toList 58) = c)
    (h1 : ∀ w, Env E w → Calls Tryz.prog (if c then 45 else 43) #[.string s] w (AddrEnd sx b true w)) :
    Calls Tryz.prog 27 #[.string s] w (ParseEnd E (some (sx, b)) w) := by
  obtain ⟨W0, hW0⟩ : ∃ W, W = w.alloc (.cells (adr false z16) 25) := ⟨_, rfl⟩
  have hB0 : Blk W0 w.heap.size 25 (adr false z16) := hW0 ▸ Blk.new w _ _
  have hb0 : Below w.heap.size w W0 := hW0 ▸ (Below.refl _ _).alloc (Nat.le_refl _) _
  have HW0 : Hid (w.alloc (.cells #[.bool false, .int .u8 0, .int .u8 0, .int .u8 0, .int .u8 0, .int .u8 0, .int .u8 0, .int .u8 0, .int .u8 0, .int .u8 0, .int .u8 0, .int .u8 0, .int .u8 0, .int .u8 0, .int .u8 0, .int .u8 0, .int .u8 0] 25) = W0) := Lib.hid hW0.symm
  have HC : Hid (∀ w, Calls Tryz.prog 44 #[.string s, .string ⟨#[58]⟩] w fun e w' => e = .returned (.bool c) ∧ w = w') := Lib.hid fun w => by
    refine (Tryz.strings_Contains_one s 58 w).mono ?_
    rintro e w' ⟨rfl, rfl⟩
    rw [hc]
    exact ⟨rfl, rfl⟩
  have H1 := Lib.hid h1
  have HE := Lib.hid hE
  have HB0 := Lib.hid hB0
  have HL := Lib.hid hl
  clear hc h1 hE hW0 hB0 hl
  cases c
  all_goals
    go_enter Tryz.func27, Tryz.ntmps27
    go_wp2_with fail
    rw [HW0.out]
    refine (HC.out W0).mono ?_
    rintro e w1 ⟨rfl, rfl⟩
    go_wp2_with fail
    refine (H1.out W0 (HE.out.kept hb0)).mono ?_
    rintro e w2 ⟨rfl, hb2⟩
    have HB2 := Lib.hid (HB0.out.kept hb2)
    obtain ⟨W3, hW3⟩ : ∃ W, W = w2.alloc (.cells (adr false z16) 25) := ⟨_, rfl⟩
    have hB3 : Blk W3 w2.heap.size 25 (adr false z16) := hW3 ▸ Blk.new w2 _ _
    have hb3 : Below w2.heap.size w2 W3 := hW3 ▸ (Below.refl _ _).alloc (Nat.le_refl _) _
    have HW3 : Hid (w2.alloc (.cells #[.bool false, .int .u8 0, .int .u8 0, .int .u8 0, .int .u8 0, .int .u8 0, .int .u8 0, .int .u8 0, .int .u8 0, .int .u8 0, .int .u8 0, .int .u8 0, .int .u8 0, .int .u8 0, .int .u8 0, .int .u8 0, .int .u8 0] 25) = W3) := Lib.hid hW3.symm
    have HB3 := Lib.hid hB3
    have HSz : Hid (17 = (adr sx b).size) := Lib.hid (by rw [adr_size, HL.out])
    have HB4 : Hid (Blk (W3.setRow w2.heap.size (adr sx b)) w2.heap.size 25 (adr sx b)) := Lib.hid (hB3.row _)
    have hne : w.heap.size ≠ w2.heap.size := Nat.ne_of_lt HB2.out.lt
    have HB5 : Hid (Blk (W3.setRow w2.heap.size (adr sx b)) w.heap.size 25 (adr false z16)) := Lib.hid ((HB2.out.kept hb3).rowOther hne _)
    have Hb5 : Hid (Below w.heap.size w (W3.setRow w2.heap.size (adr sx b))) := Lib.hid (below_setRow (bel2 (bel2 hb0 hb2) hb3) (Nat.le_of_lt HB2.out.lt) _)
    clear hB3 hW3 hne
    go_wp2_with ((try rw [HW3.out]); first | (refine wpl_store 25 _ _ rfl _ (adr sx b) rfl rfl _ _ HB3.out 17 Tryz.infoAddr HSz.out rfl (adr_one _ _) rfl ?_) | (refine wpl_load 25 _ rfl _ rfl _ _ _ HB4.out Tryz.underlying25 rfl 17 Tryz.infoAddr HSz.out rfl ?_) | (refine wpl_store 25 _ _ rfl _ (adr sx b) rfl rfl _ _ HB5.out 17 Tryz.infoAddr HSz.out rfl (adr_one _ _) rfl ?_))
    exact retA2 rfl w.heap.size rfl _ _ _ (HB5.out.row _) Tryz.underlying25 rfl 17 Tryz.infoAddr HSz.out rfl _ rfl ⟨rfl, below_setRow Hb5.out (Nat.le_refl _) _⟩

set_option maxRecDepth 100000 in
set_option maxHeartbeats 4000000 in
theorem parse_no (s : ByteArray) (c : Bool) (E : Value) (w : World) (hE : Env E w)
    (hc : decide (0 ≤ Lib.indexByte s.data.toList 58) = c)
    (h1 : ∀ w, Env E w → Calls Tryz.prog (if c then 45 else 43) #[.string s] w (AddrEnd false z16 false w)) :
    Calls Tryz.prog 27 #[.string s] w (ParseEnd E none w) := by
  obtain ⟨W0, hW0⟩ : ∃ W, W = w.alloc (.cells (adr false z16) 25) := ⟨_, rfl⟩
  have hB0 : Blk W0 w.heap.size 25 (adr false z16) := hW0 ▸ Blk.new w _ _
  have hb0 : Below w.heap.size w W0 := hW0 ▸ (Below.refl _ _).alloc (Nat.le_refl _) _
  have HW0 : Hid (w.alloc (.cells #[.bool false, .int .u8 0, .int .u8 0, .int .u8 0, .int .u8 0, .int .u8 0, .int .u8 0, .int .u8 0, .int .u8 0, .int .u8 0, .int .u8 0, .int .u8 0, .int .u8 0, .int .u8 0, .int .u8 0, .int .u8 0, .int .u8 0] 25) = W0) := Lib.hid hW0.symm
  have HC : Hid (∀ w, Calls Tryz.prog 44 #[.string s, .string ⟨#[58]⟩] w fun e w' => e = .returned (.bool c) ∧ w = w') := Lib.hid fun w => by
    refine (Tryz.strings_Contains_one s 58 w).mono ?_
    rintro e w' ⟨rfl, rfl⟩
    rw [hc]
    exact ⟨rfl, rfl⟩
  have H1 := Lib.hid h1
  have HE := Lib.hid hE
  have HB0 := Lib.hid hB0
  clear hc h1 hE hW0 hB0
  cases c
  all_goals
    go_enter Tryz.func27, Tryz.ntmps27
    go_wp2_with fail
    rw [HW0.out]
    refine (HC.out W0).mono ?_
    rintro e w1 ⟨rfl, rfl⟩
    go_wp2_with fail
    refine (H1.out W0 (HE.out.kept hb0)).mono ?_
    rintro e w2 ⟨rfl, hb2⟩
    have HB2 := Lib.hid (HB0.out.kept hb2)
    obtain ⟨W3, hW3⟩ : ∃ W, W = w2.alloc (.cells (adr false z16) 25) := ⟨_, rfl⟩
    have hB3 : Blk W3 w2.heap.size 25 (adr false z16) := hW3 ▸ Blk.new w2 _ _
    have hb3 : Below w2.heap.size w2 W3 := hW3 ▸ (Below.refl _ _).alloc (Nat.le_refl _) _
    have HW3 : Hid (w2.alloc (.cells #[.bool false, .int .u8 0, .int .u8 0, .int .u8 0, .int .u8 0, .int .u8 0, .int .u8 0, .int .u8 0, .int .u8 0, .int .u8 0, .int .u8 0, .int .u8 0, .int .u8 0, .int .u8 0, .int .u8 0, .int .u8 0, .int .u8 0] 25) = W3) := Lib.hid hW3.symm
    have HB3 := Lib.hid hB3
    obtain ⟨V, hV⟩ : ∃ V, V = W3.setRow w2.heap.size (adr false z16) := ⟨_, rfl⟩
    have HV := Lib.hid hV.symm
    have hne : w.heap.size ≠ w2.heap.size := Nat.ne_of_lt HB2.out.lt
    have HB5 : Hid (Blk V w.heap.size 25 (adr false z16)) := Lib.hid (hV ▸ (HB2.out.kept hb3).rowOther hne _)
    have Hb5 : Hid (Below w.heap.size w V) := Lib.hid (hV ▸ below_setRow (bel2 (bel2 hb0 hb2) hb3) (Nat.le_of_lt HB2.out.lt) _)
    have HB5d : Hid (Blk V.drew w.heap.size 25 (adr false z16)) := Lib.hid HB5.out
    have hform : V.cell? ⟨0, 0, none⟩ = some E := (HE.out.kept Hb5.out).form
    clear hB3 hW3 hne hV
    go_wp2_with ((try rw [HW3.out]); refine wpl_store 25 _ _ rfl _ (adr false z16) rfl rfl _ _ HB3.out 17 Tryz.infoAddr rfl rfl (adr_one _ _) rfl ?_)
    rw [HV.out]
    have HB5d : Hid (Blk V.drew w.heap.size 25 (adr false z16)) := Lib.hid HB5.out
    refine wp_region_any (by kernel_rfl) ?_
    change wpAny _ _ _ _ _ _ _ (World.drew _)
    refine wpAny_take (i := 0) (v := .agg (adr false z16)) rfl (by kernel_rfl) (by kernel_rfl) (by kernel_rfl) (fun _ _ _ h => h) (Or.inl ⟨by rfl, fun w => by kernel_rfl⟩) ?_
    refine wpAny_ready (rs := [1, 2]) (by kernel_rfl) (by simp) ?_
    refine AllReady.cons rfl (fun K hK => ?_) (AllReady.cons rfl (fun K hK => ?_) AllReady.nil)
    · refine step_run E V.drew (by go_simp) rfl (hK _ _ ?_)
      refine wpAny_ready (rs := [2]) (by kernel_rfl) (by simp) ?_
      refine AllReady.cons rfl (fun K hK => ?_) AllReady.nil
      refine step_store 25 (.tmp 2) (.tmp 17) rfl w.heap.size (adr false z16) rfl rfl 25 (adr false z16) HB5d.out 17 Tryz.infoAddr rfl rfl (adr_one _ _) rfl (hK _ _ ?_)
      refine wpAny_ready (rs := [3]) (by kernel_rfl) (by simp) ?_
      refine AllReady.cons rfl (fun K hK => ?_) AllReady.nil
      refine step_run E _ rfl rfl (hK _ _ ?_)
      refine wpAny_done (by kernel_rfl) ?_ _
      go_wp2
      exact retA2 rfl w.heap.size rfl _ _ _ (HB5d.out.row _) Tryz.underlying25 rfl 17 Tryz.infoAddr rfl rfl _ rfl ⟨rfl, below_setRow (bel2 Hb5.out (below_drewN V 1)) (Nat.le_refl _) _⟩
    · refine step_store 25 (.tmp 2) (.tmp 17) rfl w.heap.size (adr false z16) rfl rfl 25 (adr false z16) HB5d.out 17 Tryz.infoAddr rfl rfl (adr_one _ _) rfl (hK _ _ ?_)
      refine wpAny_ready (rs := [1]) (by kernel_rfl) (by simp) ?_
      refine AllReady.cons rfl (fun K hK => ?_) AllReady.nil
      have hform2 : (V.drew.setRow w.heap.size (adr false z16)).cell? ⟨0, 0, none⟩ = some E := (HE.out.kept (below_setRow (bel2 Hb5.out (below_drewN V 1)) (Nat.le_refl _) _)).form
      refine step_run E (V.drew.setRow w.heap.size (adr false z16)) (by go_simp) rfl (hK _ _ ?_)
      refine wpAny_ready (rs := [3]) (by kernel_rfl) (by simp) ?_
      refine AllReady.cons rfl (fun K hK => ?_) AllReady.nil
      refine step_run E _ rfl rfl (hK _ _ ?_)
      refine wpAny_done (by kernel_rfl) ?_ _
      go_wp2
      exact retA2 rfl w.heap.size rfl _ _ _ (HB5d.out.row _) Tryz.underlying25 rfl 17 Tryz.infoAddr rfl rfl _ rfl ⟨rfl, below_setRow (bel2 Hb5.out (below_drewN V 1)) (Nat.le_refl _) _⟩
end Go.Proofs.YtijboclcbbnhbaaGreatDoor
