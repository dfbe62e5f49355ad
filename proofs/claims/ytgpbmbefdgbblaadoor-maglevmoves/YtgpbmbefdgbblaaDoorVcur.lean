/-
  stride: the cursor; the example of layer 9.
-/
import Derived.Test.YtgpbmbefdgbblaaDoorVral
namespace Go.Proofs.YtgpbmbefdgbblaaDoor
open Go.RowKit Go.Lib

/-- A cursor of no right stride, of which d places were asked. -/
def CurNo (W : World) (c : Nat) (d : Int) : Prop := Blk W c 100 #[.func (.func 78) #[] #[], .int .i64 d]
/-- A cursor of a right stride, of which d places were asked. -/
def CurYes (W : World) (c b : Nat) (m o k d : Int) : Prop := Blk W c 100 #[.func (.func 79) #[] #[.pointer (some ⟨b, 0, none⟩)], .int .i64 d] ∧ b ≠ c ∧ Blk W b 74 #[.int .i64 m, .int .i64 o, .int .i64 k]

set_option maxHeartbeats 2000000 in
theorem cursor_no (m o k : Int) (h : rightS m o k = false) (w : World) : Calls Tryd.prog 45 #[.agg #[.int .i64 m, .int .i64 o, .int .i64 k]] w fun e w' => ∃ c, e = .returned (.pointer (some ⟨c, 0, none⟩)) ∧ w.heap.size ≤ c ∧ CurNo w' c 0 ∧ Below w.heap.size w w' := by
  have HO := hid (fun W => order_no m o k h W)
  have HB : Hid (Below w.heap.size w (w.alloc (.cells #[.int .i64 m, .int .i64 o, .int .i64 k] 74))) := hid ((Below.refl _ w).alloc (Nat.le_refl _) _)
  clear h
  go_enter Tryd.func45, Tryd.ntmps45
  go_wp2_with fail
  refine (HO.out _).mono ?_
  rintro e w1 ⟨rfl, hb⟩
  have Hb := hid (bel2 HB.out hb)
  clear hb
  go_wp2
  go_ret
  exact ⟨w1.heap.size, rfl, Hb.out.size, Blk.new _ _ _, Hb.out.alloc Hb.out.size _⟩

set_option maxHeartbeats 2000000 in
theorem cursor_yes (m o k : Int) (h : rightS m o k = true) (w : World) : Calls Tryd.prog 45 #[.agg #[.int .i64 m, .int .i64 o, .int .i64 k]] w fun e w' => ∃ c b, e = .returned (.pointer (some ⟨c, 0, none⟩)) ∧ w.heap.size ≤ c ∧ w.heap.size ≤ b ∧ CurYes w' c b m o k 0 ∧ Below w.heap.size w w' := by
  have HO := hid (fun W => order_yes m o k h W)
  have HB : Hid (Below w.heap.size w (w.alloc (.cells #[.int .i64 m, .int .i64 o, .int .i64 k] 74))) := hid ((Below.refl _ w).alloc (Nat.le_refl _) _)
  clear h
  go_enter Tryd.func45, Tryd.ntmps45
  go_wp2_with fail
  refine (HO.out _).mono ?_
  rintro e w1 ⟨rfl, hB, hb⟩
  have Hb := hid (bel2 HB.out hb)
  rw [World.size_alloc] at hB
  have HB1 := hid hB
  clear hb hB
  go_wp2
  go_ret
  exact ⟨w1.heap.size, w.heap.size + 1, rfl, Hb.out.size, Nat.le_succ _, ⟨Blk.new _ _ _, Nat.ne_of_lt HB1.out.lt, HB1.out.alloc _⟩, Hb.out.alloc Hb.out.size _⟩


theorem grown_set (w : World) (c i : Nat) (v : Value) : w.grownBy (w.setCell ⟨c, i, none⟩ v) (some c) :=
  ⟨rfl, rfl, rfl, by simp [World.setCell], fun j _ hne => Below.heap_setCell w _ v j (by rintro rfl; exact hne rfl)⟩
theorem grown_below {w w1 w2 : World} {c : Nat} (h : w.grownBy w1 (some c)) (hb : Below w1.heap.size w1 w2) : w.grownBy w2 (some c) :=
  ⟨hb.os.trans h.os, hb.tape.trans h.tape, hb.output.trans h.output, Nat.le_trans h.size hb.size, fun j hj hne => (hb.block j (Nat.lt_of_lt_of_le hj h.size)).trans (h.block j hj hne)⟩

theorem fn_nil (f : Fn) (cs : Array Value) (w : World) : (binOp .eql 64 (.func f #[] cs) .nilFunc).run Tryd.prog w = .ok (.bool false) w := by kernel_rfl

set_option maxRecDepth 100000 in
set_option maxHeartbeats 4000000 in
theorem next_no (c : Nat) (d : Int) (hd : 0 ≤ d ∧ d ≤ 1000000) (w : World) (h : CurNo w c d) : Calls Tryd.prog 47 #[.pointer (some ⟨c, 0, none⟩)] w fun e w' => e = .returned (.int .i64 (-1)) ∧ CurNo w' c (d + 1) ∧ w.grownBy w' (some c) := by
  have c0 : w.cell? ⟨c, 0, none⟩ = some (.func (.func 78) #[] #[]) := Blk.cell h 0
  have c1 : w.cell? ⟨c, 1, none⟩ = some (.int .i64 d) := Blk.cell h 1
  have f1 : w.frozen? ⟨c, 1, none⟩ = false := Blk.frozen h 1
  have HN : Hid (CurNo (w.setCell ⟨c, 1, none⟩ (.int .i64 (d + 1))) c (d + 1)) := hid (Blk.set h 1 _)
  have HG := hid (grown_set w c 1 (.int .i64 (d + 1)))
  have HP := hid (fun W => placeno_any d W)
  have hq := fn_nil (.func 78) #[] (w.setCell ⟨c, 1, none⟩ (.int .i64 (d + 1)))
  clear h
  go_enter Tryd.func47, Tryd.ntmps47
  go_wp2_with fail
  refine (HP.out _).mono ?_
  rintro e w2 ⟨rfl, rfl⟩
  go_wp2
  go_ret
  exact ⟨rfl, HN.out, HG.out⟩

set_option maxRecDepth 100000 in
set_option maxHeartbeats 4000000 in
theorem next_yes (c b : Nat) (m o k d : Int) (hr : rightS m o k = true) (hd : 0 ≤ d ∧ d ≤ 1000000) (w : World) (h : CurYes w c b m o k d) : Calls Tryd.prog 47 #[.pointer (some ⟨c, 0, none⟩)] w fun e w' => e = .returned (.int .i64 (plc m o k d)) ∧ CurYes w' c b m o k (d + 1) ∧ w.grownBy w' (some c) := by
  have c0 : w.cell? ⟨c, 0, none⟩ = some (.func (.func 79) #[] #[.pointer (some ⟨b, 0, none⟩)]) := Blk.cell h.1 0
  have c1 : w.cell? ⟨c, 1, none⟩ = some (.int .i64 d) := Blk.cell h.1 1
  have f1 : w.frozen? ⟨c, 1, none⟩ = false := Blk.frozen h.1 1
  have HN : Hid (CurYes (w.setCell ⟨c, 1, none⟩ (.int .i64 (d + 1))) c b m o k (d + 1)) := hid ⟨Blk.set h.1 1 _, h.2.1, Blk.setOther h.2.2 h.2.1 _ _⟩
  have HG := hid (grown_set w c 1 (.int .i64 (d + 1)))
  have HP := hid (fun W hB => placeyes_any m o k d hr b W hB)
  have hq := fn_nil (.func 79) #[.pointer (some ⟨b, 0, none⟩)] (w.setCell ⟨c, 1, none⟩ (.int .i64 (d + 1)))
  clear h hr
  generalize plc m o k d = z at *
  go_enter Tryd.func47, Tryd.ntmps47
  go_wp2_with fail
  refine (HP.out _ HN.out.2.2).mono ?_
  rintro e w2 ⟨rfl, hb⟩
  have Hb := hid hb
  clear hb
  go_wp2
  go_ret
  exact ⟨rfl, ⟨HN.out.1.kept Hb.out, HN.out.2.1, HN.out.2.2.kept Hb.out⟩, grown_below HG.out Hb.out⟩

theorem prm_seven : Prm 7 := ⟨by omega, fun d h1 h2 => by
  have h : d = 2 ∨ d = 3 ∨ d = 4 ∨ d = 5 ∨ d = 6 := by omega
  rcases h with rfl | rfl | rfl | rfl | rfl <;> omega⟩
theorem rightS_seven : rightS 7 3 2 = true := (rightS_iff 7 3 2).2 ⟨by omega, (isP_iff 7).2 ⟨by omega, by omega, prm_seven⟩, by omega, by omega, by omega, by omega⟩

end Go.Proofs.YtgpbmbefdgbblaaDoor
