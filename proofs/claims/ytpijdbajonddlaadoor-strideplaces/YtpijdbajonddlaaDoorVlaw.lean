/-
  The law StrideOf at every input.
-/
import Derived.Test.YtpijdbajonddlaaDoorVof
import Derived.Test.YtpijdbajonddlaaDoorNerr
namespace Go.Proofs.YtpijdbajonddlaaDoor
open Go.RowKit Go.Lib

theorem Tryd.fieldsStride : Tryd.prog.underlying 25 = some (.struct (Tryd.prog.fieldsOf 25)) := by kernel_rfl
theorem Tryd.heldStride : Tryd.prog.stoodInHeld 25 = false := by kernel_rfl
theorem Tryd.listStride : (Tryd.prog.fieldsOf 25).toList.map (fun f => (f.name == "_", f.type, f.offset)) = [(false, 3, 0), (false, 3, 1), (false, 3, 2)] := by kernel_rfl

theorem equalIn_stride (d : Nat) (a b c : Int) (w : World) :
    (Op.equalIn (d + 2) 25 (.agg #[.int .i64 a, .int .i64 b, .int .i64 c]) (.agg #[.int .i64 a, .int .i64 b, .int .i64 c])).run Tryd.prog w = .ok true w := by
  rw [run_equalIn_struct w (d + 1) 25 _ _ Tryd.fieldsStride Tryd.heldStride]
  have hl := Tryd.listStride
  generalize (Tryd.prog.fieldsOf 25).toList = l at hl ⊢
  have h2 : l.length = 3 := by simpa using congrArg List.length hl
  obtain ⟨f, g, h, rfl⟩ : ∃ f g h, l = [f, g, h] := by
    cases l with
    | nil => simp at h2
    | cons f l =>
      cases l with
      | nil => simp at h2
      | cons g l =>
        cases l with
        | nil => simp at h2
        | cons h l =>
          cases l with
          | nil => exact ⟨f, g, h, rfl⟩
          | cons _ _ => simp at h2
  simp only [List.map_cons, List.map_nil, List.cons.injEq, Prod.mk.injEq, and_true, beq_eq_false_iff_ne] at hl
  obtain ⟨⟨f1, f2, f3⟩, ⟨g1, g2, g3⟩, h1, h2, h3⟩ := hl
  have p1 : (part 3 #[.int .i64 a, .int .i64 b, .int .i64 c] 0).run Tryd.prog w = .ok (.int .i64 a) w := by simp [part, isAgg, run_underlying Tryd.underlying3]
  have p2 : (part 3 #[.int .i64 a, .int .i64 b, .int .i64 c] 1).run Tryd.prog w = .ok (.int .i64 b) w := by simp [part, isAgg, run_underlying Tryd.underlying3]
  have p3 : (part 3 #[.int .i64 a, .int .i64 b, .int .i64 c] 2).run Tryd.prog w = .ok (.int .i64 c) w := by simp [part, isAgg, run_underlying Tryd.underlying3]
  have e1 : ∀ x : Int, (Op.equalIn (d + 1) 3 (.int .i64 x) (.int .i64 x)).run Tryd.prog w = .ok true w := fun x => by
    simp [Op.equalIn, run_underlying Tryd.underlying3]
  rw [Op.eqFields, if_pos f1, f2, f3]
  simp only [Sem.run_bind, p1, Result.andThen_ok, e1, Sem.run_ite, Sem.run_pure]
  rw [if_neg (by simp), Op.eqFields, if_pos g1, g2, g3]
  simp only [Sem.run_bind, p2, Result.andThen_ok, e1, Sem.run_ite, Sem.run_pure]
  rw [if_neg (by simp), Op.eqFields, if_pos h1, h2, h3]
  simp only [Sem.run_bind, p3, Result.andThen_ok, e1, Sem.run_ite, Sem.run_pure]
  rw [if_neg (by simp), Op.eqFields, Sem.run_pure]
theorem eql_stride (a b c : Int) (w : World) :
    (binOp .eql 25 (.agg #[.int .i64 a, .int .i64 b, .int .i64 c]) (.agg #[.int .i64 a, .int .i64 b, .int .i64 c])).run Tryd.prog w = .ok (.bool true) w := by
  rw [run_eql_struct, equalIn_stride 9998]
  rfl

set_option maxHeartbeats 1000000 in
theorem lof_long (m : Int) (ad : Option Addr) (cap len : Nat) (hl : 500 < len) (w : World) : Calls Tryd.prog 3 #[.slice ad len cap, .int .i64 m] w fun e w' => e = .returned (.bool true) ∧ Below w.heap.size w w' := by
  have HA := hid (salive_any w)
  go_enter Tryd.func3, Tryd.ntmps3
  go_wp2_with fail
  refine HA.out.mono ?_
  rintro e w1 ⟨rfl, hb⟩
  have Hb := hid hb
  clear hb
  go_wp2
  go_ret
  exact ⟨rfl, Hb.out⟩

set_option maxRecDepth 100000 in
set_option maxHeartbeats 4000000 in
theorem lof_no (m : Int) (h : sizedB m = false) (ad : Option Addr) (cap len : Nat) (hl : len ≤ 500) (w : World) (ae : Nat → Addr) (hA : Errs 18 ae w) : Calls Tryd.prog 3 #[.slice ad len cap, .int .i64 m] w fun e w' => e = .returned (.bool true) ∧ Below w.heap.size w w' := by
  have HL := hid (salive_any w)
  have HE0 : Hid (w.cell? ⟨0, 0, none⟩ = some (.iface 81 (.pointer (some (ae 0))))) := hid (hA.cell 0 (by omega))
  have HN0 := hid (fun W h => num_err ae 0 (by omega) W h)
  have HO := hid (fun W hE => sof_no m h ad cap len W 81 (.pointer (some (ae 0))) hE)
  have HS := hid (fun W => h ▸ rsized_any m W)
  have HA := hid hA
  have hq := fun W => eql_stride 0 0 0 W
  clear hA h
  go_enter Tryd.func3, Tryd.ntmps3
  go_wp2_with fail
  refine HL.out.mono ?_
  rintro e w1 ⟨rfl, hb⟩
  have Hb := hid hb
  clear hb
  go_wp2_with fail
  refine (HO.out _ (cell_stays HE0.out Hb.out)).mono ?_
  rintro e w2 ⟨rfl, hb⟩
  have Hb2 := hid (bel2 Hb.out hb)
  have Hb3 := hid (Hb2.out.alloc Hb2.out.size (.cells #[.int .i64 0, .int .i64 0, .int .i64 0] 25))
  clear hb
  go_wp2_with fail
  refine (HS.out _).mono ?_
  rintro e w3 ⟨rfl, rfl⟩
  go_wp2_with fail
  refine (HN0.out _ (HA.out.below Hb3.out)).mono ?_
  rintro e w4 ⟨rfl, hb⟩
  have Hb4 := hid (bel2 Hb3.out hb)
  clear hb
  go_wp2
  go_ret
  exact ⟨rfl, Hb4.out⟩

set_option maxRecDepth 100000 in
set_option maxHeartbeats 4000000 in
theorem lof_yes (m : Int) (h : sizedB m = true) (ad : Option Addr) (cap : Nat) (bs : List Int) (hby : Byt bs) (hm : bs.length ≤ 500) (w : World) (hE : FEnv w) (hI : Bys w.heap.size w ad bs) (hn : ad = none → bs.length = 0 ∧ cap = 0) :
    Calls Tryd.prog 3 #[.slice ad bs.length cap, .int .i64 m] w fun e w' => e = .returned (.bool true) ∧ Below w.heap.size w w' := by
  have HL := hid (salive_any w)
  have HO : Hid (∀ W, Below w.heap.size w W → Calls Tryd.prog 7 #[.slice ad bs.length cap, .int .i64 m] W fun e w' => e = .returned (.tuple #[.agg #[.int .i64 m, .int .i64 (offN m bs), .int .i64 (skpN m bs)], .nilIface]) ∧ Below W.heap.size W w') := hid fun W hb => sof_yes m h ad cap bs hby (by omega) W (hE.kept hb) ((hI.below hb).mono hb.size)
  have HR : Hid (∀ W, Below w.heap.size w W → Calls Tryd.prog 10 #[.slice ad bs.length cap, .int .i64 m] W fun e w' => e = .returned (.tuple #[.int .i64 (offN m bs), .int .i64 (skpN m bs)]) ∧ Below W.heap.size W w') := hid fun W hb => srof_yes m h ad cap bs hby (by omega) W ((hI.below hb).mono hb.size) hn
  have HS := hid (fun W => h ▸ rsized_any m W)
  have HT := hid (fun W => of_right bs h ▸ right_any m (offN m bs) (skpN m bs) W)
  clear h hE hI hn hby
  generalize bs.length = len at *
  generalize offN m bs = o at *
  generalize skpN m bs = k at *
  have hq := fun W => eql_stride m o k W
  go_enter Tryd.func3, Tryd.ntmps3
  go_wp2_with fail
  refine HL.out.mono ?_
  rintro e w1 ⟨rfl, hb⟩
  have Hb := hid hb
  clear hb
  go_wp2_with fail
  refine (HO.out _ Hb.out).mono ?_
  rintro e w2 ⟨rfl, hb⟩
  have Hb2 := hid (bel2 Hb.out hb)
  have Hb3 := hid (Hb2.out.alloc Hb2.out.size (.cells #[.int .i64 m, .int .i64 o, .int .i64 k] 25))
  have HN := hid (Blk.new w2 25 #[.int .i64 m, .int .i64 o, .int .i64 k])
  clear hb
  go_wp2_with fail
  refine (HS.out _).mono ?_
  rintro e w3 ⟨rfl, rfl⟩
  go_wp2_with fail
  refine (HR.out _ Hb3.out).mono ?_
  rintro e w4 ⟨rfl, hb⟩
  have Hb4 := hid (bel2 Hb3.out hb)
  have c0 : w4.cell? ⟨w2.heap.size, 0, none⟩ = some (.int .i64 m) := (HN.out.kept hb).cell 0
  have c1 : w4.cell? ⟨w2.heap.size, 1, none⟩ = some (.int .i64 o) := (HN.out.kept hb).cell 1
  have c2 : w4.cell? ⟨w2.heap.size, 2, none⟩ = some (.int .i64 k) := (HN.out.kept hb).cell 2
  clear hb
  go_wp2_with fail
  refine (HT.out _).mono ?_
  rintro e w5 ⟨rfl, hb⟩
  have Hb5 := hid (bel2 Hb4.out hb)
  clear hb
  go_wp2
  go_ret
  exact ⟨rfl, Hb5.out⟩

theorem lof_any (m : Int) (ad : Option Addr) (cap : Nat) (bs : List Int) (hby : Byt bs) (w : World) (ae : Nat → Addr) (hA : Errs 18 ae w) (hE : FEnv w) (hI : Bys w.heap.size w ad bs) (hn : ad = none → bs.length = 0 ∧ cap = 0) :
    Calls Tryd.prog 3 #[.slice ad bs.length cap, .int .i64 m] w fun e w' => e = .returned (.bool true) ∧ Below w.heap.size w w' := by
  by_cases hl : bs.length ≤ 500
  · cases h : sizedB m with
    | false => exact lof_no m h ad cap bs.length hl w ae hA
    | true => exact lof_yes m h ad cap bs hby hl w hE hI hn
  · exact lof_long m ad cap bs.length (by omega) w
end Go.Proofs.YtpijdbajonddlaaDoor
