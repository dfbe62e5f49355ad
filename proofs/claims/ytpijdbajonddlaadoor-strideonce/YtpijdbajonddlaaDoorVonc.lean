/-
  The law StrideOnce at every input.
-/
import Derived.Test.YtpijdbajonddlaaDoorVply
import Derived.Maps.OwnSet
import Derived.Maps.OwnOps
namespace Go.Proofs.YtpijdbajonddlaaDoor
open Go.RowKit Go.Lib Go.Maps

theorem bel_none {w w' : World} (h : Below w.heap.size w w') : w.grownBy w' none := ⟨h.os, h.tape, h.output, h.size, fun k hk _ => h.block k hk⟩

/-- The map of what was seen, of n entries, none of which is a place from number n on. -/
def SeenMap (W : World) (B n M : Nat) (o k : Int) : Prop := ∃ D : DataW Unit, W.ownsMap Tryd.prog 3 (plainElem Tryd.prog 4) B n D ∧ Maps.size D = n ∧ ∀ i, n ≤ i → i < M → Maps.has D (.int .i64 (plc M o k i)) = false

theorem lit_key (z : Int) : WideAt.IsKeyLit (.int .i64 z) := by first | trivial | exact ⟨⟩ | simp [WideAt.IsKeyLit]

theorem SeenMap.kept {W W' : World} {B n M : Nat} {o k : Int} (h : SeenMap W B n M o k) (hb : Below W.heap.size W W') : SeenMap W' B n M o k := by
  obtain ⟨D, h1, h2, h3⟩ := h
  exact ⟨D, h1.kept (bel_none hb) (by simp), h2, h3⟩

theorem plainElem_bool_inv {P : Program} {e : TypeId} (he : P.underlying e = some .bool) {v : Value} {z : DataW Unit × List MemPlace} (h : plainElem P e v = some z) : ∃ x, v = .bool x ∧ z = (.lit (.bool x), []) := by
  unfold plainElem at h
  rw [he] at h
  cases v <;> simp at h
  exact ⟨_, rfl, h.symm⟩

theorem look_bool {W : World} {B n : Nat} {D : DataW Unit} (h : W.ownsMap Tryd.prog 3 (plainElem Tryd.prog 4) B n D) (z : Int) (hz : keyOf Tryd.prog 3 (.int .i64 z) = some (.int .i64 z)) (hh : Maps.has D (.int .i64 z) = false) :
    (Instr.lookup 46 (.map (some B)) (.int .i64 z) false).run Tryd.prog W = .ok (.bool false) W := by
  obtain ⟨v, ps, h1, h2⟩ := h.lookup (t := 46) (e := 4) (z := .bool false) (int_keyed Tryd.underlying3) Tryd.underlying46 (by kernel_rfl) (plainElem_bool Tryd.underlying4 false) hz
  rw [Maps.atKey_of_not_has hh] at h2
  obtain ⟨x, rfl, h3⟩ := plainElem_bool_inv Tryd.underlying4 h2
  have h4 : x = false := by
    have := congrArg Prod.fst h3
    simpa using this.symm
  rw [h1, h4]

theorem SeenMap.step {W W' : World} {B n M : Nat} {o k : Int} (hr : rightS M o k = true) (hn : n < M) {D : DataW Unit} (h1 : W.ownsMap Tryd.prog 3 (plainElem Tryd.prog 4) B n D) (h2 : Maps.size D = n) (h3 : ∀ i, n ≤ i → i < M → Maps.has D (.int .i64 (plc M o k i)) = false)
    (h : W'.ownsMap Tryd.prog 3 (plainElem Tryd.prog 4) B (n + 1) (D.put (.int .i64 (plc M o k n)) (.lit (.bool true)))) : SeenMap W' B (n + 1) M o k := by
  refine ⟨_, h, ?_, fun i hi hM => ?_⟩
  · rw [Maps.size_put (h1.tidy (int_keyed Tryd.underlying3)), h3 n (Nat.le_refl _) hn, h2]
    rfl
  · rw [Maps.has_put_other]
    · exact h3 i (by omega) hM
    · intro e
      have e' : plc M o k i = plc M o k n := by injection e
      have := plc_inj hr (by omega) (by omega) (by omega) (by omega) e'
      omega

set_option maxHeartbeats 1000000 in
theorem lonce_long (m : Int) (ad : Option Addr) (cap len : Nat) (hl : 500 < len) (w : World) : Calls Tryd.prog 5 #[.slice ad len cap, .int .i64 m] w fun e w' => e = .returned (.bool true) ∧ Below w.heap.size w w' := by
  have HA := hid (salive_any w)
  go_enter Tryd.func5, Tryd.ntmps5
  go_wp2_with fail
  refine HA.out.mono ?_
  rintro e w1 ⟨rfl, hb⟩
  have Hb := hid hb
  clear hb
  go_wp2
  go_ret
  exact ⟨rfl, Hb.out⟩

theorem right_zero : rightS 0 0 0 = false := by
  cases h : rightS 0 0 0 with
  | false => rfl
  | true => have := (rightS_iff 0 0 0).1 h; omega

set_option maxRecDepth 100000 in
set_option maxHeartbeats 4000000 in
theorem lonce_no (m : Int) (h : sizedB m = false) (ad : Option Addr) (cap len : Nat) (hl : len ≤ 500) (w : World) (u : TypeId) (v : Value) (hE : w.cell? ⟨0, 0, none⟩ = some (.iface u v)) : Calls Tryd.prog 5 #[.slice ad len cap, .int .i64 m] w fun e w' => e = .returned (.bool true) ∧ Below w.heap.size w w' := by
  have HA := hid (salive_any w)
  have HE := hid hE
  have HO := hid (fun W hE => sof_no m h ad cap len W u v hE)
  have HL := hid (fun W => all_no 0 0 0 right_zero W)
  have hq : ∀ W : World, (binOp .neq 27 (.iface u v) .nilIface).run Tryd.prog W = .ok (.bool true) W := fun W => by kernel_rfl
  clear h hE
  go_enter Tryd.func5, Tryd.ntmps5
  go_wp2_with fail
  refine HA.out.mono ?_
  rintro e w1 ⟨rfl, hb⟩
  have Hb := hid hb
  clear hb
  go_wp2_with fail
  refine (HO.out _ (cell_stays HE.out Hb.out)).mono ?_
  rintro e w2 ⟨rfl, hb⟩
  have Hb2 := hid (bel2 Hb.out hb)
  have Hb3 := hid (Hb2.out.alloc Hb2.out.size (.cells #[.int .i64 0, .int .i64 0, .int .i64 0] 25))
  clear hb
  go_wp2_with fail
  refine (HL.out _).mono ?_
  rintro e w3 ⟨rfl, hb⟩
  have Hb4 := hid (bel2 Hb3.out hb)
  clear hb
  go_wp2
  go_ret
  exact ⟨rfl, Hb4.out⟩

set_option maxRecDepth 100000 in
set_option maxHeartbeats 8000000 in
theorem lonce_yes (M : Nat) (h : sizedB M = true) (ad : Option Addr) (cap : Nat) (bs : List Int) (hby : Byt bs) (hm : bs.length ≤ 500) (w : World) (u1 u2 : TypeId) (v1 v2 : Value) (h1 : w.cell? ⟨0, 0, none⟩ = some (.iface u1 v1)) (h2 : w.cell? ⟨10, 0, none⟩ = some (.iface u2 v2)) (hE : FEnv w) (hI : Bys w.heap.size w ad bs) :
    Calls Tryd.prog 5 #[.slice ad bs.length cap, .int .i64 M] w fun e w' => e = .returned (.bool true) ∧ Below w.heap.size w w' := by
  have HA := hid (salive_any w)
  have HO : Hid (∀ W, Below w.heap.size w W → Calls Tryd.prog 7 #[.slice ad bs.length cap, .int .i64 M] W fun e w' => e = .returned (.tuple #[.agg #[.int .i64 M, .int .i64 (offN M bs), .int .i64 (skpN M bs)], .nilIface]) ∧ Below W.heap.size W w') := hid fun W hb => sof_yes M h ad cap bs hby (by omega) W (hE.kept hb) ((hI.below hb).mono hb.size)
  have hr := of_right bs h
  obtain ⟨a1, a2, _⟩ := sized_range h
  generalize offN M bs = o at *
  generalize skpN M bs = k at *
  have HL := hid (fun W => all_yes M o k hr W)
  have HP := hid (fun j W => place_yes M o k j hr W)
  have HW : Hid (∀ n : Nat, n < M → ∀ W, Below w.heap.size w W → Calls Tryd.prog 15 #[.agg #[.int .i64 M, .int .i64 o, .int .i64 k], .int .i64 (plc M o k n)] W fun e w' => e = .returned (.int .i64 n) ∧ Below W.heap.size W w') := hid fun n hn W hb => by
    have q := plc_range (m := M) o k n (by omega)
    have := when_yes M o k (plc M o k n) hr q.1 q.2 W u1 u2 v1 v2 (cell_stays h1 hb) (cell_stays h2 hb)
    rwa [whn_plc hr (by omega) (by omega)] at this
  have HPl : Hid (∀ n : Nat, ∀ W, Calls Tryd.prog 14 #[.agg #[.int .i64 M, .int .i64 o, .int .i64 k], .int .i64 ((n : Int) + (M : Int))] W fun e w' => e = .returned (.int .i64 (plc M o k n)) ∧ Below W.heap.size W w') := hid fun n W => by
    have := HP.out ((n : Int) + (M : Int)) W
    rwa [plc_add] at this
  have HRg := hid (fun j : Int => plc_range (m := M) o k j (by omega))
  have HR := hid hr
  clear h h1 h2 hE hI hby hr HP
  generalize bs.length = len at *
  go_enter Tryd.func5, Tryd.ntmps5
  go_wp2_with fail
  refine HA.out.mono ?_
  rintro e w1 ⟨rfl, hb⟩
  have Hb := hid hb
  clear hb
  go_wp2_with fail
  refine (HO.out _ Hb.out).mono ?_
  rintro e w2 ⟨rfl, hb⟩
  have Hb2 := hid (bel2 Hb.out hb)
  clear hb
  obtain ⟨W3, hW3⟩ : ∃ W, W = w2.alloc (.cells #[.int .i64 M, .int .i64 o, .int .i64 k] 25) := ⟨_, rfl⟩
  obtain ⟨W4, hW4⟩ : ∃ W, W = W3.alloc (.map #[] 0) := ⟨_, rfl⟩
  have B3 : Blk W3 w2.heap.size 25 #[.int .i64 M, .int .i64 o, .int .i64 k] := hW3 ▸ Blk.new w2 _ _
  have hs3 : W3.heap.size = w2.heap.size + 1 := hW3 ▸ World.size_alloc _ _
  have B4 := hid (hW4 ▸ B3.alloc (.map #[] 0) : Blk W4 w2.heap.size 25 #[.int .i64 M, .int .i64 o, .int .i64 k])
  have M4 : Hid (SeenMap W4 (w2.heap.size + 1) 0 M o k) := hid (hs3 ▸ hW4 ▸ ⟨_, World.ownsMap_made W3 _ _ _, rfl, fun i _ _ => rfl⟩)
  have Hb3 : Below w.heap.size w W3 := hW3 ▸ Hb2.out.alloc Hb2.out.size _
  have Hb4 := hid (hW4 ▸ Hb3.alloc Hb3.size _ : Below w.heap.size w W4)
  have Hge : Hid (w.heap.size ≤ w2.heap.size + 1) := hid (by have := Hb2.out.size; omega)
  have H43 : Hid (w2.heap.size + 1 < W4.heap.size) := hid (by rw [hW4, World.size_alloc]; omega)
  have HW34 := hid hW4.symm
  have HW23 := hid hW3.symm
  have hmm := @run_makeMap Tryd.prog
  clear Hb3 hs3 B3 hW4
  have c0 : W4.cell? ⟨w2.heap.size, 0, none⟩ = some (.int .i64 M) := B4.out.cell 0
  have c1 : W4.cell? ⟨w2.heap.size, 1, none⟩ = some (.int .i64 o) := B4.out.cell 1
  have c2 : W4.cell? ⟨w2.heap.size, 2, none⟩ = some (.int .i64 k) := B4.out.cell 2
  clear hW3
  go_wp2_with fail
  rw [HW23.out, HW34.out]
  refine (HL.out _).mono ?_
  rintro e w5 ⟨g, rfl, hg, hn, hb⟩
  have Hg : Hid (w2.heap.size + 1 < g) := hid (Nat.lt_of_lt_of_le H43.out hg)
  have N5 := hid hn
  have Hb5 := hid (bel2 Hb4.out hb)
  have B5 := hid (B4.out.kept hb)
  have M5 := hid (M4.out.kept hb)
  clear hg hn hb c0 c1 c2 hmm
  go_wp2
  go_loopw [31] (fun i wr => ∃ n : Nat, n ≤ M ∧ i = .int .i64 n ∧ Hid (SeenMap wr (w2.heap.size + 1) n M o k) ∧ Hid (NumAt wr g M (fun i => plc M o k i)) ∧ Hid (Blk wr w2.heap.size 25 #[.int .i64 M, .int .i64 o, .int .i64 k]) ∧ Hid (Below w.heap.size w wr)) (fun i _ => M - (intOf i).toNat)
  case atStart => exact ⟨0, by omega, rfl, M5, N5, B5, Hb5⟩
  case round =>
    obtain ⟨n, hn, rfl, HMp, HNm, HBk, HBl⟩ := hrel
    by_cases hlt : n < M
    · have e1 : wr.cell? ⟨g, n, none⟩ = some (.int .i64 (plc M o k n)) := HNm.out.2 n hlt
      have q := HRg.out n
      have HWn := hid (fun W hb => HW.out n hlt W hb)
      have HPn := hid (fun W => HPl.out n W)
      obtain ⟨D, hD1, hD2, hD3⟩ := HMp.out
      have hkey : keyOf Tryd.prog 3 (.int .i64 (plc M o k n)) = some (.int .i64 (plc M o k n)) := keyOf_int_mk Tryd.underlying3 (WalkArith.wf_i64 (by omega))
      have hlook := look_bool hD1 (plc M o k n) hkey (hD3 n (Nat.le_refl _) hlt)
      have HStep := hid (fun (W : World) (hW : W.ownsMap Tryd.prog 3 (plainElem Tryd.prog 4) (w2.heap.size + 1) (n + 1) (D.put (.int .i64 (plc M o k n)) (.lit (.bool true)))) => SeenMap.step HR.out hlt hD1 hD2 hD3 hW)
      have HD := hid hD1
      have Hkey := hid hkey
      clear hD1 hD2 hD3 hkey HMp
      generalize plc M o k n = z at *
      have z1 : decide (z < 0) = false := by simp; omega
      have z2 : decide ((M : Int) ≤ z) = false := by simp; omega
      have hnn : ((n : Int) != (n : Int)) = false := by simp
      have hzz : (z != z) = false := by simp
      have c0 : wr.cell? ⟨w2.heap.size, 0, none⟩ = some (.int .i64 M) := HBk.out.cell 0
      have c1 : wr.cell? ⟨w2.heap.size, 1, none⟩ = some (.int .i64 o) := HBk.out.cell 1
      have c2 : wr.cell? ⟨w2.heap.size, 2, none⟩ = some (.int .i64 k) := HBk.out.cell 2
      go_wp2_with fail
      refine (HWn.out _ HBl.out).mono ?_
      rintro e w6 ⟨rfl, hb⟩
      have B6 := hid (HBk.out.kept hb)
      have N6 := hid (HNm.out.kept hb)
      have Hb6 := hid (bel2 HBl.out hb)
      have D6 := hid (HD.out.kept (bel_none hb) (by simp))
      clear hb c0 c1 c2 hlook e1
      have c0 : w6.cell? ⟨w2.heap.size, 0, none⟩ = some (.int .i64 M) := B6.out.cell 0
      have c1 : w6.cell? ⟨w2.heap.size, 1, none⟩ = some (.int .i64 o) := B6.out.cell 1
      have c2 : w6.cell? ⟨w2.heap.size, 2, none⟩ = some (.int .i64 k) := B6.out.cell 2
      go_wp2_with fail
      refine (HPn.out _).mono ?_
      rintro e w7 ⟨rfl, hb⟩
      have B7 := hid (B6.out.kept hb)
      have N7 := hid (N6.out.kept hb)
      have Hb7 := hid (bel2 Hb6.out hb)
      have D7 := hid (D6.out.kept (bel_none hb) (by simp))
      clear hb c0 c1 c2
      go_wp2_with (at_mapUpdate; refine wpList_mapUpdate_own _ rfl _ _ _ 46 rfl 3 4 (int_keyed Tryd.underlying3) Tryd.underlying46 _ (w2.heap.size + 1) n _ rfl D7.out (by unfold maxLen; omega) _ _ _ rfl rfl Hkey.out _ [] (plainElem_bool Tryd.underlying4 true) ?_; intro w8 hown8 hgrow8)
      go_roundw
      case rel => exact ⟨n + 1, by omega, by go_num, hid (HStep.out _ hown8), hid (N7.out.grown hgrow8 (Nat.ne_of_gt Hg.out)), hid (by unfold Blk; rw [hgrow8.block _ B7.out.lt (by intro e; have := Option.some.inj e; omega)]; exact B7.out), hid (Hb7.out.grown hgrow8 Hb7.out.size (fun i hi => by cases hi; exact Hge.out))⟩
      case measure => simp [intOf]; omega
    · obtain rfl : M = n := by omega
      obtain ⟨D, hD1, hD2, hD3⟩ := HMp.out
      have hlen := hD1.len Tryd.underlying46 3
      rw [hD2] at hlen
      have hMM : ((M : Int) == (M : Int)) = true := by simp
      clear hD1 hD2 hD3
      go_wp2
      go_ret
      exact ⟨rfl, HBl.out⟩

theorem lonce_any (m : Int) (ad : Option Addr) (cap : Nat) (bs : List Int) (hby : Byt bs) (w : World) (u1 u2 : TypeId) (v1 v2 : Value) (h1 : w.cell? ⟨0, 0, none⟩ = some (.iface u1 v1)) (h2 : w.cell? ⟨10, 0, none⟩ = some (.iface u2 v2)) (hE : FEnv w) (hI : Bys w.heap.size w ad bs) :
    Calls Tryd.prog 5 #[.slice ad bs.length cap, .int .i64 m] w fun e w' => e = .returned (.bool true) ∧ Below w.heap.size w w' := by
  by_cases hl : bs.length ≤ 500
  · cases h : sizedB m with
    | false => exact lonce_no m h ad cap bs.length hl w u1 v1 h1
    | true =>
      have hr := sized_range h
      obtain ⟨M, rfl⟩ : ∃ M : Nat, m = M := ⟨m.toNat, by omega⟩
      exact lonce_yes M h ad cap bs hby hl w u1 u2 v1 v2 h1 h2 hE hI
  · exact lonce_long m ad cap bs.length (by omega) w

theorem lplaces_any (m o k j p : Int) (w : World) (u1 u2 : TypeId) (v1 v2 : Value) (h1 : w.cell? ⟨0, 0, none⟩ = some (.iface u1 v1)) (h2 : w.cell? ⟨10, 0, none⟩ = some (.iface u2 v2)) :
    Calls Tryd.prog 4 #[.agg #[.int .i64 m, .int .i64 o, .int .i64 k], .int .i64 j, .int .i64 p] w fun e w' => e = .returned (.bool true) ∧ Below w.heap.size w w' := by
  cases h : rightS m o k with
  | false => exact lplaces_no m o k j p h w
  | true =>
    have hr := (rightS_iff m o k).1 h
    obtain ⟨M, rfl⟩ : ∃ M : Nat, m = M := ⟨m.toNat, by omega⟩
    exact lplaces_yes M o k j p h w u1 u2 v1 v2 h1 h2
end Go.Proofs.YtpijdbajonddlaaDoor
