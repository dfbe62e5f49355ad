/-
  The law MaglevFills: long inputs; where the filling ends in an error. · The law MaglevFills where the filling ends with a table. · errors.Is by its contracts, for two errors of errors.New's make; linkboynum.Num of what octets answers. · linkboynum.Num: the number of each of package api's errors. · The law MaglevFills, whatever it is given. · From the condition on the listed variables to what the walks ask: each of package api's errors is an error of errors.New's make, no two are one.
-/
import Derived.Test.YtahconkjhneogaaGreatDoorGr10
import Derived.LaidEql
import Derived.Stop.Asserts
import Derived.RowKitTokens
import Derived.Test.YtahconkjhneogaaGreatDoorRows
import Derived.Stop.LaidErr
import Derived.LaidMore
import Derived.Stop.Joined
namespace Go.Proofs.YtahconkjhneogaaGreatDoor
open Go.RowKit Go.Shelf Go.Lib Go.Sort

set_option linter.unusedSimpArgs false in
set_option maxRecDepth 100000 in
set_option maxHeartbeats 8000000 in
theorem fills_long (E : Nat → TypeId × Value) (ax : Option Addr) (cx : Nat) (n k : Nat) (ay : Option Addr) (cy : Nat) (m : Int) (h : 40 < n ∨ 200 < k) (w : World) (hE : MEnv E w) :
    Calls Tryz.prog 3 #[.slice ax n cx, .int .i64 m, .slice ay k cy] w fun e w' => e = .returned (.bool true) ∧ Below w.heap.size w w' := by
  have HA := hid (malive_any E w hE)
  clear hE
  by_cases h1 : 40 < n
  · clear h
    go_enter Tryz.func3, Tryz.ntmps3
    go_wp2_with fail
    refine HA.out.mono ?_
    rintro e w1 ⟨rfl, hb⟩
    have Hb1 := hid hb
    clear hb
    go_wp2
    go_ret
    exact ⟨rfl, Hb1.out⟩
  · have h2 : 200 < k := by omega
    have q1 : decide ((40 : Int) < (n : Int)) = false := decide_eq_false (by omega)
    clear h
    go_enter Tryz.func3, Tryz.ntmps3
    go_wp2_with fail
    refine HA.out.mono ?_
    rintro e w1 ⟨rfl, hb⟩
    have Hb1 := hid hb
    clear hb
    go_wp2
    go_ret
    exact ⟨rfl, Hb1.out⟩

set_option linter.unusedSimpArgs false in
set_option maxRecDepth 100000 in
set_option maxHeartbeats 8000000 in
theorem fills_err (E : Nat → TypeId × Value) (ax : Option Addr) (cx : Nat) (xs : List PS) (k : Nat) (ay : Option Addr) (cy : Nat) (m : Int) (hx : xs.length ≤ 40) (hk : k ≤ 200) (hcx : xs.length ≤ cx) (hax : ax = none → xs.length = 0 ∧ cx = 0) (hf : fillE xs m ≠ 0) (w : World) (hE : MEnv E w) (hX : Elems encP 18 w.heap.size w ax xs)
    (hNum : ∀ V, Below w.heap.size w V → Calls Tryz.prog 8 #[.iface (E (fillE xs m)).1 (E (fillE xs m)).2] V fun e w' => e = .returned (.int .i64 (fillE xs m)) ∧ Below V.heap.size V w') :
    Calls Tryz.prog 3 #[.slice ax xs.length cx, .int .i64 m, .slice ay k cy] w fun e w' => e = .returned (.bool true) ∧ Below w.heap.size w w' := by
  have HA := hid (malive_any E w hE)
  have HE := hid hE
  have HX := hid hX
  have HNum := hid hNum
  have HF1 : Hid (∀ ad cap V, xs.length ≤ cap → Below w.heap.size w V → Elems encP 18 V.heap.size V ad xs → Calls Tryz.prog 6 #[.slice ad xs.length cap, .int .i64 m] V (FillEnd E xs m V)) := hid (fun ad cap V hc hb he => fill_any E ad cap xs hc (by omega) m V (hE.kept hb) he)
  have HF2 : Hid (∀ V, Below w.heap.size w V → Calls Tryz.prog 7 #[.slice ax xs.length cx, .int .i64 m] V (RFillEnd xs m V)) := hid (fun V hb => rfill_any ax cx xs hcx (by omega) m V ((hX.below hb).mono hb.size))
  have HP0 : Hid (∀ V, Calls Tryz.prog 9 #[.slice none 0 0, .slice none 0 0] V fun e w' => e = .returned (.bool true) ∧ Below V.heap.size V w') := hid (fun V => points_any [] [] none none 0 0 (by simp) V (fun j hj => by simp at hj) (fun j hj => by simp at hj))
  have HI0 : Hid (∀ V, Calls Tryz.prog 10 #[.slice none 0 0, .slice none 0 0] V fun e w' => e = .returned (.bool true) ∧ Below V.heap.size V w') := hid (fun V => sameI_any [] [] none none 0 0 (by simp) V (fun j hj => by simp at hj) (fun j hj => by simp at hj))
  have HPx : Hid (∀ ad cap V, Below w.heap.size w V → Elems encP 18 V.heap.size V ad xs → Calls Tryz.prog 9 #[.slice ad xs.length cap, .slice ax xs.length cx] V fun e w' => e = .returned (.bool true) ∧ Below V.heap.size V w') := hid (fun ad cap V hb he => by
    have h := points_any xs xs ad ax cap cx (by omega) V he ((hX.below hb).mono hb.size)
    rwa [decide_eq_true rfl] at h)
  have HAx := hid hax
  have HH := hid hf
  have q1 : decide ((40 : Int) < (xs.length : Int)) = false := decide_eq_false (by omega)
  have q2 : decide ((200 : Int) < (k : Int)) = false := decide_eq_false (by omega)
  obtain ⟨n, hn⟩ : ∃ n, n = xs.length := ⟨_, rfl⟩
  rw [← hn] at q1 hx HF1 HF2 HPx HAx ⊢
  have HN := hid hn.symm
  clear hE hX hNum hcx hax hf hn
  go_enter Tryz.func3, Tryz.ntmps3
  go_wp2_with fail
  refine HA.out.mono ?_
  rintro e w1 ⟨rfl, hb⟩
  have Hb1 := hid hb
  have HO : Hid ((w1.alloc (.cells #[] 41)).ownsRow w1.heap.size 41 18 (.slice (some ⟨w1.heap.size, 0, none⟩) 0 0) 0 (flatY encP [])) := hid (lit0_own w1 _ (Nat.le_refl _))
  have HBO : Hid (Below w1.heap.size w1 (w1.alloc (.cells #[] 41))) := hid ((Below.refl _ _).alloc (Nat.le_refl _) _)
  have HX1 : Hid (Elems encP 18 w1.heap.size (w1.alloc (.cells #[] 41)) ax xs) := hid (((HX.out.below (bel2 Hb1.out HBO.out)).mono Hb1.out.size))
  clear hb HA
  go_wp2_with ((show wpList _ _ _ (⟨some 27, _, _, _, _, _⟩ :: _) _ _); go_must (refine wpl_appP (.tmp 25) (.tmp 26) rfl w1.heap.size _ 0 (flatY encP []) rfl HO.out ax n cx xs rfl HN.out w1.heap.size HX1.out HAx.out (by omega) HBO.out.size rfl ?_; intro v' w2 hown hgrow))
  rw [Nat.zero_add, show flatY encP [] ++ flatY encP xs = flatY encP xs from rfl] at hown
  obtain ⟨_, ad, cap, rfl, hcap, _, _, hel⟩ := own_elems hown
  have Hb2 : Hid (Below w.heap.size w w2) := hid (bel2 Hb1.out (HBO.out.grown hgrow HBO.out.size (fun j hj => (HO.out.lt j hj).1)))
  have HEl := hid hel
  have HF1' := hid (HF1.out ad cap w2 hcap Hb2.out hel)
  clear hown hgrow hel HO HBO HX1 HF1 hcap
  refine HF1'.out.mono ?_
  intro e w3 hfe
  obtain ⟨hb3, hfe⟩ := hfe.tab
  rcases hfe with ⟨_, rfl⟩ | ⟨h0, _⟩
  rotate_left
  · exact absurd h0 HH.out
  have Hb3 := hid (bel2 Hb2.out hb3)
  have HEl3 := hid ((HEl.out.below hb3).mono hb3.size)
  clear hb3 HF1' HEl
  have HNum2 := HNum
  generalize (E (fillE xs m)).1 = u at *
  generalize (E (fillE xs m)).2 = v at *
  obtain ⟨W3, hW3⟩ : ∃ W, W = w3.alloc (.cells #[.int .i64 0, .slice none 0 0, .slice none 0 0] 27) := ⟨_, rfl⟩
  have HW3 := hid hW3.symm
  have b3 : Below w3.heap.size w3 W3 := hW3 ▸ (Below.refl _ _).alloc (Nat.le_refl _) _
  have HK := hid (hW3 ▸ Blk.new w3 _ _ : Blk W3 w3.heap.size 27 #[.int .i64 0, .slice none 0 0, .slice none 0 0])
  have HB3 := hid (bel2 Hb3.out b3)
  have HElW := hid ((HEl3.out.below b3).mono b3.size)
  have HF2' := hid (HF2.out W3 HB3.out)
  clear hW3 b3 HF2 HEl3
  go_upto_region 7 with fail
  rw [HW3.out]
  go_wp2_with fail
  refine HF2'.out.mono ?_
  rintro e w4 ⟨hb4, ⟨_, rfl⟩ | ⟨h0, _⟩⟩
  rotate_left
  · exact absurd h0 HH.out
  have HB4 := hid (bel2 HB3.out hb4)
  have HK4 := hid (HK.out.kept hb4)
  have HEl4 := hid ((HElW.out.below hb4).mono hb4.size)
  have HNum' := hid (HNum.out w4 HB4.out)
  clear hb4 HF2' HK HElW HNum HNum2
  generalize fillE xs m = fe at *
  have hne : ((fe : Int) == 0) = false := by rw [beq_eq_false_iff_ne]; have := HH.out; omega
  have hne2 : ((fe : Int) != 0) = true := by rw [bne_iff_ne]; have := HH.out; omega
  have heq : ((fe : Int) != (fe : Int)) = false := by simp
  go_wp2_with fail
  refine HNum'.out.mono ?_
  rintro e w5 ⟨rfl, hb5⟩
  have HB5 := hid (bel2 HB4.out hb5)
  have HK5 := hid (HK4.out.kept hb5)
  have HEl5 := hid ((HEl4.out.below hb5).mono hb5.size)
  have c1 : w5.cell? ⟨w3.heap.size, 1, none⟩ = some (.slice none 0 0) := HK5.out.cell 1
  clear hb5 HNum' HK4 HEl4
  go_wp2_with fail
  refine (HP0.out w5).mono ?_
  rintro e w6 ⟨rfl, hb6⟩
  have HB6 := hid (bel2 HB5.out hb6)
  have HK6 := hid (HK5.out.kept hb6)
  have HEl6 := hid ((HEl5.out.below hb6).mono hb6.size)
  have c2 : w6.cell? ⟨w3.heap.size, 2, none⟩ = some (.slice none 0 0) := HK6.out.cell 2
  clear hb6 HK5 HEl5 c1
  go_wp2_with fail
  refine (HI0.out w6).mono ?_
  rintro e w7 ⟨rfl, hb7⟩
  have HB7 := hid (bel2 HB6.out hb7)
  have HK7 := hid (HK6.out.kept hb7)
  have HPx' := hid (HPx.out ad cap w7 HB7.out ((HEl6.out.below hb7).mono hb7.size))
  clear hb7 HK6 HEl6 c2
  go_wp2_with fail
  refine HPx'.out.mono ?_
  rintro e w8 ⟨rfl, hb8⟩
  have HB8 := hid (bel2 HB7.out hb8)
  have HK8 := hid (HK7.out.kept hb8)
  have c0 : w8.cell? ⟨w3.heap.size, 0, none⟩ = some (.int .i64 0) := HK8.out.cell 0
  clear hb8 HK7 HPx'
  go_wp2
  go_ret
  exact ⟨rfl, HB8.out⟩
end Go.Proofs.YtahconkjhneogaaGreatDoor

namespace Go.Proofs.YtahconkjhneogaaGreatDoor
open Go.RowKit Go.Shelf Go.Lib Go.Sort

theorem exec_eqlP {a : Act} {w : World} {o : Oper} (t' : TypeId) (x y : Operand) (ho : o.op = .binOp .eql 41 x y t') (p q : Array Value) (b : Bool) (hx : a.eval x = .agg p) (hy : a.eval y = .agg q)
    (h : (binOp .eql 41 (.agg p) (.agg q)).run Tryz.prog w = .ok (.bool b) w) : (execOp a.eval o).run Tryz.prog w = .ok (.value (.bool b)) w := by
  have hg : (eqGuard .eql 41 x y (.agg p) (.agg q)).run Tryz.prog w = .ok () w := by
    apply run_eqGuard_agg
    kernel_rfl
  unfold execOp
  simp only [ho, hx, hy, Sem.run_bind, hg, Result.andThen_ok, h, Sem.run_pure]

set_option linter.unusedSimpArgs false in
set_option maxRecDepth 100000 in
set_option maxHeartbeats 8000000 in
theorem fills_ok (E : Nat → TypeId × Value) (ax : Option Addr) (cx : Nat) (xs : List PS) (ys : List Int) (ay : Option Addr) (cy : Nat) (m : Int) (hx : xs.length ≤ 40) (hk : ys.length ≤ 200) (hcx : xs.length ≤ cx) (hax : ax = none → xs.length = 0 ∧ cx = 0) (hay : ay = none → ys.length = 0 ∧ cy = 0) (hf : fillE xs m = 0) (w : World) (hE : MEnv E w) (hX : Elems encP 18 w.heap.size w ax xs) (hby : Byt ys) (hY : Bys w.heap.size w ay ys)
    (hNum : ∀ V, Below w.heap.size w V → Calls Tryz.prog 8 #[.nilIface] V fun e w' => e = .returned (.int .i64 0) ∧ Below V.heap.size V w') :
    Calls Tryz.prog 3 #[.slice ax xs.length cx, .int .i64 m, .slice ay ys.length cy] w fun e w' => e = .returned (.bool true) ∧ Below w.heap.size w w' := by
  have HA := hid (malive_any E w hE)
  have HE := hid hE
  have HX := hid hX
  have HY := hid hY
  have HNum := hid hNum
  have HBy := hid hby
  have HF1 : Hid (∀ ad cap V, xs.length ≤ cap → Below w.heap.size w V → Elems encP 18 V.heap.size V ad xs → Calls Tryz.prog 6 #[.slice ad xs.length cap, .int .i64 m] V (FillEnd E xs m V)) := hid (fun ad cap V hc hb he => fill_any E ad cap xs hc (by omega) m V (hE.kept hb) he)
  have HF2 : Hid (∀ V, Below w.heap.size w V → Calls Tryz.prog 7 #[.slice ax xs.length cx, .int .i64 m] V (RFillEnd xs m V)) := hid (fun V hb => rfill_any ax cx xs hcx (by omega) m V ((hX.below hb).mono hb.size))
  have HPx : Hid (∀ ad cap V, Below w.heap.size w V → Elems encP 18 V.heap.size V ad xs → Calls Tryz.prog 9 #[.slice ad xs.length cap, .slice ax xs.length cx] V fun e w' => e = .returned (.bool true) ∧ Below V.heap.size V w') := hid (fun ad cap V hb he => by
    have h := points_any xs xs ad ax cap cx (by omega) V he ((hX.below hb).mono hb.size)
    rwa [decide_eq_true rfl] at h)
  have HAx := hid hax
  have HAy := hid hay
  have HH := hid hf
  have q1 : decide ((40 : Int) < (xs.length : Int)) = false := decide_eq_false (by omega)
  obtain ⟨k, hkk⟩ : ∃ k, k = ys.length := ⟨_, rfl⟩
  have q2 : decide ((200 : Int) < (k : Int)) = false := decide_eq_false (by omega)
  obtain ⟨n, hn⟩ : ∃ n, n = xs.length := ⟨_, rfl⟩
  rw [← hn] at q1 hx HF1 HF2 HPx HAx ⊢
  rw [← hkk] at hk HAy ⊢
  have HN := hid hn.symm
  have HKK := hid hkk
  have HKL : Hid (ys.length ≤ 200) := hid (by omega)
  clear hE hX hY hNum hcx hax hay hf hn hby hkk
  go_enter Tryz.func3, Tryz.ntmps3
  go_wp2_with fail
  refine HA.out.mono ?_
  rintro e w1 ⟨rfl, hb⟩
  have Hb1 := hid hb
  have HO : Hid ((w1.alloc (.cells #[] 41)).ownsRow w1.heap.size 41 18 (.slice (some ⟨w1.heap.size, 0, none⟩) 0 0) 0 (flatY encP [])) := hid (lit0_own w1 _ (Nat.le_refl _))
  have HBO : Hid (Below w1.heap.size w1 (w1.alloc (.cells #[] 41))) := hid ((Below.refl _ _).alloc (Nat.le_refl _) _)
  have HX1 : Hid (Elems encP 18 w1.heap.size (w1.alloc (.cells #[] 41)) ax xs) := hid (((HX.out.below (bel2 Hb1.out HBO.out)).mono Hb1.out.size))
  clear hb HA
  go_wp2_with ((show wpList _ _ _ (⟨some 27, _, _, _, _, _⟩ :: _) _ _); go_must (refine wpl_appP (.tmp 25) (.tmp 26) rfl w1.heap.size _ 0 (flatY encP []) rfl HO.out ax n cx xs rfl HN.out w1.heap.size HX1.out HAx.out (by omega) HBO.out.size rfl ?_; intro v' w2 hown hgrow))
  rw [Nat.zero_add, show flatY encP [] ++ flatY encP xs = flatY encP xs from rfl] at hown
  obtain ⟨_, ad, cap, rfl, hcap, _, _, hel⟩ := own_elems hown
  have Hb2 : Hid (Below w.heap.size w w2) := hid (bel2 Hb1.out (HBO.out.grown hgrow HBO.out.size (fun j hj => (HO.out.lt j hj).1)))
  have HEl := hid hel
  have HF1' := hid (HF1.out ad cap w2 hcap Hb2.out hel)
  clear hown hgrow hel HO HBO HX1 HF1 hcap
  refine HF1'.out.mono ?_
  intro e w3 hfe
  obtain ⟨hb3, hfe⟩ := hfe.tabC
  rcases hfe with ⟨h0, _⟩ | ⟨_, M, ab, cp, S, rfl, hs, hn0, hn24, hnM, rfl, hcp, hT⟩
  · exact absurd HH.out h0
  have Hb3 := hid (bel2 Hb2.out hb3)
  have HEl3 := hid ((HEl.out.below hb3).mono hb3.size)
  have HRt := hid (right_filled xs M HH.out)
  have HLl : Hid ((fillT (ordL M (psorted xs)) (psorted xs).length M M).length = M) := hid (fillT_length _ _ _ _)
  have HOw := hid (fun (p : Nat) (hp : p < M) => own_filled hs (psorted xs) hn0 hp)
  have HT3 := hid hT
  have HPl := hid (plcN_nat hs ys)
  have HSz := hid hs
  have HCp := hid hcp
  have h24 := hn24
  have hM251 := (sized_range hs).2.1
  have HF2n := hid (fun V (hb : Below w.heap.size w V) => HF2.out V hb)
  unfold RFillEnd at HF2n
  clear hb3 HF1' HEl hT hs hcp hn24 HF2
  obtain ⟨L, hL⟩ : ∃ L, L = fillT (ordL M (psorted xs)) (psorted xs).length M M := ⟨_, rfl⟩
  rw [← hL] at HRt HLl HOw HT3 ⊢
  have HLe := hid hL
  clear hL
  generalize psorted xs = bs at *
  rw [HLl.out]
  obtain ⟨W3, hW3⟩ : ∃ W, W = w3.alloc (.cells #[.int .i64 (M : Int), .slice ab bs.length cp, .slice (some ⟨S, 0, none⟩) M M] 27) := ⟨_, rfl⟩
  have HW3 := hid hW3.symm
  have b3 : Below w3.heap.size w3 W3 := hW3 ▸ (Below.refl _ _).alloc (Nat.le_refl _) _
  have HK := hid (hW3 ▸ Blk.new w3 _ _ : Blk W3 w3.heap.size 27 #[.int .i64 (M : Int), .slice ab bs.length cp, .slice (some ⟨S, 0, none⟩) M M])
  have HB3 := hid (bel2 Hb3.out b3)
  have HElW := hid ((HEl3.out.below b3).mono b3.size)
  have HTW := hid (HT3.out.kept b3)
  have HF2' := hid (HF2n.out W3 HB3.out)
  clear hW3 b3 HF2n HEl3 HT3
  go_upto_region 7 with fail
  rw [HW3.out]
  go_wp2_with fail
  refine HF2'.out.mono ?_
  rintro e w4 ⟨hb4, ⟨h0, _⟩ | ⟨_, M', ab2, cp2, S2, hM', rfl, hcp2, hel2, hsl2⟩⟩
  · exact absurd HH.out h0
  obtain rfl : M' = M := by omega
  clear hM'
  obtain ⟨p, hpM, hp1, hp2⟩ := HPl.out
  have hl : L.length = M' := HLl.out
  obtain ⟨⟨hw0, hw1⟩, hown⟩ := HOw.out p hpM
  obtain ⟨who, hwho⟩ : ∃ who : Nat, L.getD p 0 = (who : Int) := ⟨(L.getD p 0).toNat, by omega⟩
  have hwb : who < bs.length := by omega
  obtain ⟨x, ex⟩ : ∃ x, x = bs[who] := ⟨_, rfl⟩
  have HAns : Hid (ansO (ownW M' bs L (ofP M' ys)) = .tuple #[.agg (encP x), .bool true]) := hid (by
    rw [hp2, hown, hwho, Int.toNat_natCast, ex, getElem!_pos bs who hwb]
    rfl)
  have HB4 := hid (bel2 HB3.out hb4)
  have HK4 := hid (HK.out.kept hb4)
  have HEl4 := hid ((HElW.out.below hb4).mono hb4.size)
  have HT4 := hid (HTW.out.kept hb4)
  have HE2 := hid hel2
  have HS2 : Hid (SlotB w4 S2 L) := hid (by rw [HLe.out]; exact hsl2)
  have HNum' := hid (HNum.out w4 HB4.out)
  have HPL : Hid (plcN M' ys = (p : Int)) := hid hp1
  have HWho : Hid (L.getD p 0 = (who : Int)) := hid hwho
  have HX' := hid ex
  have HWb := hid hwb
  have HLn := hid hl
  have HPM := hid hpM
  have Hb24 : Hid (bs.length ≤ 24) := hid h24
  have HM2 : Hid ((M' : Int) ≤ 251) := hid hM251
  have q0 : ((0 : Int) != 0) = false := rfl
  clear hb4 HF2' HK HElW HNum HTW hel2 hsl2 hp1 hp2 hw0 hw1 hown hwho ex HOw HPl HLe HW3 hcp2 hl hpM h24 hM251 hnM hn0 hk hx q1 q2
  go_wp2_with fail
  refine HNum'.out.mono ?_
  rintro e w5 ⟨rfl, hb5⟩
  have HB5 := hid (bel2 HB4.out hb5)
  have HK5 := hid (HK4.out.kept hb5)
  have HEl5 := hid ((HEl4.out.below hb5).mono hb5.size)
  have HT5 := hid (HT4.out.kept hb5)
  have HE5 := hid ((HE2.out.below hb5).mono hb5.size)
  have HS5 : Hid (SlotB w5 S2 L) := hid (Blk.kept HS2.out hb5)
  have HP5 : Hid (Calls Tryz.prog 9 #[.slice ab bs.length cp, .slice ab2 bs.length cp2] w5 fun e w' => e = .returned (.bool true) ∧ Below w5.heap.size w5 w') := hid (by
    have h := points_any bs bs ab ab2 cp cp2 (by have := Hb24.out; omega) w5 HT5.out.els HE5.out
    rwa [decide_eq_true rfl] at h)
  have c1 : w5.cell? ⟨w3.heap.size, 1, none⟩ = some (.slice ab bs.length cp) := HK5.out.cell 1
  clear hb5 HNum' HK4 HEl4 HT4 HE2 HS2
  go_wp2_with fail
  refine HP5.out.mono ?_
  rintro e w6 ⟨rfl, hb6⟩
  have HB6 := hid (bel2 HB5.out hb6)
  have HK6 := hid (HK5.out.kept hb6)
  have HEl6 := hid ((HEl5.out.below hb6).mono hb6.size)
  have HT6 := hid (HT5.out.kept hb6)
  have HE6 := hid ((HE5.out.below hb6).mono hb6.size)
  have HS6 : Hid (SlotB w6 S2 L) := hid (Blk.kept HS5.out hb6)
  have HI6 : Hid (Calls Tryz.prog 10 #[.slice (some ⟨S, 0, none⟩) M' M', .slice (some ⟨S2, 0, none⟩) M' M'] w6 fun e w' => e = .returned (.bool true) ∧ Below w6.heap.size w6 w') := hid (by
    have h := sameI_any L L (some ⟨S, 0, none⟩) (some ⟨S2, 0, none⟩) M' M' (by have := HLn.out; have := HM2.out; omega) w6 HT6.out.ints HS6.out.ints
    rwa [decide_eq_true rfl, HLn.out] at h)
  have c2 : w6.cell? ⟨w3.heap.size, 2, none⟩ = some (.slice (some ⟨S, 0, none⟩) M' M') := HK6.out.cell 2
  clear hb6 HK5 HEl5 HT5 HE5 HS5 c1 HP5
  go_wp2_with fail
  refine HI6.out.mono ?_
  rintro e w7 ⟨rfl, hb7⟩
  have HB7 := hid (bel2 HB6.out hb7)
  have HK7 := hid (HK6.out.kept hb7)
  have HT7 := hid (HT6.out.kept hb7)
  have HE7 := hid ((HE6.out.below hb7).mono hb7.size)
  have HS7 : Hid (SlotB w7 S2 L) := hid (Blk.kept HS6.out hb7)
  have HPx' := hid (HPx.out ad cap w7 HB7.out ((HEl6.out.below hb7).mono hb7.size))
  clear hb7 HK6 HEl6 HT6 HE6 HS6 c2 HI6 HPx
  go_wp2_with fail
  refine HPx'.out.mono ?_
  rintro e w8 ⟨rfl, hb8⟩
  have HB8 := hid (bel2 HB7.out hb8)
  have HK8 := hid (HK7.out.kept hb8)
  have HT8 := hid (HT7.out.kept hb8)
  have HE8 := hid ((HE7.out.below hb8).mono hb8.size)
  have HS8 : Hid (SlotB w8 S2 L) := hid (Blk.kept HS7.out hb8)
  have HTof : Hid (Calls Tryz.prog 11 #[.agg #[.int .i64 (M' : Int), .slice ab bs.length cp, .slice (some ⟨S, 0, none⟩) M' M'], .slice ay k cy] w8 fun e w' => e = .returned (.tuple #[.agg (encP x), .bool true]) ∧ Below w8.heap.size w8 w') := hid (by
    have h := tof_any M' (by omega) (by have := HM2.out; omega) bs L ab (some ⟨S, 0, none⟩) cp M' (by have := HLn.out; have := HM2.out; omega) (by have := Hb24.out; omega) ay cy ys HBy.out (by have := HKL.out; omega) w8 ((HE.out.kept HB8.out).fenv) HT8.out ((HY.out.below HB8.out).mono HB8.out.size)
    rwa [HAns.out, HLn.out, ← HKK.out] at h)
  clear hb8 HK7 HT7 HE7 HS7 HPx' HAns
  go_wp2_with ((show wpList _ _ _ (⟨some 71, _, _, _, _, _⟩ :: _) _ _); go_must (refine wpl_load 27 (.tmp 8) rfl w3.heap.size rfl 27 _ _ HK8.out Tryz.underlying27 rfl 3 Tryz.infoTable rfl rfl ?_))
  refine HTof.out.mono ?_
  rintro e w9 ⟨rfl, hb9⟩
  have HB9 := hid (bel2 HB8.out hb9)
  have HK9 := hid (HK8.out.kept hb9)
  have HT9 := hid (HT8.out.kept hb9)
  have HE9 := hid ((HE8.out.below hb9).mono hb9.size)
  have HS9 : Hid (SlotB w9 S2 L) := hid (Blk.kept HS8.out hb9)
  clear hb9 HTof HK8 HT8 HE8 HS8
  obtain ⟨V0, hV0⟩ : ∃ W, W = w9.alloc (.cells (encP x) 41) := ⟨_, rfl⟩
  have HV0 := hid hV0.symm
  have b0 : Below w9.heap.size w9 V0 := hV0 ▸ (Below.refl _ _).alloc (Nat.le_refl _) _
  have HP0 := hid (hV0 ▸ Blk.new w9 _ _ : Blk V0 w9.heap.size 41 (encP x))
  have HB0 := hid (bel2 HB9.out b0)
  have HK0 := hid (HK9.out.kept b0)
  have HT0 := hid (HT9.out.kept b0)
  have HE0 := hid ((HE9.out.below b0).mono b0.size)
  have HS0 : Hid (SlotB V0 S2 L) := hid (Blk.kept HS9.out b0)
  have HRg : Hid (∀ V, Below V0.heap.size V0 V → Calls Tryz.prog 12 #[.agg #[.int .i64 (M' : Int), .slice ab bs.length cp, .slice (some ⟨S, 0, none⟩) M' M']] V fun e w' => e = .returned (.bool true) ∧ Below V.heap.size V w') := hid (fun V hb => by
    have h := mright_any E M' bs L ab (some ⟨S, 0, none⟩) cp M' HCp.out (by have := Hb24.out; omega) (by have := HLn.out; have := HM2.out; omega) V ((HE.out.kept HB0.out).kept hb) (HT0.out.kept hb)
    rwa [HRt.out, HLn.out] at h)
  have HOf : Hid (∀ V, Below V0.heap.size V0 V → Calls Tryz.prog 13 #[.slice ay k cy, .int .i64 (M' : Int)] V fun e w' => e = .returned (.int .i64 (p : Int)) ∧ Below V.heap.size V w') := hid (fun V hb => by
    have h := rplace_any M' HSz.out ay cy ys HBy.out (by have := HKL.out; omega) V ((HY.out.below (bel2 HB0.out hb)).mono (bel2 HB0.out hb).size) (by rw [← HKK.out]; exact HAy.out)
    rwa [HPL.out, ← HKK.out] at h)
  have hcw : ∀ V, Below V0.heap.size V0 V → V.cell? ⟨S2, p, none⟩ = some (.int .i64 (who : Int)) := fun V hb => by
    have h := SlotB.cell (Blk.kept HS0.out hb : SlotB V S2 L) (show p < L.length by rw [HLn.out]; exact HPM.out)
    rwa [HWho.out] at h
  have HCw := hid hcw
  clear hcw
  obtain ⟨g, o, rfl, hg, hrg⟩ := HE0.out who hwb
  have HRa : Hid (∀ V, Below V0.heap.size V0 V → V.rangeAt g (o + who * 18) (encPL x)) := hid (fun V hb => by rw [HX'.out]; exact rangeAt_below hb hg hrg)
  clear hg hrg
  have heq := eql_pt x x
  rw [decide_eq_true rfl] at heq
  have HHeq := hid heq
  have HWb2 : Hid (who < bs.length) := hid hwb
  have hpm : p < M' := HPM.out
  have HXs := hid (encP_size x)
  clear heq hV0 b0 HX' HWb HK9 HT9 HE9 HS9 HT0 HE0 HS0 HPL HWho HRt HCp HSz HLl HLn HKK HKL HE HB9 HAy HAx HBy HX HY
  clear hwb
  obtain ⟨bl, hbl⟩ : ∃ bl, bl = bs.length := ⟨_, rfl⟩
  rw [← hbl] at HK0 HRg HWb2 ⊢
  clear hbl
  go_upto_region 13 with ((show wpList _ _ _ (⟨none, _, _, _, _, _⟩ :: _) _ _); go_must (refine wpl_storeN (.tmp 13) (.tmp 74) rfl _ rfl rfl x rfl rfl ?_))
  rw [HV0.out]
  generalize w9.heap.size = X at *
  generalize w3.heap.size = T at *
  have hKeep : Hid (∀ (U U' : World), Below V0.heap.size V0 U → Below U.heap.size U U' → Below V0.heap.size V0 U') := hid (fun U U' h hb => h.trans (hb.mono h.size))
  refine wp_region_held_drew (S := fun V => Below V0.heap.size V0 V) (by kernel_rfl) (Below.refl _ _).drew (fun hS => ?_)
  change wpAnyH _ _ _ _ _ 25 #[false, false, false, false, false, false, false, false, false, false, false, false, false, false, false, false, false, false, false, false, false, false, false, false, false] _ _
  refine wpAnyH_take (i := 0) (v := .pointer (some ⟨T, 0, none⟩)) rfl (by kernel_rfl) (by kernel_rfl) (by kernel_rfl) (fun _ _ _ h => h) (.inl ⟨by kernel_rfl, fun V hV => by unfold execOp; go_simp⟩) hS ?_
  simp only [List.getElem_toArray, List.getElem_cons_zero, List.getElem_cons_succ, Act.put, List.setIfInBounds_toArray, List.set_cons_zero, List.set_cons_succ]
  refine wpAnyH_take (i := 1) (v := .int .i64 (M' : Int)) rfl (by kernel_rfl) (by kernel_rfl) (by kernel_rfl) (fun _ _ _ h => h) (.inl ⟨by kernel_rfl, fun V hV => by have c0 : V.cell? ⟨T, 0, none⟩ = some (.int .i64 (M' : Int)) := (HK0.out.kept hV).cell 0; unfold execOp; go_simp⟩) hS ?_
  simp only [List.getElem_toArray, List.getElem_cons_zero, List.getElem_cons_succ, Act.put, List.setIfInBounds_toArray, List.set_cons_zero, List.set_cons_succ]
  refine wpAnyH_take (i := 2) (v := .int .i64 (M' : Int)) rfl (by kernel_rfl) (by kernel_rfl) (by kernel_rfl) (fun _ _ _ h => h) (.inl ⟨by kernel_rfl, fun V hV => by unfold execOp; go_simp⟩) hS ?_
  simp only [List.getElem_toArray, List.getElem_cons_zero, List.getElem_cons_succ, Act.put, List.setIfInBounds_toArray, List.set_cons_zero, List.set_cons_succ]
  refine wpAnyH_take (i := 3) (v := .bool true) rfl (by kernel_rfl) (by kernel_rfl) (by kernel_rfl) (fun _ _ _ h => h) (.inl ⟨by kernel_rfl, fun V hV => by unfold execOp; go_simp⟩) hS ?_
  simp only [List.getElem_toArray, List.getElem_cons_zero, List.getElem_cons_succ, Act.put, List.setIfInBounds_toArray, List.set_cons_zero, List.set_cons_succ]
  refine wpAnyH_take (i := 4) (v := .bool true) rfl (by kernel_rfl) (by kernel_rfl) (by kernel_rfl) (fun _ _ _ h => h) (.inl ⟨by kernel_rfl, fun V hV => by unfold execOp; go_simp⟩) hS ?_
  simp only [List.getElem_toArray, List.getElem_cons_zero, List.getElem_cons_succ, Act.put, List.setIfInBounds_toArray, List.set_cons_zero, List.set_cons_succ]
  refine wpAnyH_take (i := 5) (v := .agg #[.int .i64 (M' : Int), .slice ab bl cp, .slice (some ⟨S, 0, none⟩) M' M']) rfl (by kernel_rfl) (by kernel_rfl) (by kernel_rfl) (fun _ _ _ h => h) (yields_load 27 (.tmp 8) rfl T rfl 27 _ _ (fun V h => HK0.out.kept h) Tryz.underlying27 rfl 3 Tryz.infoTable rfl (by kernel_rfl)) hS ?_
  simp only [List.getElem_toArray, List.getElem_cons_zero, List.getElem_cons_succ, Act.put, List.setIfInBounds_toArray, List.set_cons_zero, List.set_cons_succ]
  refine wpAnyH_ready (rs := [6]) (by kernel_rfl) (by simp) ?_
  refine AllReadyH.cons rfl (fun K' hK => ?_) AllReadyH.nil
  refine step_call 12 #[.agg #[.int .i64 (M' : Int), .slice ab bl cp, .slice (some ⟨S, 0, none⟩) M' M']] (by kernel_rfl) (by kernel_rfl) (.bool true) (HRg.out _ hS) (fun V3 h => hK.out _ _ (hKeep.out _ _ hS h) (fun hS => ?_))
  simp only [List.getElem_toArray, List.getElem_cons_zero, List.getElem_cons_succ, Act.put, List.setIfInBounds_toArray, List.set_cons_zero, List.set_cons_succ]
  refine wpAnyH_take (i := 7) (v := .bool true) rfl (by kernel_rfl) (by kernel_rfl) (by kernel_rfl) (fun _ _ _ h => h) (.inl ⟨by kernel_rfl, fun V hV => by unfold execOp; go_simp⟩) hS ?_
  simp only [List.getElem_toArray, List.getElem_cons_zero, List.getElem_cons_succ, Act.put, List.setIfInBounds_toArray, List.set_cons_zero, List.set_cons_succ]
  refine wpAnyH_take (i := 8) (v := .bool true) rfl (by kernel_rfl) (by kernel_rfl) (by kernel_rfl) (fun _ _ _ h => h) (.inl ⟨by kernel_rfl, fun V hV => by unfold execOp; go_simp⟩) hS ?_
  simp only [List.getElem_toArray, List.getElem_cons_zero, List.getElem_cons_succ, Act.put, List.setIfInBounds_toArray, List.set_cons_zero, List.set_cons_succ]
  refine wpAnyH_take (i := 9) (v := .bool true) rfl (by kernel_rfl) (by kernel_rfl) (by kernel_rfl) (fun _ _ _ h => h) (.inl ⟨by kernel_rfl, fun V hV => by unfold execOp; go_simp⟩) hS ?_
  simp only [List.getElem_toArray, List.getElem_cons_zero, List.getElem_cons_succ, Act.put, List.setIfInBounds_toArray, List.set_cons_zero, List.set_cons_succ]
  refine wpAnyH_take (i := 10) (v := .bool true) rfl (by kernel_rfl) (by kernel_rfl) (by kernel_rfl) (fun _ _ _ h => h) (.inl ⟨by kernel_rfl, fun V hV => by unfold execOp; go_simp⟩) hS ?_
  simp only [List.getElem_toArray, List.getElem_cons_zero, List.getElem_cons_succ, Act.put, List.setIfInBounds_toArray, List.set_cons_zero, List.set_cons_succ]
  refine wpAnyH_take (i := 11) (v := .bool true) rfl (by kernel_rfl) (by kernel_rfl) (by kernel_rfl) (fun _ _ _ h => h) (.inl ⟨by kernel_rfl, fun V hV => by unfold execOp; go_simp⟩) hS ?_
  simp only [List.getElem_toArray, List.getElem_cons_zero, List.getElem_cons_succ, Act.put, List.setIfInBounds_toArray, List.set_cons_zero, List.set_cons_succ]
  refine wpAnyH_take (i := 12) (v := .agg (encP x)) rfl (by kernel_rfl) (by kernel_rfl) (by kernel_rfl) (fun _ _ _ h => h) (yields_load 41 (.tmp 13) rfl X rfl 41 _ _ (fun V h => HP0.out.kept h) Tryz.underlying41 rfl 18 Tryz.infoPoint HXs.out.symm (by kernel_rfl)) hS ?_
  simp only [List.getElem_toArray, List.getElem_cons_zero, List.getElem_cons_succ, Act.put, List.setIfInBounds_toArray, List.set_cons_zero, List.set_cons_succ]
  refine wpAnyH_take (i := 13) (v := .slice (some ⟨g, o, none⟩) bl cp2) rfl (by kernel_rfl) (by kernel_rfl) (by kernel_rfl) (fun _ _ _ h => h) (.inl ⟨by kernel_rfl, fun V hV => by unfold execOp; go_simp⟩) hS ?_
  simp only [List.getElem_toArray, List.getElem_cons_zero, List.getElem_cons_succ, Act.put, List.setIfInBounds_toArray, List.set_cons_zero, List.set_cons_succ]
  refine wpAnyH_take (i := 14) (v := .slice (some ⟨S2, 0, none⟩) M' M') rfl (by kernel_rfl) (by kernel_rfl) (by kernel_rfl) (fun _ _ _ h => h) (.inl ⟨by kernel_rfl, fun V hV => by unfold execOp; go_simp⟩) hS ?_
  simp only [List.getElem_toArray, List.getElem_cons_zero, List.getElem_cons_succ, Act.put, List.setIfInBounds_toArray, List.set_cons_zero, List.set_cons_succ]
  refine wpAnyH_take (i := 15) (v := .slice ay k cy) rfl (by kernel_rfl) (by kernel_rfl) (by kernel_rfl) (fun _ _ _ h => h) (.inl ⟨by kernel_rfl, fun V hV => by unfold execOp; go_simp⟩) hS ?_
  simp only [List.getElem_toArray, List.getElem_cons_zero, List.getElem_cons_succ, Act.put, List.setIfInBounds_toArray, List.set_cons_zero, List.set_cons_succ]
  refine wpAnyH_take (i := 16) (v := .int .i64 (M' : Int)) rfl (by kernel_rfl) (by kernel_rfl) (by kernel_rfl) (fun _ _ _ h => h) (.inl ⟨by kernel_rfl, fun V hV => by unfold execOp; go_simp⟩) hS ?_
  simp only [List.getElem_toArray, List.getElem_cons_zero, List.getElem_cons_succ, Act.put, List.setIfInBounds_toArray, List.set_cons_zero, List.set_cons_succ]
  refine wpAnyH_ready (rs := [17]) (by kernel_rfl) (by simp) ?_
  refine AllReadyH.cons rfl (fun K' hK => ?_) AllReadyH.nil
  refine step_call 13 #[.slice ay k cy, .int .i64 (M' : Int)] (by kernel_rfl) (by kernel_rfl) (.int .i64 (p : Int)) (HOf.out _ hS) (fun V3 h => hK.out _ _ (hKeep.out _ _ hS h) (fun hS => ?_))
  simp only [List.getElem_toArray, List.getElem_cons_zero, List.getElem_cons_succ, Act.put, List.setIfInBounds_toArray, List.set_cons_zero, List.set_cons_succ]
  refine wpAnyH_take (i := 18) (v := .pointer (some ⟨S2, p, none⟩)) rfl (by kernel_rfl) (by kernel_rfl) (by kernel_rfl) (fun _ _ _ h => h) (.inl ⟨by kernel_rfl, fun V hV => exec_idxI (.tmp 90) (.tmp 93) rfl S2 M' p rfl rfl hpm⟩) hS ?_
  simp only [List.getElem_toArray, List.getElem_cons_zero, List.getElem_cons_succ, Act.put, List.setIfInBounds_toArray, List.set_cons_zero, List.set_cons_succ]
  refine wpAnyH_take (i := 19) (v := .int .i64 (who : Int)) rfl (by kernel_rfl) (by kernel_rfl) (by kernel_rfl) (fun _ _ _ h => h) (.inl ⟨by kernel_rfl, fun V hV => by have c0 := HCw.out V hV; unfold execOp; go_simp⟩) hS ?_
  simp only [List.getElem_toArray, List.getElem_cons_zero, List.getElem_cons_succ, Act.put, List.setIfInBounds_toArray, List.set_cons_zero, List.set_cons_succ]
  refine wpAnyH_take (i := 20) (v := .pointer (some ⟨g, o + who * 18, none⟩)) rfl (by kernel_rfl) (by kernel_rfl) (by kernel_rfl) (fun _ _ _ h => h) (.inl ⟨by kernel_rfl, fun V hV => by have hlt := HWb2.out; unfold execOp; go_simp; try (intro h; omega)⟩) hS ?_
  simp only [List.getElem_toArray, List.getElem_cons_zero, List.getElem_cons_succ, Act.put, List.setIfInBounds_toArray, List.set_cons_zero, List.set_cons_succ]
  refine wpAnyH_take (i := 21) (v := .agg (encP x)) rfl (by kernel_rfl) (by kernel_rfl) (by kernel_rfl) (fun _ _ _ h => h) (yieldsIf_load_mid (by kernel_rfl) 41 (.tmp 96) rfl g (o + who * 18) rfl (encPL x) _ (fun V hV => HRa.out V hV) Tryz.underlying41 rfl (encPL_info0 x)) hS ?_
  simp only [List.getElem_toArray, List.getElem_cons_zero, List.getElem_cons_succ, Act.put, List.setIfInBounds_toArray, List.set_cons_zero, List.set_cons_succ]
  refine wpAnyH_take (i := 22) (v := .bool true) rfl (by kernel_rfl) (by kernel_rfl) (by kernel_rfl) (fun _ _ _ h => h) (.inl ⟨by kernel_rfl, fun V hV => exec_eqlP 41 (.tmp 88) (.tmp 97) rfl (encP x) (encP x) true rfl rfl (HHeq.out V)⟩) hS ?_
  simp only [List.getElem_toArray, List.getElem_cons_zero, List.getElem_cons_succ, Act.put, List.setIfInBounds_toArray, List.set_cons_zero, List.set_cons_succ]
  refine wpAnyH_take (i := 23) (v := .bool true) rfl (by kernel_rfl) (by kernel_rfl) (by kernel_rfl) (fun _ _ _ h => h) (.inl ⟨by kernel_rfl, fun V hV => by unfold execOp; go_simp⟩) hS ?_
  simp only [List.getElem_toArray, List.getElem_cons_zero, List.getElem_cons_succ, Act.put, List.setIfInBounds_toArray, List.set_cons_zero, List.set_cons_succ]
  refine wpAnyH_take (i := 24) (v := .bool true) rfl (by kernel_rfl) (by kernel_rfl) (by kernel_rfl) (fun _ _ _ h => h) (.inl ⟨by kernel_rfl, fun V hV => by unfold execOp; go_simp⟩) hS ?_
  simp only [List.getElem_toArray, List.getElem_cons_zero, List.getElem_cons_succ, Act.put, List.setIfInBounds_toArray, List.set_cons_zero, List.set_cons_succ]
  refine wpAnyH_done (by kernel_rfl) ?_ _
  go_wp2
  go_ret
  exact ⟨rfl, bel2 HB0.out hS⟩
end Go.Proofs.YtahconkjhneogaaGreatDoor

namespace Go.Proofs.YtahconkjhneogaaGreatDoor
open Go.RowKit Go.Extern.Stop Go.Stop Go.Extern

theorem Tryz.isTypeOf (v : Value) (w : World) : (Extern.ReflectliteType.typeOf #[.iface 152 v]).run Tryz.prog w = .ok (.iface 107 (.agg #[.pointer (some ⟨20, 152, none⟩)])) w := by kernel_rfl
theorem Tryz.isComparable (w : World) : (callFunc 133 #[.agg #[.pointer (some ⟨20, 152, none⟩)]]).run Tryz.prog w = .ok (Next.value (.bool true)) w := by kernel_rfl
theorem Tryz.isMethodComparable (v : Value) (w : World) : (Go.method 288 107 v "Comparable").run Tryz.prog w = .ok (133, v) w := by kernel_rfl
theorem Tryz.isComp : (Tryz.prog.info? 152).map (·.comparable) = some true := by kernel_rfl
theorem Tryz.isSize : (Tryz.prog.info? 176).map (·.size) = some 1 := by kernel_rfl
theorem Tryz.noIsE (v : Value) (xT : TypeId) (w : World) : (Instr.typeAssert (.iface 152 v) xT 109 true).run Tryz.prog w = .ok (.tuple #[.nilIface, .bool false]) w := run_typeAssert_lacksB Tryz.underlying109 (by kernel_rfl) (by kernel_rfl) v xT w
theorem Tryz.noUnwrapE (v : Value) (xT : TypeId) (w : World) : (Instr.typeAssert (.iface 152 v) xT 112 true).run Tryz.prog w = .ok (.tuple #[.nilIface, .bool false]) w := run_typeAssert_lacksB Tryz.underlying112 (by kernel_rfl) (by kernel_rfl) v xT w
theorem Tryz.noUnwrapsE (v : Value) (xT : TypeId) (w : World) : (Instr.typeAssert (.iface 152 v) xT 114 true).run Tryz.prog w = .ok (.tuple #[.nilIface, .bool false]) w := run_typeAssert_lacksB Tryz.underlying114 (by kernel_rfl) (by kernel_rfl) v xT w

set_option maxHeartbeats 400000 in
theorem is_same (a : Addr) (w : World) :
    Calls Tryz.prog 30 #[.iface 152 (.pointer (some a)), .iface 152 (.pointer (some a))] w fun e w' => e = .returned (.bool true) ∧ w = w' := by
  obtain ⟨i, hi, hcmp⟩ := Option.map_eq_some_iff.1 Tryz.isComp
  obtain ⟨j, hj, hjs⟩ := Option.map_eq_some_iff.1 Tryz.isSize
  have h8 := @run_callFunc_extern Tryz.prog 53 _ Extern.ReflectliteType.typeOf Tryz.func53 (by kernel_rfl) (by kernel_rfl) (by kernel_rfl) (by kernel_rfl)
  have tT := Tryz.isTypeOf
  have cT := Tryz.isComparable
  have mR := Tryz.isMethodComparable
  have heq := run_eql_iface_ptr_same (P := Tryz.prog) w a Tryz.underlying29 Tryz.underlying152 hi hcmp hj
  go_enter Tryz.func30, Tryz.ntmps30
  go_wp2
  refine wp_loop_rounds 1 ?_
  rw [rounds_succ]
  go_wp2
  go_ret
  exact ⟨rfl, rfl⟩

set_option maxHeartbeats 400000 in
theorem is_other (a b : Addr) (ca cb : Array Value) (ta tb : TypeId) (w : World) (hne : a ≠ b) (ha : w.heap[a.block]? = some (.cells ca ta (0, 0))) (hb : w.heap[b.block]? = some (.cells cb tb (0, 0))) :
    Calls Tryz.prog 30 #[.iface 152 (.pointer (some a)), .iface 152 (.pointer (some b))] w fun e w' => e = .returned (.bool false) ∧ w = w' := by
  obtain ⟨i, hi, hcmp⟩ := Option.map_eq_some_iff.1 Tryz.isComp
  obtain ⟨j, hj, hjs⟩ := Option.map_eq_some_iff.1 Tryz.isSize
  have h8 := @run_callFunc_extern Tryz.prog 53 _ Extern.ReflectliteType.typeOf Tryz.func53 (by kernel_rfl) (by kernel_rfl) (by kernel_rfl) (by kernel_rfl)
  have tT := Tryz.isTypeOf
  have cT := Tryz.isComparable
  have mR := Tryz.isMethodComparable
  have nE := Tryz.noIsE
  have uE := Tryz.noUnwrapE
  have vE := Tryz.noUnwrapsE
  have heq := run_eql_iface_ptr_other (P := Tryz.prog) w Tryz.underlying29 Tryz.underlying152 hi hcmp hj (by rw [hjs]; decide) hne ha hb
  go_enter Tryz.func30, Tryz.ntmps30
  go_wp2
  refine wp_loop_rounds 1 ?_
  rw [rounds_succ]
  go_wp2
  go_ret
  exact ⟨rfl, rfl⟩
end Go.Proofs.YtahconkjhneogaaGreatDoor

namespace Go.Proofs.YtahconkjhneogaaGreatDoor
open Go.RowKit

/-- Where the errors lie, by their numbers. -/
def gi (i : Nat) : Nat := [0, 4, 5, 6, 7, 8, 9, 1, 10, 11, 2, 12, 3, 13, 14, 15, 16, 17].getD i 0

/-- The first n package-level variables hold n different errors of errors.New's make. -/
structure Errs (n : Nat) (a : Nat → Addr) (w : World) : Prop where
  cell : ∀ i, i < n → w.cell? ⟨gi i, 0, none⟩ = some (.iface 152 (.pointer (some (a i))))
  block : ∀ i, i < n → ∃ c t, w.heap[(a i).block]? = some (.cells c t (0, 0))
  apart : ∀ i j, i < n → j < n → i ≠ j → a i ≠ a j

theorem Errs.below {n : Nat} {a : Nat → Addr} {w w' : World} (h : Errs n a w) (hb : Below w.heap.size w w') : Errs n a w' := by
  refine ⟨fun i hi => ?_, fun i hi => ?_, h.apart⟩
  · rw [hb.cell (World.block_lt_of_cell? w _ (h.cell i hi))]
    exact h.cell i hi
  · obtain ⟨c, t, hc⟩ := h.block i hi
    exact ⟨c, t, by rw [hb.block _ (Array.getElem?_eq_some_iff.1 hc).1]; exact hc⟩

/-- The list of all errors, as linkboynum.Num makes it. -/
def errList (a : Nat → Addr) : Array Value := #[.iface 152 (.pointer (some (a 0))), .iface 152 (.pointer (some (a 1))), .iface 152 (.pointer (some (a 2))), .iface 152 (.pointer (some (a 3))), .iface 152 (.pointer (some (a 4))), .iface 152 (.pointer (some (a 5))), .iface 152 (.pointer (some (a 6))), .iface 152 (.pointer (some (a 7))), .iface 152 (.pointer (some (a 8))), .iface 152 (.pointer (some (a 9))), .iface 152 (.pointer (some (a 10))), .iface 152 (.pointer (some (a 11))), .iface 152 (.pointer (some (a 12))), .iface 152 (.pointer (some (a 13))), .iface 152 (.pointer (some (a 14))), .iface 152 (.pointer (some (a 15))), .iface 152 (.pointer (some (a 16))), .iface 152 (.pointer (some (a 17)))]
theorem errList_at (a : Nat → Addr) (k : Nat) (h : k < 18) : (errList a)[k]? = some (.iface 152 (.pointer (some (a k)))) := by
  have : k = 0 ∨ k = 1 ∨ k = 2 ∨ k = 3 ∨ k = 4 ∨ k = 5 ∨ k = 6 ∨ k = 7 ∨ k = 8 ∨ k = 9 ∨ k = 10 ∨ k = 11 ∨ k = 12 ∨ k = 13 ∨ k = 14 ∨ k = 15 ∨ k = 16 ∨ k = 17 := by omega
  rcases this with rfl | rfl | rfl | rfl | rfl | rfl | rfl | rfl | rfl | rfl | rfl | rfl | rfl | rfl | rfl | rfl | rfl | rfl <;> rfl

set_option maxHeartbeats 400000 in
theorem num_nil (w : World) : Calls Tryz.prog 8 #[.nilIface] w fun e w' => e = .returned (.int .i64 0) ∧ w = w' := by
  go_enter Tryz.func8, Tryz.ntmps8
  go_wp2
  go_ret
  exact ⟨rfl, rfl⟩

set_option maxRecDepth 100000 in
set_option maxHeartbeats 1000000 in
theorem num_err (a : Nat → Addr) (m : Nat) (hm : m < 18) (w : World) (hE : Errs 18 a w) :
    Calls Tryz.prog 8 #[.iface 152 (.pointer (some (a m)))] w fun e w' => e = .returned (.int .i64 ((m : Int) + 1)) ∧ Below w.heap.size w w' := by
  have c0 : w.cell? ⟨0, 0, none⟩ = _ := hE.cell 0 (by omega)
  have c1 : w.cell? ⟨4, 0, none⟩ = _ := hE.cell 1 (by omega)
  have c2 : w.cell? ⟨5, 0, none⟩ = _ := hE.cell 2 (by omega)
  have c3 : w.cell? ⟨6, 0, none⟩ = _ := hE.cell 3 (by omega)
  have c4 : w.cell? ⟨7, 0, none⟩ = _ := hE.cell 4 (by omega)
  have c5 : w.cell? ⟨8, 0, none⟩ = _ := hE.cell 5 (by omega)
  have c6 : w.cell? ⟨9, 0, none⟩ = _ := hE.cell 6 (by omega)
  have c7 : w.cell? ⟨1, 0, none⟩ = _ := hE.cell 7 (by omega)
  have c8 : w.cell? ⟨10, 0, none⟩ = _ := hE.cell 8 (by omega)
  have c9 : w.cell? ⟨11, 0, none⟩ = _ := hE.cell 9 (by omega)
  have c10 : w.cell? ⟨2, 0, none⟩ = _ := hE.cell 10 (by omega)
  have c11 : w.cell? ⟨12, 0, none⟩ = _ := hE.cell 11 (by omega)
  have c12 : w.cell? ⟨3, 0, none⟩ = _ := hE.cell 12 (by omega)
  have c13 : w.cell? ⟨13, 0, none⟩ = _ := hE.cell 13 (by omega)
  have c14 : w.cell? ⟨14, 0, none⟩ = _ := hE.cell 14 (by omega)
  have c15 : w.cell? ⟨15, 0, none⟩ = _ := hE.cell 15 (by omega)
  have c16 : w.cell? ⟨16, 0, none⟩ = _ := hE.cell 16 (by omega)
  have c17 : w.cell? ⟨17, 0, none⟩ = _ := hE.cell 17 (by omega)
  go_enter Tryz.func8, Tryz.ntmps8
  go_wp2
  have hW : ∃ W, W = w.alloc (.cells (errList a) 29) := ⟨_, rfl⟩
  obtain ⟨W, hW⟩ := hW
  have hb : Below w.heap.size w W := by rw [hW]; exact (Below.refl _ _).alloc (Nat.le_refl _) _
  have hEW : Errs 18 a W := hE.below hb
  have hcl : ∀ k, k < 18 → W.cell? ⟨w.heap.size, k, none⟩ = some (.iface 152 (.pointer (some (a k)))) := by
    intro k hk
    rw [hW, cell_of_row (w.alloc (.cells (errList a) 29)) w.heap.size k (errList a) 29 (0, 0) (heap_alloc_new w _)]
    exact errList_at a k hk
  have e0 : w.alloc (.cells #[.iface 152 (.pointer (some (a 0))), .iface 152 (.pointer (some (a 1))), .iface 152 (.pointer (some (a 2))), .iface 152 (.pointer (some (a 3))), .iface 152 (.pointer (some (a 4))), .iface 152 (.pointer (some (a 5))), .iface 152 (.pointer (some (a 6))), .iface 152 (.pointer (some (a 7))), .iface 152 (.pointer (some (a 8))), .iface 152 (.pointer (some (a 9))), .iface 152 (.pointer (some (a 10))), .iface 152 (.pointer (some (a 11))), .iface 152 (.pointer (some (a 12))), .iface 152 (.pointer (some (a 13))), .iface 152 (.pointer (some (a 14))), .iface 152 (.pointer (some (a 15))), .iface 152 (.pointer (some (a 16))), .iface 152 (.pointer (some (a 17)))] 29) = W := hW.symm
  rw [e0]
  have HC := Lib.hid hcl
  clear hcl e0 hW c0 c1 c2 c3 c4 c5 c6 c7 c8 c9 c10 c11 c12 c13 c14 c15 c16 c17
  go_loop [29] (fun i => ∃ k : Nat, k ≤ m ∧ i = .int .i64 k) (fun i => 18 - (intOf i).toNat)
  case atStart => exact ⟨0, Nat.zero_le _, rfl⟩
  case round =>
    obtain ⟨k, hk, rfl⟩ := hrel
    have hc := HC.out k (by omega)
    by_cases hkm : k = m
    · subst hkm
      go_wp2_with (go_at_call 30; refine (is_same _ _).mono ?_; rintro e w' ⟨rfl, rfl⟩)
      go_ret
      exact ⟨rfl, hb⟩
    · obtain ⟨cm, tm, hm1⟩ := hEW.block m hm
      obtain ⟨ck, tk, hk1⟩ := hEW.block k (by omega)
      have hne := hEW.apart m k hm (by omega) (fun h => hkm h.symm)
      have HI := Lib.hid (is_other (a m) (a k) cm ck tm tk W hne hm1 hk1)
      clear hm1 hk1 hne
      go_wp2_with (go_at_call 30; refine (HI.out).mono ?_; rintro e w' ⟨rfl, rfl⟩)
      go_round
      case rel => exact ⟨k + 1, by omega, by go_num⟩
      case measure => simp [intOf]; omega
end Go.Proofs.YtahconkjhneogaaGreatDoor

namespace Go.Proofs.YtahconkjhneogaaGreatDoor
open Go.RowKit Go.Lib

theorem fillE_vals (xs : List PS) (m : Int) : fillE xs m = 0 ∨ fillE xs m = 1 ∨ fillE xs m = 8 ∨ fillE xs m = 11 ∨ fillE xs m = 13 := by
  unfold fillE
  split
  · simp
  · split
    · simp
    · split
      · simp
      · split <;> simp

theorem menv_errs {a : Nat → Addr} {w : World} (hf : FEnv w) (hA : Errs 18 a w) : MEnv (fun i => (152, .pointer (some (a (i - 1))))) w :=
  ⟨hf, hA.cell 0 (by decide), hA.cell 7 (by decide), hA.cell 10 (by decide), hA.cell 12 (by decide)⟩

theorem fills_any (a : Nat → Addr) (ax : Option Addr) (cx : Nat) (xs : List PS) (ys : List Int) (ay : Option Addr) (cy : Nat) (m : Int) (hcx : xs.length ≤ cx) (hax : ax = none → xs.length = 0 ∧ cx = 0) (hay : ay = none → ys.length = 0 ∧ cy = 0) (w : World) (hf : FEnv w) (hA : Errs 18 a w) (hX : Elems encP 18 w.heap.size w ax xs) (hby : Byt ys) (hY : Bys w.heap.size w ay ys) :
    Calls Tryz.prog 3 #[.slice ax xs.length cx, .int .i64 m, .slice ay ys.length cy] w fun e w' => e = .returned (.bool true) ∧ Below w.heap.size w w' := by
  have hE := menv_errs hf hA
  by_cases h : 40 < xs.length ∨ 200 < ys.length
  · exact fills_long _ ax cx xs.length ys.length ay cy m h w hE
  · by_cases h0 : fillE xs m = 0
    · exact fills_ok _ ax cx xs ys ay cy m (by omega) (by omega) hcx hax hay h0 w hE hX hby hY (fun V _ => (num_nil V).mono fun e w' h => ⟨h.1, h.2 ▸ Below.refl _ _⟩)
    · refine fills_err _ ax cx xs ys.length ay cy m (by omega) (by omega) hcx hax h0 w hE hX (fun V hb => ?_)
      have hv := fillE_vals xs m
      have hn := num_err a (fillE xs m - 1) (by omega) V (hA.below hb)
      have e : ((fillE xs m - 1 : Nat) : Int) + 1 = (fillE xs m : Int) := by omega
      rw [e] at hn
      exact hn
end Go.Proofs.YtahconkjhneogaaGreatDoor

namespace Go.Proofs.YtahconkjhneogaaGreatDoor
open Go.RowKit Go.ChangeShapes

def sentinel (x : String × List UInt8) : String × DataW Unit := (x.1, .iface "*errors.errorString" (.ptr (.agg [.lit (.string x.2)])))

theorem Tryz.rowErr : ∀ u, Tryz.prog.typeName? 3 u = some "*errors.errorString" → u = 152 :=
  typeName_ptr_named (nm := "errors.errorString") (tp := 152) (by kernel_rfl) (by kernel_rfl) (by decide)

theorem laid_split {P : Program} {W : World} : ∀ (A B : List (String × DataW Unit)) (ps : List MemPlace), DataW.LaidVars P W (A ++ B) ps → ∃ p q, ps = p ++ q ∧ DataW.LaidVars P W A p ∧ DataW.LaidVars P W B q
  | [], B, ps, h => ⟨[], ps, rfl, rfl, h⟩
  | x :: A, B, ps, h => by
    obtain ⟨g, t, cs, fuel, p, q, hg0, ht0, hv, hd, hq, rfl⟩ := h
    obtain ⟨p', q', rfl, h1, h2⟩ := laid_split A B q hq
    exact ⟨_, q', by rw [← List.append_assoc], ⟨g, t, cs, fuel, p, p', hg0, ht0, hv, hd, h1, rfl⟩, h2⟩

set_option maxRecDepth 100000 in
theorem errs_laid {W : World} : ∀ (L : List (String × List UInt8)) (f : Nat → Nat) (ps : List MemPlace), DataW.LaidVars Tryz.prog W (L.map sentinel) ps →
    (∀ b off, MemPlace.cell b off ∈ ps → (∃ c t, W.heap[b]? = some (.cells c t (0, 0))) ∧ ∀ u v, W.cell? ⟨b, off, none⟩ = some (.iface u v) → Value.okWide Tryz.prog W .any 0 u v) →
    (∀ i x, L[i]? = some x → Tryz.prog.globalNamed x.1 = some (f i) ∧ (Tryz.prog.globals[f i]?).map (·.type) = some 29) →
    ∃ adrs : List Addr, adrs.length = L.length ∧ (adrs.map fun a => MemPlace.cell a.block a.off).Sublist ps ∧
      ∀ i, i < L.length → W.cell? ⟨f i, 0, none⟩ = some (.iface 152 (.pointer (some (adrs.getD i ⟨0, 0, none⟩)))) ∧ ∃ c t, W.heap[(adrs.getD i ⟨0, 0, none⟩).block]? = some (.cells c t (0, 0))
  | [], f, ps, h, _, _ => ⟨[], rfl, by simp, fun i hi => by cases hi⟩
  | x :: L, f, ps, h, hrows, hg => by
    obtain ⟨g, t, cs, fuel, p, q, hg0, ht0, hv, hd, hq, rfl⟩ := h
    obtain ⟨hgn, hty⟩ := hg 0 x rfl
    obtain rfl := Option.some.inj (hgn.symm.trans hg0)
    obtain rfl := Option.some.inj (hty.symm.trans ht0)
    obtain ⟨l⟩ := cs
    have ok : ∀ u v, l = [.iface u v] → Value.okWide Tryz.prog W .any 0 u v := fun u v e => by
      subst e
      exact (hrows (f 0) 0 (by simp [MemPlace.row])).2 u v (by simpa using World.var?_cell hg0 hv 0)
    obtain ⟨a, s, rfl, hc, hs, hz, rfl⟩ := errorString_of_trod Tryz.underlying29 Tryz.rowErr Tryz.underlying152 Tryz.underlying176 rfl rfl Tryz.underlying9 (by kernel_rfl) (by kernel_rfl) hd ok
    obtain ⟨adrs, hl, hsub, hall⟩ := errs_laid L (fun i => f (i + 1)) q hq (fun b off hm => hrows b off (List.mem_append_right _ hm))
      (fun i y hy => hg (i + 1) y (by simpa using hy))
    refine ⟨a :: adrs, by simp [hl], ?_, ?_⟩
    · rw [List.map_cons, List.append_assoc]
      refine List.Sublist.trans ?_ (List.sublist_append_right _ _)
      simpa [MemPlace.row] using hsub
    · intro i hi
      cases i with
      | zero =>
        refine ⟨by simpa using World.var?_cell hg0 hv 0, ?_⟩
        exact (hrows a.block a.off (by simp [MemPlace.row])).1
      | succ i =>
        have := hall i (by simpa using hi)
        simpa using this

theorem errs_of {W : World} (A B : List (String × DataW Unit)) (L : List (String × List UInt8)) (h : laidMet Tryz.prog (A ++ (L.map sentinel ++ B)) W)
    (hg : ∀ i x, L[i]? = some x → Tryz.prog.globalNamed x.1 = some (gi i) ∧ (Tryz.prog.globals[gi i]?).map (·.type) = some 29) : ∃ a, Errs L.length a W := by
  obtain ⟨ps0, hv, hnd0, hrows0⟩ := h
  obtain ⟨p1, q1, rfl, _, hv⟩ := laid_split _ _ ps0 hv
  obtain ⟨ps, q2, rfl, hv, _⟩ := laid_split _ _ q1 hv
  have hnd : ps.Nodup := (hnd0.sublist (List.sublist_append_right _ _)).sublist (List.sublist_append_left _ _)
  have hrows : ∀ b off, MemPlace.cell b off ∈ ps → (∃ c t, W.heap[b]? = some (.cells c t (0, 0))) ∧ ∀ u v, W.cell? ⟨b, off, none⟩ = some (.iface u v) → Value.okWide Tryz.prog W .any 0 u v := fun b off hm => hrows0 b off (List.mem_append_right _ (List.mem_append_left _ hm))
  obtain ⟨adrs, hl, hsub, hall⟩ := errs_laid L gi ps hv hrows hg
  have hn := List.Nodup.sublist hsub hnd
  refine ⟨fun i => adrs.getD i ⟨0, 0, none⟩, fun i hi => (hall i hi).1, fun i hi => (hall i hi).2, fun i j hi hj hne heq => ?_⟩
  have hi' : i < adrs.length := by omega
  have hj' : j < adrs.length := by omega
  simp only [List.getD, List.getElem?_eq_getElem hi', List.getElem?_eq_getElem hj', Option.getD_some] at heq
  have := List.pairwise_iff_getElem.1 hn
  exfalso
  rcases Nat.lt_or_ge i j with h1 | h1
  · exact this i j (by simpa using hi') (by simpa using hj') h1 (by rw [List.getElem_map, List.getElem_map, heq])
  · rcases Nat.lt_or_ge j i with h2 | h2
    · exact this j i (by simpa using hj') (by simpa using hi') h2 (by rw [List.getElem_map, List.getElem_map, heq])
    · omega

def names18 : List (String × List UInt8) := [("linkboy/api.ErrRange", [97, 32, 110, 117, 109, 98, 101, 114, 32, 105, 115, 32, 111, 117, 116, 32, 111, 102, 32, 105, 116, 115, 32, 114, 97, 110, 103, 101]), ("linkboy/api.ErrShort", [115, 111, 109, 101, 116, 104, 105, 110, 103, 32, 105, 115, 32, 109, 105, 115, 115, 105, 110, 103, 32, 97, 116, 32, 116, 104, 101, 32, 101, 110, 100]), ("linkboy/api.ErrLong", [116, 104, 101, 114, 101, 32, 105, 115, 32, 109, 111, 114, 101, 32, 116, 104, 97, 110, 32, 109, 97, 121, 32, 98, 101]), ("linkboy/api.ErrForm", [105, 116, 32, 105, 115, 32, 110, 111, 116, 32, 111, 102, 32, 105, 116, 115, 32, 102, 111, 114, 109]), ("linkboy/api.ErrSum", [116, 104, 101, 32, 99, 104, 101, 99, 107, 115, 117, 109, 32, 105, 115, 32, 110, 111, 116, 32, 114, 105, 103, 104, 116]), ("linkboy/api.ErrName", [105, 116, 32, 105, 115, 32, 110, 111, 32, 114, 105, 103, 104, 116, 32, 110, 97, 109, 101]), ("linkboy/api.ErrKind", [105, 116, 32, 105, 115, 32, 111, 102, 32, 97, 110, 111, 116, 104, 101, 114, 32, 107, 105, 110, 100]), ("linkboy/api.ErrAddress", [105, 116, 32, 105, 115, 32, 110, 111, 32, 114, 105, 103, 104, 116, 32, 97, 100, 100, 114, 101, 115, 115]), ("linkboy/api.ErrVersion", [116, 104, 101, 32, 118, 101, 114, 115, 105, 111, 110, 32, 105, 115, 32, 110, 111, 116, 32, 111, 110, 101]), ("linkboy/api.ErrStale", [105, 116, 32, 105, 115, 32, 111, 108, 100, 101, 114, 32, 116, 104, 97, 110, 32, 119, 104, 97, 116, 32, 105, 115, 32, 107, 110, 111, 119, 110]), ("linkboy/api.ErrNone", [116, 104, 101, 114, 101, 32, 105, 115, 32, 110, 111, 110, 101]), ("linkboy/api.ErrDup", [105, 116, 32, 105, 115, 32, 116, 104, 101, 114, 101, 32, 97, 108, 114, 101, 97, 100, 121]), ("linkboy/api.ErrFull", [116, 104, 101, 114, 101, 32, 97, 114, 101, 32, 97, 115, 32, 109, 97, 110, 121, 32, 97, 115, 32, 109, 97, 121, 32, 98, 101]), ("linkboy/api.ErrFail", [105, 116, 32, 102, 97, 105, 108, 101, 100, 32, 111, 110, 32, 116, 104, 101, 32, 119, 97, 121]), ("linkboy/api.ErrState", [105, 116, 32, 99, 97, 110, 32, 110, 111, 116, 32, 98, 101, 32, 100, 111, 110, 101, 32, 105, 110, 32, 116, 104, 105, 115, 32, 115, 116, 97, 116, 101]), ("linkboy/api.ErrDown", [105, 116, 32, 105, 115, 32, 100, 111, 119, 110]), ("linkboy/api.ErrProto", [105, 116, 32, 105, 115, 32, 111, 102, 32, 97, 110, 111, 116, 104, 101, 114, 32, 112, 114, 111, 116, 111, 99, 111, 108]), ("linkboy/api.ErrIndex", [97, 32, 112, 108, 97, 99, 101, 32, 105, 115, 32, 110, 111, 116, 32, 105, 110, 32, 116, 104, 101, 32, 108, 105, 115, 116])]
theorem globals18 : ((List.range 18).all fun i => (names18[i]?.map fun x => Tryz.prog.globalNamed x.1 == some (gi i)) == some true && ((Tryz.prog.globals[gi i]?).map (·.type) == some 29)) = true := by kernel_rfl
theorem named18 : ∀ i x, names18[i]? = some x → Tryz.prog.globalNamed x.1 = some (gi i) ∧ (Tryz.prog.globals[gi i]?).map (·.type) = some 29 := by
  intro i x hx
  have hi : i < 18 := (List.getElem?_eq_some_iff.1 hx).1
  have := List.all_eq_true.1 globals18 i (List.mem_range.2 hi)
  simpa [hx] using this
end Go.Proofs.YtahconkjhneogaaGreatDoor
