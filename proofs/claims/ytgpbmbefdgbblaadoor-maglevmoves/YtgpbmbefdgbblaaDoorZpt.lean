/-
  ports.Point; slices.IndexFunc and slices.ContainsFunc with the closure that asks for what is no point.
-/
import Derived.Test.YtgpbmbefdgbblaaDoorZapp
import Derived.Deep.LoopGhost
import Derived.Deep.DeepMust
import Derived.Deep.Cut
namespace Go.Proofs.YtgpbmbefdgbblaaDoor
open Go.RowKit Go.Shelf Go.Lib Go.Sort

/-- Is it a point? -/
def isPt (x : PS) : Bool := (x.1.1 || flat (ints x.1.2.1)) && rp x.1.2.2

theorem aright_any (s : Bool) (b : List Int) (hl : b.length = 16) (w : World) : Calls Tryd.prog 24 #[.agg (adr s b)] w fun e w' => e = .returned (.bool (s || flat b)) ∧ Below w.heap.size w w' := by
  cases s
  · exact (right_four b hl w).mono fun e w' ⟨h1, h2⟩ => ⟨by rw [h1, Bool.false_or], h2⟩
  · exact (right_six b w).mono fun e w' ⟨h1, h2⟩ => ⟨by rw [h1, Bool.true_or], h2⟩

set_option maxRecDepth 100000 in
set_option maxHeartbeats 4000000 in
theorem ppoint_any (x : PS) (w : World) : Calls Tryd.prog 15 #[.agg (encP x)] w fun e w' => e = .returned (.bool (isPt x)) ∧ Below w.heap.size w w' := by
  have hl : (ints x.1.2.1).length = 16 := by rw [ints_length, x.2.1]
  have HE : Hid (isPt x = ((x.1.1 || flat (ints x.1.2.1)) && rp x.1.2.2)) := hid rfl
  have ex : encP x = pnt x.1.1 (ints x.1.2.1) x.1.2.2 := rfl
  rw [ex]
  generalize x.1.1 = s at *
  generalize ints x.1.2.1 = b at *
  generalize x.1.2.2 = n at *
  generalize isPt x = R at *
  obtain ⟨W0, hW0⟩ : ∃ W, W = w.alloc (.cells (pnt s b n) 36) := ⟨_, rfl⟩
  have hB0 : Blk W0 w.heap.size 36 (pnt s b n) := hW0 ▸ Blk.new w _ _
  have HW0 := hid hW0.symm
  have Hb0 : Hid (Below w.heap.size w W0) := hid (hW0 ▸ (Below.refl _ _).alloc (Nat.le_refl _) _)
  have HB0 := hid hB0
  have HL := hid hl
  have HA := hid (fun W => aright_any s b hl W)
  have HP := hid (fun W => pright_any n W)
  clear hW0 hB0 hl ex
  generalize (s || flat b) = a at *
  generalize rp n = q at *
  cases a
  · go_enter Tryd.func15, Tryd.ntmps15
    go_upto_region 1 with fail
    rw [HW0.out]
    go_wp2_with ((show wpList _ _ _ (⟨some 4, _, _, _, _, _⟩ :: _) _ _); go_must (refine wpl_load_padr (.tmp 3) rfl w.heap.size rfl s b n HB0.out HL.out rfl ?_))
    refine (HA.out _).mono ?_
    rintro e w2 ⟨rfl, hb⟩
    have Hb := hid (bel2 Hb0.out hb)
    clear hb
    go_wp2
    go_ret
    exact ⟨congrArg (fun z => Ending.returned (.bool z)) (by rw [HE.out]; rfl), Hb.out⟩
  · go_enter Tryd.func15, Tryd.ntmps15
    go_upto_region 1 with fail
    rw [HW0.out]
    go_wp2_with ((show wpList _ _ _ (⟨some 4, _, _, _, _, _⟩ :: _) _ _); go_must (refine wpl_load_padr (.tmp 3) rfl w.heap.size rfl s b n HB0.out HL.out rfl ?_))
    refine (HA.out _).mono ?_
    rintro e w2 ⟨rfl, hb⟩
    have hp : w2.cell? ⟨w.heap.size, 17, none⟩ = some (.int .i64 n) := pnt_portCell (HB0.out.kept hb) HL.out
    have Hb := hid (bel2 Hb0.out hb)
    clear hb
    go_wp2_with fail
    refine (HP.out _).mono ?_
    rintro e w3 ⟨rfl, rfl⟩
    go_wp2
    go_ret
    exact ⟨congrArg (fun z => Ending.returned (.bool z)) (by rw [HE.out]; rfl), Hb.out⟩

set_option maxRecDepth 100000 in
set_option maxHeartbeats 4000000 in
theorem nopt_any (x : PS) (w : World) : Calls Tryd.prog 14 #[.agg (encP x)] w fun e w' => e = .returned (.bool (!isPt x)) ∧ Below w.heap.size w w' := by
  obtain ⟨W0, hW0⟩ : ∃ W, W = w.alloc (.cells (encP x) 36) := ⟨_, rfl⟩
  have hB0 : Blk W0 w.heap.size 36 (encP x) := hW0 ▸ Blk.new w _ _
  have HW0 := hid hW0.symm
  have Hb0 : Hid (Below w.heap.size w W0) := hid (hW0 ▸ (Below.refl _ _).alloc (Nat.le_refl _) _)
  have HB0 := hid hB0
  have HP := hid (fun W => ppoint_any x W)
  have HS := hid (encP_size x)
  generalize isPt x = q at *
  clear hW0 hB0
  go_enter Tryd.func14, Tryd.ntmps14
  go_upto_region 1 with fail
  rw [HW0.out]
  go_wp2_with ((show wpList _ _ _ (⟨some 3, _, _, _, _, _⟩ :: _) _ _); go_must (refine wpl_load 36 (.tmp 1) rfl w.heap.size rfl _ _ _ HB0.out Tryd.underlying36 rfl 18 Tryd.infoPoint HS.out.symm rfl ?_))
  refine (HP.out _).mono ?_
  rintro e w2 ⟨rfl, hb⟩
  have Hb := hid (bel2 Hb0.out hb)
  clear hb
  go_wp2
  go_ret
  exact ⟨rfl, Hb.out⟩

def anyNo (xs : List PS) : Bool := xs.any fun c => !isPt c

section
variable {ops : Array Oper} {rest : List Oper} {o : Oper} {a : Act} {w : World} {Q : Exit → Act → World → Prop}
theorem encPL_info0 (c : PS) : (Tryd.prog.info? 36).map (·.size) = some (encPL c).length := by rw [encPL_length]; exact Tryd.infoPoint
/-- A point out of a row. -/
theorem wpl_loadP (x : Operand) (ho : o.op = .load 36 x) (b off : Nat) (hx : a.eval x = .pointer (some ⟨b, off, none⟩)) (c : PS) (hc : w.rangeAt b off (encPL c))
    (hw : Region.wanted o (yielded ops a.tmps) = true) (h : wpList Tryd.prog ops Q rest (a.put o.dst (.agg (encP c))) w) : wpList Tryd.prog ops Q (o :: rest) a w :=
  BigFrame.wpList_want hw fun _ hK => wp_load_mid 36 x ho b off hx (encPL c) _ hc Tryd.underlying36 rfl (encPL_info0 c) (hK _ _ (by rw [encP_back]; exact h))
/-- A point out of a block of its own. -/
theorem wpl_loadB (x : Operand) (ho : o.op = .load 36 x) (g : Nat) (hx : a.eval x = .pointer (some ⟨g, 0, none⟩)) (c : PS) (hg : Blk w g 36 (encP c))
    (hw : Region.wanted o (yielded ops a.tmps) = true) (h : wpList Tryd.prog ops Q rest (a.put o.dst (.agg (encP c))) w) : wpList Tryd.prog ops Q (o :: rest) a w :=
  wpl_load 36 x ho g hx _ _ _ hg Tryd.underlying36 rfl 18 Tryd.infoPoint (encP_size c).symm hw h
/-- A point put into a block just made. -/
theorem wpl_storeN {W : World} (x y : Operand) (ho : o.op = .store 36 x y) (z : Array Value) (hz : z.size = 18) (hx : a.eval x = .pointer (some ⟨W.heap.size, 0, none⟩)) (c : PS) (hy : a.eval y = .agg (encP c))
    (hw : Region.wanted o (yielded ops a.tmps) = true) (h : wpList Tryd.prog ops Q rest (a.put o.dst undef) (W.alloc (.cells (encP c) 36))) : wpList Tryd.prog ops Q (o :: rest) a (W.alloc (.cells z 36)) :=
  wpl_store 36 x y ho W.heap.size (encP c) hx hy 36 z (Blk.new W _ _) 18 Tryd.infoPoint (encP_size c).symm hz (encP_one c) hw (by rw [setRow_new]; exact h)
end

set_option maxRecDepth 100000 in
set_option maxHeartbeats 4000000 in
theorem index_any (ad : Option Addr) (cap : Nat) (xs : List PS) (hcap : xs.length ≤ cap) (hm : xs.length ≤ 100000) (w : World) (hI : Elems encP 18 w.heap.size w ad xs) :
    Calls Tryd.prog 23 #[.slice ad xs.length cap, .func (.func 14) #[] #[]] w fun e w' => ∃ r : Int, e = .returned (.int .i64 r) ∧ (decide (r ≥ 0) = anyNo xs ∧ Below w.heap.size w w') := by
  obtain ⟨n, hn⟩ : ∃ n, n = xs.length := ⟨_, rfl⟩
  rw [← hn] at hcap hm ⊢
  have Hn := hid hn
  have HI := hid hI
  have HC := hid (fun x W => nopt_any x W)
  have HN : Hid ((∀ j (hj : j < xs.length), (!isPt xs[j]) = false) → false = anyNo xs) := hid (fun h => by
    symm
    unfold anyNo
    rw [List.any_eq_false]
    intro c hc
    obtain ⟨j, hj, rfl⟩ := List.getElem_of_mem hc
    simp [h j hj])
  have HY : Hid (∀ j (hj : j < xs.length), (!isPt xs[j]) = true → true = anyNo xs) := hid (fun j hj h => by
    symm
    unfold anyNo
    rw [List.any_eq_true]
    exact ⟨xs[j], List.getElem_mem hj, h⟩)
  clear hn hI
  go_enter Tryd.func23, Tryd.ntmps23
  go_wp2
  go_loopg [8] n (fun g s8 wr => ∃ p : Nat, s8 = .int .i64 (p : Int) ∧ p ≤ n ∧ n - p ≤ g ∧ Hid (Below w.heap.size w wr) ∧ Hid (∀ j (hj : j < xs.length), j < p → (!isPt xs[j]) = false))
  case atStart => exact ⟨0, rfl, by omega, by omega, hid (Below.refl _ _), hid (fun j _ h => by omega)⟩
  case round =>
    obtain ⟨p, rfl, hp, hgp, HB, HF⟩ := hrel
    by_cases hlt : p < n
    · have hpx : p < xs.length := by have := Hn.out; omega
      obtain ⟨g0, o0, rfl, hg0, hr0⟩ := HI.out p hpx
      obtain ⟨x, hx⟩ : ∃ x, x = xs[p] := ⟨_, rfl⟩
      have HX : Hid (wr.rangeAt g0 (o0 + p * 18) (encPL x)) := hid (hx ▸ rangeAt_below HB.out hg0 hr0)
      have HCx := hid (HC.out x wr)
      have HXx := hid hx
      clear hx hr0
      by_cases hc : (!isPt x) = true
      · rw [hc] at HCx
        have HR : Hid (true = anyNo xs) := hid (HY.out p hpx (by rw [← HXx.out]; exact hc))
        clear hc
        go_wp2_with ((show wpList _ _ _ (⟨some 15, _, _, _, _, _⟩ :: _) _ _); go_must (refine wpl_loadP (.tmp 14) rfl g0 (o0 + p * 18) rfl x HX.out rfl ?_))
        refine HCx.out.mono ?_
        rintro e w2 ⟨rfl, hb⟩
        have Hb := hid (HB.out.trans (hb.mono HB.out.size))
        clear hb
        go_wp2
        go_ret
        exact ⟨_, rfl, by rw [← HR.out]; exact decide_eq_true (by omega), Hb.out⟩
      · have hc : (!isPt x) = false := by simpa using hc
        rw [hc] at HCx
        have HF2 : Hid (∀ j (hj : j < xs.length), j < p + 1 → (!isPt xs[j]) = false) := hid (fun j hj h => by
          by_cases e : j = p
          · subst e; rw [← HXx.out]; exact hc
          · exact HF.out j hj (by omega))
        clear hc
        go_wp2_with ((show wpList _ _ _ (⟨some 15, _, _, _, _, _⟩ :: _) _ _); go_must (refine wpl_loadP (.tmp 14) rfl g0 (o0 + p * 18) rfl x HX.out rfl ?_))
        refine HCx.out.mono ?_
        rintro e w2 ⟨rfl, hb⟩
        have Hb := hid (HB.out.trans (hb.mono HB.out.size))
        clear hb
        go_wp2
        go_roundg (n - (p + 1))
        case measure => omega
        case rel => exact ⟨p + 1, by go_num, by omega, Nat.le_refl _, Hb, HF2⟩
    · obtain rfl : p = n := by omega
      have HR : Hid (false = anyNo xs) := hid (HN.out (fun j hj => HF.out j hj (by have := Hn.out; omega)))
      go_wp2
      go_ret
      exact ⟨_, rfl, by rw [← HR.out]; exact decide_eq_false (by omega), HB.out⟩

set_option maxRecDepth 100000 in
set_option maxHeartbeats 4000000 in
theorem contains_any (ad : Option Addr) (cap : Nat) (xs : List PS) (hcap : xs.length ≤ cap) (hm : xs.length ≤ 100000) (w : World) (hI : Elems encP 18 w.heap.size w ad xs) :
    Calls Tryd.prog 13 #[.slice ad xs.length cap, .func (.func 14) #[] #[]] w fun e w' => e = .returned (.bool (anyNo xs)) ∧ Below w.heap.size w w' := by
  have H := hid (index_any ad cap xs hcap hm w hI)
  clear hcap hm hI
  go_enter Tryd.func13, Tryd.ntmps13
  go_wp2_with fail
  refine H.out.mono ?_
  rintro e w2 ⟨r, rfl, hr, hb⟩
  have Hr := hid hr
  have Hb := hid hb
  clear hr hb
  go_wp2
  go_ret
  exact ⟨by rw [← Hr.out]; rfl, Hb.out⟩
end Go.Proofs.YtgpbmbefdgbblaaDoor
