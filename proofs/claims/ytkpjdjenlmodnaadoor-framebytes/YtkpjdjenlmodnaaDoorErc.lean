/-
  The document's Cut.
-/
import Derived.Test.YtkpjdjenlmodnaaDoorEof
import Derived.Deep.QuietTactic
namespace Go.Proofs.YtkpjdjenlmodnaaDoor
open Go.RowKit Go.Lib

theorem Frs.grow {A : Nat → Prop} {W W' : World} {v v' : Value} {xs : List Value} {F : List Fr} (h : Frs A W xs F) (hA : ∀ g, A g → g < W.heap.size → some g ≠ v.ownBlock) (hg : W.grownBy W' v.ownBlock) (hf : Fresh W v v') :
    Frs (fun g => A g ∧ some g ≠ v'.ownBlock) W' xs F := by
  have h1 : Frs (fun g => A g ∧ g < W.heap.size) W xs F := h.mono fun g h1 h2 => ⟨h1, h2⟩
  have h2 : Frs (fun g => A g ∧ g < W.heap.size) W' xs F := h1.kept fun g h1 h2 => hg.block g h2 (hA g h1.1 h2)
  exact h2.mono fun g h3 _ => ⟨h3.1, fun e => by
    rcases hf g e.symm with e' | e'
    · exact hA g h3.1 h3.2 e'
    · have := h3.2
      omega⟩
/-- Where a cut slice begins. -/
def cutF (ad : Option Addr) (cap l : Nat) : Option Addr := if cap = l then ad else Option.map (fun x => x.add l) ad
theorem exec_cutF {o : Oper} {a : Act} {w : World} (x lo hi : Operand) (ho : o.op = .slice 22 x (some lo) (some hi) none) (ad : Option Addr) (len cap l h : Nat) (hx : a.eval x = .slice ad len cap) (hlo : a.eval lo = .int .i64 l) (hhi : a.eval hi = .int .i64 h) (h1 : l ≤ h) (h2 : h ≤ cap) {r : Nat} (e : h - l = r) :
    (execOp a.eval o).run Tryd.prog w = .ok (.value (.slice (cutF ad cap l) r (cap - l))) w := by
  subst e
  unfold execOp cutF
  simp only [ho, Option.map_some, Option.map_none, hx, hlo, hhi]
  clear hx hlo hhi ho
  go_simp
theorem bys_cutF {n₀ g o cap p n : Nat} {W : World} {bs : List Int} (h : Bys n₀ W (some ⟨g, o, none⟩) bs) (hc : bs.length ≤ cap) (hp : p + n ≤ bs.length) : Bys n₀ W (cutF (some ⟨g, o, none⟩) cap p) ((bs.drop p).take n) := fun j hj => by
  rw [List.length_take, List.length_drop] at hj
  obtain ⟨g', o', e1, hg, hc1⟩ := h (p + j) (by omega)
  cases e1
  unfold cutF
  rw [if_neg (by omega)]
  refine ⟨g, o + p, ?_, hg, ?_⟩
  · rw [Option.map_some, add_plain]
  · rw [Nat.add_assoc, hc1]
    simp [List.getD, List.getElem?_drop, show j < n by omega]

theorem exec_lit0F {o : Oper} {a : Act} {w : World} (ho : o.op = .buildSlice 22 0 #[]) :
    (execOp a.eval o).run Tryd.prog w = .ok (.value (.slice (some ⟨w.heap.size, 0, none⟩) 0 0)) (w.alloc (.cells #[] 5)) := by
  unfold execOp
  simp only [ho]
  go_simp
theorem exec_lit1F {o : Oper} {a : Act} {w : World} (x : Operand) (ho : o.op = .buildSlice 30 1 #[(0, x)]) (p : Int) (ad : Option Addr) (n cap : Nat) (hx : a.eval x = .agg #[.int .i64 p, .slice ad n cap]) :
    (execOp a.eval o).run Tryd.prog w = .ok (.value (.slice (some ⟨w.heap.size, 0, none⟩) 1 1)) (w.alloc (.cells #[.int .i64 p, .slice ad n cap] 50)) := by
  unfold execOp
  simp only [ho, hx, List.map_toArray, List.map_cons, List.map_nil]
  clear hx ho
  go_simp

/-- What the document's Cut ends in. -/
def RCutEnd (w : World) (bs : List Int) (e : Ending) (w' : World) : Prop :=
  ∃ v F xs n b, e = .returned (.tuple #[v, .int .i64 (n : Nat), .bool b]) ∧ Cuts bs F n b ∧ w'.ownsRow w.heap.size 50 2 v F.length xs ∧
    Frs (fun g => w.heap.size ≤ g ∧ some g ≠ v.ownBlock) w' xs F ∧ Below w.heap.size w w'
/-- What holds in its loop: so much is cut. -/
structure RCutI (w : World) (bs : List Int) (wr : World) (v : Value) (at' : Nat) (F : List Fr) (xs : List Value) : Prop where
  le : at' ≤ bs.length
  inv : ∀ F' n b, Cuts (bs.drop at') F' n b → Cuts bs (F ++ F') n b
  own : wr.ownsRow w.heap.size 50 2 v F.length xs
  frs : Frs (fun g => w.heap.size ≤ g ∧ some g ≠ v.ownBlock) wr xs F
  low : Below w.heap.size w wr
section
variable {w wr : World} {bs : List Int} {v : Value} {at' : Nat} {F : List Fr} {xs : List Value}
theorem RCutI.drewN (h : RCutI w bs wr v at' F xs) (n : Nat) : RCutI w bs (wr.drewN n) v at' F xs :=
  ⟨h.le, h.inv, own_same h.own fun _ _ => rfl, Frs.kept (w := wr) (w' := wr.drewN n) (fun _ _ _ => rfl) h.frs, h.low.trans ((sbelow_drewN wr n).mono h.low.size)⟩
theorem RCutI.ends (h : RCutI w bs wr v at' F xs) {n : Nat} {b : Bool} (hc : Cuts (bs.drop at') [] n b) {x : Int} (hx : x = (n : Nat)) : RCutEnd w bs (.returned (.tuple #[v, .int .i64 x, .bool b])) wr :=
  ⟨v, F, xs, n, b, by rw [hx], by simpa using h.inv _ _ _ hc, h.own, h.frs, h.low⟩
theorem RCutI.more {W V : World} {v' vf : Value} {hd : Nat} {f : Fr} (h : RCutI w bs wr v at' F xs) (hh : hdN (bs.drop at') = hd) (hf : frm (bs.drop at') = f) (h1 : 1 ≤ hd) (h2 : hd ≤ 1200) (h3 : at' + (2 + hd) ≤ bs.length) (hb : Below wr.heap.size wr W) (hv : BodyA (fun g => wr.heap.size ≤ g) W vf f.2)
    (ho : V.ownsRow w.heap.size 50 2 v' (F.length + 1) (xs ++ [.int .i64 f.1, vf])) (hg : W.grownBy V v.ownBlock) (hfr : Fresh W v v') :
    RCutI w bs V v' (at' + (2 + hd)) (F ++ [f]) (xs ++ [.int .i64 f.1, vf]) := by
  have hvb : ∀ g, v.ownBlock = some g → w.heap.size ≤ g ∧ g < wr.heap.size := fun g e => h.own.lt g e
  have hl := h.low.size
  have hl2 := hb.size
  refine ⟨h3, fun F' n b hc => ?_, ?_, ?_, ?_⟩
  · have hlen : (bs.drop at').length = bs.length - at' := List.length_drop ..
    have hc' : Cuts (bs.drop at') (frm (bs.drop at') :: F') n b := .whole (by omega) (by omega) (by omega) (by omega) (by rw [List.drop_drop, hh]; exact hc)
    have := h.inv _ _ _ hc'
    rw [hf] at this
    rw [List.append_assoc]
    exact this
  · rw [List.length_append]
    exact ho
  · have hfr0 : Frs (fun g => w.heap.size ≤ g ∧ some g ≠ v.ownBlock) W (xs ++ [.int .i64 f.1, vf]) (F ++ [f]) := Frs.app (h.frs.below hb) ⟨rfl, hv.mono fun g hg _ => ⟨by omega, fun e => by have := (hvb g e.symm).2; omega⟩, trivial⟩
    exact (hfr0.grow (fun g h _ => h.2) hg hfr).mono fun g h _ => ⟨h.1.1, h.2⟩
  · exact (h.low.trans (hb.mono hl)).grown hg (by omega) (fun k e => (hvb k e).1)
end
theorem own_body {w : World} {base : Nat} {v : Value} {ms : List Int} (h : w.ownsRow base 5 1 v ms.length (ms.map (Value.int .u8))) : BodyA (fun g => base ≤ g) w v ms := by
  rcases h.2 with ⟨h', h0⟩ | ⟨g, cap, cur, h', hb, hg, hk, _⟩
  · exact ⟨none, 0, by rw [h0]; exact h', by omega, fun _ => rfl, fun j hj => by omega⟩
  · subst h'
    refine ⟨some ⟨g, 0, none⟩, cap, rfl, hk, (fun e => by cases e), fun j hj => ⟨g, 0, rfl, hb, ?_⟩⟩
    rw [Nat.zero_add, h.cellAt j (by omega), List.getElem?_map, List.getD, List.getElem?_eq_getElem hj]
    rfl
theorem hd_drop (bs : List Int) (k : Nat) (hby : Byt bs) : ((hdN (bs.drop k) : Nat) : Int) = bs.getD k 0 * 256 + bs.getD (k + 1) 0 := by
  have h1 := hby k
  have h2 := hby (k + 1)
  have e1 : (bs.drop k).getD 0 0 = bs.getD k 0 := by simp [List.getD, List.getElem?_drop]
  have e2 : (bs.drop k).getD 1 0 = bs.getD (k + 1) 0 := by simp [List.getD, List.getElem?_drop]
  unfold hdN
  rw [e1, e2]
  omega
theorem frm_drop (bs : List Int) (k : Nat) : frm (bs.drop k) = (bs.getD (k + 2) 0, (bs.drop (k + 3)).take (hdN (bs.drop k) - 1)) := by
  unfold frm
  rw [List.drop_drop]
  simp [List.getD, List.getElem?_drop]

section
variable {w : World} {ad : Option Addr} {cap : Nat} {A : Nat → Prop}
set_option linter.unusedSimpArgs false in
set_option maxRecDepth 100000 in
set_option maxHeartbeats 8000000 in
theorem rcut_any (bs : List Int) (hr : RowA A w ad bs) (hc : bs.length ≤ cap) (hby : Byt bs) (hm : bs.length ≤ 900000) :
    Calls Tryd.prog 9 #[.slice ad bs.length cap] w (RCutEnd w bs) := by
  obtain ⟨i0, hi, hz0, hz1, hz2⟩ := info_parts Tryd.infoRFrame
  have HZ1 := hid hz1
  have HZ2 := hid hz2
  clear hz1 hz2
  have HBy := hid hby
  have HBs := hid hr.bys
  have HI0 : Hid (RCutI w bs (w.alloc (.cells #[] 50)) (.slice (some ⟨w.heap.size, 0, none⟩) 0 0) 0 [] []) := hid ⟨Nat.zero_le _, fun F' n b h => h, ⟨rfl, .inr ⟨w.heap.size, 0, #[], rfl, Nat.le_refl _, heap_alloc_last w _, Nat.le_refl _, Nat.zero_le _, rfl, rfl⟩⟩, trivial, (Below.refl _ w).alloc (Nat.le_refl _) _⟩
  clear hr hby
  obtain ⟨m, hmm⟩ : ∃ m, m = bs.length := ⟨_, rfl⟩
  rw [← hmm] at hc hm ⊢
  have HM := hid hmm
  clear hmm
  go_enter Tryd.func9, Tryd.ntmps9
  go_wp2
  go_loopg [5, 6] m (fun g v t wr => ∃ k : Nat, ∃ s : Value, ∃ F xs, k ≤ m ∧ g = m - k ∧ s = v ∧ t = .int .i64 k ∧ Hid (RCutI w bs wr s k F xs))
  case atStart => exact ⟨0, _, [], [], by omega, by omega, rfl, rfl, HI0⟩
  case round =>
    obtain ⟨k, s, F, xs, hk, rfl, rfl, rfl, HI⟩ := hrel
    by_cases h2 : k + 2 ≤ m
    · have HJ := hid (fun x hx => HBs.out x hx)
      obtain ⟨g0, o0, rfl, hg0, -⟩ := HBs.out k (by rw [← HM.out]; omega)
      have hcell : ∀ V, Below w.heap.size w V → ∀ j, j < m → V.cell? ⟨g0, o0 + j, none⟩ = some (.int .u8 (bs.getD j 0)) := fun V hV j hj => by
        obtain ⟨g', o', e1, hg, hc1⟩ := HJ.out j (by rw [← HM.out]; exact hj)
        cases e1
        exact (hV.cell hg).trans hc1
      have c0 := hcell wr HI.out.low k (by omega)
      have c1 := hcell wr HI.out.low (k + 1) (by omega)
      have HC2 : Hid (∀ V, Below w.heap.size w V → k + 2 < m → V.cell? ⟨g0, o0 + (k + 2), none⟩ = some (.int .u8 (bs.getD (k + 2) 0))) := hid fun V hV h => hcell V hV _ h
      have b0 := HBy.out k
      have b1 := HBy.out (k + 1)
      have HB2 := hid (HBy.out (k + 2))
      have hhd := hd_drop bs k HBy.out
      have HFr := hid (frm_drop bs k)
      have HBy3 : Hid (∀ V n, Below w.heap.size w V → k + 3 + n ≤ m → Bys w.heap.size V (cutF (some ⟨g0, o0, none⟩) cap (k + 3)) ((bs.drop (k + 3)).take n)) := hid fun V n hV h => by
        have := bys_cutF (p := k + 3) (n := n) (Bys.below hV HBs.out) (by rw [← HM.out]; exact hc) (by rw [← HM.out]; exact h)
        exact this
      have HTl : Hid (∀ n, k + 3 + n ≤ m → ((bs.drop (k + 3)).take n).length = n) := hid fun n h => by
        rw [HM.out] at h
        rw [List.length_take, List.length_drop]
        omega
      have hlen : (bs.drop k).length = m - k := by rw [List.length_drop, ← HM.out]
      have HEb : Hid (hdN (bs.drop k) = 0 ∨ 1200 < hdN (bs.drop k) → ∀ n, RCutEnd w bs (.returned (.tuple #[s, .int .i64 0, .bool true])) (wr.drewN n)) := hid fun h n => (HI.out.drewN n).ends (.bad (by omega) h) rfl
      have HEw : Hid (1 ≤ hdN (bs.drop k) → hdN (bs.drop k) ≤ 1200 → m - k < 2 + hdN (bs.drop k) → ∀ n, RCutEnd w bs (.returned (.tuple #[s, .int .i64 ((m : Int) - (k : Int)), .bool false])) (wr.drewN n)) := hid fun h1 h2' h3 n => (HI.out.drewN n).ends (.wait (by omega) h1 h2' (by omega)) (by omega)
      clear hlen HJ hcell hg0
      generalize bs.getD k 0 = x0 at *
      generalize bs.getD (k + 1) 0 = x1 at *
      generalize bs.getD (k + 2) 0 = x2 at *
      obtain ⟨hd, hhd'⟩ : ∃ hd, hd = hdN (bs.drop k) := ⟨_, rfl⟩
      rw [← hhd'] at hhd HFr HEb HEw
      have HHd := hid hhd'.symm
      have HX : Hid (x0 * 256 + x1 = (hd : Int)) := hid hhd.symm
      have hx3 : 0 ≤ x0 * 256 + x1 := by omega
      have hx4 : x0 * 256 + x1 ≤ 65535 := by omega
      clear hhd' hhd
      go_wp2
      go_quiet (fail)
      rw [HX.out]
      have hd4 : hd ≤ 65535 := by have := HX.out; omega
      clear hx3 hx4 c0 c1 b0 b1
      by_cases hz : hd = 0
      · have HE := hid (HEb.out (.inl hz))
        clear HEb HEw HC2 HB2 HFr HBy3 HTl HHd HX HI
        subst hz
        go_wp2
        go_ret3
        exact HE.out _
      by_cases hz2 : 1200 < hd
      · have HE := hid (HEb.out (.inr hz2))
        clear HEb HEw HC2 HB2 HFr HBy3 HTl HHd HX HI
        go_wp2
        go_ret3
        exact HE.out _
      have n1 : ¬ ((hd : Int) = 0) := by omega
      have n2 : ¬ ((1200 : Int) < (hd : Int)) := by omega
      by_cases hz3 : m - k < 2 + hd
      · have HE := hid (HEw.out (by omega) (by omega) hz3)
        have n3 : (m : Int) - (k : Int) - 2 < (hd : Int) := by omega
        clear HEb HEw HC2 HB2 HFr HBy3 HTl HHd HX HI
        go_wp2
        go_ret3
        exact HE.out _
      have h3' : k + 2 + hd ≤ m := by omega
      have n3 : ¬ ((m : Int) - (k : Int) - 2 < (hd : Int)) := by omega
      have hfr := HFr.out
      obtain ⟨ms, hms⟩ : ∃ ms, ms = (bs.drop (k + 3)).take (hd - 1) := ⟨_, rfl⟩
      have HMl : Hid (ms.length = hd - 1) := hid (by rw [hms]; exact HTl.out _ (by omega))
      have HMb : Hid (∀ V, Below w.heap.size w V → Bys w.heap.size V (cutF (some ⟨g0, o0, none⟩) cap (k + 3)) ms) := hid fun V hV => by rw [hms]; exact HBy3.out V _ hV (by omega)
      rw [← hms] at hfr
      have HFr2 := hid hfr
      have HCn : Hid (cutF (some ⟨g0, o0, none⟩) cap (k + 3) = none → hd - 1 = 0 ∧ cap - (k + 3) = 0) := hid fun e => by
        unfold cutF at e
        split at e <;> cases e
      have c2 : ∀ V, Below w.heap.size w V → V.cell? ⟨g0, o0 + (k + 2), none⟩ = some (.int .u8 x2) := fun V hV => HC2.out V hV (by omega)
      have HC3 := hid c2
      have HFl : Hid (F.length + 1 ≤ 1000000) := hid (by
        obtain ⟨F', n, b, hcc⟩ := Cuts.some (bs.drop k)
        have := (HI.out.inv _ _ _ hcc).few
        rw [List.length_append, ← HM.out] at this
        omega)
      clear hfr hms HBy3 HTl HFr HEb HEw HC2 c2
      go_upto_region 10 with fail
      obtain ⟨W, hW, hbW⟩ : ∃ W, W = (wr.drewN nq).drew ∧ Below wr.heap.size wr W := ⟨_, rfl, (sbelow_drewN wr _).drew⟩
      have HBW := hid hbW
      have HBw : Hid (Below w.heap.size w W) := hid (HI.out.low.trans (hbW.mono HI.out.low.size))
      refine wp_region_held_drew (S := fun V => Below w.heap.size w V) (by kernel_rfl) (by rw [← hW]; exact HBw.out) (fun hS => ?_)
      rw [← hW] at hS ⊢
      clear hW hbW
      change wpAnyH _ _ _ _ _ 21 #[false, false, false, false, false, false, false, false, false, false, false, false, false, false, false, false, false, false, false, false, false] _ _
      refine wpAnyH_take (i := 0) (v := s) rfl (by kernel_rfl) (by kernel_rfl) (by kernel_rfl) (fun _ _ _ h => h) (.inl ⟨by kernel_rfl, fun V hV => by unfold execOp; go_simp⟩) hS ?_
      simp only [List.getElem_toArray, List.getElem_cons_zero, List.getElem_cons_succ, Act.put, List.setIfInBounds_toArray, List.set_cons_zero, List.set_cons_succ]
      refine wpAnyH_take (i := 1) (v := .slice (some ⟨g0, o0, none⟩) m cap) rfl (by kernel_rfl) (by kernel_rfl) (by kernel_rfl) (fun _ _ _ h => h) (.inl ⟨by kernel_rfl, fun V hV => by unfold execOp; go_simp⟩) hS ?_
      simp only [List.getElem_toArray, List.getElem_cons_zero, List.getElem_cons_succ, Act.put, List.setIfInBounds_toArray, List.set_cons_zero, List.set_cons_succ]
      refine wpAnyH_take (i := 2) (v := .int .i64 (k : Int)) rfl (by kernel_rfl) (by kernel_rfl) (by kernel_rfl) (fun _ _ _ h => h) (.inl ⟨by kernel_rfl, fun V hV => by unfold execOp; go_simp⟩) hS ?_
      simp only [List.getElem_toArray, List.getElem_cons_zero, List.getElem_cons_succ, Act.put, List.setIfInBounds_toArray, List.set_cons_zero, List.set_cons_succ]
      refine wpAnyH_take (i := 3) (v := .int .i64 ((k + 2 : Nat) : Int)) rfl (by kernel_rfl) (by kernel_rfl) (by kernel_rfl) (fun _ _ _ h => h) (.inl ⟨by kernel_rfl, fun V hV => by have wz : IntKind.i64.wrap ((k : Int) + 2) = (k : Int) + 2 := (by rw [IntKind.wrap_i64]; omega); unfold execOp; go_simp⟩) hS ?_
      simp only [List.getElem_toArray, List.getElem_cons_zero, List.getElem_cons_succ, Act.put, List.setIfInBounds_toArray, List.set_cons_zero, List.set_cons_succ]
      refine wpAnyH_take (i := 4) (v := .pointer (some ⟨g0, o0 + (k + 2), none⟩)) rfl (by kernel_rfl) (by kernel_rfl) (by kernel_rfl) (fun _ _ _ h => h) (.inl ⟨by kernel_rfl, fun V hV => by have q1 : 0 ≤ (k : Int) + 2 ∧ (k : Int) + 2 < (m : Int) := (by omega); have q2 : ((k : Int) + 2).toNat = k + 2 := (by omega); unfold execOp; go_simp⟩) hS ?_
      simp only [List.getElem_toArray, List.getElem_cons_zero, List.getElem_cons_succ, Act.put, List.setIfInBounds_toArray, List.set_cons_zero, List.set_cons_succ]
      refine wpAnyH_take (i := 5) (v := .int .u8 x2) rfl (by kernel_rfl) (by kernel_rfl) (by kernel_rfl) (fun _ _ _ h => h) (.inl ⟨by kernel_rfl, fun V hV => by have c0 := HC3.out V hV; unfold execOp; go_simp⟩) hS ?_
      simp only [List.getElem_toArray, List.getElem_cons_zero, List.getElem_cons_succ, Act.put, List.setIfInBounds_toArray, List.set_cons_zero, List.set_cons_succ]
      refine wpAnyH_take (i := 6) (v := .int .i64 x2) rfl (by kernel_rfl) (by kernel_rfl) (by kernel_rfl) (fun _ _ _ h => h) (.inl ⟨by kernel_rfl, fun V hV => by have hb2 := HB2.out; have wz : IntKind.i64.wrap (x2) = x2 := (by rw [IntKind.wrap_i64]; omega); unfold execOp; go_simp⟩) hS ?_
      simp only [List.getElem_toArray, List.getElem_cons_zero, List.getElem_cons_succ, Act.put, List.setIfInBounds_toArray, List.set_cons_zero, List.set_cons_succ]
      refine wpAnyH_take (i := 8) (v := .slice (some ⟨g0, o0, none⟩) m cap) rfl (by kernel_rfl) (by kernel_rfl) (by kernel_rfl) (fun _ _ _ h => h) (.inl ⟨by kernel_rfl, fun V hV => by unfold execOp; go_simp⟩) hS ?_
      simp only [List.getElem_toArray, List.getElem_cons_zero, List.getElem_cons_succ, Act.put, List.setIfInBounds_toArray, List.set_cons_zero, List.set_cons_succ]
      refine wpAnyH_take (i := 9) (v := .int .i64 (k : Int)) rfl (by kernel_rfl) (by kernel_rfl) (by kernel_rfl) (fun _ _ _ h => h) (.inl ⟨by kernel_rfl, fun V hV => by unfold execOp; go_simp⟩) hS ?_
      simp only [List.getElem_toArray, List.getElem_cons_zero, List.getElem_cons_succ, Act.put, List.setIfInBounds_toArray, List.set_cons_zero, List.set_cons_succ]
      refine wpAnyH_take (i := 10) (v := .int .i64 ((k + 3 : Nat) : Int)) rfl (by kernel_rfl) (by kernel_rfl) (by kernel_rfl) (fun _ _ _ h => h) (.inl ⟨by kernel_rfl, fun V hV => by have wz : IntKind.i64.wrap ((k : Int) + 3) = (k : Int) + 3 := (by rw [IntKind.wrap_i64]; omega); unfold execOp; go_simp⟩) hS ?_
      simp only [List.getElem_toArray, List.getElem_cons_zero, List.getElem_cons_succ, Act.put, List.setIfInBounds_toArray, List.set_cons_zero, List.set_cons_succ]
      refine wpAnyH_take (i := 11) (v := .int .i64 (k : Int)) rfl (by kernel_rfl) (by kernel_rfl) (by kernel_rfl) (fun _ _ _ h => h) (.inl ⟨by kernel_rfl, fun V hV => by unfold execOp; go_simp⟩) hS ?_
      simp only [List.getElem_toArray, List.getElem_cons_zero, List.getElem_cons_succ, Act.put, List.setIfInBounds_toArray, List.set_cons_zero, List.set_cons_succ]
      refine wpAnyH_take (i := 12) (v := .int .i64 ((k + 2 : Nat) : Int)) rfl (by kernel_rfl) (by kernel_rfl) (by kernel_rfl) (fun _ _ _ h => h) (.inl ⟨by kernel_rfl, fun V hV => by have wz : IntKind.i64.wrap ((k : Int) + 2) = (k : Int) + 2 := (by rw [IntKind.wrap_i64]; omega); unfold execOp; go_simp⟩) hS ?_
      simp only [List.getElem_toArray, List.getElem_cons_zero, List.getElem_cons_succ, Act.put, List.setIfInBounds_toArray, List.set_cons_zero, List.set_cons_succ]
      refine wpAnyH_take (i := 13) (v := .int .i64 (hd : Int)) rfl (by kernel_rfl) (by kernel_rfl) (by kernel_rfl) (fun _ _ _ h => h) (.inl ⟨by kernel_rfl, fun V hV => by unfold execOp; go_simp⟩) hS ?_
      simp only [List.getElem_toArray, List.getElem_cons_zero, List.getElem_cons_succ, Act.put, List.setIfInBounds_toArray, List.set_cons_zero, List.set_cons_succ]
      refine wpAnyH_take (i := 14) (v := .int .i64 ((k + 2 + hd : Nat) : Int)) rfl (by kernel_rfl) (by kernel_rfl) (by kernel_rfl) (fun _ _ _ h => h) (.inl ⟨by kernel_rfl, fun V hV => by have wz : IntKind.i64.wrap ((k : Int) + 2 + (hd : Int)) = (k : Int) + 2 + (hd : Int) := (by rw [IntKind.wrap_i64]; omega); unfold execOp; go_simp⟩) hS ?_
      simp only [List.getElem_toArray, List.getElem_cons_zero, List.getElem_cons_succ, Act.put, List.setIfInBounds_toArray, List.set_cons_zero, List.set_cons_succ]
      refine wpAnyH_take (i := 15) (v := .slice (cutF (some ⟨g0, o0, none⟩) cap (k + 3)) (hd - 1) (cap - (k + 3))) rfl (by kernel_rfl) (by kernel_rfl) (by kernel_rfl) (fun _ _ _ h => h) (.inl ⟨by kernel_rfl, fun V hV => exec_cutF (.tmp 59) (.tmp 61) (.tmp 65) rfl (some ⟨g0, o0, none⟩) m cap (k + 3) (k + 2 + hd) (by kernel_rfl) (by kernel_rfl) (by kernel_rfl) (by omega) (by omega) (by omega)⟩) hS ?_
      simp only [List.getElem_toArray, List.getElem_cons_zero, List.getElem_cons_succ, Act.put, List.setIfInBounds_toArray, List.set_cons_zero, List.set_cons_succ]
      refine wpAnyH_ready (rs := [7]) (by kernel_rfl) (by simp) ?_
      refine AllReadyH.cons rfl (fun K' hK => ?_) AllReadyH.nil
      refine step_run (.slice (some ⟨W.heap.size, 0, none⟩) 0 0) (W.alloc (.cells #[] 5)) (exec_lit0F rfl) (by kernel_rfl) ?_
      have hb1 : Below W.heap.size W (W.alloc (.cells #[] 5)) := (Below.refl _ _).alloc (Nat.le_refl _) _
      have hown1 : (W.alloc (.cells #[] 5)).ownsRow W.heap.size 5 1 (.slice (some ⟨W.heap.size, 0, none⟩) 0 0) 0 [] := ⟨rfl, .inr ⟨W.heap.size, 0, #[], rfl, Nat.le_refl _, heap_alloc_last W _, Nat.le_refl _, Nat.zero_le _, rfl, rfl⟩⟩
      refine hK.out _ _ (hS.trans (hb1.mono hS.size)) (fun hS2 => ?_)
      simp only [List.getElem_toArray, List.getElem_cons_zero, List.getElem_cons_succ, Act.put, List.setIfInBounds_toArray, List.set_cons_zero, List.set_cons_succ]
      obtain ⟨W1, hW1⟩ : ∃ W1, W1 = W.alloc (.cells #[] 5) := ⟨_, rfl⟩
      rw [← hW1] at hb1 hown1 hS2 ⊢
      refine wpAnyH_ready (rs := [16]) (by kernel_rfl) (by simp) ?_
      refine AllReadyH.cons rfl (fun K' hK => ?_) AllReadyH.nil
      refine r_app (.tmp 58) (.tmp 66) rfl W.heap.size _ 0 [] (by kernel_rfl) hown1 (cutF (some ⟨g0, o0, none⟩) cap (k + 3)) (hd - 1) (cap - (k + 3)) ms (by kernel_rfl) HMl.out w.heap.size (HMb.out W1 hS2) HCn.out (by omega) hb1.size (by kernel_rfl) (fun v2 W2 hown2 hgr2 => ?_)
      have hb2 : Below W.heap.size W W2 := hb1.grown hgr2 hb1.size (fun k e => (hown1.lt k e).1)
      refine hK.out _ _ (HBw.out.trans (hb2.mono HBw.out.size)) (fun hS3 => ?_)
      simp only [List.getElem_toArray, List.getElem_cons_zero, List.getElem_cons_succ, Act.put, List.setIfInBounds_toArray, List.set_cons_zero, List.set_cons_succ]
      rw [Nat.zero_add, List.nil_append, ← HMl.out] at hown2
      have hbody := own_body hown2
      obtain ⟨ad2, cap2, rfl⟩ := own_shapeG hown2
      refine wpAnyH_take (i := 17) (v := .agg #[.int .i64 x2, .slice ad2 ms.length cap2]) rfl (by kernel_rfl) (by kernel_rfl) (by kernel_rfl) (fun _ _ _ h => h) (.inl ⟨by kernel_rfl, fun V hV => by unfold execOp; go_simp⟩) hS3 ?_
      simp only [List.getElem_toArray, List.getElem_cons_zero, List.getElem_cons_succ, Act.put, List.setIfInBounds_toArray, List.set_cons_zero, List.set_cons_succ]
      refine wpAnyH_ready (rs := [18]) (by kernel_rfl) (by simp) ?_
      refine AllReadyH.cons rfl (fun K' hK => ?_) AllReadyH.nil
      refine step_run (.slice (some ⟨W2.heap.size, 0, none⟩) 1 1) (W2.alloc (.cells #[.int .i64 x2, .slice ad2 ms.length cap2] 50)) (exec_lit1F (.tmp 68) rfl _ _ _ _ (by kernel_rfl)) (by kernel_rfl) ?_
      have hb3 : Below W2.heap.size W2 (W2.alloc (.cells #[.int .i64 x2, .slice ad2 ms.length cap2] 50)) := (Below.refl _ _).alloc (Nat.le_refl _) _
      have hnc := new_cells W2 50 #[.int .i64 x2, .slice ad2 ms.length cap2]
      refine hK.out _ _ (hS3.trans (hb3.mono hS3.size)) (fun hS4 => ?_)
      simp only [List.getElem_toArray, List.getElem_cons_zero, List.getElem_cons_succ, Act.put, List.setIfInBounds_toArray, List.set_cons_zero, List.set_cons_succ]
      obtain ⟨W3, hW3⟩ : ∃ W3, W3 = W2.alloc (.cells #[.int .i64 x2, .slice ad2 ms.length cap2] 50) := ⟨_, rfl⟩
      rw [← hW3] at hb3 hnc hS4 ⊢
      have hb13 : Below wr.heap.size wr W3 := (HBW.out.trans (hb2.mono HBW.out.size)).trans (hb3.mono (by have := HBW.out.size; have := hb2.size; omega))
      have hown3 : W3.ownsRow w.heap.size 50 2 s F.length xs := own_same HI.out.own fun g e => hb13.block g (HI.out.own.lt g e).2
      have hbody3 : BodyA (fun g => wr.heap.size ≤ g) W3 (.slice ad2 ms.length cap2) ms := (hbody.kept fun g _ hg => hb3.block g hg).mono fun g hg _ => Nat.le_trans HBW.out.size hg
      refine wpAnyH_ready (rs := [19]) (by kernel_rfl) (by simp) ?_
      refine AllReadyH.cons rfl (fun K' hK => ?_) AllReadyH.nil
      refine r_appG (.tmp 51) (.tmp 69) rfl Tryd.underlying30 hi hz0 HZ1.out HZ2.out rfl (by decide) (by decide) w.heap.size s F.length xs (by kernel_rfl) hown3 (some ⟨W2.heap.size, 0, none⟩) 1 1 [.int .i64 x2, .slice ad2 ms.length cap2] (by kernel_rfl) rfl (fun ad e j u hu => by cases e; exact hnc j u hu) (frame2 _ _ _ _) (fun e => by cases e) HFl.out hS4.size (by kernel_rfl) (fun v' W4 hown4 hgr4 hfr4 => ?_)
      have HI4 := hid (HI.out.more HHd.out HFr2.out (by omega) (by omega) (by rw [← HM.out]; omega) hb13 hbody3 hown4 hgr4 hfr4)
      refine hK.out _ _ HI4.out.low (fun hS5 => ?_)
      simp only [List.getElem_toArray, List.getElem_cons_zero, List.getElem_cons_succ, Act.put, List.setIfInBounds_toArray, List.set_cons_zero, List.set_cons_succ]
      refine wpAnyH_take (i := 20) (v := v') rfl (by kernel_rfl) (by kernel_rfl) (by kernel_rfl) (fun _ _ _ h => h) (.inl ⟨by kernel_rfl, fun V hV => by unfold execOp; go_simp⟩) hS5 ?_
      simp only [List.getElem_toArray, List.getElem_cons_zero, List.getElem_cons_succ, Act.put, List.setIfInBounds_toArray, List.set_cons_zero, List.set_cons_succ]
      refine wpAnyH_done (by kernel_rfl) ?_ _
      clear hK K' hS hS2 hS3 hS4 hS5 hown1 hown2 hown3 hown4 hgr2 hgr4 hfr4 hb1 hb2 hb3 hb13 hbody hbody3 hnc hW1 hW3 HI
      go_wp2
      go_roundg (m - (k + (2 + hd)))
      case measure => omega
      case rel => exact ⟨k + (2 + hd), v', _, _, by omega, rfl, rfl, by go_num, HI4⟩
    · have HE : Hid (RCutEnd w bs (.returned (.tuple #[s, .int .i64 ((m : Int) - (k : Int)), .bool false])) wr) := hid (HI.out.ends (.short (by rw [List.length_drop, ← HM.out]; omega)) (by rw [List.length_drop, ← HM.out]; omega))
      clear HI
      go_wp2
      go_ret3
      exact HE.out
end
end Go.Proofs.YtkpjdjenlmodnaaDoor
