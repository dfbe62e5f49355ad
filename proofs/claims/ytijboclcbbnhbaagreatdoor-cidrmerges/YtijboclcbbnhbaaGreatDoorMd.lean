/-
  The calls of layer 3 at cidrs as a sort takes them; whole cidrs loaded and stored.
  slices.IndexFunc and slices.ContainsFunc with the closure of cidr.Any; cidr.Any; the chapter's example.
  The closure of cidr.Merge: does the last one that was kept cover a cidr?
-/
import Derived.Test.YtijboclcbbnhbaaGreatDoorMc
import Derived.Test.YtijboclcbbnhbaaGreatDoorMa
import Derived.Deep.DeepMust
namespace Go.Proofs.YtijboclcbbnhbaaGreatDoor
open Go.RowKit Go.Shelf Go.Lib Go.Sort

def covS (a b : CS) : Bool := covT a.1 b.1
def rightS (a : CS) : Bool := rightT a.1
theorem cidrS_cov : Cov cmpS covS rightS (fun _ => True) where
  refl a _ := cidr_cov.refl a.1 a.2
  anti a b _ _ h := Subtype.ext (cidr_cov.anti a.1 b.1 a.2 b.2 h)
  swap a b _ _ := cidr_cov.swap a.1 b.1 a.2 b.2
  trans a b c _ _ _ := cidr_cov.trans a.1 b.1 c.1 a.2 b.2 c.2
  self a _ := cidr_cov.self a.1 a.2
  rights a b _ _ := cidr_cov.rights a.1 b.1 a.2 b.2
  first a b _ _ h hne := cidr_cov.first a.1 b.1 a.2 b.2 h (fun e => hne (Subtype.ext e))
  through a b c _ _ _ := cidr_cov.through a.1 b.1 c.1 a.2 b.2 c.2
  between a b c _ _ _ := cidr_cov.between a.1 b.1 c.1 a.2 b.2 c.2

/-- What the package-level variables hold. -/
structure CEnv (w : World) : Prop where
  env : ∃ E, Env E w
  env3 : ∃ u p u' p', Env3 (.iface u p) (.iface u' p') w
theorem CEnv.kept {w w' : World} (h : CEnv w) (hb : Below w.heap.size w w') : CEnv w' := by
  obtain ⟨⟨E, hE⟩, u, p, u', p', h3⟩ := h
  exact ⟨⟨E, hE.kept hb⟩, u, p, u', p', h3.kept hb⟩

theorem cright_s (x : CS) (w : World) (hE : CEnv w) : Calls Tryz.prog 18 #[.agg (encA x)] w fun e w' => e = .returned (.bool (rightS x)) ∧ Below w.heap.size w w' := by
  obtain ⟨_, u, p, u', p', h3⟩ := hE
  have h := cright_any x.1.1 x.1.2.1 x.2.1 x.2.2 x.1.2.2 u u' p p' w h3
  rw [right_eq x.1.1 x.1.2.1 x.2.1 x.2.2] at h
  exact h
theorem ccov_s (x y : CS) (w : World) (hE : CEnv w) : Calls Tryz.prog 14 #[.agg (encA x), .agg (encA y)] w fun e w' => e = .returned (.bool (covS x y)) ∧ Below w.heap.size w w' := by
  obtain ⟨_, u, p, u', p', h3⟩ := hE
  have hr := fun w hE => cright_any y.1.1 y.1.2.1 y.2.1 y.2.2 y.1.2.2 u u' p p' w hE
  have hc := fun w hE => cont_any x.1.1 y.1.1 x.1.2.1 y.1.2.1 x.2.1 y.2.1 y.2.2 x.1.2.2 u u' p p' w hE
  rw [right_eq y.1.1 y.1.2.1 y.2.1 y.2.2] at hr
  rw [cont_eq x.1.1 y.1.1 x.1.2.1 y.1.2.1 x.2.1 x.2.2] at hc
  refine (ccov_walk x.1.1 y.1.1 (ints x.1.2.1) (ints y.1.2.1) (by rw [ints_length, x.2.1]) (by rw [ints_length, y.2.1]) x.1.2.2 y.1.2.2 _ _ _ _ w h3 hr hc).mono ?_
  rintro e w' ⟨rfl, hb⟩
  refine ⟨?_, hb⟩
  unfold covS covT coversC
  generalize rightC y.1.1 (ints y.1.2.1) y.1.2.2 = r
  generalize containsC x.1.1 (ints x.1.2.1) x.1.2.2 y.1.1 (ints y.1.2.1) = q
  cases r <;> cases q <;> simp
theorem rright_s (x : CS) (w : World) : Calls Tryz.prog 19 #[.agg (encA x)] w fun e w' => e = .returned (.bool (rightS x)) ∧ Below w.heap.size w w' := rright_any x.1.1 x.1.2.1 x.2.1 x.2.2 x.1.2.2 w
theorem rcov_s (x y : CS) (w : World) : Calls Tryz.prog 22 #[.agg (encA x), .agg (encA y)] w fun e w' => e = .returned (.bool (covS x y)) ∧ Below w.heap.size w w' := rcov_any x.1.1 y.1.1 x.1.2.1 y.1.2.1 x.2.1 y.2.1 x.2.2 y.2.2 x.1.2.2 y.1.2.2 w
theorem rcmp_s (x y : CS) (w : World) : Calls Tryz.prog 23 #[.agg (encA x), .agg (encA y)] w fun e w' => e = .returned (.int .i64 (cmpS x y)) ∧ Below w.heap.size w w' := rcmp_any x.1.1 y.1.1 x.1.2.1 y.1.2.1 x.2.1 y.2.1 x.1.2.2 y.1.2.2 w
theorem rcont_s (x : CS) (sa : Bool) (A : List Nat) (hla : A.length = 16) (hA : ∀ x ∈ A, x < 256) (w : World) : Calls Tryz.prog 6 #[.agg (encA x), .agg (adr sa (ints A))] w fun e w' => e = .returned (.bool (contT x.1 sa A)) ∧ Below w.heap.size w w' := rcont_any x.1.1 sa x.1.2.1 A x.2.1 hla x.2.2 hA x.1.2.2 w
theorem any1_s (x : CS) (sa : Bool) (A : List Nat) (hla : A.length = 16) (hA : ∀ x ∈ A, x < 256) (w : World) (hE : CEnv w) (g : Nat) (hg : Blk w g 25 (adr sa (ints A))) :
    Calls Tryz.prog 25 #[.agg (encA x), .pointer (some ⟨g, 0, none⟩)] w fun e w' => e = .returned (.bool (contT x.1 sa A)) ∧ Below w.heap.size w w' := by
  obtain ⟨_, u, p, u', p', h3⟩ := hE
  have h := any1_any x.1.1 sa x.1.2.1 A x.2.1 hla hA x.1.2.2 u u' p p' w h3 g hg
  rw [cont_eq x.1.1 sa x.1.2.1 A x.2.1 x.2.2] at h
  exact h

theorem encC_info (c : CS) : (Tryz.prog.info? 29).map (·.size) = some (encC c).length := by rw [encC_length]; exact Tryz.infoCidr

section
variable {ops : Array Oper} {rest : List Oper} {o : Oper} {a : Act} {w : World} {Q : Exit → Act → World → Prop}
/-- A cidr out of a row. -/
theorem wpl_loadC (x : Operand) (ho : o.op = .load 29 x) (b off : Nat) (hx : a.eval x = .pointer (some ⟨b, off, none⟩)) (c : CS) (hc : w.rangeAt b off (encC c))
    (hw : Region.wanted o (yielded ops a.tmps) = true) (h : wpList Tryz.prog ops Q rest (a.put o.dst (.agg (encA c))) w) : wpList Tryz.prog ops Q (o :: rest) a w :=
  BigFrame.wpList_want hw fun _ hK => wp_load_mid 29 x ho b off hx (encC c) _ hc Tryz.underlying29 rfl (encC_info c) (hK _ _ (by rw [encA_back]; exact h))
/-- A cidr out of a block of its own. -/
theorem wpl_loadB (x : Operand) (ho : o.op = .load 29 x) (g : Nat) (hx : a.eval x = .pointer (some ⟨g, 0, none⟩)) (c : CS) (hg : Blk w g 29 (encA c))
    (hw : Region.wanted o (yielded ops a.tmps) = true) (h : wpList Tryz.prog ops Q rest (a.put o.dst (.agg (encA c))) w) : wpList Tryz.prog ops Q (o :: rest) a w :=
  wpl_load 29 x ho g hx _ _ _ hg Tryz.underlying29 rfl 18 Tryz.infoCidr (encA_size c).symm hw h
/-- A cidr put into a block just made. -/
theorem wpl_storeN {W : World} (x y : Operand) (ho : o.op = .store 29 x y) (z : Array Value) (hz : z.size = 18) (hx : a.eval x = .pointer (some ⟨W.heap.size, 0, none⟩)) (c : CS) (hy : a.eval y = .agg (encA c))
    (hw : Region.wanted o (yielded ops a.tmps) = true) (h : wpList Tryz.prog ops Q rest (a.put o.dst undef) (W.alloc (.cells (encA c) 29))) : wpList Tryz.prog ops Q (o :: rest) a (W.alloc (.cells z 29)) :=
  wpl_store 29 x y ho W.heap.size (encA c) hx hy 29 z (Blk.new W _ _) 18 Tryz.infoCidr (encA_size c).symm hz (encA_one c) hw (by rw [setRow_new]; exact h)
theorem wpl_appY (s x : Operand) (ho : o.op = .call { callee := .builtin .append, args := #[s, x], argTypes := #[22, 22] }) (base : Nat) (v : Value) (n : Nat) (xs : List Value) (hs : a.eval s = v) (hown : w.ownsRow base 29 18 v n xs)
    (ao : Option Addr) (m c : Nat) (ks : List CS) (hx : a.eval x = .slice ao m c) (hl : ks.length = m) (n₀ : Nat) (hb : Elems encA 18 n₀ w ao ks) (hn : ao = none → m = 0 ∧ c = 0)
    (h63 : n + m ≤ 1000000) (hbase : base ≤ w.heap.size) (hw : Region.wanted o (yielded ops a.tmps) = true)
    (h : ∀ v' w', w'.ownsRow base 29 18 v' (n + m) (xs ++ flatY encA ks) → w.grownBy w' v.ownBlock → wpList Tryz.prog ops Q rest (a.put o.dst v') w') : wpList Tryz.prog ops Q (o :: rest) a w :=
  BigFrame.wpList_want hw fun K hK => by
    have := r_appK (ops := ops) (K := K) (Q := Q) (E := False) s x ho base v n xs hs hown ao m c ks hx hl n₀ hb hn h63 hbase hw (fun v' w' h1 h2 => hK _ _ (h v' w' h1 h2))
    rw [if_pos hw] at this
    exact this
/-- A list of one cidr. -/
theorem wpl_lit1 (x : Operand) (ho : o.op = .buildSlice 22 1 #[(0, x)]) (c : CS) (hx : a.eval x = .agg (encA c)) (hw : Region.wanted o (yielded ops a.tmps) = true)
    (h : wpList Tryz.prog ops Q rest (a.put o.dst (.slice (some ⟨w.heap.size, 0, none⟩) 1 1)) (w.alloc (.cells (encA c) 29))) : wpList Tryz.prog ops Q (o :: rest) a w :=
  wpl_run _ _ (exec_lit1 x ho (encA c) hx (encA_size c)) hw h
end

/-- A block of its own is a row of one. -/
theorem blk_range {w : World} {g : Nat} {c : CS} (h : Blk w g 29 (encA c)) : w.rangeAt g 0 (encC c) := fun j v hv => by
  rw [Nat.zero_add, h.cell, ← Array.getElem?_toList]
  exact hv
end Go.Proofs.YtijboclcbbnhbaaGreatDoor

namespace Go.Proofs.YtijboclcbbnhbaaGreatDoor
open Go.RowKit Go.Shelf Go.Lib Go.Sort

theorem calive_s (w : World) (hE : CEnv w) : Calls Tryz.prog 4 #[] w fun e w' => e = .returned (.bool true) ∧ Below w.heap.size w w' := by
  obtain ⟨⟨E, h⟩, u, p, u', p', h3⟩ := hE
  exact alive3_any E u u' p p' w h h3

def anyS (xs : List CS) (sa : Bool) (A : List Nat) : Bool := xs.any fun c => contT c.1 sa A

set_option maxRecDepth 100000 in
set_option maxHeartbeats 4000000 in
theorem index_any (sa : Bool) (A : List Nat) (hla : A.length = 16) (hA : ∀ x ∈ A, x < 256) (ad : Option Addr) (cap : Nat) (xs : List CS) (hcap : xs.length ≤ cap) (hm : xs.length ≤ 100000) (w : World) (hE : CEnv w) (G : Nat) (hG : Blk w G 25 (adr sa (ints A))) (hI : Elems encA 18 w.heap.size w ad xs) :
    Calls Tryz.prog 41 #[.slice ad xs.length cap, .func (.func 25) #[] #[.pointer (some ⟨G, 0, none⟩)]] w fun e w' => ∃ r : Int, e = .returned (.int .i64 r) ∧ (decide (r ≥ 0) = anyS xs sa A ∧ Below w.heap.size w w') := by
  obtain ⟨n, hn⟩ : ∃ n, n = xs.length := ⟨_, rfl⟩
  rw [← hn] at hcap hm ⊢
  have Hn := hid hn
  have HI := hid hI
  have HC : Hid (∀ x W, Below w.heap.size w W → Calls Tryz.prog 25 #[.agg (encA x), .pointer (some ⟨G, 0, none⟩)] W fun e w' => e = .returned (.bool (contT x.1 sa A)) ∧ Below W.heap.size W w') := hid (fun x W h => any1_s x sa A hla hA W (hE.kept h) G (hG.kept h))
  have HN : Hid ((∀ j (hj : j < xs.length), contT xs[j].1 sa A = false) → false = anyS xs sa A) := hid (fun h => by
    symm
    unfold anyS
    rw [List.any_eq_false]
    intro c hc
    obtain ⟨j, hj, rfl⟩ := List.getElem_of_mem hc
    simp [h j hj])
  have HY : Hid (∀ j (hj : j < xs.length), contT xs[j].1 sa A = true → true = anyS xs sa A) := hid (fun j hj h => by
    symm
    unfold anyS
    rw [List.any_eq_true]
    exact ⟨xs[j], List.getElem_mem hj, h⟩)
  clear hn hI hE hG hla hA
  go_enter Tryz.func41, Tryz.ntmps41
  go_wp2
  go_loopg [8] n (fun g s8 wr => ∃ p : Nat, s8 = .int .i64 (p : Int) ∧ p ≤ n ∧ n - p ≤ g ∧ Hid (Below w.heap.size w wr) ∧ Hid (∀ j (hj : j < xs.length), j < p → contT xs[j].1 sa A = false))
  case atStart => exact ⟨0, rfl, by omega, by omega, hid (Below.refl _ _), hid (fun j _ h => by omega)⟩
  case round =>
    obtain ⟨p, rfl, hp, hgp, HB, HF⟩ := hrel
    by_cases hlt : p < n
    · have hpx : p < xs.length := by have := Hn.out; omega
      obtain ⟨g0, o0, rfl, hg0, hr0⟩ := HI.out p hpx
      obtain ⟨x, hx⟩ : ∃ x, x = xs[p] := ⟨_, rfl⟩
      have HX : Hid (wr.rangeAt g0 (o0 + p * 18) (encC x)) := hid (hx ▸ rangeAt_below HB.out hg0 hr0)
      have HCx := hid (HC.out x wr HB.out)
      have HXx := hid hx
      clear hx hr0
      by_cases hc : contT x.1 sa A = true
      · rw [hc] at HCx
        have HR : Hid (true = anyS xs sa A) := hid (HY.out p hpx (by rw [← HXx.out]; exact hc))
        clear hc
        go_wp2_with ((show wpList _ _ _ (⟨some 15, _, _, _, _, _⟩ :: _) _ _); go_must (refine wpl_loadC (.tmp 14) rfl g0 (o0 + p * 18) rfl x HX.out rfl ?_))
        refine HCx.out.mono ?_
        rintro e w2 ⟨rfl, hb⟩
        have Hb := hid (HB.out.trans (hb.mono HB.out.size))
        clear hb
        go_wp2
        go_ret
        exact ⟨_, rfl, by rw [← HR.out]; exact decide_eq_true (by omega), Hb.out⟩
      · have hc : contT x.1 sa A = false := by simpa using hc
        rw [hc] at HCx
        have HF2 : Hid (∀ j (hj : j < xs.length), j < p + 1 → contT xs[j].1 sa A = false) := hid (fun j hj h => by
          by_cases e : j = p
          · subst e; rw [← HXx.out]; exact hc
          · exact HF.out j hj (by omega))
        clear hc
        go_wp2_with ((show wpList _ _ _ (⟨some 15, _, _, _, _, _⟩ :: _) _ _); go_must (refine wpl_loadC (.tmp 14) rfl g0 (o0 + p * 18) rfl x HX.out rfl ?_))
        refine HCx.out.mono ?_
        rintro e w2 ⟨rfl, hb⟩
        have Hb := hid (HB.out.trans (hb.mono HB.out.size))
        clear hb
        go_wp2
        go_roundg (n - (p + 1))
        case measure => omega
        case rel => exact ⟨p + 1, by go_num, by omega, Nat.le_refl _, Hb, HF2⟩
    · obtain rfl : p = n := by omega
      have HR : Hid (false = anyS xs sa A) := hid (HN.out (fun j hj => HF.out j hj (by have := Hn.out; omega)))
      go_wp2
      go_ret
      exact ⟨_, rfl, by rw [← HR.out]; exact decide_eq_false (by omega), HB.out⟩

set_option maxRecDepth 100000 in
set_option maxHeartbeats 4000000 in
theorem contains_any (sa : Bool) (A : List Nat) (hla : A.length = 16) (hA : ∀ x ∈ A, x < 256) (ad : Option Addr) (cap : Nat) (xs : List CS) (hcap : xs.length ≤ cap) (hm : xs.length ≤ 100000) (w : World) (hE : CEnv w) (G : Nat) (hG : Blk w G 25 (adr sa (ints A))) (hI : Elems encA 18 w.heap.size w ad xs) :
    Calls Tryz.prog 24 #[.slice ad xs.length cap, .func (.func 25) #[] #[.pointer (some ⟨G, 0, none⟩)]] w fun e w' => e = .returned (.bool (anyS xs sa A)) ∧ Below w.heap.size w w' := by
  have H := hid (index_any sa A hla hA ad cap xs hcap hm w hE G hG hI)
  clear hla hA hcap hm hE hG hI
  go_enter Tryz.func24, Tryz.ntmps24
  go_wp2_with fail
  refine H.out.mono ?_
  rintro e w2 ⟨r, rfl, hr, hb⟩
  have Hr := hid hr
  have Hb := hid hb
  clear hr hb
  go_wp2
  go_ret
  exact ⟨by rw [← Hr.out]; rfl, Hb.out⟩

set_option maxRecDepth 100000 in
set_option maxHeartbeats 4000000 in
theorem cany_any (sa : Bool) (A : List Nat) (hla : A.length = 16) (hA : ∀ x ∈ A, x < 256) (ad : Option Addr) (cap : Nat) (xs : List CS) (hcap : xs.length ≤ cap) (hm : xs.length ≤ 100000) (w : World) (hE : CEnv w) (hI : Elems encA 18 w.heap.size w ad xs) :
    Calls Tryz.prog 9 #[.slice ad xs.length cap, .agg (adr sa (ints A))] w fun e w' => e = .returned (.bool (anyS xs sa A)) ∧ Below w.heap.size w w' := by
  obtain ⟨W0, hW0⟩ : ∃ W, W = w.alloc (.cells (adr sa (ints A)) 25) := ⟨_, rfl⟩
  have hb0 : Below w.heap.size w W0 := hW0 ▸ (Below.refl _ _).alloc (Nat.le_refl _) _
  have hB0 : Blk W0 w.heap.size 25 (adr sa (ints A)) := hW0 ▸ Blk.new w _ _
  have HW0 := hid hW0.symm
  have Hb0 := hid hb0
  have H := hid (contains_any sa A hla hA ad cap xs hcap hm W0 (hE.kept hb0) w.heap.size hB0 ((hI.below hb0).mono hb0.size))
  clear hW0 hb0 hB0 hla hA hcap hm hE hI
  go_enter Tryz.func9, Tryz.ntmps9
  go_upto_region 1 with fail
  rw [HW0.out]
  go_wp2_with fail
  refine H.out.mono ?_
  rintro e w2 ⟨rfl, hb⟩
  have Hb := hid (bel2 Hb0.out hb)
  clear hb
  go_wp2
  go_ret
  exact ⟨rfl, Hb.out⟩
end Go.Proofs.YtijboclcbbnhbaaGreatDoor

namespace Go.Proofs.YtijboclcbbnhbaaGreatDoor
open Go.RowKit Go.Shelf Go.Lib Go.Sort

section
variable {ops : Array Oper} {S : World → Prop} {oi : Oper} {a : Act}
theorem yieldsC (hw : Region.wanted oi (yielded ops a.tmps) = true) (x : Operand) (ho : oi.op = .load 29 x) (b off : Nat) (hx : a.eval x = .pointer (some ⟨b, off, none⟩)) (c : CS)
    (hS : ∀ w, S w → w.rangeAt b off (encC c)) : YieldsIf Tryz.prog ops S oi (.agg (encA c)) a := by
  have h := yieldsIf_load_mid (S := S) hw 29 x ho b off hx (encC c) _ hS Tryz.underlying29 rfl (encC_info c)
  rw [encA_back] at h
  exact h
theorem yieldsS (hw : Region.wanted oi (yielded ops a.tmps) = true) (x : Operand) (ho : oi.op = .load 22 x) (b : Nat) (hx : a.eval x = .pointer (some ⟨b, 0, none⟩)) (ad : Option Addr) (n c : Nat)
    (hS : ∀ w, S w → w.cell? ⟨b, 0, none⟩ = some (.slice ad n c)) : YieldsIf Tryz.prog ops S oi (.slice ad n c) a :=
  .inl ⟨hw, fun w hw' => by
    have h := hS w hw'
    unfold execOp
    simp only [ho, hx]
    simp [go_sem, h]⟩
end

def lastCov (m : List CS) (x : CS) : Bool := match m.getLast? with | some d => covS d x | none => false

set_option maxRecDepth 100000 in
set_option maxHeartbeats 4000000 in
theorem covered_any (Bm : Nat) (adm : Option Addr) (capm : Nat) (m : List CS) (hcap : m.length ≤ capm) (hm : m.length ≤ 1000) (x : CS) (w : World) (hE : CEnv w) (hBm : w.cell? ⟨Bm, 0, none⟩ = some (.slice adm m.length capm)) (hlt : Bm < w.heap.size) (hI : Elems encA 18 w.heap.size w adm m) :
    Calls Tryz.prog 13 #[.agg (encA x), .pointer (some ⟨Bm, 0, none⟩)] w fun e w' => e = .returned (.bool (lastCov m x)) ∧ Below w.heap.size w w' := by
  obtain ⟨W0, hW0⟩ : ∃ W, W = w.alloc (.cells (encA x) 29) := ⟨_, rfl⟩
  have hb0 : Below w.heap.size w W0 := hW0 ▸ (Below.refl _ _).alloc (Nat.le_refl _) _
  have hB0 : Blk W0 w.heap.size 29 (encA x) := hW0 ▸ Blk.new w _ _
  have hc0 : W0.cell? ⟨Bm, 0, none⟩ = some (.slice adm m.length capm) := (hb0.cell (p := ⟨Bm, 0, none⟩) hlt).trans hBm
  have HW0 := hid hW0.symm
  have HB0 := hid hB0
  have Hb0 := hid hb0
  have HE := hid (hE.kept hb0)
  have HI := hid ((hI.below hb0).mono hb0.size)
  have HX : Hid (W0.rangeAt w.heap.size 0 (encC x) ∧ w.heap.size < W0.heap.size) := hid ⟨blk_range hB0, hB0.lt⟩
  have HltB : Hid (Bm < W0.heap.size) := hid (Nat.lt_of_lt_of_le hlt hb0.size)
  have Hc0 := hid hc0
  clear hW0 hB0 hb0 hE hI hBm hlt
  rcases List.eq_nil_or_concat m with rfl | ⟨ms, d, rfl⟩
  · go_enter Tryz.func13, Tryz.ntmps13
    go_upto_region 1 with fail
    rw [HW0.out]
    have hc : W0.cell? ⟨Bm, 0, none⟩ = some (.slice adm 0 capm) := Hc0.out
    clear hc0
    go_wp2_with fail
    refine wp_region_held_drew (S := fun V => Below W0.heap.size W0 V) (by kernel_rfl) (Below.refl _ _).drew (fun hS => ?_)
    change wpAnyH _ _ _ _ _ 11 #[false, false, false, false, false, false, false, false, false, false, false] _ _
    refine wpAnyH_take (i := 0) (v := .int .i64 (-1)) rfl (by kernel_rfl) (by kernel_rfl) (by kernel_rfl) (fun _ _ _ h => h) (.inl ⟨by kernel_rfl, fun w' _ => by unfold execOp; go_simp⟩) hS ?_
    simp only [List.getElem_toArray, List.getElem_cons_zero, Act.put, List.setIfInBounds_toArray, List.set_cons_zero, List.set_cons_succ]
    refine wpAnyH_take (i := 1) (v := .bool false) rfl (by kernel_rfl) (by kernel_rfl) (by kernel_rfl) (fun _ _ _ h => h) (.inl ⟨by kernel_rfl, fun w' _ => by unfold execOp; go_simp⟩) hS ?_
    simp only [List.getElem_toArray, List.getElem_cons_zero, List.getElem_cons_succ, Act.put, List.setIfInBounds_toArray, List.set_cons_zero, List.set_cons_succ]
    refine wpAnyH_take (i := 2) (v := .bool false) rfl (by kernel_rfl) (by kernel_rfl) (by kernel_rfl) (fun _ _ _ h => h) (.inl ⟨by kernel_rfl, fun w' _ => by unfold execOp; go_simp⟩) hS ?_
    simp only [List.getElem_toArray, List.getElem_cons_zero, List.getElem_cons_succ, Act.put, List.setIfInBounds_toArray, List.set_cons_zero, List.set_cons_succ]
    refine wpAnyH_take (i := 3) (v := undef) rfl (by kernel_rfl) (by kernel_rfl) (by kernel_rfl) (fun _ _ _ h => h) (.inr ⟨by kernel_rfl, rfl⟩) hS ?_
    simp only [List.getElem_toArray, List.getElem_cons_zero, List.getElem_cons_succ, Act.put, List.setIfInBounds_toArray, List.set_cons_zero, List.set_cons_succ]
    refine wpAnyH_take (i := 4) (v := undef) rfl (by kernel_rfl) (by kernel_rfl) (by kernel_rfl) (fun _ _ _ h => h) (.inr ⟨by kernel_rfl, rfl⟩) hS ?_
    simp only [List.getElem_toArray, List.getElem_cons_zero, List.getElem_cons_succ, Act.put, List.setIfInBounds_toArray, List.set_cons_zero, List.set_cons_succ]
    refine wpAnyH_take (i := 5) (v := undef) rfl (by kernel_rfl) (by kernel_rfl) (by kernel_rfl) (fun _ _ _ h => h) (.inr ⟨by kernel_rfl, rfl⟩) hS ?_
    simp only [List.getElem_toArray, List.getElem_cons_zero, List.getElem_cons_succ, Act.put, List.setIfInBounds_toArray, List.set_cons_zero, List.set_cons_succ]
    refine wpAnyH_take (i := 6) (v := undef) rfl (by kernel_rfl) (by kernel_rfl) (by kernel_rfl) (fun _ _ _ h => h) (.inr ⟨by kernel_rfl, rfl⟩) hS ?_
    simp only [List.getElem_toArray, List.getElem_cons_zero, List.getElem_cons_succ, Act.put, List.setIfInBounds_toArray, List.set_cons_zero, List.set_cons_succ]
    refine wpAnyH_take (i := 7) (v := undef) rfl (by kernel_rfl) (by kernel_rfl) (by kernel_rfl) (fun _ _ _ h => h) (.inr ⟨by kernel_rfl, rfl⟩) hS ?_
    simp only [List.getElem_toArray, List.getElem_cons_zero, List.getElem_cons_succ, Act.put, List.setIfInBounds_toArray, List.set_cons_zero, List.set_cons_succ]
    refine wpAnyH_take (i := 8) (v := undef) rfl (by kernel_rfl) (by kernel_rfl) (by kernel_rfl) (fun _ _ _ h => h) (.inr ⟨by kernel_rfl, rfl⟩) hS ?_
    simp only [List.getElem_toArray, List.getElem_cons_zero, List.getElem_cons_succ, Act.put, List.setIfInBounds_toArray, List.set_cons_zero, List.set_cons_succ]
    refine wpAnyH_take (i := 9) (v := .bool false) rfl (by kernel_rfl) (by kernel_rfl) (by kernel_rfl) (fun _ _ _ h => h) (.inl ⟨by kernel_rfl, fun w' _ => by unfold execOp; go_simp⟩) hS ?_
    simp only [List.getElem_toArray, List.getElem_cons_zero, List.getElem_cons_succ, Act.put, List.setIfInBounds_toArray, List.set_cons_zero, List.set_cons_succ]
    refine wpAnyH_take (i := 10) (v := .bool false) rfl (by kernel_rfl) (by kernel_rfl) (by kernel_rfl) (fun _ _ _ h => h) (.inl ⟨by kernel_rfl, fun w' _ => by unfold execOp; go_simp⟩) hS ?_
    simp only [List.getElem_toArray, List.getElem_cons_zero, List.getElem_cons_succ, Act.put, List.setIfInBounds_toArray, List.set_cons_zero, List.set_cons_succ]
    refine wpAnyH_done (by kernel_rfl) ?_ _
    clear hS
    go_wp2
    go_ret
    exact ⟨rfl, bel2 Hb0.out (Below.refl _ _).drew⟩
  · have hl : (ms.concat d).length = ms.length + 1 := by simp
    have hlc : lastCov (ms.concat d) x = covS d x := by simp [lastCov]
    rw [hl] at hcap hm hc0 Hc0
    rw [hlc]
    obtain ⟨g0, o0, rfl, hg0, hr0⟩ := HI.out ms.length (by rw [hl]; omega)
    have hd : (ms.concat d)[ms.length] = d := by simp
    have HD : Hid (W0.rangeAt g0 (o0 + ms.length * 18) (encC d) ∧ g0 < W0.heap.size) := hid ⟨by rw [← hd]; exact hr0, hg0⟩
    have HC : Hid (∀ W, Below W0.heap.size W0 W → Calls Tryz.prog 14 #[.agg (encA d), .agg (encA x)] W fun e w' => e = .returned (.bool (covS d x)) ∧ Below W.heap.size W w') := hid (fun W h => ccov_s d x W (HE.out.kept h))
    obtain ⟨L, hL⟩ : ∃ L, L = ms.length := ⟨_, rfl⟩
    rw [← hL] at hcap hm hc0 Hc0 HD
    generalize covS d x = c at *
    clear hr0 hg0 hl hlc hd hL HI
    go_enter Tryz.func13, Tryz.ntmps13
    go_upto_region 1 with fail
    rw [HW0.out]
    go_wp2_with fail
    refine wp_region_held_drew (S := fun V => Below W0.heap.size W0 V) (by kernel_rfl) (Below.refl _ _).drew (fun hS => ?_)
    change wpAnyH _ _ _ _ _ 11 #[false, false, false, false, false, false, false, false, false, false, false] _ _
    refine wpAnyH_take (i := 0) (v := .int .i64 (L : Int)) rfl (by kernel_rfl) (by kernel_rfl) (by kernel_rfl) (fun _ _ _ h => h) (.inl ⟨by kernel_rfl, fun w' _ => by unfold execOp; go_simp⟩) hS ?_
    simp only [List.getElem_toArray, List.getElem_cons_zero, Act.put, List.setIfInBounds_toArray, List.set_cons_zero, List.set_cons_succ]
    refine wpAnyH_take (i := 1) (v := .bool true) rfl (by kernel_rfl) (by kernel_rfl) (by kernel_rfl) (fun _ _ _ h => h) (.inl ⟨by kernel_rfl, fun w' _ => by unfold execOp; go_simp; try omega⟩) hS ?_
    simp only [List.getElem_toArray, List.getElem_cons_zero, List.getElem_cons_succ, Act.put, List.setIfInBounds_toArray, List.set_cons_zero, List.set_cons_succ]
    refine wpAnyH_take (i := 2) (v := .bool true) rfl (by kernel_rfl) (by kernel_rfl) (by kernel_rfl) (fun _ _ _ h => h) (.inl ⟨by kernel_rfl, fun w' _ => by unfold execOp; go_simp⟩) hS ?_
    simp only [List.getElem_toArray, List.getElem_cons_zero, List.getElem_cons_succ, Act.put, List.setIfInBounds_toArray, List.set_cons_zero, List.set_cons_succ]
    refine wpAnyH_take (i := 3) (v := .slice (some ⟨g0, o0, none⟩) (L + 1) capm) rfl (by kernel_rfl) (by kernel_rfl) (by kernel_rfl) (fun _ _ _ h => h) (yieldsS (by kernel_rfl) (.tmp 1) rfl Bm rfl (some ⟨g0, o0, none⟩) (L + 1) capm (fun w' hw' => (hw'.cell (p := ⟨Bm, 0, none⟩) HltB.out).trans Hc0.out)) hS ?_
    simp only [List.getElem_toArray, List.getElem_cons_zero, List.getElem_cons_succ, Act.put, List.setIfInBounds_toArray, List.set_cons_zero, List.set_cons_succ]
    refine wpAnyH_take (i := 4) (v := .int .i64 (L : Int)) rfl (by kernel_rfl) (by kernel_rfl) (by kernel_rfl) (fun _ _ _ h => h) (.inl ⟨by kernel_rfl, fun w' _ => by unfold execOp; go_simp⟩) hS ?_
    simp only [List.getElem_toArray, List.getElem_cons_zero, List.getElem_cons_succ, Act.put, List.setIfInBounds_toArray, List.set_cons_zero, List.set_cons_succ]
    refine wpAnyH_take (i := 5) (v := .pointer (some ⟨g0, o0 + L * 18, none⟩)) rfl (by kernel_rfl) (by kernel_rfl) (by kernel_rfl) (fun _ _ _ h => h) (.inl ⟨by kernel_rfl, fun w' _ => by unfold execOp; go_simp; try (intro h; omega)⟩) hS ?_
    simp only [List.getElem_toArray, List.getElem_cons_zero, List.getElem_cons_succ, Act.put, List.setIfInBounds_toArray, List.set_cons_zero, List.set_cons_succ]
    refine wpAnyH_take (i := 6) (v := .agg (encA d)) rfl (by kernel_rfl) (by kernel_rfl) (by kernel_rfl) (fun _ _ _ h => h) (yieldsC (by kernel_rfl) (.tmp 13) rfl (g0) (o0 + L * 18) rfl d (fun w' hw' => rangeAt_below hw' HD.out.2 HD.out.1)) hS ?_
    simp only [List.getElem_toArray, List.getElem_cons_zero, List.getElem_cons_succ, Act.put, List.setIfInBounds_toArray, List.set_cons_zero, List.set_cons_succ]
    refine wpAnyH_take (i := 7) (v := .agg (encA x)) rfl (by kernel_rfl) (by kernel_rfl) (by kernel_rfl) (fun _ _ _ h => h) (yieldsC (by kernel_rfl) (.tmp 2) rfl (w.heap.size) (0) rfl x (fun w' hw' => rangeAt_below hw' HX.out.2 HX.out.1)) hS ?_
    simp only [List.getElem_toArray, List.getElem_cons_zero, List.getElem_cons_succ, Act.put, List.setIfInBounds_toArray, List.set_cons_zero, List.set_cons_succ]
    refine wpAnyH_ready (rs := [8]) (by kernel_rfl) (by simp) ?_
    refine AllReadyH.cons rfl (fun K' hK => ?_) AllReadyH.nil
    refine r_call 14 #[.agg (encA d), .agg (encA x)] (by kernel_rfl) (by kernel_rfl) (.bool c) (HC.out _ hS) (fun V3 h => hK.out _ _ (hS.trans (h.mono hS.size)) (fun hS => ?_))
    simp only [List.getElem_toArray, List.getElem_cons_zero, List.getElem_cons_succ, Act.put, List.setIfInBounds_toArray, List.set_cons_zero, List.set_cons_succ]
    refine wpAnyH_take (i := 9) (v := .bool c) rfl (by kernel_rfl) (by kernel_rfl) (by kernel_rfl) (fun _ _ _ h => h) (.inl ⟨by kernel_rfl, fun w' _ => by unfold execOp; go_simp⟩) hS ?_
    simp only [List.getElem_toArray, List.getElem_cons_zero, List.getElem_cons_succ, Act.put, List.setIfInBounds_toArray, List.set_cons_zero, List.set_cons_succ]
    refine wpAnyH_take (i := 10) (v := .bool c) rfl (by kernel_rfl) (by kernel_rfl) (by kernel_rfl) (fun _ _ _ h => h) (.inl ⟨by kernel_rfl, fun w' _ => by unfold execOp; go_simp⟩) hS ?_
    simp only [List.getElem_toArray, List.getElem_cons_zero, List.getElem_cons_succ, Act.put, List.setIfInBounds_toArray, List.set_cons_zero, List.set_cons_succ]
    refine wpAnyH_done (by kernel_rfl) ?_ _
    have F : Hid (Below w.heap.size w V3) := hid (bel2 Hb0.out hS)
    clear hS hK
    go_wp2
    go_ret
    exact ⟨rfl, F.out⟩
end Go.Proofs.YtijboclcbbnhbaaGreatDoor
