/-
  The calls of layer 3 at cidrs as a sort takes them; whole cidrs loaded and stored.
-/
import Derived.Test.YtijboclcbbnhbaaGreatDoorYapp
import Derived.Test.YtijboclcbbnhbaaGreatDoorMcont
import Derived.Deep.DeepMust
namespace Go.Proofs.YtijboclcbbnhbaaGreatDoor
open Go.RowKit Go.Shelf Go.Lib Go.Sort

def covS (a b : CS) : Bool := covT a.1 b.1
def rightS (a : CS) : Bool := rightT a.1
theorem cidrS_cov : Cov cmpS covS rightS (fun _ => True) where
  refl a _ := cidr_cov.refl a.1 a.2
  anti a b _ _ h := Subtype.ext (cidr_cov.anti a.1 b.1 a.2 b.2 h)
  swap a b _ _ := cidr_cov.swap a.1 b.1 a.2 b.2
  trans a b c _ _ _ := cidr_cov.trans a.1 b.1 c.1 a.2 b.2 c.2
  self a _ := cidr_cov.self a.1 a.2
  rights a b _ _ := cidr_cov.rights a.1 b.1 a.2 b.2
  first a b _ _ h hne := cidr_cov.first a.1 b.1 a.2 b.2 h (fun e => hne (Subtype.ext e))
  through a b c _ _ _ := cidr_cov.through a.1 b.1 c.1 a.2 b.2 c.2
  between a b c _ _ _ := cidr_cov.between a.1 b.1 c.1 a.2 b.2 c.2

/-- What the package-level variables hold. -/
structure CEnv (w : World) : Prop where
  env : ∃ E, Env E w
  env3 : ∃ u p u' p', Env3 (.iface u p) (.iface u' p') w
theorem CEnv.kept {w w' : World} (h : CEnv w) (hb : Below w.heap.size w w') : CEnv w' := by
  obtain ⟨⟨E, hE⟩, u, p, u', p', h3⟩ := h
  exact ⟨⟨E, hE.kept hb⟩, u, p, u', p', h3.kept hb⟩

theorem cright_s (x : CS) (w : World) (hE : CEnv w) : Calls Tryz.prog 18 #[.agg (encA x)] w fun e w' => e = .returned (.bool (rightS x)) ∧ Below w.heap.size w w' := by
  obtain ⟨_, u, p, u', p', h3⟩ := hE
  have h := cright_any x.1.1 x.1.2.1 x.2.1 x.2.2 x.1.2.2 u u' p p' w h3
  rw [right_eq x.1.1 x.1.2.1 x.2.1 x.2.2] at h
  exact h
theorem ccov_s (x y : CS) (w : World) (hE : CEnv w) : Calls Tryz.prog 14 #[.agg (encA x), .agg (encA y)] w fun e w' => e = .returned (.bool (covS x y)) ∧ Below w.heap.size w w' := by
  obtain ⟨_, u, p, u', p', h3⟩ := hE
  have hr := fun w hE => cright_any y.1.1 y.1.2.1 y.2.1 y.2.2 y.1.2.2 u u' p p' w hE
  have hc := fun w hE => cont_any x.1.1 y.1.1 x.1.2.1 y.1.2.1 x.2.1 y.2.1 y.2.2 x.1.2.2 u u' p p' w hE
  rw [right_eq y.1.1 y.1.2.1 y.2.1 y.2.2] at hr
  rw [cont_eq x.1.1 y.1.1 x.1.2.1 y.1.2.1 x.2.1 x.2.2] at hc
  refine (ccov_walk x.1.1 y.1.1 (ints x.1.2.1) (ints y.1.2.1) (by rw [ints_length, x.2.1]) (by rw [ints_length, y.2.1]) x.1.2.2 y.1.2.2 _ _ _ _ w h3 hr hc).mono ?_
  rintro e w' ⟨rfl, hb⟩
  refine ⟨?_, hb⟩
  unfold covS covT coversC
  generalize rightC y.1.1 (ints y.1.2.1) y.1.2.2 = r
  generalize containsC x.1.1 (ints x.1.2.1) x.1.2.2 y.1.1 (ints y.1.2.1) = q
  cases r <;> cases q <;> simp
theorem rright_s (x : CS) (w : World) : Calls Tryz.prog 19 #[.agg (encA x)] w fun e w' => e = .returned (.bool (rightS x)) ∧ Below w.heap.size w w' := rright_any x.1.1 x.1.2.1 x.2.1 x.2.2 x.1.2.2 w
theorem rcov_s (x y : CS) (w : World) : Calls Tryz.prog 22 #[.agg (encA x), .agg (encA y)] w fun e w' => e = .returned (.bool (covS x y)) ∧ Below w.heap.size w w' := rcov_any x.1.1 y.1.1 x.1.2.1 y.1.2.1 x.2.1 y.2.1 x.2.2 y.2.2 x.1.2.2 y.1.2.2 w
theorem rcmp_s (x y : CS) (w : World) : Calls Tryz.prog 23 #[.agg (encA x), .agg (encA y)] w fun e w' => e = .returned (.int .i64 (cmpS x y)) ∧ Below w.heap.size w w' := rcmp_any x.1.1 y.1.1 x.1.2.1 y.1.2.1 x.2.1 y.2.1 x.1.2.2 y.1.2.2 w
theorem rcont_s (x : CS) (sa : Bool) (A : List Nat) (hla : A.length = 16) (hA : ∀ x ∈ A, x < 256) (w : World) : Calls Tryz.prog 6 #[.agg (encA x), .agg (adr sa (ints A))] w fun e w' => e = .returned (.bool (contT x.1 sa A)) ∧ Below w.heap.size w w' := rcont_any x.1.1 sa x.1.2.1 A x.2.1 hla x.2.2 hA x.1.2.2 w
theorem any1_s (x : CS) (sa : Bool) (A : List Nat) (hla : A.length = 16) (hA : ∀ x ∈ A, x < 256) (w : World) (hE : CEnv w) (g : Nat) (hg : Blk w g 25 (adr sa (ints A))) :
    Calls Tryz.prog 25 #[.agg (encA x), .pointer (some ⟨g, 0, none⟩)] w fun e w' => e = .returned (.bool (contT x.1 sa A)) ∧ Below w.heap.size w w' := by
  obtain ⟨_, u, p, u', p', h3⟩ := hE
  have h := any1_any x.1.1 sa x.1.2.1 A x.2.1 hla hA x.1.2.2 u u' p p' w h3 g hg
  rw [cont_eq x.1.1 sa x.1.2.1 A x.2.1 x.2.2] at h
  exact h

theorem encC_info (c : CS) : (Tryz.prog.info? 29).map (·.size) = some (encC c).length := by rw [encC_length]; exact Tryz.infoCidr

section
variable {ops : Array Oper} {rest : List Oper} {o : Oper} {a : Act} {w : World} {Q : Exit → Act → World → Prop}
/-- A cidr out of a row. -/
theorem wpl_loadC (x : Operand) (ho : o.op = .load 29 x) (b off : Nat) (hx : a.eval x = .pointer (some ⟨b, off, none⟩)) (c : CS) (hc : w.rangeAt b off (encC c))
    (hw : Region.wanted o (yielded ops a.tmps) = true) (h : wpList Tryz.prog ops Q rest (a.put o.dst (.agg (encA c))) w) : wpList Tryz.prog ops Q (o :: rest) a w :=
  BigFrame.wpList_want hw fun _ hK => wp_load_mid 29 x ho b off hx (encC c) _ hc Tryz.underlying29 rfl (encC_info c) (hK _ _ (by rw [encA_back]; exact h))
/-- A cidr out of a block of its own. -/
theorem wpl_loadB (x : Operand) (ho : o.op = .load 29 x) (g : Nat) (hx : a.eval x = .pointer (some ⟨g, 0, none⟩)) (c : CS) (hg : Blk w g 29 (encA c))
    (hw : Region.wanted o (yielded ops a.tmps) = true) (h : wpList Tryz.prog ops Q rest (a.put o.dst (.agg (encA c))) w) : wpList Tryz.prog ops Q (o :: rest) a w :=
  wpl_load 29 x ho g hx _ _ _ hg Tryz.underlying29 rfl 18 Tryz.infoCidr (encA_size c).symm hw h
/-- A cidr put into a block just made. -/
theorem wpl_storeN {W : World} (x y : Operand) (ho : o.op = .store 29 x y) (z : Array Value) (hz : z.size = 18) (hx : a.eval x = .pointer (some ⟨W.heap.size, 0, none⟩)) (c : CS) (hy : a.eval y = .agg (encA c))
    (hw : Region.wanted o (yielded ops a.tmps) = true) (h : wpList Tryz.prog ops Q rest (a.put o.dst undef) (W.alloc (.cells (encA c) 29))) : wpList Tryz.prog ops Q (o :: rest) a (W.alloc (.cells z 29)) :=
  wpl_store 29 x y ho W.heap.size (encA c) hx hy 29 z (Blk.new W _ _) 18 Tryz.infoCidr (encA_size c).symm hz (encA_one c) hw (by rw [setRow_new]; exact h)
theorem wpl_appY (s x : Operand) (ho : o.op = .call { callee := .builtin .append, args := #[s, x], argTypes := #[22, 22] }) (base : Nat) (v : Value) (n : Nat) (xs : List Value) (hs : a.eval s = v) (hown : w.ownsRow base 29 18 v n xs)
    (ao : Option Addr) (m c : Nat) (ks : List CS) (hx : a.eval x = .slice ao m c) (hl : ks.length = m) (n₀ : Nat) (hb : Elems encA 18 n₀ w ao ks) (hn : ao = none → m = 0 ∧ c = 0)
    (h63 : n + m ≤ 1000000) (hbase : base ≤ w.heap.size) (hw : Region.wanted o (yielded ops a.tmps) = true)
    (h : ∀ v' w', w'.ownsRow base 29 18 v' (n + m) (xs ++ flatY encA ks) → w.grownBy w' v.ownBlock → wpList Tryz.prog ops Q rest (a.put o.dst v') w') : wpList Tryz.prog ops Q (o :: rest) a w :=
  BigFrame.wpList_want hw fun K hK => by
    have := r_appK (ops := ops) (K := K) (Q := Q) (E := False) s x ho base v n xs hs hown ao m c ks hx hl n₀ hb hn h63 hbase hw (fun v' w' h1 h2 => hK _ _ (h v' w' h1 h2))
    rw [if_pos hw] at this
    exact this
/-- A list of one cidr. -/
theorem wpl_lit1 (x : Operand) (ho : o.op = .buildSlice 22 1 #[(0, x)]) (c : CS) (hx : a.eval x = .agg (encA c)) (hw : Region.wanted o (yielded ops a.tmps) = true)
    (h : wpList Tryz.prog ops Q rest (a.put o.dst (.slice (some ⟨w.heap.size, 0, none⟩) 1 1)) (w.alloc (.cells (encA c) 29))) : wpList Tryz.prog ops Q (o :: rest) a w :=
  wpl_run _ _ (exec_lit1 x ho (encA c) hx (encA_size c)) hw h
end

/-- A block of its own is a row of one. -/
theorem blk_range {w : World} {g : Nat} {c : CS} (h : Blk w g 29 (encA c)) : w.rangeAt g 0 (encC c) := fun j v hv => by
  rw [Nat.zero_add, h.cell, ← Array.getElem?_toList]
  exact hv
end Go.Proofs.YtijboclcbbnhbaaGreatDoor
