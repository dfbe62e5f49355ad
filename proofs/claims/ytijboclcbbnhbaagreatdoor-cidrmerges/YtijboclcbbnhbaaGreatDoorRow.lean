/-
  What the rows of layer 2 share: an address as an argument, taken apart and put together; the builder with both the listed variables and the world's shape; what the walks ask of package-level variables, out of the listed ones.
-/
import Derived.Test.YtijboclcbbnhbaaGreatDoorRows
import Derived.Test.YtijboclcbbnhbaaGreatDoorEnv
import Derived.Test.YtijboclcbbnhbaaGreatDoorGrof
import Derived.ProofKit
import Derived.OpenShut
import Derived.HandedShaped
import Derived.LaidMore
import Derived.Lay
import Derived.Lib.LaidU8
import Derived.Shelf.Vars
namespace Go.Proofs.YtijboclcbbnhbaaGreatDoor
open Go.ChangeShapes Go.WideShapes Go.RowKit

theorem own : ownKnob Tryz.prog.godebug = none := by kernel_rfl
theorem laidOut : laidOutB Tryz.prog = true := by kernel_rfl

section
variable {H : Type} {enc : TypeId × Value → H}

def adrData (s : Bool) (x : List Nat) : DataW H := .agg [.lit (.bool s), .agg (x.map fun n : Nat => .lit (.int .u8 n))]

def natOf : Value → Nat
  | .int _ n => n.toNat
  | _ => 0

theorem open_bytes16 {W : World} {base : Nat} {sp : Nat → Bool} {held : Bool} {fuel : Nat} {cs : List Value} {x : DataW H × List MemPlace} (h : DataW.trod enc Tryz.prog W base sp held fuel 23 cs = some x) :
    ∃ l : List Nat, l.length = 16 ∧ (∀ n ∈ l, n < 256) ∧ cs = l.map (fun n : Nat => Value.int .u8 n) ∧ x = (.agg (l.map fun n : Nat => .lit (.int .u8 n)), []) := by
  obtain ⟨xs, m, rfl, rfl, hl, hn, hall⟩ := DataW.trod_array Tryz.underlying23 h
  have hc : Tryz.prog.cellsOf 5 = 1 := by kernel_rfl
  have hl : cs.length = 16 := hl.trans (by kernel_rfl)
  simp only [hc, Nat.mul_one] at hall
  have each : ∀ i, i < 16 → ∃ n : Nat, n < 256 ∧ cs[i]? = some (.int .u8 n) ∧ xs[i]? = some (.lit (.int .u8 n), []) := by
    intro i hi
    have hi' : i < xs.length := by omega
    have := hall i hi
    rw [List.getElem?_eq_getElem hi'] at this
    obtain ⟨n, h1, h2, h3⟩ := DataW.trod_int Tryz.underlying5 this
    have hb := bounds_u8 h3
    obtain ⟨m, rfl⟩ : ∃ m : Nat, n = m := ⟨n.toNat, by omega⟩
    refine ⟨m, by omega, ?_, by rw [List.getElem?_eq_getElem hi', h2]⟩
    have := congrArg (·[0]?) h1
    simpa [List.getElem?_take, List.getElem?_drop] using this
  refine ⟨(List.range 16).map fun i => natOf (cs[i]?.getD .nilIface), by simp, ?_, ?_, ?_⟩
  · intro n hn
    obtain ⟨i, hi, rfl⟩ := List.mem_map.1 hn
    obtain ⟨k, hk, h1, _⟩ := each i (List.mem_range.1 hi)
    simp [h1, natOf, hk]
  · apply List.ext_getElem?
    intro i
    by_cases hi : i < 16
    · obtain ⟨k, hk, h1, _⟩ := each i hi
      simp [h1, hi, natOf]
    · rw [List.getElem?_eq_none (by omega), List.getElem?_eq_none (by simp; omega)]
  · have e : xs = ((List.range 16).map fun i => natOf (cs[i]?.getD .nilIface)).map fun n : Nat => ((.lit (.int .u8 n), []) : DataW H × List MemPlace) := by
      apply List.ext_getElem?
      intro i
      by_cases hi : i < 16
      · obtain ⟨k, hk, h1, h2⟩ := each i hi
        simp [h1, h2, hi, natOf]
      · rw [List.getElem?_eq_none (by omega), List.getElem?_eq_none (by simp; omega)]
    rw [e]
    simp
theorem shut_bytes16 {W : World} {base : Nat} {sp : Nat → Bool} {held : Bool} (m : Nat) {l : List Nat} (hl : l.length = 16) (hb : ∀ n ∈ l, n < 256) :
    DataW.trod enc Tryz.prog W base sp held (m + 2) 23 (l.map fun n : Nat => Value.int .u8 n) = some (.agg (l.map fun n : Nat => .lit (.int .u8 n)), []) := by
  have hc : Tryz.prog.cellsOf 5 = 1 := by kernel_rfl
  have hc16 : Tryz.prog.cellsOf 23 = 16 := by kernel_rfl
  have one : ∀ i ∈ List.range 16, DataW.trod enc Tryz.prog W base sp held (m + 1) 5 (((l.map fun n : Nat => Value.int .u8 n).drop i).take 1) = some ((.lit (.int .u8 (l.getD i 0)), []) : DataW H × List MemPlace) := by
    intro i hi
    have hi' : i < l.length := by rw [hl]; exact List.mem_range.1 hi
    have e : ((l.map fun n : Nat => Value.int .u8 n).drop i).take 1 = [.int .u8 (l.getD i 0)] := by
      rw [List.drop_eq_getElem_cons (by simpa using hi')]
      simp [List.getD, hi']
    rw [e]
    refine trod_int_mk m Tryz.underlying5 ?_
    have := hb _ (List.getElem_mem hi')
    simp [Lit.wf, IntKind.min, IntKind.max, IntKind.signed, IntKind.bits, List.getD, hi']
    omega
  have all : (List.range 16).mapM (fun i => DataW.trod enc Tryz.prog W base sp held (m + 1) 5 (((l.map fun n : Nat => Value.int .u8 n).drop i).take 1)) = some ((List.range 16).map fun i => ((.lit (.int .u8 (l.getD i 0)), []) : DataW H × List MemPlace)) :=
    Lay.mapM_some' _ _ _ one
  unfold DataW.trod
  simp only [Tryz.underlying23, hc16, hc, Nat.mul_one, List.length_map, hl, if_true, all, Option.map_some, List.map_map, Option.some.injEq, Prod.mk.injEq, DataW.agg.injEq]
  refine ⟨?_, by simp⟩
  apply List.ext_getElem?
  intro i
  by_cases hi : i < 16
  · simp [hi, hl]
  · rw [List.getElem?_eq_none (by simp; omega), List.getElem?_eq_none (by simp; omega)]

theorem adr_list (s : Bool) (x : List Nat) : (adr s (ints x)).toList = .bool s :: x.map fun n : Nat => Value.int .u8 n := by
  simp [adr, ints]

set_option maxRecDepth 100000 in
theorem open_adr {W : World} {base b0 : Nat} {sp : Nat → Bool} {held : Bool} {r : Reach} {v : Value} {d : DataW H} {ps : List MemPlace} (hv : Value.okWide Tryz.prog W r b0 25 v) (h : DataW.Trod enc Tryz.prog W base sp held 25 v d ps) :
    ∃ s x, v = .agg (adr s (ints x)) ∧ d = adrData s x ∧ ps = [] ∧ x.length = 16 ∧ ∀ n ∈ x, n < 256 := by
  obtain ⟨cs, rfl, hs⟩ := okWide_struct Tryz.underlying25 hv
  obtain ⟨fuel, hf⟩ := h
  obtain ⟨y0, y1, n, hx, hl, h0, h1⟩ := trod_struct2 Tryz.underlying25 hf
  have hc0 : Tryz.prog.cellsOf 4 = 1 := by kernel_rfl
  have hc1 : Tryz.prog.cellsOf 23 = 16 := by kernel_rfl
  have hs : cs.size = 17 := hs.trans (by kernel_rfl)
  simp only [hc0, hc1, Value.cells] at h0 h1
  obtain ⟨s, e0, rfl⟩ := DataW.trod_bool Tryz.underlying4 h0
  obtain ⟨x, hxl, hxb, e1, rfl⟩ := open_bytes16 h1
  refine ⟨s, x, ?_, ?_, ?_, hxl, hxb⟩
  · congr 1
    apply Array.toList_inj.1
    rw [adr_list, ← e1, ← List.take_append_drop 1 cs.toList]
    simp only [List.drop_zero] at e0
    rw [e0]
    simp [List.take_of_length_le, hs]
  · simpa [adrData] using congrArg Prod.fst hx
  · simpa using congrArg Prod.snd hx

set_option maxRecDepth 100000 in
theorem shut_adr {W : World} {base : Nat} {sp : Nat → Bool} {held : Bool} {s : Bool} {x : List Nat} (hl : x.length = 16) (hb : ∀ n ∈ x, n < 256) : DataW.Trod enc Tryz.prog W base sp held 25 (.agg (adr s (ints x))) (adrData s x) [] := by
  have hc0 : Tryz.prog.cellsOf 4 = 1 := by kernel_rfl
  have hc1 : Tryz.prog.cellsOf 23 = 16 := by kernel_rfl
  have hc : Tryz.prog.cellsOf 25 = 17 := by kernel_rfl
  refine ⟨3, ?_⟩
  show DataW.trod enc Tryz.prog W base sp held 3 25 (adr s (ints x)).toList = _
  rw [adr_list]
  refine (trod_struct2_mk (y0 := (.lit (.bool s), [])) (y1 := (.agg (x.map fun n : Nat => .lit (.int .u8 n)), [])) Tryz.underlying25 (by simp [hc, hl]) ?_ ?_).trans (by simp [adrData])
  · simp only [hc0]
    simp [DataW.trod, Tryz.underlying4]
  · simp only [hc1]
    have := shut_bytes16 (enc := enc) (W := W) (base := base) (sp := sp) (held := held) 0 hl hb
    simpa [List.take_of_length_le, hl] using this
end

/-- The builder, with both: what is listed, and the world's shape. -/
theorem returnsInHanded_of_change_both {H : Type} {enc : TypeId × Value → H} {a : Assume} {C : Checked} {os : Os} {f : FuncId} {fn : Func} {s : ChangeSpec} {conds : List PathCond} {apart fresh handsOn again : Bool} {X : World → Array Value → Prop}
    (hX : ∀ (w w' : World) (args : Array Value), w.heap = w'.heap → X w args → X w' args)
    (own : ownKnob C.prog.godebug = none) (started : os.Started) (noInit : C.prog.inits.idxOf? f = none) (hfn : C.prog.funcs[f]? = some fn)
    (witness : ∃ (w : World) (tape : Tape) (i : Input), w.os = os ∧ (w.forCall tape i).Shaped C.prog ∧ i.vars = [] ∧ Input.okWide C.prog (w.forCall tape i) .any w.heap.size f i ∧
      ((s.pre enc C.prog fn conds apart (w.forCall tape i).memory i.args ∧ X (w.forCall tape i).memory i.args) ∧ sizedMet enc C.prog fn (OpenSpec.ofChange s) apart (w.forCall tape i).memory i.args) ∧ a.holds C.prog (lone (Frame.enter C.prog f i.args .normal) [] (w.forCall tape i)))
    (contract : ∀ (W : World) (base : Nat) (args : Array Value) (ds gs : List (DataW H)) (before : List MemPlace),
      (∀ (j : Nat) t v, fn.params[j]? = some t → args[j]? = some v → Value.okWide C.prog W .any base t v) →
      DataW.Whole enc C.prog fn.params.toList s.vars apart W args.toList ds gs before → X W args → W.ShapedOpen C.prog →
      Calls C.prog f args W fun e W' => ∃ v, e = .returned v ∧ s.post enc C.prog fn apart fresh handsOn again W args v W') :
    ReturnsInHanded a C os f .any (fun w args => (s.pre enc C.prog fn conds apart w args ∧ X w args) ∧ sizedMet enc C.prog fn (OpenSpec.ofChange s) apart w args) (s.post enc C.prog fn apart fresh handsOn again) := by
  refine returnsInHanded_of_calls own started noInit witness ?_
  intro w tape i _ hsh _ hok hpre _
  obtain ⟨_, _, _, fn', hfn', _, _, _, _, hval⟩ := hok
  have e : fn' = fn := Option.some.inj (hfn'.symm.trans hfn)
  subst e
  obtain ⟨⟨⟨ds, gs, before, hw, _⟩, hx⟩, _⟩ := hpre
  have hw' := DataW.Whole.of_heap (w' := w.forCall tape i) (by rfl) hw
  refine (contract (w.forCall tape i) w.heap.size i.args ds gs before hval hw' (hX _ _ _ (by rfl) hx) hsh).mono fun e W' ⟨v, he, hp⟩ => ?_
  subst he
  exact ChangeSpec.post_blind hp

def tz64 : List Int := [0, 1, 56, 2, 57, 49, 28, 3, 61, 58, 42, 50, 38, 29, 17, 4, 62, 47, 59, 36, 45, 43, 51, 22, 53, 39, 33, 30, 24, 18, 12, 5, 63, 55, 48, 27, 60, 41, 37, 16, 46, 35, 44, 21, 52, 32, 23, 11, 54, 26, 40, 15, 34, 20, 31, 10, 25, 14, 19, 9, 13, 8, 7, 6]

theorem tab_of_reads {P : Program} {W : World} {name : String} {k : IntKind} {zs : List Int} {g : Nat} {t e : TypeId} {n : Nat}
    (hg : P.globalNamed name = some g) (hty : (P.globals[g]?).map (·.type) = some t) (ht : P.underlying t = some (.array n e)) (he : P.underlying e = some (.int k)) (hce : P.cellsOf e = 1) (hct : P.cellsOf t = n)
    (h : Lib.VarReads P W name (Lib.tabData k zs)) : Lib.TabIs P W name k zs := by
  obtain ⟨g', t', cs, fuel, p, h1, h2, h3, h4⟩ := h
  obtain rfl := Option.some.inj (hg.symm.trans h1)
  obtain rfl := Option.some.inj (hty.symm.trans h2)
  have := Lib.cells_of_tab ht he hce hct h4
  unfold Lib.TabIs
  rw [h3, ← this]

theorem iface_of_reads {P : Program} {W : World} {name nm : String} {d : DataW Unit} {g : Nat} {t : TypeId} {ms : Array (String × TypeId)}
    (hg : P.globalNamed name = some g) (hty : (P.globals[g]?).map (·.type) = some t) (ht : P.underlying t = some (.interface ms))
    (h : Lib.VarReads P W name (.iface nm d)) : ∃ u p, W.cell? ⟨g, 0, none⟩ = some (.iface u p) := by
  obtain ⟨g', t', cs, fuel, p, h1, h2, h3, h4⟩ := h
  obtain rfl := Option.some.inj (hg.symm.trans h1)
  obtain rfl := Option.some.inj (hty.symm.trans h2)
  obtain ⟨_, u, v, e, _, _⟩ := iface_of_trod ht h4
  refine ⟨u, v, ?_⟩
  rw [World.var?_cell h1 h3 0, ← Array.getElem?_toList, e]
  rfl

theorem env_of_laid {L : List (String × DataW Unit)} {W : World} (hs : W.ShapedOpen Tryz.prog) (h : laidMet Tryz.prog L W)
    (m1 : ("math/bits.deBruijn64tab", Rows.laid_math_bits_deBruijn64tab) ∈ L) (m2 : ("internal/strconv.uint64pow10", Rows.laid_internal_strconv_uint64pow10) ∈ L)
    (m3 : ("linkboy/api.ErrForm", Rows.laid_linkboy_api_ErrForm) ∈ L) (m4 : ("strconv.ErrRange", Rows.laid_strconv_ErrRange) ∈ L) (m5 : ("strconv.ErrSyntax", Rows.laid_strconv_ErrSyntax) ∈ L) :
    ∃ u p, Env (.iface u p) W := by
  obtain ⟨u, p, hf⟩ := iface_of_reads (g := 0) (by kernel_rfl) (by kernel_rfl) Tryz.underlying34 (Lib.laidMet.reads h m3)
  refine ⟨u, p, ⟨hf, ?_, ?_, ?_, ?_, ?_, ?_⟩⟩
  · exact cell_of_shapedOpen_int (t := 3) (zero := #[.int .i64 0]) hs (by decide +kernel) (by kernel_rfl) rfl (by kernel_rfl) (by kernel_rfl) Tryz.underlying3
  · exact iface_of_reads (by kernel_rfl) (by kernel_rfl) Tryz.underlying34 (Lib.laidMet.reads h m5)
  · exact iface_of_reads (by kernel_rfl) (by kernel_rfl) Tryz.underlying34 (Lib.laidMet.reads h m4)
  · exact tab_of_reads (g := 6) (by kernel_rfl) (by kernel_rfl) Tryz.underlying148 Tryz.underlying68 (by kernel_rfl) (by kernel_rfl) (Lib.laidMet.reads h m2)
  · have := tab_of_reads (g := 8) (zs := tz64) (by kernel_rfl) (by kernel_rfl) Tryz.underlying159 Tryz.underlying5 (by kernel_rfl) (by kernel_rfl) (Lib.laidMet.reads h m1)
    exact this.cell (by kernel_rfl) 15 (by decide)
  · exact World.block_lt_of_cell? W _ ((tab_of_reads (g := 6) (by kernel_rfl) (by kernel_rfl) Tryz.underlying148 Tryz.underlying68 (by kernel_rfl) (by kernel_rfl) (Lib.laidMet.reads h m2) : Lib.TabIs Tryz.prog W _ .u64 Lib.pow10Tab).cell (by kernel_rfl) 0 (by decide))
end Go.Proofs.YtijboclcbbnhbaaGreatDoor
