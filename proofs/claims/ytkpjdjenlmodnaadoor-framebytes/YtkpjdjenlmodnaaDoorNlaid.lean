/-
  From the condition on the listed variables to what the walks ask: each of package api's errors is an error of errors.New's make, no two are one.
-/
import Derived.Test.YtkpjdjenlmodnaaDoorRows
import Derived.Test.YtkpjdjenlmodnaaDoorNerr
import Derived.Stop.LaidErr
import Derived.LaidMore
import Derived.Stop.Joined
namespace Go.Proofs.YtkpjdjenlmodnaaDoor
open Go.RowKit Go.ChangeShapes

def sentinel (x : String × List UInt8) : String × DataW Unit := (x.1, .iface "*errors.errorString" (.ptr (.agg [.lit (.string x.2)])))

theorem Tryd.rowErr : ∀ u, Tryd.prog.typeName? 3 u = some "*errors.errorString" → u = 82 :=
  typeName_ptr_named (nm := "errors.errorString") (tp := 82) (by kernel_rfl) (by kernel_rfl) (by decide)

theorem laid_split {P : Program} {W : World} : ∀ (A B : List (String × DataW Unit)) (ps : List MemPlace), DataW.LaidVars P W (A ++ B) ps → ∃ p q, ps = p ++ q ∧ DataW.LaidVars P W A p ∧ DataW.LaidVars P W B q
  | [], B, ps, h => ⟨[], ps, rfl, rfl, h⟩
  | x :: A, B, ps, h => by
    obtain ⟨g, t, cs, fuel, p, q, hg0, ht0, hv, hd, hq, rfl⟩ := h
    obtain ⟨p', q', rfl, h1, h2⟩ := laid_split A B q hq
    exact ⟨_, q', by rw [← List.append_assoc], ⟨g, t, cs, fuel, p, p', hg0, ht0, hv, hd, h1, rfl⟩, h2⟩

set_option maxRecDepth 100000 in
theorem errs_laid {W : World} : ∀ (L : List (String × List UInt8)) (f : Nat → Nat) (ps : List MemPlace), DataW.LaidVars Tryd.prog W (L.map sentinel) ps →
    (∀ b off, MemPlace.cell b off ∈ ps → (∃ c t, W.heap[b]? = some (.cells c t (0, 0))) ∧ ∀ u v, W.cell? ⟨b, off, none⟩ = some (.iface u v) → Value.okWide Tryd.prog W .any 0 u v) →
    (∀ i x, L[i]? = some x → Tryd.prog.globalNamed x.1 = some (f i) ∧ (Tryd.prog.globals[f i]?).map (·.type) = some 27) →
    ∃ adrs : List Addr, adrs.length = L.length ∧ (adrs.map fun a => MemPlace.cell a.block a.off).Sublist ps ∧
      ∀ i, i < L.length → W.cell? ⟨f i, 0, none⟩ = some (.iface 82 (.pointer (some (adrs.getD i ⟨0, 0, none⟩)))) ∧ ∃ c t, W.heap[(adrs.getD i ⟨0, 0, none⟩).block]? = some (.cells c t (0, 0))
  | [], f, ps, h, _, _ => ⟨[], rfl, by simp, fun i hi => by cases hi⟩
  | x :: L, f, ps, h, hrows, hg => by
    obtain ⟨g, t, cs, fuel, p, q, hg0, ht0, hv, hd, hq, rfl⟩ := h
    obtain ⟨hgn, hty⟩ := hg 0 x rfl
    obtain rfl := Option.some.inj (hgn.symm.trans hg0)
    obtain rfl := Option.some.inj (hty.symm.trans ht0)
    obtain ⟨l⟩ := cs
    have ok : ∀ u v, l = [.iface u v] → Value.okWide Tryd.prog W .any 0 u v := fun u v e => by
      subst e
      exact (hrows (f 0) 0 (by simp [MemPlace.row])).2 u v (by simpa using World.var?_cell hg0 hv 0)
    obtain ⟨a, s, rfl, hc, hs, hz, rfl⟩ := errorString_of_trod Tryd.underlying27 Tryd.rowErr Tryd.underlying82 Tryd.underlying107 rfl rfl Tryd.underlying9 (by kernel_rfl) (by kernel_rfl) hd ok
    obtain ⟨adrs, hl, hsub, hall⟩ := errs_laid L (fun i => f (i + 1)) q hq (fun b off hm => hrows b off (List.mem_append_right _ hm))
      (fun i y hy => hg (i + 1) y (by simpa using hy))
    refine ⟨a :: adrs, by simp [hl], ?_, ?_⟩
    · rw [List.map_cons, List.append_assoc]
      refine List.Sublist.trans ?_ (List.sublist_append_right _ _)
      simpa [MemPlace.row] using hsub
    · intro i hi
      cases i with
      | zero =>
        refine ⟨by simpa using World.var?_cell hg0 hv 0, ?_⟩
        exact (hrows a.block a.off (by simp [MemPlace.row])).1
      | succ i =>
        have := hall i (by simpa using hi)
        simpa using this

theorem errs_of {W : World} (A B : List (String × DataW Unit)) (L : List (String × List UInt8)) (h : laidMet Tryd.prog (A ++ (L.map sentinel ++ B)) W)
    (hg : ∀ i x, L[i]? = some x → Tryd.prog.globalNamed x.1 = some (gi i) ∧ (Tryd.prog.globals[gi i]?).map (·.type) = some 27) : ∃ a, Errs L.length a W := by
  obtain ⟨ps0, hv, hnd0, hrows0⟩ := h
  obtain ⟨p1, q1, rfl, _, hv⟩ := laid_split _ _ ps0 hv
  obtain ⟨ps, q2, rfl, hv, _⟩ := laid_split _ _ q1 hv
  have hnd : ps.Nodup := (hnd0.sublist (List.sublist_append_right _ _)).sublist (List.sublist_append_left _ _)
  have hrows : ∀ b off, MemPlace.cell b off ∈ ps → (∃ c t, W.heap[b]? = some (.cells c t (0, 0))) ∧ ∀ u v, W.cell? ⟨b, off, none⟩ = some (.iface u v) → Value.okWide Tryd.prog W .any 0 u v := fun b off hm => hrows0 b off (List.mem_append_right _ (List.mem_append_left _ hm))
  obtain ⟨adrs, hl, hsub, hall⟩ := errs_laid L gi ps hv hrows hg
  have hn := List.Nodup.sublist hsub hnd
  refine ⟨fun i => adrs.getD i ⟨0, 0, none⟩, fun i hi => (hall i hi).1, fun i hi => (hall i hi).2, fun i j hi hj hne heq => ?_⟩
  have hi' : i < adrs.length := by omega
  have hj' : j < adrs.length := by omega
  simp only [List.getD, List.getElem?_eq_getElem hi', List.getElem?_eq_getElem hj', Option.getD_some] at heq
  have := List.pairwise_iff_getElem.1 hn
  exfalso
  rcases Nat.lt_or_ge i j with h1 | h1
  · exact this i j (by simpa using hi') (by simpa using hj') h1 (by rw [List.getElem_map, List.getElem_map, heq])
  · rcases Nat.lt_or_ge j i with h2 | h2
    · exact this j i (by simpa using hj') (by simpa using hi') h2 (by rw [List.getElem_map, List.getElem_map, heq])
    · omega

def names18 : List (String × List UInt8) := [("linkboy/api.ErrRange", [97, 32, 110, 117, 109, 98, 101, 114, 32, 105, 115, 32, 111, 117, 116, 32, 111, 102, 32, 105, 116, 115, 32, 114, 97, 110, 103, 101]), ("linkboy/api.ErrShort", [115, 111, 109, 101, 116, 104, 105, 110, 103, 32, 105, 115, 32, 109, 105, 115, 115, 105, 110, 103, 32, 97, 116, 32, 116, 104, 101, 32, 101, 110, 100]), ("linkboy/api.ErrLong", [116, 104, 101, 114, 101, 32, 105, 115, 32, 109, 111, 114, 101, 32, 116, 104, 97, 110, 32, 109, 97, 121, 32, 98, 101]), ("linkboy/api.ErrForm", [105, 116, 32, 105, 115, 32, 110, 111, 116, 32, 111, 102, 32, 105, 116, 115, 32, 102, 111, 114, 109]), ("linkboy/api.ErrSum", [116, 104, 101, 32, 99, 104, 101, 99, 107, 115, 117, 109, 32, 105, 115, 32, 110, 111, 116, 32, 114, 105, 103, 104, 116]), ("linkboy/api.ErrName", [105, 116, 32, 105, 115, 32, 110, 111, 32, 114, 105, 103, 104, 116, 32, 110, 97, 109, 101]), ("linkboy/api.ErrKind", [105, 116, 32, 105, 115, 32, 111, 102, 32, 97, 110, 111, 116, 104, 101, 114, 32, 107, 105, 110, 100]), ("linkboy/api.ErrAddress", [105, 116, 32, 105, 115, 32, 110, 111, 32, 114, 105, 103, 104, 116, 32, 97, 100, 100, 114, 101, 115, 115]), ("linkboy/api.ErrVersion", [116, 104, 101, 32, 118, 101, 114, 115, 105, 111, 110, 32, 105, 115, 32, 110, 111, 116, 32, 111, 110, 101]), ("linkboy/api.ErrStale", [105, 116, 32, 105, 115, 32, 111, 108, 100, 101, 114, 32, 116, 104, 97, 110, 32, 119, 104, 97, 116, 32, 105, 115, 32, 107, 110, 111, 119, 110]), ("linkboy/api.ErrNone", [116, 104, 101, 114, 101, 32, 105, 115, 32, 110, 111, 110, 101]), ("linkboy/api.ErrDup", [105, 116, 32, 105, 115, 32, 116, 104, 101, 114, 101, 32, 97, 108, 114, 101, 97, 100, 121]), ("linkboy/api.ErrFull", [116, 104, 101, 114, 101, 32, 97, 114, 101, 32, 97, 115, 32, 109, 97, 110, 121, 32, 97, 115, 32, 109, 97, 121, 32, 98, 101]), ("linkboy/api.ErrFail", [105, 116, 32, 102, 97, 105, 108, 101, 100, 32, 111, 110, 32, 116, 104, 101, 32, 119, 97, 121]), ("linkboy/api.ErrState", [105, 116, 32, 99, 97, 110, 32, 110, 111, 116, 32, 98, 101, 32, 100, 111, 110, 101, 32, 105, 110, 32, 116, 104, 105, 115, 32, 115, 116, 97, 116, 101]), ("linkboy/api.ErrDown", [105, 116, 32, 105, 115, 32, 100, 111, 119, 110]), ("linkboy/api.ErrProto", [105, 116, 32, 105, 115, 32, 111, 102, 32, 97, 110, 111, 116, 104, 101, 114, 32, 112, 114, 111, 116, 111, 99, 111, 108]), ("linkboy/api.ErrIndex", [97, 32, 112, 108, 97, 99, 101, 32, 105, 115, 32, 110, 111, 116, 32, 105, 110, 32, 116, 104, 101, 32, 108, 105, 115, 116])]
theorem globals18 : ((List.range 18).all fun i => (names18[i]?.map fun x => Tryd.prog.globalNamed x.1 == some (gi i)) == some true && ((Tryd.prog.globals[gi i]?).map (·.type) == some 27)) = true := by kernel_rfl
theorem named18 : ∀ i x, names18[i]? = some x → Tryd.prog.globalNamed x.1 = some (gi i) ∧ (Tryd.prog.globals[gi i]?).map (·.type) = some 27 := by
  intro i x hx
  have hi : i < 18 := (List.getElem?_eq_some_iff.1 hx).1
  have := List.all_eq_true.1 globals18 i (List.mem_range.2 hi)
  simpa [hx] using this
end Go.Proofs.YtkpjdjenlmodnaaDoor
