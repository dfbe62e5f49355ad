/-
  From the condition on the listed variables to what the walks ask: each of package api's errors is an error of errors.New's make, no two are one.
-/
import Derived.Test.YtapehpcipnbpgaaDoorRows
import Derived.Test.YtapehpcipnbpgaaDoorErr
import Derived.Stop.LaidErr
import Derived.LaidMore
import Derived.Stop.Joined
namespace Go.Proofs.YtapehpcipnbpgaaDoor
open Go.RowKit Go.ChangeShapes

def sentinel (x : String × List UInt8) : String × DataW Unit := (x.1, .iface "*errors.errorString" (.ptr (.agg [.lit (.string x.2)])))

theorem Tryd.row65 : ∀ u, Tryd.prog.typeName? 3 u = some "*errors.errorString" → u = 65 :=
  typeName_ptr_named (nm := "errors.errorString") (tp := 65) (by kernel_rfl) (by kernel_rfl) (by decide)

theorem errs_laid {W : World} : ∀ (L : List (String × List UInt8)) (k : Nat) (ps : List MemPlace), DataW.LaidVars Tryd.prog W (L.map sentinel) ps →
    (∀ b off, MemPlace.cell b off ∈ ps → (∃ c t, W.heap[b]? = some (.cells c t (0, 0))) ∧ ∀ u v, W.cell? ⟨b, off, none⟩ = some (.iface u v) → Value.okWide Tryd.prog W .any 0 u v) →
    (∀ i x, L[i]? = some x → Tryd.prog.globalNamed x.1 = some (k + i) ∧ (Tryd.prog.globals[k + i]?).map (·.type) = some 25) →
    ∃ adrs : List Addr, adrs.length = L.length ∧ (adrs.map fun a => MemPlace.cell a.block a.off).Sublist ps ∧
      ∀ i, i < L.length → W.cell? ⟨k + i, 0, none⟩ = some (.iface 65 (.pointer (some (adrs.getD i ⟨0, 0, none⟩)))) ∧ ∃ c t, W.heap[(adrs.getD i ⟨0, 0, none⟩).block]? = some (.cells c t (0, 0))
  | [], k, ps, h, _, _ => ⟨[], rfl, by simp, fun i hi => by cases hi⟩
  | x :: L, k, ps, h, hrows, hg => by
    obtain ⟨g, t, cs, fuel, p, q, hg0, ht0, hv, hd, hq, rfl⟩ := h
    obtain ⟨hgn, hty⟩ := hg 0 x rfl
    obtain rfl := Option.some.inj (hgn.symm.trans hg0)
    obtain rfl := Option.some.inj (hty.symm.trans ht0)
    obtain ⟨l⟩ := cs
    have ok : ∀ u v, l = [.iface u v] → Value.okWide Tryd.prog W .any 0 u v := fun u v e => by
      subst e
      exact (hrows (k + 0) 0 (by simp [MemPlace.row])).2 u v (by simpa using World.var?_cell hg0 hv 0)
    obtain ⟨a, s, rfl, hc, hs, hz, rfl⟩ := errorString_of_trod Tryd.underlying25 Tryd.row65 Tryd.underlying65 Tryd.underlying90 rfl rfl Tryd.underlying9 (by kernel_rfl) (by kernel_rfl) hd ok
    obtain ⟨adrs, hl, hsub, hall⟩ := errs_laid L (k + 1) q hq (fun b off hm => hrows b off (List.mem_append_right _ hm))
      (fun i y hy => by have := hg (i + 1) y (by simpa using hy); rwa [show k + (i + 1) = k + 1 + i by omega] at this)
    refine ⟨a :: adrs, by simp [hl], ?_, ?_⟩
    · rw [List.map_cons, List.append_assoc]
      refine List.Sublist.trans ?_ (List.sublist_append_right _ _)
      simpa [MemPlace.row] using hsub
    · intro i hi
      cases i with
      | zero =>
        refine ⟨by simpa using World.var?_cell hg0 hv 0, ?_⟩
        exact (hrows a.block a.off (by simp [MemPlace.row])).1
      | succ i =>
        have := hall i (by simpa using hi)
        rw [show k + (i + 1) = k + 1 + i by omega]
        simpa using this

theorem errs_of {W : World} (L : List (String × List UInt8)) (h : laidMet Tryd.prog (L.map sentinel) W)
    (hg : ∀ i x, L[i]? = some x → Tryd.prog.globalNamed x.1 = some i ∧ (Tryd.prog.globals[i]?).map (·.type) = some 25) : ∃ a, Errs L.length a W := by
  obtain ⟨ps, hv, hnd, hrows⟩ := h
  obtain ⟨adrs, hl, hsub, hall⟩ := errs_laid L 0 ps hv hrows (fun i x hx => by rw [Nat.zero_add]; exact hg i x hx)
  have hn := List.Nodup.sublist hsub hnd
  refine ⟨fun i => adrs.getD i ⟨0, 0, none⟩, fun i hi => ?_, fun i hi => (hall i hi).2, fun i j hi hj hne heq => ?_⟩
  · have := (hall i hi).1
    rwa [Nat.zero_add] at this
  · have hi' : i < adrs.length := by omega
    have hj' : j < adrs.length := by omega
    simp only [List.getD, List.getElem?_eq_getElem hi', List.getElem?_eq_getElem hj', Option.getD_some] at heq
    have := List.pairwise_iff_getElem.1 hn
    exfalso
    rcases Nat.lt_or_ge i j with h1 | h1
    · exact this i j (by simpa using hi') (by simpa using hj') h1 (by rw [List.getElem_map, List.getElem_map, heq])
    · rcases Nat.lt_or_ge j i with h2 | h2
      · exact this j i (by simpa using hj') (by simpa using hi') h2 (by rw [List.getElem_map, List.getElem_map, heq])
      · omega
end Go.Proofs.YtapehpcipnbpgaaDoor
