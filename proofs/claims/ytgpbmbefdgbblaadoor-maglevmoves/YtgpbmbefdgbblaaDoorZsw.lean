/-
  A row of elements of k cells of one's own, as a sort takes it and leaves it. No program.
-/
import Derived.Test.YtgpbmbefdgbblaaDoorZcll
import Derived.Shelf.SlSortCmp.NoneTotal
namespace Go.Proofs.YtgpbmbefdgbblaaDoor
open Go.RowKit Go.Shelf Go.Lib Go.Sort

section
variable {α : Type} [Inhabited α] {enc : α → Array Value} {encL : α → List Value}

theorem flat_get (k : Nat) (hk : ∀ x, (encL x).length = k) (he : ∀ x, (enc x).toList = encL x) : ∀ (xs : List α) (t : Nat), t < xs.length * k → (flatY enc xs)[t]! = (encL xs[t / k]!)[t % k]!
  | [], t, h => by simp at h
  | x :: xs, t, h => by
    have hf : flatY enc (x :: xs) = encL x ++ flatY enc xs := by simp [flatY, he]
    rw [hf]
    have hk0 : 0 < k := by rcases Nat.eq_zero_or_pos k with h0 | h0; · subst h0; simp at h
                           · exact h0
    have hl := hk x
    by_cases ht : t < k
    · have e1 : t / k = 0 := Nat.div_eq_of_lt ht
      have e2 : t % k = t := Nat.mod_eq_of_lt ht
      rw [e1, e2]
      have h1 : t < (encL x).length := by omega
      have h2 : t < (encL x ++ flatY enc xs).length := by rw [List.length_append]; omega
      show (encL x ++ flatY enc xs)[t]! = (encL x)[t]!
      rw [getElem!_pos _ t h2, getElem!_pos _ t h1, List.getElem_append_left h1]
    · obtain ⟨u, rfl⟩ : ∃ u, t = k + u := ⟨t - k, by omega⟩
      have hu : u < xs.length * k := by simp only [List.length_cons, Nat.add_mul, Nat.one_mul] at h; omega
      have ih := flat_get k hk he xs u hu
      have e1 : (k + u) / k = u / k + 1 := by rw [Nat.add_comm, Nat.add_div_right u hk0]
      have e2 : (k + u) % k = u % k := Nat.add_mod_left k u
      rw [e1, e2]
      show _ = (encL xs[u / k]!)[u % k]!
      rw [← ih]
      simp only [List.getElem!_eq_getElem?_getD]
      rw [List.getElem?_append_right (by omega), hl, Nat.add_sub_cancel_left]

theorem flat_flatK (k : Nat) (hk : ∀ x, (encL x).length = k) (he : ∀ x, (enc x).toList = encL x) (xs : List α) : flatK encL k xs.toArray = (flatY enc xs).toArray := by
  have hl : (flatY enc xs).length = xs.length * k := flat_length k (fun x => by rw [← Array.length_toList, he, hk]) xs
  refine ext_get! (by simp [hl]) fun t ht => ?_
  have ht' : t < xs.length * k := by simpa using ht
  have h1 := get_flatK encL k xs.toArray t (by simpa using ht')
  rw [h1]
  have h2 := flat_get k hk he xs t ht'
  simp only [List.getElem!_toArray]
  rw [h2]

theorem holds_own (k : Nat) (hk : ∀ x, (encL x).length = k) (he : ∀ x, (enc x).toList = encL x) (w : World) (g : Nat) (e : TypeId) (cur : Array Value) (xs : List α)
    (hb : w.heap[g]? = some (.cells cur e (0, 0))) (ht : cur.toList.take (xs.length * k) = flatY enc xs) : HoldsK encL k w g 0 xs.toArray := by
  intro j hj
  have hj' : j < xs.length * k := by simpa using hj
  have hl : (flatY enc xs).length = xs.length * k := flat_length k (fun x => by rw [← Array.length_toList, he, hk]) xs
  have hc : j < cur.size := by
    have := congrArg List.length ht
    rw [hl, List.length_take, show cur.toList.length = cur.size from rfl] at this
    omega
  rw [flat_flatK k hk he]
  have h2 : (flatY enc xs).toArray[j]! = cur[j] := by
    have h3 : j < (flatY enc xs).length := by omega
    rw [List.getElem!_toArray, getElem!_pos _ j h3]
    have h4 : (flatY enc xs)[j]? = some cur[j] := by
      rw [← ht, List.getElem?_take_of_lt hj', Array.getElem?_toList, Array.getElem?_eq_getElem hc]
    rw [List.getElem?_eq_getElem h3] at h4
    exact Option.some.inj h4
  rw [h2, Nat.zero_add]
  constructor
  · unfold World.cell?
    simp [hb, hc]
  · unfold World.frozen?
    simp [hb]

theorem own_sorted (k : Nat) (hk : ∀ x, (encL x).length = k) (he : ∀ x, (enc x).toList = encL x) (w : World) (g : Nat) (e : TypeId) (cur : Array Value) (d : List α) (m : Nat) (os : Array Obj)
    (hb : w.heap[g]? = some (.cells cur e (0, 0))) (hc : d.length * k ≤ cur.size) :
    (∃ cur', (sortWorldK encL k w g 0 m d.toArray os).heap[g]? = some (.cells cur' e (0, 0)) ∧ cur'.size = cur.size ∧ cur'.toList.take (d.length * k) = flatY enc d ∧ cur'.toList.drop (d.length * k) = cur.toList.drop (d.length * k)) ∧ ∀ n, n ≤ g → Below n w (sortWorldK encL k w g 0 m d.toArray os) := by
  have hl : (flatY enc d).length = d.length * k := flat_length k (fun x => by rw [← Array.length_toList, he, hk]) d
  have hz : g < w.heap.size := by
    rcases Nat.lt_or_ge g w.heap.size with h | h
    · exact h
    · rw [Array.getElem?_eq_none h] at hb; exact absurd hb (by simp)
  obtain ⟨F, hF⟩ : ∃ F, F = (flatY enc d).toArray := ⟨_, rfl⟩
  have hFs : F.size = d.length * k := by rw [hF]; simpa using hl
  have hw : sortWorldK encL k w g 0 m d.toArray os = { w with heap := (w.heap.modify g (onCells (putCells id 0 F))) ++ os, drawn := w.drawn + m } := by
    unfold sortWorldK putRowK
    rw [flat_flatK k hk he, ← hF]
    rfl
  constructor
  · refine ⟨putCells id 0 F cur, ?_, by simp [putCells], ?_, ?_⟩
    · rw [hw]
      show (w.heap.modify g (onCells (putCells id 0 F)) ++ os)[g]? = _
      rw [Array.getElem?_append_left (by simpa using hz), Array.getElem?_modify, if_pos rfl, hb]
      rfl
    · apply List.ext_getElem?
      intro i
      by_cases hi : i < d.length * k
      · rw [List.getElem?_take_of_lt hi, Array.getElem?_toList]
        unfold putCells
        rw [Array.getElem?_mapIdx, Array.getElem?_eq_getElem (by omega)]
        have h3 : i < (flatY enc d).length := by omega
        rw [Option.map_some, if_pos ⟨Nat.zero_le _, by omega⟩, Nat.sub_zero, hF, List.getElem!_toArray, getElem!_pos _ i h3, List.getElem?_eq_getElem h3]
        rfl
      · rw [List.getElem?_eq_none (by rw [List.length_take]; omega), List.getElem?_eq_none (by omega)]
    · apply List.ext_getElem?
      intro i
      rw [List.getElem?_drop, List.getElem?_drop, Array.getElem?_toList, Array.getElem?_toList]
      unfold putCells
      rw [Array.getElem?_mapIdx]
      cases cur[d.length * k + i]? with
      | none => rfl
      | some x => rw [Option.map_some, if_neg (by omega)]
  · intro n hn
    rw [hw]
    refine ⟨rfl, rfl, rfl, ?_, fun i hi => ?_⟩
    · show w.heap.size ≤ (w.heap.modify g (onCells (putCells id 0 F)) ++ os).size
      simp
    · show (w.heap.modify g (onCells (putCells id 0 F)) ++ os)[i]? = w.heap[i]?
      rw [Array.getElem?_append_left (by simp; omega), Array.getElem?_modify, if_neg (by omega)]
end
end Go.Proofs.YtgpbmbefdgbblaaDoor
