/-
  Bytes that lie in blocks of a kind, rows of frames in memory, and append, whatever is appended: where the row then lies.
-/
import Derived.Test.YtkpjdjenlmodnaaDoorHapp
import Derived.Test.YtkpjdjenlmodnaaDoorNkit
import Derived.Test.YtkpjdjenlmodnaaDoorEpure
namespace Go.Proofs.YtkpjdjenlmodnaaDoor
open Go.RowKit Go.Lib

/-- The bytes bs lie at the address, in a block of which A is true. -/
def RowA (A : Nat → Prop) (w : World) (ad : Option Addr) (bs : List Int) : Prop := ∀ j, j < bs.length → ∃ g o, ad = some ⟨g, o, none⟩ ∧ A g ∧ w.cell? ⟨g, o + j, none⟩ = some (.int .u8 (bs.getD j 0))
/-- A value that is a slice of the bytes. -/
def BodyA (A : Nat → Prop) (w : World) (v : Value) (bs : List Int) : Prop := ∃ ad cap, v = .slice ad bs.length cap ∧ bs.length ≤ cap ∧ (ad = none → cap = 0) ∧ RowA A w ad bs
/-- Cells that are frames. -/
def Frs (A : Nat → Prop) (w : World) : List Value → List Fr → Prop
  | [], [] => True
  | k :: s :: xs, f :: F => k = .int .i64 f.1 ∧ BodyA A w s f.2 ∧ Frs A w xs F
  | _, _ => False

section
variable {A A' : Nat → Prop} {w w' : World} {ad : Option Addr} {bs : List Int} {v : Value}
theorem RowA.mono (h : RowA A w ad bs) (hA : ∀ g, A g → g < w.heap.size → A' g) : RowA A' w ad bs := fun j hj => by
  obtain ⟨g, o, h1, h2, h3⟩ := h j hj
  exact ⟨g, o, h1, hA g h2 (World.block_lt_of_cell? w _ h3), h3⟩
theorem RowA.kept (h : RowA A w ad bs) (hk : ∀ g, A g → g < w.heap.size → w'.heap[g]? = w.heap[g]?) : RowA A w' ad bs := fun j hj => by
  obtain ⟨g, o, h1, h2, h3⟩ := h j hj
  refine ⟨g, o, h1, h2, ?_⟩
  rw [World.cell?_of_block (hk g h2 (World.block_lt_of_cell? w _ h3))]
  exact h3
theorem RowA.bys (h : RowA A w ad bs) : Bys w.heap.size w ad bs := fun j hj => by
  obtain ⟨g, o, h1, _, h3⟩ := h j hj
  exact ⟨g, o, h1, World.block_lt_of_cell? w _ h3, h3⟩
theorem RowA.drop {g o : Nat} (h : RowA A w (some ⟨g, o, none⟩) bs) (k : Nat) : RowA A w (some ⟨g, o + k, none⟩) (bs.drop k) := fun j hj => by
  rw [List.length_drop] at hj
  obtain ⟨g', o', h1, h2, h3⟩ := h (k + j) (by omega)
  cases h1
  refine ⟨g, o + k, rfl, h2, ?_⟩
  rw [Nat.add_assoc, h3]
  simp [List.getD, List.getElem?_drop]
theorem Bys.rowA {n : Nat} (h : Bys n w ad bs) (hA : ∀ g, g < n → A g) : RowA A w ad bs := fun j hj => by
  obtain ⟨g, o, h1, h2, h3⟩ := h j hj
  exact ⟨g, o, h1, hA g h2, h3⟩
theorem BodyA.mono (h : BodyA A w v bs) (hA : ∀ g, A g → g < w.heap.size → A' g) : BodyA A' w v bs := by
  obtain ⟨ad, cap, h1, h2, h3, h4⟩ := h
  exact ⟨ad, cap, h1, h2, h3, h4.mono hA⟩
theorem BodyA.kept (h : BodyA A w v bs) (hk : ∀ g, A g → g < w.heap.size → w'.heap[g]? = w.heap[g]?) : BodyA A w' v bs := by
  obtain ⟨ad, cap, h1, h2, h3, h4⟩ := h
  exact ⟨ad, cap, h1, h2, h3, h4.kept hk⟩
theorem BodyA.one (h : BodyA A w v bs) : v.oneCell' = true := by
  obtain ⟨ad, cap, rfl, _⟩ := h
  rfl
end

section
variable {A A' : Nat → Prop} {w w' : World}
theorem Frs.len : ∀ {xs : List Value} {F : List Fr}, Frs A w xs F → xs.length = F.length * 2
  | [], [], _ => rfl
  | k :: s :: xs, f :: F, h => by
    have := Frs.len h.2.2
    simp only [List.length_cons] at *
    omega
  | [], _ :: _, h => h.elim
  | [_], _, h => by cases ‹List Fr› <;> exact h.elim
  | _ :: _ :: _, [], h => h.elim
theorem Frs.mono (hA : ∀ g, A g → g < w.heap.size → A' g) : ∀ {xs : List Value} {F : List Fr}, Frs A w xs F → Frs A' w xs F
  | [], [], _ => trivial
  | k :: s :: xs, f :: F, h => ⟨h.1, h.2.1.mono hA, Frs.mono hA h.2.2⟩
  | [], _ :: _, h => h.elim
  | [_], _, h => by cases ‹List Fr› <;> exact h.elim
  | _ :: _ :: _, [], h => h.elim
theorem Frs.kept (hk : ∀ g, A g → g < w.heap.size → w'.heap[g]? = w.heap[g]?) : ∀ {xs : List Value} {F : List Fr}, Frs A w xs F → Frs A w' xs F
  | [], [], _ => trivial
  | k :: s :: xs, f :: F, h => ⟨h.1, h.2.1.kept hk, Frs.kept hk h.2.2⟩
  | [], _ :: _, h => h.elim
  | [_], _, h => by cases ‹List Fr› <;> exact h.elim
  | _ :: _ :: _, [], h => h.elim
theorem Frs.below {xs : List Value} {F : List Fr} (h : Frs A w xs F) (hb : Below w.heap.size w w') : Frs A w' xs F := h.kept fun g _ hg => hb.block g hg
theorem Frs.app {ys : List Value} {G : List Fr} : ∀ {xs : List Value} {F : List Fr}, Frs A w xs F → Frs A w ys G → Frs A w (xs ++ ys) (F ++ G)
  | [], [], _, h' => h'
  | k :: s :: xs, f :: F, h, h' => ⟨h.1, h.2.1, Frs.app h.2.2 h'⟩
  | [], _ :: _, h, _ => h.elim
  | [_], _, h, _ => by cases ‹List Fr› <;> exact h.elim
  | _ :: _ :: _, [], h, _ => h.elim
theorem Frs.at : ∀ {xs : List Value} {F : List Fr}, Frs A w xs F → ∀ (j : Nat) (f : Fr), F[j]? = some f → xs[j * 2]? = some (.int .i64 f.1) ∧ ∃ v, xs[j * 2 + 1]? = some v ∧ BodyA A w v f.2
  | k :: s :: xs, f :: F, h, 0, f', e => by
    cases e
    exact ⟨by rw [h.1]; rfl, s, rfl, h.2.1⟩
  | k :: s :: xs, f :: F, h, j + 1, f', e => by
    have := Frs.at h.2.2 j f' e
    rw [show (j + 1) * 2 = j * 2 + 1 + 1 by omega]
    exact this
  | [], _ :: _, h, _, _, _ => h.elim
  | [_], _ :: _, h, _, _, _ => h.elim
theorem Frs.one : ∀ {xs : List Value} {F : List Fr}, Frs A w xs F → ∀ u ∈ xs, u.oneCell' = true
  | [], [], _, u, hu => by cases hu
  | k :: s :: xs, f :: F, h, u, hu => by
    rcases List.mem_cons.1 hu with rfl | hu
    · rw [h.1]; rfl
    rcases List.mem_cons.1 hu with rfl | hu
    · exact h.2.1.one
    · exact Frs.one h.2.2 u hu
  | [], _ :: _, h, _, _ => h.elim
  | [_], _, h, _, _ => by cases ‹List Fr› <;> exact h.elim
  | _ :: _ :: _, [], h, _, _ => h.elim
end

/-- Where a row lies that was grown. -/
def Fresh (w : World) (v v' : Value) : Prop := ∀ k, v'.ownBlock = some k → some k = v.ownBlock ∨ w.heap.size ≤ k

section
variable {P : Program} {w : World} {t e ty : TypeId} {i : TypeInfo} {z : Value} {size bytes base n m c : Nat} {v : Value} {xs news : List Value} {a : Addr}
theorem app_fresh (ht : P.underlying t = some (.slice e)) (hi : P.info? e = some i) (hz : i.zero = some z) (hsize : i.size = size) (hby : i.bytes = bytes) (hzs : z.cells.size = size) (hsz : 0 < size)
    (hown : w.ownsRow base e size v n xs) (hl : news.length = m * size) (hnews : ∀ j u, news[j]? = some u → w.cell? (a.add j) = some u) (h1 : ∀ u ∈ news, u.oneCell' = true)
    (h63 : n + m ≤ maxLen) (hbytes : (n + m) * bytes ≤ 140737488355328) {v' : Value} {w' : World}
    (hr : (Builtin.append_ #[t, t] ty #[v, .slice (some a) m c]).run P w = .ok v' w') : Fresh w v v' := by
  intro k hk
  rcases hown.2 with ⟨rfl, rfl⟩ | ⟨g, cap, cur, rfl, hbg, hg, hnc, hcm, hcs, htake⟩
  · obtain rfl : xs = [] := List.eq_nil_of_length_eq_zero (by simpa using hown.1)
    obtain ⟨v2, w2, hr2, ho2, _, _⟩ := run_append_own (P := P) w w.heap.size t ty e i z size bytes ht hi hz hsize hby hzs hsz _ 0 [] (World.ownsRow_nil w _ e size) a m c news hl hnews h1 h63 hbytes (Nat.le_refl _)
    rw [hr] at hr2
    cases hr2
    exact .inr (ho2.lt k hk).1
  · by_cases hroom : n + m ≤ cap
    · have hr2 := run_append_room (P := P) w t ty e i ht hi g n cap cur hg a m c news (by rw [hsize]; exact hl) hnews h1 hroom (by rw [hsize, hl, hcs, ← Nat.add_mul]; exact Nat.mul_le_mul_right _ hroom)
      rw [hr] at hr2
      cases hr2
      exact .inl hk.symm
    · have hr2 := run_append_grow (P := P) w t ty e i z ht hi hz ⟨g, 0, none⟩ n cap xs (by rw [hsize]; exact hown.1) (hown.cells (g := g) rfl) a m c news (by rw [hsize]; exact hl) hnews (by omega) (by simp only [maxLen] at h63; omega) (growslice_fits (by omega) (by rw [hby]; exact hbytes))
      rw [hr] at hr2
      cases hr2
      cases hk
      exact .inr (Nat.le_refl _)
end

section
variable {P : Program} {t e : TypeId} {i0 : TypeInfo} {z : Value} {size bytes : Nat} {ops : Array Oper} {o : Oper} {a : Act} {w : World} {K : Act → World → Prop} {Q : Exit → Act → World → Prop} {E : Prop}
/-- append, whatever is appended: a step of a drawn region. -/
theorem r_appG (s x : Operand) (ho : o.op = .call { callee := .builtin .append, args := #[s, x], argTypes := #[t, t] })
    (ht : P.underlying t = some (.slice e)) (hi : P.info? e = some i0) (hz : i0.zero = some z) (hsize : i0.size = size) (hby : i0.bytes = bytes) (hzs : z.cells.size = size) (hsz : 0 < size) (hb100 : bytes ≤ 100)
    (base : Nat) (v : Value) (n : Nat) (xs : List Value) (hs : a.eval s = v) (hown : w.ownsRow base e size v n xs)
    (ao : Option Addr) (m c : Nat) (ms : List Value) (hx : a.eval x = .slice ao m c) (hl : ms.length = m * size) (hb : ∀ ad, ao = some ad → ∀ j u, ms[j]? = some u → w.cell? (ad.add j) = some u) (h1 : ∀ u ∈ ms, u.oneCell' = true) (hn : ao = none → m = 0 ∧ c = 0)
    (h63 : n + m ≤ 1000000) (hbase : base ≤ w.heap.size) (hw : Region.wanted o (yielded ops a.tmps) = true)
    (h : ∀ v' w', w'.ownsRow base e size v' (n + m) (xs ++ ms) → w.grownBy w' v.ownBlock → Fresh w v v' → K (a.put o.dst v') w') : if Region.wanted o (yielded ops a.tmps) = true then Oper.wp P o a w K Q else E := by
  rw [if_pos hw]
  cases ao with
  | none =>
    obtain ⟨rfl, rfl⟩ := hn rfl
    obtain rfl : ms = [] := List.length_eq_zero_iff.1 (by omega)
    have hrun := run_append_owned_none (P := P) (w := w) base t o.type e i0 size ht hi v n xs hown
    unfold Oper.wp execOp
    simp only [ho, resolve, invoke, builtin, Sem.run_bind, Sem.run_pure, Result.andThen_ok, List.map_toArray, List.map_cons, List.map_nil, hs, hx, hrun]
    exact h _ _ (by simpa using hown) (World.grownBy.refl _ _) (fun k hk => .inl hk.symm)
  | some ad =>
    have hmax : n + m ≤ maxLen := by unfold maxLen; omega
    have hbt : (n + m) * bytes ≤ 140737488355328 := Nat.le_trans (Nat.mul_le_mul h63 hb100) (by decide)
    obtain ⟨v', w', hr, h2, h3, _⟩ := run_append_own (P := P) w base t o.type e i0 z size bytes ht hi hz hsize hby hzs hsz v n xs hown ad m c ms hl (hb ad rfl) h1 hmax hbt hbase
    have hf := app_fresh (P := P) (ty := o.type) (c := c) ht hi hz hsize hby hzs hsz hown hl (hb ad rfl) h1 hmax hbt hr
    unfold Oper.wp execOp
    simp only [ho, resolve, invoke, builtin, Sem.run_bind, Sem.run_pure, Result.andThen_ok, List.map_toArray, List.map_cons, List.map_nil, hs, hx, hr]
    exact h v' w' h2 h3 hf
end
/-- append, whatever is appended: a step of a plain region. -/
theorem wpl_appG {P : Program} {t e : TypeId} {i0 : TypeInfo} {z : Value} {size bytes : Nat} {ops : Array Oper} {rest : List Oper} {o : Oper} {a : Act} {w : World} {Q : Exit → Act → World → Prop} (s x : Operand) (ho : o.op = .call { callee := .builtin .append, args := #[s, x], argTypes := #[t, t] })
    (ht : P.underlying t = some (.slice e)) (hi : P.info? e = some i0) (hz : i0.zero = some z) (hsize : i0.size = size) (hby : i0.bytes = bytes) (hzs : z.cells.size = size) (hsz : 0 < size) (hb100 : bytes ≤ 100)
    (base : Nat) (v : Value) (n : Nat) (xs : List Value) (hs : a.eval s = v) (hown : w.ownsRow base e size v n xs)
    (ao : Option Addr) (m c : Nat) (ms : List Value) (hx : a.eval x = .slice ao m c) (hl : ms.length = m * size) (hb : ∀ ad, ao = some ad → ∀ j u, ms[j]? = some u → w.cell? (ad.add j) = some u) (h1 : ∀ u ∈ ms, u.oneCell' = true) (hn : ao = none → m = 0 ∧ c = 0)
    (h63 : n + m ≤ 1000000) (hbase : base ≤ w.heap.size) (hw : Region.wanted o (yielded ops a.tmps) = true)
    (h : ∀ v' w', w'.ownsRow base e size v' (n + m) (xs ++ ms) → w.grownBy w' v.ownBlock → Fresh w v v' → wpList P ops Q rest (a.put o.dst v') w') : wpList P ops Q (o :: rest) a w :=
  BigFrame.wpList_want hw fun K hK => by
    have := r_appG (ops := ops) (K := K) (Q := Q) (E := False) s x ho ht hi hz hsize hby hzs hsz hb100 base v n xs hs hown ao m c ms hx hl hb h1 hn h63 hbase hw (fun v' w' h1 h2 h3 => hK _ _ (h v' w' h1 h2 h3))
    rw [if_pos hw] at this
    exact this

theorem Tryd.infoFrame : (Tryd.prog.info? 46).map (fun i => (i.zero, i.size, i.bytes)) = some (some (.agg #[.int .i64 0, .slice none 0 0]), 2, 32) := by kernel_rfl
theorem Tryd.infoRFrame : (Tryd.prog.info? 50).map (fun i => (i.zero, i.size, i.bytes)) = some (some (.agg #[.int .i64 0, .slice none 0 0]), 2, 32) := by kernel_rfl
end Go.Proofs.YtkpjdjenlmodnaaDoor
