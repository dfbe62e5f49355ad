/-
  maglev.Fill: the table, or the first error of its list.
-/
import Derived.Test.YtgpbmbefdgbblaaDoorLfil
import Derived.Test.YtgpbmbefdgbblaaDoorZsort
namespace Go.Proofs.YtgpbmbefdgbblaaDoor
open Go.RowKit Go.Lib

/-- What the package-level variables hold: the errors by their numbers, the factors. -/
structure MEnv (E : Nat → TypeId × Value) (w : World) : Prop where
  fenv : FEnv w
  er : w.cell? ⟨0, 0, none⟩ = some (.iface (E 1).1 (E 1).2)
  ea : w.cell? ⟨1, 0, none⟩ = some (.iface (E 8).1 (E 8).2)
  en : w.cell? ⟨2, 0, none⟩ = some (.iface (E 11).1 (E 11).2)
  ef : w.cell? ⟨3, 0, none⟩ = some (.iface (E 13).1 (E 13).2)
theorem MEnv.kept {E : Nat → TypeId × Value} {w w' : World} (h : MEnv E w) (hb : Below w.heap.size w w') : MEnv E w' :=
  ⟨h.fenv.kept hb, (hb.cell (World.block_lt_of_cell? w _ h.er)).trans h.er, (hb.cell (World.block_lt_of_cell? w _ h.ea)).trans h.ea, (hb.cell (World.block_lt_of_cell? w _ h.en)).trans h.en, (hb.cell (World.block_lt_of_cell? w _ h.ef)).trans h.ef⟩

theorem msized_any (n : Int) (w : World) : Calls Tryd.prog 12 #[.int .i64 n] w fun e w' => e = .returned (.bool (sizedB n)) ∧ Below w.heap.size w w' := by
  have HI := hid (is_any n w)
  by_cases h : n ≤ 251
  · have HE : Hid (isP n = sizedB n) := hid (by unfold sizedB; rw [decide_eq_true h, Bool.true_and])
    generalize isP n = b at *
    go_enter Tryd.func12, Tryd.ntmps12
    go_wp2_with fail
    refine HI.out.mono ?_
    rintro e w1 ⟨rfl, hb⟩
    have Hb := hid hb
    clear hb
    go_wp2
    go_ret
    exact ⟨ret_b rfl HE.out, Hb.out⟩
  · have HE : Hid (false = sizedB n) := hid (by unfold sizedB; rw [decide_eq_false h, Bool.false_and])
    go_enter Tryd.func12, Tryd.ntmps12
    go_wp2
    go_ret
    exact ⟨ret_b rfl HE.out, Below.refl _ _⟩

/-- The number of the error of a filling; 0: none. -/
def fillE (xs : List PS) (m : Int) : Nat := if sizedB m = false then 1 else if anyNo xs = true then 8 else if (psorted xs).length = 0 then 11 else if min 24 m < (psorted xs).length then 13 else 0
theorem fillE_range (xs : List PS) (m : Int) : fillE xs m = 0 ∨ fillE xs m = 1 ∨ fillE xs m = 8 ∨ fillE xs m = 11 ∨ fillE xs m = 13 := by
  unfold fillE
  split
  · simp
  · split
    · simp
    · split
      · simp
      · split <;> simp
/-- What a filling ends with. -/
def FillEnd (E : Nat → TypeId × Value) (xs : List PS) (m : Int) (w : World) (e : Ending) (w' : World) : Prop := Below w.heap.size w w' ∧
  ((fillE xs m ≠ 0 ∧ e = .returned (.tuple #[.agg #[.int .i64 0, .slice none 0 0, .slice none 0 0], .iface (E (fillE xs m)).1 (E (fillE xs m)).2])) ∨
   (fillE xs m = 0 ∧ ∃ (M : Nat) (ab : Option Addr) (cap S : Nat), m = (M : Int) ∧ e = .returned (.tuple #[.agg #[.int .i64 (M : Int), .slice ab (psorted xs).length cap, .slice (some ⟨S, 0, none⟩) M M], .nilIface]) ∧
     (psorted xs).length ≤ cap ∧ Elems encP 18 w'.heap.size w' ab (psorted xs) ∧ SlotB w' S (fillT (ordL M (psorted xs)) (psorted xs).length M M)))

theorem own_shapeP {w : World} {base : Nat} {v : Value} {k : Nat} {ks : List PS} (h : w.ownsRow base 36 18 v k (flatY encP ks)) (hk : 0 < k) : ks.length = k ∧ ∃ g cap, v = .slice (some ⟨g, 0, none⟩) k cap ∧ k ≤ cap ∧ base ≤ g ∧ Elems encP 18 w.heap.size w (some ⟨g, 0, none⟩) ks := by
  obtain ⟨h1, ad, cap, e, h2, _, _, h5⟩ := own_elems h
  obtain ⟨_, ⟨_, h0⟩ | ⟨g, cap', cur, e', hg, _⟩⟩ := h
  · omega
  · rw [e] at e'
    cases e'
    exact ⟨h1, g, cap, e, h2, hg, h5⟩
def zeroT : Array Value := #[.int .i64 0, .slice none 0 0, .slice none 0 0]
theorem Tryd.infoTable : (Tryd.prog.info? 26).map (·.size) = some 3 := by kernel_rfl

set_option linter.unusedVariables false in
set_option maxRecDepth 100000 in
set_option maxHeartbeats 8000000 in
theorem fill1 (E : Nat → TypeId × Value) (ad : Option Addr) (cap : Nat) (xs : List PS) (hcap : xs.length ≤ cap) (hm : xs.length ≤ 1000) (m : Int) (h1 : sizedB m = false) (w : World) (hE : MEnv E w) (hI : Elems encP 18 w.heap.size w ad xs) :
    Calls Tryd.prog 6 #[.slice ad xs.length cap, .int .i64 m] w (FillEnd E xs m w) := by
  have hz : fillE xs m = 1 := by unfold fillE; rw [if_pos h1]
  have HB0 : Hid (Below w.heap.size w (w.alloc (.cells #[.int .i64 0, .slice none 0 0, .slice none 0 0] 26))) := hid ((Below.refl _ _).alloc (Nat.le_refl _) _)
  have HN0 := hid (Blk.new w 26 #[.int .i64 0, .slice none 0 0, .slice none 0 0])
  have HE := hid hE
  have HI := hid hI
  have HSz := hid (fun W => h1 ▸ msized_any _ W)
  clear hcap hm h1 hE hI
  go_enter Tryd.func6, Tryd.ntmps6
  go_wp2_with fail
  refine (HSz.out _).mono ?_
  rintro e w1 ⟨rfl, hb⟩
  have HB := hid (bel2 HB0.out hb)
  have HN := hid (HN0.out.kept hb)
  clear hb HB0 HN0
  have c0 : w1.cell? ⟨w.heap.size, 0, none⟩ = some (.int .i64 0) := HN.out.cell 0
  have c1 : w1.cell? ⟨w.heap.size, 1, none⟩ = some (.slice none 0 0) := HN.out.cell 1
  have c2 : w1.cell? ⟨w.heap.size, 2, none⟩ = some (.slice none 0 0) := HN.out.cell 2
  have f0 : w1.frozen? ⟨w.heap.size, 0, none⟩ = false := HN.out.frozen 0
  have f1 : w1.frozen? ⟨w.heap.size, 1, none⟩ = false := HN.out.frozen 1
  have f2 : w1.frozen? ⟨w.heap.size, 2, none⟩ = false := HN.out.frozen 2
  obtain ⟨u, v, huv⟩ : ∃ u v, (u, v) = E 1 := ⟨_, _, rfl⟩
  have e0 : w1.cell? ⟨0, 0, none⟩ = some (.iface u v) := by have := (HE.out.kept HB.out).er; rw [← huv] at this; exact this
  have hz0 : 0 < w.heap.size := World.block_lt_of_cell? w _ HE.out.er
  have e1 : (w1.setCell ⟨w.heap.size, 0, none⟩ (.int .i64 0)).cell? ⟨0, 0, none⟩ = some (.iface u v) := (World.cell?_of_block (a := ⟨0, 0, none⟩) (Below.heap_setCell w1 _ _ 0 (by show 0 ≠ w.heap.size; omega))).trans e0
  have HF : Hid (∀ W', Below w.heap.size w W' → FillEnd E xs m w (.returned (.tuple #[.agg #[.int .i64 0, .slice none 0 0, .slice none 0 0], .iface u v])) W') := hid (fun W' hb => ⟨hb, .inl (by rw [hz]; exact ⟨by decide, by rw [← huv]⟩)⟩)
  clear hz0 huv
  go_wp2
  go_region
  all_goals
    go_wp2
    refine bodyPost_ret (by simp [results, Tryd.f6, go_sem, c0, c1, c2]) rfl (HF.out _ ?_)
    first | exact (((HB.out.setCell (Nat.le_refl _) _).setCell (Nat.le_refl _) _).setCell (Nat.le_refl _) _).drew | exact (((HB.out.drew.setCell (Nat.le_refl _) _).setCell (Nat.le_refl _) _).setCell (Nat.le_refl _) _)
set_option linter.unusedVariables false in
set_option maxRecDepth 100000 in
set_option maxHeartbeats 8000000 in
theorem fill8 (E : Nat → TypeId × Value) (ad : Option Addr) (cap : Nat) (xs : List PS) (hcap : xs.length ≤ cap) (hm : xs.length ≤ 1000) (m : Int) (h1 : sizedB m = true) (h2 : anyNo xs = true) (w : World) (hE : MEnv E w) (hI : Elems encP 18 w.heap.size w ad xs) :
    Calls Tryd.prog 6 #[.slice ad xs.length cap, .int .i64 m] w (FillEnd E xs m w) := by
  have hz : fillE xs m = 8 := by unfold fillE; rw [if_neg (by rw [h1]; decide), if_pos h2]
  have HB0 : Hid (Below w.heap.size w (w.alloc (.cells #[.int .i64 0, .slice none 0 0, .slice none 0 0] 26))) := hid ((Below.refl _ _).alloc (Nat.le_refl _) _)
  have HN0 := hid (Blk.new w 26 #[.int .i64 0, .slice none 0 0, .slice none 0 0])
  have HE := hid hE
  have HI := hid hI
  have HSz := hid (fun W => h1 ▸ msized_any _ W)
  have HCo : Hid (∀ W, Below w.heap.size w W → Calls Tryd.prog 13 #[.slice ad xs.length cap, .func (.func 14) #[] #[]] W fun e w' => e = .returned (.bool (anyNo xs)) ∧ Below W.heap.size W w') := hid (fun W hb => contains_any ad cap xs hcap (by omega) W ((hI.below hb).mono hb.size))
  rw [h2] at HCo
  clear hcap hm h1 h2 hE hI
  go_enter Tryd.func6, Tryd.ntmps6
  go_wp2_with fail
  refine (HSz.out _).mono ?_
  rintro e w1 ⟨rfl, hb⟩
  have HB := hid (bel2 HB0.out hb)
  have HN := hid (HN0.out.kept hb)
  clear hb HB0 HN0
  go_wp2_with fail
  refine (HCo.out _ HB.out).mono ?_
  rintro e w2 ⟨rfl, hb⟩
  replace HN := hid (HN.out.kept hb)
  replace HB := hid (bel2 HB.out hb)
  clear hb
  have c0 : w2.cell? ⟨w.heap.size, 0, none⟩ = some (.int .i64 0) := HN.out.cell 0
  have c1 : w2.cell? ⟨w.heap.size, 1, none⟩ = some (.slice none 0 0) := HN.out.cell 1
  have c2 : w2.cell? ⟨w.heap.size, 2, none⟩ = some (.slice none 0 0) := HN.out.cell 2
  have f0 : w2.frozen? ⟨w.heap.size, 0, none⟩ = false := HN.out.frozen 0
  have f1 : w2.frozen? ⟨w.heap.size, 1, none⟩ = false := HN.out.frozen 1
  have f2 : w2.frozen? ⟨w.heap.size, 2, none⟩ = false := HN.out.frozen 2
  obtain ⟨u, v, huv⟩ : ∃ u v, (u, v) = E 8 := ⟨_, _, rfl⟩
  have e0 : w2.cell? ⟨1, 0, none⟩ = some (.iface u v) := by have := (HE.out.kept HB.out).ea; rw [← huv] at this; exact this
  have hz0 : 1 < w.heap.size := World.block_lt_of_cell? w _ HE.out.ea
  have e1 : (w2.setCell ⟨w.heap.size, 0, none⟩ (.int .i64 0)).cell? ⟨1, 0, none⟩ = some (.iface u v) := (World.cell?_of_block (a := ⟨1, 0, none⟩) (Below.heap_setCell w2 _ _ 1 (by show 1 ≠ w.heap.size; omega))).trans e0
  have HF : Hid (∀ W', Below w.heap.size w W' → FillEnd E xs m w (.returned (.tuple #[.agg #[.int .i64 0, .slice none 0 0, .slice none 0 0], .iface u v])) W') := hid (fun W' hb => ⟨hb, .inl (by rw [hz]; exact ⟨by decide, by rw [← huv]⟩)⟩)
  clear hz0 huv
  go_wp2
  go_region
  all_goals
    go_wp2
    refine bodyPost_ret (by simp [results, Tryd.f6, go_sem, c0, c1, c2]) rfl (HF.out _ ?_)
    first | exact (((HB.out.setCell (Nat.le_refl _) _).setCell (Nat.le_refl _) _).setCell (Nat.le_refl _) _).drew | exact (((HB.out.drew.setCell (Nat.le_refl _) _).setCell (Nat.le_refl _) _).setCell (Nat.le_refl _) _)
set_option linter.unusedVariables false in
set_option maxRecDepth 100000 in
set_option maxHeartbeats 8000000 in
theorem fill11 (E : Nat → TypeId × Value) (ad : Option Addr) (cap : Nat) (xs : List PS) (hcap : xs.length ≤ cap) (hm : xs.length ≤ 1000) (m : Int) (h1 : sizedB m = true) (h2 : anyNo xs = false) (h3 : (psorted xs).length = 0) (w : World) (hE : MEnv E w) (hI : Elems encP 18 w.heap.size w ad xs) :
    Calls Tryd.prog 6 #[.slice ad xs.length cap, .int .i64 m] w (FillEnd E xs m w) := by
  have hz : fillE xs m = 11 := by unfold fillE; rw [if_neg (by rw [h1]; decide), if_neg (by rw [h2]; decide), if_pos h3]
  have HB0 : Hid (Below w.heap.size w (w.alloc (.cells #[.int .i64 0, .slice none 0 0, .slice none 0 0] 26))) := hid ((Below.refl _ _).alloc (Nat.le_refl _) _)
  have HN0 := hid (Blk.new w 26 #[.int .i64 0, .slice none 0 0, .slice none 0 0])
  have HE := hid hE
  have HI := hid hI
  have HSz := hid (fun W => h1 ▸ msized_any _ W)
  have HCo : Hid (∀ W, Below w.heap.size w W → Calls Tryd.prog 13 #[.slice ad xs.length cap, .func (.func 14) #[] #[]] W fun e w' => e = .returned (.bool (anyNo xs)) ∧ Below W.heap.size W w') := hid (fun W hb => contains_any ad cap xs hcap (by omega) W ((hI.below hb).mono hb.size))
  rw [h2] at HCo
  have HSo : Hid (∀ W, Below w.heap.size w W → Calls Tryd.prog 16 #[.slice ad xs.length cap] W (CollEnd (psorted xs) encP W)) := hid (fun W hb => psort_any cap ad xs hcap (by omega) W ((hI.below hb).mono hb.size))
  clear hcap hm h1 h2 hE hI
  go_enter Tryd.func6, Tryd.ntmps6
  go_wp2_with fail
  refine (HSz.out _).mono ?_
  rintro e w1 ⟨rfl, hb⟩
  have HB := hid (bel2 HB0.out hb)
  have HN := hid (HN0.out.kept hb)
  clear hb HB0 HN0
  go_wp2_with fail
  refine (HCo.out _ HB.out).mono ?_
  rintro e w2 ⟨rfl, hb⟩
  replace HN := hid (HN.out.kept hb)
  replace HB := hid (bel2 HB.out hb)
  clear hb
  go_wp2_with fail
  refine (HSo.out _ HB.out).mono ?_
  rintro e w3 ⟨v, rfl, ho, hb⟩
  replace HN := hid (HN.out.kept hb)
  replace HB := hid (bel2 HB.out hb)
  clear hb
  obtain ⟨_, g3, cap3, rfl, hg3, _, hnone, hel⟩ := own_elems ho
  have HEl := hid (And.intro hg3 (And.intro hnone hel))
  clear ho hnone hel
  rw [h3]
  clear h3
  have c0 : w3.cell? ⟨w.heap.size, 0, none⟩ = some (.int .i64 0) := HN.out.cell 0
  have c1 : w3.cell? ⟨w.heap.size, 1, none⟩ = some (.slice none 0 0) := HN.out.cell 1
  have c2 : w3.cell? ⟨w.heap.size, 2, none⟩ = some (.slice none 0 0) := HN.out.cell 2
  have f0 : w3.frozen? ⟨w.heap.size, 0, none⟩ = false := HN.out.frozen 0
  have f1 : w3.frozen? ⟨w.heap.size, 1, none⟩ = false := HN.out.frozen 1
  have f2 : w3.frozen? ⟨w.heap.size, 2, none⟩ = false := HN.out.frozen 2
  obtain ⟨u, v, huv⟩ : ∃ u v, (u, v) = E 11 := ⟨_, _, rfl⟩
  have e0 : w3.cell? ⟨2, 0, none⟩ = some (.iface u v) := by have := (HE.out.kept HB.out).en; rw [← huv] at this; exact this
  have hz0 : 2 < w.heap.size := World.block_lt_of_cell? w _ HE.out.en
  have e1 : (w3.setCell ⟨w.heap.size, 0, none⟩ (.int .i64 0)).cell? ⟨2, 0, none⟩ = some (.iface u v) := (World.cell?_of_block (a := ⟨2, 0, none⟩) (Below.heap_setCell w3 _ _ 2 (by show 2 ≠ w.heap.size; omega))).trans e0
  have HF : Hid (∀ W', Below w.heap.size w W' → FillEnd E xs m w (.returned (.tuple #[.agg #[.int .i64 0, .slice none 0 0, .slice none 0 0], .iface u v])) W') := hid (fun W' hb => ⟨hb, .inl (by rw [hz]; exact ⟨by decide, by rw [← huv]⟩)⟩)
  clear hz0 huv
  go_wp2
  go_region
  all_goals
    go_wp2
    refine bodyPost_ret (by simp [results, Tryd.f6, go_sem, c0, c1, c2]) rfl (HF.out _ ?_)
    first | exact (((HB.out.setCell (Nat.le_refl _) _).setCell (Nat.le_refl _) _).setCell (Nat.le_refl _) _).drew | exact (((HB.out.drew.setCell (Nat.le_refl _) _).setCell (Nat.le_refl _) _).setCell (Nat.le_refl _) _)
set_option linter.unusedVariables false in
set_option maxRecDepth 100000 in
set_option maxHeartbeats 8000000 in
theorem fill13 (E : Nat → TypeId × Value) (ad : Option Addr) (cap : Nat) (xs : List PS) (hcap : xs.length ≤ cap) (hm : xs.length ≤ 1000) (m : Int) (h1 : sizedB m = true) (h2 : anyNo xs = false) (h3 : (psorted xs).length ≠ 0) (h4 : min 24 m < (psorted xs).length) (w : World) (hE : MEnv E w) (hI : Elems encP 18 w.heap.size w ad xs) :
    Calls Tryd.prog 6 #[.slice ad xs.length cap, .int .i64 m] w (FillEnd E xs m w) := by
  have hz : fillE xs m = 13 := by unfold fillE; rw [if_neg (by rw [h1]; decide), if_neg (by rw [h2]; decide), if_neg h3, if_pos h4]
  have HB0 : Hid (Below w.heap.size w (w.alloc (.cells #[.int .i64 0, .slice none 0 0, .slice none 0 0] 26))) := hid ((Below.refl _ _).alloc (Nat.le_refl _) _)
  have HN0 := hid (Blk.new w 26 #[.int .i64 0, .slice none 0 0, .slice none 0 0])
  have HE := hid hE
  have HI := hid hI
  have HSz := hid (fun W => h1 ▸ msized_any _ W)
  have HCo : Hid (∀ W, Below w.heap.size w W → Calls Tryd.prog 13 #[.slice ad xs.length cap, .func (.func 14) #[] #[]] W fun e w' => e = .returned (.bool (anyNo xs)) ∧ Below W.heap.size W w') := hid (fun W hb => contains_any ad cap xs hcap (by omega) W ((hI.below hb).mono hb.size))
  rw [h2] at HCo
  have HSo : Hid (∀ W, Below w.heap.size w W → Calls Tryd.prog 16 #[.slice ad xs.length cap] W (CollEnd (psorted xs) encP W)) := hid (fun W hb => psort_any cap ad xs hcap (by omega) W ((hI.below hb).mono hb.size))
  clear hcap hm h1 h2 hE hI
  go_enter Tryd.func6, Tryd.ntmps6
  go_wp2_with fail
  refine (HSz.out _).mono ?_
  rintro e w1 ⟨rfl, hb⟩
  have HB := hid (bel2 HB0.out hb)
  have HN := hid (HN0.out.kept hb)
  clear hb HB0 HN0
  go_wp2_with fail
  refine (HCo.out _ HB.out).mono ?_
  rintro e w2 ⟨rfl, hb⟩
  replace HN := hid (HN.out.kept hb)
  replace HB := hid (bel2 HB.out hb)
  clear hb
  go_wp2_with fail
  refine (HSo.out _ HB.out).mono ?_
  rintro e w3 ⟨v, rfl, ho, hb⟩
  replace HN := hid (HN.out.kept hb)
  replace HB := hid (bel2 HB.out hb)
  clear hb
  obtain ⟨_, g3, cap3, rfl, hg3, _, hnone, hel⟩ := own_elems ho
  have HEl := hid (And.intro hg3 (And.intro hnone hel))
  clear ho hnone hel
  generalize (psorted xs).length = n at *
  have h5 : ¬ (n : Int) = 0 := by omega
  have c0 : w3.cell? ⟨w.heap.size, 0, none⟩ = some (.int .i64 0) := HN.out.cell 0
  have c1 : w3.cell? ⟨w.heap.size, 1, none⟩ = some (.slice none 0 0) := HN.out.cell 1
  have c2 : w3.cell? ⟨w.heap.size, 2, none⟩ = some (.slice none 0 0) := HN.out.cell 2
  have f0 : w3.frozen? ⟨w.heap.size, 0, none⟩ = false := HN.out.frozen 0
  have f1 : w3.frozen? ⟨w.heap.size, 1, none⟩ = false := HN.out.frozen 1
  have f2 : w3.frozen? ⟨w.heap.size, 2, none⟩ = false := HN.out.frozen 2
  obtain ⟨u, v, huv⟩ : ∃ u v, (u, v) = E 13 := ⟨_, _, rfl⟩
  have e0 : w3.cell? ⟨3, 0, none⟩ = some (.iface u v) := by have := (HE.out.kept HB.out).ef; rw [← huv] at this; exact this
  have hz0 : 3 < w.heap.size := World.block_lt_of_cell? w _ HE.out.ef
  have e1 : (w3.setCell ⟨w.heap.size, 0, none⟩ (.int .i64 0)).cell? ⟨3, 0, none⟩ = some (.iface u v) := (World.cell?_of_block (a := ⟨3, 0, none⟩) (Below.heap_setCell w3 _ _ 3 (by show 3 ≠ w.heap.size; omega))).trans e0
  have HF : Hid (∀ W', Below w.heap.size w W' → FillEnd E xs m w (.returned (.tuple #[.agg #[.int .i64 0, .slice none 0 0, .slice none 0 0], .iface u v])) W') := hid (fun W' hb => ⟨hb, .inl (by rw [hz]; exact ⟨by decide, by rw [← huv]⟩)⟩)
  clear hz0 huv
  go_wp2
  go_region
  all_goals
    go_wp2
    refine bodyPost_ret (by simp [results, Tryd.f6, go_sem, c0, c1, c2]) rfl (HF.out _ ?_)
    first | exact (((HB.out.setCell (Nat.le_refl _) _).setCell (Nat.le_refl _) _).setCell (Nat.le_refl _) _).drew | exact (((HB.out.drew.setCell (Nat.le_refl _) _).setCell (Nat.le_refl _) _).setCell (Nat.le_refl _) _)
set_option linter.unusedVariables false in
set_option maxRecDepth 100000 in
set_option maxHeartbeats 8000000 in
theorem fill0 (E : Nat → TypeId × Value) (ad : Option Addr) (cap : Nat) (xs : List PS) (hcap : xs.length ≤ cap) (hm : xs.length ≤ 1000) (m : Int) (h1 : sizedB m = true) (h2 : anyNo xs = false) (h3 : (psorted xs).length ≠ 0) (h4 : ¬ min 24 m < (psorted xs).length) (w : World) (hE : MEnv E w) (hI : Elems encP 18 w.heap.size w ad xs) :
    Calls Tryd.prog 6 #[.slice ad xs.length cap, .int .i64 m] w (FillEnd E xs m w) := by
  obtain ⟨M, rfl⟩ : ∃ M : Nat, m = (M : Int) := ⟨m.toNat, by have := (sized_range h1).1; omega⟩
  have hz : fillE xs (M : Int) = 0 := by unfold fillE; rw [if_neg (by rw [h1]; decide), if_neg (by rw [h2]; decide), if_neg h3, if_neg h4]
  have HB0 : Hid (Below w.heap.size w (w.alloc (.cells #[.int .i64 0, .slice none 0 0, .slice none 0 0] 26))) := hid ((Below.refl _ _).alloc (Nat.le_refl _) _)
  have HN0 := hid (Blk.new w 26 #[.int .i64 0, .slice none 0 0, .slice none 0 0])
  have HE := hid hE
  have HI := hid hI
  have HSz := hid (fun W => h1 ▸ msized_any _ W)
  have HCo : Hid (∀ W, Below w.heap.size w W → Calls Tryd.prog 13 #[.slice ad xs.length cap, .func (.func 14) #[] #[]] W fun e w' => e = .returned (.bool (anyNo xs)) ∧ Below W.heap.size W w') := hid (fun W hb => contains_any ad cap xs hcap (by omega) W ((hI.below hb).mono hb.size))
  rw [h2] at HCo
  have HSo : Hid (∀ W, Below w.heap.size w W → Calls Tryd.prog 16 #[.slice ad xs.length cap] W (CollEnd (psorted xs) encP W)) := hid (fun W hb => psort_any cap ad xs hcap (by omega) W ((hI.below hb).mono hb.size))
  have hle : (psorted xs).length ≤ 1000 := by have := compact_le (psort xs); rw [psort_length] at this; unfold psorted; omega
  have HFi : Hid (∀ ad cap W, (psorted xs).length ≤ cap → FEnv W → Elems encP 18 W.heap.size W ad (psorted xs) → Calls Tryd.prog 17 #[.slice ad (psorted xs).length cap, .int .i64 M] W fun e w' => ∃ S, e = .returned (.tuple #[.slice (some ⟨S, 0, none⟩) M M, .nilIface]) ∧ W.heap.size ≤ S ∧ SlotB w' S (fillT (ordL M (psorted xs)) (psorted xs).length M M) ∧ Below W.heap.size W w') := hid (fun ad cap W h5 h6 h7 => filled_any M h1 ad cap (psorted xs) (by omega) hle h5 W h6 h7)
  have HZ := hid hz
  clear hcap hm h1 h2 hE hI hle hz
  go_enter Tryd.func6, Tryd.ntmps6
  go_wp2_with fail
  refine (HSz.out _).mono ?_
  rintro e w1 ⟨rfl, hb⟩
  have HB := hid (bel2 HB0.out hb)
  have HN := hid (HN0.out.kept hb)
  clear hb HB0 HN0
  go_wp2_with fail
  refine (HCo.out _ HB.out).mono ?_
  rintro e w2 ⟨rfl, hb⟩
  replace HN := hid (HN.out.kept hb)
  replace HB := hid (bel2 HB.out hb)
  clear hb
  go_wp2_with fail
  refine (HSo.out _ HB.out).mono ?_
  rintro e w3 ⟨v, rfl, ho, hb⟩
  have hz3 := hb.size
  have hz2 := HB.out.size
  have hz2' := HN.out.lt
  replace HN := hid (HN.out.kept hb)
  replace HB := hid (bel2 HB.out hb)
  clear hb
  obtain ⟨_, g, cap3, rfl, hg3, hge, hel⟩ := own_shapeP ho (by omega)
  have HEl := hid (And.intro hg3 (And.intro (show g ≠ w.heap.size by omega) hel))
  have HZ3 : Hid (w.heap.size < w3.heap.size) := hid (by omega)
  clear ho hel hge hg3 hz2 hz2' hz3
  obtain ⟨n, hn⟩ : ∃ n, n = (psorted xs).length := ⟨_, rfl⟩
  have Hn := hid hn
  rw [← hn] at h3 h4 HFi ⊢
  clear hn
  have h5 : ¬ (n : Int) = 0 := by omega
  have h6 : n ≠ 0 := h3
  go_wp2_with fail
  refine (HFi.out _ _ _ (by rw [Hn.out]; exact HEl.out.1) (HE.out.kept HB.out).fenv HEl.out.2.2).mono ?_
  rintro e w4 ⟨S, rfl, hS1, hS2, hb⟩
  replace HN := hid (HN.out.kept hb)
  have HB4 := hid (bel2 HB.out hb)
  have HX : Hid (∀ W', w4.grownBy W' (some w.heap.size) → FillEnd E xs M w (.returned (.tuple #[.agg #[.int .i64 (M : Int), .slice (some ⟨g, 0, none⟩) n cap3, .slice (some ⟨S, 0, none⟩) M M], .nilIface])) W') := hid (fun W' hg' => by
    refine ⟨HB4.out.grown hg' HB4.out.size (fun k e => by cases e; exact Nat.le_refl _), .inr ⟨HZ.out, M, some ⟨g, 0, none⟩, cap3, S, rfl, by rw [Hn.out], HEl.out.1, ?_, Hn.out ▸ Blk.grown hS2 hg' (fun e => ?_)⟩⟩
    · exact (elems_grown ((HEl.out.2.2.below hb).mono hb.size) (Nat.le_refl _) hg' (fun e => HEl.out.2.1 (Option.some.inj e))).mono hg'.size
    · have := HZ3.out
      have := Option.some.inj e
      omega)
  have c0 : w4.cell? ⟨w.heap.size, 0, none⟩ = some (.int .i64 0) := HN.out.cell 0
  have c1 : w4.cell? ⟨w.heap.size, 1, none⟩ = some (.slice none 0 0) := HN.out.cell 1
  have c2 : w4.cell? ⟨w.heap.size, 2, none⟩ = some (.slice none 0 0) := HN.out.cell 2
  have f0 : w4.frozen? ⟨w.heap.size, 0, none⟩ = false := HN.out.frozen 0
  have f1 : w4.frozen? ⟨w.heap.size, 1, none⟩ = false := HN.out.frozen 1
  have f2 : w4.frozen? ⟨w.heap.size, 2, none⟩ = false := HN.out.frozen 2
  clear hb hS1 hS2 HFi HSo HCo
  go_wp2
  exact bodyPost_ret (v := .tuple #[.agg #[.int .i64 (M : Int), .slice (some ⟨g, 0, none⟩) n cap3, .slice (some ⟨S, 0, none⟩) M M], .nilIface]) (by simp [results, Tryd.f6, go_sem, c0, c1, c2]) rfl (HX.out _ (grown_trans (grown_trans (grown_set w4 _ 0 _) (grown_set _ _ 1 _)) (grown_set _ _ 2 _)))
theorem fill_any (E : Nat → TypeId × Value) (ad : Option Addr) (cap : Nat) (xs : List PS) (hcap : xs.length ≤ cap) (hm : xs.length ≤ 1000) (m : Int) (w : World) (hE : MEnv E w) (hI : Elems encP 18 w.heap.size w ad xs) :
    Calls Tryd.prog 6 #[.slice ad xs.length cap, .int .i64 m] w (FillEnd E xs m w) := by
  cases h1 : sizedB m
  · exact fill1 E ad cap xs hcap hm m h1 w hE hI
  · cases h2 : anyNo xs
    · by_cases h3 : (psorted xs).length = 0
      · exact fill11 E ad cap xs hcap hm m h1 h2 h3 w hE hI
      · by_cases h4 : min 24 m < (psorted xs).length
        · exact fill13 E ad cap xs hcap hm m h1 h2 h3 h4 w hE hI
        · exact fill0 E ad cap xs hcap hm m h1 h2 h3 h4 w hE hI
    · exact fill8 E ad cap xs hcap hm m h1 h2 w hE hI
end Go.Proofs.YtgpbmbefdgbblaaDoor
