/-
  maglev.Fill: the table, or the first error of its list. · maglev: a table in memory; has, owners and what it makes, At. · maglev: what owners makes of a whole table tells whose a place is; At. · maglev: what owners makes of a whole table tells whose a place is; At. · maglev: what owners makes of a whole table tells whose a place is; At. · maglev: what owners makes of a whole table tells whose a place is; At. · maglev: At; slices.Equal of points and of numbers; Same. · maglev: slices.Equal of points; Same; Counts. · maglev: Counts.
-/
import Derived.Test.YtahconkjhneogaaGreatDoorGr04
namespace Go.Proofs.YtahconkjhneogaaGreatDoor
open Go.RowKit Go.Lib

/-- What the package-level variables hold: the errors by their numbers, the factors. -/
structure MEnv (E : Nat → TypeId × Value) (w : World) : Prop where
  fenv : FEnv w
  er : w.cell? ⟨0, 0, none⟩ = some (.iface (E 1).1 (E 1).2)
  ea : w.cell? ⟨1, 0, none⟩ = some (.iface (E 8).1 (E 8).2)
  en : w.cell? ⟨2, 0, none⟩ = some (.iface (E 11).1 (E 11).2)
  ef : w.cell? ⟨3, 0, none⟩ = some (.iface (E 13).1 (E 13).2)
theorem MEnv.kept {E : Nat → TypeId × Value} {w w' : World} (h : MEnv E w) (hb : Below w.heap.size w w') : MEnv E w' :=
  ⟨h.fenv.kept hb, (hb.cell (World.block_lt_of_cell? w _ h.er)).trans h.er, (hb.cell (World.block_lt_of_cell? w _ h.ea)).trans h.ea, (hb.cell (World.block_lt_of_cell? w _ h.en)).trans h.en, (hb.cell (World.block_lt_of_cell? w _ h.ef)).trans h.ef⟩

theorem msized_any (n : Int) (w : World) : Calls Tryz.prog 19 #[.int .i64 n] w fun e w' => e = .returned (.bool (sizedB n)) ∧ Below w.heap.size w w' := by
  have HI := hid (is_any n w)
  by_cases h : n ≤ 251
  · have HE : Hid (isP n = sizedB n) := hid (by unfold sizedB; rw [decide_eq_true h, Bool.true_and])
    generalize isP n = b at *
    go_enter Tryz.func19, Tryz.ntmps19
    go_wp2_with fail
    refine HI.out.mono ?_
    rintro e w1 ⟨rfl, hb⟩
    have Hb := hid hb
    clear hb
    go_wp2
    go_ret
    exact ⟨ret_b rfl HE.out, Hb.out⟩
  · have HE : Hid (false = sizedB n) := hid (by unfold sizedB; rw [decide_eq_false h, Bool.false_and])
    go_enter Tryz.func19, Tryz.ntmps19
    go_wp2
    go_ret
    exact ⟨ret_b rfl HE.out, Below.refl _ _⟩

/-- The number of the error of a filling; 0: none. -/
def fillE (xs : List PS) (m : Int) : Nat := if sizedB m = false then 1 else if anyNo xs = true then 8 else if (psorted xs).length = 0 then 11 else if min 24 m < (psorted xs).length then 13 else 0
theorem fillE_range (xs : List PS) (m : Int) : fillE xs m = 0 ∨ fillE xs m = 1 ∨ fillE xs m = 8 ∨ fillE xs m = 11 ∨ fillE xs m = 13 := by
  unfold fillE
  split
  · simp
  · split
    · simp
    · split
      · simp
      · split <;> simp
/-- What a filling ends with. -/
def FillEnd (E : Nat → TypeId × Value) (xs : List PS) (m : Int) (w : World) (e : Ending) (w' : World) : Prop := Below w.heap.size w w' ∧
  ((fillE xs m ≠ 0 ∧ e = .returned (.tuple #[.agg #[.int .i64 0, .slice none 0 0, .slice none 0 0], .iface (E (fillE xs m)).1 (E (fillE xs m)).2])) ∨
   (fillE xs m = 0 ∧ ∃ (M : Nat) (ab : Option Addr) (cap S : Nat), m = (M : Int) ∧ e = .returned (.tuple #[.agg #[.int .i64 (M : Int), .slice ab (psorted xs).length cap, .slice (some ⟨S, 0, none⟩) M M], .nilIface]) ∧
     (psorted xs).length ≤ cap ∧ Elems encP 18 w'.heap.size w' ab (psorted xs) ∧ SlotB w' S (fillT (ordL M (psorted xs)) (psorted xs).length M M)))

theorem own_shapeP {w : World} {base : Nat} {v : Value} {k : Nat} {ks : List PS} (h : w.ownsRow base 41 18 v k (flatY encP ks)) (hk : 0 < k) : ks.length = k ∧ ∃ g cap, v = .slice (some ⟨g, 0, none⟩) k cap ∧ k ≤ cap ∧ base ≤ g ∧ Elems encP 18 w.heap.size w (some ⟨g, 0, none⟩) ks := by
  obtain ⟨h1, ad, cap, e, h2, _, _, h5⟩ := own_elems h
  obtain ⟨_, ⟨_, h0⟩ | ⟨g, cap', cur, e', hg, _⟩⟩ := h
  · omega
  · rw [e] at e'
    cases e'
    exact ⟨h1, g, cap, e, h2, hg, h5⟩
def zeroT : Array Value := #[.int .i64 0, .slice none 0 0, .slice none 0 0]
theorem Tryz.infoTable : (Tryz.prog.info? 27).map (·.size) = some 3 := by kernel_rfl

set_option linter.unusedVariables false in
set_option maxRecDepth 100000 in
set_option maxHeartbeats 8000000 in
theorem fill1 (E : Nat → TypeId × Value) (ad : Option Addr) (cap : Nat) (xs : List PS) (hcap : xs.length ≤ cap) (hm : xs.length ≤ 1000) (m : Int) (h1 : sizedB m = false) (w : World) (hE : MEnv E w) (hI : Elems encP 18 w.heap.size w ad xs) :
    Calls Tryz.prog 6 #[.slice ad xs.length cap, .int .i64 m] w (FillEnd E xs m w) := by
  have hz : fillE xs m = 1 := by unfold fillE; rw [if_pos h1]
  have HB0 : Hid (Below w.heap.size w (w.alloc (.cells #[.int .i64 0, .slice none 0 0, .slice none 0 0] 27))) := hid ((Below.refl _ _).alloc (Nat.le_refl _) _)
  have HN0 := hid (Blk.new w 27 #[.int .i64 0, .slice none 0 0, .slice none 0 0])
  have HE := hid hE
  have HI := hid hI
  have HSz := hid (fun W => h1 ▸ msized_any _ W)
  clear hcap hm h1 hE hI
  go_enter Tryz.func6, Tryz.ntmps6
  go_wp2_with fail
  refine (HSz.out _).mono ?_
  rintro e w1 ⟨rfl, hb⟩
  have HB := hid (bel2 HB0.out hb)
  have HN := hid (HN0.out.kept hb)
  clear hb HB0 HN0
  have c0 : w1.cell? ⟨w.heap.size, 0, none⟩ = some (.int .i64 0) := HN.out.cell 0
  have c1 : w1.cell? ⟨w.heap.size, 1, none⟩ = some (.slice none 0 0) := HN.out.cell 1
  have c2 : w1.cell? ⟨w.heap.size, 2, none⟩ = some (.slice none 0 0) := HN.out.cell 2
  have f0 : w1.frozen? ⟨w.heap.size, 0, none⟩ = false := HN.out.frozen 0
  have f1 : w1.frozen? ⟨w.heap.size, 1, none⟩ = false := HN.out.frozen 1
  have f2 : w1.frozen? ⟨w.heap.size, 2, none⟩ = false := HN.out.frozen 2
  obtain ⟨u, v, huv⟩ : ∃ u v, (u, v) = E 1 := ⟨_, _, rfl⟩
  have e0 : w1.cell? ⟨0, 0, none⟩ = some (.iface u v) := by have := (HE.out.kept HB.out).er; rw [← huv] at this; exact this
  have hz0 : 0 < w.heap.size := World.block_lt_of_cell? w _ HE.out.er
  have e1 : (w1.setCell ⟨w.heap.size, 0, none⟩ (.int .i64 0)).cell? ⟨0, 0, none⟩ = some (.iface u v) := (World.cell?_of_block (a := ⟨0, 0, none⟩) (Below.heap_setCell w1 _ _ 0 (by show 0 ≠ w.heap.size; omega))).trans e0
  have HF : Hid (∀ W', Below w.heap.size w W' → FillEnd E xs m w (.returned (.tuple #[.agg #[.int .i64 0, .slice none 0 0, .slice none 0 0], .iface u v])) W') := hid (fun W' hb => ⟨hb, .inl (by rw [hz]; exact ⟨by decide, by rw [← huv]⟩)⟩)
  clear hz0 huv
  go_wp2
  go_region
  all_goals
    go_wp2
    refine bodyPost_ret (by simp [results, Tryz.f6, go_sem, c0, c1, c2]) rfl (HF.out _ ?_)
    first | exact (((HB.out.setCell (Nat.le_refl _) _).setCell (Nat.le_refl _) _).setCell (Nat.le_refl _) _).drew | exact (((HB.out.drew.setCell (Nat.le_refl _) _).setCell (Nat.le_refl _) _).setCell (Nat.le_refl _) _)
set_option linter.unusedVariables false in
set_option maxRecDepth 100000 in
set_option maxHeartbeats 8000000 in
theorem fill8 (E : Nat → TypeId × Value) (ad : Option Addr) (cap : Nat) (xs : List PS) (hcap : xs.length ≤ cap) (hm : xs.length ≤ 1000) (m : Int) (h1 : sizedB m = true) (h2 : anyNo xs = true) (w : World) (hE : MEnv E w) (hI : Elems encP 18 w.heap.size w ad xs) :
    Calls Tryz.prog 6 #[.slice ad xs.length cap, .int .i64 m] w (FillEnd E xs m w) := by
  have hz : fillE xs m = 8 := by unfold fillE; rw [if_neg (by rw [h1]; decide), if_pos h2]
  have HB0 : Hid (Below w.heap.size w (w.alloc (.cells #[.int .i64 0, .slice none 0 0, .slice none 0 0] 27))) := hid ((Below.refl _ _).alloc (Nat.le_refl _) _)
  have HN0 := hid (Blk.new w 27 #[.int .i64 0, .slice none 0 0, .slice none 0 0])
  have HE := hid hE
  have HI := hid hI
  have HSz := hid (fun W => h1 ▸ msized_any _ W)
  have HCo : Hid (∀ W, Below w.heap.size w W → Calls Tryz.prog 20 #[.slice ad xs.length cap, .func (.func 21) #[] #[]] W fun e w' => e = .returned (.bool (anyNo xs)) ∧ Below W.heap.size W w') := hid (fun W hb => contains_any ad cap xs hcap (by omega) W ((hI.below hb).mono hb.size))
  rw [h2] at HCo
  clear hcap hm h1 h2 hE hI
  go_enter Tryz.func6, Tryz.ntmps6
  go_wp2_with fail
  refine (HSz.out _).mono ?_
  rintro e w1 ⟨rfl, hb⟩
  have HB := hid (bel2 HB0.out hb)
  have HN := hid (HN0.out.kept hb)
  clear hb HB0 HN0
  go_wp2_with fail
  refine (HCo.out _ HB.out).mono ?_
  rintro e w2 ⟨rfl, hb⟩
  replace HN := hid (HN.out.kept hb)
  replace HB := hid (bel2 HB.out hb)
  clear hb
  have c0 : w2.cell? ⟨w.heap.size, 0, none⟩ = some (.int .i64 0) := HN.out.cell 0
  have c1 : w2.cell? ⟨w.heap.size, 1, none⟩ = some (.slice none 0 0) := HN.out.cell 1
  have c2 : w2.cell? ⟨w.heap.size, 2, none⟩ = some (.slice none 0 0) := HN.out.cell 2
  have f0 : w2.frozen? ⟨w.heap.size, 0, none⟩ = false := HN.out.frozen 0
  have f1 : w2.frozen? ⟨w.heap.size, 1, none⟩ = false := HN.out.frozen 1
  have f2 : w2.frozen? ⟨w.heap.size, 2, none⟩ = false := HN.out.frozen 2
  obtain ⟨u, v, huv⟩ : ∃ u v, (u, v) = E 8 := ⟨_, _, rfl⟩
  have e0 : w2.cell? ⟨1, 0, none⟩ = some (.iface u v) := by have := (HE.out.kept HB.out).ea; rw [← huv] at this; exact this
  have hz0 : 1 < w.heap.size := World.block_lt_of_cell? w _ HE.out.ea
  have e1 : (w2.setCell ⟨w.heap.size, 0, none⟩ (.int .i64 0)).cell? ⟨1, 0, none⟩ = some (.iface u v) := (World.cell?_of_block (a := ⟨1, 0, none⟩) (Below.heap_setCell w2 _ _ 1 (by show 1 ≠ w.heap.size; omega))).trans e0
  have HF : Hid (∀ W', Below w.heap.size w W' → FillEnd E xs m w (.returned (.tuple #[.agg #[.int .i64 0, .slice none 0 0, .slice none 0 0], .iface u v])) W') := hid (fun W' hb => ⟨hb, .inl (by rw [hz]; exact ⟨by decide, by rw [← huv]⟩)⟩)
  clear hz0 huv
  go_wp2
  go_region
  all_goals
    go_wp2
    refine bodyPost_ret (by simp [results, Tryz.f6, go_sem, c0, c1, c2]) rfl (HF.out _ ?_)
    first | exact (((HB.out.setCell (Nat.le_refl _) _).setCell (Nat.le_refl _) _).setCell (Nat.le_refl _) _).drew | exact (((HB.out.drew.setCell (Nat.le_refl _) _).setCell (Nat.le_refl _) _).setCell (Nat.le_refl _) _)
set_option linter.unusedVariables false in
set_option maxRecDepth 100000 in
set_option maxHeartbeats 8000000 in
theorem fill11 (E : Nat → TypeId × Value) (ad : Option Addr) (cap : Nat) (xs : List PS) (hcap : xs.length ≤ cap) (hm : xs.length ≤ 1000) (m : Int) (h1 : sizedB m = true) (h2 : anyNo xs = false) (h3 : (psorted xs).length = 0) (w : World) (hE : MEnv E w) (hI : Elems encP 18 w.heap.size w ad xs) :
    Calls Tryz.prog 6 #[.slice ad xs.length cap, .int .i64 m] w (FillEnd E xs m w) := by
  have hz : fillE xs m = 11 := by unfold fillE; rw [if_neg (by rw [h1]; decide), if_neg (by rw [h2]; decide), if_pos h3]
  have HB0 : Hid (Below w.heap.size w (w.alloc (.cells #[.int .i64 0, .slice none 0 0, .slice none 0 0] 27))) := hid ((Below.refl _ _).alloc (Nat.le_refl _) _)
  have HN0 := hid (Blk.new w 27 #[.int .i64 0, .slice none 0 0, .slice none 0 0])
  have HE := hid hE
  have HI := hid hI
  have HSz := hid (fun W => h1 ▸ msized_any _ W)
  have HCo : Hid (∀ W, Below w.heap.size w W → Calls Tryz.prog 20 #[.slice ad xs.length cap, .func (.func 21) #[] #[]] W fun e w' => e = .returned (.bool (anyNo xs)) ∧ Below W.heap.size W w') := hid (fun W hb => contains_any ad cap xs hcap (by omega) W ((hI.below hb).mono hb.size))
  rw [h2] at HCo
  have HSo : Hid (∀ W, Below w.heap.size w W → Calls Tryz.prog 23 #[.slice ad xs.length cap] W (CollEnd (psorted xs) encP W)) := hid (fun W hb => psort_any cap ad xs hcap (by omega) W ((hI.below hb).mono hb.size))
  clear hcap hm h1 h2 hE hI
  go_enter Tryz.func6, Tryz.ntmps6
  go_wp2_with fail
  refine (HSz.out _).mono ?_
  rintro e w1 ⟨rfl, hb⟩
  have HB := hid (bel2 HB0.out hb)
  have HN := hid (HN0.out.kept hb)
  clear hb HB0 HN0
  go_wp2_with fail
  refine (HCo.out _ HB.out).mono ?_
  rintro e w2 ⟨rfl, hb⟩
  replace HN := hid (HN.out.kept hb)
  replace HB := hid (bel2 HB.out hb)
  clear hb
  go_wp2_with fail
  refine (HSo.out _ HB.out).mono ?_
  rintro e w3 ⟨v, rfl, ho, hb⟩
  replace HN := hid (HN.out.kept hb)
  replace HB := hid (bel2 HB.out hb)
  clear hb
  obtain ⟨_, g3, cap3, rfl, hg3, _, hnone, hel⟩ := own_elems ho
  have HEl := hid (And.intro hg3 (And.intro hnone hel))
  clear ho hnone hel
  rw [h3]
  clear h3
  have c0 : w3.cell? ⟨w.heap.size, 0, none⟩ = some (.int .i64 0) := HN.out.cell 0
  have c1 : w3.cell? ⟨w.heap.size, 1, none⟩ = some (.slice none 0 0) := HN.out.cell 1
  have c2 : w3.cell? ⟨w.heap.size, 2, none⟩ = some (.slice none 0 0) := HN.out.cell 2
  have f0 : w3.frozen? ⟨w.heap.size, 0, none⟩ = false := HN.out.frozen 0
  have f1 : w3.frozen? ⟨w.heap.size, 1, none⟩ = false := HN.out.frozen 1
  have f2 : w3.frozen? ⟨w.heap.size, 2, none⟩ = false := HN.out.frozen 2
  obtain ⟨u, v, huv⟩ : ∃ u v, (u, v) = E 11 := ⟨_, _, rfl⟩
  have e0 : w3.cell? ⟨2, 0, none⟩ = some (.iface u v) := by have := (HE.out.kept HB.out).en; rw [← huv] at this; exact this
  have hz0 : 2 < w.heap.size := World.block_lt_of_cell? w _ HE.out.en
  have e1 : (w3.setCell ⟨w.heap.size, 0, none⟩ (.int .i64 0)).cell? ⟨2, 0, none⟩ = some (.iface u v) := (World.cell?_of_block (a := ⟨2, 0, none⟩) (Below.heap_setCell w3 _ _ 2 (by show 2 ≠ w.heap.size; omega))).trans e0
  have HF : Hid (∀ W', Below w.heap.size w W' → FillEnd E xs m w (.returned (.tuple #[.agg #[.int .i64 0, .slice none 0 0, .slice none 0 0], .iface u v])) W') := hid (fun W' hb => ⟨hb, .inl (by rw [hz]; exact ⟨by decide, by rw [← huv]⟩)⟩)
  clear hz0 huv
  go_wp2
  go_region
  all_goals
    go_wp2
    refine bodyPost_ret (by simp [results, Tryz.f6, go_sem, c0, c1, c2]) rfl (HF.out _ ?_)
    first | exact (((HB.out.setCell (Nat.le_refl _) _).setCell (Nat.le_refl _) _).setCell (Nat.le_refl _) _).drew | exact (((HB.out.drew.setCell (Nat.le_refl _) _).setCell (Nat.le_refl _) _).setCell (Nat.le_refl _) _)
set_option linter.unusedVariables false in
set_option maxRecDepth 100000 in
set_option maxHeartbeats 8000000 in
theorem fill13 (E : Nat → TypeId × Value) (ad : Option Addr) (cap : Nat) (xs : List PS) (hcap : xs.length ≤ cap) (hm : xs.length ≤ 1000) (m : Int) (h1 : sizedB m = true) (h2 : anyNo xs = false) (h3 : (psorted xs).length ≠ 0) (h4 : min 24 m < (psorted xs).length) (w : World) (hE : MEnv E w) (hI : Elems encP 18 w.heap.size w ad xs) :
    Calls Tryz.prog 6 #[.slice ad xs.length cap, .int .i64 m] w (FillEnd E xs m w) := by
  have hz : fillE xs m = 13 := by unfold fillE; rw [if_neg (by rw [h1]; decide), if_neg (by rw [h2]; decide), if_neg h3, if_pos h4]
  have HB0 : Hid (Below w.heap.size w (w.alloc (.cells #[.int .i64 0, .slice none 0 0, .slice none 0 0] 27))) := hid ((Below.refl _ _).alloc (Nat.le_refl _) _)
  have HN0 := hid (Blk.new w 27 #[.int .i64 0, .slice none 0 0, .slice none 0 0])
  have HE := hid hE
  have HI := hid hI
  have HSz := hid (fun W => h1 ▸ msized_any _ W)
  have HCo : Hid (∀ W, Below w.heap.size w W → Calls Tryz.prog 20 #[.slice ad xs.length cap, .func (.func 21) #[] #[]] W fun e w' => e = .returned (.bool (anyNo xs)) ∧ Below W.heap.size W w') := hid (fun W hb => contains_any ad cap xs hcap (by omega) W ((hI.below hb).mono hb.size))
  rw [h2] at HCo
  have HSo : Hid (∀ W, Below w.heap.size w W → Calls Tryz.prog 23 #[.slice ad xs.length cap] W (CollEnd (psorted xs) encP W)) := hid (fun W hb => psort_any cap ad xs hcap (by omega) W ((hI.below hb).mono hb.size))
  clear hcap hm h1 h2 hE hI
  go_enter Tryz.func6, Tryz.ntmps6
  go_wp2_with fail
  refine (HSz.out _).mono ?_
  rintro e w1 ⟨rfl, hb⟩
  have HB := hid (bel2 HB0.out hb)
  have HN := hid (HN0.out.kept hb)
  clear hb HB0 HN0
  go_wp2_with fail
  refine (HCo.out _ HB.out).mono ?_
  rintro e w2 ⟨rfl, hb⟩
  replace HN := hid (HN.out.kept hb)
  replace HB := hid (bel2 HB.out hb)
  clear hb
  go_wp2_with fail
  refine (HSo.out _ HB.out).mono ?_
  rintro e w3 ⟨v, rfl, ho, hb⟩
  replace HN := hid (HN.out.kept hb)
  replace HB := hid (bel2 HB.out hb)
  clear hb
  obtain ⟨_, g3, cap3, rfl, hg3, _, hnone, hel⟩ := own_elems ho
  have HEl := hid (And.intro hg3 (And.intro hnone hel))
  clear ho hnone hel
  generalize (psorted xs).length = n at *
  have h5 : ¬ (n : Int) = 0 := by omega
  have c0 : w3.cell? ⟨w.heap.size, 0, none⟩ = some (.int .i64 0) := HN.out.cell 0
  have c1 : w3.cell? ⟨w.heap.size, 1, none⟩ = some (.slice none 0 0) := HN.out.cell 1
  have c2 : w3.cell? ⟨w.heap.size, 2, none⟩ = some (.slice none 0 0) := HN.out.cell 2
  have f0 : w3.frozen? ⟨w.heap.size, 0, none⟩ = false := HN.out.frozen 0
  have f1 : w3.frozen? ⟨w.heap.size, 1, none⟩ = false := HN.out.frozen 1
  have f2 : w3.frozen? ⟨w.heap.size, 2, none⟩ = false := HN.out.frozen 2
  obtain ⟨u, v, huv⟩ : ∃ u v, (u, v) = E 13 := ⟨_, _, rfl⟩
  have e0 : w3.cell? ⟨3, 0, none⟩ = some (.iface u v) := by have := (HE.out.kept HB.out).ef; rw [← huv] at this; exact this
  have hz0 : 3 < w.heap.size := World.block_lt_of_cell? w _ HE.out.ef
  have e1 : (w3.setCell ⟨w.heap.size, 0, none⟩ (.int .i64 0)).cell? ⟨3, 0, none⟩ = some (.iface u v) := (World.cell?_of_block (a := ⟨3, 0, none⟩) (Below.heap_setCell w3 _ _ 3 (by show 3 ≠ w.heap.size; omega))).trans e0
  have HF : Hid (∀ W', Below w.heap.size w W' → FillEnd E xs m w (.returned (.tuple #[.agg #[.int .i64 0, .slice none 0 0, .slice none 0 0], .iface u v])) W') := hid (fun W' hb => ⟨hb, .inl (by rw [hz]; exact ⟨by decide, by rw [← huv]⟩)⟩)
  clear hz0 huv
  go_wp2
  go_region
  all_goals
    go_wp2
    refine bodyPost_ret (by simp [results, Tryz.f6, go_sem, c0, c1, c2]) rfl (HF.out _ ?_)
    first | exact (((HB.out.setCell (Nat.le_refl _) _).setCell (Nat.le_refl _) _).setCell (Nat.le_refl _) _).drew | exact (((HB.out.drew.setCell (Nat.le_refl _) _).setCell (Nat.le_refl _) _).setCell (Nat.le_refl _) _)
set_option linter.unusedVariables false in
set_option maxRecDepth 100000 in
set_option maxHeartbeats 8000000 in
theorem fill0 (E : Nat → TypeId × Value) (ad : Option Addr) (cap : Nat) (xs : List PS) (hcap : xs.length ≤ cap) (hm : xs.length ≤ 1000) (m : Int) (h1 : sizedB m = true) (h2 : anyNo xs = false) (h3 : (psorted xs).length ≠ 0) (h4 : ¬ min 24 m < (psorted xs).length) (w : World) (hE : MEnv E w) (hI : Elems encP 18 w.heap.size w ad xs) :
    Calls Tryz.prog 6 #[.slice ad xs.length cap, .int .i64 m] w (FillEnd E xs m w) := by
  obtain ⟨M, rfl⟩ : ∃ M : Nat, m = (M : Int) := ⟨m.toNat, by have := (sized_range h1).1; omega⟩
  have hz : fillE xs (M : Int) = 0 := by unfold fillE; rw [if_neg (by rw [h1]; decide), if_neg (by rw [h2]; decide), if_neg h3, if_neg h4]
  have HB0 : Hid (Below w.heap.size w (w.alloc (.cells #[.int .i64 0, .slice none 0 0, .slice none 0 0] 27))) := hid ((Below.refl _ _).alloc (Nat.le_refl _) _)
  have HN0 := hid (Blk.new w 27 #[.int .i64 0, .slice none 0 0, .slice none 0 0])
  have HE := hid hE
  have HI := hid hI
  have HSz := hid (fun W => h1 ▸ msized_any _ W)
  have HCo : Hid (∀ W, Below w.heap.size w W → Calls Tryz.prog 20 #[.slice ad xs.length cap, .func (.func 21) #[] #[]] W fun e w' => e = .returned (.bool (anyNo xs)) ∧ Below W.heap.size W w') := hid (fun W hb => contains_any ad cap xs hcap (by omega) W ((hI.below hb).mono hb.size))
  rw [h2] at HCo
  have HSo : Hid (∀ W, Below w.heap.size w W → Calls Tryz.prog 23 #[.slice ad xs.length cap] W (CollEnd (psorted xs) encP W)) := hid (fun W hb => psort_any cap ad xs hcap (by omega) W ((hI.below hb).mono hb.size))
  have hle : (psorted xs).length ≤ 1000 := by have := compact_le (psort xs); rw [psort_length] at this; unfold psorted; omega
  have HFi : Hid (∀ ad cap W, (psorted xs).length ≤ cap → FEnv W → Elems encP 18 W.heap.size W ad (psorted xs) → Calls Tryz.prog 24 #[.slice ad (psorted xs).length cap, .int .i64 M] W fun e w' => ∃ S, e = .returned (.tuple #[.slice (some ⟨S, 0, none⟩) M M, .nilIface]) ∧ W.heap.size ≤ S ∧ SlotB w' S (fillT (ordL M (psorted xs)) (psorted xs).length M M) ∧ Below W.heap.size W w') := hid (fun ad cap W h5 h6 h7 => filled_any M h1 ad cap (psorted xs) (by omega) hle h5 W h6 h7)
  have HZ := hid hz
  clear hcap hm h1 h2 hE hI hle hz
  go_enter Tryz.func6, Tryz.ntmps6
  go_wp2_with fail
  refine (HSz.out _).mono ?_
  rintro e w1 ⟨rfl, hb⟩
  have HB := hid (bel2 HB0.out hb)
  have HN := hid (HN0.out.kept hb)
  clear hb HB0 HN0
  go_wp2_with fail
  refine (HCo.out _ HB.out).mono ?_
  rintro e w2 ⟨rfl, hb⟩
  replace HN := hid (HN.out.kept hb)
  replace HB := hid (bel2 HB.out hb)
  clear hb
  go_wp2_with fail
  refine (HSo.out _ HB.out).mono ?_
  rintro e w3 ⟨v, rfl, ho, hb⟩
  have hz3 := hb.size
  have hz2 := HB.out.size
  have hz2' := HN.out.lt
  replace HN := hid (HN.out.kept hb)
  replace HB := hid (bel2 HB.out hb)
  clear hb
  obtain ⟨_, g, cap3, rfl, hg3, hge, hel⟩ := own_shapeP ho (by omega)
  have HEl := hid (And.intro hg3 (And.intro (show g ≠ w.heap.size by omega) hel))
  have HZ3 : Hid (w.heap.size < w3.heap.size) := hid (by omega)
  clear ho hel hge hg3 hz2 hz2' hz3
  obtain ⟨n, hn⟩ : ∃ n, n = (psorted xs).length := ⟨_, rfl⟩
  have Hn := hid hn
  rw [← hn] at h3 h4 HFi ⊢
  clear hn
  have h5 : ¬ (n : Int) = 0 := by omega
  have h6 : n ≠ 0 := h3
  go_wp2_with fail
  refine (HFi.out _ _ _ (by rw [Hn.out]; exact HEl.out.1) (HE.out.kept HB.out).fenv HEl.out.2.2).mono ?_
  rintro e w4 ⟨S, rfl, hS1, hS2, hb⟩
  replace HN := hid (HN.out.kept hb)
  have HB4 := hid (bel2 HB.out hb)
  have HX : Hid (∀ W', w4.grownBy W' (some w.heap.size) → FillEnd E xs M w (.returned (.tuple #[.agg #[.int .i64 (M : Int), .slice (some ⟨g, 0, none⟩) n cap3, .slice (some ⟨S, 0, none⟩) M M], .nilIface])) W') := hid (fun W' hg' => by
    refine ⟨HB4.out.grown hg' HB4.out.size (fun k e => by cases e; exact Nat.le_refl _), .inr ⟨HZ.out, M, some ⟨g, 0, none⟩, cap3, S, rfl, by rw [Hn.out], HEl.out.1, ?_, Hn.out ▸ Blk.grown hS2 hg' (fun e => ?_)⟩⟩
    · exact (elems_grown ((HEl.out.2.2.below hb).mono hb.size) (Nat.le_refl _) hg' (fun e => HEl.out.2.1 (Option.some.inj e))).mono hg'.size
    · have := HZ3.out
      have := Option.some.inj e
      omega)
  have c0 : w4.cell? ⟨w.heap.size, 0, none⟩ = some (.int .i64 0) := HN.out.cell 0
  have c1 : w4.cell? ⟨w.heap.size, 1, none⟩ = some (.slice none 0 0) := HN.out.cell 1
  have c2 : w4.cell? ⟨w.heap.size, 2, none⟩ = some (.slice none 0 0) := HN.out.cell 2
  have f0 : w4.frozen? ⟨w.heap.size, 0, none⟩ = false := HN.out.frozen 0
  have f1 : w4.frozen? ⟨w.heap.size, 1, none⟩ = false := HN.out.frozen 1
  have f2 : w4.frozen? ⟨w.heap.size, 2, none⟩ = false := HN.out.frozen 2
  clear hb hS1 hS2 HFi HSo HCo
  go_wp2
  exact bodyPost_ret (v := .tuple #[.agg #[.int .i64 (M : Int), .slice (some ⟨g, 0, none⟩) n cap3, .slice (some ⟨S, 0, none⟩) M M], .nilIface]) (by simp [results, Tryz.f6, go_sem, c0, c1, c2]) rfl (HX.out _ (grown_trans (grown_trans (grown_set w4 _ 0 _) (grown_set _ _ 1 _)) (grown_set _ _ 2 _)))
theorem fill_any (E : Nat → TypeId × Value) (ad : Option Addr) (cap : Nat) (xs : List PS) (hcap : xs.length ≤ cap) (hm : xs.length ≤ 1000) (m : Int) (w : World) (hE : MEnv E w) (hI : Elems encP 18 w.heap.size w ad xs) :
    Calls Tryz.prog 6 #[.slice ad xs.length cap, .int .i64 m] w (FillEnd E xs m w) := by
  cases h1 : sizedB m
  · exact fill1 E ad cap xs hcap hm m h1 w hE hI
  · cases h2 : anyNo xs
    · by_cases h3 : (psorted xs).length = 0
      · exact fill11 E ad cap xs hcap hm m h1 h2 h3 w hE hI
      · by_cases h4 : min 24 m < (psorted xs).length
        · exact fill13 E ad cap xs hcap hm m h1 h2 h3 h4 w hE hI
        · exact fill0 E ad cap xs hcap hm m h1 h2 h3 h4 w hE hI
    · exact fill8 E ad cap xs hcap hm m h1 h2 w hE hI
end Go.Proofs.YtahconkjhneogaaGreatDoor

namespace Go.Proofs.YtahconkjhneogaaGreatDoor
open Go.RowKit Go.Lib

/-- A list of numbers in memory. -/
def IntsIn (n₀ : Nat) (W : World) (ad : Option Addr) (L : List Int) : Prop := ∀ j, j < L.length → ∃ g o, ad = some ⟨g, o, none⟩ ∧ g < n₀ ∧ W.cell? ⟨g, o + j, none⟩ = some (.int .i64 (L.getD j 0))
theorem IntsIn.below {n₀ : Nat} {A B : World} (h : Below n₀ A B) {ad : Option Addr} {L : List Int} (hb : IntsIn n₀ A ad L) : IntsIn n₀ B ad L := fun j hj => by
  obtain ⟨g, o, e, hg, hc⟩ := hb j hj
  exact ⟨g, o, e, hg, (h.cell (p := ⟨g, o + j, none⟩) hg).trans hc⟩
theorem IntsIn.mono {n₀ n₁ : Nat} {A : World} {ad : Option Addr} {L : List Int} (hb : IntsIn n₀ A ad L) (h : n₀ ≤ n₁) : IntsIn n₁ A ad L := fun j hj => by
  obtain ⟨g, o, e, hg, hc⟩ := hb j hj
  exact ⟨g, o, e, Nat.lt_of_lt_of_le hg h, hc⟩
theorem SlotB.ints {W : World} {S : Nat} {L : List Int} (h : SlotB W S L) : IntsIn W.heap.size W (some ⟨S, 0, none⟩) L := fun j hj => ⟨S, 0, rfl, h.lt, by rw [Nat.zero_add]; exact h.cell hj⟩

/-- A table in memory. -/
structure TabIn (n₀ : Nat) (W : World) (ab as' : Option Addr) (bs : List PS) (L : List Int) : Prop where
  els : Elems encP 18 n₀ W ab bs
  ints : IntsIn n₀ W as' L
theorem TabIn.kept {W W' : World} {ab as' : Option Addr} {bs : List PS} {L : List Int} (h : TabIn W.heap.size W ab as' bs L) (hb : Below W.heap.size W W') : TabIn W'.heap.size W' ab as' bs L :=
  ⟨(h.els.below hb).mono hb.size, (h.ints.below hb).mono hb.size⟩

def pz : PS := ⟨(false, List.replicate 16 0, 0), by
  refine ⟨rfl, fun x hx => ?_⟩
  have := (List.mem_replicate.1 hx).2
  omega⟩
/-- Whose a place is, where the table is whole. -/
def ownT (m : Int) (bs : List PS) (L : List Int) (p : Int) : Option PS := if 0 ≤ p ∧ p < m ∧ 0 ≤ L.getD p.toNat 0 ∧ L.getD p.toNat 0 < bs.length then some bs[(L.getD p.toNat 0).toNat]! else none
/-- Can it tell any? -/
def wholeT (m : Int) (L : List Int) : Bool := sizedB m && decide ((L.length : Int) = m)
def ownW (m : Int) (bs : List PS) (L : List Int) (p : Int) : Option PS := if wholeT m L = true then ownT m bs L p else none
def ansO (x : Option PS) : Value := .tuple #[.agg (encP (x.getD pz)), .bool x.isSome]

def cellsT (m : Int) (ab as' : Option Addr) (nb cb ns cs : Nat) : Array Value := #[.int .i64 m, .slice ab nb cb, .slice as' ns cs]

set_option maxRecDepth 100000 in
set_option maxHeartbeats 4000000 in
theorem has_any (m who : Int) (ab as' : Option Addr) (nb cb ns cs : Nat) (w : World) :
    Calls Tryz.prog 38 #[.agg #[.int .i64 m, .slice ab nb cb, .slice as' ns cs], .int .i64 who] w fun e w' => e = .returned (.bool (decide (0 ≤ who) && decide (who < nb))) ∧ Below w.heap.size w w' := by
  have HB : Hid (Below w.heap.size w (w.alloc (.cells #[.int .i64 m, .slice ab nb cb, .slice as' ns cs] 27))) := hid ((Below.refl _ _).alloc (Nat.le_refl _) _)
  by_cases h : 0 ≤ who
  · have q1 : decide (who ≥ 0) = true := decide_eq_true h
    have q2 : decide (0 ≤ who) = true := decide_eq_true h
    go_enter Tryz.func38, Tryz.ntmps38
    go_wp2
    go_ret
    exact ⟨ret_b rfl (by first | rfl | rw [q2, Bool.true_and]), HB.out⟩
  · have q1 : decide (who ≥ 0) = false := decide_eq_false h
    have q2 : decide (0 ≤ who) = false := decide_eq_false h
    go_enter Tryz.func38, Tryz.ntmps38
    go_wp2
    go_ret
    exact ⟨ret_b rfl (by first | rfl | rw [q2, Bool.false_and]), HB.out⟩

set_option maxRecDepth 100000 in
set_option maxHeartbeats 4000000 in
theorem owners_no (m : Int) (ab as' : Option Addr) (nb cb cs : Nat) (L : List Int) (h : wholeT m L = false) (w : World) :
    Calls Tryz.prog 37 #[.agg #[.int .i64 m, .slice ab nb cb, .slice as' L.length cs]] w fun e w' => e = .returned (.func (.func 60) #[] #[]) ∧ Below w.heap.size w w' := by
  have HB : Hid (Below w.heap.size w (w.alloc (.cells #[.int .i64 m, .slice ab nb cb, .slice as' L.length cs] 27))) := hid ((Below.refl _ _).alloc (Nat.le_refl _) _)
  have HN := hid (Blk.new w 27 #[.int .i64 m, .slice ab nb cb, .slice as' L.length cs])
  have HS := hid (fun W => msized_any m W)
  unfold wholeT at h
  generalize L.length = n at *
  cases hs : sizedB m
  · rw [hs] at HS
    clear h hs
    go_enter Tryz.func37, Tryz.ntmps37
    go_wp2_with fail
    refine (HS.out _).mono ?_
    rintro e w1 ⟨rfl, hb⟩
    have Hb := hid (bel2 HB.out hb)
    clear hb
    go_wp2
    go_ret
    exact ⟨rfl, Hb.out⟩
  · rw [hs, Bool.true_and] at h
    rw [hs] at HS
    have hne : ((n : Int) != m) = true := by rw [bne_iff_ne]; exact of_decide_eq_false h
    clear h hs
    go_enter Tryz.func37, Tryz.ntmps37
    go_wp2_with fail
    refine (HS.out _).mono ?_
    rintro e w1 ⟨rfl, hb⟩
    have Hb := hid (bel2 HB.out hb)
    have c0 : w1.cell? ⟨w.heap.size, 0, none⟩ = some (.int .i64 m) := (HN.out.kept hb).cell 0
    have c2 : w1.cell? ⟨w.heap.size, 2, none⟩ = some (.slice as' n cs) := (HN.out.kept hb).cell 2
    clear hb
    go_wp2
    go_ret
    exact ⟨rfl, Hb.out⟩

set_option maxRecDepth 100000 in
set_option maxHeartbeats 4000000 in
theorem owners_yes (m : Int) (ab as' : Option Addr) (nb cb cs : Nat) (L : List Int) (h : wholeT m L = true) (w : World) :
    Calls Tryz.prog 37 #[.agg #[.int .i64 m, .slice ab nb cb, .slice as' L.length cs]] w fun e w' => e = .returned (.func (.func 61) #[] #[.pointer (some ⟨w.heap.size, 0, none⟩)]) ∧ Blk w' w.heap.size 27 #[.int .i64 m, .slice ab nb cb, .slice as' L.length cs] ∧ Below w.heap.size w w' := by
  have HB : Hid (Below w.heap.size w (w.alloc (.cells #[.int .i64 m, .slice ab nb cb, .slice as' L.length cs] 27))) := hid ((Below.refl _ _).alloc (Nat.le_refl _) _)
  have HN := hid (Blk.new w 27 #[.int .i64 m, .slice ab nb cb, .slice as' L.length cs])
  have HS := hid (fun W => msized_any m W)
  unfold wholeT at h
  generalize L.length = n at *
  rw [Bool.and_eq_true] at h
  obtain ⟨hs, h⟩ := h
  rw [hs] at HS
  have hne : ((n : Int) != m) = false := by
    have := of_decide_eq_true h
    rw [this]
    simp
  clear h hs
  go_enter Tryz.func37, Tryz.ntmps37
  go_wp2_with fail
  refine (HS.out _).mono ?_
  rintro e w1 ⟨rfl, hb⟩
  have Hb := hid (bel2 HB.out hb)
  have HN1 := hid (HN.out.kept hb)
  have c0 : w1.cell? ⟨w.heap.size, 0, none⟩ = some (.int .i64 m) := (HN.out.kept hb).cell 0
  have c2 : w1.cell? ⟨w.heap.size, 2, none⟩ = some (.slice as' n cs) := (HN.out.kept hb).cell 2
  clear hb
  go_wp2
  go_ret
  exact ⟨rfl, HN1.out, Hb.out⟩

theorem encP_pz : encP pz = #[.bool false, .int .u8 0, .int .u8 0, .int .u8 0, .int .u8 0, .int .u8 0, .int .u8 0, .int .u8 0, .int .u8 0, .int .u8 0, .int .u8 0, .int .u8 0, .int .u8 0, .int .u8 0, .int .u8 0, .int .u8 0, .int .u8 0, .int .i64 0] := rfl

set_option maxRecDepth 100000 in
set_option maxHeartbeats 4000000 in
theorem own1_any (p : Int) (w : World) : Calls Tryz.prog 60 #[.int .i64 p] w fun e w' => e = .returned (ansO none) ∧ Below w.heap.size w w' := by
  have HB : Hid (Below w.heap.size w (w.alloc (.cells (encP pz) 41))) := hid ((Below.refl _ _).alloc (Nat.le_refl _) _)
  have HK := hid (Blk.new w 41 (encP pz))
  have HS := hid (encP_size pz)
  have H1 := hid (encP_one pz)
  go_enter Tryz.func60, Tryz.ntmps60
  go_upto_region 1 with fail
  go_wp2_with ((show wpList _ _ _ (⟨none, _, _, _, _, _⟩ :: _) _ _); go_must (refine wpl_store 41 (.tmp 2) (.tmp 4) rfl w.heap.size (encP pz) rfl rfl 41 _ (Blk.new w _ _) 18 Tryz.infoPoint HS.out.symm rfl H1.out rfl ?_; rw [setRow_new]))
  refine retA2 rfl w.heap.size rfl 41 _ _ HK.out Tryz.underlying41 rfl 18 Tryz.infoPoint HS.out.symm rfl _ rfl ⟨rfl, HB.out⟩
end Go.Proofs.YtahconkjhneogaaGreatDoor

namespace Go.Proofs.YtahconkjhneogaaGreatDoor
open Go.RowKit Go.Lib

set_option linter.unusedSimpArgs false in
set_option linter.unusedVariables false in
set_option maxRecDepth 100000 in
set_option maxHeartbeats 8000000 in
theorem own2_low (m : Int) (bs : List PS) (L : List Int) (ab as' : Option Addr) (cb cs b : Nat) (p : Int) (hL : (L.length : Int) = m) (hLm : L.length ≤ 100000) (hbm : bs.length ≤ 100000) (w : World) (hB : Blk w b 27 #[.int .i64 m, .slice ab bs.length cb, .slice as' L.length cs]) (hT : TabIn w.heap.size w ab as' bs L) (hp : p < 0) :
    Calls Tryz.prog 61 #[.int .i64 p, .pointer (some ⟨b, 0, none⟩)] w fun e w' => e = .returned (ansO (ownT m bs L p)) ∧ Below w.heap.size w w' := by
  obtain ⟨W0, hW0⟩ : ∃ W, W = w.alloc (.cells (encP pz) 41) := ⟨_, rfl⟩
  have hb0 : Below w.heap.size w W0 := hW0 ▸ (Below.refl _ _).alloc (Nat.le_refl _) _
  have hk0 : Blk W0 w.heap.size 41 (encP pz) := hW0 ▸ Blk.new w _ _
  have HW0 : Hid (w.alloc (.cells #[.bool false, .int .u8 0, .int .u8 0, .int .u8 0, .int .u8 0, .int .u8 0, .int .u8 0, .int .u8 0, .int .u8 0, .int .u8 0, .int .u8 0, .int .u8 0, .int .u8 0, .int .u8 0, .int .u8 0, .int .u8 0, .int .u8 0, .int .i64 0] 41) = W0) := hid (by rw [hW0, encP_pz])
  have HB0 := hid hb0
  have HK0 := hid hk0
  have HZ := hid (encP_size pz)
  have HZ1 := hid (encP_one pz)
  have hBW := hB.kept hb0
  have HBW := hid hBW
  have HS := hid (fun (who : Int) W => has_any m who ab as' bs.length cb L.length cs W)
  have C0 : Hid (∀ V, Below W0.heap.size W0 V → V.cell? ⟨b, 0, none⟩ = some (.int .i64 m)) := hid (fun V h => (HBW.out.kept h).cell 0)
  have C1 : Hid (∀ V, Below W0.heap.size W0 V → V.cell? ⟨b, 1, none⟩ = some (.slice ab bs.length cb)) := hid (fun V h => (HBW.out.kept h).cell 1)
  have C2 : Hid (∀ V, Below W0.heap.size W0 V → V.cell? ⟨b, 2, none⟩ = some (.slice as' L.length cs)) := hid (fun V h => (HBW.out.kept h).cell 2)
  have hS0 : Below W0.heap.size W0 W0.drew := below_drewN W0 1
  have HO : Hid (ownT m bs L p = none) := hid (by unfold ownT; rw [if_neg (by omega)])
  have q : decide (p < 0) = true := decide_eq_true hp
  clear hW0 hb0 hk0 hBW hB hT
  go_enter Tryz.func61, Tryz.ntmps61
  go_upto_region 1 with fail
  rw [HW0.out]
  refine wp_region_held_drew (S := fun V => Below W0.heap.size W0 V) (by kernel_rfl) hS0 (fun hS => ?_)
  change wpAnyH _ _ _ _ _ 18 #[false, false, false, false, false, false, false, false, false, false, false, false, false, false, false, false, false, false] _ _
  refine wpAnyH_take (i := 0) (v := .int .i64 p) rfl (by kernel_rfl) (by kernel_rfl) (by kernel_rfl) (fun _ _ _ h => h) (.inl ⟨by kernel_rfl, fun V hV => by unfold execOp; go_simp⟩) hS ?_
  simp only [List.getElem_toArray, List.getElem_cons_zero, List.getElem_cons_succ, Act.put, List.setIfInBounds_toArray, List.set_cons_zero, List.set_cons_succ]
  refine wpAnyH_take (i := 1) (v := .bool true) rfl (by kernel_rfl) (by kernel_rfl) (by kernel_rfl) (fun _ _ _ h => h) (.inl ⟨by kernel_rfl, fun V hV => by unfold execOp; go_simp⟩) hS ?_
  simp only [List.getElem_toArray, List.getElem_cons_zero, List.getElem_cons_succ, Act.put, List.setIfInBounds_toArray, List.set_cons_zero, List.set_cons_succ]
  refine wpAnyH_take (i := 2) (v := .bool true) rfl (by kernel_rfl) (by kernel_rfl) (by kernel_rfl) (fun _ _ _ h => h) (.inl ⟨by kernel_rfl, fun V hV => by unfold execOp; go_simp⟩) hS ?_
  simp only [List.getElem_toArray, List.getElem_cons_zero, List.getElem_cons_succ, Act.put, List.setIfInBounds_toArray, List.set_cons_zero, List.set_cons_succ]
  refine wpAnyH_take (i := 3) (v := undef) rfl (by kernel_rfl) (by kernel_rfl) (by kernel_rfl) (fun _ _ _ h => h) (.inr ⟨by kernel_rfl, rfl⟩) hS ?_
  simp only [List.getElem_toArray, List.getElem_cons_zero, List.getElem_cons_succ, Act.put, List.setIfInBounds_toArray, List.set_cons_zero, List.set_cons_succ]
  refine wpAnyH_take (i := 4) (v := undef) rfl (by kernel_rfl) (by kernel_rfl) (by kernel_rfl) (fun _ _ _ h => h) (.inr ⟨by kernel_rfl, rfl⟩) hS ?_
  simp only [List.getElem_toArray, List.getElem_cons_zero, List.getElem_cons_succ, Act.put, List.setIfInBounds_toArray, List.set_cons_zero, List.set_cons_succ]
  refine wpAnyH_take (i := 5) (v := undef) rfl (by kernel_rfl) (by kernel_rfl) (by kernel_rfl) (fun _ _ _ h => h) (.inr ⟨by kernel_rfl, rfl⟩) hS ?_
  simp only [List.getElem_toArray, List.getElem_cons_zero, List.getElem_cons_succ, Act.put, List.setIfInBounds_toArray, List.set_cons_zero, List.set_cons_succ]
  refine wpAnyH_take (i := 6) (v := undef) rfl (by kernel_rfl) (by kernel_rfl) (by kernel_rfl) (fun _ _ _ h => h) (.inr ⟨by kernel_rfl, rfl⟩) hS ?_
  simp only [List.getElem_toArray, List.getElem_cons_zero, List.getElem_cons_succ, Act.put, List.setIfInBounds_toArray, List.set_cons_zero, List.set_cons_succ]
  refine wpAnyH_take (i := 7) (v := .bool true) rfl (by kernel_rfl) (by kernel_rfl) (by kernel_rfl) (fun _ _ _ h => h) (.inl ⟨by kernel_rfl, fun V hV => by unfold execOp; go_simp⟩) hS ?_
  simp only [List.getElem_toArray, List.getElem_cons_zero, List.getElem_cons_succ, Act.put, List.setIfInBounds_toArray, List.set_cons_zero, List.set_cons_succ]
  refine wpAnyH_take (i := 8) (v := .bool true) rfl (by kernel_rfl) (by kernel_rfl) (by kernel_rfl) (fun _ _ _ h => h) (.inl ⟨by kernel_rfl, fun V hV => by unfold execOp; go_simp⟩) hS ?_
  simp only [List.getElem_toArray, List.getElem_cons_zero, List.getElem_cons_succ, Act.put, List.setIfInBounds_toArray, List.set_cons_zero, List.set_cons_succ]
  refine wpAnyH_take (i := 9) (v := undef) rfl (by kernel_rfl) (by kernel_rfl) (by kernel_rfl) (fun _ _ _ h => h) (.inr ⟨by kernel_rfl, rfl⟩) hS ?_
  simp only [List.getElem_toArray, List.getElem_cons_zero, List.getElem_cons_succ, Act.put, List.setIfInBounds_toArray, List.set_cons_zero, List.set_cons_succ]
  refine wpAnyH_take (i := 10) (v := undef) rfl (by kernel_rfl) (by kernel_rfl) (by kernel_rfl) (fun _ _ _ h => h) (.inr ⟨by kernel_rfl, rfl⟩) hS ?_
  simp only [List.getElem_toArray, List.getElem_cons_zero, List.getElem_cons_succ, Act.put, List.setIfInBounds_toArray, List.set_cons_zero, List.set_cons_succ]
  refine wpAnyH_take (i := 11) (v := undef) rfl (by kernel_rfl) (by kernel_rfl) (by kernel_rfl) (fun _ _ _ h => h) (.inr ⟨by kernel_rfl, rfl⟩) hS ?_
  simp only [List.getElem_toArray, List.getElem_cons_zero, List.getElem_cons_succ, Act.put, List.setIfInBounds_toArray, List.set_cons_zero, List.set_cons_succ]
  refine wpAnyH_take (i := 12) (v := undef) rfl (by kernel_rfl) (by kernel_rfl) (by kernel_rfl) (fun _ _ _ h => h) (.inr ⟨by kernel_rfl, rfl⟩) hS ?_
  simp only [List.getElem_toArray, List.getElem_cons_zero, List.getElem_cons_succ, Act.put, List.setIfInBounds_toArray, List.set_cons_zero, List.set_cons_succ]
  refine wpAnyH_take (i := 13) (v := undef) rfl (by kernel_rfl) (by kernel_rfl) (by kernel_rfl) (fun _ _ _ h => h) (.inr ⟨by kernel_rfl, rfl⟩) hS ?_
  simp only [List.getElem_toArray, List.getElem_cons_zero, List.getElem_cons_succ, Act.put, List.setIfInBounds_toArray, List.set_cons_zero, List.set_cons_succ]
  refine wpAnyH_take (i := 14) (v := undef) rfl (by kernel_rfl) (by kernel_rfl) (by kernel_rfl) (fun _ _ _ h => h) (.inr ⟨by kernel_rfl, rfl⟩) hS ?_
  simp only [List.getElem_toArray, List.getElem_cons_zero, List.getElem_cons_succ, Act.put, List.setIfInBounds_toArray, List.set_cons_zero, List.set_cons_succ]
  refine wpAnyH_take (i := 15) (v := undef) rfl (by kernel_rfl) (by kernel_rfl) (by kernel_rfl) (fun _ _ _ h => h) (.inr ⟨by kernel_rfl, rfl⟩) hS ?_
  simp only [List.getElem_toArray, List.getElem_cons_zero, List.getElem_cons_succ, Act.put, List.setIfInBounds_toArray, List.set_cons_zero, List.set_cons_succ]
  refine wpAnyH_take (i := 16) (v := undef) rfl (by kernel_rfl) (by kernel_rfl) (by kernel_rfl) (fun _ _ _ h => h) (.inr ⟨by kernel_rfl, rfl⟩) hS ?_
  simp only [List.getElem_toArray, List.getElem_cons_zero, List.getElem_cons_succ, Act.put, List.setIfInBounds_toArray, List.set_cons_zero, List.set_cons_succ]
  refine wpAnyH_take (i := 17) (v := .bool true) rfl (by kernel_rfl) (by kernel_rfl) (by kernel_rfl) (fun _ _ _ h => h) (.inl ⟨by kernel_rfl, fun V hV => by unfold execOp; go_simp⟩) hS ?_
  simp only [List.getElem_toArray, List.getElem_cons_zero, List.getElem_cons_succ, Act.put, List.setIfInBounds_toArray, List.set_cons_zero, List.set_cons_succ]
  refine wpAnyH_done (by kernel_rfl) ?_ _
  have HU : Hid (Blk W0.drew w.heap.size 41 (encP pz) ∧ Below w.heap.size w W0.drew) := hid ⟨HK0.out.kept hS, bel2 HB0.out hS⟩
  clear hS
  go_wp2_with ((show wpList _ _ _ (⟨none, _, _, _, _, _⟩ :: _) _ _); go_must (refine wpl_store 41 (.tmp 3) (.tmp 23) rfl w.heap.size (encP pz) rfl rfl 41 _ (HU.out.1) 18 Tryz.infoPoint HZ.out.symm HZ.out HZ1.out rfl ?_))
  rw [HO.out]
  refine retA2 rfl w.heap.size rfl 41 _ _ (Blk.row HU.out.1 _) Tryz.underlying41 rfl 18 Tryz.infoPoint HZ.out.symm rfl _ rfl ⟨rfl, below_setRow HU.out.2 (Nat.le_refl _) _⟩

set_option linter.unusedSimpArgs false in
set_option linter.unusedVariables false in
set_option maxRecDepth 100000 in
set_option maxHeartbeats 8000000 in
theorem own2_high (m : Int) (bs : List PS) (L : List Int) (ab as' : Option Addr) (cb cs b : Nat) (p : Int) (hL : (L.length : Int) = m) (hLm : L.length ≤ 100000) (hbm : bs.length ≤ 100000) (w : World) (hB : Blk w b 27 #[.int .i64 m, .slice ab bs.length cb, .slice as' L.length cs]) (hT : TabIn w.heap.size w ab as' bs L) (hp : 0 ≤ p) (hq : m ≤ p) :
    Calls Tryz.prog 61 #[.int .i64 p, .pointer (some ⟨b, 0, none⟩)] w fun e w' => e = .returned (ansO (ownT m bs L p)) ∧ Below w.heap.size w w' := by
  obtain ⟨W0, hW0⟩ : ∃ W, W = w.alloc (.cells (encP pz) 41) := ⟨_, rfl⟩
  have hb0 : Below w.heap.size w W0 := hW0 ▸ (Below.refl _ _).alloc (Nat.le_refl _) _
  have hk0 : Blk W0 w.heap.size 41 (encP pz) := hW0 ▸ Blk.new w _ _
  have HW0 : Hid (w.alloc (.cells #[.bool false, .int .u8 0, .int .u8 0, .int .u8 0, .int .u8 0, .int .u8 0, .int .u8 0, .int .u8 0, .int .u8 0, .int .u8 0, .int .u8 0, .int .u8 0, .int .u8 0, .int .u8 0, .int .u8 0, .int .u8 0, .int .u8 0, .int .i64 0] 41) = W0) := hid (by rw [hW0, encP_pz])
  have HB0 := hid hb0
  have HK0 := hid hk0
  have HZ := hid (encP_size pz)
  have HZ1 := hid (encP_one pz)
  have hBW := hB.kept hb0
  have HBW := hid hBW
  have HS := hid (fun (who : Int) W => has_any m who ab as' bs.length cb L.length cs W)
  have C0 : Hid (∀ V, Below W0.heap.size W0 V → V.cell? ⟨b, 0, none⟩ = some (.int .i64 m)) := hid (fun V h => (HBW.out.kept h).cell 0)
  have C1 : Hid (∀ V, Below W0.heap.size W0 V → V.cell? ⟨b, 1, none⟩ = some (.slice ab bs.length cb)) := hid (fun V h => (HBW.out.kept h).cell 1)
  have C2 : Hid (∀ V, Below W0.heap.size W0 V → V.cell? ⟨b, 2, none⟩ = some (.slice as' L.length cs)) := hid (fun V h => (HBW.out.kept h).cell 2)
  have hS0 : Below W0.heap.size W0 W0.drew := below_drewN W0 1
  have HO : Hid (ownT m bs L p = none) := hid (by unfold ownT; rw [if_neg (by omega)])
  clear hW0 hb0 hk0 hBW hB hT
  go_enter Tryz.func61, Tryz.ntmps61
  go_upto_region 1 with fail
  rw [HW0.out]
  refine wp_region_held_drew (S := fun V => Below W0.heap.size W0 V) (by kernel_rfl) hS0 (fun hS => ?_)
  change wpAnyH _ _ _ _ _ 18 #[false, false, false, false, false, false, false, false, false, false, false, false, false, false, false, false, false, false] _ _
  refine wpAnyH_take (i := 0) (v := .int .i64 p) rfl (by kernel_rfl) (by kernel_rfl) (by kernel_rfl) (fun _ _ _ h => h) (.inl ⟨by kernel_rfl, fun V hV => by unfold execOp; go_simp⟩) hS ?_
  simp only [List.getElem_toArray, List.getElem_cons_zero, List.getElem_cons_succ, Act.put, List.setIfInBounds_toArray, List.set_cons_zero, List.set_cons_succ]
  refine wpAnyH_take (i := 1) (v := .bool false) rfl (by kernel_rfl) (by kernel_rfl) (by kernel_rfl) (fun _ _ _ h => h) (.inl ⟨by kernel_rfl, fun V hV => by unfold execOp; go_simp; try omega⟩) hS ?_
  simp only [List.getElem_toArray, List.getElem_cons_zero, List.getElem_cons_succ, Act.put, List.setIfInBounds_toArray, List.set_cons_zero, List.set_cons_succ]
  refine wpAnyH_take (i := 2) (v := .bool false) rfl (by kernel_rfl) (by kernel_rfl) (by kernel_rfl) (fun _ _ _ h => h) (.inl ⟨by kernel_rfl, fun V hV => by unfold execOp; go_simp⟩) hS ?_
  simp only [List.getElem_toArray, List.getElem_cons_zero, List.getElem_cons_succ, Act.put, List.setIfInBounds_toArray, List.set_cons_zero, List.set_cons_succ]
  refine wpAnyH_take (i := 3) (v := .int .i64 p) rfl (by kernel_rfl) (by kernel_rfl) (by kernel_rfl) (fun _ _ _ h => h) (.inl ⟨by kernel_rfl, fun V hV => by unfold execOp; go_simp⟩) hS ?_
  simp only [List.getElem_toArray, List.getElem_cons_zero, List.getElem_cons_succ, Act.put, List.setIfInBounds_toArray, List.set_cons_zero, List.set_cons_succ]
  refine wpAnyH_take (i := 4) (v := .pointer (some ⟨b, 0, none⟩)) rfl (by kernel_rfl) (by kernel_rfl) (by kernel_rfl) (fun _ _ _ h => h) (.inl ⟨by kernel_rfl, fun V hV => by unfold execOp; go_simp⟩) hS ?_
  simp only [List.getElem_toArray, List.getElem_cons_zero, List.getElem_cons_succ, Act.put, List.setIfInBounds_toArray, List.set_cons_zero, List.set_cons_succ]
  refine wpAnyH_take (i := 5) (v := .int .i64 m) rfl (by kernel_rfl) (by kernel_rfl) (by kernel_rfl) (fun _ _ _ h => h) (.inl ⟨by kernel_rfl, fun V hV => by unfold execOp; have c := C0.out V hV; go_simp⟩) hS ?_
  simp only [List.getElem_toArray, List.getElem_cons_zero, List.getElem_cons_succ, Act.put, List.setIfInBounds_toArray, List.set_cons_zero, List.set_cons_succ]
  refine wpAnyH_take (i := 6) (v := .bool true) rfl (by kernel_rfl) (by kernel_rfl) (by kernel_rfl) (fun _ _ _ h => h) (.inl ⟨by kernel_rfl, fun V hV => by unfold execOp; go_simp; try omega⟩) hS ?_
  simp only [List.getElem_toArray, List.getElem_cons_zero, List.getElem_cons_succ, Act.put, List.setIfInBounds_toArray, List.set_cons_zero, List.set_cons_succ]
  refine wpAnyH_take (i := 7) (v := .bool true) rfl (by kernel_rfl) (by kernel_rfl) (by kernel_rfl) (fun _ _ _ h => h) (.inl ⟨by kernel_rfl, fun V hV => by unfold execOp; go_simp⟩) hS ?_
  simp only [List.getElem_toArray, List.getElem_cons_zero, List.getElem_cons_succ, Act.put, List.setIfInBounds_toArray, List.set_cons_zero, List.set_cons_succ]
  refine wpAnyH_take (i := 8) (v := .bool true) rfl (by kernel_rfl) (by kernel_rfl) (by kernel_rfl) (fun _ _ _ h => h) (.inl ⟨by kernel_rfl, fun V hV => by unfold execOp; go_simp⟩) hS ?_
  simp only [List.getElem_toArray, List.getElem_cons_zero, List.getElem_cons_succ, Act.put, List.setIfInBounds_toArray, List.set_cons_zero, List.set_cons_succ]
  refine wpAnyH_take (i := 9) (v := undef) rfl (by kernel_rfl) (by kernel_rfl) (by kernel_rfl) (fun _ _ _ h => h) (.inr ⟨by kernel_rfl, rfl⟩) hS ?_
  simp only [List.getElem_toArray, List.getElem_cons_zero, List.getElem_cons_succ, Act.put, List.setIfInBounds_toArray, List.set_cons_zero, List.set_cons_succ]
  refine wpAnyH_take (i := 10) (v := undef) rfl (by kernel_rfl) (by kernel_rfl) (by kernel_rfl) (fun _ _ _ h => h) (.inr ⟨by kernel_rfl, rfl⟩) hS ?_
  simp only [List.getElem_toArray, List.getElem_cons_zero, List.getElem_cons_succ, Act.put, List.setIfInBounds_toArray, List.set_cons_zero, List.set_cons_succ]
  refine wpAnyH_take (i := 11) (v := undef) rfl (by kernel_rfl) (by kernel_rfl) (by kernel_rfl) (fun _ _ _ h => h) (.inr ⟨by kernel_rfl, rfl⟩) hS ?_
  simp only [List.getElem_toArray, List.getElem_cons_zero, List.getElem_cons_succ, Act.put, List.setIfInBounds_toArray, List.set_cons_zero, List.set_cons_succ]
  refine wpAnyH_take (i := 12) (v := undef) rfl (by kernel_rfl) (by kernel_rfl) (by kernel_rfl) (fun _ _ _ h => h) (.inr ⟨by kernel_rfl, rfl⟩) hS ?_
  simp only [List.getElem_toArray, List.getElem_cons_zero, List.getElem_cons_succ, Act.put, List.setIfInBounds_toArray, List.set_cons_zero, List.set_cons_succ]
  refine wpAnyH_take (i := 13) (v := undef) rfl (by kernel_rfl) (by kernel_rfl) (by kernel_rfl) (fun _ _ _ h => h) (.inr ⟨by kernel_rfl, rfl⟩) hS ?_
  simp only [List.getElem_toArray, List.getElem_cons_zero, List.getElem_cons_succ, Act.put, List.setIfInBounds_toArray, List.set_cons_zero, List.set_cons_succ]
  refine wpAnyH_take (i := 14) (v := undef) rfl (by kernel_rfl) (by kernel_rfl) (by kernel_rfl) (fun _ _ _ h => h) (.inr ⟨by kernel_rfl, rfl⟩) hS ?_
  simp only [List.getElem_toArray, List.getElem_cons_zero, List.getElem_cons_succ, Act.put, List.setIfInBounds_toArray, List.set_cons_zero, List.set_cons_succ]
  refine wpAnyH_take (i := 15) (v := undef) rfl (by kernel_rfl) (by kernel_rfl) (by kernel_rfl) (fun _ _ _ h => h) (.inr ⟨by kernel_rfl, rfl⟩) hS ?_
  simp only [List.getElem_toArray, List.getElem_cons_zero, List.getElem_cons_succ, Act.put, List.setIfInBounds_toArray, List.set_cons_zero, List.set_cons_succ]
  refine wpAnyH_take (i := 16) (v := undef) rfl (by kernel_rfl) (by kernel_rfl) (by kernel_rfl) (fun _ _ _ h => h) (.inr ⟨by kernel_rfl, rfl⟩) hS ?_
  simp only [List.getElem_toArray, List.getElem_cons_zero, List.getElem_cons_succ, Act.put, List.setIfInBounds_toArray, List.set_cons_zero, List.set_cons_succ]
  refine wpAnyH_take (i := 17) (v := .bool true) rfl (by kernel_rfl) (by kernel_rfl) (by kernel_rfl) (fun _ _ _ h => h) (.inl ⟨by kernel_rfl, fun V hV => by unfold execOp; go_simp⟩) hS ?_
  simp only [List.getElem_toArray, List.getElem_cons_zero, List.getElem_cons_succ, Act.put, List.setIfInBounds_toArray, List.set_cons_zero, List.set_cons_succ]
  refine wpAnyH_done (by kernel_rfl) ?_ _
  have HU : Hid (Blk W0.drew w.heap.size 41 (encP pz) ∧ Below w.heap.size w W0.drew) := hid ⟨HK0.out.kept hS, bel2 HB0.out hS⟩
  clear hS
  go_wp2_with ((show wpList _ _ _ (⟨none, _, _, _, _, _⟩ :: _) _ _); go_must (refine wpl_store 41 (.tmp 3) (.tmp 23) rfl w.heap.size (encP pz) rfl rfl 41 _ (HU.out.1) 18 Tryz.infoPoint HZ.out.symm HZ.out HZ1.out rfl ?_))
  rw [HO.out]
  refine retA2 rfl w.heap.size rfl 41 _ _ (Blk.row HU.out.1 _) Tryz.underlying41 rfl 18 Tryz.infoPoint HZ.out.symm rfl _ rfl ⟨rfl, below_setRow HU.out.2 (Nat.le_refl _) _⟩

end Go.Proofs.YtahconkjhneogaaGreatDoor

namespace Go.Proofs.YtahconkjhneogaaGreatDoor
open Go.RowKit Go.Lib

set_option linter.unusedSimpArgs false in
set_option linter.unusedVariables false in
set_option maxRecDepth 100000 in
set_option maxHeartbeats 8000000 in
theorem own2_not (m : Int) (bs : List PS) (L : List Int) (ab as' : Option Addr) (cb cs b : Nat) (k : Nat) (hL : (L.length : Int) = m) (hLm : L.length ≤ 100000) (hbm : bs.length ≤ 100000) (w : World) (hB : Blk w b 27 #[.int .i64 m, .slice ab bs.length cb, .slice as' L.length cs]) (hT : TabIn w.heap.size w ab as' bs L) (hk : (k : Int) < m) (hno : ¬ (0 ≤ L.getD k 0 ∧ L.getD k 0 < bs.length)) :
    Calls Tryz.prog 61 #[.int .i64 (k : Int), .pointer (some ⟨b, 0, none⟩)] w fun e w' => e = .returned (ansO (ownT m bs L k)) ∧ Below w.heap.size w w' := by
  obtain ⟨W0, hW0⟩ : ∃ W, W = w.alloc (.cells (encP pz) 41) := ⟨_, rfl⟩
  have hb0 : Below w.heap.size w W0 := hW0 ▸ (Below.refl _ _).alloc (Nat.le_refl _) _
  have hk0 : Blk W0 w.heap.size 41 (encP pz) := hW0 ▸ Blk.new w _ _
  have HW0 : Hid (w.alloc (.cells #[.bool false, .int .u8 0, .int .u8 0, .int .u8 0, .int .u8 0, .int .u8 0, .int .u8 0, .int .u8 0, .int .u8 0, .int .u8 0, .int .u8 0, .int .u8 0, .int .u8 0, .int .u8 0, .int .u8 0, .int .u8 0, .int .u8 0, .int .i64 0] 41) = W0) := hid (by rw [hW0, encP_pz])
  have HB0 := hid hb0
  have HK0 := hid hk0
  have HZ := hid (encP_size pz)
  have HZ1 := hid (encP_one pz)
  have hBW := hB.kept hb0
  have HBW := hid hBW
  have HS := hid (fun (who : Int) W => has_any m who ab as' bs.length cb L.length cs W)
  have C0 : Hid (∀ V, Below W0.heap.size W0 V → V.cell? ⟨b, 0, none⟩ = some (.int .i64 m)) := hid (fun V h => (HBW.out.kept h).cell 0)
  have C1 : Hid (∀ V, Below W0.heap.size W0 V → V.cell? ⟨b, 1, none⟩ = some (.slice ab bs.length cb)) := hid (fun V h => (HBW.out.kept h).cell 1)
  have C2 : Hid (∀ V, Below W0.heap.size W0 V → V.cell? ⟨b, 2, none⟩ = some (.slice as' L.length cs)) := hid (fun V h => (HBW.out.kept h).cell 2)
  have hS0 : Below W0.heap.size W0 W0.drew := below_drewN W0 1
  obtain ⟨gs, os, eas, hgs, hck⟩ := hT.ints k (by omega)
  subst eas
  obtain ⟨who, hwho⟩ : ∃ who, who = L.getD k 0 := ⟨_, rfl⟩
  rw [← hwho] at hck
  have CK : Hid (∀ V, Below W0.heap.size W0 V → V.cell? ⟨gs, os + k, none⟩ = some (.int .i64 who)) := hid (fun V h => ((hb0.trans (h.mono hb0.size)).cell (p := ⟨gs, os + k, none⟩) hgs).trans hck)
  have HS1 := hid (HS.out who)
  obtain ⟨q, hq⟩ : ∃ q, q = (decide (0 ≤ who) && decide (who < (bs.length : Int))) := ⟨_, rfl⟩
  rw [← hq] at HS1
  have HO : Hid (ownT m bs L k = none) := hid (by unfold ownT; rw [if_neg]; rintro ⟨_, _, h1, h2⟩; exact hno ⟨h1, h2⟩)
  have hq0 : q = false := by
    rw [hq, Bool.and_eq_false_iff, decide_eq_false_iff_not, decide_eq_false_iff_not]
    rw [← hwho] at hno
    omega
  subst hq0
  clear hq hwho hno hck hgs hW0 hb0 hk0 hBW hB hT HS
  go_enter Tryz.func61, Tryz.ntmps61
  go_upto_region 1 with fail
  rw [HW0.out]
  refine wp_region_held_drew (S := fun V => Below W0.heap.size W0 V) (by kernel_rfl) hS0 (fun hS => ?_)
  change wpAnyH _ _ _ _ _ 18 #[false, false, false, false, false, false, false, false, false, false, false, false, false, false, false, false, false, false] _ _
  refine wpAnyH_take (i := 0) (v := .int .i64 (k : Int)) rfl (by kernel_rfl) (by kernel_rfl) (by kernel_rfl) (fun _ _ _ h => h) (.inl ⟨by kernel_rfl, fun V hV => by unfold execOp; go_simp⟩) hS ?_
  simp only [List.getElem_toArray, List.getElem_cons_zero, List.getElem_cons_succ, Act.put, List.setIfInBounds_toArray, List.set_cons_zero, List.set_cons_succ]
  refine wpAnyH_take (i := 1) (v := .bool false) rfl (by kernel_rfl) (by kernel_rfl) (by kernel_rfl) (fun _ _ _ h => h) (.inl ⟨by kernel_rfl, fun V hV => by unfold execOp; go_simp⟩) hS ?_
  simp only [List.getElem_toArray, List.getElem_cons_zero, List.getElem_cons_succ, Act.put, List.setIfInBounds_toArray, List.set_cons_zero, List.set_cons_succ]
  refine wpAnyH_take (i := 2) (v := .bool false) rfl (by kernel_rfl) (by kernel_rfl) (by kernel_rfl) (fun _ _ _ h => h) (.inl ⟨by kernel_rfl, fun V hV => by unfold execOp; go_simp⟩) hS ?_
  simp only [List.getElem_toArray, List.getElem_cons_zero, List.getElem_cons_succ, Act.put, List.setIfInBounds_toArray, List.set_cons_zero, List.set_cons_succ]
  refine wpAnyH_take (i := 3) (v := .int .i64 (k : Int)) rfl (by kernel_rfl) (by kernel_rfl) (by kernel_rfl) (fun _ _ _ h => h) (.inl ⟨by kernel_rfl, fun V hV => by unfold execOp; go_simp⟩) hS ?_
  simp only [List.getElem_toArray, List.getElem_cons_zero, List.getElem_cons_succ, Act.put, List.setIfInBounds_toArray, List.set_cons_zero, List.set_cons_succ]
  refine wpAnyH_take (i := 4) (v := .pointer (some ⟨b, 0, none⟩)) rfl (by kernel_rfl) (by kernel_rfl) (by kernel_rfl) (fun _ _ _ h => h) (.inl ⟨by kernel_rfl, fun V hV => by unfold execOp; go_simp⟩) hS ?_
  simp only [List.getElem_toArray, List.getElem_cons_zero, List.getElem_cons_succ, Act.put, List.setIfInBounds_toArray, List.set_cons_zero, List.set_cons_succ]
  refine wpAnyH_take (i := 5) (v := .int .i64 m) rfl (by kernel_rfl) (by kernel_rfl) (by kernel_rfl) (fun _ _ _ h => h) (.inl ⟨by kernel_rfl, fun V hV => by unfold execOp; have c := C0.out V hV; go_simp⟩) hS ?_
  simp only [List.getElem_toArray, List.getElem_cons_zero, List.getElem_cons_succ, Act.put, List.setIfInBounds_toArray, List.set_cons_zero, List.set_cons_succ]
  refine wpAnyH_take (i := 6) (v := .bool false) rfl (by kernel_rfl) (by kernel_rfl) (by kernel_rfl) (fun _ _ _ h => h) (.inl ⟨by kernel_rfl, fun V hV => by unfold execOp; go_simp; try omega⟩) hS ?_
  simp only [List.getElem_toArray, List.getElem_cons_zero, List.getElem_cons_succ, Act.put, List.setIfInBounds_toArray, List.set_cons_zero, List.set_cons_succ]
  refine wpAnyH_take (i := 7) (v := .bool false) rfl (by kernel_rfl) (by kernel_rfl) (by kernel_rfl) (fun _ _ _ h => h) (.inl ⟨by kernel_rfl, fun V hV => by unfold execOp; go_simp⟩) hS ?_
  simp only [List.getElem_toArray, List.getElem_cons_zero, List.getElem_cons_succ, Act.put, List.setIfInBounds_toArray, List.set_cons_zero, List.set_cons_succ]
  refine wpAnyH_take (i := 8) (v := .bool false) rfl (by kernel_rfl) (by kernel_rfl) (by kernel_rfl) (fun _ _ _ h => h) (.inl ⟨by kernel_rfl, fun V hV => by unfold execOp; go_simp⟩) hS ?_
  simp only [List.getElem_toArray, List.getElem_cons_zero, List.getElem_cons_succ, Act.put, List.setIfInBounds_toArray, List.set_cons_zero, List.set_cons_succ]
  refine wpAnyH_take (i := 9) (v := .agg #[.int .i64 m, .slice ab bs.length cb, .slice (some ⟨gs, os, none⟩) L.length cs]) rfl (by kernel_rfl) (by kernel_rfl) (by kernel_rfl) (fun _ _ _ h => h) (yields_load 27 (.tmp 1) rfl b rfl 27 _ _ (fun V h => HBW.out.kept h) Tryz.underlying27 rfl 3 Tryz.infoTable rfl (by kernel_rfl)) hS ?_
  simp only [List.getElem_toArray, List.getElem_cons_zero, List.getElem_cons_succ, Act.put, List.setIfInBounds_toArray, List.set_cons_zero, List.set_cons_succ]
  refine wpAnyH_take (i := 10) (v := .pointer (some ⟨b, 2, none⟩)) rfl (by kernel_rfl) (by kernel_rfl) (by kernel_rfl) (fun _ _ _ h => h) (.inl ⟨by kernel_rfl, fun V hV => by unfold execOp; go_simp⟩) hS ?_
  simp only [List.getElem_toArray, List.getElem_cons_zero, List.getElem_cons_succ, Act.put, List.setIfInBounds_toArray, List.set_cons_zero, List.set_cons_succ]
  refine wpAnyH_take (i := 11) (v := .slice (some ⟨gs, os, none⟩) L.length cs) rfl (by kernel_rfl) (by kernel_rfl) (by kernel_rfl) (fun _ _ _ h => h) (.inl ⟨by kernel_rfl, fun V hV => by unfold execOp; have c := C2.out V hV; go_simp⟩) hS ?_
  simp only [List.getElem_toArray, List.getElem_cons_zero, List.getElem_cons_succ, Act.put, List.setIfInBounds_toArray, List.set_cons_zero, List.set_cons_succ]
  refine wpAnyH_take (i := 12) (v := .int .i64 (k : Int)) rfl (by kernel_rfl) (by kernel_rfl) (by kernel_rfl) (fun _ _ _ h => h) (.inl ⟨by kernel_rfl, fun V hV => by unfold execOp; go_simp⟩) hS ?_
  simp only [List.getElem_toArray, List.getElem_cons_zero, List.getElem_cons_succ, Act.put, List.setIfInBounds_toArray, List.set_cons_zero, List.set_cons_succ]
  refine wpAnyH_take (i := 13) (v := .pointer (some ⟨gs, os + k, none⟩)) rfl (by kernel_rfl) (by kernel_rfl) (by kernel_rfl) (fun _ _ _ h => h) (.inl ⟨by kernel_rfl, fun V hV => by unfold execOp; go_simp; try (intro h; omega)⟩) hS ?_
  simp only [List.getElem_toArray, List.getElem_cons_zero, List.getElem_cons_succ, Act.put, List.setIfInBounds_toArray, List.set_cons_zero, List.set_cons_succ]
  refine wpAnyH_take (i := 14) (v := .int .i64 who) rfl (by kernel_rfl) (by kernel_rfl) (by kernel_rfl) (fun _ _ _ h => h) (.inl ⟨by kernel_rfl, fun V hV => by unfold execOp; have c := CK.out V hV; go_simp⟩) hS ?_
  simp only [List.getElem_toArray, List.getElem_cons_zero, List.getElem_cons_succ, Act.put, List.setIfInBounds_toArray, List.set_cons_zero, List.set_cons_succ]
  refine wpAnyH_ready (rs := [15]) (by kernel_rfl) (by simp) ?_
  refine AllReadyH.cons rfl (fun K' hK => ?_) AllReadyH.nil
  rw [if_pos (by kernel_rfl)]
  refine op_call 38 #[.agg #[.int .i64 m, .slice ab bs.length cb, .slice (some ⟨gs, os, none⟩) L.length cs], .int .i64 who] (by kernel_rfl) (.bool false) (HS1.out _) (fun W1 hb1 => hK.out _ _ (hS.trans (hb1.mono hS.size)) (fun hS => ?_))
  simp only [List.getElem_toArray, List.getElem_cons_zero, List.getElem_cons_succ, Act.put, List.setIfInBounds_toArray, List.set_cons_zero, List.set_cons_succ]
  refine wpAnyH_take (i := 16) (v := .bool (!false)) rfl (by kernel_rfl) (by kernel_rfl) (by kernel_rfl) (fun _ _ _ h => h) (.inl ⟨by kernel_rfl, fun V hV => by unfold execOp; go_simp⟩) hS ?_
  simp only [List.getElem_toArray, List.getElem_cons_zero, List.getElem_cons_succ, Act.put, List.setIfInBounds_toArray, List.set_cons_zero, List.set_cons_succ]
  refine wpAnyH_take (i := 17) (v := .bool (!false)) rfl (by kernel_rfl) (by kernel_rfl) (by kernel_rfl) (fun _ _ _ h => h) (.inl ⟨by kernel_rfl, fun V hV => by unfold execOp; go_simp⟩) hS ?_
  simp only [List.getElem_toArray, List.getElem_cons_zero, List.getElem_cons_succ, Act.put, List.setIfInBounds_toArray, List.set_cons_zero, List.set_cons_succ]
  refine wpAnyH_done (by kernel_rfl) ?_ _
  have HU : Hid (Blk W1 w.heap.size 41 (encP pz) ∧ Below w.heap.size w W1) := hid ⟨HK0.out.kept hS, bel2 HB0.out hS⟩
  clear hS
  go_wp2_with ((show wpList _ _ _ (⟨none, _, _, _, _, _⟩ :: _) _ _); go_must (refine wpl_store 41 (.tmp 3) (.tmp 23) rfl w.heap.size (encP pz) rfl rfl 41 _ (HU.out.1) 18 Tryz.infoPoint HZ.out.symm HZ.out HZ1.out rfl ?_))
  rw [HO.out]
  refine retA2 rfl w.heap.size rfl 41 _ _ (Blk.row HU.out.1 _) Tryz.underlying41 rfl 18 Tryz.infoPoint HZ.out.symm rfl _ rfl ⟨rfl, below_setRow HU.out.2 (Nat.le_refl _) _⟩

end Go.Proofs.YtahconkjhneogaaGreatDoor

namespace Go.Proofs.YtahconkjhneogaaGreatDoor
open Go.RowKit Go.Lib

set_option linter.unusedSimpArgs false in
set_option linter.unusedVariables false in
set_option maxRecDepth 100000 in
set_option maxHeartbeats 8000000 in
theorem own2_is (m : Int) (bs : List PS) (L : List Int) (ab as' : Option Addr) (cb cs b : Nat) (k : Nat) (hL : (L.length : Int) = m) (hLm : L.length ≤ 100000) (hbm : bs.length ≤ 100000) (w : World) (hB : Blk w b 27 #[.int .i64 m, .slice ab bs.length cb, .slice as' L.length cs]) (hT : TabIn w.heap.size w ab as' bs L) (hk : (k : Int) < m) (hyes : 0 ≤ L.getD k 0 ∧ L.getD k 0 < bs.length) :
    Calls Tryz.prog 61 #[.int .i64 (k : Int), .pointer (some ⟨b, 0, none⟩)] w fun e w' => e = .returned (ansO (ownT m bs L k)) ∧ Below w.heap.size w w' := by
  obtain ⟨W0, hW0⟩ : ∃ W, W = w.alloc (.cells (encP pz) 41) := ⟨_, rfl⟩
  have hb0 : Below w.heap.size w W0 := hW0 ▸ (Below.refl _ _).alloc (Nat.le_refl _) _
  have hk0 : Blk W0 w.heap.size 41 (encP pz) := hW0 ▸ Blk.new w _ _
  have HW0 : Hid (w.alloc (.cells #[.bool false, .int .u8 0, .int .u8 0, .int .u8 0, .int .u8 0, .int .u8 0, .int .u8 0, .int .u8 0, .int .u8 0, .int .u8 0, .int .u8 0, .int .u8 0, .int .u8 0, .int .u8 0, .int .u8 0, .int .u8 0, .int .u8 0, .int .i64 0] 41) = W0) := hid (by rw [hW0, encP_pz])
  have HB0 := hid hb0
  have HK0 := hid hk0
  have HZ := hid (encP_size pz)
  have HZ1 := hid (encP_one pz)
  have hBW := hB.kept hb0
  have HBW := hid hBW
  have HS := hid (fun (who : Int) W => has_any m who ab as' bs.length cb L.length cs W)
  have C0 : Hid (∀ V, Below W0.heap.size W0 V → V.cell? ⟨b, 0, none⟩ = some (.int .i64 m)) := hid (fun V h => (HBW.out.kept h).cell 0)
  have C1 : Hid (∀ V, Below W0.heap.size W0 V → V.cell? ⟨b, 1, none⟩ = some (.slice ab bs.length cb)) := hid (fun V h => (HBW.out.kept h).cell 1)
  have C2 : Hid (∀ V, Below W0.heap.size W0 V → V.cell? ⟨b, 2, none⟩ = some (.slice as' L.length cs)) := hid (fun V h => (HBW.out.kept h).cell 2)
  have hS0 : Below W0.heap.size W0 W0.drew := below_drewN W0 1
  obtain ⟨gs, os, eas, hgs, hck⟩ := hT.ints k (by omega)
  subst eas
  obtain ⟨who, hwho⟩ : ∃ who, who = L.getD k 0 := ⟨_, rfl⟩
  rw [← hwho] at hck
  have CK : Hid (∀ V, Below W0.heap.size W0 V → V.cell? ⟨gs, os + k, none⟩ = some (.int .i64 who)) := hid (fun V h => ((hb0.trans (h.mono hb0.size)).cell (p := ⟨gs, os + k, none⟩) hgs).trans hck)
  have HS1 := hid (HS.out who)
  obtain ⟨q, hq⟩ : ∃ q, q = (decide (0 ≤ who) && decide (who < (bs.length : Int))) := ⟨_, rfl⟩
  rw [← hq] at HS1
  rw [← hwho] at hyes
  obtain ⟨h, rfl⟩ : ∃ h : Nat, who = (h : Int) := ⟨who.toNat, by omega⟩
  have hh : h < bs.length := by omega
  obtain ⟨gb, ob, eab, hgb, hrx⟩ := hT.els h hh
  subst eab
  obtain ⟨x, hx⟩ : ∃ x, x = bs[h] := ⟨_, rfl⟩
  rw [← hx] at hrx
  have HO : Hid (ownT m bs L k = some x) := hid (by
    unfold ownT
    rw [show ((k : Int)).toNat = k from rfl, ← hwho, if_pos ⟨by omega, hk, by omega, by omega⟩, Int.toNat_natCast, getElem!_pos bs h hh, ← hx])
  have hq0 : q = true := by
    rw [hq, Bool.and_eq_true, decide_eq_true_eq, decide_eq_true_eq]
    omega
  subst hq0
  have HX := hid (encP_size x)
  have HX1 := hid (encP_one x)
  have hlw := hBW.lt
  have hbl : b < w.heap.size := hB.lt
  -- what stays where only the answer's block is written
  have HOld : Hid (∀ V W1 : World, Below W0.heap.size W0 W1 → (V = W1.drew ∨ V = W1.drew.setRow w.heap.size (encP x)) → Below w.heap.size w V) := hid (fun V W1 h1 h2 => by
    rcases h2 with rfl | rfl
    · exact (bel2 hb0 h1).drew
    · exact below_setRow (bel2 hb0 h1).drew (Nat.le_refl _) _)
  have D1 : Hid (∀ V W1 : World, Below W0.heap.size W0 W1 → (V = W1.drew ∨ V = W1.drew.setRow w.heap.size (encP x)) → V.cell? ⟨b, 1, none⟩ = some (.slice (some ⟨gb, ob, none⟩) bs.length cb)) := hid (fun V W1 h1 h2 => (hB.kept (HOld.out V W1 h1 h2)).cell 1)
  have D2 : Hid (∀ V W1 : World, Below W0.heap.size W0 W1 → (V = W1.drew ∨ V = W1.drew.setRow w.heap.size (encP x)) → V.cell? ⟨b, 2, none⟩ = some (.slice (some ⟨gs, os, none⟩) L.length cs)) := hid (fun V W1 h1 h2 => (hB.kept (HOld.out V W1 h1 h2)).cell 2)
  have DK : Hid (∀ V W1 : World, Below W0.heap.size W0 W1 → (V = W1.drew ∨ V = W1.drew.setRow w.heap.size (encP x)) → V.cell? ⟨gs, os + k, none⟩ = some (.int .i64 (h : Int))) := hid (fun V W1 h1 h2 => ((HOld.out V W1 h1 h2).cell (p := ⟨gs, os + k, none⟩) hgs).trans hck)
  have DX : Hid (∀ V W1 : World, Below W0.heap.size W0 W1 → (V = W1.drew ∨ V = W1.drew.setRow w.heap.size (encP x)) → V.rangeAt gb (ob + h * 18) (encPL x)) := hid (fun V W1 h1 h2 => rangeAt_below (HOld.out V W1 h1 h2) hgb hrx)
  clear hq hwho hck hgs hgb hrx hx hW0 hb0 hk0 hBW hB hT HS hlw hyes
  go_enter Tryz.func61, Tryz.ntmps61
  go_upto_region 1 with fail
  rw [HW0.out]
  refine wp_region_held_drew (S := fun V => Below W0.heap.size W0 V) (by kernel_rfl) hS0 (fun hS => ?_)
  change wpAnyH _ _ _ _ _ 18 #[false, false, false, false, false, false, false, false, false, false, false, false, false, false, false, false, false, false] _ _
  refine wpAnyH_take (i := 0) (v := .int .i64 (k : Int)) rfl (by kernel_rfl) (by kernel_rfl) (by kernel_rfl) (fun _ _ _ h => h) (.inl ⟨by kernel_rfl, fun V hV => by unfold execOp; go_simp⟩) hS ?_
  simp only [List.getElem_toArray, List.getElem_cons_zero, List.getElem_cons_succ, Act.put, List.setIfInBounds_toArray, List.set_cons_zero, List.set_cons_succ]
  refine wpAnyH_take (i := 1) (v := .bool false) rfl (by kernel_rfl) (by kernel_rfl) (by kernel_rfl) (fun _ _ _ h => h) (.inl ⟨by kernel_rfl, fun V hV => by unfold execOp; go_simp⟩) hS ?_
  simp only [List.getElem_toArray, List.getElem_cons_zero, List.getElem_cons_succ, Act.put, List.setIfInBounds_toArray, List.set_cons_zero, List.set_cons_succ]
  refine wpAnyH_take (i := 2) (v := .bool false) rfl (by kernel_rfl) (by kernel_rfl) (by kernel_rfl) (fun _ _ _ h => h) (.inl ⟨by kernel_rfl, fun V hV => by unfold execOp; go_simp⟩) hS ?_
  simp only [List.getElem_toArray, List.getElem_cons_zero, List.getElem_cons_succ, Act.put, List.setIfInBounds_toArray, List.set_cons_zero, List.set_cons_succ]
  refine wpAnyH_take (i := 3) (v := .int .i64 (k : Int)) rfl (by kernel_rfl) (by kernel_rfl) (by kernel_rfl) (fun _ _ _ h => h) (.inl ⟨by kernel_rfl, fun V hV => by unfold execOp; go_simp⟩) hS ?_
  simp only [List.getElem_toArray, List.getElem_cons_zero, List.getElem_cons_succ, Act.put, List.setIfInBounds_toArray, List.set_cons_zero, List.set_cons_succ]
  refine wpAnyH_take (i := 4) (v := .pointer (some ⟨b, 0, none⟩)) rfl (by kernel_rfl) (by kernel_rfl) (by kernel_rfl) (fun _ _ _ h => h) (.inl ⟨by kernel_rfl, fun V hV => by unfold execOp; go_simp⟩) hS ?_
  simp only [List.getElem_toArray, List.getElem_cons_zero, List.getElem_cons_succ, Act.put, List.setIfInBounds_toArray, List.set_cons_zero, List.set_cons_succ]
  refine wpAnyH_take (i := 5) (v := .int .i64 m) rfl (by kernel_rfl) (by kernel_rfl) (by kernel_rfl) (fun _ _ _ h => h) (.inl ⟨by kernel_rfl, fun V hV => by unfold execOp; have c := C0.out V hV; go_simp⟩) hS ?_
  simp only [List.getElem_toArray, List.getElem_cons_zero, List.getElem_cons_succ, Act.put, List.setIfInBounds_toArray, List.set_cons_zero, List.set_cons_succ]
  refine wpAnyH_take (i := 6) (v := .bool false) rfl (by kernel_rfl) (by kernel_rfl) (by kernel_rfl) (fun _ _ _ h => h) (.inl ⟨by kernel_rfl, fun V hV => by unfold execOp; go_simp; try omega⟩) hS ?_
  simp only [List.getElem_toArray, List.getElem_cons_zero, List.getElem_cons_succ, Act.put, List.setIfInBounds_toArray, List.set_cons_zero, List.set_cons_succ]
  refine wpAnyH_take (i := 7) (v := .bool false) rfl (by kernel_rfl) (by kernel_rfl) (by kernel_rfl) (fun _ _ _ h => h) (.inl ⟨by kernel_rfl, fun V hV => by unfold execOp; go_simp⟩) hS ?_
  simp only [List.getElem_toArray, List.getElem_cons_zero, List.getElem_cons_succ, Act.put, List.setIfInBounds_toArray, List.set_cons_zero, List.set_cons_succ]
  refine wpAnyH_take (i := 8) (v := .bool false) rfl (by kernel_rfl) (by kernel_rfl) (by kernel_rfl) (fun _ _ _ h => h) (.inl ⟨by kernel_rfl, fun V hV => by unfold execOp; go_simp⟩) hS ?_
  simp only [List.getElem_toArray, List.getElem_cons_zero, List.getElem_cons_succ, Act.put, List.setIfInBounds_toArray, List.set_cons_zero, List.set_cons_succ]
  refine wpAnyH_take (i := 9) (v := .agg #[.int .i64 m, .slice (some ⟨gb, ob, none⟩) bs.length cb, .slice (some ⟨gs, os, none⟩) L.length cs]) rfl (by kernel_rfl) (by kernel_rfl) (by kernel_rfl) (fun _ _ _ h => h) (yields_load 27 (.tmp 1) rfl b rfl 27 _ _ (fun V h => HBW.out.kept h) Tryz.underlying27 rfl 3 Tryz.infoTable rfl (by kernel_rfl)) hS ?_
  simp only [List.getElem_toArray, List.getElem_cons_zero, List.getElem_cons_succ, Act.put, List.setIfInBounds_toArray, List.set_cons_zero, List.set_cons_succ]
  refine wpAnyH_take (i := 10) (v := .pointer (some ⟨b, 2, none⟩)) rfl (by kernel_rfl) (by kernel_rfl) (by kernel_rfl) (fun _ _ _ h => h) (.inl ⟨by kernel_rfl, fun V hV => by unfold execOp; go_simp⟩) hS ?_
  simp only [List.getElem_toArray, List.getElem_cons_zero, List.getElem_cons_succ, Act.put, List.setIfInBounds_toArray, List.set_cons_zero, List.set_cons_succ]
  refine wpAnyH_take (i := 11) (v := .slice (some ⟨gs, os, none⟩) L.length cs) rfl (by kernel_rfl) (by kernel_rfl) (by kernel_rfl) (fun _ _ _ h => h) (.inl ⟨by kernel_rfl, fun V hV => by unfold execOp; have c := C2.out V hV; go_simp⟩) hS ?_
  simp only [List.getElem_toArray, List.getElem_cons_zero, List.getElem_cons_succ, Act.put, List.setIfInBounds_toArray, List.set_cons_zero, List.set_cons_succ]
  refine wpAnyH_take (i := 12) (v := .int .i64 (k : Int)) rfl (by kernel_rfl) (by kernel_rfl) (by kernel_rfl) (fun _ _ _ h => h) (.inl ⟨by kernel_rfl, fun V hV => by unfold execOp; go_simp⟩) hS ?_
  simp only [List.getElem_toArray, List.getElem_cons_zero, List.getElem_cons_succ, Act.put, List.setIfInBounds_toArray, List.set_cons_zero, List.set_cons_succ]
  refine wpAnyH_take (i := 13) (v := .pointer (some ⟨gs, os + k, none⟩)) rfl (by kernel_rfl) (by kernel_rfl) (by kernel_rfl) (fun _ _ _ h => h) (.inl ⟨by kernel_rfl, fun V hV => by unfold execOp; go_simp; try (intro h; omega)⟩) hS ?_
  simp only [List.getElem_toArray, List.getElem_cons_zero, List.getElem_cons_succ, Act.put, List.setIfInBounds_toArray, List.set_cons_zero, List.set_cons_succ]
  refine wpAnyH_take (i := 14) (v := .int .i64 (h : Int)) rfl (by kernel_rfl) (by kernel_rfl) (by kernel_rfl) (fun _ _ _ h => h) (.inl ⟨by kernel_rfl, fun V hV => by unfold execOp; have c := CK.out V hV; go_simp⟩) hS ?_
  simp only [List.getElem_toArray, List.getElem_cons_zero, List.getElem_cons_succ, Act.put, List.setIfInBounds_toArray, List.set_cons_zero, List.set_cons_succ]
  refine wpAnyH_ready (rs := [15]) (by kernel_rfl) (by simp) ?_
  refine AllReadyH.cons rfl (fun K' hK => ?_) AllReadyH.nil
  rw [if_pos (by kernel_rfl)]
  refine op_call 38 #[.agg #[.int .i64 m, .slice (some ⟨gb, ob, none⟩) bs.length cb, .slice (some ⟨gs, os, none⟩) L.length cs], .int .i64 (h : Int)] (by kernel_rfl) (.bool true) (HS1.out _) (fun W1 hb1 => hK.out _ _ (hS.trans (hb1.mono hS.size)) (fun hS => ?_))
  simp only [List.getElem_toArray, List.getElem_cons_zero, List.getElem_cons_succ, Act.put, List.setIfInBounds_toArray, List.set_cons_zero, List.set_cons_succ]
  refine wpAnyH_take (i := 16) (v := .bool (!true)) rfl (by kernel_rfl) (by kernel_rfl) (by kernel_rfl) (fun _ _ _ h => h) (.inl ⟨by kernel_rfl, fun V hV => by unfold execOp; go_simp⟩) hS ?_
  simp only [List.getElem_toArray, List.getElem_cons_zero, List.getElem_cons_succ, Act.put, List.setIfInBounds_toArray, List.set_cons_zero, List.set_cons_succ]
  refine wpAnyH_take (i := 17) (v := .bool (!true)) rfl (by kernel_rfl) (by kernel_rfl) (by kernel_rfl) (fun _ _ _ h => h) (.inl ⟨by kernel_rfl, fun V hV => by unfold execOp; go_simp⟩) hS ?_
  simp only [List.getElem_toArray, List.getElem_cons_zero, List.getElem_cons_succ, Act.put, List.setIfInBounds_toArray, List.set_cons_zero, List.set_cons_succ]
  refine wpAnyH_done (by kernel_rfl) ?_ _
  have HB1 : Hid (Below w.heap.size w W1) := hid (bel2 HB0.out hS)
  have HK1 : Hid (Blk W1 w.heap.size 41 (encP pz)) := hid (HK0.out.kept hS)
  have H01 := hid hS
  clear hS
  go_upto_region 3 with fail
  have hS2 : Below W0.heap.size W0 W1.drew := bel2 H01.out (below_drewN W1 1)
  refine wp_region_held_drew (S := fun V => V = W1.drew ∨ V = W1.drew.setRow w.heap.size (encP x)) (by kernel_rfl) (.inl rfl) (fun hS => ?_)
  change wpAnyH _ _ _ _ _ 11 #[false, false, false, false, false, false, false, false, false, false, false] _ _
  refine wpAnyH_take (i := 0) (v := .pointer (some ⟨b, 1, none⟩)) rfl (by kernel_rfl) (by kernel_rfl) (by kernel_rfl) (fun _ _ _ h => h) (.inl ⟨by kernel_rfl, fun V hV => by unfold execOp; go_simp; try (intro h; omega)⟩) hS ?_
  simp only [List.getElem_toArray, List.getElem_cons_zero, List.getElem_cons_succ, Act.put, List.setIfInBounds_toArray, List.set_cons_zero, List.set_cons_succ]
  refine wpAnyH_take (i := 1) (v := .slice (some ⟨gb, ob, none⟩) bs.length cb) rfl (by kernel_rfl) (by kernel_rfl) (by kernel_rfl) (fun _ _ _ h => h) (.inl ⟨by kernel_rfl, fun V hV => by unfold execOp; have c := D1.out V _ H01.out hV; go_simp⟩) hS ?_
  simp only [List.getElem_toArray, List.getElem_cons_zero, List.getElem_cons_succ, Act.put, List.setIfInBounds_toArray, List.set_cons_zero, List.set_cons_succ]
  refine wpAnyH_take (i := 2) (v := .pointer (some ⟨b, 2, none⟩)) rfl (by kernel_rfl) (by kernel_rfl) (by kernel_rfl) (fun _ _ _ h => h) (.inl ⟨by kernel_rfl, fun V hV => by unfold execOp; go_simp; try (intro h; omega)⟩) hS ?_
  simp only [List.getElem_toArray, List.getElem_cons_zero, List.getElem_cons_succ, Act.put, List.setIfInBounds_toArray, List.set_cons_zero, List.set_cons_succ]
  refine wpAnyH_take (i := 3) (v := .slice (some ⟨gs, os, none⟩) L.length cs) rfl (by kernel_rfl) (by kernel_rfl) (by kernel_rfl) (fun _ _ _ h => h) (.inl ⟨by kernel_rfl, fun V hV => by unfold execOp; have c := D2.out V _ H01.out hV; go_simp⟩) hS ?_
  simp only [List.getElem_toArray, List.getElem_cons_zero, List.getElem_cons_succ, Act.put, List.setIfInBounds_toArray, List.set_cons_zero, List.set_cons_succ]
  refine wpAnyH_take (i := 4) (v := .int .i64 (k : Int)) rfl (by kernel_rfl) (by kernel_rfl) (by kernel_rfl) (fun _ _ _ h => h) (.inl ⟨by kernel_rfl, fun V hV => by unfold execOp; go_simp; try (intro h; omega)⟩) hS ?_
  simp only [List.getElem_toArray, List.getElem_cons_zero, List.getElem_cons_succ, Act.put, List.setIfInBounds_toArray, List.set_cons_zero, List.set_cons_succ]
  refine wpAnyH_take (i := 5) (v := .pointer (some ⟨gs, os + k, none⟩)) rfl (by kernel_rfl) (by kernel_rfl) (by kernel_rfl) (fun _ _ _ h => h) (.inl ⟨by kernel_rfl, fun V hV => by unfold execOp; go_simp; try (intro h; omega)⟩) hS ?_
  simp only [List.getElem_toArray, List.getElem_cons_zero, List.getElem_cons_succ, Act.put, List.setIfInBounds_toArray, List.set_cons_zero, List.set_cons_succ]
  refine wpAnyH_take (i := 6) (v := .int .i64 (h : Int)) rfl (by kernel_rfl) (by kernel_rfl) (by kernel_rfl) (fun _ _ _ h => h) (.inl ⟨by kernel_rfl, fun V hV => by unfold execOp; have c := DK.out V _ H01.out hV; go_simp⟩) hS ?_
  simp only [List.getElem_toArray, List.getElem_cons_zero, List.getElem_cons_succ, Act.put, List.setIfInBounds_toArray, List.set_cons_zero, List.set_cons_succ]
  refine wpAnyH_take (i := 7) (v := .pointer (some ⟨gb, ob + h * 18, none⟩)) rfl (by kernel_rfl) (by kernel_rfl) (by kernel_rfl) (fun _ _ _ h => h) (.inl ⟨by kernel_rfl, fun V hV => by unfold execOp; go_simp; try (intro h; omega)⟩) hS ?_
  simp only [List.getElem_toArray, List.getElem_cons_zero, List.getElem_cons_succ, Act.put, List.setIfInBounds_toArray, List.set_cons_zero, List.set_cons_succ]
  refine wpAnyH_take (i := 8) (v := .agg (encP x)) rfl (by kernel_rfl) (by kernel_rfl) (by kernel_rfl) (fun _ _ _ h => h) (yieldsIf_load_mid (by kernel_rfl) 41 (.tmp 31) rfl gb (ob + h * 18) rfl (encPL x) _ (fun V hV => DX.out V _ H01.out hV) Tryz.underlying41 rfl (encPL_info0 x)) hS ?_
  simp only [List.getElem_toArray, List.getElem_cons_zero, List.getElem_cons_succ, Act.put, List.setIfInBounds_toArray, List.set_cons_zero, List.set_cons_succ]
  refine wpAnyH_ready (rs := [9]) (by kernel_rfl) (by simp) ?_
  refine AllReadyH.cons rfl (fun K' hK => ?_) AllReadyH.nil
  refine step_store 41 _ _ rfl w.heap.size (encP x) rfl rfl 41 (encP pz) (HK1.out.kept (below_drewN W1 1)) 18 Tryz.infoPoint HX.out.symm HZ.out HX1.out (by kernel_rfl) (hK.out _ _ (.inr rfl) (fun hS => ?_))
  simp only [List.getElem_toArray, List.getElem_cons_zero, List.getElem_cons_succ, Act.put, List.setIfInBounds_toArray, List.set_cons_zero, List.set_cons_succ]
  refine wpAnyH_take (i := 10) (v := .bool true) rfl (by kernel_rfl) (by kernel_rfl) (by kernel_rfl) (fun _ _ _ h => h) (.inl ⟨by kernel_rfl, fun V hV => by unfold execOp; go_simp; try (intro h; omega)⟩) hS ?_
  simp only [List.getElem_toArray, List.getElem_cons_zero, List.getElem_cons_succ, Act.put, List.setIfInBounds_toArray, List.set_cons_zero, List.set_cons_succ]
  refine wpAnyH_done (by kernel_rfl) ?_ _
  clear hS
  go_wp2
  rw [HO.out]
  refine retA2 rfl w.heap.size rfl 41 _ _ (Blk.row (HK1.out.kept (below_drewN W1 1)) _) Tryz.underlying41 rfl 18 Tryz.infoPoint HX.out.symm rfl _ rfl ⟨rfl, below_setRow (HB1.out.drew) (Nat.le_refl _) _⟩

end Go.Proofs.YtahconkjhneogaaGreatDoor

namespace Go.Proofs.YtahconkjhneogaaGreatDoor
open Go.RowKit Go.Lib

theorem own2_any (m : Int) (bs : List PS) (L : List Int) (ab as' : Option Addr) (cb cs b : Nat) (p : Int) (hL : (L.length : Int) = m) (hLm : L.length ≤ 100000) (hbm : bs.length ≤ 100000) (w : World) (hB : Blk w b 27 #[.int .i64 m, .slice ab bs.length cb, .slice as' L.length cs]) (hT : TabIn w.heap.size w ab as' bs L) :
    Calls Tryz.prog 61 #[.int .i64 p, .pointer (some ⟨b, 0, none⟩)] w fun e w' => e = .returned (ansO (ownT m bs L p)) ∧ Below w.heap.size w w' := by
  by_cases h0 : p < 0
  · exact own2_low m bs L ab as' cb cs b p hL hLm hbm w hB hT h0
  · by_cases h1 : m ≤ p
    · exact own2_high m bs L ab as' cb cs b p hL hLm hbm w hB hT (by omega) h1
    · obtain ⟨k, rfl⟩ : ∃ k : Nat, p = (k : Int) := ⟨p.toNat, by omega⟩
      by_cases h2 : 0 ≤ L.getD k 0 ∧ L.getD k 0 < bs.length
      · exact own2_is m bs L ab as' cb cs b k hL hLm hbm w hB hT (by omega) h2
      · exact own2_not m bs L ab as' cb cs b k hL hLm hbm w hB hT (by omega) h2
end Go.Proofs.YtahconkjhneogaaGreatDoor

namespace Go.Proofs.YtahconkjhneogaaGreatDoor
open Go.RowKit Go.Lib

set_option linter.unusedSimpArgs false in
set_option maxRecDepth 100000 in
set_option maxHeartbeats 4000000 in
theorem at_any (m : Int) (bs : List PS) (L : List Int) (ab as' : Option Addr) (cb cs : Nat) (p : Int) (hLm : L.length ≤ 100000) (hbm : bs.length ≤ 100000) (w : World) (hT : TabIn w.heap.size w ab as' bs L) :
    Calls Tryz.prog 16 #[.agg #[.int .i64 m, .slice ab bs.length cb, .slice as' L.length cs], .int .i64 p] w fun e w' => e = .returned (ansO (ownW m bs L p)) ∧ Below w.heap.size w w' := by
  obtain ⟨W0, hW0⟩ : ∃ W, W = w.alloc (.cells #[.int .i64 m, .slice ab bs.length cb, .slice as' L.length cs] 27) := ⟨_, rfl⟩
  obtain ⟨W1, hW1⟩ : ∃ W, W = W0.alloc (.cells (encP pz) 41) := ⟨_, rfl⟩
  have s0 : W0.heap.size = w.heap.size + 1 := by rw [hW0]; simp
  have b0 : Below w.heap.size w W0 := hW0 ▸ (Below.refl _ _).alloc (Nat.le_refl _) _
  have b1 : Below W0.heap.size W0 W1 := hW1 ▸ (Below.refl _ _).alloc (Nat.le_refl _) _
  have k0 : Blk W1 w.heap.size 27 #[.int .i64 m, .slice ab bs.length cb, .slice as' L.length cs] := (hW0 ▸ Blk.new w _ _ : Blk W0 w.heap.size 27 _).kept b1
  have k1 : Blk W1 (w.heap.size + 1) 41 (encP pz) := by rw [← s0]; exact (hW1 ▸ Blk.new W0 _ _ : Blk W1 W0.heap.size 41 _)
  have HW0 := hid hW0.symm
  have HW1 : Hid (W0.alloc (.cells #[.bool false, .int .u8 0, .int .u8 0, .int .u8 0, .int .u8 0, .int .u8 0, .int .u8 0, .int .u8 0, .int .u8 0, .int .u8 0, .int .u8 0, .int .u8 0, .int .u8 0, .int .u8 0, .int .u8 0, .int .u8 0, .int .u8 0, .int .i64 0] 41) = W1) := hid (by rw [hW1, encP_pz])
  have Hb1 := hid (bel2 b0 b1)
  have K1 := hid k1
  have HT1 := hid (hT.kept (bel2 b0 b1))
  have HZ := hid (encP_size pz)
  have c0 : W1.cell? ⟨w.heap.size, 0, none⟩ = some (.int .i64 m) := k0.cell 0
  have c1 : W1.cell? ⟨w.heap.size, 1, none⟩ = some (.slice ab bs.length cb) := k0.cell 1
  have c2 : W1.cell? ⟨w.heap.size, 2, none⟩ = some (.slice as' L.length cs) := k0.cell 2
  by_cases hw : wholeT m L = true
  · have HO := hid (fun W => owners_yes m ab as' bs.length cb cs L hw W)
    have hL : (L.length : Int) = m := by
      unfold wholeT at hw
      rw [Bool.and_eq_true, decide_eq_true_eq] at hw
      exact hw.2
    obtain ⟨y, hy⟩ : ∃ y, y = ownT m bs L p := ⟨_, rfl⟩
    have HY : Hid (ownW m bs L p = y) := hid (by unfold ownW; rw [if_pos hw, hy])
    have HF : Hid (∀ b W, Blk W b 27 #[.int .i64 m, .slice ab bs.length cb, .slice as' L.length cs] → TabIn W.heap.size W ab as' bs L → Calls Tryz.prog 61 #[.int .i64 p, .pointer (some ⟨b, 0, none⟩)] W fun e w' => e = .returned (.tuple #[.agg (encP (y.getD pz)), .bool y.isSome]) ∧ Below W.heap.size W w') := hid (fun b W h1 h2 => by
      rw [hy]
      exact own2_any m bs L ab as' cb cs b p hL hLm hbm W h1 h2)
    have HR : Hid (ansO y = .tuple #[.agg (encP (y.getD pz)), .bool y.isSome]) := hid rfl
    have HX := hid (encP_size (y.getD pz))
    have HX1 := hid (encP_one (y.getD pz))
    generalize y.getD pz = x at *
    generalize y.isSome = q at *
    clear hW0 hW1 s0 b0 b1 k0 k1 hT hL hy hw
    go_enter Tryz.func16, Tryz.ntmps16
    go_upto_region 1 with fail
    rw [HW0.out]
    rw [HW1.out]
    go_wp2_with fail
    refine (HO.out _).mono ?_
    rintro e w2 ⟨rfl, hB, hb⟩
    have HB2 := hid hB
    have Hb2 := hid hb
    clear hB hb c0 c1 c2
    go_wp2_with fail
    refine (HF.out _ _ HB2.out (HT1.out.kept Hb2.out)).mono ?_
    rintro e w3 ⟨rfl, hb⟩
    have K3 := hid ((K1.out.kept Hb2.out).kept hb)
    have Hb3 := hid (bel2 (bel2 Hb1.out Hb2.out) hb)
    clear hb
    go_wp2_with ((show wpList _ _ _ (⟨none, _, _, _, _, _⟩ :: _) _ _); go_must (refine wpl_store 41 (.tmp 4) (.tmp 10) rfl (w.heap.size + 1) (encP x) rfl rfl 41 _ K3.out 18 Tryz.infoPoint HX.out.symm HZ.out HX1.out rfl ?_))
    rw [HY.out, HR.out]
    refine retA2 rfl (w.heap.size + 1) rfl 41 _ _ (Blk.row K3.out _) Tryz.underlying41 rfl 18 Tryz.infoPoint HX.out.symm rfl _ rfl ⟨rfl, below_setRow Hb3.out (Nat.le_succ _) _⟩
  · have hw : wholeT m L = false := by simpa using hw
    have HO := hid (fun W => owners_no m ab as' bs.length cb cs L hw W)
    have HY : Hid (ownW m bs L p = none) := hid (by unfold ownW; rw [if_neg (by rw [hw]; decide)])
    have HF : Hid (∀ W, Calls Tryz.prog 60 #[.int .i64 p] W fun e w' => e = .returned (.tuple #[.agg (encP pz), .bool false]) ∧ Below W.heap.size W w') := hid (fun W => own1_any p W)
    have HX1 := hid (encP_one pz)
    clear hW0 hW1 s0 b0 b1 k0 k1 hT hw
    go_enter Tryz.func16, Tryz.ntmps16
    go_upto_region 1 with fail
    rw [HW0.out]
    rw [HW1.out]
    go_wp2_with fail
    refine (HO.out _).mono ?_
    rintro e w2 ⟨rfl, hb⟩
    have Hb2 := hid hb
    clear hb c0 c1 c2
    go_wp2_with fail
    refine (HF.out _).mono ?_
    rintro e w3 ⟨rfl, hb⟩
    have K3 := hid ((K1.out.kept Hb2.out).kept hb)
    have Hb3 := hid (bel2 (bel2 Hb1.out Hb2.out) hb)
    clear hb
    go_wp2_with ((show wpList _ _ _ (⟨none, _, _, _, _, _⟩ :: _) _ _); go_must (refine wpl_store 41 (.tmp 4) (.tmp 10) rfl (w.heap.size + 1) (encP pz) rfl rfl 41 _ K3.out 18 Tryz.infoPoint HZ.out.symm HZ.out HX1.out rfl ?_))
    rw [HY.out]
    refine retA2 rfl (w.heap.size + 1) rfl 41 _ _ (Blk.row K3.out _) Tryz.underlying41 rfl 18 Tryz.infoPoint HZ.out.symm rfl _ rfl ⟨rfl, below_setRow Hb3.out (Nat.le_succ _) _⟩

set_option linter.unusedSimpArgs false in
set_option maxRecDepth 100000 in
set_option maxHeartbeats 4000000 in
theorem eqI_any (xs ys : List Int) (ax ay : Option Addr) (cx cy : Nat) (hx : xs.length ≤ 100000) (w : World) (hX : IntsIn w.heap.size w ax xs) (hY : IntsIn w.heap.size w ay ys) :
    Calls Tryz.prog 35 #[.slice ax xs.length cx, .slice ay ys.length cy] w fun e w' => e = .returned (.bool (decide (xs = ys))) ∧ Below w.heap.size w w' := by
  have HX := hid hX
  have HY := hid hY
  obtain ⟨n, hn⟩ : ∃ n, n = xs.length := ⟨_, rfl⟩
  obtain ⟨k, hk⟩ : ∃ k, k = ys.length := ⟨_, rfl⟩
  rw [← hn] at hx
  rw [← hn, ← hk]
  have Hn := hid hn
  have Hk := hid hk
  by_cases hne : n = k
  · subst hne
    have HN : Hid (∀ j, j < n → xs.getD j 0 ≠ ys.getD j 0 → false = decide (xs = ys)) := hid (fun j _ h => by
      symm
      rw [decide_eq_false_iff_not]
      rintro rfl
      exact h rfl)
    have HA : Hid ((∀ j, j < n → xs.getD j 0 = ys.getD j 0) → true = decide (xs = ys)) := hid (fun h => by
      symm
      rw [decide_eq_true_eq]
      apply List.ext_getElem (by omega)
      intro j h1 h2
      have := h j (by omega)
      simpa [List.getD, h1, h2] using this)
    clear hn hk hX hY
    go_enter Tryz.func35, Tryz.ntmps35
    go_wp2
    go_loopg [13] n (fun g s13 wr => ∃ p : Nat, s13 = .int .i64 (p : Int) ∧ p ≤ n ∧ n - p ≤ g ∧ Hid (Below w.heap.size w wr) ∧ Hid (∀ j, j < p → xs.getD j 0 = ys.getD j 0))
    case atStart => exact ⟨0, rfl, by omega, by omega, hid (Below.refl _ _), hid (fun j h => by omega)⟩
    case round =>
      obtain ⟨p, rfl, hp, hgp, HB, HF⟩ := hrel
      by_cases hlt : p < n
      · obtain ⟨gx, ox, rfl, hgx, hcx⟩ := HX.out p (by have := Hn.out; omega)
        obtain ⟨gy, oy, rfl, hgy, hcy⟩ := HY.out p (by have := Hk.out; omega)
        have d1 : wr.cell? ⟨gx, ox + p, none⟩ = some (.int .i64 (xs.getD p 0)) := (HB.out.cell (p := ⟨gx, ox + p, none⟩) hgx).trans hcx
        have d2 : wr.cell? ⟨gy, oy + p, none⟩ = some (.int .i64 (ys.getD p 0)) := (HB.out.cell (p := ⟨gy, oy + p, none⟩) hgy).trans hcy
        have HNp := hid (HN.out p hlt)
        have HFp : Hid (xs.getD p 0 = ys.getD p 0 → ∀ j, j < p + 1 → xs.getD j 0 = ys.getD j 0) := hid (fun h j hj => by
          by_cases e : j = p
          · rw [e]; exact h
          · exact HF.out j (by omega))
        clear hcx hcy
        generalize xs.getD p 0 = u at *
        generalize ys.getD p 0 = v at *
        have d1' : wr.drew.cell? ⟨gx, ox + p, none⟩ = some (.int .i64 u) := d1
        have d2' : wr.drew.cell? ⟨gy, oy + p, none⟩ = some (.int .i64 v) := d2
        have HB2 := hid HB.out.drew
        by_cases huv : u = v
        · have q : (u != v) = false := by rw [huv]; simp
          have HF2 := hid (HFp.out huv)
          clear huv
          go_wp2
          go_quiet (fail)
          go_wp2
          go_roundg (n - (p + 1))
          case measure => omega
          case rel => exact ⟨p + 1, by go_num, by omega, Nat.le_refl _, by first | exact HB | exact HB2 | exact hid (HB.out.trans ((below_drewN _ _).mono HB.out.size)), HF2⟩
        · have q : (u != v) = true := by rw [bne_iff_ne]; exact huv
          have HR := hid (HNp.out huv)
          clear huv
          go_wp2
          go_quiet (fail)
          go_wp2
          go_ret
          exact ⟨ret_b rfl HR.out, by first | exact HB.out | exact HB2.out | exact HB.out.trans ((below_drewN _ _).mono HB.out.size)⟩
      · obtain rfl : p = n := by omega
        have HR := hid (HA.out HF.out)
        go_wp2
        go_ret
        exact ⟨ret_b rfl HR.out, HB.out⟩
  · have HR : Hid (false = decide (xs = ys)) := hid (by
      symm
      rw [decide_eq_false_iff_not]
      rintro rfl
      exact hne (hn.trans hk.symm))
    have q : ((n : Int) != (k : Int)) = true := by rw [bne_iff_ne]; omega
    clear hn hk hX hY
    go_enter Tryz.func35, Tryz.ntmps35
    go_wp2
    go_ret
    exact ⟨ret_b rfl HR.out, Below.refl _ _⟩
end Go.Proofs.YtahconkjhneogaaGreatDoor

namespace Go.Proofs.YtahconkjhneogaaGreatDoor
open Go.RowKit Go.Lib

set_option linter.unusedSimpArgs false in
set_option maxRecDepth 100000 in
set_option maxHeartbeats 4000000 in
theorem eqP_any (xs ys : List PS) (ax ay : Option Addr) (cx cy : Nat) (hx : xs.length ≤ 100000) (w : World) (hX : Elems encP 18 w.heap.size w ax xs) (hY : Elems encP 18 w.heap.size w ay ys) :
    Calls Tryz.prog 34 #[.slice ax xs.length cx, .slice ay ys.length cy] w fun e w' => e = .returned (.bool (decide (xs = ys))) ∧ Below w.heap.size w w' := by
  have HX := hid hX
  have HY := hid hY
  obtain ⟨n, hn⟩ : ∃ n, n = xs.length := ⟨_, rfl⟩
  obtain ⟨k, hk⟩ : ∃ k, k = ys.length := ⟨_, rfl⟩
  rw [← hn] at hx
  rw [← hn, ← hk]
  have Hn := hid hn
  have Hk := hid hk
  by_cases hne : n = k
  · subst hne
    have HN : Hid (∀ j (h1 : j < xs.length) (h2 : j < ys.length), xs[j] ≠ ys[j] → false = decide (xs = ys)) := hid (fun j h1 h2 h => by
      symm
      rw [decide_eq_false_iff_not]
      rintro rfl
      exact h rfl)
    have HA : Hid ((∀ j (h1 : j < xs.length) (h2 : j < ys.length), xs[j] = ys[j]) → true = decide (xs = ys)) := hid (fun h => by
      symm
      rw [decide_eq_true_eq]
      exact List.ext_getElem (by omega) h)
    clear hn hk hX hY
    go_enter Tryz.func34, Tryz.ntmps34
    go_wp2
    go_loopg [13] n (fun g s13 wr => ∃ p : Nat, s13 = .int .i64 (p : Int) ∧ p ≤ n ∧ n - p ≤ g ∧ Hid (Below w.heap.size w wr) ∧ Hid (∀ j (h1 : j < xs.length) (h2 : j < ys.length), j < p → xs[j] = ys[j]))
    case atStart => exact ⟨0, rfl, by omega, by omega, hid (Below.refl _ _), hid (fun j _ _ h => by omega)⟩
    case round =>
      obtain ⟨p, rfl, hp, hgp, HB, HF⟩ := hrel
      by_cases hlt : p < n
      · have hpx : p < xs.length := by have := Hn.out; omega
        have hpy : p < ys.length := by have := Hk.out; omega
        obtain ⟨gx, ox, rfl, hgx, hcx⟩ := HX.out p hpx
        obtain ⟨gy, oy, rfl, hgy, hcy⟩ := HY.out p hpy
        obtain ⟨x, ex⟩ : ∃ x, x = xs[p] := ⟨_, rfl⟩
        obtain ⟨y, ey⟩ : ∃ y, y = ys[p] := ⟨_, rfl⟩
        have HXp : Hid (wr.drew.rangeAt gx (ox + p * 18) (encPL x)) := hid (ex ▸ rangeAt_below HB.out.drew hgx hcx)
        have HYp : Hid (wr.drew.rangeAt gy (oy + p * 18) (encPL y)) := hid (ey ▸ rangeAt_below HB.out.drew hgy hcy)
        have HNp : Hid (x ≠ y → false = decide (xs = ys)) := hid (fun h => HN.out p hpx hpy (by rw [← ex, ← ey]; exact h))
        have HFp : Hid (x = y → ∀ j (h1 : j < xs.length) (h2 : j < ys.length), j < p + 1 → xs[j] = ys[j]) := hid (fun h j h1 h2 hj => by
          by_cases e : j = p
          · subst e; rw [← ex, ← ey]; exact h
          · exact HF.out j h1 h2 (by omega))
        have HB2 := hid HB.out.drew
        clear hcx hcy ex ey hpx hpy
        by_cases hxy : x = y
        · have HF2 := hid (HFp.out hxy)
          have heq := neq_pt x y
          rw [decide_eq_true hxy] at heq
          clear hxy
          go_wp2_with fail
          refine wp_region_held_drew (S := fun V => V = wr.drew) (by kernel_rfl) rfl (fun hS => ?_)
          change wpAnyH _ _ _ _ _ 9 #[false, false, false, false, false, false, false, false, false] _ _
          refine wpAnyH_take (i := 0) (v := .slice (some ⟨gx, ox, none⟩) n cx) rfl (by kernel_rfl) (by kernel_rfl) (by kernel_rfl) (fun _ _ _ h => h) (.inl ⟨by kernel_rfl, fun V hV => by unfold execOp; go_simp; try (intro h; omega)⟩) hS ?_
          simp only [List.getElem_toArray, List.getElem_cons_zero, List.getElem_cons_succ, Act.put, List.setIfInBounds_toArray, List.set_cons_zero, List.set_cons_succ]
          refine wpAnyH_take (i := 1) (v := .int .i64 (p : Int)) rfl (by kernel_rfl) (by kernel_rfl) (by kernel_rfl) (fun _ _ _ h => h) (.inl ⟨by kernel_rfl, fun V hV => by unfold execOp; go_simp; try (intro h; omega)⟩) hS ?_
          simp only [List.getElem_toArray, List.getElem_cons_zero, List.getElem_cons_succ, Act.put, List.setIfInBounds_toArray, List.set_cons_zero, List.set_cons_succ]
          refine wpAnyH_take (i := 2) (v := .pointer (some ⟨gx, ox + p * 18, none⟩)) rfl (by kernel_rfl) (by kernel_rfl) (by kernel_rfl) (fun _ _ _ h => h) (.inl ⟨by kernel_rfl, fun V hV => by unfold execOp; go_simp; try (intro h; omega)⟩) hS ?_
          simp only [List.getElem_toArray, List.getElem_cons_zero, List.getElem_cons_succ, Act.put, List.setIfInBounds_toArray, List.set_cons_zero, List.set_cons_succ]
          refine wpAnyH_take (i := 3) (v := .agg (encP x)) rfl (by kernel_rfl) (by kernel_rfl) (by kernel_rfl) (fun _ _ _ h => h) (yieldsIf_load_mid (by kernel_rfl) 41 (.tmp 18) rfl gx (ox + p * 18) rfl (encPL x) _ (fun V hV => hV ▸ HXp.out) Tryz.underlying41 rfl (encPL_info0 x)) hS ?_
          simp only [List.getElem_toArray, List.getElem_cons_zero, List.getElem_cons_succ, Act.put, List.setIfInBounds_toArray, List.set_cons_zero, List.set_cons_succ]
          refine wpAnyH_take (i := 4) (v := .slice (some ⟨gy, oy, none⟩) n cy) rfl (by kernel_rfl) (by kernel_rfl) (by kernel_rfl) (fun _ _ _ h => h) (.inl ⟨by kernel_rfl, fun V hV => by unfold execOp; go_simp; try (intro h; omega)⟩) hS ?_
          simp only [List.getElem_toArray, List.getElem_cons_zero, List.getElem_cons_succ, Act.put, List.setIfInBounds_toArray, List.set_cons_zero, List.set_cons_succ]
          refine wpAnyH_take (i := 5) (v := .int .i64 (p : Int)) rfl (by kernel_rfl) (by kernel_rfl) (by kernel_rfl) (fun _ _ _ h => h) (.inl ⟨by kernel_rfl, fun V hV => by unfold execOp; go_simp; try (intro h; omega)⟩) hS ?_
          simp only [List.getElem_toArray, List.getElem_cons_zero, List.getElem_cons_succ, Act.put, List.setIfInBounds_toArray, List.set_cons_zero, List.set_cons_succ]
          refine wpAnyH_take (i := 6) (v := .pointer (some ⟨gy, oy + p * 18, none⟩)) rfl (by kernel_rfl) (by kernel_rfl) (by kernel_rfl) (fun _ _ _ h => h) (.inl ⟨by kernel_rfl, fun V hV => by unfold execOp; go_simp; try (intro h; omega)⟩) hS ?_
          simp only [List.getElem_toArray, List.getElem_cons_zero, List.getElem_cons_succ, Act.put, List.setIfInBounds_toArray, List.set_cons_zero, List.set_cons_succ]
          refine wpAnyH_take (i := 7) (v := .agg (encP y)) rfl (by kernel_rfl) (by kernel_rfl) (by kernel_rfl) (fun _ _ _ h => h) (yieldsIf_load_mid (by kernel_rfl) 41 (.tmp 22) rfl gy (oy + p * 18) rfl (encPL y) _ (fun V hV => hV ▸ HYp.out) Tryz.underlying41 rfl (encPL_info0 y)) hS ?_
          simp only [List.getElem_toArray, List.getElem_cons_zero, List.getElem_cons_succ, Act.put, List.setIfInBounds_toArray, List.set_cons_zero, List.set_cons_succ]
          refine wpAnyH_take (i := 8) (v := .bool false) rfl (by kernel_rfl) (by kernel_rfl) (by kernel_rfl) (fun _ _ _ h => h) (.inl ⟨by kernel_rfl, fun V hV => by unfold execOp; simp [go_sem, heq]⟩) hS ?_
          simp only [List.getElem_toArray, List.getElem_cons_zero, List.getElem_cons_succ, Act.put, List.setIfInBounds_toArray, List.set_cons_zero, List.set_cons_succ]
          refine wpAnyH_done (by kernel_rfl) ?_ _
          clear hS
          clear heq
          go_wp2
          go_roundg (n - (p + 1))
          case measure => omega
          case rel => exact ⟨p + 1, by go_num, by omega, Nat.le_refl _, HB2, HF2⟩
        · have HR := hid (HNp.out hxy)
          have heq := neq_pt x y
          rw [decide_eq_false hxy] at heq
          clear hxy
          go_wp2_with fail
          refine wp_region_held_drew (S := fun V => V = wr.drew) (by kernel_rfl) rfl (fun hS => ?_)
          change wpAnyH _ _ _ _ _ 9 #[false, false, false, false, false, false, false, false, false] _ _
          refine wpAnyH_take (i := 0) (v := .slice (some ⟨gx, ox, none⟩) n cx) rfl (by kernel_rfl) (by kernel_rfl) (by kernel_rfl) (fun _ _ _ h => h) (.inl ⟨by kernel_rfl, fun V hV => by unfold execOp; go_simp; try (intro h; omega)⟩) hS ?_
          simp only [List.getElem_toArray, List.getElem_cons_zero, List.getElem_cons_succ, Act.put, List.setIfInBounds_toArray, List.set_cons_zero, List.set_cons_succ]
          refine wpAnyH_take (i := 1) (v := .int .i64 (p : Int)) rfl (by kernel_rfl) (by kernel_rfl) (by kernel_rfl) (fun _ _ _ h => h) (.inl ⟨by kernel_rfl, fun V hV => by unfold execOp; go_simp; try (intro h; omega)⟩) hS ?_
          simp only [List.getElem_toArray, List.getElem_cons_zero, List.getElem_cons_succ, Act.put, List.setIfInBounds_toArray, List.set_cons_zero, List.set_cons_succ]
          refine wpAnyH_take (i := 2) (v := .pointer (some ⟨gx, ox + p * 18, none⟩)) rfl (by kernel_rfl) (by kernel_rfl) (by kernel_rfl) (fun _ _ _ h => h) (.inl ⟨by kernel_rfl, fun V hV => by unfold execOp; go_simp; try (intro h; omega)⟩) hS ?_
          simp only [List.getElem_toArray, List.getElem_cons_zero, List.getElem_cons_succ, Act.put, List.setIfInBounds_toArray, List.set_cons_zero, List.set_cons_succ]
          refine wpAnyH_take (i := 3) (v := .agg (encP x)) rfl (by kernel_rfl) (by kernel_rfl) (by kernel_rfl) (fun _ _ _ h => h) (yieldsIf_load_mid (by kernel_rfl) 41 (.tmp 18) rfl gx (ox + p * 18) rfl (encPL x) _ (fun V hV => hV ▸ HXp.out) Tryz.underlying41 rfl (encPL_info0 x)) hS ?_
          simp only [List.getElem_toArray, List.getElem_cons_zero, List.getElem_cons_succ, Act.put, List.setIfInBounds_toArray, List.set_cons_zero, List.set_cons_succ]
          refine wpAnyH_take (i := 4) (v := .slice (some ⟨gy, oy, none⟩) n cy) rfl (by kernel_rfl) (by kernel_rfl) (by kernel_rfl) (fun _ _ _ h => h) (.inl ⟨by kernel_rfl, fun V hV => by unfold execOp; go_simp; try (intro h; omega)⟩) hS ?_
          simp only [List.getElem_toArray, List.getElem_cons_zero, List.getElem_cons_succ, Act.put, List.setIfInBounds_toArray, List.set_cons_zero, List.set_cons_succ]
          refine wpAnyH_take (i := 5) (v := .int .i64 (p : Int)) rfl (by kernel_rfl) (by kernel_rfl) (by kernel_rfl) (fun _ _ _ h => h) (.inl ⟨by kernel_rfl, fun V hV => by unfold execOp; go_simp; try (intro h; omega)⟩) hS ?_
          simp only [List.getElem_toArray, List.getElem_cons_zero, List.getElem_cons_succ, Act.put, List.setIfInBounds_toArray, List.set_cons_zero, List.set_cons_succ]
          refine wpAnyH_take (i := 6) (v := .pointer (some ⟨gy, oy + p * 18, none⟩)) rfl (by kernel_rfl) (by kernel_rfl) (by kernel_rfl) (fun _ _ _ h => h) (.inl ⟨by kernel_rfl, fun V hV => by unfold execOp; go_simp; try (intro h; omega)⟩) hS ?_
          simp only [List.getElem_toArray, List.getElem_cons_zero, List.getElem_cons_succ, Act.put, List.setIfInBounds_toArray, List.set_cons_zero, List.set_cons_succ]
          refine wpAnyH_take (i := 7) (v := .agg (encP y)) rfl (by kernel_rfl) (by kernel_rfl) (by kernel_rfl) (fun _ _ _ h => h) (yieldsIf_load_mid (by kernel_rfl) 41 (.tmp 22) rfl gy (oy + p * 18) rfl (encPL y) _ (fun V hV => hV ▸ HYp.out) Tryz.underlying41 rfl (encPL_info0 y)) hS ?_
          simp only [List.getElem_toArray, List.getElem_cons_zero, List.getElem_cons_succ, Act.put, List.setIfInBounds_toArray, List.set_cons_zero, List.set_cons_succ]
          refine wpAnyH_take (i := 8) (v := .bool true) rfl (by kernel_rfl) (by kernel_rfl) (by kernel_rfl) (fun _ _ _ h => h) (.inl ⟨by kernel_rfl, fun V hV => by unfold execOp; simp [go_sem, heq]⟩) hS ?_
          simp only [List.getElem_toArray, List.getElem_cons_zero, List.getElem_cons_succ, Act.put, List.setIfInBounds_toArray, List.set_cons_zero, List.set_cons_succ]
          refine wpAnyH_done (by kernel_rfl) ?_ _
          clear hS
          clear heq
          go_wp2
          go_ret
          exact ⟨ret_b rfl HR.out, HB2.out⟩
      · obtain rfl : p = n := by omega
        have HR := hid (HA.out (fun j h1 h2 => HF.out j h1 h2 (by have := Hn.out; omega)))
        go_wp2
        go_ret
        exact ⟨ret_b rfl HR.out, HB.out⟩
  · have HR : Hid (false = decide (xs = ys)) := hid (by
      symm
      rw [decide_eq_false_iff_not]
      rintro rfl
      exact hne (hn.trans hk.symm))
    have q : ((n : Int) != (k : Int)) = true := by rw [bne_iff_ne]; omega
    clear hn hk hX hY
    go_enter Tryz.func34, Tryz.ntmps34
    go_wp2
    go_ret
    exact ⟨ret_b rfl HR.out, Below.refl _ _⟩

/-- Are two tables the same? -/
def sameT (m m' : Int) (bs bs' : List PS) (L L' : List Int) : Bool := decide (m = m') && decide (bs = bs') && decide (L = L')

set_option linter.unusedSimpArgs false in
set_option maxRecDepth 100000 in
set_option maxHeartbeats 4000000 in
theorem same_tabs (m m' : Int) (bs bs' : List PS) (L L' : List Int) (ab ab' as' as2 : Option Addr) (cb cb' cs cs' : Nat) (hL : L.length ≤ 100000) (hb : bs.length ≤ 100000) (w : World) (hT : TabIn w.heap.size w ab as' bs L) (hT' : TabIn w.heap.size w ab' as2 bs' L') :
    Calls Tryz.prog 14 #[.agg #[.int .i64 m, .slice ab bs.length cb, .slice as' L.length cs], .agg #[.int .i64 m', .slice ab' bs'.length cb', .slice as2 L'.length cs']] w fun e w' => e = .returned (.bool (sameT m m' bs bs' L L')) ∧ Below w.heap.size w w' := by
  obtain ⟨W0, hW0⟩ : ∃ W, W = w.alloc (.cells #[.int .i64 m, .slice ab bs.length cb, .slice as' L.length cs] 27) := ⟨_, rfl⟩
  obtain ⟨W1, hW1⟩ : ∃ W, W = W0.alloc (.cells #[.int .i64 m', .slice ab' bs'.length cb', .slice as2 L'.length cs'] 27) := ⟨_, rfl⟩
  have s0 : W0.heap.size = w.heap.size + 1 := by rw [hW0]; simp
  have b0 : Below w.heap.size w W0 := hW0 ▸ (Below.refl _ _).alloc (Nat.le_refl _) _
  have b1 : Below W0.heap.size W0 W1 := hW1 ▸ (Below.refl _ _).alloc (Nat.le_refl _) _
  have k0 : Blk W1 w.heap.size 27 #[.int .i64 m, .slice ab bs.length cb, .slice as' L.length cs] := (hW0 ▸ Blk.new w _ _ : Blk W0 w.heap.size 27 _).kept b1
  have k1 : Blk W1 (w.heap.size + 1) 27 #[.int .i64 m', .slice ab' bs'.length cb', .slice as2 L'.length cs'] := by rw [← s0]; exact (hW1 ▸ Blk.new W0 _ _ : Blk W1 W0.heap.size 27 _)
  have HW0 := hid hW0.symm
  have HW1 := hid hW1.symm
  have Hb1 := hid (bel2 b0 b1)
  have K0 := hid k0
  have K1 := hid k1
  have HT1 := hid (hT.kept (bel2 b0 b1))
  have HT2 := hid (hT'.kept (bel2 b0 b1))
  have HE := hid (fun W (h : Below W1.heap.size W1 W) => eqP_any bs bs' ab ab' cb cb' hb W (HT1.out.kept h).els (HT2.out.kept h).els)
  have HI := hid (fun W (h : Below W1.heap.size W1 W) => eqI_any L L' as' as2 cs cs' hL W (HT1.out.kept h).ints (HT2.out.kept h).ints)
  have HR : Hid (sameT m m' bs bs' L L' = (decide (m = m') && decide (bs = bs') && decide (L = L'))) := hid rfl
  generalize sameT m m' bs bs' L L' = R at *
  generalize decide (bs = bs') = q1 at *
  generalize decide (L = L') = q2 at *
  have c0 : W1.cell? ⟨w.heap.size, 0, none⟩ = some (.int .i64 m) := k0.cell 0
  have d0 : W1.cell? ⟨w.heap.size + 1, 0, none⟩ = some (.int .i64 m') := k1.cell 0
  have c1 : W1.cell? ⟨w.heap.size, 1, none⟩ = some (.slice ab bs.length cb) := k0.cell 1
  have d1 : W1.cell? ⟨w.heap.size + 1, 1, none⟩ = some (.slice ab' bs'.length cb') := k1.cell 1
  clear hW0 hW1 s0 b0 b1 k0 k1 hT hT' hL hb
  by_cases hm : m = m'
  · have em : (m == m') = true := by simp [hm]
    have HR1 : Hid (R = (q1 && q2)) := hid (by rw [HR.out, decide_eq_true hm, Bool.true_and])
    clear hm HR
    cases q1
    · go_enter Tryz.func14, Tryz.ntmps14
      go_upto_region 1 with fail
      rw [HW0.out]
      rw [HW1.out]
      go_wp2_with fail
      refine (HE.out _ (Below.refl _ _)).mono ?_
      rintro e w2 ⟨rfl, hb⟩
      have Hb2 := hid (bel2 Hb1.out hb)
      clear hb
      go_wp2
      go_ret
      exact ⟨ret_b rfl (by rw [HR1.out]; rfl), Hb2.out⟩
    · go_enter Tryz.func14, Tryz.ntmps14
      go_upto_region 1 with fail
      rw [HW0.out]
      rw [HW1.out]
      go_wp2_with fail
      refine (HE.out _ (Below.refl _ _)).mono ?_
      rintro e w2 ⟨rfl, hb⟩
      have Hb2 := hid (bel2 Hb1.out hb)
      have HBB := hid hb
      have c2 : w2.cell? ⟨w.heap.size, 2, none⟩ = some (.slice as' L.length cs) := (K0.out.kept hb).cell 2
      have d2 : w2.cell? ⟨w.heap.size + 1, 2, none⟩ = some (.slice as2 L'.length cs') := (K1.out.kept hb).cell 2
      clear hb
      go_wp2_with fail
      refine (HI.out _ HBB.out).mono ?_
      rintro e w3 ⟨rfl, hb⟩
      have Hb3 := hid (bel2 Hb2.out hb)
      clear hb
      go_wp2
      go_ret
      exact ⟨ret_b rfl (by rw [HR1.out, Bool.true_and]), Hb3.out⟩
  · have em : (m == m') = false := by simp [hm]
    have HR1 : Hid (R = false) := hid (by rw [HR.out, decide_eq_false hm, Bool.false_and, Bool.false_and])
    clear hm HR
    go_enter Tryz.func14, Tryz.ntmps14
    go_upto_region 1 with fail
    rw [HW0.out]
    rw [HW1.out]
    go_wp2
    go_ret
    exact ⟨ret_b rfl (by rw [HR1.out]), Hb1.out⟩
end Go.Proofs.YtahconkjhneogaaGreatDoor

namespace Go.Proofs.YtahconkjhneogaaGreatDoor
open Go.RowKit Go.Lib

/-- How many places each backend has. -/
def countsT (n : Nat) (L : List Int) : List Int := (List.range n).map fun i : Nat => ((L.count (i : Int) : Nat) : Int)
theorem countsT_length (n : Nat) (L : List Int) : (countsT n L).length = n := by simp [countsT]
theorem countsT_get (n : Nat) (L : List Int) {i : Nat} (h : i < n) : (countsT n L).getD i 0 = ((L.count (i : Int) : Nat) : Int) := by
  simp [countsT, List.getD, h]
theorem countsT_nil (n : Nat) : countsT n [] = List.replicate n 0 := by
  apply List.ext_getElem
  · simp [countsT]
  · intro i h1 h2
    simp [countsT]
theorem countsT_in (n : Nat) (L : List Int) (k : Nat) (h : k < n) : countsT n (L ++ [(k : Int)]) = (countsT n L).set k ((countsT n L).getD k 0 + 1) := by
  obtain ⟨v, hv⟩ : ∃ v, v = (countsT n L).getD k 0 := ⟨_, rfl⟩
  rw [← hv]
  rw [countsT_get n L h] at hv
  subst hv
  apply List.ext_getElem
  · simp [countsT]
  · intro i h1 h2
    have hi : i < n := by simpa [countsT] using h1
    rw [List.getElem_set]
    simp only [countsT, List.getElem_map, List.getElem_range, List.count_append, List.count_singleton]
    by_cases e : k = i
    · subst e
      simp
    · rw [if_neg e]
      have : ¬ ((k : Int) == (i : Int)) = true := by simp; omega
      simp [this]
theorem countsT_out (n : Nat) (L : List Int) (x : Int) (h : ¬ (0 ≤ x ∧ x < n)) : countsT n (L ++ [x]) = countsT n L := by
  apply List.ext_getElem
  · simp [countsT]
  · intro i h1 h2
    have hi : i < n := by simpa [countsT] using h1
    simp only [countsT, List.getElem_map, List.getElem_range, List.count_append, List.count_singleton]
    have : ¬ (x == (i : Int)) = true := by simp; omega
    simp [this]
theorem slot_made (w : World) (n : Nat) : SlotB (w.alloc (.cells (madeCells #[.int .i64 0] n) 3)) w.heap.size (List.replicate n 0) := by
  obtain ⟨c, h1, h2, h3⟩ := World.rowIs_made w (.int .i64 0) n 3
  unfold SlotB Blk
  rw [h1]
  congr 2
  apply Array.ext_getElem?
  intro i
  rw [show ((List.replicate n (0 : Int)).map (Value.int .i64)).toArray[i]? = (List.replicate n (Value.int .i64 0))[i]? by rw [List.getElem?_toArray, List.map_replicate], List.getElem?_replicate]
  by_cases hi : i < n
  · rw [h3 i hi, if_pos hi]
  · rw [if_neg hi, Array.getElem?_eq_none (by omega)]

set_option linter.unusedSimpArgs false in
set_option maxRecDepth 100000 in
set_option maxHeartbeats 4000000 in
theorem counts_any (m : Int) (bs : List PS) (L : List Int) (ab as' : Option Addr) (cb cs : Nat) (hLm : L.length ≤ 100000) (hbm : bs.length ≤ 100000) (w : World) (hT : TabIn w.heap.size w ab as' bs L) :
    Calls Tryz.prog 18 #[.agg #[.int .i64 m, .slice ab bs.length cb, .slice as' L.length cs]] w fun e w' => ∃ C, e = .returned (.slice (some ⟨C, 0, none⟩) bs.length bs.length) ∧ w.heap.size ≤ C ∧ SlotB w' C (countsT bs.length L) ∧ Below w.heap.size w w' := by
  obtain ⟨W0, hW0⟩ : ∃ W, W = w.alloc (.cells #[.int .i64 m, .slice ab bs.length cb, .slice as' L.length cs] 27) := ⟨_, rfl⟩
  have s0 : W0.heap.size = w.heap.size + 1 := by rw [hW0]; simp
  have b0 : Below w.heap.size w W0 := hW0 ▸ (Below.refl _ _).alloc (Nat.le_refl _) _
  have k0 : Blk W0 w.heap.size 27 #[.int .i64 m, .slice ab bs.length cb, .slice as' L.length cs] := hW0 ▸ Blk.new w _ _
  obtain ⟨n, hn⟩ : ∃ n, n = bs.length := ⟨_, rfl⟩
  obtain ⟨l, hl⟩ : ∃ l, l = L.length := ⟨_, rfl⟩
  have HH := hid (fun (who : Int) W => has_any m who ab as' bs.length cb L.length cs W)
  rw [← hn] at hW0 k0 HH hbm ⊢
  rw [← hl] at hW0 k0 HH hLm ⊢
  obtain ⟨W1, hW1⟩ : ∃ W, W = W0.alloc (.cells (madeCells #[.int .i64 0] n) 3) := ⟨_, rfl⟩
  have b1 : Below W0.heap.size W0 W1 := hW1 ▸ (Below.refl _ _).alloc (Nat.le_refl _) _
  have hmk := run_make_row' (P := Tryz.prog) 25 3 (.int .i64 0) 8 Tryz.underlying25 Tryz.infoIntV rfl .i64 .i64 n (by omega) (by omega)
  have HW0 := hid hW0.symm
  have HW1 : Hid (W0.alloc (.cells (madeCells #[.int .i64 0] n) 3) = W1) := hid hW1.symm
  have HS0 : Hid (w.heap.size + 1 = W0.heap.size) := hid s0.symm
  have HB1 := hid (bel2 b0 b1)
  have HK1 := hid (k0.kept b1)
  have HT1 := hid (hT.ints.below (bel2 b0 b1))
  have HC1 : Hid (SlotB W1 W0.heap.size (countsT n (L.take 0))) := hid (by rw [List.take_zero, countsT_nil, hW1]; exact slot_made W0 n)
  have Hl := hid hl
  have c1 : W0.cell? ⟨w.heap.size, 1, none⟩ = some (.slice ab n cb) := k0.cell 1
  have c2 : W1.cell? ⟨w.heap.size, 2, none⟩ = some (.slice as' l cs) := HK1.out.cell 2
  clear hW0 hW1 s0 b0 b1 k0 hT hn hl
  go_enter Tryz.func18, Tryz.ntmps18
  go_upto_region 1 with fail
  rw [HW0.out]
  go_upto_region 2 with fail
  rw [HW1.out]
  go_wp2
  clear hmk
  generalize W0.heap.size = C at *
  go_loopg [13] l (fun g s13 wr => ∃ p : Nat, s13 = .int .i64 (p : Int) ∧ p ≤ l ∧ l - p ≤ g ∧ Hid (W1.grownBy wr (some C)) ∧ Hid (SlotB wr C (countsT n (L.take p))))
  case atStart => exact ⟨0, rfl, by omega, by omega, hid (World.grownBy.refl _ _), HC1⟩
  case round =>
    obtain ⟨p, rfl, hp, hgp, HG, HC⟩ := hrel
    have hC := HS0.out
    have k2 := HK1.out.grown HG.out (fun e => by have := Option.some.inj e; omega)
    by_cases hlt : p < l
    · have hpl : p < L.length := by have := Hl.out; omega
      obtain ⟨g, o, rfl, hg, hc⟩ := HT1.out p hpl
      obtain ⟨x, hx⟩ : ∃ x, x = L.getD p 0 := ⟨_, rfl⟩
      have d0 : wr.cell? ⟨g, o + p, none⟩ = some (.int .i64 x) := by
        rw [hx, ← hc]
        exact World.cell?_of_block (a := ⟨g, o + p, none⟩) (HG.out.block g (by have := HB1.out.size; omega) (fun e => by have := Option.some.inj e; omega))
      have d1 : wr.cell? ⟨w.heap.size, 0, none⟩ = some (.int .i64 m) := k2.cell 0
      have d2 : wr.cell? ⟨w.heap.size, 1, none⟩ = some (.slice ab n cb) := k2.cell 1
      have d3 : wr.cell? ⟨w.heap.size, 2, none⟩ = some (.slice (some ⟨g, o, none⟩) l cs) := k2.cell 2
      have HT : Hid (L.take (p + 1) = L.take p ++ [x]) := hid (by
        rw [hx, List.getD_eq_getElem?_getD, List.getElem?_eq_getElem hpl]
        exact List.take_succ_eq_append_getElem hpl)
      have HHx := hid (HH.out x wr)
      clear hc hx hpl hg c1 c2
      by_cases hin : 0 ≤ x ∧ x < n
      · obtain ⟨k, rfl⟩ : ∃ k : Nat, x = (k : Int) := ⟨x.toNat, by omega⟩
        have hk : k < n := by omega
        have hq : (decide (0 ≤ (k : Int)) && decide ((k : Int) < (n : Int))) = true := by rw [Bool.and_eq_true, decide_eq_true_eq, decide_eq_true_eq]; omega
        rw [hq] at HHx
        obtain ⟨v, hv⟩ : ∃ v, v = (countsT n (L.take p)).getD k 0 := ⟨_, rfl⟩
        have hv0 : 0 ≤ v ∧ v ≤ 100000 := by
          rw [hv, countsT_get n _ hk]
          have h1 := List.count_le_length (a := (k : Int)) (l := L.take p)
          rw [List.length_take] at h1
          omega
        have HE : Hid (countsT n (L.take (p + 1)) = (countsT n (L.take p)).set k (v + 1)) := hid (by rw [HT.out, countsT_in n _ k hk, hv])
        have HV := hid hv
        clear hq hv
        go_wp2_with fail
        refine HHx.out.mono ?_
        rintro e w2 ⟨rfl, hb⟩
        have hc2 : SlotB w2 C (countsT n (L.take p)) := Blk.kept HC.out hb
        have e1 : w2.cell? ⟨C, k, none⟩ = some (.int .i64 v) := by rw [HV.out]; exact hc2.cell (by rw [countsT_length]; exact hk)
        have e2 : w2.frozen? ⟨C, k, none⟩ = false := Blk.frozen hc2 k
        have HC2 : Hid (SlotB (w2.setCell ⟨C, k, none⟩ (.int .i64 (v + 1))) C (countsT n (L.take (p + 1)))) := hid (by rw [HE.out]; exact hc2.set k (v + 1))
        have HG2 : Hid (W1.grownBy (w2.setCell ⟨C, k, none⟩ (.int .i64 (v + 1))) (some C)) := hid (grown_trans (grown_below HG.out hb) (grown_set w2 C k _))
        clear hb hc2 k2 d0 d1 d2 d3
        go_wp2
        go_roundg (l - (p + 1))
        case measure => omega
        case rel => exact ⟨p + 1, by go_num, by omega, Nat.le_refl _, HG2, HC2⟩
      · have hq : (decide (0 ≤ x) && decide (x < (n : Int))) = false := by
          rw [Bool.and_eq_false_iff, decide_eq_false_iff_not, decide_eq_false_iff_not]
          omega
        rw [hq] at HHx
        have HE : Hid (countsT n (L.take (p + 1)) = countsT n (L.take p)) := hid (by rw [HT.out, countsT_out n _ x hin])
        clear hq hin
        go_wp2_with fail
        refine HHx.out.mono ?_
        rintro e w2 ⟨rfl, hb⟩
        have HC2 : Hid (SlotB w2 C (countsT n (L.take (p + 1)))) := hid (by rw [HE.out]; exact Blk.kept HC.out hb)
        have HG2 : Hid (W1.grownBy w2 (some C)) := hid (grown_below HG.out hb)
        clear hb k2 d0 d1 d2 d3
        go_wp2
        go_roundg (l - (p + 1))
        case measure => omega
        case rel => exact ⟨p + 1, by go_num, by omega, Nat.le_refl _, HG2, HC2⟩
    · obtain rfl : p = l := by omega
      have F : Hid (SlotB wr C (countsT n L)) := hid (by
        have := HC.out
        rwa [List.take_of_length_le (by have := Hl.out; omega)] at this)
      have FB : Hid (Below w.heap.size w wr) := hid (HB1.out.grown HG.out HB1.out.size (fun i hi => by cases hi; omega))
      clear k2 c1 c2
      go_wp2
      go_ret
      exact ⟨C, rfl, by omega, F.out, FB.out⟩
end Go.Proofs.YtahconkjhneogaaGreatDoor
