/-
  Frames as of the document.
-/
import Derived.Test.YtkpjdjenlmodnaaDoorEal
import Derived.Deep.MidRow
import Derived.Deep.LoopGhost
import Derived.Deep.DeepMust
namespace Go.Proofs.YtkpjdjenlmodnaaDoor
open Go.RowKit Go.Lib

section
variable {P : Program}
theorem wpl_loadMid {ops : Array Oper} {rest : List Oper} {o : Oper} {a : Act} {w : World} {Q : Exit → Act → World → Prop} (ty : TypeId) (x : Operand) (ho : o.op = .load ty x)
    (b off : Nat) (hx : a.eval x = .pointer (some ⟨b, off, none⟩)) (cs : List Value) (d : TypeDesc) (hc : w.rangeAt b off cs)
    (hu : P.underlying ty = some d) (hd : d.isRow = true) (hi : (P.info? ty).map (·.size) = some cs.length) (hw : Region.wanted o (yielded ops a.tmps) = true)
    (h : wpList P ops Q rest (a.put o.dst (.agg cs.toArray)) w) : wpList P ops Q (o :: rest) a w :=
  BigFrame.wpList_want hw fun _ hK => wp_load_mid ty x ho b off hx cs d hc hu hd hi (hK _ _ h)
/-- What is stored whole into a block just made. -/
theorem setRow_newF (w : World) (z cs : Array Value) (t : TypeId) : (w.alloc (.cells z t)).setRow w.heap.size cs = w.alloc (.cells cs t) := by
  unfold World.setRow World.alloc
  congr 1
  apply Array.ext_getElem?
  intro i
  rw [Array.getElem?_modify]
  by_cases hi : w.heap.size = i
  · subst hi
    simp
  · rw [if_neg hi]
    by_cases h : i < w.heap.size
    · rw [Array.getElem?_push_lt h, Array.getElem?_push_lt h]
    · rw [Array.getElem?_eq_none (by simp; omega), Array.getElem?_eq_none (by simp; omega)]
end

/-- The cells xs lie at the address. -/
def Src (w : World) (ad : Option Addr) (xs : List Value) : Prop := ∀ a, ad = some a → ∃ g o, a = ⟨g, o, none⟩ ∧ ∀ j u, xs[j]? = some u → w.cell? ⟨g, o + j, none⟩ = some u
theorem Src.kept {w w' : World} {ad : Option Addr} {xs : List Value} (h : Src w ad xs) (hb : Below w.heap.size w w') : Src w' ad xs := fun a e => by
  obtain ⟨g, o, rfl, h2⟩ := h a e
  exact ⟨g, o, rfl, fun j u hu => (hb.cell (World.block_lt_of_cell? w _ (h2 j u hu))).trans (h2 j u hu)⟩
theorem src_own {w : World} {base : Nat} {e : TypeId} {size : Nat} {ad : Option Addr} {n m cap : Nat} {xs : List Value} (h : w.ownsRow base e size (.slice ad m cap) n xs) : Src w ad xs ∧ (ad = none → n = 0 ∧ cap = 0) := by
  rcases h.2 with ⟨h', h0⟩ | ⟨g, cap', cur, h', _⟩
  · cases h'
    exact ⟨(fun a e => by cases e), fun _ => ⟨h0, rfl⟩⟩
  · cases h'
    refine ⟨fun a e => ?_, (fun e => by cases e)⟩
    cases e
    exact ⟨g, 0, rfl, fun j u hu => by have := h.cells (g := g) rfl j u hu; rwa [add_plain] at this⟩
theorem take2 {xs : List Value} {c : Nat} {x y : Value} (h1 : xs[c * 2]? = some x) (h2 : xs[c * 2 + 1]? = some y) : xs.take (c * 2) ++ [x, y] = xs.take ((c + 1) * 2) := by
  rw [show (c + 1) * 2 = c * 2 + 1 + 1 by omega, List.take_add_one, List.take_add_one, h1, h2]
  simp

section
variable {w : World} {ad : Option Addr} {cap : Nat} {A : Nat → Prop} {F : List Fr} {xs : List Value}
set_option linter.unusedSimpArgs false in
set_option maxRecDepth 100000 in
set_option maxHeartbeats 8000000 in
theorem of_any (hF : Frs A w xs F) (hs : Src w ad xs) (hn : ad = none → F.length = 0) (hm : F.length ≤ 500000) :
    Calls Tryd.prog 11 #[.slice ad F.length cap] w fun e w' => ∃ v, e = .returned v ∧ w'.ownsRow w.heap.size 50 2 v F.length xs ∧ Below w.heap.size w w' := by
  obtain ⟨i0, hi, hz0, hz1, hz2⟩ := info_parts Tryd.infoRFrame
  have HZ1 := hid hz1
  have HZ2 := hid hz2
  clear hz1 hz2
  have HR : Hid (∀ c, c < F.length → ∃ g o k ads ns caps, ad = some ⟨g, o, none⟩ ∧ xs.take (c * 2) ++ [.int .i64 k, .slice ads ns caps] = xs.take ((c + 1) * 2) ∧ ∀ wr, Below w.heap.size w wr → wr.rangeAt g (o + c * 2) [.int .i64 k, .slice ads ns caps]) := hid fun c hc => by
    obtain ⟨a, ha⟩ : ∃ a, ad = some a := by
      cases ad with
      | none => have := hn rfl; omega
      | some a => exact ⟨a, rfl⟩
    obtain ⟨g, o, rfl, hcell⟩ := hs a ha
    have hf : F[c]? = some F[c] := List.getElem?_eq_getElem hc
    obtain ⟨h1, v, h2, adb, capb, rfl, _⟩ := hF.at c _ hf
    refine ⟨g, o, _, adb, _, capb, ha, take2 h1 h2, fun wr hb j u hu => ?_⟩
    have key : w.cell? ⟨g, o + c * 2 + j, none⟩ = some u := by
      match j, hu with
      | 0, hu => cases hu; exact hcell (c * 2) _ h1
      | 1, hu => cases hu; exact hcell (c * 2 + 1) _ h2
    exact (hb.cell (World.block_lt_of_cell? w _ key)).trans key
  have HXl : Hid (xs.take (F.length * 2) = xs) := hid (List.take_of_length_le (by rw [hF.len]; exact Nat.le_refl _))
  have HO : Hid ((w.alloc (.cells #[] 50)).ownsRow w.heap.size 50 2 (.slice (some ⟨w.heap.size, 0, none⟩) 0 0) 0 (xs.take (0 * 2))) := hid ⟨by simp, .inr ⟨w.heap.size, 0, #[], rfl, Nat.le_refl _, heap_alloc_last w _, Nat.le_refl _, Nat.zero_le _, rfl, by simp⟩⟩
  have HB : Hid (Below w.heap.size w (w.alloc (.cells #[] 50))) := hid ((Below.refl _ w).alloc (Nat.le_refl _) _)
  clear hF hs hn
  obtain ⟨n, hnn⟩ : ∃ n, n = F.length := ⟨_, rfl⟩
  rw [← hnn] at hm HR HXl ⊢
  clear hnn
  go_enter Tryd.func11, Tryd.ntmps11
  go_wp2
  go_loopg [3, 9] n (fun g v t wr => ∃ c : Nat, ∃ s : Value, c ≤ n ∧ g = n - c ∧ s = v ∧ t = .int .i64 c ∧ Hid (wr.ownsRow w.heap.size 50 2 v c (xs.take (c * 2))) ∧ Hid (Below w.heap.size w wr))
  case atStart => exact ⟨0, _, by omega, by omega, rfl, rfl, HO, HB⟩
  case round =>
    obtain ⟨c, s, hc, rfl, rfl, rfl, hown, hb⟩ := hrel
    by_cases hlt : c < n
    · obtain ⟨g, o, k, ads, ns, caps, rfl, htake, hrange⟩ := HR.out c hlt
      have hrg := hrange wr hb.out
      have HT := hid htake
      clear htake hrange
      obtain ⟨w3, hw3⟩ : ∃ w3, w3 = wr.alloc (.cells #[.int .i64 k, .slice ads ns caps] 46) := ⟨_, rfl⟩
      obtain ⟨w4, hw4⟩ : ∃ w4, w4 = w3.alloc (.cells #[.int .i64 k, .slice ads ns caps] 50) := ⟨_, rfl⟩
      have hS3 : w3.heap.size = wr.heap.size + 1 := by rw [hw3]; simp
      have hB3 : Below wr.heap.size wr w3 := hw3 ▸ (Below.refl _ _).alloc (Nat.le_refl _) _
      have hB4 : Below w3.heap.size w3 w4 := hw4 ▸ (Below.refl _ _).alloc (Nat.le_refl _) _
      have c0 : w3.cell? ⟨wr.heap.size, 0, none⟩ = some (.int .i64 k) := by rw [hw3, new_cell]; rfl
      have c1 : w3.cell? ⟨wr.heap.size, 1, none⟩ = some (.slice ads ns caps) := by rw [hw3, new_cell]; rfl
      have HN : Hid (∀ ad : Addr, some (⟨w3.heap.size, 0, none⟩ : Addr) = some ad → ∀ j u, ([.int .i64 k, .slice ads ns caps] : List Value)[j]? = some u → w4.cell? (ad.add j) = some u) := hid fun ad e j u hu => by
        cases e
        rw [hw4]
        exact new_cells w3 _ _ j u hu
      have HO4 : Hid (w4.ownsRow w.heap.size 50 2 s c (xs.take (c * 2))) := hid (own_same (own_same hown.out fun g e => hB3.block g (hown.out.lt g e).2) fun g e => hB4.block g (by have := (hown.out.lt g e).2; omega))
      have HB4 : Hid (Below w.heap.size w w4) := hid ((hb.out.trans (hB3.mono hb.out.size)).trans (hB4.mono (by have := hb.out.size; omega)))
      have HZ4 : Hid (w.heap.size ≤ w4.heap.size) := hid HB4.out.size
      have HOl : Hid (∀ k, s.ownBlock = some k → w.heap.size ≤ k) := hid fun k e => (HO4.out.lt k e).1
      have HW3 : Hid ((wr.alloc (.cells #[.int .i64 0, .slice none 0 0] 46)).setRow wr.heap.size #[.int .i64 k, .slice ads ns caps] = w3) := hid (by rw [hw3, setRow_newF])
      have HBz : Hid (Blk (wr.alloc (.cells #[.int .i64 0, .slice none 0 0] 46)) wr.heap.size 46 #[.int .i64 0, .slice none 0 0]) := hid (Blk.new _ _ _)
      have HW4 := hid hw4.symm
      have HS3 := hid hS3
      have HC : Hid (c + 1 ≤ 1000000) := hid (by omega)
      clear hw3 hw4 hB3 hB4 hS3 hown
      go_wp2_with ((try rw [HW4.out]); first
        | ((show wpList _ _ _ (⟨some 12, _, _, _, _, _⟩ :: _) _ _); go_must (refine wpl_loadMid 46 _ rfl g (o + c * 2) rfl [.int .i64 k, .slice ads ns caps] _ hrg Tryd.underlying46 rfl Tryd.infoFrameN rfl ?_))
        | ((show wpList _ _ _ (⟨none, _, _, _, _, _⟩ :: _) _ _); go_must (refine wpl_store 46 _ _ rfl wr.heap.size #[.int .i64 k, .slice ads ns caps] rfl rfl _ _ HBz.out 2 Tryd.infoFrameN rfl rfl (frame_one _ rfl) rfl ?_; rw [HW3.out]))
        | ((show wpList _ _ _ (⟨some 20, _, _, _, _, _⟩ :: _) _ _); go_must (refine wpl_appG _ _ rfl Tryd.underlying30 hi hz0 HZ1.out HZ2.out rfl (by decide) (by decide) w.heap.size s c _ rfl HO4.out (some ⟨w3.heap.size, 0, none⟩) 1 1 [.int .i64 k, .slice ads ns caps] rfl rfl HN.out (frame2 _ _ _ _) (fun e => by cases e) HC.out HZ4.out rfl ?_; intro v' w6 hown hgr hfr))
        | fail)
      rw [HT.out] at hown
      have HOw := hid hown
      have HB3 := hid (HB4.out.grown hgr HZ4.out HOl.out)
      clear hown hgr hfr
      go_roundg (n - (c + 1))
      case measure => omega
      case rel => exact ⟨c + 1, v', by omega, rfl, rfl, by go_num, HOw, HB3⟩
    · obtain rfl : c = n := by omega
      go_wp2
      go_ret
      refine ⟨_, rfl, ?_, hb.out⟩
      have := hown.out
      rw [HXl.out] at this
      exact this
end
end Go.Proofs.YtkpjdjenlmodnaaDoor
