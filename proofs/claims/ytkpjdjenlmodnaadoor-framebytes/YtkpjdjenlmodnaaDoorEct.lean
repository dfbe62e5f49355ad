/-
  Cut: a stream that takes all bytes at once.
-/
import Derived.Test.YtkpjdjenlmodnaaDoorEfd4
namespace Go.Proofs.YtkpjdjenlmodnaaDoor
open Go.RowKit Go.Lib

theorem own_monoE {w : World} {base base' : Nat} {e : TypeId} {size : Nat} {v : Value} {n : Nat} {xs : List Value} (h : w.ownsRow base e size v n xs) (hb : base' ≤ base) : w.ownsRow base' e size v n xs := by
  refine ⟨h.1, ?_⟩
  rcases h.2 with h' | ⟨g, cap, cur, h1, h2, h3⟩
  · exact .inl h'
  · exact .inr ⟨g, cap, cur, h1, Nat.le_trans hb h2, h3⟩
/-- What Cut ends in. -/
def CutEnd (w : World) (bs : List Int) (eF : Addr) (e : Ending) (w' : World) : Prop :=
  ∃ v F xs n b, e = .returned (.tuple #[v, .int .i64 (n : Nat), errV eF b]) ∧ Cuts bs F n b ∧ w'.ownsRow w.heap.size 46 2 v F.length xs ∧
    Frs (fun g => w.heap.size ≤ g ∧ some g ≠ v.ownBlock) w' xs F ∧ Below w.heap.size w w'

section
variable {w : World} {ad : Option Addr} {cap : Nat} {A : Nat → Prop} {eF : Addr}
set_option linter.unusedSimpArgs false in
set_option maxRecDepth 100000 in
set_option maxHeartbeats 4000000 in
theorem cut_any (hE : w.cell? ⟨3, 0, none⟩ = some (.iface 82 (.pointer (some eF)))) (bs : List Int) (hr : RowA A w ad bs) (hc : bs.length ≤ cap) (hn : ad = none → cap = 0) (hby : Byt bs) (hm : bs.length ≤ 900000) :
    Calls Tryd.prog 8 #[.slice ad bs.length cap] w (CutEnd w bs eF) := by
  have HF : Hid (∀ W, Str W w.heap.size [] 0 false → Below w.heap.size w W → Calls Tryd.prog 15 #[.pointer (some ⟨w.heap.size, 0, none⟩), .slice ad bs.length cap] W (FeedEnd W w.heap.size 0 bs eF)) := hid fun W hs hb => by
    have hl := World.block_lt_of_cell? w _ hE
    have := feed_any (by simp only at hl; omega) ((hb.cell (World.block_lt_of_cell? w _ hE)).trans hE) hs (.short (by simp)) bs (((hr.mono (A' := fun g => g < w.heap.size) fun g _ hg => hg).kept fun g hg _ => hb.block g hg).mono fun g hg _ => by omega) hc hn hby hm (by omega)
    simpa using this
  have HN := hid (new_any w)
  clear hr hby hn hc hE
  go_enter Tryd.func8, Tryd.ntmps8
  go_wp2_with fail
  refine HN.out.mono ?_
  rintro e w1 ⟨rfl, hs, hb⟩
  have HB1 := hid hb
  have HF1 := hid (HF.out w1 hs hb)
  have HL := hid (show w.heap.size < w1.heap.size from hs.lt)
  clear hs hb HN HF
  go_wp2_with fail
  refine HF1.out.mono ?_
  rintro e w2 ⟨v, p, F, xs, b, rfl, hcu, -, hs, ho, hf, hk⟩
  have HW := hid (waits_any hs)
  have HB2 : Hid (Below w.heap.size w w2) := hid (HB1.out.trans (hk.low))
  have HE : Hid (CutEnd w bs eF (.returned (.tuple #[v, .int .i64 (p.length : Nat), errV eF b])) w2) := hid ⟨v, F, xs, p.length, b, rfl, hcu, own_monoE ho (Nat.le_of_lt HL.out), hf.mono fun g hg _ => ⟨by have := hg.1; have := HL.out; omega, hg.2⟩, HB2.out⟩
  clear hcu hs ho hf hk HF1 HB1
  go_wp2_with fail
  refine HW.out.mono ?_
  rintro e w3 ⟨rfl, rfl⟩
  go_wp2
  go_ret3
  exact HE.out
end
end Go.Proofs.YtkpjdjenlmodnaaDoor
