/-
  Feed: the whole; Cut; the chapter's example.
-/
import Derived.Test.YtkpjdjenlmodnaaDoorEfd3
namespace Go.Proofs.YtkpjdjenlmodnaaDoor
open Go.RowKit Go.Lib

section
variable {w W W' : World} {c cnt : Nat} {tot p r : List Int} {ad : Option Addr} {cap : Nat} {v : Value} {F : List Fr} {xs : List Value} {b : Bool} {eF : Addr}
theorem feed_pass (hce : c ≠ 3) (hE : w.cell? ⟨3, 0, none⟩ = some (.iface 82 (.pointer (some eF)))) (n l : Nat) (a : Act) (w' : World) (hJ : FeedJ w c cnt tot eF n l a w') : ∃ X, findLabel feedC l = some (.seq .skip X) ∧ X.wp Tryd.prog (jumps (Low (FeedJ w c cnt tot eF) n) (bodyPost Tryd.prog Tryd.f15 (FeedEnd w c cnt tot eF))) a w' := by
  have h := hJ
  rcases h with ⟨rfl, _⟩ | ⟨rfl, _⟩ | ⟨rfl, _⟩ | ⟨rfl, _⟩
  · exact feed_body n a w' hJ
  · exact feed_head n a w' hJ
  · exact feed_told n a w' hJ
  · exact feed_breaks hce hE n a w' hJ
/-- Before anything of it is taken. -/
theorem feed_first (h : Str w c p cnt false) (bs : List Int) (hr : RowA (fun g => g ≠ c) w ad bs) (hc : bs.length ≤ cap) (hn : ad = none → cap = 0) (hby : Byt bs) (hm : bs.length ≤ 900000) (hcn : cnt ≤ 1000000) : FeedI w c cnt (p ++ bs) w p bs ad cap (.slice none 0 0) [] [] where
  lt := h.lt
  cfew := hcn
  str := h
  row := hr.mono fun g hg hl => ⟨hg, hl⟩
  room := hc
  nil := hn
  byte := hby
  most := by have := h.le; rw [List.length_append]; omega
  own := World.ownsRow_nil _ _ _ _
  frs := trivial
  keep := Keep.refl _ _
  inv := fun F' n b h => h
  suf := ⟨0, rfl⟩
theorem pend_wait (hp : Cuts p [] p.length false) (h : 2 ≤ p.length) : 1 ≤ hdN p ∧ hdN p ≤ 1200 ∧ p.length < 2 + hdN p := by
  generalize hl : p.length = n at hp
  cases hp with
  | short h' => omega
  | wait _ h1 h2 h3 => exact ⟨h1, h2, by omega⟩

set_option linter.unusedSimpArgs false in
set_option maxRecDepth 100000 in
set_option maxHeartbeats 8000000 in
theorem feed_any (hce : c ≠ 3) (hE : w.cell? ⟨3, 0, none⟩ = some (.iface 82 (.pointer (some eF)))) (h : Str w c p cnt false) (hp : Cuts p [] p.length false) (bs : List Int) (hr : RowA (fun g => g ≠ c) w ad bs) (hc : bs.length ≤ cap) (hn : ad = none → cap = 0) (hby : Byt bs) (hm : bs.length ≤ 900000) (hcn : cnt ≤ 1000000) :
    Calls Tryd.prog 15 #[.pointer (some ⟨c, 0, none⟩), .slice ad bs.length cap] w (FeedEnd w c cnt (p ++ bs) eF) := by
  have HI := hid (feed_first h bs hr hc hn hby hm hcn)
  have HP := hid (pend_wait hp)
  have c1 := h.cellW
  have c2 := h.cellB
  have HPs := hid (feed_pass (cnt := cnt) (tot := p ++ bs) hce hE)
  clear h hp hr hn hby hcn hE
  obtain ⟨pl, hpl⟩ : ∃ pl, pl = p.length := ⟨_, rfl⟩
  rw [← hpl] at c1
  have HL := hid hpl
  clear hpl
  obtain ⟨bl, hbl⟩ : ∃ bl, bl = bs.length := ⟨_, rfl⟩
  rw [← hbl] at hc hm ⊢
  have HBl := hid hbl
  clear hbl
  by_cases h2 : 2 ≤ pl
  · have h2' : (2 : Int) ≤ (pl : Int) := by omega
    go_enter Tryd.func15, Tryd.ntmps15
    go_wp2
    refine wp_scope_any (FeedJ w c cnt (p ++ bs) eF) ?_ (fun n l a w' hJ => HPs.out n l a w' hJ)
    go_wp2
    go_step3
    have h3 := HP.out (by rw [← HL.out]; exact h2)
    refine ⟨_, .inl ⟨rfl, p, bs, ad, cap, .slice none 0 0, [], [], ?_, HI.out, by rw [← HL.out]; exact h2, h3.1, h3.2.1, h3.2.2, rfl⟩⟩
    rw [← HBl.out]
    exact ⟨rfl, rfl, rfl, rfl, rfl, rfl⟩
  · have h2' : ¬ (2 : Int) ≤ (pl : Int) := by omega
    go_enter Tryd.func15, Tryd.ntmps15
    go_wp2
    refine wp_scope_any (FeedJ w c cnt (p ++ bs) eF) ?_ (fun n l a w' hJ => HPs.out n l a w' hJ)
    go_wp2
    refine wp_fallK (by assumption) (c := feedC) rfl (feed_head _ _ _ (.inr (.inl ⟨rfl, p, bs, ad, cap, .slice none 0 0, [], [], ?_, HI.out, by rw [← HL.out]; omega, rfl⟩))) low_any
    rw [← HBl.out]
    exact ⟨rfl, rfl, rfl, rfl, rfl, rfl⟩

set_option linter.unusedSimpArgs false in
set_option maxRecDepth 100000 in
set_option maxHeartbeats 8000000 in
theorem feed_dead {x : Value} (hE : w.cell? ⟨14, 0, none⟩ = some x) (h : Str w c p cnt true) (s : Value) :
    Calls Tryd.prog 15 #[.pointer (some ⟨c, 0, none⟩), s] w fun e w' => e = .returned (.tuple #[.slice none 0 0, x]) ∧ ∃ n, w' = w.drewN n := by
  have c2 := h.cellB
  clear h
  go_enter Tryd.func15, Tryd.ntmps15
  go_wp2
  go_step3
  go_wp2
  go_quiet (fail)
  go_wp2
  simp only [Exit.noGoto_ret]
  go_ret2
  exact ⟨rfl, _, rfl⟩
end
end Go.Proofs.YtkpjdjenlmodnaaDoor
