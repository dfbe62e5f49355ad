/-
  stride: Place, When, All, the cursor; the document's All; linkboynum.SameInts; the example.
-/
import Derived.Test.YtgpbmbefdgbblaaDoorVstr
import Derived.Deep.OwnRows
import Derived.OwnWalk
import Derived.Laws.OwnMore
import Derived.Deep.DeepMust
namespace Go.Proofs.YtgpbmbefdgbblaaDoor
open Go.RowKit Go.Lib

/-- M numbers lie at the head of block g. -/
def NumAt (W : World) (g M : Nat) (f : Nat → Int) : Prop := g < W.heap.size ∧ ∀ j, j < M → W.cell? ⟨g, j, none⟩ = some (.int .i64 (f j))
theorem NumAt.kept {w w' : World} {g M : Nat} {f : Nat → Int} (h : NumAt w g M f) (hb : Below w.heap.size w w') : NumAt w' g M f :=
  ⟨Nat.lt_of_lt_of_le h.1 hb.size, fun j hj => (hb.cell (p := ⟨g, j, none⟩) h.1).trans (h.2 j hj)⟩
theorem NumAt.grown {w w' : World} {g M c : Nat} {f : Nat → Int} (h : NumAt w g M f) (hb : w.grownBy w' (some c)) (hne : g ≠ c) : NumAt w' g M f :=
  ⟨Nat.lt_of_lt_of_le h.1 hb.size, fun j hj => (World.cell?_of_block (a := ⟨g, j, none⟩) (hb.block g h.1 (fun e => hne (Option.some.inj e)))).trans (h.2 j hj)⟩





end Go.Proofs.YtgpbmbefdgbblaaDoor
