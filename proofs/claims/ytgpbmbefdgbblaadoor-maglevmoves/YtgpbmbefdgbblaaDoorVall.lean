/-
  stride: All of a right stride, the cursor; the document's All; linkboynum.SameInts; the example.
-/
import Derived.Test.YtgpbmbefdgbblaaDoorVmet
import Derived.Deep.LoopGhost
namespace Go.Proofs.YtgpbmbefdgbblaaDoor
open Go.RowKit Go.Lib

theorem Tryd.infoIntV : (Tryd.prog.info? 3).map (fun i => (i.zero, i.size, i.bytes)) = some (some (.int .i64 0), 1, 8) := by kernel_rfl

/-- What All tells of a right stride. -/
def AllEnd (M : Nat) (o k : Int) (w : World) (e : Ending) (w' : World) : Prop := ∃ g, e = .returned (.slice (some ⟨g, 0, none⟩) M M) ∧ w.heap.size ≤ g ∧ NumAt w' g M (fun j => plc M o k j) ∧ Below w.heap.size w w'

theorem row_set {w : World} {g M c : Nat} {o k : Int} {t : TypeId} (h : w.rowIs g t M (fun j => .int .i64 (if j < c then plc M o k j else 0))) : (w.setCell ⟨g, c, none⟩ (.int .i64 (plc M o k c))).rowIs g t M (fun j => .int .i64 (if j < c + 1 then plc M o k j else 0)) :=
  (h.set c _).congr fun j _ => by
    by_cases h1 : j = c
    · subst h1; simp
    · by_cases h2 : j < c
      · simp [h1, h2, Nat.lt_succ_of_lt h2]
      · simp [h1, h2, show ¬ j < c + 1 by omega]

end Go.Proofs.YtgpbmbefdgbblaaDoor
