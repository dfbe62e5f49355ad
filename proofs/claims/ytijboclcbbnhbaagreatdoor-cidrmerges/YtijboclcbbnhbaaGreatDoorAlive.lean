/-
  The walk of alive: the chapter's example.
-/
import Derived.Test.YtijboclcbbnhbaaGreatDoorParsed
import Derived.Test.YtijboclcbbnhbaaGreatDoorFormat
import Derived.Deep.MidRow
namespace Go.Proofs.YtijboclcbbnhbaaGreatDoor
open Go.RowKit

theorem wpl_load_mid {P : Program} {ops : Array Oper} {rest : List Oper} {o : Oper} {a : Act} {w : World} {Q : Exit → Act → World → Prop} (ty : TypeId) (x : Operand) (ho : o.op = .load ty x)
    (b off : Nat) (hx : a.eval x = .pointer (some ⟨b, off, none⟩)) (cs : List Value) (d : TypeDesc) (hc : w.rangeAt b off cs)
    (hu : P.underlying ty = some d) (hd : d.isRow = true) (n : Nat) (hi : (P.info? ty).map (·.size) = some n) (hn : n = cs.length) (hw : Region.wanted o (yielded ops a.tmps) = true)
    (h : wpList P ops Q rest (a.put o.dst (.agg cs.toArray)) w) : wpList P ops Q (o :: rest) a w :=
  BigFrame.wpList_want hw fun _ hK => wp_load_mid ty x ho b off hx cs d hc hu hd (hn ▸ hi) (hK _ _ h)

end Go.Proofs.YtijboclcbbnhbaaGreatDoor
