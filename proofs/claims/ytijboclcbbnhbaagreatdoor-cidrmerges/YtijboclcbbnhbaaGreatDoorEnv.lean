/-
  What package-level variables hold, as far as the walks read them; it stays where old memory stays.
-/
import Derived.Test.YtijboclcbbnhbaaGreatDoorFew
import Derived.Test.YtijboclcbbnhbaaGreatDoorShelf
import Derived.Test.YtijboclcbbnhbaaGreatDoorPure
namespace Go.Proofs.YtijboclcbbnhbaaGreatDoor
open Go.RowKit

structure Env (E : Value) (w : World) : Prop where
  form : w.cell? ⟨0, 0, none⟩ = some E
  max : ∃ m, w.cell? ⟨3, 0, none⟩ = some (.int .i64 m)
  syn : ∃ t p, w.cell? ⟨4, 0, none⟩ = some (.iface t p)
  rng : ∃ t p, w.cell? ⟨5, 0, none⟩ = some (.iface t p)
  pow : Lib.TabIs Tryz.prog w "internal/strconv.uint64pow10" .u64 Lib.pow10Tab
  tz : w.cell? ⟨8, 15, none⟩ = some (.int .u8 4)
  lt : 6 < w.heap.size

theorem cell_kept {w w' : World} {a : Addr} {v : Value} (h : w.cell? a = some v) (hb : Below w.heap.size w w') : w'.cell? a = some v := by
  rw [hb.cell (World.block_lt_of_cell? w _ h)]
  exact h

theorem Env.kept {E : Value} {w w' : World} (h : Env E w) (hb : Below w.heap.size w w') : Env E w' where
  form := cell_kept h.form hb
  max := by obtain ⟨m, hm⟩ := h.max; exact ⟨m, cell_kept hm hb⟩
  syn := by obtain ⟨t, p, hm⟩ := h.syn; exact ⟨t, p, cell_kept hm hb⟩
  rng := by obtain ⟨t, p, hm⟩ := h.rng; exact ⟨t, p, cell_kept hm hb⟩
  pow := by
    have hg : Tryz.prog.globalNamed "internal/strconv.uint64pow10" = some 6 := by kernel_rfl
    have := h.pow
    unfold Lib.TabIs World.var? at this ⊢
    rw [hg] at this ⊢
    simp only [Option.bind_some] at this ⊢
    rw [hb.block _ h.lt]
    exact this
  tz := cell_kept h.tz hb
  lt := Nat.lt_of_lt_of_le h.lt hb.size
theorem Env.alloc {E : Value} {w : World} (h : Env E w) (o : Obj) : Env E (w.alloc o) := h.kept ((Below.refl _ _).alloc (Nat.le_refl _) _)
theorem Env.drewN {E : Value} {w : World} (h : Env E w) (n : Nat) : Env E (w.drewN n) := h.kept (below_drewN w n)
end Go.Proofs.YtijboclcbbnhbaaGreatDoor
