/-
  Sums: the document's Total and Check; sums.Check; the chapter's example.
-/
import Derived.Test.YtnlhdeffoalhiaaDoorSwc
namespace Go.Proofs.YtnlhdeffoalhiaaDoor
open Go.RowKit Go.Lib

theorem tsum_range {bs : List Int} (h : Byt bs) : ∀ k : Nat, 0 ≤ tsum bs k ∧ tsum bs k ≤ 65535 * (k : Int)
  | 0 => by simp [tsum]
  | k + 1 => by
    have h1 := tsum_range h k
    have h2 := h k
    rw [tsum]
    push_cast
    split <;> omega


theorem total_range {bs : List Int} (hby : Byt bs) (hm : bs.length ≤ 1000000) : 0 ≤ total bs ∧ total bs ≤ 65535000000 := by
  have := wsum_range hby (nw bs.length)
  unfold total nw at *
  omega


theorem sadd_any (s : Int) (cap : Nat) (ad : Option Addr) (bs : List Int) (hby : Byt bs) (hcap : bs.length ≤ cap) (hm : bs.length ≤ 1000000) (w : World) (hI : Bys w.heap.size w ad bs) :
    Calls Tryd.prog 31 #[.int .i64 s, .slice ad bs.length cap] w fun e W' => e = .returned (.int .i64 (from40 s + total bs)) ∧ Below w.heap.size w W' :=
  callsIn_wide.1 (sadd_in Fence.wide 4 trivial trivial trivial trivial rfl (by omega) s cap ad bs hby hcap hm w hI)

set_option maxHeartbeats 1000000 in
theorem scheck_any (ad : Option Addr) (cap : Nat) (bs : List Int) (hby : Byt bs) (hcap : bs.length ≤ cap) (hm : bs.length ≤ 1000000) (w : World) (hI : Bys w.heap.size w ad bs) :
    Calls Tryd.prog 19 #[.slice ad bs.length cap] w fun e w' => e = .returned (.int .i64 (check bs)) ∧ Below w.heap.size w w' := by
  have hT := sadd_any 0 cap ad bs hby hcap hm w hI
  rw [show from40 0 + total bs = total bs by simp [from40]] at hT
  have HT := hid hT
  have ht := total_range hby hm
  have HF := hid (sfold_any (total bs) (by omega) (by omega))
  have hf := fold_range (total bs)
  have HC : Hid (check bs = 65535 - fold (total bs)) := hid rfl
  clear hI hby hT hcap
  generalize bs.length = len at *
  generalize fold (total bs) = f at HF hf HC
  generalize total bs = t at HT ht HF
  go_enter Tryd.func19, Tryd.ntmps19
  go_wp2_with fail
  refine HT.out.mono ?_
  rintro e w1 ⟨rfl, hb⟩
  have Hb := hid hb
  clear hb
  go_wp2_with fail
  refine (HF.out _).mono ?_
  rintro e w2 ⟨rfl, h⟩
  subst h
  go_wp2
  go_ret
  exact ⟨ret_i rfl HC.out.symm, Hb.out⟩

theorem new_cell (w : World) (t : TypeId) (cs : Array Value) (i : Nat) : (w.alloc (.cells cs t)).cell? ⟨w.heap.size, i, none⟩ = cs[i]? := cell_of_row _ _ i cs t (0, 0) (World.alloc_heap_new w _)
theorem bys_new (w : World) (t : TypeId) (bs : List Int) : Bys (w.alloc (.cells (bs.map (Value.int .u8)).toArray t)).heap.size (w.alloc (.cells (bs.map (Value.int .u8)).toArray t)) (some ⟨w.heap.size, 0, none⟩) bs := fun j hj =>
  ⟨w.heap.size, 0, rfl, by simp, by rw [Nat.zero_add, new_cell]; simp [List.getD, hj]⟩

def example8 : List Int := [0, 1, 242, 3, 244, 245, 246, 247]
set_option maxHeartbeats 1000000 in
theorem alive_any (w : World) : Calls Tryd.prog 10 #[] w fun e w' => e = .returned (.bool true) ∧ Below w.heap.size w w' := by
  obtain ⟨W, hW⟩ : ∃ W, W = w.alloc (.cells (example8.map (Value.int .u8)).toArray 5) := ⟨_, rfl⟩
  have hc := scheck_any (some ⟨w.heap.size, 0, none⟩) 8 example8 (Byt.of (by decide)) (by decide) (by decide) W (by rw [hW]; exact bys_new w _ _)
  rw [show check example8 = 8717 by decide, show example8.length = 8 by rfl] at hc
  have HC := hid hc
  have hb : Below w.heap.size w W := by rw [hW]; exact (Below.refl _ _).alloc (Nat.le_refl _) _
  have Hb := hid hb
  have HW : Hid (w.alloc (.cells #[.int .u8 0, .int .u8 1, .int .u8 242, .int .u8 3, .int .u8 244, .int .u8 245, .int .u8 246, .int .u8 247] 5) = W) := hid hW.symm
  clear hc hW hb
  go_enter Tryd.func10, Tryd.ntmps10
  go_wp2_with fail
  rw [HW.out]
  refine HC.out.mono ?_
  rintro e w1 ⟨rfl, hb⟩
  have Hb1 := hid (Hb.out.trans (hb.mono Hb.out.size))
  clear hb
  go_wp2
  go_ret
  exact ⟨rfl, Hb1.out⟩
end Go.Proofs.YtnlhdeffoalhiaaDoor
