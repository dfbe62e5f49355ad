/-
  slices.Collect of slices.Values at api.Point.
-/
import Derived.Test.YtgpbmbefdgbblaaDoorZcol
namespace Go.Proofs.YtgpbmbefdgbblaaDoor
open Go.RowKit Go.Shelf Go.Lib
attribute [local go_sem] Oper.semAt_some

section
variable {α : Type} {enc : α → Array Value}

set_option maxRecDepth 100000 in
set_option maxHeartbeats 1000000 in
theorem collect_any (hk : ∀ x, (enc x).size = 18) (h1c : ∀ x, (enc x).all (·.oneCell') = true) (Bs cap : Nat) (ad : Option Addr) (xs : List α) (hcap : xs.length ≤ cap) (hm : xs.length ≤ 100000) (w : World) (hBs : Bs < w.heap.size)
    (hc : w.cell? ⟨Bs, 0, none⟩ = some (.slice ad xs.length cap)) (hI : Elems enc 18 w.heap.size w ad xs) :
    Calls Tryd.prog 36 #[.func (.func 38) #[] #[.pointer (some ⟨Bs, 0, none⟩)]] w (CollEnd xs enc w) := by
  have h := callsIn_wide.1 (appendseq_w hk h1c 8 (by omega) 38 #[.pointer (some ⟨Bs, 0, none⟩)] (enters_of Tryd.func38 (by kernel_rfl) rfl) xs hm (fun pre => pre <+: xs) w (fun W hW =>
    values_stopsW hk h1c 7 (by omega) Bs w.heap.size cap ad xs hcap (by omega) W (Nat.lt_of_lt_of_le hBs hW.size) hW.size ((hW.cell (p := ⟨Bs, 0, none⟩) hBs).trans hc) (hI.below hW)))
  have H := hid h
  clear h hc hI
  go_enter Tryd.func36, Tryd.ntmps36
  go_wp2_with fail
  refine H.out.mono ?_
  rintro e w1 ⟨v, rfl, ho, hb⟩
  have F : Hid (CollEnd xs enc w (.returned v) w1) := hid ⟨v, rfl, ho, hb⟩
  clear ho hb H
  go_wp2
  go_ret
  exact F.out

theorem values_any (a : Option Addr) (len cap : Nat) (w : World) :
    Calls Tryd.prog 28 #[.slice a len cap] w fun e w' => e = .returned (.func (.func 38) #[] #[.pointer (some ⟨w.heap.size, 0, none⟩)]) ∧ w' = w.alloc (.cells #[.slice a len cap] 22) :=
  callsIn_wide.1 (values_w 2 a len cap w)
end
end Go.Proofs.YtgpbmbefdgbblaaDoor
