/-
  hash.Plain, Mix, Unmix; the document's Mix; the chapter's example.
-/
import Derived.Test.YtgpbmbefdgbblaaDoorHfew
namespace Go.Proofs.YtgpbmbefdgbblaaDoor
open Go.RowKit Go.Lib

set_option maxHeartbeats 1000000 in
theorem plain_any (ad : Option Addr) (cap : Nat) (bs : List Int) (hby : Byt bs) (hm : bs.length ≤ 1000000) (w : World) (hI : Bys w.heap.size w ad bs) :
    Calls Tryd.prog 75 #[.slice ad bs.length cap] w fun e w' => e = .returned (.int .u64 (uv (furB first64 bs))) ∧ w = w' := by
  have HF := hid (further_any first64 ad cap bs hby hm w hI)
  rw [uv_first] at HF
  generalize uv (furB first64 bs) = y at *
  clear hI hby hm
  go_enter Tryd.func75, Tryd.ntmps75
  go_wp2_with fail
  refine HF.out.mono ?_
  rintro e w1 ⟨rfl, rfl⟩
  go_wp2
  go_ret
  exact ⟨rfl, rfl⟩


/-- What hash.factors holds. -/
structure FEnv (w : World) : Prop where
  f0 : w.cell? ⟨5, 0, none⟩ = some (.int .u64 18397679294719823053)
  f1 : w.cell? ⟨5, 1, none⟩ = some (.int .u64 14181476777654086739)
  lt : 5 < w.heap.size
theorem FEnv.kept {w w' : World} (h : FEnv w) (hb : Below w.heap.size w w') : FEnv w' := ⟨(hb.cell (p := ⟨5, 0, none⟩) h.lt).trans h.f0, (hb.cell (p := ⟨5, 1, none⟩) h.lt).trans h.f1, Nat.lt_of_lt_of_le h.lt hb.size⟩

theorem mul0 (X : BitVec 64) : IntKind.u64.wrap (uv X * 18397679294719823053) = uv (X * Go.Proofs.YtgpbmbefdgbblaaDoor.f0) := by
  rw [← uv_mul, show uv Go.Proofs.YtgpbmbefdgbblaaDoor.f0 = 18397679294719823053 by decide]
theorem mul1 (X : BitVec 64) : IntKind.u64.wrap (uv X * 14181476777654086739) = uv (X * Go.Proofs.YtgpbmbefdgbblaaDoor.f1) := by
  rw [← uv_mul, show uv Go.Proofs.YtgpbmbefdgbblaaDoor.f1 = 14181476777654086739 by decide]
theorem mulI0 (X : BitVec 64) : IntKind.u64.wrap (uv X * 5725274745694666757) = uv (X * Go.Proofs.YtgpbmbefdgbblaaDoor.i0) := by
  rw [← uv_mul, show uv Go.Proofs.YtgpbmbefdgbblaaDoor.i0 = 5725274745694666757 by decide]
theorem mulI1 (X : BitVec 64) : IntKind.u64.wrap (uv X * 11291846944257947611) = uv (X * Go.Proofs.YtgpbmbefdgbblaaDoor.i1) := by
  rw [← uv_mul, show uv Go.Proofs.YtgpbmbefdgbblaaDoor.i1 = 11291846944257947611 by decide]

set_option maxHeartbeats 2000000 in
theorem mix_any (X : BitVec 64) (w : World) (hE : FEnv w) : Calls Tryd.prog 73 #[.int .u64 (uv X)] w fun e w' => e = .returned (.int .u64 (uv (mixB X))) ∧ w = w' := by
  have H1 := hid (folded_any X w)
  have H2 := hid (folded_any (fdB X * Go.Proofs.YtgpbmbefdgbblaaDoor.f0) w)
  have H3 := hid (folded_any (fdB (fdB X * Go.Proofs.YtgpbmbefdgbblaaDoor.f0) * Go.Proofs.YtgpbmbefdgbblaaDoor.f1) w)
  have e1 := mul0 (fdB X)
  have e2 := mul1 (fdB (fdB X * Go.Proofs.YtgpbmbefdgbblaaDoor.f0))
  rw [show fdB (fdB (fdB X * Go.Proofs.YtgpbmbefdgbblaaDoor.f0) * Go.Proofs.YtgpbmbefdgbblaaDoor.f1) = mixB X from rfl] at H3
  have c0 := hE.f0
  have c1 := hE.f1
  clear hE
  generalize uv (mixB X) = y at *
  generalize uv (fdB (fdB X * Go.Proofs.YtgpbmbefdgbblaaDoor.f0) * Go.Proofs.YtgpbmbefdgbblaaDoor.f1) = b2 at *
  generalize uv (fdB (fdB X * Go.Proofs.YtgpbmbefdgbblaaDoor.f0)) = b1 at *
  generalize uv (fdB X * Go.Proofs.YtgpbmbefdgbblaaDoor.f0) = a2 at *
  generalize uv (fdB X) = a1 at *
  generalize uv X = x at *
  go_enter Tryd.func73, Tryd.ntmps73
  go_wp2_with fail
  refine H1.out.mono ?_
  rintro e w1 ⟨rfl, rfl⟩
  go_wp2
  go_loop [0, 6] (fun h t => (t = .int .i64 0 ∧ h = .int .u64 a1) ∨ (t = .int .i64 1 ∧ h = .int .u64 b1) ∨ (t = .int .i64 2 ∧ h = .int .u64 y)) (fun _ t => 2 - (intOf t).toNat)
  case atStart => exact .inl ⟨rfl, rfl⟩
  case round =>
    rcases hrel with ⟨rfl, rfl⟩ | ⟨rfl, rfl⟩ | ⟨rfl, rfl⟩
    · go_wp2_with fail
      refine H2.out.mono ?_
      rintro e w1 ⟨rfl, rfl⟩
      go_wp2
      go_round
      case rel => exact .inr (.inl ⟨rfl, rfl⟩)
      case measure => simp [intOf]
    · go_wp2_with fail
      refine H3.out.mono ?_
      rintro e w1 ⟨rfl, rfl⟩
      go_wp2
      go_round
      case rel => exact .inr (.inr ⟨rfl, rfl⟩)
      case measure => simp [intOf]
    · go_wp2
      go_ret
      exact ⟨rfl, rfl⟩

end Go.Proofs.YtgpbmbefdgbblaaDoor
