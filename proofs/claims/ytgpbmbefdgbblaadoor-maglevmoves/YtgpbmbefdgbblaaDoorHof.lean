/-
  hash.Below, Of; the document's Plain and Of.
-/
import Derived.Test.YtgpbmbefdgbblaaDoorHmix
import Derived.Test.YtgpbmbefdgbblaaDoorHapp
namespace Go.Proofs.YtgpbmbefdgbblaaDoor
open Go.RowKit Go.Lib

set_option maxHeartbeats 1000000 in
theorem below_any (x n : Int) (hx : 0 ≤ x ∧ x ≤ 18446744073709551615) (h1 : -9223372036854775808 ≤ n) (h2 : n ≤ 9223372036854775807) (w : World) : Calls Tryd.prog 57 #[.int .u64 x, .int .i64 n] w fun e w' => e = .returned (.int .i64 (if n < 1 then 0 else x % n)) ∧ w = w' := by
  by_cases h : n < 1
  · rw [if_pos h]
    go_enter Tryd.func57, Tryd.ntmps57
    go_wp2
    go_ret
    exact ⟨rfl, rfl⟩
  · rw [if_neg h]
    have e1 : IntKind.u64.wrap n = n := Go.IntWalk.u64_in _ (by omega)
    have hm := Int.emod_nonneg x (show n ≠ 0 by omega)
    have hm2 := Int.emod_lt_of_pos x (show 0 < n by omega)
    have e2 : x.tmod n = x % n := Int.tmod_eq_emod_of_nonneg hx.1
    generalize x % n = r at *
    go_enter Tryd.func57, Tryd.ntmps57
    go_wp2
    go_ret
    exact ⟨ret_k rfl (by simp [*]; try omega), rfl⟩


/-- The eight bytes of a number, the high one first. -/
def headOf (x : Int) : List Int := [x / 72057594037927936 % 256, x / 281474976710656 % 256, x / 1099511627776 % 256, x / 4294967296 % 256, x / 16777216 % 256, x / 65536 % 256, x / 256 % 256, x % 256]
theorem u8_wrap (p : Int) : IntKind.u8.wrap p = p % 256 := by simp [IntKind.wrap, IntKind.bits, IntKind.signed]
theorem head_byt (x : Int) : Byt (headOf x) := Byt.of fun y hy => by
  simp only [headOf, List.mem_cons, List.not_mem_nil, or_false] at hy
  omega


set_option maxRecDepth 100000 in
set_option maxHeartbeats 8000000 in
theorem of_any (x : Int) (ad : Option Addr) (cap : Nat) (bs : List Int) (hby : Byt bs) (hm : bs.length ≤ 1000000) (w : World) (hE : FEnv w) (hI : Bys w.heap.size w ad bs) :
    Calls Tryd.prog 58 #[.int .u64 x, .slice ad bs.length cap] w fun e w' => e = .returned (.int .u64 (uv (mixB (furB (furB first64 (headOf x)) bs)))) ∧ Below w.heap.size w w' := by
  obtain ⟨len, hlen⟩ : ∃ len, bs.length = len := ⟨_, rfl⟩
  obtain ⟨b0, hb0⟩ : ∃ b, IntKind.u8.wrap (x) = b := ⟨_, rfl⟩
  obtain ⟨b1, hb1⟩ : ∃ b, IntKind.u8.wrap (x / 256) = b := ⟨_, rfl⟩
  obtain ⟨b2, hb2⟩ : ∃ b, IntKind.u8.wrap (x / 65536) = b := ⟨_, rfl⟩
  obtain ⟨b3, hb3⟩ : ∃ b, IntKind.u8.wrap (x / 16777216) = b := ⟨_, rfl⟩
  obtain ⟨b4, hb4⟩ : ∃ b, IntKind.u8.wrap (x / 4294967296) = b := ⟨_, rfl⟩
  obtain ⟨b5, hb5⟩ : ∃ b, IntKind.u8.wrap (x / 1099511627776) = b := ⟨_, rfl⟩
  obtain ⟨b6, hb6⟩ : ∃ b, IntKind.u8.wrap (x / 281474976710656) = b := ⟨_, rfl⟩
  obtain ⟨b7, hb7⟩ : ∃ b, IntKind.u8.wrap (x / 72057594037927936) = b := ⟨_, rfl⟩
  have hh : headOf x = [b7, b6, b5, b4, b3, b2, b1, b0] := by
    unfold headOf
    rw [← hb0, ← hb1, ← hb2, ← hb3, ← hb4, ← hb5, ← hb6, ← hb7]
    simp only [u8_wrap]
  have hhb := head_byt x
  rw [hh] at hhb ⊢
  have HP : Hid (∀ W g, Bys W.heap.size W (some ⟨g, 0, none⟩) [b7, b6, b5, b4, b3, b2, b1, b0] → Calls Tryd.prog 75 #[.slice (some ⟨g, 0, none⟩) 8 8] W fun e w' => e = .returned (.int .u64 (uv (furB first64 [b7, b6, b5, b4, b3, b2, b1, b0]))) ∧ W = w') := hid (fun W g h => plain_any (some ⟨g, 0, none⟩) 8 [b7, b6, b5, b4, b3, b2, b1, b0] hhb (by simp) W h)
  have HF : Hid (∀ W, Below w.heap.size w W → Calls Tryd.prog 74 #[.int .u64 (uv (furB first64 [b7, b6, b5, b4, b3, b2, b1, b0])), .slice ad len cap] W fun e w' => e = .returned (.int .u64 (uv (furB (furB first64 [b7, b6, b5, b4, b3, b2, b1, b0]) bs))) ∧ W = w') := hid (fun W h => hlen ▸ further_any _ ad cap bs hby hm W ((hI.below h).mono h.size))
  have HM : Hid (∀ W, Below w.heap.size w W → Calls Tryd.prog 73 #[.int .u64 (uv (furB (furB first64 [b7, b6, b5, b4, b3, b2, b1, b0]) bs))] W fun e w' => e = .returned (.int .u64 (uv (mixB (furB (furB first64 [b7, b6, b5, b4, b3, b2, b1, b0]) bs)))) ∧ W = w') := hid (fun W h => mix_any _ W (hE.kept h))
  have HBs : Hid (Bys (w.alloc (.cells #[.int .u8 b7, .int .u8 b6, .int .u8 b5, .int .u8 b4, .int .u8 b3, .int .u8 b2, .int .u8 b1, .int .u8 b0] 111)).heap.size (w.alloc (.cells #[.int .u8 b7, .int .u8 b6, .int .u8 b5, .int .u8 b4, .int .u8 b3, .int .u8 b2, .int .u8 b1, .int .u8 b0] 111)) (some ⟨w.heap.size, 0, none⟩) [b7, b6, b5, b4, b3, b2, b1, b0]) := hid (bys_new w 111 [b7, b6, b5, b4, b3, b2, b1, b0])
  have HBl : Hid (Below w.heap.size w (w.alloc (.cells #[.int .u8 b7, .int .u8 b6, .int .u8 b5, .int .u8 b4, .int .u8 b3, .int .u8 b2, .int .u8 b1, .int .u8 b0] 111))) := hid ((Below.refl _ _).alloc (Nat.le_refl _) _)
  rw [hlen]
  clear hh hhb hby hm hI hE hlen
  generalize uv (mixB (furB (furB first64 [b7, b6, b5, b4, b3, b2, b1, b0]) bs)) = r3 at *
  generalize uv (furB (furB first64 [b7, b6, b5, b4, b3, b2, b1, b0]) bs) = r2 at *
  generalize uv (furB first64 [b7, b6, b5, b4, b3, b2, b1, b0]) = r1 at *
  go_enter Tryd.func58, Tryd.ntmps58
  go_wp2
  go_loopw [7] (fun t wr => (t = .int .i64 0 ∧ wr = w.alloc (.cells #[.int .u8 0, .int .u8 0, .int .u8 0, .int .u8 0, .int .u8 0, .int .u8 0, .int .u8 0, .int .u8 0] 111)) ∨ (t = .int .i64 1 ∧ wr = w.alloc (.cells #[.int .u8 0, .int .u8 0, .int .u8 0, .int .u8 0, .int .u8 0, .int .u8 0, .int .u8 0, .int .u8 b0] 111)) ∨ (t = .int .i64 2 ∧ wr = w.alloc (.cells #[.int .u8 0, .int .u8 0, .int .u8 0, .int .u8 0, .int .u8 0, .int .u8 0, .int .u8 b1, .int .u8 b0] 111)) ∨ (t = .int .i64 3 ∧ wr = w.alloc (.cells #[.int .u8 0, .int .u8 0, .int .u8 0, .int .u8 0, .int .u8 0, .int .u8 b2, .int .u8 b1, .int .u8 b0] 111)) ∨ (t = .int .i64 4 ∧ wr = w.alloc (.cells #[.int .u8 0, .int .u8 0, .int .u8 0, .int .u8 0, .int .u8 b3, .int .u8 b2, .int .u8 b1, .int .u8 b0] 111)) ∨ (t = .int .i64 5 ∧ wr = w.alloc (.cells #[.int .u8 0, .int .u8 0, .int .u8 0, .int .u8 b4, .int .u8 b3, .int .u8 b2, .int .u8 b1, .int .u8 b0] 111)) ∨ (t = .int .i64 6 ∧ wr = w.alloc (.cells #[.int .u8 0, .int .u8 0, .int .u8 b5, .int .u8 b4, .int .u8 b3, .int .u8 b2, .int .u8 b1, .int .u8 b0] 111)) ∨ (t = .int .i64 7 ∧ wr = w.alloc (.cells #[.int .u8 0, .int .u8 b6, .int .u8 b5, .int .u8 b4, .int .u8 b3, .int .u8 b2, .int .u8 b1, .int .u8 b0] 111)) ∨ (t = .int .i64 8 ∧ wr = w.alloc (.cells #[.int .u8 b7, .int .u8 b6, .int .u8 b5, .int .u8 b4, .int .u8 b3, .int .u8 b2, .int .u8 b1, .int .u8 b0] 111))) (fun t _ => 8 - (intOf t).toNat)
  case atStart => exact .inl ⟨rfl, rfl⟩
  case round =>
    rcases hrel with ⟨rfl, rfl⟩ | ⟨rfl, rfl⟩ | ⟨rfl, rfl⟩ | ⟨rfl, rfl⟩ | ⟨rfl, rfl⟩ | ⟨rfl, rfl⟩ | ⟨rfl, rfl⟩ | ⟨rfl, rfl⟩ | ⟨rfl, rfl⟩
    · go_wp2
      go_roundw
      case rel => first | exact .inr (.inl ⟨rfl, rfl⟩) | exact .inr (.inl ⟨rfl, trivial⟩) | exact .inr (.inl ⟨trivial, trivial⟩)
      case measure => simp [intOf]
    · go_wp2
      go_roundw
      case rel => first | exact .inr (.inr (.inl ⟨rfl, rfl⟩)) | exact .inr (.inr (.inl ⟨rfl, trivial⟩)) | exact .inr (.inr (.inl ⟨trivial, trivial⟩))
      case measure => simp [intOf]
    · go_wp2
      go_roundw
      case rel => first | exact .inr (.inr (.inr (.inl ⟨rfl, rfl⟩))) | exact .inr (.inr (.inr (.inl ⟨rfl, trivial⟩))) | exact .inr (.inr (.inr (.inl ⟨trivial, trivial⟩)))
      case measure => simp [intOf]
    · go_wp2
      go_roundw
      case rel => first | exact .inr (.inr (.inr (.inr (.inl ⟨rfl, rfl⟩)))) | exact .inr (.inr (.inr (.inr (.inl ⟨rfl, trivial⟩)))) | exact .inr (.inr (.inr (.inr (.inl ⟨trivial, trivial⟩))))
      case measure => simp [intOf]
    · go_wp2
      go_roundw
      case rel => first | exact .inr (.inr (.inr (.inr (.inr (.inl ⟨rfl, rfl⟩))))) | exact .inr (.inr (.inr (.inr (.inr (.inl ⟨rfl, trivial⟩))))) | exact .inr (.inr (.inr (.inr (.inr (.inl ⟨trivial, trivial⟩)))))
      case measure => simp [intOf]
    · go_wp2
      go_roundw
      case rel => first | exact .inr (.inr (.inr (.inr (.inr (.inr (.inl ⟨rfl, rfl⟩)))))) | exact .inr (.inr (.inr (.inr (.inr (.inr (.inl ⟨rfl, trivial⟩)))))) | exact .inr (.inr (.inr (.inr (.inr (.inr (.inl ⟨trivial, trivial⟩))))))
      case measure => simp [intOf]
    · go_wp2
      go_roundw
      case rel => first | exact .inr (.inr (.inr (.inr (.inr (.inr (.inr (.inl ⟨rfl, rfl⟩))))))) | exact .inr (.inr (.inr (.inr (.inr (.inr (.inr (.inl ⟨rfl, trivial⟩))))))) | exact .inr (.inr (.inr (.inr (.inr (.inr (.inr (.inl ⟨trivial, trivial⟩)))))))
      case measure => simp [intOf]
    · go_wp2
      go_roundw
      case rel => first | exact .inr (.inr (.inr (.inr (.inr (.inr (.inr (.inr (⟨rfl, rfl⟩)))))))) | exact .inr (.inr (.inr (.inr (.inr (.inr (.inr (.inr (⟨rfl, trivial⟩)))))))) | exact .inr (.inr (.inr (.inr (.inr (.inr (.inr (.inr (⟨trivial, trivial⟩))))))))
      case measure => simp [intOf]
    · go_wp2_with fail
      refine (HP.out _ _ HBs.out).mono ?_
      rintro e w1 ⟨rfl, rfl⟩
      go_wp2_with fail
      refine (HF.out _ HBl.out).mono ?_
      rintro e w1 ⟨rfl, rfl⟩
      go_wp2_with fail
      refine (HM.out _ HBl.out).mono ?_
      rintro e w1 ⟨rfl, rfl⟩
      go_wp2
      go_ret
      exact ⟨rfl, HBl.out⟩
end Go.Proofs.YtgpbmbefdgbblaaDoor
