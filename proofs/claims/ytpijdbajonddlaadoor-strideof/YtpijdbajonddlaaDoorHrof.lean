/-
  The document's Of.
-/
import Derived.Test.YtpijdbajonddlaaDoorHof
namespace Go.Proofs.YtpijdbajonddlaaDoor
open Go.RowKit Go.Lib

set_option maxRecDepth 100000 in
set_option maxHeartbeats 8000000 in
theorem rof_any (x : Int) (ad : Option Addr) (cap : Nat) (bs : List Int) (hby : Byt bs) (hm : bs.length ≤ 1000) (w : World) (hI : Bys w.heap.size w ad bs) (hn : ad = none → bs.length = 0 ∧ cap = 0) :
    Calls Tryd.prog 26 #[.int .u64 x, .slice ad bs.length cap] w fun e w' => e = .returned (.int .u64 (uv (mixB (furB (furB first64 (headOf x)) bs)))) ∧ Below w.heap.size w w' := by
  obtain ⟨len, hlen⟩ : ∃ len, bs.length = len := ⟨_, rfl⟩
  obtain ⟨b0, hb0⟩ : ∃ b, IntKind.u8.wrap (x) = b := ⟨_, rfl⟩
  obtain ⟨b1, hb1⟩ : ∃ b, IntKind.u8.wrap (x / 256) = b := ⟨_, rfl⟩
  obtain ⟨b2, hb2⟩ : ∃ b, IntKind.u8.wrap (x / 65536) = b := ⟨_, rfl⟩
  obtain ⟨b3, hb3⟩ : ∃ b, IntKind.u8.wrap (x / 16777216) = b := ⟨_, rfl⟩
  obtain ⟨b4, hb4⟩ : ∃ b, IntKind.u8.wrap (x / 4294967296) = b := ⟨_, rfl⟩
  obtain ⟨b5, hb5⟩ : ∃ b, IntKind.u8.wrap (x / 1099511627776) = b := ⟨_, rfl⟩
  obtain ⟨b6, hb6⟩ : ∃ b, IntKind.u8.wrap (x / 281474976710656) = b := ⟨_, rfl⟩
  obtain ⟨b7, hb7⟩ : ∃ b, IntKind.u8.wrap (x / 72057594037927936) = b := ⟨_, rfl⟩
  have hh : headOf x = [b7, b6, b5, b4, b3, b2, b1, b0] := by
    unfold headOf
    rw [← hb0, ← hb1, ← hb2, ← hb3, ← hb4, ← hb5, ← hb6, ← hb7]
    simp only [u8_wrap]
  have hhb := head_byt x
  rw [hh] at hhb ⊢
  rw [← furB_append]
  have HAll : Hid (Byt ([b7, b6, b5, b4, b3, b2, b1, b0] ++ bs)) := hid (Byt.of fun y hy => by
    rcases List.mem_append.1 hy with h | h
    · obtain ⟨j, hj, rfl⟩ := List.getElem_of_mem h
      have := hhb j
      rwa [List.getD, List.getElem?_eq_getElem hj] at this
    · obtain ⟨j, hj, rfl⟩ := List.getElem_of_mem h
      have := hby j
      rwa [List.getD, List.getElem?_eq_getElem hj] at this)
  have HP : Hid (∀ W a c, Bys W.heap.size W a ([b7, b6, b5, b4, b3, b2, b1, b0] ++ bs) → Calls Tryd.prog 37 #[.slice a (8 + len) c] W fun e w' => e = .returned (.int .u64 (uv (furB first64 ([b7, b6, b5, b4, b3, b2, b1, b0] ++ bs)))) ∧ W = w') := hid (fun W a c h => by
    have := rplain_any a c ([b7, b6, b5, b4, b3, b2, b1, b0] ++ bs) HAll.out (by rw [List.length_append]; simp; omega) W h
    rw [List.length_append, hlen] at this
    exact this)
  have HM := hid (fun W => rmix_any (furB first64 ([b7, b6, b5, b4, b3, b2, b1, b0] ++ bs)) W)
  have HI : Hid (∀ W, Below w.heap.size w W → Bys W.heap.size W ad bs) := hid (fun W h => (hI.below h).mono h.size)
  have HN : Hid (ad = none → len = 0 ∧ cap = 0) := hid (hlen ▸ hn)
  have HL := hid hlen
  have Hm : Hid (len ≤ 1000) := hid (hlen ▸ hm)
  have HB0 : Hid (Below w.heap.size w (w.alloc (.cells #[] 5))) := hid ((Below.refl _ _).alloc (Nat.le_refl _) _)
  have HO0 : Hid ((w.alloc (.cells #[] 5)).ownsRow w.heap.size 5 1 (.slice (some ⟨w.heap.size, 0, none⟩) 0 0) 0 ([].map (Value.int .u8))) := hid ⟨rfl, .inr ⟨w.heap.size, 0, #[], rfl, Nat.le_refl _, heap_alloc_last w _, Nat.le_refl _, Nat.zero_le _, rfl, rfl⟩⟩
  rw [hlen]
  clear hh hhb hby hm hI hlen hn
  generalize uv (mixB (furB first64 ([b7, b6, b5, b4, b3, b2, b1, b0] ++ bs))) = r3 at *
  generalize uv (furB first64 ([b7, b6, b5, b4, b3, b2, b1, b0] ++ bs)) = r2 at *
  go_enter Tryd.func26, Tryd.ntmps26
  go_wp2
  go_loopw [5, 6] (fun v t wr => Hid (Below w.heap.size w wr) ∧ ((t = .int .i64 56 ∧ Hid (wr.ownsRow w.heap.size 5 1 v 0 ([].map (Value.int .u8)))) ∨ (t = .int .i64 48 ∧ Hid (wr.ownsRow w.heap.size 5 1 v 1 ([b7].map (Value.int .u8)))) ∨ (t = .int .i64 40 ∧ Hid (wr.ownsRow w.heap.size 5 1 v 2 ([b7, b6].map (Value.int .u8)))) ∨ (t = .int .i64 32 ∧ Hid (wr.ownsRow w.heap.size 5 1 v 3 ([b7, b6, b5].map (Value.int .u8)))) ∨ (t = .int .i64 24 ∧ Hid (wr.ownsRow w.heap.size 5 1 v 4 ([b7, b6, b5, b4].map (Value.int .u8)))) ∨ (t = .int .i64 16 ∧ Hid (wr.ownsRow w.heap.size 5 1 v 5 ([b7, b6, b5, b4, b3].map (Value.int .u8)))) ∨ (t = .int .i64 8 ∧ Hid (wr.ownsRow w.heap.size 5 1 v 6 ([b7, b6, b5, b4, b3, b2].map (Value.int .u8)))) ∨ (t = .int .i64 0 ∧ Hid (wr.ownsRow w.heap.size 5 1 v 7 ([b7, b6, b5, b4, b3, b2, b1].map (Value.int .u8)))) ∨ (t = .int .i64 (-8) ∧ Hid (wr.ownsRow w.heap.size 5 1 v 8 ([b7, b6, b5, b4, b3, b2, b1, b0].map (Value.int .u8)))))) (fun _ t _ => (intOf t + 8).toNat)
  case atStart => exact ⟨HB0, .inl ⟨rfl, HO0⟩⟩
  case round =>
    obtain ⟨HB, ⟨rfl, HO⟩ | ⟨rfl, HO⟩ | ⟨rfl, HO⟩ | ⟨rfl, HO⟩ | ⟨rfl, HO⟩ | ⟨rfl, HO⟩ | ⟨rfl, HO⟩ | ⟨rfl, HO⟩ | ⟨rfl, HO⟩⟩ := hrel
    · have HOa := hid (HO.out.alloc (.cells #[.int .u8 b7] 5))
      have HBa : Hid (Below w.heap.size w (wr.alloc (.cells #[.int .u8 b7] 5))) := hid (HB.out.alloc HB.out.size _)
      have HBy : Hid (Bys (wr.alloc (.cells #[.int .u8 b7] 5)).heap.size (wr.alloc (.cells #[.int .u8 b7] 5)) (some ⟨wr.heap.size, 0, none⟩) [b7]) := hid (bys_new wr 5 [b7])
      go_wp2_with ((show wpList _ _ _ (⟨some 19, _, _, _, _, _⟩ :: _) _ _); go_must (refine wpl_app (.tmp 12) (.tmp 18) rfl w.heap.size _ 0 _ rfl HOa.out (some ⟨wr.heap.size, 0, none⟩) 1 1 [b7] rfl rfl _ HBy.out (fun h => by cases h) (by omega) HBa.out.size rfl ?_; intro v2 w2 ho2 hg2))
      have HO2 : Hid (w2.ownsRow w.heap.size 5 1 v2 1 ([b7].map (Value.int .u8))) := hid ho2
      have HB2 : Hid (Below w.heap.size w w2) := hid (HBa.out.grown hg2 HBa.out.size (own_blockP HOa.out))
      clear ho2 hg2
      go_roundw
      case rel => exact ⟨HB2, .inr (.inl ⟨rfl, HO2⟩)⟩
      case measure => simp [intOf]
    · have HOa := hid (HO.out.alloc (.cells #[.int .u8 b6] 5))
      have HBa : Hid (Below w.heap.size w (wr.alloc (.cells #[.int .u8 b6] 5))) := hid (HB.out.alloc HB.out.size _)
      have HBy : Hid (Bys (wr.alloc (.cells #[.int .u8 b6] 5)).heap.size (wr.alloc (.cells #[.int .u8 b6] 5)) (some ⟨wr.heap.size, 0, none⟩) [b6]) := hid (bys_new wr 5 [b6])
      go_wp2_with ((show wpList _ _ _ (⟨some 19, _, _, _, _, _⟩ :: _) _ _); go_must (refine wpl_app (.tmp 12) (.tmp 18) rfl w.heap.size _ 1 _ rfl HOa.out (some ⟨wr.heap.size, 0, none⟩) 1 1 [b6] rfl rfl _ HBy.out (fun h => by cases h) (by omega) HBa.out.size rfl ?_; intro v2 w2 ho2 hg2))
      have HO2 : Hid (w2.ownsRow w.heap.size 5 1 v2 2 ([b7, b6].map (Value.int .u8))) := hid ho2
      have HB2 : Hid (Below w.heap.size w w2) := hid (HBa.out.grown hg2 HBa.out.size (own_blockP HOa.out))
      clear ho2 hg2
      go_roundw
      case rel => exact ⟨HB2, .inr (.inr (.inl ⟨rfl, HO2⟩))⟩
      case measure => simp [intOf]
    · have HOa := hid (HO.out.alloc (.cells #[.int .u8 b5] 5))
      have HBa : Hid (Below w.heap.size w (wr.alloc (.cells #[.int .u8 b5] 5))) := hid (HB.out.alloc HB.out.size _)
      have HBy : Hid (Bys (wr.alloc (.cells #[.int .u8 b5] 5)).heap.size (wr.alloc (.cells #[.int .u8 b5] 5)) (some ⟨wr.heap.size, 0, none⟩) [b5]) := hid (bys_new wr 5 [b5])
      go_wp2_with ((show wpList _ _ _ (⟨some 19, _, _, _, _, _⟩ :: _) _ _); go_must (refine wpl_app (.tmp 12) (.tmp 18) rfl w.heap.size _ 2 _ rfl HOa.out (some ⟨wr.heap.size, 0, none⟩) 1 1 [b5] rfl rfl _ HBy.out (fun h => by cases h) (by omega) HBa.out.size rfl ?_; intro v2 w2 ho2 hg2))
      have HO2 : Hid (w2.ownsRow w.heap.size 5 1 v2 3 ([b7, b6, b5].map (Value.int .u8))) := hid ho2
      have HB2 : Hid (Below w.heap.size w w2) := hid (HBa.out.grown hg2 HBa.out.size (own_blockP HOa.out))
      clear ho2 hg2
      go_roundw
      case rel => exact ⟨HB2, .inr (.inr (.inr (.inl ⟨rfl, HO2⟩)))⟩
      case measure => simp [intOf]
    · have HOa := hid (HO.out.alloc (.cells #[.int .u8 b4] 5))
      have HBa : Hid (Below w.heap.size w (wr.alloc (.cells #[.int .u8 b4] 5))) := hid (HB.out.alloc HB.out.size _)
      have HBy : Hid (Bys (wr.alloc (.cells #[.int .u8 b4] 5)).heap.size (wr.alloc (.cells #[.int .u8 b4] 5)) (some ⟨wr.heap.size, 0, none⟩) [b4]) := hid (bys_new wr 5 [b4])
      go_wp2_with ((show wpList _ _ _ (⟨some 19, _, _, _, _, _⟩ :: _) _ _); go_must (refine wpl_app (.tmp 12) (.tmp 18) rfl w.heap.size _ 3 _ rfl HOa.out (some ⟨wr.heap.size, 0, none⟩) 1 1 [b4] rfl rfl _ HBy.out (fun h => by cases h) (by omega) HBa.out.size rfl ?_; intro v2 w2 ho2 hg2))
      have HO2 : Hid (w2.ownsRow w.heap.size 5 1 v2 4 ([b7, b6, b5, b4].map (Value.int .u8))) := hid ho2
      have HB2 : Hid (Below w.heap.size w w2) := hid (HBa.out.grown hg2 HBa.out.size (own_blockP HOa.out))
      clear ho2 hg2
      go_roundw
      case rel => exact ⟨HB2, .inr (.inr (.inr (.inr (.inl ⟨rfl, HO2⟩))))⟩
      case measure => simp [intOf]
    · have HOa := hid (HO.out.alloc (.cells #[.int .u8 b3] 5))
      have HBa : Hid (Below w.heap.size w (wr.alloc (.cells #[.int .u8 b3] 5))) := hid (HB.out.alloc HB.out.size _)
      have HBy : Hid (Bys (wr.alloc (.cells #[.int .u8 b3] 5)).heap.size (wr.alloc (.cells #[.int .u8 b3] 5)) (some ⟨wr.heap.size, 0, none⟩) [b3]) := hid (bys_new wr 5 [b3])
      go_wp2_with ((show wpList _ _ _ (⟨some 19, _, _, _, _, _⟩ :: _) _ _); go_must (refine wpl_app (.tmp 12) (.tmp 18) rfl w.heap.size _ 4 _ rfl HOa.out (some ⟨wr.heap.size, 0, none⟩) 1 1 [b3] rfl rfl _ HBy.out (fun h => by cases h) (by omega) HBa.out.size rfl ?_; intro v2 w2 ho2 hg2))
      have HO2 : Hid (w2.ownsRow w.heap.size 5 1 v2 5 ([b7, b6, b5, b4, b3].map (Value.int .u8))) := hid ho2
      have HB2 : Hid (Below w.heap.size w w2) := hid (HBa.out.grown hg2 HBa.out.size (own_blockP HOa.out))
      clear ho2 hg2
      go_roundw
      case rel => exact ⟨HB2, .inr (.inr (.inr (.inr (.inr (.inl ⟨rfl, HO2⟩)))))⟩
      case measure => simp [intOf]
    · have HOa := hid (HO.out.alloc (.cells #[.int .u8 b2] 5))
      have HBa : Hid (Below w.heap.size w (wr.alloc (.cells #[.int .u8 b2] 5))) := hid (HB.out.alloc HB.out.size _)
      have HBy : Hid (Bys (wr.alloc (.cells #[.int .u8 b2] 5)).heap.size (wr.alloc (.cells #[.int .u8 b2] 5)) (some ⟨wr.heap.size, 0, none⟩) [b2]) := hid (bys_new wr 5 [b2])
      go_wp2_with ((show wpList _ _ _ (⟨some 19, _, _, _, _, _⟩ :: _) _ _); go_must (refine wpl_app (.tmp 12) (.tmp 18) rfl w.heap.size _ 5 _ rfl HOa.out (some ⟨wr.heap.size, 0, none⟩) 1 1 [b2] rfl rfl _ HBy.out (fun h => by cases h) (by omega) HBa.out.size rfl ?_; intro v2 w2 ho2 hg2))
      have HO2 : Hid (w2.ownsRow w.heap.size 5 1 v2 6 ([b7, b6, b5, b4, b3, b2].map (Value.int .u8))) := hid ho2
      have HB2 : Hid (Below w.heap.size w w2) := hid (HBa.out.grown hg2 HBa.out.size (own_blockP HOa.out))
      clear ho2 hg2
      go_roundw
      case rel => exact ⟨HB2, .inr (.inr (.inr (.inr (.inr (.inr (.inl ⟨rfl, HO2⟩))))))⟩
      case measure => simp [intOf]
    · have HOa := hid (HO.out.alloc (.cells #[.int .u8 b1] 5))
      have HBa : Hid (Below w.heap.size w (wr.alloc (.cells #[.int .u8 b1] 5))) := hid (HB.out.alloc HB.out.size _)
      have HBy : Hid (Bys (wr.alloc (.cells #[.int .u8 b1] 5)).heap.size (wr.alloc (.cells #[.int .u8 b1] 5)) (some ⟨wr.heap.size, 0, none⟩) [b1]) := hid (bys_new wr 5 [b1])
      go_wp2_with ((show wpList _ _ _ (⟨some 19, _, _, _, _, _⟩ :: _) _ _); go_must (refine wpl_app (.tmp 12) (.tmp 18) rfl w.heap.size _ 6 _ rfl HOa.out (some ⟨wr.heap.size, 0, none⟩) 1 1 [b1] rfl rfl _ HBy.out (fun h => by cases h) (by omega) HBa.out.size rfl ?_; intro v2 w2 ho2 hg2))
      have HO2 : Hid (w2.ownsRow w.heap.size 5 1 v2 7 ([b7, b6, b5, b4, b3, b2, b1].map (Value.int .u8))) := hid ho2
      have HB2 : Hid (Below w.heap.size w w2) := hid (HBa.out.grown hg2 HBa.out.size (own_blockP HOa.out))
      clear ho2 hg2
      go_roundw
      case rel => exact ⟨HB2, .inr (.inr (.inr (.inr (.inr (.inr (.inr (.inl ⟨rfl, HO2⟩)))))))⟩
      case measure => simp [intOf]
    · have HOa := hid (HO.out.alloc (.cells #[.int .u8 b0] 5))
      have HBa : Hid (Below w.heap.size w (wr.alloc (.cells #[.int .u8 b0] 5))) := hid (HB.out.alloc HB.out.size _)
      have HBy : Hid (Bys (wr.alloc (.cells #[.int .u8 b0] 5)).heap.size (wr.alloc (.cells #[.int .u8 b0] 5)) (some ⟨wr.heap.size, 0, none⟩) [b0]) := hid (bys_new wr 5 [b0])
      go_wp2_with ((show wpList _ _ _ (⟨some 19, _, _, _, _, _⟩ :: _) _ _); go_must (refine wpl_app (.tmp 12) (.tmp 18) rfl w.heap.size _ 7 _ rfl HOa.out (some ⟨wr.heap.size, 0, none⟩) 1 1 [b0] rfl rfl _ HBy.out (fun h => by cases h) (by omega) HBa.out.size rfl ?_; intro v2 w2 ho2 hg2))
      have HO2 : Hid (w2.ownsRow w.heap.size 5 1 v2 8 ([b7, b6, b5, b4, b3, b2, b1, b0].map (Value.int .u8))) := hid ho2
      have HB2 : Hid (Below w.heap.size w w2) := hid (HBa.out.grown hg2 HBa.out.size (own_blockP HOa.out))
      clear ho2 hg2
      go_roundw
      case rel => exact ⟨HB2, .inr (.inr (.inr (.inr (.inr (.inr (.inr (.inr (⟨rfl, HO2⟩))))))))⟩
      case measure => simp [intOf]
    · go_wp2_with ((show wpList _ _ _ (⟨some 22, _, _, _, _, _⟩ :: _) _ _); go_must (refine wpl_app (.tmp 20) (.tmp 21) rfl w.heap.size _ 8 _ rfl HO.out ad len cap bs rfl HL.out _ (HI.out _ HB.out) HN.out (by have := Hm.out; omega) HB.out.size rfl ?_; intro v2 w2 ho2 hg2; rw [← List.map_append] at ho2; obtain ⟨_, ad2, cap2, rfl, _, hI2⟩ := own_bys ho2))
      have HB2 : Hid (Below w.heap.size w w2) := hid (HB.out.grown hg2 HB.out.size (own_blockP HO.out))
      have HI2 := hid hI2
      clear ho2 hg2 hI2
      refine (HP.out _ _ _ HI2.out).mono ?_
      rintro e w3 ⟨rfl, rfl⟩
      go_wp2_with fail
      refine (HM.out _).mono ?_
      rintro e w3 ⟨rfl, rfl⟩
      go_wp2
      go_ret
      exact ⟨rfl, HB2.out⟩
end Go.Proofs.YtpijdbajonddlaaDoor
