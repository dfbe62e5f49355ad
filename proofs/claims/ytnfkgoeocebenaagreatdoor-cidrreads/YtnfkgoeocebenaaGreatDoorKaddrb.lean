/-
  addr.Read of a cursor without an error: readA.
-/
import Derived.Test.YtnfkgoeocebenaaGreatDoorKaddr
namespace Go.Proofs.YtnfkgoeocebenaaGreatDoor
open Go.RowKit

section
variable {w : World} {c : Nat} {ad : Option Addr} {cap : Nat} {bs : List Int} {p : Nat}

theorem aread_four_ok (h : Cur w 79 c ad cap bs p .nilIface) (hm : bs.getD p 0 = 4) (hle : p + 1 + 4 ≤ bs.length) :
    Calls Tryz.prog 19 #[.pointer (some ⟨c, 0, none⟩)] w (AreadEnd 79 false (pad16 ((bs.drop (p + 1)).take 4)) c ad cap bs (p + 1 + 4) .nilIface w) := by
  have hb0 : Below w.heap.size w (w.alloc (.cells (adr false z16) 24)) := (Below.refl _ _).alloc (Nat.le_refl _) _
  have hlt := h.obj.lt
  have hB0 : Blk (w.alloc (.cells (adr false z16) 24)) w.heap.size 24 (adr false z16) := Blk.new w _ _
  have hne : w.heap.size ≠ c := by omega
  have hll : ((bs.drop (p + 1)).take 4).length = 4 := by rw [List.length_take, List.length_drop]; omega
  obtain ⟨W0, hW0⟩ : ∃ W, W = w.alloc (.cells (adr false z16) 24) := ⟨_, rfl⟩
  have h0 : Cur W0 79 c ad cap bs p .nilIface := hW0 ▸ h.kept hb0
  rw [← hW0] at hB0
  refine (aread_four c false (pad16 ((bs.drop (p + 1)).take 4)) (pad16_length _ (by omega)) w (R1 := fun w1 => Cur w1 79 c ad cap bs (p + 1) .nilIface ∧ Keep c W0 w1)
    (R2 := fun v w2 => ∃ g' cap', v = .slice (some ⟨g', 0, none⟩) 4 cap' ∧ (∀ j, j < ((bs.drop (p + 1)).take 4).length → w2.cell? ⟨g', j, none⟩ = some (.int .u8 (((bs.drop (p + 1)).take 4).getD j 0))) ∧ Cur w2 79 c ad cap bs (p + 1 + 4) .nilIface ∧ Keep c W0 w2)
    (R3 := fun w3 => Cur w3 79 c ad cap bs (p + 1 + 4) .nilIface ∧ Keep c W0 w3) (by
      rw [← hW0]
      refine (num_ok h0 1 (by decide) (by decide) (by omega)).mono ?_
      rintro e w1 ⟨rfl, hC, hK⟩
      exact ⟨by rw [acc1 bs p h.byte, hm], hC, hK⟩) ?_ ?_ ?_).mono ?_
  · rintro w1 ⟨hz, hk⟩
    refine (bytes_ok hz 4 (by decide) (by omega)).mono ?_
    rintro e w2 ⟨g', cap', rfl, _, hcl, _, hC, hK⟩
    exact ⟨_, rfl, g', cap', by rw [hll], hcl, hC, hk.trans hK⟩
  · rintro v w2 ⟨g', cap', rfl, hcl, hC, hk⟩
    refine (from_4 (some ⟨g', 0, none⟩) cap' ((bs.drop (p + 1)).take 4) hll w2 (fun j hj => ⟨g', 0, rfl, by rw [Nat.zero_add]; exact hcl j hj⟩)).mono ?_
    rintro e w3 ⟨rfl, hb⟩
    exact ⟨_, rfl, hC.kept hb, hk.trans (Keep.of hb (Nat.le_of_lt hC.obj.lt))⟩
  · rintro w3 ⟨_, hk⟩
    exact hk.blk hB0 hne
  · rintro e w' ⟨rfl, w3, V, ⟨h3, hk⟩, hV, rfl⟩
    rw [hW0] at hk
    obtain ⟨r1, r2⟩ := aread_fin h h3 hk hV (adr false (pad16 ((bs.drop (p + 1)).take 4)))
    exact ⟨rfl, r1, r2⟩

theorem aread_four_short (a : Nat → Addr) (h : Cur w 79 c ad cap bs p .nilIface) (hE : ErrC a w) (hm : bs.getD p 0 = 4) (hp : p < bs.length) (hgt : bs.length < p + 1 + 4) :
    Calls Tryz.prog 19 #[.pointer (some ⟨c, 0, none⟩)] w (AreadEnd 79 false z16 c ad cap bs (p + 1) (.iface 211 (.pointer (some (a 1)))) w) := by
  have hb0 : Below w.heap.size w (w.alloc (.cells (adr false z16) 24)) := (Below.refl _ _).alloc (Nat.le_refl _) _
  have hlt := h.obj.lt
  have hB0 : Blk (w.alloc (.cells (adr false z16) 24)) w.heap.size 24 (adr false z16) := Blk.new w _ _
  have hne : w.heap.size ≠ c := by omega
  obtain ⟨W0, hW0⟩ : ∃ W, W = w.alloc (.cells (adr false z16) 24) := ⟨_, rfl⟩
  have h0 : Cur W0 79 c ad cap bs p .nilIface := hW0 ▸ h.kept hb0
  have hE0 : ErrC a W0 := hW0 ▸ hE.kept hb0
  rw [← hW0] at hB0
  refine (aread_four c false z16 rfl w (R1 := fun w1 => Cur w1 79 c ad cap bs (p + 1) .nilIface ∧ Keep c W0 w1)
    (R2 := fun v w2 => v = .slice none 0 0 ∧ Cur w2 79 c ad cap bs (p + 1) (.iface 211 (.pointer (some (a 1)))) ∧ Keep c W0 w2)
    (R3 := fun w3 => Cur w3 79 c ad cap bs (p + 1) (.iface 211 (.pointer (some (a 1)))) ∧ Keep c W0 w3) (by
      rw [← hW0]
      refine (num_ok h0 1 (by decide) (by decide) (by omega)).mono ?_
      rintro e w1 ⟨rfl, hC, hK⟩
      exact ⟨by rw [acc1 bs p h.byte, hm], hC, hK⟩) ?_ ?_ ?_).mono ?_
  · rintro w1 ⟨hz, hk⟩
    refine (bytes_short hz 4 (by omega) _ _ (hE0.keep h0 hk).short).mono ?_
    rintro e w2 ⟨rfl, hC, hK⟩
    exact ⟨_, rfl, rfl, hC, hk.trans hK⟩
  · rintro v w2 ⟨rfl, hC, hk⟩
    refine (from_bad none 0 0 (by decide) (by decide) _ w2 (hE0.keep h0 hk).form).mono ?_
    rintro e w3 ⟨rfl, hb⟩
    exact ⟨_, rfl, hC.kept hb, hk.trans (Keep.of hb (Nat.le_of_lt hC.obj.lt))⟩
  · rintro w3 ⟨_, hk⟩
    exact hk.blk hB0 hne
  · rintro e w' ⟨rfl, w3, V, ⟨h3, hk⟩, hV, rfl⟩
    rw [hW0] at hk
    obtain ⟨r1, r2⟩ := aread_fin h h3 hk hV (adr false z16)
    exact ⟨rfl, r1, r2⟩

theorem aread_six_ok (h : Cur w 79 c ad cap bs p .nilIface) (hm : bs.getD p 0 = 6) (hle : p + 1 + 16 ≤ bs.length) :
    Calls Tryz.prog 19 #[.pointer (some ⟨c, 0, none⟩)] w (AreadEnd 79 true (pad16 ((bs.drop (p + 1)).take 16)) c ad cap bs (p + 1 + 16) .nilIface w) := by
  have hb0 : Below w.heap.size w (w.alloc (.cells (adr false z16) 24)) := (Below.refl _ _).alloc (Nat.le_refl _) _
  have hlt := h.obj.lt
  have hB0 : Blk (w.alloc (.cells (adr false z16) 24)) w.heap.size 24 (adr false z16) := Blk.new w _ _
  have hne : w.heap.size ≠ c := by omega
  have hll : ((bs.drop (p + 1)).take 16).length = 16 := by rw [List.length_take, List.length_drop]; omega
  obtain ⟨W0, hW0⟩ : ∃ W, W = w.alloc (.cells (adr false z16) 24) := ⟨_, rfl⟩
  have h0 : Cur W0 79 c ad cap bs p .nilIface := hW0 ▸ h.kept hb0
  rw [← hW0] at hB0
  refine (aread_six c true (pad16 ((bs.drop (p + 1)).take 16)) (pad16_length _ (by omega)) w (R1 := fun w1 => Cur w1 79 c ad cap bs (p + 1) .nilIface ∧ Keep c W0 w1)
    (R2 := fun v w2 => ∃ g' cap', v = .slice (some ⟨g', 0, none⟩) 16 cap' ∧ (∀ j, j < ((bs.drop (p + 1)).take 16).length → w2.cell? ⟨g', j, none⟩ = some (.int .u8 (((bs.drop (p + 1)).take 16).getD j 0))) ∧ Cur w2 79 c ad cap bs (p + 1 + 16) .nilIface ∧ Keep c W0 w2)
    (R3 := fun w3 => Cur w3 79 c ad cap bs (p + 1 + 16) .nilIface ∧ Keep c W0 w3) (by
      rw [← hW0]
      refine (num_ok h0 1 (by decide) (by decide) (by omega)).mono ?_
      rintro e w1 ⟨rfl, hC, hK⟩
      exact ⟨by rw [acc1 bs p h.byte, hm], hC, hK⟩) ?_ ?_ ?_).mono ?_
  · rintro w1 ⟨hz, hk⟩
    refine (bytes_ok hz 16 (by decide) (by omega)).mono ?_
    rintro e w2 ⟨g', cap', rfl, _, hcl, _, hC, hK⟩
    exact ⟨_, rfl, g', cap', by rw [hll], hcl, hC, hk.trans hK⟩
  · rintro v w2 ⟨g', cap', rfl, hcl, hC, hk⟩
    refine (from_16 (some ⟨g', 0, none⟩) cap' ((bs.drop (p + 1)).take 16) hll w2 (fun j hj => ⟨g', 0, rfl, by rw [Nat.zero_add]; exact hcl j hj⟩)).mono ?_
    rintro e w3 ⟨rfl, hb⟩
    exact ⟨_, rfl, hC.kept hb, hk.trans (Keep.of hb (Nat.le_of_lt hC.obj.lt))⟩
  · rintro w3 ⟨_, hk⟩
    exact hk.blk hB0 hne
  · rintro e w' ⟨rfl, w3, V, ⟨h3, hk⟩, hV, rfl⟩
    rw [hW0] at hk
    obtain ⟨r1, r2⟩ := aread_fin h h3 hk hV (adr true (pad16 ((bs.drop (p + 1)).take 16)))
    exact ⟨rfl, r1, r2⟩

theorem aread_six_short (a : Nat → Addr) (h : Cur w 79 c ad cap bs p .nilIface) (hE : ErrC a w) (hm : bs.getD p 0 = 6) (hp : p < bs.length) (hgt : bs.length < p + 1 + 16) :
    Calls Tryz.prog 19 #[.pointer (some ⟨c, 0, none⟩)] w (AreadEnd 79 false z16 c ad cap bs (p + 1) (.iface 211 (.pointer (some (a 1)))) w) := by
  have hb0 : Below w.heap.size w (w.alloc (.cells (adr false z16) 24)) := (Below.refl _ _).alloc (Nat.le_refl _) _
  have hlt := h.obj.lt
  have hB0 : Blk (w.alloc (.cells (adr false z16) 24)) w.heap.size 24 (adr false z16) := Blk.new w _ _
  have hne : w.heap.size ≠ c := by omega
  obtain ⟨W0, hW0⟩ : ∃ W, W = w.alloc (.cells (adr false z16) 24) := ⟨_, rfl⟩
  have h0 : Cur W0 79 c ad cap bs p .nilIface := hW0 ▸ h.kept hb0
  have hE0 : ErrC a W0 := hW0 ▸ hE.kept hb0
  rw [← hW0] at hB0
  refine (aread_six c false z16 rfl w (R1 := fun w1 => Cur w1 79 c ad cap bs (p + 1) .nilIface ∧ Keep c W0 w1)
    (R2 := fun v w2 => v = .slice none 0 0 ∧ Cur w2 79 c ad cap bs (p + 1) (.iface 211 (.pointer (some (a 1)))) ∧ Keep c W0 w2)
    (R3 := fun w3 => Cur w3 79 c ad cap bs (p + 1) (.iface 211 (.pointer (some (a 1)))) ∧ Keep c W0 w3) (by
      rw [← hW0]
      refine (num_ok h0 1 (by decide) (by decide) (by omega)).mono ?_
      rintro e w1 ⟨rfl, hC, hK⟩
      exact ⟨by rw [acc1 bs p h.byte, hm], hC, hK⟩) ?_ ?_ ?_).mono ?_
  · rintro w1 ⟨hz, hk⟩
    refine (bytes_short hz 16 (by omega) _ _ (hE0.keep h0 hk).short).mono ?_
    rintro e w2 ⟨rfl, hC, hK⟩
    exact ⟨_, rfl, rfl, hC, hk.trans hK⟩
  · rintro v w2 ⟨rfl, hC, hk⟩
    refine (from_bad none 0 0 (by decide) (by decide) _ w2 (hE0.keep h0 hk).form).mono ?_
    rintro e w3 ⟨rfl, hb⟩
    exact ⟨_, rfl, hC.kept hb, hk.trans (Keep.of hb (Nat.le_of_lt hC.obj.lt))⟩
  · rintro w3 ⟨_, hk⟩
    exact hk.blk hB0 hne
  · rintro e w' ⟨rfl, w3, V, ⟨h3, hk⟩, hV, rfl⟩
    rw [hW0] at hk
    obtain ⟨r1, r2⟩ := aread_fin h h3 hk hV (adr false z16)
    exact ⟨rfl, r1, r2⟩

theorem aread_any (a : Nat → Addr) (h : Cur w 79 c ad cap bs p .nilIface) (hE : ErrC a w) :
    Calls Tryz.prog 19 #[.pointer (some ⟨c, 0, none⟩)] w (AreadEnd 79 (readA bs p).1.1 (readA bs p).1.2 c ad cap bs (readA bs p).2.1 (errV a (readA bs p).2.2) w) := by
  have hb0 : Below w.heap.size w (w.alloc (.cells (adr false z16) 24)) := (Below.refl _ _).alloc (Nat.le_refl _) _
  unfold readA
  by_cases hp : p < bs.length
  · rw [if_pos hp]
    by_cases h4 : bs.getD p 0 = 4
    · rw [if_pos h4]
      by_cases hl : p + 5 ≤ bs.length
      · rw [if_pos hl]
        exact aread_four_ok h h4 (by omega)
      · rw [if_neg hl]
        exact aread_four_short a h hE h4 hp (by omega)
    · rw [if_neg h4]
      by_cases h6 : bs.getD p 0 = 6
      · rw [if_pos h6]
        by_cases hl : p + 17 ≤ bs.length
        · rw [if_pos hl]
          exact aread_six_ok h h6 (by omega)
        · rw [if_neg hl]
          exact aread_six_short a h hE h6 hp (by omega)
      · rw [if_neg h6]
        refine aread_zero a (bs.getD p 0) (p + 1) .nilIface _ _ _ rfl h hE (by rw [beq_eq_false_iff_ne]; exact h4) (by rw [beq_eq_false_iff_ne]; exact h6) ?_
        refine (num_ok (h.kept hb0) 1 (by decide) (by decide) (by omega)).mono ?_
        rintro e w1 ⟨rfl, hC, hK⟩
        exact ⟨by rw [acc1 bs p h.byte], .nilIface, hC, .inr ⟨rfl, rfl⟩, hK⟩
  · rw [if_neg hp]
    refine aread_zero a 0 p .nilIface _ _ _ rfl h hE rfl rfl ?_
    refine (num_short (h.kept hb0) 1 (by decide) (by decide) (by have := h.le; omega) _ _ (hE.kept hb0).short).mono ?_
    rintro e w1 ⟨rfl, hC, hK⟩
    exact ⟨rfl, _, hC, .inl rfl, hK⟩

/-- Behind an error nothing is read. -/
theorem aread_err (a : Nat → Addr) (x : Value) (u : TypeId) (v : Value) (hx : x = .iface u v) (h : Cur w 79 c ad cap bs p x) (hE : ErrC a w) :
    Calls Tryz.prog 19 #[.pointer (some ⟨c, 0, none⟩)] w (AreadEnd 79 false z16 c ad cap bs p x w) := by
  have hb0 : Below w.heap.size w (w.alloc (.cells (adr false z16) 24)) := (Below.refl _ _).alloc (Nat.le_refl _) _
  subst hx
  refine aread_zero a 0 p _ _ _ _ rfl h hE rfl rfl ?_
  refine (num_bad (h.kept hb0) 1 (by decide) (by decide) ⟨_, (hE.kept hb0).short⟩).mono ?_
  rintro e w1 ⟨rfl, n, rfl⟩
  exact ⟨rfl, _, (h.kept hb0).drewN n, .inl rfl, keep_drewN c _ n⟩
end
end Go.Proofs.YtnfkgoeocebenaaGreatDoor
