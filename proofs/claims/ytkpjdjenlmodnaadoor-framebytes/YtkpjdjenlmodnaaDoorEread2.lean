/-
  The program's cursor: Num, Bytes, End.
-/
import Derived.Test.YtkpjdjenlmodnaaDoorEread
namespace Go.Proofs.YtkpjdjenlmodnaaDoor
open Go.RowKit

/-- The number of the first k bytes from p on, the high one first. -/
def accN (bs : List Int) (p : Nat) : Nat → Nat
  | 0 => 0
  | k + 1 => accN bs p k * 256 + (bs.getD (p + k) 0).toNat
theorem accN_lt (bs : List Int) (p : Nat) (hb : ∀ j, 0 ≤ bs.getD j 0 ∧ bs.getD j 0 ≤ 255) : ∀ k, accN bs p k < 256 ^ k
  | 0 => by simp [accN]
  | k + 1 => by
    have := accN_lt bs p hb k
    have h2 := hb (p + k)
    rw [accN, Nat.pow_succ]
    omega
theorem or_add (q b : Nat) (hb : b < 256) : (q * 256) ||| b = q * 256 + b := by
  have := Nat.two_pow_add_eq_or_of_lt (i := 8) (b := b) (by omega) q
  rw [Nat.mul_comm q 256]
  exact this.symm
theorem or_step (q b : Nat) (hb : b < 256) (hq : q < 281474976710656) : bits .or .u64 (IntKind.u64.wrap ((q : Int) * 256)) (IntKind.u64.wrap (b : Int)) = ((q * 256 + b : Nat) : Int) := by
  have e1 : IntKind.u64.wrap ((q : Int) * 256) = ((q * 256 : Nat) : Int) := by rw [IntKind.wrap_u64]; omega
  have e2 : IntKind.u64.wrap (b : Int) = (b : Int) := by rw [IntKind.wrap_u64]; omega
  rw [e1, e2, bits_or_u64_nat _ _ (by omega) (by omega), or_add _ _ hb]

section
variable {w : World} {c : Nat} {ad : Option Addr} {cap : Nat} {bs : List Int} {p : Nat} {x : Value}

set_option maxHeartbeats 1000000 in
theorem num_bad {u : TypeId} {v : Value} (h : Cur w 78 c ad cap bs p (.iface u v)) (s : Nat) (h1 : 1 ≤ s) (h2 : s ≤ 8) (hs : ∃ y, w.cell? ⟨1, 0, none⟩ = some y) :
    Calls Tryd.prog 30 #[.pointer (some ⟨c, 0, none⟩), .int .i64 s] w (Drew (.int .i64 0) w) := by
  have HA := Lib.hid (ahead_bad h s hs)
  have c2 := h.cell2
  have d1 : decide ((s : Int) < 1) = false := by simp; omega
  have d2 : decide ((8 : Int) < (s : Int)) = false := by simp; omega
  clear h hs
  go_enter Tryd.func30, Tryd.ntmps30
  go_wp2_with fail
  refine HA.out.mono ?_
  rintro e w' ⟨rfl, m, rfl⟩
  go_wp2_with fail
  go_loop [5, 21] (fun v i => v = .int .u64 0 ∧ i = .int .i64 0) (fun _ _ => 0)
  case atStart => exact ⟨rfl, rfl⟩
  case round =>
    obtain ⟨rfl, rfl⟩ := hrel
    go_wp2
    go_ret
    exact ⟨rfl, m, rfl⟩

set_option maxHeartbeats 1000000 in
theorem num_short (h : Cur w 78 c ad cap bs p .nilIface) (s : Nat) (h1 : 1 ≤ s) (h2 : s ≤ 8) (hgt : bs.length - p < s) (u : TypeId) (v : Value) (hs : w.cell? ⟨1, 0, none⟩ = some (.iface u v)) :
    Calls Tryd.prog 30 #[.pointer (some ⟨c, 0, none⟩), .int .i64 s] w (CurEnd (.int .i64 0) 78 c ad cap bs p (.iface u v) w) := by
  have HA := Lib.hid (ahead_short h s hgt u v hs)
  have d1 : decide ((s : Int) < 1) = false := by simp; omega
  have d2 : decide ((8 : Int) < (s : Int)) = false := by simp; omega
  clear h hs
  go_enter Tryd.func30, Tryd.ntmps30
  go_wp2_with fail
  refine HA.out.mono ?_
  rintro e w' ⟨rfl, hC, hK⟩
  have c2 := hC.cell2
  have HC := Lib.hid hC
  have HK := Lib.hid hK
  clear hC hK
  go_wp2_with fail
  go_loop [5, 21] (fun v i => v = .int .u64 0 ∧ i = .int .i64 0) (fun _ _ => 0)
  case atStart => exact ⟨rfl, rfl⟩
  case round =>
    obtain ⟨rfl, rfl⟩ := hrel
    go_wp2
    go_ret
    exact ⟨rfl, HC.out, HK.out⟩

set_option maxHeartbeats 1000000 in
theorem num_ok (h : Cur w 78 c ad cap bs p .nilIface) (s : Nat) (h1 : 1 ≤ s) (h2 : s ≤ 6) (hle : p + s ≤ bs.length) :
    Calls Tryd.prog 30 #[.pointer (some ⟨c, 0, none⟩), .int .i64 s] w (CurEnd (.int .i64 (accN bs p s)) 78 c ad cap bs (p + s) .nilIface w) := by
  obtain ⟨g, o, rfl, _, _⟩ := h.row 0 (by omega)
  have c1 := h.cell1
  have c2 := h.cell2
  have hf := h.free 1
  have hm := h.most
  have HC : Hid (∀ k, k < s → w.cell? ⟨g, o + p + k, none⟩ = some (.int .u8 (((bs.getD (p + k) 0).toNat : Nat) : Int))) := Lib.hid fun k hk => by
    obtain ⟨g', o', e, _, hc⟩ := h.row (p + k) (by omega)
    cases e
    rw [Nat.add_assoc, hc, Int.toNat_of_nonneg (h.byte (p + k)).1]
  have HB := Lib.hid h.byte
  have HA := Lib.hid (accN_lt bs p h.byte)
  have H := Lib.hid h
  clear h
  have d1 : decide ((s : Int) < 1) = false := by simp; omega
  have d2 : decide ((8 : Int) < (s : Int)) = false := by simp; omega
  go_enter Tryd.func30, Tryd.ntmps30
  go_wp2_with fail
  refine (ahead_ok H.out s h1 hle).mono ?_
  rintro e w' ⟨rfl, m, rfl⟩
  go_wp2_with fail
  go_loop [5, 21] (fun v i => ∃ k : Nat, k ≤ s ∧ i = .int .i64 k ∧ v = .int .u64 (accN bs p k : Nat)) (fun _ i => s - (intOf i).toNat)
  case atStart => exact ⟨0, Nat.zero_le _, rfl, rfl⟩
  case round =>
    obtain ⟨k, hk, rfl, rfl⟩ := hrel
    by_cases hlt : k < s
    · obtain ⟨q, hq⟩ : ∃ q, q = accN bs p k := ⟨_, rfl⟩
      obtain ⟨b, hb⟩ : ∃ b, b = (bs.getD (p + k) 0).toNat := ⟨_, rfl⟩
      have hc := HC.out k hlt
      have hq2 : q < 256 ^ 6 := by
        rw [hq]
        exact Nat.lt_of_lt_of_le (HA.out k) (Nat.pow_le_pow_right (by omega) (by omega))
      have hb2 : b < 256 := by
        have := HB.out (p + k)
        rw [hb]
        omega
      have e : accN bs p (k + 1) = q * 256 + b := by rw [accN, ← hq, ← hb]
      have HE : Hid (bits .or .u64 (IntKind.u64.wrap ((q : Int) * 256)) (IntKind.u64.wrap (b : Int)) = ((accN bs p (k + 1) : Nat) : Int)) := Lib.hid (by rw [e]; exact or_step q b hb2 (by omega))
      rw [← hb] at hc
      rw [← hq]
      clear hq hb e hb2 hq2
      go_wp2
      go_round
      case rel => exact ⟨k + 1, by omega, by go_num, congrArg (Value.int .u64) HE.out⟩
      case measure => simp [intOf]; omega
    · obtain rfl : k = s := by omega
      have hq2 : accN bs p k < 256 ^ 6 := Nat.lt_of_lt_of_le (HA.out k) (Nat.pow_le_pow_right (by omega) (by omega))
      obtain ⟨q, hq⟩ : ∃ q, q = accN bs p k := ⟨_, rfl⟩
      rw [← hq] at hq2 ⊢
      have G1 := Lib.hid ((H.out.drewN m).goes (p + k) hle)
      have B1 : Hid (Keep c w ((w.drewN m).setCell ⟨c, 1, none⟩ (.int .i64 ((p + k : Nat) : Int)))) := Lib.hid ((keep_drewN c w m).trans (Keep.set _ c 1 _))
      have HQ := Lib.hid hq
      clear hq HA HB HC
      go_wp2
      go_ret
      exact ⟨by rw [← HQ.out]; rfl, G1.out, B1.out⟩

set_option maxHeartbeats 1000000 in
theorem bytes_bad {u : TypeId} {v : Value} (h : Cur w 78 c ad cap bs p (.iface u v)) (m : Nat) (hs : ∃ y, w.cell? ⟨1, 0, none⟩ = some y) :
    Calls Tryd.prog 31 #[.pointer (some ⟨c, 0, none⟩), .int .i64 m] w (CurEnd (.slice none 0 0) 78 c ad cap bs p (.iface u v) w) := by
  have HA := Lib.hid (ahead_bad h m hs)
  have c1 := h.cell1
  have hf := h.free 1
  have hm := h.most
  have hp := h.le
  have H := Lib.hid h
  clear h hs
  go_enter Tryd.func31, Tryd.ntmps31
  go_wp2_with fail
  refine HA.out.mono ?_
  rintro e w' ⟨rfl, n, rfl⟩
  have G1 := Lib.hid ((H.out.drewN n).goes p hp)
  have B1 : Hid (Keep c w ((w.drewN n).setCell ⟨c, 1, none⟩ (.int .i64 (p : Int)))) := Lib.hid ((keep_drewN c w n).trans (Keep.set _ c 1 _))
  go_wp2_with fail
  refine (apart_none _).mono ?_
  rintro e w' ⟨rfl, rfl⟩
  go_wp2
  go_ret
  exact ⟨rfl, G1.out, B1.out⟩

set_option maxHeartbeats 1000000 in
theorem bytes_short (h : Cur w 78 c ad cap bs p .nilIface) (m : Nat) (hgt : bs.length - p < m) (u : TypeId) (v : Value) (hs : w.cell? ⟨1, 0, none⟩ = some (.iface u v)) :
    Calls Tryd.prog 31 #[.pointer (some ⟨c, 0, none⟩), .int .i64 m] w (CurEnd (.slice none 0 0) 78 c ad cap bs p (.iface u v) w) := by
  have HA := Lib.hid (ahead_short h m hgt u v hs)
  have hm := h.most
  have hp := h.le
  clear h hs
  go_enter Tryd.func31, Tryd.ntmps31
  go_wp2_with fail
  refine HA.out.mono ?_
  rintro e w' ⟨rfl, hC, hK⟩
  have c1 := hC.cell1
  have hf := hC.free 1
  have G1 := Lib.hid (hC.goes p hp)
  have B1 : Hid (Keep c w (w'.setCell ⟨c, 1, none⟩ (.int .i64 (p : Int)))) := Lib.hid (hK.trans (Keep.set _ c 1 _))
  clear hC hK
  go_wp2_with fail
  refine (apart_none _).mono ?_
  rintro e w' ⟨rfl, rfl⟩
  go_wp2
  go_ret
  exact ⟨rfl, G1.out, B1.out⟩

/-- What a read of bytes ends in: a copy of them, in memory of its own. -/
def BytesEnd (l : List Int) (c : Nat) (ad : Option Addr) (cap : Nat) (bs : List Int) (q : Nat) (w : World) (e : Ending) (w' : World) : Prop :=
  ∃ g' cap', e = .returned (.slice (some ⟨g', 0, none⟩) l.length cap') ∧ l.length ≤ cap' ∧ (∀ j, j < l.length → w'.cell? ⟨g', j, none⟩ = some (.int .u8 (l.getD j 0))) ∧ w.heap.size ≤ g' ∧ Cur w' 78 c ad cap bs q .nilIface ∧ Keep c w w'

set_option maxHeartbeats 1000000 in
theorem bytes_ok (h : Cur w 78 c ad cap bs p .nilIface) (m : Nat) (h1 : 1 ≤ m) (hle : p + m ≤ bs.length) :
    Calls Tryd.prog 31 #[.pointer (some ⟨c, 0, none⟩), .int .i64 m] w (BytesEnd ((bs.drop p).take m) c ad cap bs (p + m) w) := by
  obtain ⟨g, o, rfl, hgc, _⟩ := h.row 0 (by omega)
  have c1 := h.cell1
  have hf := h.free 1
  have hm := h.most
  have hlen : ((bs.drop p).take m).length = m := by rw [List.length_take, List.length_drop]; omega
  have hc : ∀ j, j < m → w.cell? ⟨g, o + p + j, none⟩ = some (.int .u8 (((bs.drop p).take m).getD j 0)) := fun j hj => by
    obtain ⟨g', o', e, _, hc⟩ := h.row (p + j) (by omega)
    cases e
    rw [Nat.add_assoc, hc]
    simp [List.getD, List.getElem?_drop, hj]
  obtain ⟨L, hL⟩ : ∃ L, L = (bs.drop p).take m := ⟨_, rfl⟩
  rw [← hL] at hlen hc
  rw [← hL]
  have HL := Lib.hid hlen
  have H := Lib.hid h
  have HA : Hid (∀ n, Calls Tryd.prog 33 #[.slice (some ⟨g, o + p, none⟩) m m] ((w.drewN n).setCell ⟨c, 1, none⟩ (.int .i64 ((p + m : Nat) : Int))) (CpEnd L ((w.drewN n).setCell ⟨c, 1, none⟩ (.int .i64 ((p + m : Nat) : Int))))) := Lib.hid fun n => by
    have := apart_some ((w.drewN n).setCell ⟨c, 1, none⟩ (.int .i64 ((p + m : Nat) : Int))) g (o + p) m L (fun j hj => by
      have := hc j (by omega)
      exact ((keep_drewN c w n).trans (Keep.set _ c 1 _)).cell this hgc) (by omega) (by omega)
    rw [hlen] at this
    exact this
  clear h hc hlen hL
  have hlt : c < w.heap.size := H.out.obj.lt
  go_enter Tryd.func31, Tryd.ntmps31
  go_wp2_with fail
  refine (ahead_ok H.out m h1 hle).mono ?_
  rintro e w' ⟨rfl, n, rfl⟩
  have G1 := Lib.hid ((H.out.drewN n).goes (p + m) hle)
  have B1 : Hid (Keep c w ((w.drewN n).setCell ⟨c, 1, none⟩ (.int .i64 ((p + m : Nat) : Int)))) := Lib.hid ((keep_drewN c w n).trans (Keep.set _ c 1 _))
  go_wp2_with fail
  refine (HA.out n).mono ?_
  rintro e w' ⟨ad', cap', rfl, hcap, hcl, hb⟩
  have hsz : w.heap.size ≤ ((w.drewN n).setCell ⟨c, 1, none⟩ (.int .i64 ((p + m : Nat) : Int))).heap.size := B1.out.low.size
  have F : Hid (BytesEnd L c (some ⟨g, o, none⟩) cap bs (p + m) w (.returned (.slice ad' L.length cap')) w') := by
    obtain ⟨g', rfl, hg1, _, _⟩ := hcl 0 (by rw [HL.out]; omega)
    refine Lib.hid ⟨g', cap', rfl, hcap, fun j hj => ?_, by omega, G1.out.kept hb, B1.out.trans (Keep.of hb (by omega))⟩
    obtain ⟨g2, e, _, _, hx⟩ := hcl j hj
    cases e
    exact hx
  clear hcl hb G1 B1 hsz
  go_wp2
  go_ret
  exact F.out


end
end Go.Proofs.YtkpjdjenlmodnaaDoor
