/-
  The program's cursor: apart, At, Left, Place, Err, Fail, ahead, Num, Bytes, End, whether there is what is read or not.
-/
import Derived.Test.YtkpjdjenlmodnaaDoorEcur
namespace Go.Proofs.YtkpjdjenlmodnaaDoor
open Go.RowKit

theorem add_plain (b off k : Nat) : (⟨b, off, none⟩ : Addr).add k = ⟨b, off + k, none⟩ := by unfold Addr.add; split <;> simp_all
theorem Tryd.infoByte : (Tryd.prog.info? 5).map (fun i => (i.size, i.zero, i.bytes)) = some (1, some (.int .u8 0), 1) := by kernel_rfl
theorem own_shape {w : World} {base n : Nat} {v : Value} {xs : List Value} (h : w.ownsRow base 5 1 v n xs) (hn : 0 < n) : ∃ g cap, v = .slice (some ⟨g, 0, none⟩) n cap ∧ base ≤ g ∧ n ≤ cap ∧ g < w.heap.size := by
  rcases h.2 with ⟨_, h0⟩ | ⟨g, cap, cur, rfl, hb, hg, hnc, _⟩
  · omega
  · exact ⟨g, cap, rfl, hb, hnc, (Array.getElem?_eq_some_iff.1 hg).1⟩
theorem bytes_one (bs : List Int) : ∀ u ∈ bs.map (Value.int .u8), u.oneCell' = true := by
  intro u hu
  obtain ⟨x, _, rfl⟩ := List.mem_map.1 hu
  rfl

/-- A slice of bytes, and what a copy of it is. -/
def CpEnd (bs : List Int) (w : World) (e : Ending) (w' : World) : Prop :=
  ∃ ad cap, e = .returned (.slice ad bs.length cap) ∧ bs.length ≤ cap ∧ (∀ j, j < bs.length → ∃ g, ad = some ⟨g, 0, none⟩ ∧ w.heap.size ≤ g ∧ g < w'.heap.size ∧ w'.cell? ⟨g, j, none⟩ = some (.int .u8 (bs.getD j 0))) ∧ Below w.heap.size w w'

set_option maxHeartbeats 1000000 in
theorem apart_none (w : World) : Calls Tryd.prog 33 #[.slice none 0 0] w fun e w' => e = .returned (.slice none 0 0) ∧ w' = w := by
  go_enter Tryd.func33, Tryd.ntmps33
  go_wp2
  go_ret
  exact ⟨rfl, rfl⟩

set_option maxHeartbeats 1000000 in
theorem apart_zero (a : Addr) (cap : Nat) (w : World) : Calls Tryd.prog 33 #[.slice (some a) 0 cap] w fun e w' => e = .returned (.slice (some a) 0 0) ∧ w' = w := by
  go_enter Tryd.func33, Tryd.ntmps33
  go_wp2
  go_ret
  exact ⟨rfl, rfl⟩

set_option maxHeartbeats 1000000 in
theorem apart_some (w : World) (g o cap : Nat) (bs : List Int) (hc : ∀ j, j < bs.length → w.cell? ⟨g, o + j, none⟩ = some (.int .u8 (bs.getD j 0))) (h0 : 0 < bs.length) (h1 : bs.length ≤ 1000000) :
    Calls Tryd.prog 33 #[.slice (some ⟨g, o, none⟩) bs.length cap] w (CpEnd bs w) := by
  obtain ⟨i0, hi, hp⟩ := Option.map_eq_some_iff.1 Tryd.infoByte
  simp only [Prod.mk.injEq] at hp
  obtain ⟨hz1, hz0, hz2⟩ := hp
  have hcell : ∀ j u, (bs.map (Value.int .u8))[j]? = some u → w.cell? ((⟨g, o, none⟩ : Addr).add j) = some u := by
    intro j u hu
    rw [add_plain]
    rw [List.getElem?_map] at hu
    obtain ⟨x, hx, rfl⟩ := Option.map_eq_some_iff.1 hu
    have hj : j < bs.length := (List.getElem?_eq_some_iff.1 hx).1
    rw [hc j hj, List.getD, hx]
    rfl
  have HC := Lib.hid hcell
  clear hcell hc
  go_enter Tryd.func33, Tryd.ntmps33
  go_wp2_with (at_builtin; refine wpList_append_grows _ rfl (.tmp 4) (.tmp 5) 22 rfl 5 i0 (.int .u8 0) 1 1 Tryd.underlying22 hi hz0 hz1 hz2 rfl (by decide) _ 0 0 [] rfl (by intro h; cases h) rfl ?c2 ⟨g, o, none⟩ bs.length cap (bs.map (Value.int .u8)) rfl ?c3 HC.out (bytes_one _) ?c4 ?c5 ?c6 ?_; rotate_right; intro v' w1 hown hgrow)
  case c2 => intro b _ j u hu; simp at hu
  case c3 => simp
  case c4 => omega
  case c5 => unfold maxLen; omega
  case c6 => omega
  go_ret
  simp only [Nat.zero_add, List.nil_append] at hown
  obtain ⟨g', cap', rfl, hg1, hg2, hg3⟩ := own_shape hown h0
  refine ⟨some ⟨g', 0, none⟩, cap', rfl, hg2, fun j hj => ⟨g', rfl, hg1, hg3, ?_⟩, (Below.refl _ _).grown hgrow (Nat.le_refl _) (fun k hk => by cases hk)⟩
  rw [hown.cellAt j (by omega)]
  simp [List.getD, List.getElem?_map, List.getElem?_eq_getElem hj]

/-- A copy of whatever row of bytes. -/
theorem apart_any (w : World) (c : Nat) (ad : Option Addr) (cap : Nat) (bs : List Int) (h : Row w c ad bs) (hn : ad = none → cap = 0) (h1 : bs.length ≤ 1000000) :
    Calls Tryd.prog 33 #[.slice ad bs.length cap] w (CpEnd bs w) := by
  by_cases h0 : 0 < bs.length
  · obtain ⟨g, o, rfl, _, _⟩ := h 0 h0
    exact apart_some w g o cap bs (fun j hj => by
      obtain ⟨g', o', e, _, hc⟩ := h j hj
      cases e
      exact hc) h0 h1
  · have hl : bs.length = 0 := by omega
    rw [hl]
    cases ad with
    | none =>
      rw [hn rfl]
      refine (apart_none w).mono ?_
      rintro e w' ⟨rfl, rfl⟩
      exact ⟨none, 0, by rw [hl], by omega, fun j hj => by omega, Below.refl _ _⟩
    | some a =>
      refine (apart_zero a cap w).mono ?_
      rintro e w' ⟨rfl, rfl⟩
      exact ⟨some a, 0, by rw [hl], by omega, fun j hj => by omega, Below.refl _ _⟩

set_option maxHeartbeats 1000000 in
theorem at_any (w : World) (c : Nat) (ad : Option Addr) (cap : Nat) (bs : List Int) (h : Row w c ad bs) (hn : ad = none → cap = 0) (h1 : bs.length ≤ 1000000) (hby : ∀ j, 0 ≤ bs.getD j 0 ∧ bs.getD j 0 ≤ 255) :
    Calls Tryd.prog 29 #[.slice ad bs.length cap] w fun e w' => ∃ c' ad' cap', e = .returned (.pointer (some ⟨c', 0, none⟩)) ∧ Cur w' 78 c' ad' cap' bs 0 .nilIface ∧ w.heap.size ≤ c' ∧ (∀ g o, ad' = some ⟨g, o, none⟩ → 0 < bs.length → w.heap.size ≤ g) ∧ Below w.heap.size w w' := by
  have HA := Lib.hid (apart_any w c ad cap bs h hn h1)
  have HB := Lib.hid hby
  clear h hby
  go_enter Tryd.func29, Tryd.ntmps29
  go_wp2_with fail
  refine HA.out.mono ?_
  rintro e w1 ⟨ad', cap', rfl, hcap, hcl, hb⟩
  have hsz := hb.size
  have HO := Lib.hid hcl
  clear hcl
  go_wp2
  go_ret
  refine ⟨w1.heap.size, ad', cap', rfl, ⟨Blk.new w1 _ _, fun j hj => ?_, Nat.zero_le _, hcap, h1, HB.out⟩, hsz, fun g o e hl => ?_, hb.alloc hsz _⟩
  · obtain ⟨g, rfl, _, hg2, hc⟩ := HO.out j hj
    exact ⟨g, 0, rfl, by omega, by rw [Nat.zero_add]; exact cell_stays hc ((Below.refl _ _).alloc (Nat.le_refl _) _)⟩
  · obtain ⟨g', e', hg1, _, _⟩ := HO.out 0 hl
    rw [e'] at e
    cases e
    exact hg1

section
variable {w : World} {c : Nat} {ad : Option Addr} {cap : Nat} {bs : List Int} {p : Nat} {x : Value}

set_option maxHeartbeats 1000000 in
theorem left_any (h : Cur w 78 c ad cap bs p x) : Calls Tryd.prog 32 #[.pointer (some ⟨c, 0, none⟩)] w (Drew (.int .i64 ((bs.length : Int) - (p : Int))) w) := by
  have h0 := h.cell0
  have h1 := h.cell1
  have hm := h.most
  have hp := h.le
  have H := Lib.hid h
  clear h
  go_enter Tryd.func32, Tryd.ntmps32
  go_wp2
  go_quiet (fail)
  go_wp2
  go_ret
  exact ⟨rfl, _, rfl⟩

set_option maxHeartbeats 1000000 in
theorem fail_skip {u : TypeId} {v : Value} (h : Cur w 78 c ad cap bs p (.iface u v)) (y : Value) : Calls Tryd.prog 34 #[.pointer (some ⟨c, 0, none⟩), y] w fun e w' => (∃ r, e = .returned r) ∧ w = w' := by
  have h1 := h.cell2
  clear h
  go_enter Tryd.func34, Tryd.ntmps34
  go_wp2
  go_end0
  exact ⟨⟨_, rfl⟩, rfl⟩

set_option maxHeartbeats 1000000 in
theorem fail_set (h : Cur w 78 c ad cap bs p .nilIface) (u : TypeId) (v : Value) : Calls Tryd.prog 34 #[.pointer (some ⟨c, 0, none⟩), .iface u v] w fun e w' => (∃ r, e = .returned r) ∧ Cur w' 78 c ad cap bs p (.iface u v) ∧ Keep c w w' := by
  have h1 := h.cell2
  have hf := h.free 2
  have H := Lib.hid h
  clear h
  go_enter Tryd.func34, Tryd.ntmps34
  go_wp2
  go_end0
  exact ⟨⟨_, rfl⟩, H.out.fails (.iface u v), Keep.set w c 2 (.iface u v)⟩

set_option maxHeartbeats 1000000 in
theorem ahead_bad {u : TypeId} {v : Value} (h : Cur w 78 c ad cap bs p (.iface u v)) (m : Nat) (hs : ∃ y, w.cell? ⟨1, 0, none⟩ = some y) :
    Calls Tryd.prog 35 #[.pointer (some ⟨c, 0, none⟩), .int .i64 m] w (Drew (.slice none 0 0) w) := by
  obtain ⟨y, hy⟩ := hs
  have hm := h.most
  have hp := h.le
  have h2 := h.cell2
  have H := Lib.hid h
  have HF := Lib.hid (fun n => fail_skip (h.drewN n) y)
  clear h
  have q0 : decide ((m : Int) < 0) = false := by simp
  by_cases hgt : bs.length - p < m
  · have q1 : decide ((m : Int) > (bs.length : Int) - (p : Int)) = true := decide_eq_true (by omega)
    have q1' : decide ((bs.length : Int) - (p : Int) < (m : Int)) = true := decide_eq_true (by omega)
    go_enter Tryd.func35, Tryd.ntmps35
    go_wp2_with fail
    refine (left_any H.out).mono ?_
    rintro e w' ⟨rfl, n, rfl⟩
    go_wp2_with fail
    refine (HF.out n).mono ?_
    rintro e w' ⟨⟨r, rfl⟩, rfl⟩
    go_wp2
    go_ret
    exact ⟨rfl, n, rfl⟩
  · have q1 : decide ((m : Int) > (bs.length : Int) - (p : Int)) = false := decide_eq_false (by omega)
    have q1' : decide ((bs.length : Int) - (p : Int) < (m : Int)) = false := decide_eq_false (by omega)
    go_enter Tryd.func35, Tryd.ntmps35
    go_wp2_with fail
    refine (left_any H.out).mono ?_
    rintro e w' ⟨rfl, n, rfl⟩
    go_wp2
    go_ret
    exact ⟨rfl, n, rfl⟩

set_option maxHeartbeats 1000000 in
theorem ahead_short (h : Cur w 78 c ad cap bs p .nilIface) (m : Nat) (hgt : bs.length - p < m) (u : TypeId) (v : Value) (hs : w.cell? ⟨1, 0, none⟩ = some (.iface u v)) :
    Calls Tryd.prog 35 #[.pointer (some ⟨c, 0, none⟩), .int .i64 m] w (CurEnd (.slice none 0 0) 78 c ad cap bs p (.iface u v) w) := by
  have hm := h.most
  have hp := h.le
  have H := Lib.hid h
  have HF := Lib.hid (fun n => fail_set (h.drewN n) u v)
  clear h
  have q0 : decide ((m : Int) < 0) = false := by simp
  have q1 : decide ((m : Int) > (bs.length : Int) - (p : Int)) = true := decide_eq_true (by omega)
  have q1' : decide ((bs.length : Int) - (p : Int) < (m : Int)) = true := decide_eq_true (by omega)
  go_enter Tryd.func35, Tryd.ntmps35
  go_wp2_with fail
  refine (left_any H.out).mono ?_
  rintro e w' ⟨rfl, n, rfl⟩
  go_wp2_with fail
  refine (HF.out n).mono ?_
  rintro e w' ⟨⟨r, rfl⟩, hC, hK⟩
  have h2 := hC.cell2
  have HC := Lib.hid hC
  have HK := Lib.hid hK
  clear hC hK
  go_wp2
  go_ret
  exact ⟨rfl, HC.out, (keep_drewN c w n).trans HK.out⟩

set_option maxHeartbeats 1000000 in
theorem ahead_ok {g o : Nat} (h : Cur w 78 c (some ⟨g, o, none⟩) cap bs p .nilIface) (m : Nat) (hm1 : 1 ≤ m) (hm2 : p + m ≤ bs.length) :
    Calls Tryd.prog 35 #[.pointer (some ⟨c, 0, none⟩), .int .i64 m] w (Drew (.slice (some ⟨g, o + p, none⟩) m m) w) := by
  have h0 := h.cell0
  have h1 := h.cell1
  have h2 := h.cell2
  have hm := h.most
  have hcap := h.room
  have H := Lib.hid h
  clear h
  go_enter Tryd.func35, Tryd.ntmps35
  go_wp2_with fail
  refine (left_any H.out).mono ?_
  rintro e w' ⟨rfl, n, rfl⟩
  go_wp2_with fail
  go_quiet (fail)
  go_wp2
  go_ret
  refine ⟨?_, n + nq, drewN_drewN _ _ _⟩
  have e1 : p + m - p = m := by omega
  show Ending.returned (.slice (some ⟨g, o + p, none⟩) (p + m - p) (p + m - p)) = _
  rw [e1]
end
end Go.Proofs.YtkpjdjenlmodnaaDoor
