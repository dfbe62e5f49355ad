/-
  ports.Right, and ports.parsePort: figures, where they are a port's.
-/
import Derived.Test.YtnfkgoeocebenaaGreatDoorP16
import Derived.Test.YtnfkgoeocebenaaGreatDoorPpure
namespace Go.Proofs.YtnfkgoeocebenaaGreatDoor
open Go.RowKit

/-- Is it a port? -/
def rp (n : Int) : Bool := decide (1 ≤ n) && decide (n ≤ 65535)

theorem pright_any (n : Int) (w : World) : Calls Tryz.prog 81 #[.int .i64 n] w fun e w' => e = .returned (.bool (rp n)) ∧ w = w' := by
  unfold rp
  by_cases h1 : 1 ≤ n
  · have q1 : decide (n ≥ 1) = true := decide_eq_true h1
    have q1' : decide (1 ≤ n) = true := decide_eq_true h1
    rw [q1', Bool.true_and]
    go_enter Tryz.func81, Tryz.ntmps81
    go_wp2
    go_ret
    exact ⟨rfl, rfl⟩
  · have q1 : decide (n ≥ 1) = false := decide_eq_false h1
    have q1' : decide (1 ≤ n) = false := decide_eq_false h1
    rw [q1', Bool.false_and]
    go_enter Tryz.func81, Tryz.ntmps81
    go_wp2
    go_ret
    exact ⟨rfl, rfl⟩

theorem head_at0 (x : ByteArray) (h : 0 < x.size) : x.data.toList.head? = some (x[0]'h) := by
  obtain ⟨⟨l⟩⟩ := x
  cases l with
  | nil => simp [ByteArray.size] at h
  | cons a l => rfl

set_option maxRecDepth 100000 in
set_option maxHeartbeats 2000000 in
theorem pport_good (s : ByteArray) (hs : s.size ≤ 1000) (u : Nat) (h : Lib.parseUintB 16 s.data.toList = .ok u) (hu : u ≤ 65535) (h0 : 0 < s.size) (hz : s.data.toList.head? ≠ some 48) (w : World) :
    Calls Tryz.prog 75 #[.string s] w fun e w' => e = .returned (.tuple #[.int .i64 (u : Int), .bool true]) ∧ Below w.heap.size w w' := by
  have HP := Lib.hid (pd16_ok s (by omega) u h)
  have eu : IntKind.i64.wrap (u : Int) = (u : Int) := by simp only [IntKind.wrap, IntKind.signed, IntKind.bits]; simp; omega
  have h48' : ((s[0].toNat : Int) == 48) = false := by
    rw [beq_eq_false_iff_ne]
    intro e
    apply hz
    rw [head_at0 s h0]
    congr 1
    exact UInt8.toNat_inj.1 (by simpa using (Int.ofNat.inj e))
  clear hz h
  go_enter Tryz.func75, Tryz.ntmps75
  go_wp2_with fail
  refine (HP.out w).mono ?_
  rintro e w1 ⟨rfl, hb1⟩
  go_wp2
  go_ret2
  exact ⟨rfl, hb1⟩

set_option maxRecDepth 100000 in
set_option maxHeartbeats 2000000 in
theorem pport_bad (s : ByteArray) (hs : s.size ≤ 1000) (h : ∀ u, Lib.parseUintB 16 s.data.toList ≠ .ok u) (E : Value) (w : World) (hE : Env E w) :
    Calls Tryz.prog 75 #[.string s] w fun e w' => e = .returned (.tuple #[.int .i64 0, .bool false]) ∧ Below w.heap.size w w' := by
  have HP := Lib.hid (pd16_bad s (by omega) h E w hE)
  clear h hE
  go_enter Tryz.func75, Tryz.ntmps75
  go_wp2_with fail
  refine HP.out.mono ?_
  rintro e w1 ⟨v, p, rfl, hb1⟩
  go_wp2
  go_ret2
  exact ⟨rfl, hb1⟩

set_option maxRecDepth 100000 in
set_option maxHeartbeats 2000000 in
theorem pport_zero (s : ByteArray) (hs : s.size ≤ 1000) (u : Nat) (h : Lib.parseUintB 16 s.data.toList = .ok u) (h0 : 0 < s.size) (hz : s.data.toList.head? = some 48) (w : World) :
    Calls Tryz.prog 75 #[.string s] w fun e w' => e = .returned (.tuple #[.int .i64 0, .bool false]) ∧ Below w.heap.size w w' := by
  have HP := Lib.hid (pd16_ok s (by omega) u h)
  have h48 : s[0] = 48 := by
    have := head_at0 s h0
    rw [hz] at this
    exact (Option.some.inj this).symm
  have h48' : ((s[0].toNat : Int) == 48) = true := by rw [h48]; rfl
  clear hz h48 h
  go_enter Tryz.func75, Tryz.ntmps75
  go_wp2_with fail
  refine (HP.out w).mono ?_
  rintro e w1 ⟨rfl, hb1⟩
  go_wp2
  go_ret2
  exact ⟨rfl, hb1⟩

theorem pport_any (s : ByteArray) (hs : s.size ≤ 1000) (E : Value) (w : World) (hE : Env E w) :
    Calls Tryz.prog 75 #[.string s] w fun e w' => e = .returned (.tuple #[.int .i64 (((port s.data.toList).getD 0 : Nat) : Int), .bool (port s.data.toList).isSome]) ∧ Below w.heap.size w w' := by
  by_cases hok : ∃ u, Lib.parseUintB 16 s.data.toList = .ok u
  · obtain ⟨u, hu⟩ := hok
    have hne : s.data.toList ≠ [] := fun e => by rw [e] at hu; simp [Lib.parseUintB] at hu
    have h0 : 0 < s.size := by rw [Lib.size_eq]; exact List.length_pos_iff.2 hne
    have hle : u ≤ 65535 := by
      unfold Lib.parseUintB at hu
      rw [if_neg hne] at hu
      obtain ⟨_, h2, h3⟩ := parse16_ok _ 0 u (by omega) hu
      omega
    by_cases hz : s.data.toList.head? = some 48
    · rw [port_zero _ hz]
      exact pport_zero s hs u hu h0 hz w
    · rw [port_ok _ u hu hz]
      exact pport_good s hs u hu hle h0 hz w
  · have hno : ∀ u, Lib.parseUintB 16 s.data.toList ≠ .ok u := fun u hu => hok ⟨u, hu⟩
    rw [port_bad _ hno]
    exact pport_bad s hs hno E w hE
end Go.Proofs.YtnfkgoeocebenaaGreatDoor
