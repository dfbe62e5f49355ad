/-
  strconv.FormatUint(n, 16), n below 65536.
-/
import Derived.Test.YtijboclcbbnhbaaGreatDoorEnv
import Derived.Laws.BitsAllLaws
import Derived.Laws.BytesArg
namespace Go.Proofs.YtijboclcbbnhbaaGreatDoor
open Go.RowKit

/-- A figure below 16. -/
def dg (d : Nat) : UInt8 := if d < 10 then UInt8.ofNat (48 + d) else UInt8.ofNat (87 + d)
/-- The last k figures of n to the base 16, the high one first. -/
def hlow (n : Nat) : Nat → List UInt8
  | 0 => []
  | k + 1 => dg (n / 16 ^ k % 16) :: hlow n k
/-- How many figures n has to the base 16. -/
def nd (n : Nat) : Nat := if n < 16 then 1 else if n < 256 then 2 else if n < 4096 then 3 else 4
def hexs (n : Nat) : List UInt8 := hlow n (nd n)

theorem hlow_length (n : Nat) : ∀ k, (hlow n k).length = k
  | 0 => rfl
  | k + 1 => by simp [hlow, hlow_length n k]

/-- Bytes as numbers. -/
def nums (l : List UInt8) : List Int := l.map fun b => (b.toNat : Int)
theorem nums_length (l : List UInt8) : (nums l).length = l.length := by simp [nums]
theorem strOfNums_nums (l : List UInt8) : strOfNums (nums l) = ⟨l.toArray⟩ := by
  have : (strOfNums (nums l)).data.toList = l := by
    rw [strOfNums_data, nums, List.map_map]
    conv => rhs; rw [← List.map_id l]
    apply List.map_congr_left
    intro b _
    simp
  generalize strOfNums (nums l) = s at this
  obtain ⟨⟨x⟩⟩ := s
  simp only at this
  rw [this]

def brow (n k : Nat) : List Int := List.replicate (65 - k) 0 ++ nums (hlow n k)
theorem brow_length (n k : Nat) (h : k ≤ 65) : (brow n k).length = 65 := by simp [brow, nums_length, hlow_length]; omega
theorem brow_set (n k : Nat) (h : k < 65) : (brow n k).set (64 - k) ((dg (n / 16 ^ k % 16)).toNat : Int) = brow n (k + 1) := by
  unfold brow
  obtain ⟨m, hm⟩ : ∃ m, 65 - k = m + 1 := ⟨64 - k, by omega⟩
  rw [hm, show 64 - k = m by omega, show 65 - (k + 1) = m by omega, List.replicate_succ', List.append_assoc, List.set_append_right _ _ (by simp)]
  simp [hlow, nums]
theorem brow_at (n k j : Nat) : (brow n k)[65 - k + j]? = (nums (hlow n k))[j]? := by
  unfold brow
  rw [List.getElem?_append_right (by simp)]
  simp

abbrev figs36 : ByteArray := ⟨#[48, 49, 50, 51, 52, 53, 54, 55, 56, 57, 97, 98, 99, 100, 101, 102, 103, 104, 105, 106, 107, 108, 109, 110, 111, 112, 113, 114, 115, 116, 117, 118, 119, 120, 121, 122]⟩
theorem figs36_at : ∀ d : Fin 16, figs36[d.val]? = some (dg d.val) := by decide +kernel
theorem run_fig (d : Nat) (h : d < 16) (i v : Int) (hi : i = (d : Int)) (hv : v = ((dg d).toNat : Int)) (w : World) : (Instr.index 9 (.string ⟨#[48, 49, 50, 51, 52, 53, 54, 55, 56, 57, 97, 98, 99, 100, 101, 102, 103, 104, 105, 106, 107, 108, 109, 110, 111, 112, 113, 114, 115, 116, 117, 118, 119, 120, 121, 122]⟩) (.int .u64 i)).run Tryz.prog w = .ok (.int .u8 v) w := by
  subst hi hv
  have h0 : (0 : Int) ≤ (d : Int) := by omega
  have := figs36_at ⟨d, h⟩
  simp only [figs36] at this
  simp only [Instr.index, asIntOf, Sem.run_bind, Sem.run_pure, Result.andThen_ok, run_underlying Tryz.underlying9, h0, if_true, Int.toNat_natCast, this]
theorem and15 (u : Nat) (h : u < 65536) : bits .and .u64 (u : Int) 15 = ((u % 16 : Nat) : Int) := by
  have := u64_and_nat u 15 (by omega) (by omega)
  rw [Nat.and_two_pow_sub_one_eq_mod u 4] at this
  exact this

theorem Tryz.info65 : (Tryz.prog.info? 149).map (fun i => (i.zero, i.size)) = some (some (.agg (arr .u8 (brow 0 0))), 65) := by kernel_rfl

theorem run_from65 (g m : Nat) (hm : m < 65) (w : World) :
    (Instr.sliceAt 149 (.pointer (some ⟨g, 0, none⟩)) (some (.int .i64 (m : Int))) none none).run Tryz.prog w = .ok (.slice (some ⟨g, m, none⟩) (65 - m) (65 - m)) w := by
  have h1 : (m : Int) ≤ 65 := by omega
  have h0 : (0 : Int) ≤ (m : Int) := by omega
  have h2 : ¬ 65 = m := by omega
  simp [Instr.sliceAt, Instr.sureAddr, run_underlying Tryz.underlying149, Instr.sliceBounds, Tryz.sizeOf5, go_sem, h1, h0, h2]

set_option maxHeartbeats 1000000 in
theorem tz16 (E : Value) (w : World) (hE : Env E w) : Calls Tryz.prog 121 #[.int .u64 16] w fun e w' => e = .returned (.int .i64 4) ∧ w = w' := by
  have h := hE.tz
  clear hE
  have hz : IntKind.u64.wrap (bits .and .u64 16 (IntKind.u64.wrap (-16)) * 285870213051353865) / 288230376151711744 = 15 := by decide +kernel
  go_enter Tryz.func121, Tryz.ntmps121
  go_wp2
  go_ret
  exact ⟨rfl, rfl⟩
end Go.Proofs.YtijboclcbbnhbaaGreatDoor
