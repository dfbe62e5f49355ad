/-
  Hashes, plain facts: numbers of 64 bits, folded, mixed, and mixed back; FNV-1a of bytes.
-/
import Derived.Test.YtkpjdjenlmodnaaDoorProg
import Derived.IntWalk
import Derived.WalkKit
namespace Go.Proofs.YtkpjdjenlmodnaaDoor
open Go.RowKit

/-- A number of 64 bits. -/
def uv (X : BitVec 64) : Int := (X.toNat : Int)
theorem uv_range (X : BitVec 64) : 0 ≤ uv X ∧ uv X ≤ 18446744073709551615 := by
  have := X.isLt
  unfold uv
  omega
theorem uv_of {h : Int} (h0 : 0 ≤ h) (h1 : h ≤ 18446744073709551615) : uv (BitVec.ofInt 64 h) = h := by
  unfold uv
  rw [BitVec.toNat_ofInt]
  omega
theorem of_uv (X : BitVec 64) : BitVec.ofInt 64 (uv X) = X := by
  unfold uv
  rw [BitVec.ofInt_natCast, BitVec.ofNat_toNat, BitVec.setWidth_eq]
theorem uv_inj {X Y : BitVec 64} (h : uv X = uv Y) : X = Y := BitVec.eq_of_toNat_eq (by unfold uv at h; omega)
theorem uv_shr (X : BitVec 64) : uv X / (8589934592 : Int) = uv (X >>> 33) := by
  unfold uv
  rw [BitVec.toNat_ushiftRight, Nat.shiftRight_eq_div_pow]
  rfl
theorem uv_xor (X Y : BitVec 64) : bits .xor .u64 (uv X) (uv Y) = uv (X ^^^ Y) := by
  show IntKind.u64.wrap ((BitVec.ofInt 64 (uv X) ^^^ BitVec.ofInt 64 (uv Y)).toNat : Int) = _
  rw [of_uv, of_uv]
  exact Go.IntWalk.u64_in _ (uv_range (X ^^^ Y))
theorem uv_mul (X Y : BitVec 64) : IntKind.u64.wrap (uv X * uv Y) = uv (X * Y) := by
  unfold uv
  rw [BitVec.toNat_mul]
  simp [IntKind.wrap, IntKind.bits, IntKind.signed]

/-- A number folded into itself. -/
def fdB (X : BitVec 64) : BitVec 64 := X ^^^ (X >>> 33)
theorem fdB_fdB (X : BitVec 64) : fdB (fdB X) = X := by
  unfold fdB
  rw [BitVec.ushiftRight_xor_distrib, ← BitVec.shiftRight_add, BitVec.ushiftRight_eq_zero (by decide : 64 ≤ 33 + 33)]
  rw [BitVec.xor_zero, BitVec.xor_assoc, BitVec.xor_self, BitVec.xor_zero]
def f0 : BitVec 64 := 0xff51afd7ed558ccd#64
def f1 : BitVec 64 := 0xc4ceb9fe1a85ec53#64
def i0 : BitVec 64 := 0x4f74430c22a54005#64
def i1 : BitVec 64 := 0x9cb4b2f8129337db#64
theorem fi0 : f0 * i0 = 1#64 := by decide
theorem fi1 : f1 * i1 = 1#64 := by decide
def mixB (X : BitVec 64) : BitVec 64 := fdB (fdB (fdB X * f0) * f1)
def unmixB (X : BitVec 64) : BitVec 64 := fdB (fdB (fdB X * i1) * i0)
theorem unmix_mix (X : BitVec 64) : unmixB (mixB X) = X := by
  unfold unmixB mixB
  rw [fdB_fdB, BitVec.mul_assoc, fi1, BitVec.mul_one, fdB_fdB, BitVec.mul_assoc, fi0, BitVec.mul_one, fdB_fdB]
theorem mix_unmix (X : BitVec 64) : mixB (unmixB X) = X := by
  unfold unmixB mixB
  rw [fdB_fdB, BitVec.mul_assoc, BitVec.mul_comm i0, fi0, BitVec.mul_one, fdB_fdB, BitVec.mul_assoc, BitVec.mul_comm i1, fi1, BitVec.mul_one, fdB_fdB]
theorem mix_inj (X Y : BitVec 64) : mixB X = mixB Y ↔ X = Y := ⟨fun h => by rw [← unmix_mix X, h, unmix_mix], fun h => by rw [h]⟩


/-- FNV-1a that goes on. -/
def furB (X : BitVec 64) (bs : List Int) : BitVec 64 := bs.foldl (fun Y b => (Y ^^^ BitVec.ofInt 64 b) * 1099511628211#64) X
theorem furB_take (X : BitVec 64) (bs : List Int) (k : Nat) (hk : k < bs.length) : furB X (bs.take (k + 1)) = (furB X (bs.take k) ^^^ BitVec.ofInt 64 (bs.getD k 0)) * 1099511628211#64 := by
  unfold furB
  rw [List.take_succ_eq_append_getElem hk, List.foldl_append, List.getD, List.getElem?_eq_getElem hk]
  rfl
theorem furB_append (X : BitVec 64) (bs cs : List Int) : furB X (bs ++ cs) = furB (furB X bs) cs := by
  unfold furB
  rw [List.foldl_append]
def first64 : BitVec 64 := 14695981039346656037#64
theorem uv_first : uv first64 = 14695981039346656037 := by decide
theorem uv_factor : uv (1099511628211#64) = 1099511628211 := by decide
theorem uv_byte {b : Int} (h : 0 ≤ b ∧ b ≤ 255) : uv (BitVec.ofInt 64 b) = b := uv_of h.1 (by omega)
/-- One byte more. -/
theorem fur_step (X : BitVec 64) (b : Int) (h : 0 ≤ b ∧ b ≤ 255) : IntKind.u64.wrap (bits .xor .u64 (uv X) b * 1099511628211) = uv ((X ^^^ BitVec.ofInt 64 b) * 1099511628211#64) := by
  rw [← uv_factor, ← uv_mul, ← uv_xor, uv_byte h]
theorem fd_eq (X : BitVec 64) : bits .xor .u64 (uv X) (uv X / 8589934592) = uv (fdB X) := by
  rw [uv_shr, uv_xor]
  rfl
end Go.Proofs.YtkpjdjenlmodnaaDoor
