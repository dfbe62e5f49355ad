/-
  hash.folded, further, Plain, Mix, Unmix, Below; the document's Plain and Mix; the chapter's example.
-/
import Derived.Test.YtgpbmbefdgbblaaDoorHbys
namespace Go.Proofs.YtgpbmbefdgbblaaDoor
open Go.RowKit Go.Lib

set_option maxHeartbeats 1000000 in
theorem folded_any (X : BitVec 64) (w : World) : Calls Tryd.prog 86 #[.int .u64 (uv X)] w fun e w' => e = .returned (.int .u64 (uv (fdB X))) ∧ w = w' := by
  have hr := uv_range X
  have HF := hid (fd_eq X)
  generalize uv (fdB X) = y at *
  generalize uv X = x at *
  go_enter Tryd.func86, Tryd.ntmps86
  go_wp2
  go_ret
  exact ⟨ret_k rfl HF.out, rfl⟩

set_option maxHeartbeats 2000000 in
theorem further_any (X : BitVec 64) (ad : Option Addr) (cap : Nat) (bs : List Int) (hby : Byt bs) (hm : bs.length ≤ 1000000) (w : World) (hI : Bys w.heap.size w ad bs) :
    Calls Tryd.prog 74 #[.int .u64 (uv X), .slice ad bs.length cap] w fun e w' => e = .returned (.int .u64 (uv (furB X bs))) ∧ w = w' := by
  obtain ⟨len, hlen⟩ : ∃ len, bs.length = len := ⟨_, rfl⟩
  have HE : Hid (furB X (bs.take len) = furB X bs) := hid (by rw [← hlen, List.take_length])
  have HI : Hid (∀ j, j < len → ∃ g o, ad = some ⟨g, o, none⟩ ∧ w.cell? ⟨g, o + j, none⟩ = some (.int .u8 (bs.getD j 0)) ∧ furB X (bs.take (j + 1)) = (furB X (bs.take j) ^^^ BitVec.ofInt 64 (bs.getD j 0)) * 1099511628211#64) := hid fun j hj => by
    obtain ⟨g, o, h1, _, h3⟩ := hI j (by omega)
    exact ⟨g, o, h1, h3, furB_take X bs j (by omega)⟩
  rw [hlen] at hm ⊢
  clear hlen hI
  have H0 : Hid (uv X = uv (furB X (bs.take 0))) := hid rfl
  have hr0 := uv_range X
  generalize uv X = x0 at *
  go_enter Tryd.func74, Tryd.ntmps74
  go_wp2
  go_loop [0, 9] (fun h t => ∃ k : Nat, k ≤ len ∧ t = .int .i64 k ∧ ∃ T : Int, Hid (T = uv (furB X (bs.take k))) ∧ 0 ≤ T ∧ T ≤ 18446744073709551615 ∧ h = .int .u64 T) (fun _ t => len - (intOf t).toNat)
  case atStart => exact ⟨0, by omega, rfl, x0, H0, by omega, by omega, rfl⟩
  case round =>
    obtain ⟨k, hk, rfl, T, HT, hT0, hT1, rfl⟩ := hrel
    by_cases hlt : k < len
    · obtain ⟨g, o, rfl, hc, hs⟩ := HI.out k hlt
      obtain ⟨x, hx⟩ : ∃ x, x = bs.getD k 0 := ⟨_, rfl⟩
      have hxr : 0 ≤ x ∧ x ≤ 255 := hx ▸ hby k
      rw [← hx] at hc hs
      have HN : Hid (IntKind.u64.wrap (bits .xor .u64 T x * 1099511628211) = uv (furB X (bs.take (k + 1)))) := hid (by rw [hs, HT.out, fur_step _ _ hxr])
      have HR : Hid (0 ≤ uv (furB X (bs.take (k + 1))) ∧ uv (furB X (bs.take (k + 1))) ≤ 18446744073709551615) := hid (uv_range _)
      clear hx hs
      go_wp2
      go_round
      case rel => exact ⟨k + 1, by omega, by go_num, _, hid HN.out, by rw [HN.out]; exact HR.out.1, by rw [HN.out]; exact HR.out.2, rfl⟩
      case measure => simp [intOf]; omega
    · obtain rfl : k = len := by omega
      go_wp2
      go_ret
      exact ⟨ret_k rfl (by rw [HT.out, HE.out]), rfl⟩
end Go.Proofs.YtgpbmbefdgbblaaDoor
