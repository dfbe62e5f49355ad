/-
  maglev: what owners makes of a whole table tells whose a place is; At.
-/
import Derived.Test.YtgpbmbefdgbblaaDoorLowa
import Derived.Test.YtgpbmbefdgbblaaDoorLowb
import Derived.Test.YtgpbmbefdgbblaaDoorLowc
namespace Go.Proofs.YtgpbmbefdgbblaaDoor
open Go.RowKit Go.Lib

theorem own2_any (m : Int) (bs : List PS) (L : List Int) (ab as' : Option Addr) (cb cs b : Nat) (p : Int) (hL : (L.length : Int) = m) (hLm : L.length ≤ 100000) (hbm : bs.length ≤ 100000) (w : World) (hB : Blk w b 26 #[.int .i64 m, .slice ab bs.length cb, .slice as' L.length cs]) (hT : TabIn w.heap.size w ab as' bs L) :
    Calls Tryd.prog 33 #[.int .i64 p, .pointer (some ⟨b, 0, none⟩)] w fun e w' => e = .returned (ansO (ownT m bs L p)) ∧ Below w.heap.size w w' := by
  by_cases h0 : p < 0
  · exact own2_low m bs L ab as' cb cs b p hL hLm hbm w hB hT h0
  · by_cases h1 : m ≤ p
    · exact own2_high m bs L ab as' cb cs b p hL hLm hbm w hB hT (by omega) h1
    · obtain ⟨k, rfl⟩ : ∃ k : Nat, p = (k : Int) := ⟨p.toNat, by omega⟩
      by_cases h2 : 0 ≤ L.getD k 0 ∧ L.getD k 0 < bs.length
      · exact own2_is m bs L ab as' cb cs b k hL hLm hbm w hB hT (by omega) h2
      · exact own2_not m bs L ab as' cb cs b k hL hLm hbm w hB hT (by omega) h2
end Go.Proofs.YtgpbmbefdgbblaaDoor
