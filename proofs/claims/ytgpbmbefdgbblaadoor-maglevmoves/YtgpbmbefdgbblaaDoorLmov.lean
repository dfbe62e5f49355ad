/-
  maglev: Moved, whatever the tables; the chapter's example.
-/
import Derived.Test.YtgpbmbefdgbblaaDoorLmyn
import Derived.Test.YtgpbmbefdgbblaaDoorLmny
import Derived.Test.YtgpbmbefdgbblaaDoorLmnn
namespace Go.Proofs.YtgpbmbefdgbblaaDoor
open Go.RowKit Go.Lib

theorem moved_any (m m' : Int) (bs bs' : List PS) (L L' : List Int) (ab ab' as' as2 : Option Addr) (cb cb' cs cs' : Nat) (hL : L.length ≤ 100000) (hL' : L'.length ≤ 100000) (hb : bs.length ≤ 100000) (hb' : bs'.length ≤ 100000) (w : World) (hT : TabIn w.heap.size w ab as' bs L) (hT' : TabIn w.heap.size w ab' as2 bs' L') :
    Calls Tryd.prog 8 #[.agg #[.int .i64 m, .slice ab bs.length cb, .slice as' L.length cs], .agg #[.int .i64 m', .slice ab' bs'.length cb', .slice as2 L'.length cs']] w fun e w' => e = .returned (.int .i64 (mov (fun p : Nat => ownW m bs L (p : Int)) (fun p : Nat => ownW m' bs' L' (p : Int)) (min L.length L'.length) : Nat)) ∧ Below w.heap.size w w' := by
  cases h : wholeT m L <;> cases h' : wholeT m' L'
  · exact moved_nn m m' bs bs' L L' ab ab' as' as2 cb cb' cs cs' hL hL' hb hb' h h' w hT hT'
  · exact moved_ny m m' bs bs' L L' ab ab' as' as2 cb cb' cs cs' hL hL' hb hb' h h' w hT hT'
  · exact moved_yn m m' bs bs' L L' ab ab' as' as2 cb cb' cs cs' hL hL' hb hb' h h' w hT hT'
  · exact moved_yy m m' bs bs' L L' ab ab' as' as2 cb cb' cs cs' hL hL' hb hb' h h' w hT hT'

theorem mov_none_left (f g : Nat → Option PS) (h : ∀ p, f p = none) : ∀ n, mov f g n = 0
  | 0 => rfl
  | n + 1 => by rw [mov, mov_none_left f g h n, h n]; rfl
theorem mov_none_right (f g : Nat → Option PS) (h : ∀ p, g p = none) : ∀ n, mov f g n = 0
  | 0 => rfl
  | n + 1 => by rw [mov, mov_none_right f g h n, h n]; simp
theorem mov_self (f : Nat → Option PS) : ∀ n, mov f f n = 0
  | 0 => rfl
  | n + 1 => by rw [mov, mov_self f n]; simp
theorem mov_comm (f g : Nat → Option PS) : ∀ n, mov f g n = mov g f n
  | 0 => rfl
  | n + 1 => by
    rw [mov, mov, mov_comm f g n]
    congr 2
    cases f n with
    | none => cases g n <;> rfl
    | some x =>
      cases g n with
      | none => rfl
      | some y =>
        simp only [Option.isSome_some, Option.getD_some, Bool.true_and]
        rw [decide_eq_decide.2 (eq_comm : x = y ↔ y = x)]

/-- What a filled table tells of all its places. -/
theorem own_filled {M : Nat} (hM : sizedB (M : Int) = true) (bs : List PS) (h0 : 0 < bs.length) {p : Nat} (hp : p < M) :
    (0 ≤ (fillT (ordL M bs) bs.length M M).getD p 0 ∧ (fillT (ordL M bs) bs.length M M).getD p 0 < bs.length) ∧ ownW M bs (fillT (ordL M bs) bs.length M M) p = some bs[((fillT (ordL M bs) bs.length M M).getD p 0).toNat]! := by
  have hl := fillT_length (ordL M bs) bs.length M M
  have he := fillT_end h0 (ordL_onto M hM bs) ((fillT (ordL M bs) bs.length M M).getD p 0) (by
    rw [List.getD_eq_getElem?_getD, List.getElem?_eq_getElem (by rw [hl]; exact hp)]
    exact List.getElem_mem _)
  refine ⟨he, ?_⟩
  unfold ownW wholeT ownT
  rw [hl, if_pos (by rw [hM]; simp), Int.toNat_natCast, if_pos ⟨by omega, by omega, he.1, he.2⟩]
end Go.Proofs.YtgpbmbefdgbblaaDoor
