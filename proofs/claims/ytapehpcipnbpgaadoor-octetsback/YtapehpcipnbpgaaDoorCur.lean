/-
  A cursor in memory, and the walks of what reads by it, where there is what is read.
-/
import Derived.Test.YtapehpcipnbpgaaDoorWrites
import Derived.ArgAppend
namespace Go.Proofs.YtapehpcipnbpgaaDoor
open Go.RowKit

/-- In world w, block c is a cursor over bs (that lie in block g), at place p, without an error; both blocks lie from B on. -/
structure Cur (w : World) (B c g cap : Nat) (bs : List Int) (p : Nat) : Prop where
  obj : w.heap[c]? = some (.cells #[.slice (some ⟨g, 0, none⟩) bs.length cap, .int .i64 p, .nilIface] 47 (0, 0))
  row : w.ownsRow B 5 1 (.slice (some ⟨g, 0, none⟩) bs.length cap) bs.length (bs.map (Value.int .u8))
  low : B ≤ c
  most : bs.length ≤ 1000000
  byte : ∀ x ∈ bs, 0 ≤ x ∧ x ≤ 255

section
variable {w : World} {B c g cap : Nat} {bs : List Int} {p : Nat}

theorem Cur.cap_le (h : Cur w B c g cap bs p) : bs.length ≤ cap := by
  rcases h.row.2 with ⟨h', _⟩ | ⟨g', cap', cur, h', _, _, h3, _⟩
  · cases h'
  · cases h'; exact h3

theorem Cur.cell0 (h : Cur w B c g cap bs p) : w.cell? ⟨c, 0, none⟩ = some (.slice (some ⟨g, 0, none⟩) bs.length cap) := by rw [cell_of_row w c 0 _ 47 (0, 0) h.obj]; rfl
theorem Cur.cell1 (h : Cur w B c g cap bs p) : w.cell? ⟨c, 1, none⟩ = some (.int .i64 p) := by rw [cell_of_row w c 1 _ 47 (0, 0) h.obj]; rfl
theorem Cur.cell2 (h : Cur w B c g cap bs p) : w.cell? ⟨c, 2, none⟩ = some .nilIface := by rw [cell_of_row w c 2 _ 47 (0, 0) h.obj]; rfl
theorem Cur.free1 (h : Cur w B c g cap bs p) : w.frozen? ⟨c, 1, none⟩ = false := frozen_of_row w c 1 _ 47 h.obj

theorem Cur.at (h : Cur w B c g cap bs p) (j : Nat) (hj : j < bs.length) : w.cell? ⟨g, j, none⟩ = some (.int .u8 (bs.getD j 0)) := by
  rw [h.row.cellAt j (by omega)]
  simp [List.getD, List.getElem?_map, List.getElem?_eq_getElem hj]

theorem Cur.byteAt (h : Cur w B c g cap bs p) (j : Nat) : 0 ≤ bs.getD j 0 ∧ bs.getD j 0 ≤ 255 := by
  by_cases hj : j < bs.length
  · rw [List.getD, List.getElem?_eq_getElem hj]
    exact h.byte _ (List.getElem_mem hj)
  · rw [List.getD, List.getElem?_eq_none (by omega)]
    simp

theorem Cur.drewN (h : Cur w B c g cap bs p) (n : Nat) : Cur (w.drewN n) B c g cap bs p := ⟨h.obj, h.row, h.low, h.most, h.byte⟩

theorem Cur.ne (h : Cur w B c g cap bs p) : g ≠ c := by
  rcases h.row.2 with ⟨h', _⟩ | ⟨g', cap', cur, h', h2, h3, h4⟩
  · cases h'
  · cases h'
    rintro rfl
    have := h3.symm.trans h.obj
    simp at this

/-- A store at the place leaves the bytes. -/
theorem Cur.atStored (h : Cur w B c g cap bs p) (x : Value) (j : Nat) : (w.setCell ⟨c, 1, none⟩ x).cell? ⟨g, j, none⟩ = w.cell? ⟨g, j, none⟩ :=
  World.cell?_of_block (Below.heap_setCell w _ _ g h.ne)

/-- The place goes on. -/
theorem Cur.goes (h : Cur w B c g cap bs p) (q : Nat) : Cur (w.setCell ⟨c, 1, none⟩ (.int .i64 q)) B c g cap bs q := by
  refine ⟨?_, ?_, h.low, h.most, h.byte⟩
  · have := heap_setCell_same w c 1 _ 47 (.int .i64 q) h.obj
    simpa using this
  · refine ⟨h.row.1, ?_⟩
    rcases h.row.2 with ⟨h', _⟩ | ⟨g', cap', cur, h', h2, h3, h4⟩
    · cases h'
    · cases h'
      refine .inr ⟨g, cap, cur, rfl, h2, ?_, h4⟩
      rw [Below.heap_setCell w _ _ g (fun e => by subst e; have := h3.symm.trans h.obj; simp at this)]
      exact h3
end

/-- What a read of a cursor ends in. -/
def ReadEnd (v : Value) (w : World) (B c g cap : Nat) (bs : List Int) (q : Nat) (e : Ending) (w' : World) : Prop :=
  e = .returned v ∧ Cur w' B c g cap bs q ∧ Below B w w'

theorem drewN_drewN (w : World) (n m : Nat) : (w.drewN n).drewN m = w.drewN (n + m) := by simp [World.drewN, Nat.add_assoc]

def Drew (v : Value) (w : World) (e : Ending) (w' : World) : Prop := e = .returned v ∧ ∃ n, w' = w.drewN n

set_option maxHeartbeats 400000 in
theorem left_any {w : World} {B c g cap : Nat} {bs : List Int} {p : Nat} (h : Cur w B c g cap bs p) (hp : p ≤ bs.length) :
    Calls Tryd.prog 16 #[.pointer (some ⟨c, 0, none⟩)] w (Drew (.int .i64 ((bs.length : Int) - (p : Int))) w) := by
  have h0 := h.cell0
  have h1 := h.cell1
  have hm := h.most
  have H := Lib.hid h
  clear h
  go_enter Tryd.func16, Tryd.ntmps16
  go_wp2
  go_quiet (fail)
  go_wp2
  go_ret
  exact ⟨rfl, _, rfl⟩

set_option maxHeartbeats 400000 in
theorem place_any {w : World} {B c g cap : Nat} {bs : List Int} {p : Nat} (h : Cur w B c g cap bs p) :
    Calls Tryd.prog 17 #[.pointer (some ⟨c, 0, none⟩)] w fun e w' => e = .returned (.int .i64 p) ∧ w = w' := by
  have h1 := h.cell1
  clear h
  go_enter Tryd.func17, Tryd.ntmps17
  go_wp2
  go_ret
  exact ⟨rfl, rfl⟩

set_option maxHeartbeats 400000 in
theorem ahead_any {w : World} {B c g cap : Nat} {bs : List Int} {p : Nat} (h : Cur w B c g cap bs p) (m : Nat) (hm1 : 1 ≤ m) (hm2 : p + m ≤ bs.length) :
    Calls Tryd.prog 20 #[.pointer (some ⟨c, 0, none⟩), .int .i64 m] w (Drew (.slice (some ⟨g, p, none⟩) m m) w) := by
  have h0 := h.cell0
  have h1 := h.cell1
  have h2 := h.cell2
  have hm := h.most
  have hcap := h.cap_le
  have H := Lib.hid h
  clear h
  go_enter Tryd.func20, Tryd.ntmps20
  go_wp2_with fail
  refine (left_any H.out (by omega)).mono ?_
  rintro e w' ⟨rfl, n, rfl⟩
  go_wp2_with fail
  go_quiet (fail)
  go_wp2
  go_ret
  refine ⟨?_, n + nq, drewN_drewN _ _ _⟩
  have e1 : p + m - p = m := by omega
  show Ending.returned (.slice (some ⟨g, p, none⟩) (p + m - p) (p + m - p)) = _
  rw [e1]

theorem below_drewN' (B : Nat) (w : World) (n : Nat) : Below B w (w.drewN n) := ⟨rfl, rfl, rfl, Nat.le_refl _, fun _ _ => rfl⟩

set_option maxHeartbeats 400000 in
theorem readFlag {w : World} {B c g cap : Nat} {bs : List Int} {p : Nat} (h : Cur w B c g cap bs p) (b : Bool) (hp : p < bs.length) (hb : bs.getD p 0 = if b then 1 else 0) :
    Calls Tryd.prog 12 #[.pointer (some ⟨c, 0, none⟩)] w (ReadEnd (.bool b) w B c g cap bs (p + 1)) := by
  have h1 := h.cell1
  have h2 := h.cell2
  have hf := h.free1
  have hm := h.most
  have hc := h.at p hp
  rw [hb] at hc
  have H := Lib.hid h
  clear h hb
  cases b
  all_goals
    simp only [Bool.false_eq_true, if_true, if_false] at hc
    go_enter Tryd.func12, Tryd.ntmps12
    go_wp2_with fail
    refine (ahead_any H.out 1 (by omega) (by omega)).mono ?_
    rintro e w' ⟨rfl, n, rfl⟩
    have hs := fun x => ((H.out.drewN n).atStored x p).trans hc
    go_wp2
    go_ret
    refine ⟨rfl, ?_, ?_⟩
    · exact (H.out.drewN n).goes (p + 1)
    · exact (below_drewN' B w n).setCell H.out.low _

set_option maxHeartbeats 400000 in
theorem end_any {w : World} {B c g cap : Nat} {bs : List Int} (h : Cur w B c g cap bs bs.length) :
    Calls Tryd.prog 15 #[.pointer (some ⟨c, 0, none⟩)] w (Drew .nilIface w) := by
  have h2 := h.cell2
  have H := Lib.hid h
  clear h
  go_enter Tryd.func15, Tryd.ntmps15
  go_wp2_with fail
  refine (left_any H.out (Nat.le_refl _)).mono ?_
  rintro e w' ⟨rfl, n, rfl⟩
  rw [Int.sub_self]
  go_wp2
  go_ret
  exact ⟨rfl, n, rfl⟩

/-- The bytes from p on, as a row's cells. -/
theorem Cur.behind {w : World} {B c g cap : Nat} {bs : List Int} {p : Nat} (h : Cur w B c g cap bs p) {xs rest : List Int} (hx : bs.drop p = xs ++ rest) (j : Nat) (hj : j < xs.length) :
    w.cell? ⟨g, p + j, none⟩ = some (.int .u8 (xs.getD j 0)) ∧ p + j < bs.length := by
  have hl : bs.length - p = xs.length + rest.length := by rw [← List.length_drop, hx, List.length_append]
  refine ⟨?_, by omega⟩
  rw [h.at (p + j) (by omega)]
  have : (bs.drop p)[j]? = xs[j]? := by rw [hx, List.getElem?_append_left hj]
  rw [List.getElem?_drop] at this
  simp [List.getD, this]

theorem conv_at (w : World) (g o n c : Nat) (xs : List Int) (hl : xs.length = n) (hc : ∀ i, i < n → w.cell? ⟨g, o + i, none⟩ = some (.int .u8 (xs.getD i 0))) :
    (convert 23 9 (.slice (some ⟨g, o, none⟩) n c)).run Tryd.prog w = .ok (.string (strOfNums xs)) w :=
  run_convert_bytes_arg w 23 5 Tryd.underlying23 Tryd.underlying5 g o n c xs hl hc 9 Tryd.underlying9

set_option maxHeartbeats 400000 in
theorem readText0 {w : World} {B c g cap : Nat} {bs : List Int} {p : Nat} (h : Cur w B c g cap bs p) (rest : List Int) (hx : bs.drop p = [(0 : Int)] ++ rest) :
    Calls Tryd.prog 14 #[.pointer (some ⟨c, 0, none⟩), .int .i64 255] w (ReadEnd (.string ByteArray.empty) w B c g cap bs (p + 1)) := by
  have hl : bs.length - p = 1 + rest.length := by rw [← List.length_drop, hx]; simp; omega
  have h1 := h.cell1
  have h2 := h.cell2
  have hf := h.free1
  have hm := h.most
  have hc := (h.behind hx 0 (by simp)).1
  simp only [Nat.add_zero, List.getD_cons_zero] at hc
  have H := Lib.hid h
  have HX := Lib.hid hx
  clear h hx
  have hpl : p + 1 ≤ bs.length := by omega
  clear hl
  have q := fun w' => conv_at w' g p 0 0 [] rfl (fun i hi => by omega)
  have e0 : strOfNums [] = ByteArray.empty := rfl
  rw [e0] at q
  clear e0
  go_enter Tryd.func14, Tryd.ntmps14
  go_wp2_with fail
  refine (ahead_any H.out 1 (by omega) (by omega)).mono ?_
  rintro e w' ⟨rfl, n, rfl⟩
  go_wp2_with fail
  refine (ahead_any (H.out.drewN n) 1 (by omega) (by omega)).mono ?_
  rintro e w' ⟨rfl, m, rfl⟩
  rw [drewN_drewN]
  go_wp2
  go_ret
  refine ⟨rfl, ?_, ?_⟩
  · exact (H.out.drewN (n + m)).goes (p + 1)
  · exact (below_drewN' B w (n + m)).setCell H.out.low _

set_option maxHeartbeats 400000 in
theorem readText1 {w : World} {B c g cap : Nat} {bs : List Int} {p : Nat} (h : Cur w B c g cap bs p) (t : ByteArray) (rest : List Int) (ht : t.size ≤ 255) (h0 : 0 < t.size) (hx : bs.drop p = ((t.size : Int) :: txt t) ++ rest) :
    Calls Tryd.prog 14 #[.pointer (some ⟨c, 0, none⟩), .int .i64 255] w (ReadEnd (.string t) w B c g cap bs (p + (1 + t.size))) := by
  have hl : bs.length - p = 1 + t.size + rest.length := by rw [← List.length_drop, hx]; simp [txt_length]; omega
  have h1 := h.cell1
  have h2 := h.cell2
  have hf := h.free1
  have hm := h.most
  have hc := (h.behind hx 0 (by simp)).1
  simp only [Nat.add_zero, List.getD_cons_zero] at hc
  have H := Lib.hid h
  have hpl : p + (1 + t.size) ≤ bs.length := by omega
  clear hl
  have q : ∀ n x, (convert 23 9 (.slice (some ⟨g, p + 1, none⟩) t.size t.size)).run Tryd.prog ((w.drewN n).setCell ⟨c, 1, none⟩ x) = .ok (.string t) ((w.drewN n).setCell ⟨c, 1, none⟩ x) := by
    intro n x
    have := conv_at ((w.drewN n).setCell ⟨c, 1, none⟩ x) g (p + 1) t.size t.size (txt t) (txt_length t) (fun i hi => by
      rw [(h.drewN n).atStored x (p + 1 + i), Nat.add_assoc p 1 i, Nat.add_comm 1 i]
      have := (h.behind hx (i + 1) (by simp [txt_length]; omega)).1
      simpa using this)
    rwa [strOfNums_txt] at this
  have HX := Lib.hid hx
  clear h hx
  go_enter Tryd.func14, Tryd.ntmps14
  go_wp2_with fail
  refine (ahead_any H.out 1 (by omega) (by omega)).mono ?_
  rintro e w' ⟨rfl, n, rfl⟩
  go_wp2_with fail
  rw [show (1 + (t.size : Int)) = ((1 + t.size : Nat) : Int) by omega]
  refine (ahead_any (H.out.drewN n) (1 + t.size) (by omega) (by omega)).mono ?_
  rintro e w' ⟨rfl, m, rfl⟩
  rw [drewN_drewN]
  have q1 := q (n + m)
  clear q
  have hne : ¬ t.size = 0 := by omega
  have hne' : ¬ t = ByteArray.empty := fun h => hne (by rw [h]; rfl)
  go_wp2
  go_ret
  refine ⟨rfl, ?_, ?_⟩
  · have := (H.out.drewN (n + m)).goes (p + (1 + t.size))
    simpa using this
  · exact (below_drewN' B w (n + m)).setCell H.out.low _

theorem empty_of_size {t : ByteArray} (h : t.size = 0) : t = ByteArray.empty := by
  cases t with
  | mk d =>
    have : d = #[] := Array.eq_empty_of_size_eq_zero h
    subst this
    rfl

theorem readText {w : World} {B c g cap : Nat} {bs : List Int} {p : Nat} (h : Cur w B c g cap bs p) (t : ByteArray) (rest : List Int) (ht : t.size ≤ 255) (hx : bs.drop p = ((t.size : Int) :: txt t) ++ rest) :
    Calls Tryd.prog 14 #[.pointer (some ⟨c, 0, none⟩), .int .i64 255] w (ReadEnd (.string t) w B c g cap bs (p + (1 + t.size))) := by
  by_cases h0 : t.size = 0
  · obtain rfl := empty_of_size h0
    exact readText0 h rest hx
  · exact readText1 h t rest ht (by omega) hx

/-! ### Num -/
theorem be_get (n : Nat) : ∀ s k, k < s → (be n s)[k]? = some ((n / 256 ^ (s - 1 - k) % 256 : Nat) : Int)
  | s + 1, 0, _ => by simp [be]
  | s + 1, k + 1, h => by
    rw [be, List.getElem?_cons_succ, be_get n s k (by omega), show s + 1 - 1 - (k + 1) = s - 1 - k by omega]

theorem or_add (q b : Nat) (hb : b < 256) : (q * 256) ||| b = q * 256 + b := by
  have := Nat.two_pow_add_eq_or_of_lt (i := 8) (b := b) (by omega) q
  rw [Nat.mul_comm q 256]
  exact this.symm

theorem or_step (n s k : Nat) (hlt : k < s) (h3 : n ≤ 4611686018427387904) :
    bits .or .u64 (IntKind.u64.wrap ((n : Int) / 256 ^ (s - k) * 256)) (IntKind.u64.wrap ((be n s)[k]?.getD 0)) = ((n / 256 ^ (s - (k + 1)) : Nat) : Int) := by
  rw [be_get n s k hlt, Option.getD_some]
  obtain ⟨d, hd⟩ : ∃ d, s - k = d + 1 := ⟨s - k - 1, by omega⟩
  rw [hd, show s - 1 - k = d by omega, show s - (k + 1) = d by omega]
  have e0 : ((n : Int) / 256 ^ (d + 1)) = ((n / 256 ^ (d + 1) : Nat) : Int) := by simp
  rw [e0, Nat.pow_succ, ← Nat.div_div_eq_div_mul]
  have hq : n / 256 ^ d ≤ n := Nat.div_le_self _ _
  generalize n / 256 ^ d = q at *
  have e1 : IntKind.u64.wrap (((q / 256 : Nat) : Int) * 256) = ((q / 256 * 256 : Nat) : Int) := by rw [IntKind.wrap_u64]; omega
  have e2 : IntKind.u64.wrap ((q % 256 : Nat) : Int) = ((q % 256 : Nat) : Int) := by rw [IntKind.wrap_u64]; omega
  rw [e1, e2, bits_or_u64_nat _ _ (by omega) (by omega), or_add _ _ (by omega)]
  omega

set_option maxHeartbeats 400000 in
theorem readNum {w : World} {B c g cap : Nat} {bs : List Int} {p : Nat} (h : Cur w B c g cap bs p) (n s : Nat) (rest : List Int) (h1 : 1 ≤ s) (h2 : s ≤ 8) (h3 : n ≤ 4611686018427387904) (h4 : n / 256 ^ s = 0) (hx : bs.drop p = be n s ++ rest) :
    Calls Tryd.prog 13 #[.pointer (some ⟨c, 0, none⟩), .int .i64 s] w (ReadEnd (.int .i64 n) w B c g cap bs (p + s)) := by
  have hl : bs.length - p = s + rest.length := by rw [← List.length_drop, hx]; simp [be_length]
  have c1 := h.cell1
  have c2 := h.cell2
  have hf := h.free1
  have hm := h.most
  have hpl : p + s ≤ bs.length := by omega
  have hb := fun j (hj : j < s) => (h.behind hx j (by rw [be_length]; exact hj)).1
  have HB := Lib.hid hb
  have H := Lib.hid h
  have HX := Lib.hid hx
  have H4 := Lib.hid h4
  clear h hx hl hb h4
  have d1 : decide ((s : Int) < 1) = false := by simp; omega
  have d2 : decide ((8 : Int) < (s : Int)) = false := by simp; omega
  go_enter Tryd.func13, Tryd.ntmps13
  go_wp2_with fail
  refine (ahead_any H.out s (by omega) (by omega)).mono ?_
  rintro e w' ⟨rfl, m, rfl⟩
  go_wp2_with fail
  go_loop [5, 21] (fun v i => ∃ k : Nat, k ≤ s ∧ i = .int .i64 k ∧ v = .int .u64 ((n / 256 ^ (s - k) : Nat) : Int)) (fun _ i => s - (intOf i).toNat)
  case atStart => exact ⟨0, Nat.zero_le _, rfl, by rw [Nat.sub_zero, H4.out]; rfl⟩
  case round =>
    obtain ⟨k, hk, rfl, rfl⟩ := hrel
    by_cases hlt : k < s
    · have hc := HB.out k hlt
      go_wp2
      go_round
      case rel => exact ⟨k + 1, by omega, by go_num, congrArg (Value.int .u64) (or_step n s k hlt h3)⟩
      case measure => simp [intOf]; omega
    · obtain rfl : k = s := by omega
      rw [Nat.sub_self, Nat.pow_zero, Nat.div_one]
      have g1 := (H.out.drewN m).goes (p + k)
      have b1 : Below B w ((w.drewN m).setCell ⟨c, 1, none⟩ (.int .i64 ((p + k : Nat) : Int))) := (below_drewN' B w m).setCell H.out.low _
      have G1 := Lib.hid g1
      have B1 := Lib.hid b1
      clear g1 b1 HB HX H4
      go_wp2
      go_ret
      exact ⟨rfl, G1.out, B1.out⟩
end Go.Proofs.YtapehpcipnbpgaaDoor
