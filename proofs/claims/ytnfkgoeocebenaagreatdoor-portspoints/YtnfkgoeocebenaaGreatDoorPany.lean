/-
  The law PortsPoints, of every input.
-/
import Derived.Test.YtnfkgoeocebenaaGreatDoorPoints
namespace Go.Proofs.YtnfkgoeocebenaaGreatDoor
open Go.RowKit

/-- An address's text, if it is right. -/
def textA (s : Bool) (B : List Nat) : List UInt8 := if s then text6 (gr B) else text4 B

theorem gr_lt (B : List Nat) (hl : B.length = 16) (hB : ∀ x ∈ B, x < 256) : ∀ n ∈ gr B, n < 65536 := by
  intro n hn
  simp only [gr, List.mem_map, List.mem_range] at hn
  obtain ⟨i, hi, rfl⟩ := hn
  have h1 : B.getD (2 * i) 0 < 256 := by apply hB; simp [List.getD, List.getElem?_eq_getElem (show 2 * i < B.length by omega)]
  have h2 : B.getD (2 * i + 1) 0 < 256 := by apply hB; simp [List.getD, List.getElem?_eq_getElem (show 2 * i + 1 < B.length by omega)]
  omega

theorem textA_le (s : Bool) (B : List Nat) (hB : ∀ x ∈ B, x < 256) : (textA s B).length ≤ 900 := by
  cases s with
  | true =>
    show (text6 (gr B)).length ≤ 900
    have := t6_le (gr B) (gr_length B) (if (nzB (zeros (gr B)) 8).2.1 = (nzB (zeros (gr B)) 8).2.2 then 8 else (nzB (zeros (gr B)) 8).2.1) (nzB (zeros (gr B)) 8).2.2 8
    rw [t6_end (gr B) (gr_length B)] at this
    omega
  | false =>
    have := j4_le B hB 4 (by omega)
    show (j4 B 4).length ≤ 900
    omega

theorem parsed_textA (s : Bool) (B : List Nat) (hl : B.length = 16) (hB : ∀ x ∈ B, x < 256) (hr : (s || flat (ints B)) = true) : parsed (textA s B) = some (s, ints B) := by
  cases s with
  | true => exact parsed_text6 B hl hB (gr_lt B hl hB)
  | false => exact parsed_text4 B hl hB (by simpa using hr)

theorem formatA (s : Bool) (B : List Nat) (hl : B.length = 16) (hB : ∀ x ∈ B, x < 256) (hr : (s || flat (ints B)) = true) (E : Value) (w : World) (hE : Env E w) :
    Calls Tryz.prog 47 #[.agg (adr s (ints B))] w fun e w' => e = .returned (.string ⟨(textA s B).toArray⟩) ∧ Below w.heap.size w w' := by
  cases s with
  | true => exact format_six B hl hB E w hE
  | false => exact format_four B hl hB (by simpa using hr) E w hE

theorem rformatA (s : Bool) (B : List Nat) (hl : B.length = 16) (hB : ∀ x ∈ B, x < 256) (hr : (s || flat (ints B)) = true) (w : World) :
    Calls Tryz.prog 82 #[.agg (adr s (ints B))] w fun e w' => e = .returned (.string ⟨(textA s B).toArray⟩) ∧ Below w.heap.size w w' := by
  cases s with
  | true => exact rformat_six B hl hB w
  | false => exact rformat_four B hl hB (by simpa using hr) w

theorem rightA (s : Bool) (b : List Int) (hl : b.length = 16) (w : World) : Calls Tryz.prog 80 #[.agg (adr s b)] w fun e w' => e = .returned (.bool (s || flat b)) ∧ Below w.heap.size w w' := by
  cases s with
  | true => exact right_six b w
  | false => exact right_four b hl w

theorem pitoa (n : Nat) (h : n ≤ 65535) (E : Value) (w : World) (hE : Env E w) : Calls Tryz.prog 79 #[.int .i64 (n : Int)] w fun e w' => e = .returned (.string ⟨(Lib.decDigits n).toArray⟩) ∧ Below w.heap.size w w' := by
  refine (Tryz.strconv_Itoa (n : Int) (by omega) (by omega) w hE.pow).mono ?_
  rintro e w' ⟨rfl, k, os, rfl⟩
  exact ⟨by rw [show Lib.itoa (n : Int) = Lib.decDigits n by unfold Lib.itoa; rw [if_neg (by omega)]; simp], below_grow' w k os⟩

/-- ports.formatAddr. -/
theorem pfa_any (s : Bool) (B : List Nat) (hl : B.length = 16) (hB : ∀ x ∈ B, x < 256) (hr : (s || flat (ints B)) = true) (E : Value) (w : World) (hE : Env E w) :
    Calls Tryz.prog 78 #[.agg (adr s (ints B))] w fun e w' => e = .returned (.string ⟨(ahd s (textA s B)).toArray⟩) ∧ Below w.heap.size w w' := by
  have lb : (ints B).length = 16 := by rw [ints_length, hl]
  have hle := textA_le s B hB
  cases s with
  | true => exact pfa_six (ints B) lb ⟨(textA true B).toArray⟩ ⟨(91 :: textA true B).toArray⟩ _ E w hE (fun w' => run_string_add_lists w' [91] (textA true B) (by simp) (by omega)) (fun w' => run_string_add_lists w' (91 :: textA true B) [93] (by simp; omega) (by simp)) (fun w hE => formatA true B hl hB hr E w hE)
  | false => exact pfa_four (ints B) lb _ E w hE (fun w hE => formatA false B hl hB hr E w hE)

theorem paddr_b {l : List UInt8} {s : Bool} {b : List Int} (h : paddr l = some (s, b)) : b.length = 16 := by
  unfold paddr at h
  split at h
  · rename_i s' b' hp
    split at h
    · cases h
      exact parsed_len hp
    · cases h
  · cases h
theorem pres_b {l : List UInt8} {s : Bool} {b : List Int} {n : Nat} (h : pres l = some ((s, b), n)) : b.length = 16 := by
  unfold pres at h
  split at h
  · cases h
  · split at h
    · rename_i x m hx _
      cases h
      exact paddr_b hx
    · cases h

theorem points_any (cs : Bool) (C : List Nat) (hlc : C.length = 16) (hC : ∀ x ∈ C, x < 256) (n : Int) (s : ByteArray) (a : Nat → Addr) (w : World) (hE : Env (.iface 211 (.pointer (some (a 3)))) w) (hErr : Errs 18 a w) :
    Calls Tryz.prog 6 #[.agg (pnt cs (ints C) n), .string s] w fun e w' => e = .returned (.bool true) ∧ Below w.heap.size w w' := by
  have c0 := fun w hE => alive4_any 211 (.pointer (some (a 3))) w hE
  by_cases hs : 200 < s.size
  · exact pts_long s hs cs (ints C) n _ w hE c0
  · have lc : (ints C).length = 16 := by rw [ints_length, hlc]
    have c1 := fun w => ppoint_any cs (ints C) lc n (cs || flat (ints C)) w (rightA cs (ints C) lc)
    have c2 := fun w => rppoint_any cs (ints C) lc n (cs || flat (ints C)) w (refRight_any cs (ints C) lc)
    obtain ⟨T, c3, c4, c5⟩ : ∃ T : ByteArray, (∀ w, Env (.iface 211 (.pointer (some (a 3)))) w → Calls Tryz.prog 38 #[.agg (pnt cs (ints C) n)] w fun e w' => e = .returned (.string T) ∧ Below w.heap.size w w') ∧
        (∀ w, Calls Tryz.prog 41 #[.agg (pnt cs (ints C) n)] w fun e w' => e = .returned (.string T) ∧ Below w.heap.size w w') ∧
        (((cs || flat (ints C)) && rp n) = true → ∀ w, Env (.iface 211 (.pointer (some (a 3)))) w → Calls Tryz.prog 36 #[.string T] w fun e w' => e = .returned (.tuple #[.agg (pnt cs (ints C) n), .nilIface]) ∧ Below w.heap.size w w') := by
      cases hr : ((cs || flat (ints C)) && rp n) with
      | false =>
        rw [hr] at c1 c2
        exact ⟨⟨#[]⟩, fun w _ => pformat_bad cs (ints C) lc n w c1, fun w => rpformat_bad cs (ints C) lc n w c2, fun h => by cases h⟩
      | true =>
        rw [hr] at c1 c2
        simp only [Bool.and_eq_true] at hr
        obtain ⟨hf, hp⟩ := hr
        unfold rp at hp
        simp only [Bool.and_eq_true, decide_eq_true_eq] at hp
        obtain ⟨N, rfl⟩ : ∃ N : Nat, n = N := ⟨n.toNat, by omega⟩
        have hN1 : 1 ≤ N := by omega
        have hN2 : N ≤ 65535 := by omega
        have hle := textA_le cs C hC
        have hd := dec_len N hN1 hN2
        have hal : (ahd cs (textA cs C)).length ≤ 902 := by
          unfold ahd
          split
          · simp
            omega
          · omega
        refine ⟨⟨(ptext cs (textA cs C) N).toArray⟩, fun w hE => ?_, fun w => ?_, fun _ w hE => ?_⟩
        · exact pformat_good cs (ints C) lc N ⟨(ahd cs (textA cs C)).toArray⟩ ⟨(ahd cs (textA cs C) ++ [58]).toArray⟩ ⟨(Lib.decDigits N).toArray⟩ _ _ w hE c1 (fun w hE => pfa_any cs C hlc hC hf _ w hE) (fun w hE => pitoa N hN2 _ w hE)
            (fun w' => run_string_add_lists w' (ahd cs (textA cs C)) [58] (by omega) (by simp)) (fun w' => run_string_add_lists w' (ahd cs (textA cs C) ++ [58]) (Lib.decDigits N) (by simp; omega) (by omega))
        · cases cs with
          | true =>
            have e : ptext true (textA true C) N = ((91 :: textA true C) ++ [93, 58]) ++ Lib.decDigits N := by simp [ptext, ahd]
            rw [e]
            exact rpformat_six (ints C) lc N ⟨(textA true C).toArray⟩ ⟨(91 :: textA true C).toArray⟩ ⟨((91 :: textA true C) ++ [93, 58]).toArray⟩ ⟨(Lib.decDigits N).toArray⟩ _ w c2 (fun w => rformatA true C hlc hC hf w) (fun w => pnumeral N hN2 w)
              (fun w' => run_string_add_lists w' [91] (textA true C) (by simp) (by omega)) (fun w' => run_string_add_lists w' (91 :: textA true C) [93, 58] (by simp; omega) (by simp)) (fun w' => run_string_add_lists w' ((91 :: textA true C) ++ [93, 58]) (Lib.decDigits N) (by simp; omega) (by omega))
          | false =>
            exact rpformat_four (ints C) lc N ⟨(textA false C).toArray⟩ ⟨(textA false C ++ [58]).toArray⟩ ⟨(Lib.decDigits N).toArray⟩ _ w c2 (fun w => rformatA false C hlc hC hf w) (fun w => pnumeral N hN2 w)
              (fun w' => run_string_add_lists w' (textA false C) [58] (by omega) (by simp)) (fun w' => run_string_add_lists w' (textA false C ++ [58]) (Lib.decDigits N) (by simp; omega) (by omega))
        · have hsz : (⟨(ptext cs (textA cs C) N).toArray⟩ : ByteArray).size ≤ 1000 := by
            rw [Lib.size_eq]
            simp [ptext]
            omega
          have h := pparse_any ⟨(ptext cs (textA cs C) N).toArray⟩ hsz 211 (.pointer (some (a 3))) w hE
          have e : pres (⟨(ptext cs (textA cs C) N).toArray⟩ : ByteArray).data.toList = some ((cs, ints C), N) := pres_text (textA cs C) cs (ints C) (parsed_textA cs C hlc hC hf) N hN1 hN2
          rw [e] at h
          exact h
    have cA := fun w hE => pparse_any s (by omega) 211 (.pointer (some (a 3))) w hE
    have cB := rpparse_any s (by omega)
    cases hp : pres s.data.toList with
    | none =>
      simp only [hp] at cA cB
      exact pts_false s (by omega) cs (ints C) lc n false z16 rfl 0 _ _ _ T _ w hE c0 cA cB (fun w' hb => num_err a 3 (by decide) w' (hErr.below hb)) c1 c2 c3 c4 c5
    | some x =>
      obtain ⟨⟨xs, xb⟩, xn⟩ := x
      simp only [hp] at cA cB
      have hlx : xb.length = 16 := pres_b hp
      exact pts_true s (by omega) cs (ints C) lc n xs xb hlx xn _ T _ w hE c0 cA cB c1 c2 c3 c4 c5
end Go.Proofs.YtnfkgoeocebenaaGreatDoor
