/-
  maglev.filled: the slots of all backends.
-/
import Derived.Test.YtgpbmbefdgbblaaDoorLfam
namespace Go.Proofs.YtgpbmbefdgbblaaDoor
open Go.RowKit Go.Lib

theorem set_taken {L : List Int} {p : Nat} (h : L.getD p 0 ≠ -1) (q v : Nat) : (L.set q (v : Int)).getD p 0 ≠ -1 := by
  rw [List.getD_eq_getElem?_getD, List.getElem?_set]
  by_cases e : q = p
  · subst e
    rw [if_pos rfl]
    by_cases hl : q < L.length
    · rw [if_pos hl]
      simp only [Option.getD_some]
      omega
    · rw [if_neg hl]
      simp
  · rw [if_neg e, ← List.getD_eq_getElem?_getD]
    exact h
theorem set_self {L : List Int} {p : Nat} (h : p < L.length) (v : Nat) : (L.set p (v : Int)).getD p 0 ≠ -1 := by
  rw [List.getD_eq_getElem?_getD, List.getElem?_set, if_pos rfl, if_pos h]
  simp only [Option.getD_some]
  omega

set_option maxRecDepth 100000 in
set_option maxHeartbeats 8000000 in
theorem filled_any (M : Nat) (hM : sizedB (M : Int) = true) (ad : Option Addr) (cap : Nat) (bs : List PS) (h0 : 0 < bs.length) (hm : bs.length ≤ 1000) (hcap : bs.length ≤ cap) (w : World) (hE : FEnv w) (hI : Elems encP 18 w.heap.size w ad bs) :
    Calls Tryd.prog 17 #[.slice ad bs.length cap, .int .i64 M] w fun e w' => ∃ S, e = .returned (.tuple #[.slice (some ⟨S, 0, none⟩) M M, .nilIface]) ∧ w.heap.size ≤ S ∧ SlotB w' S (fillT (ordL M bs) bs.length M M) ∧ Below w.heap.size w w' := by
  obtain ⟨M1, M2, _⟩ := sized_range hM
  obtain ⟨n, hn⟩ : ∃ n, n = bs.length := ⟨_, rfl⟩
  rw [← hn] at hcap hm h0 ⊢
  have Hn := hid hn
  have HI := hid hI
  have HE := hid hE
  have HRep : Hid (∀ g W, Blk W g 3 #[.int .i64 (-1)] → Calls Tryd.prog 30 #[.slice (some ⟨g, 0, none⟩) 1 1, .int .i64 M] W fun e w' => ∃ S, e = .returned (.slice (some ⟨S, 0, none⟩) M M) ∧ W.heap.size ≤ S ∧ SlotB w' S (List.replicate M (-1)) ∧ Below W.heap.size W w') := hid (fun g W => repeat_any M (by omega) (by omega) g W)
  have HTk : Hid (∀ S x (who : Nat) W, FEnv W → Calls Tryd.prog 31 #[.slice (some ⟨S, 0, none⟩) M M, .agg (encP x), .int .i64 who] W fun e w' => ∃ f, e = .returned (.tuple #[f, .nilIface]) ∧ TakeAt w' f W.heap.size w'.heap.size S M x who 0 ∧ Below W.heap.size W w') := hid (fun S x who W => taker_any M hM S x who W)
  have HOn : Hid (Onto (ordL M bs) n M) := hid (by rw [hn]; exact ordL_onto M hM bs)
  have HM := hid hM
  have hmk := run_make_row' (P := Tryd.prog) 61 1 .nilFunc 8 Tryd.underlying61 Tryd.infoFn rfl .i64 .i64 n (by omega) (by omega)
  have HB0 : Hid (Below w.heap.size w (w.alloc (.cells #[.int .i64 (-1)] 3))) := hid ((Below.refl _ _).alloc (Nat.le_refl _) _)
  have HG0 := hid (Blk.new w 3 #[.int .i64 (-1)])
  clear hn hI hE hM
  go_enter Tryd.func17, Tryd.ntmps17
  go_wp2_with fail
  refine (HRep.out _ _ HG0.out).mono ?_
  rintro e w1 ⟨S, rfl, hS1, hS2, hb1⟩
  have HS1 : Hid (w.heap.size ≤ S) := hid (by rw [World.size_alloc] at hS1; omega)
  have HB1 := hid (bel2 HB0.out hb1)
  obtain ⟨w2, hw2⟩ : ∃ W, W = w1.alloc (.cells (madeCells #[.nilFunc] n) 1) := ⟨_, rfl⟩
  have HW2 := hid hw2.symm
  have HS2 : Hid (SlotB w2 S (List.replicate M (-1))) := hid (hw2 ▸ Blk.alloc hS2 _)
  have HB2 : Hid (Below w.heap.size w w2) := hid (hw2 ▸ HB1.out.alloc HB1.out.size _)
  have HT2 : Hid (FunR w2 w1.heap.size n []) := hid (hw2 ▸ (World.rowIs_made w1 .nilFunc n 1).congr fun j _ => by simp)
  have HZ2 : Hid (S < w2.heap.size ∧ w1.heap.size < w2.heap.size ∧ S ≠ w1.heap.size ∧ w.heap.size ≤ w1.heap.size) := hid (by
    have h1 := hS2.lt
    have h2 : w2.heap.size = w1.heap.size + 1 := by rw [hw2]; exact World.size_alloc _ _
    have h3 := HB1.out.size
    omega)
  have HF2 : Hid (Fam w2 (fun _ => w2.heap.size) S w1.heap.size M bs [] (fun _ => 0)) := hid (Fam.start w2 S w1.heap.size M bs HZ2.out.1 HZ2.out.2.1)
  clear hS1 hS2 hb1 hw2 HRep HB0 HG0
  go_wp2
  rw [HW2.out]
  clear hmk
  generalize w1.heap.size = T at *
  go_loopg [20] n (fun g s20 wr => ∃ (i : Nat) (fs : List Value) (lo : Nat → Nat), s20 = .int .i64 (i : Int) ∧ i ≤ n ∧ n - i ≤ g ∧ Hid (i = fs.length) ∧ Hid (Fam wr lo S T M bs fs (fun _ => 0)) ∧ Hid (FunR wr T n fs) ∧ Hid (SlotB wr S (List.replicate M (-1))) ∧ Hid (Below w.heap.size w wr))
  case atStart => exact ⟨0, [], _, rfl, by omega, by omega, hid rfl, HF2, HT2, HS2, HB2⟩
  case round =>
    obtain ⟨i, fs, lo, rfl, hi, hgi, Hi, HF, HT, HS, HB⟩ := hrel
    by_cases hlt : i < n
    · have hpx : i < bs.length := by have := Hn.out; omega
      obtain ⟨g0, o0, rfl, hg0, hr0⟩ := HI.out i hpx
      obtain ⟨x, hx⟩ : ∃ x, x = bs[i] := ⟨_, rfl⟩
      have HX : Hid (wr.rangeAt g0 (o0 + i * 18) (encPL x)) := hid (hx ▸ rangeAt_below HB.out hg0 hr0)
      have HTk1 := hid (HTk.out S x i wr (HE.out.kept HB.out))
      have HXx : Hid (bs[fs.length]! = x) := hid (by rw [← Hi.out, getElem!_pos bs i hpx, hx])
      clear hx hr0
      go_wp2_with ((show wpList _ _ _ (⟨some 28, _, _, _, _, _⟩ :: _) _ _); go_must (refine wpl_loadP (.tmp 27) rfl g0 (o0 + i * 18) rfl x HX.out rfl ?_))
      refine HTk1.out.mono ?_
      rintro e w3 ⟨f0, rfl, hf, hb3⟩
      obtain ⟨fp, fq, fr, ef⟩ : ∃ p q r, f0 = .func (.func 46) #[] #[.pointer (some ⟨p, 0, none⟩), .pointer (some ⟨q, 0, none⟩), .pointer (some ⟨r, 0, none⟩)] := by
        obtain ⟨p, q, r, c, b, e, _⟩ := hf
        exact ⟨p, q, r, e⟩
      subst ef
      have hzT : T < wr.heap.size := HT.out.lt
      have hzS : S < wr.heap.size := HS.out.lt
      have HF3 : Hid (Fam w3 (fun j => if j ≤ fs.length then lo j else w3.heap.size) S T M bs (fs ++ [(Value.func (Fn.func 46) #[] #[.pointer (some ⟨fp, 0, none⟩), .pointer (some ⟨fq, 0, none⟩), .pointer (some ⟨fr, 0, none⟩)])]) (fun _ => 0)) := hid (HF.out.add hb3 (by rw [HXx.out, ← Hi.out]; exact hf))
      have HT3 : Hid (FunR w3 T n fs) := hid (HT.out.kept (hb3.block _ hzT))
      have HS3 : Hid (SlotB w3 S (List.replicate M (-1))) := hid (Blk.kept HS.out hb3)
      have HB3 : Hid (Below w.heap.size w w3) := hid (HB.out.trans (hb3.mono HB.out.size))
      have hc3 : w3.frozen? ⟨T, i, none⟩ = false := HT3.out.frozen i
      have hd3 : w3.cell? ⟨T, i, none⟩ = some .nilFunc := by
        have := HT3.out.cell hlt
        rw [this, List.getD_eq_getElem?_getD, List.getElem?_eq_none (by rw [← Hi.out]; exact Nat.le_refl _)]
        rfl
      have hst : (store ⟨T, i, none⟩ (Value.func (Fn.func 46) #[] #[.pointer (some ⟨fp, 0, none⟩), .pointer (some ⟨fq, 0, none⟩), .pointer (some ⟨fr, 0, none⟩)])).run Tryd.prog w3 = .ok () (w3.setCell ⟨T, i, none⟩ (Value.func (Fn.func 46) #[] #[.pointer (some ⟨fp, 0, none⟩), .pointer (some ⟨fq, 0, none⟩), .pointer (some ⟨fr, 0, none⟩)])) := by
        rw [run_store _ _ _ _ _ rfl]
        simp [hc3, hd3]
      have HF4 : Hid (Fam (w3.setCell ⟨T, i, none⟩ (Value.func (Fn.func 46) #[] #[.pointer (some ⟨fp, 0, none⟩), .pointer (some ⟨fq, 0, none⟩), .pointer (some ⟨fr, 0, none⟩)])) (fun j => if j ≤ fs.length then lo j else w3.heap.size) S T M bs (fs ++ [(Value.func (Fn.func 46) #[] #[.pointer (some ⟨fp, 0, none⟩), .pointer (some ⟨fq, 0, none⟩), .pointer (some ⟨fr, 0, none⟩)])]) (fun _ => 0)) := hid (HF3.out.setCell i (Value.func (Fn.func 46) #[] #[.pointer (some ⟨fp, 0, none⟩), .pointer (some ⟨fq, 0, none⟩), .pointer (some ⟨fr, 0, none⟩)]))
      have HT4 : Hid (FunR (w3.setCell ⟨T, i, none⟩ (Value.func (Fn.func 46) #[] #[.pointer (some ⟨fp, 0, none⟩), .pointer (some ⟨fq, 0, none⟩), .pointer (some ⟨fr, 0, none⟩)])) T n (fs ++ [(Value.func (Fn.func 46) #[] #[.pointer (some ⟨fp, 0, none⟩), .pointer (some ⟨fq, 0, none⟩), .pointer (some ⟨fr, 0, none⟩)])])) := hid (by have := HT3.out.push (Value.func (Fn.func 46) #[] #[.pointer (some ⟨fp, 0, none⟩), .pointer (some ⟨fq, 0, none⟩), .pointer (some ⟨fr, 0, none⟩)]); rwa [← Hi.out] at this)
      have HS4 : Hid (SlotB (w3.setCell ⟨T, i, none⟩ (Value.func (Fn.func 46) #[] #[.pointer (some ⟨fp, 0, none⟩), .pointer (some ⟨fq, 0, none⟩), .pointer (some ⟨fr, 0, none⟩)])) S (List.replicate M (-1))) := hid (Blk.setOther HS3.out HZ2.out.2.2.1 _ _)
      have HB4 : Hid (Below w.heap.size w (w3.setCell ⟨T, i, none⟩ (Value.func (Fn.func 46) #[] #[.pointer (some ⟨fp, 0, none⟩), .pointer (some ⟨fq, 0, none⟩), .pointer (some ⟨fr, 0, none⟩)]))) := hid (HB3.out.setCell (p := ⟨T, i, none⟩) HZ2.out.2.2.2 (Value.func (Fn.func 46) #[] #[.pointer (some ⟨fp, 0, none⟩), .pointer (some ⟨fq, 0, none⟩), .pointer (some ⟨fr, 0, none⟩)]))
      have HL4 : Hid (i + 1 = (fs ++ [(Value.func (Fn.func 46) #[] #[.pointer (some ⟨fp, 0, none⟩), .pointer (some ⟨fq, 0, none⟩), .pointer (some ⟨fr, 0, none⟩)])]).length) := hid (by rw [List.length_append, List.length_cons, List.length_nil, Hi.out])
      clear hf hb3 hzT hzS HF HT HS HB HF3 HT3 HS3 HB3
      go_wp2
      go_roundg (n - (i + 1))
      case measure => omega
      case rel => exact ⟨i + 1, fs ++ [(Value.func (Fn.func 46) #[] #[.pointer (some ⟨fp, 0, none⟩), .pointer (some ⟨fq, 0, none⟩), .pointer (some ⟨fr, 0, none⟩)])], _, by go_num, by omega, Nat.le_refl _, HL4, HF4, HT4, HS4, HB4⟩
    · obtain rfl : i = n := by omega
      have HStep : Hid (∀ t, t < M → ∃ J, J < M ∧ (fillT (ordL M bs) i M t).getD (ordL M bs (t % i) J) 0 = -1 ∧ (∀ j, j < J → (fillT (ordL M bs) i M t).getD (ordL M bs (t % i) j) 0 ≠ -1) ∧ fillT (ordL M bs) i M (t + 1) = (fillT (ordL M bs) i M t).set (ordL M bs (t % i) J) ((t % i : Nat) : Int)) := hid (fun t ht => fillT_step h0 HOn.out ht)
      have HLen : Hid (∀ t, (fillT (ordL M bs) i M t).length = M) := hid (fillT_length (ordL M bs) i M)
      have HTake : Hid (∀ (p q r c b : Nat) (x : PS) (who d J : Nat) (L : List Int), L.length = M → ∀ W, (p ≠ c ∧ q ≠ c ∧ r ≠ c) → S ≠ c → S ≠ b → Blk W p 79 #[.pointer (some ⟨c, 0, none⟩)] → Blk W q 24 #[.slice (some ⟨S, 0, none⟩) M M] → Blk W r 3 #[.int .i64 who] →
          CurYes W c b M (oOf M x) (kOf M x) d → SlotB W S L → d ≤ J → J ≤ 100000 → L.getD (ordP M x J) 0 = -1 → (∀ i, d ≤ i → i < J → L.getD (ordP M x i) 0 ≠ -1) →
          Calls Tryd.prog 46 #[.pointer (some ⟨p, 0, none⟩), .pointer (some ⟨q, 0, none⟩), .pointer (some ⟨r, 0, none⟩)] W fun e w' =>
            e = .returned (.tuple #[]) ∧ CurYes w' c b M (oOf M x) (kOf M x) (J + 1 : Nat) ∧ SlotB w' S (L.set (ordP M x J) who) ∧ Two W w' c S) := hid (fun p q r c b x who d J L hl W => take_any M HM.out S p q r c b x who d J L hl W)
      have HZero : Hid (SlotB wr S (fillT (ordL M bs) i M 0)) := hid HS.out
      have HD0 : Hid (∀ k, k < i → ∀ j, j < (fun _ : Nat => 0) k → (fillT (ordL M bs) i M 0).getD (ordL M bs k j) 0 ≠ -1) := hid (fun k _ j hj => by simp at hj)
      clear HI HTk HS HE HB1 HOn HS2 HB2 HT2 HF2
      go_wp2
      go_loopg [42] M (fun g s42 wr => ∃ (t : Nat) (ds : Nat → Nat), s42 = .int .i64 (t : Int) ∧ t ≤ M ∧ M - t ≤ g ∧ Hid (Fam wr lo S T M bs fs ds) ∧ Hid (FunR wr T i fs) ∧ Hid (SlotB wr S (fillT (ordL M bs) i M t)) ∧ Hid (∀ k, k < i → ∀ j, j < ds k → (fillT (ordL M bs) i M t).getD (ordL M bs k j) 0 ≠ -1) ∧ Hid (Below w.heap.size w wr))
      case atStart => exact ⟨0, fun _ => 0, rfl, by omega, by omega, HF, HT, HZero, HD0, HB⟩
      case round =>
        obtain ⟨t, ds, rfl, ht, hgt, HFt, HTt, HSt, HDt, HBt⟩ := hrel
        by_cases hlt2 : t < M
        · obtain ⟨k, hk⟩ : ∃ k, k = t % i := ⟨_, rfl⟩
          have hki : k < i := by rw [hk]; exact Nat.mod_lt _ h0
          have hkf : k < fs.length := by rw [← Hi.out]; exact hki
          obtain ⟨p, q, r, c, b, ef, hl, hh, hn, kp, kq, kr, kc⟩ := HFt.out.each k hkf
          obtain ⟨J, hJ, hfree, hbef, hset⟩ := HStep.out t hlt2
          rw [← hk] at hfree hbef hset
          have hdJ : ds k ≤ J := by
            rcases Nat.lt_or_ge J (ds k) with h | h
            · exact absurd hfree (HDt.out k hki J h)
            · exact h
          have hbase := HFt.out.base
          have hm0 := HFt.out.mono 0 k (Nat.zero_le _) (Nat.le_of_lt hkf)
          have HCall := hid (HTake.out p q r c b bs[k]! k (ds k) J _ (HLen.out t) wr hn (by omega) (by omega) kp kq kr kc HSt.out hdJ (by omega) hfree (fun i _ hi => hbef i hi))
          have HNext : Hid (∀ w', CurYes w' c b M (oOf M bs[k]!) (kOf M bs[k]!) (J + 1 : Nat) → SlotB w' S ((fillT (ordL M bs) i M t).set (ordP M bs[k]! J) k) → Two wr w' c S →
              ∃ ds', Hid (Fam w' lo S T M bs fs ds') ∧ Hid (FunR w' T i fs) ∧ Hid (SlotB w' S (fillT (ordL M bs) i M (t + 1))) ∧ Hid (∀ k, k < i → ∀ j, j < ds' k → (fillT (ordL M bs) i M (t + 1)).getD (ordL M bs k j) 0 ≠ -1) ∧ Hid (Below w.heap.size w w')) := hid (fun w' hC hS hT => by
            refine ⟨fun z => if z = k then J + 1 else ds z, hid (HFt.out.take hkf ef hl hh hn kp kq kr J hC hT), hid (HTt.out.kept (hT.block T HTt.out.lt (by omega) (Ne.symm HZ2.out.2.2.1))), hid (by rw [hset]; exact hS), hid (fun z hz j hj => ?_), hid ?_⟩
            · replace hj : j < if z = k then J + 1 else ds z := hj
              rw [hset]
              by_cases e : z = k
              · subst e
                rw [if_pos rfl] at hj
                by_cases ej : j = J
                · subst ej
                  exact set_self (by rw [HLen.out]; exact ordP_lt M HM.out _ _) _
                · exact set_taken (hbef j (by omega)) _ _
              · rw [if_neg e] at hj
                exact set_taken (HDt.out z hz j hj) _ _
            · have hb := HBt.out
              refine ⟨hT.os.trans hb.os, hT.tape.trans hb.tape, hT.output.trans hb.output, Nat.le_trans hb.size hT.size, fun g hg => (hT.block g (Nat.lt_of_lt_of_le hg hb.size) ?_ ?_).trans (hb.block g hg)⟩
              · have := HZ2.out.2.2.2
                omega
              · have := HS1.out
                omega)
          have cT : wr.cell? ⟨T, k, none⟩ = some (.func (.func 46) #[] #[.pointer (some ⟨p, 0, none⟩), .pointer (some ⟨q, 0, none⟩), .pointer (some ⟨r, 0, none⟩)]) := by
            have := HTt.out.cell hki
            rw [this, ← ef, List.getD_eq_getElem?_getD, List.getElem?_eq_getElem hkf]
            rfl
          have m1 : (t : Int).tmod (i : Int) = (k : Int) := by rw [hk]; rfl
          have m2 : (t : Int) % (i : Int) = (k : Int) := by rw [hk]; rfl
          have m3 : ¬ (i : Int) = 0 := by omega
          have m4 : ¬ i = 0 := by omega
          clear hk hkf ef hl hh hn kp kq kr kc hfree hbef hset hdJ hbase hm0 HFt HTt HSt HDt
          go_wp2_with fail
          refine HCall.out.mono ?_
          rintro e w5 ⟨rfl, hC, hS, hT⟩
          obtain ⟨ds', F1, F2, F3, F4, F5⟩ := HNext.out w5 hC hS hT
          clear hC hS hT HCall HNext cT
          go_wp2
          go_roundg (M - (t + 1))
          case measure => omega
          case rel => exact ⟨t + 1, ds', by go_num, by omega, Nat.le_refl _, F1, F2, F3, F4, F5⟩
        · obtain rfl : t = M := by omega
          go_wp2
          go_ret2
          exact ⟨S, rfl, HS1.out, HSt.out, HBt.out⟩
end Go.Proofs.YtgpbmbefdgbblaaDoor
