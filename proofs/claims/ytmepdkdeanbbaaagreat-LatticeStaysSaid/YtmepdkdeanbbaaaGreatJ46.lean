/- BatchD, BatchE, BatchF -/
import Derived.Test.YtmepdkdeanbbaaaGreatJ25
import Derived.Test.YtmepdkdeanbbaaaGreatJ37
import Derived.Test.YtmepdkdeanbbaaaGreatJ39
import Derived.Test.YtmepdkdeanbbaaaGreatJ42
namespace Go.Proofs.YtmepdkdeanbbaaaGreat
set_option maxRecDepth 100000
open Go.RowKit

theorem HasL.one {w : World} {S : Nat → Prop} {A : Option Addr} {n c : Nat} {l : List Int} (h : Row elInt 1 w S A n c l) (T : TypeId) : HasL (w.alloc (.cells #[.slice A n c] T)) (w.alloc (.cells #[.slice A n c] T)).heap.size (some ⟨w.heap.size, 0, none⟩) 1 1 [l] :=
 ⟨rfl, Nat.le_refl _, by unfold maxLen; omega, (fun h => by cases h), fun i hi => by
  obtain rfl : i = 0 := by omega
  exact ⟨w.heap.size, 0, A, n, c, rfl, by simp, by rw [cell_new]; rfl, (h.mv elInt_ok (Mv.alloc w (.cells #[.slice A n c] T) S)).hasI⟩⟩
set_option maxRecDepth 100000 in
theorem areVals_any {S : Nat → Prop} {A : Option Addr} {n c : Nat} {l : List Int} {w : World} (m : Int) (h : Row elInt 1 w S A n c l) {r : Bool} (hr : r = true ↔ 0 ≤ m ∧ m ≤ 2 ∧ isVal m l) :
  Calls Tryz.prog 160 #[.int .i64 m, .slice A n c] w fun e w' => e = .returned (.bool r) ∧ Below w.heap.size w w' := by
 have HF := Lib.hid (fold_any m (HasL.one h 47) (by decide))
 have hb0 := below_a1 w (.cells #[.slice A n c] 47)
 obtain ⟨⟨x, e⟩, hxe⟩ : ∃ x, Hid (cFold m [l] = x) := ⟨_, Lib.hid rfl⟩
 rw [hxe.out] at HF
 have hv := isVal_fold m l
 rw [hxe.out] at hv
 have he : (e == 0) = r := by
  rw [Bool.eq_iff_iff, hr, ← hv]
  simp
 have HE := Lib.hid he
 clear h hr hv he
 go_enter Tryz.func160, Tryz.ntmps160
 go_wp2_with fail
 generalize w.alloc (.cells #[.slice A n c] 47) = W at HF hb0 ⊢
 refine HF.out.mono ?_
 rintro e' w2 hT
 obtain ⟨A1, n1, c1, A2, n2, c2, A3, n3, c3, rfl, _, hb2⟩ := hT.toH.of (n := x.1) (S := x.2.1) (M := x.2.2.1) (X := x.2.2.2) rfl
 have hb3 := below_then hb0 hb2
 have hb4 := Lib.hid (below_then hb3 (below_a1 w2 (.cells #[.int .i64 x.1, .slice A1 n1 c1, .slice A2 n2 c2, .slice A3 n3 c3] 71)))
 clear HF hb0 hb2 hb3 hT
 go_wp2_with fail
 go_ret
 exact ⟨by rw [← HE.out]; rfl, hb4.out⟩

/-! ### amiss -/
def missK (ok : Fct → Prop) [DecidablePred ok] (L : List Fct) (k : Nat) : Nat := if ∃ f ∈ L.take k, ¬ ok f then 12 else 0
theorem missK_zero (ok : Fct → Prop) [DecidablePred ok] (L : List Fct) : missK ok L 0 = 0 := by unfold missK; rw [if_neg]; rintro ⟨f, hf, _⟩; simp at hf
theorem missK_yes {ok : Fct → Prop} [DecidablePred ok] {L : List Fct} {k : Nat} {f : Fct} (h : L[k]? = some f) (ho : ok f) : missK ok L (k + 1) = missK ok L k := by
 unfold missK
 rw [List.take_add_one, h]
 congr 1
 simp [ho]
theorem missK_no {ok : Fct → Prop} [DecidablePred ok] {L : List Fct} {k : Nat} {f : Fct} (h : L[k]? = some f) (ho : ¬ ok f) : missK ok L (k + 1) = 12 := by
 unfold missK
 rw [List.take_add_one, h, if_pos]
 exact ⟨f, by simp, ho⟩
theorem missK_end {ok : Fct → Prop} [DecidablePred ok] {L : List Fct} {k least : Nat} (hk : L.length ≤ k) (h : ¬ (L.length < least ∨ 8 < L.length)) : missP L least ok = missK ok L k := by
 unfold missP missK
 rw [if_neg h, List.take_of_length_le hk]
set_option maxRecDepth 100000 in
set_option maxHeartbeats 2000000 in
theorem amiss_any {S : Nat → Prop} {A : Option Addr} {n c : Nat} {L : List Fct} {w : World} (h : HasF w S A n c L) (least : Nat) (fid : Nat) (lb : Array Value) (ok : Fct → Prop) [DecidablePred ok]
  (eg : ∀ args W, (callFunc fid args).run Tryz.prog W = .ok (.enter fid args) W)
  (HF : ∀ p q, (p, q) ∈ L → ∀ W S' A1 n1 c1 A2 n2 c2, Below w.heap.size w W → Row (elRow elText 1) 1 W S' A1 n1 c1 p → Row elInt 1 W S' A2 n2 c2 q →
   Calls Tryz.prog fid (#[.agg #[.slice A1 n1 c1, .slice A2 n2 c2]] ++ lb) W fun e w' => e = .returned (.bool (decide (ok (p, q)))) ∧ Below W.heap.size W w') :
  Calls Tryz.prog 97 #[.slice A n c, .int .i64 (least : Int), .func (.func fid) #[] lb] w fun e w' => e = .returned (.int .i64 (missP L least ok : Nat)) ∧ Below w.heap.size w w' := by
 have hlm := h.lenMax
 have hll := Lib.hid h.len
 have HFF := Lib.hid HF
 have HS : ∀ b, (S b ∧ b < w.heap.size) → b < w.heap.size := fun b hb => hb.2
 have h1 : HasF w (fun b => S b ∧ b < w.heap.size) A n c L := h.mv elFct_ok (Mv.to w fun b hb hl => ⟨hb, hl⟩)
 clear h HF
 by_cases h0 : n < least
 ·have H : Hid (missP L least ok = 13) := Lib.hid (missP_many (.inl (by have := hll.out; omega)))
  have hd : decide (n < least) = true := decide_eq_true h0
  go_enter Tryz.func97, Tryz.ntmps97
  go_wp2_with fail
  go_ret
  exact ⟨by rw [H.out]; rfl, Below.refl _ _⟩
 ·by_cases h8 : 8 < n
  ·have H : Hid (missP L least ok = 13) := Lib.hid (missP_many (.inr (by have := hll.out; omega)))
   have hd : decide (n < least) = false := decide_eq_false h0
   go_enter Tryz.func97, Tryz.ntmps97
   go_wp2_with fail
   go_ret
   exact ⟨by rw [H.out]; rfl, Below.refl _ _⟩
  ·have hd : decide (n < least) = false := decide_eq_false h0
   have HN : Hid (¬ (L.length < least ∨ 8 < L.length)) := Lib.hid (by have := hll.out; omega)
   go_enter Tryz.func97, Tryz.ntmps97
   go_wp2_with fail
   go_loopw [6, 20] (fun x i wr => ∃ k : Nat, k ≤ n ∧ i = .int .i64 k ∧ x = .int .i64 (missK ok L k : Nat) ∧ Below w.heap.size w wr) (fun _ i _ => n - (intOf i).toNat)
   case atStart => exact ⟨0, Nat.zero_le _, rfl, by rw [missK_zero]; rfl, Below.refl _ _⟩
   case round =>
    obtain ⟨k, hk, rfl, rfl, hB⟩ := hrel
    by_cases hlt : k < n
    ·obtain ⟨b, o, A1, n1, c1, A2, n2, c2, p, q, rfl, _, _, g0, g1, hp, hq, he⟩ := (h1.mv elFct_ok (Mv.below hB HS)).at2 hlt
     have i0 : (0 : Int) ≤ (k : Int) := by omega
     have i1 : (k : Int) < (n : Int) := by omega
     have hbx := below_a1 wr (.cells #[.slice A1 n1 c1, .slice A2 n2 c2] 83)
     have hbl := Block.new wr 83 #[.slice A1 n1 c1, .slice A2 n2 c2]
     have hB1 := hB.trans (hbx.mono hB.size)
     have hp1 := hp.mv elPath_ok (Mv.alloc wr (.cells #[.slice A1 n1 c1, .slice A2 n2 c2] 83) _)
     have hq1 := hq.mv elInt_ok (Mv.alloc wr (.cells #[.slice A1 n1 c1, .slice A2 n2 c2] 83) _)
     have HC := Lib.hid (HFF.out p q (List.mem_of_getElem? he.out) _ _ A1 n1 c1 A2 n2 c2 hB1 hp1 hq1)
     clear hp hq hp1 hq1 hB hbx
     go_wp2_with fail
     generalize wr.alloc (.cells #[.slice A1 n1 c1, .slice A2 n2 c2] 83) = W at hB1 hbl HC ⊢
     have k0 : W.cell? ⟨wr.heap.size, 0, none⟩ = some (.slice A1 n1 c1) := hbl.cell 0
     have k1 : W.cell? ⟨wr.heap.size, 1, none⟩ = some (.slice A2 n2 c2) := hbl.cell 1
     clear g0 g1 hbl
     by_cases ho : ok (p, q)
     ·rw [decide_eq_true ho] at HC
      have HM := Lib.hid (missK_yes he.out ho)
      clear ho
      go_wp2_with fail
      refine HC.out.mono ?_
      rintro e w2 ⟨rfl, hb2⟩
      have hB2 := hB1.trans (hb2.mono hB1.size)
      clear hB1 hb2 HC k0 k1
      go_wp2_with fail
      go_roundw
      case rel => exact ⟨k + 1, by omega, by go_num, by rw [HM.out], hB2⟩
      case measure => simp [intOf]; omega
     ·rw [decide_eq_false ho] at HC
      have HM := Lib.hid (missK_no he.out ho)
      clear ho
      go_wp2_with fail
      refine HC.out.mono ?_
      rintro e w2 ⟨rfl, hb2⟩
      have hB2 := hB1.trans (hb2.mono hB1.size)
      clear hB1 hb2 HC k0 k1
      go_wp2_with fail
      go_roundw
      case rel => exact ⟨k + 1, by omega, by go_num, by rw [HM.out]; rfl, hB2⟩
      case measure => simp [intOf]; omega
    ·have HM := Lib.hid (missK_end (k := k) (ok := ok) (by have := hll.out; omega) HN.out)
     go_wp2_with fail
     go_ret
     exact ⟨by rw [HM.out]; rfl, hB⟩
end Go.Proofs.YtmepdkdeanbbaaaGreat
namespace Go.Proofs.YtmepdkdeanbbaaaGreat
set_option maxRecDepth 100000
open Go.RowKit

theorem plainF_iff {p : List (List Txt)} {q : List Int} : plainF (p, q) ↔ (p.length ≤ 3 ∧ ∀ x ∈ p, mayP x) ∧ (0 ≤ (q.length : Int) ∧ (q.length : Int) ≤ 2 ∧ isVal (q.length : Int) q) := by
 unfold plainF isVal
 constructor
 ·rintro ⟨h1, h2, h3, h4⟩
  exact ⟨⟨h1, h2⟩, by omega, by have h3 : q.length ≤ 2 := h3; omega, rfl, h4⟩
 ·rintro ⟨⟨h1, h2⟩, h3, h4, h5, h6⟩
  exact ⟨h1, h2, by show q.length ≤ 2; omega, h6⟩
def seenF (D : List PDim) (p : List (List Txt)) (k : Nat) : Prop := ∀ i, i < k → (p.getD i []).length = (D.getD i zeroD).2.length ∧ mayP (p.getD i [])
theorem fitF_iff {D : List PDim} {m : Nat} {p : List (List Txt)} {q : List Int} (hD : D.length ≤ 3) : fitF D m (p, q) ↔ p.length = D.length ∧ seenF D p D.length ∧ 0 ≤ (m : Int) ∧ (m : Int) ≤ 2 ∧ isVal (m : Int) q := by
 unfold fitF
 rw [plainF_iff]
 unfold seenF isVal
 constructor
 ·rintro ⟨⟨⟨h1, h2⟩, h3, h4, h5, h6⟩, h7, h8, h9⟩
  have h8 : q.length = m := h8
  have h7 : p.length = D.length := h7
  refine ⟨h7, fun i hi => ⟨h9 i hi, h2 _ ?_⟩, by omega, by omega, by omega, h6⟩
  rw [List.getD_eq_getElem?_getD, List.getElem?_eq_getElem (by omega)]
  exact List.getElem_mem _
 ·rintro ⟨h1, h2, h3, h4, h5, h6⟩
  refine ⟨⟨⟨by omega, fun x hx => ?_⟩, by omega, by omega, rfl, h6⟩, h1, by show q.length = m; omega, fun i hi => (h2 i hi).1⟩
  obtain ⟨i, hi⟩ := List.getElem?_of_mem hx
  have hil := (List.getElem?_eq_some_iff.1 hi).1
  have := (h2 i (by omega)).2
  rwa [List.getD_eq_getElem?_getD, hi] at this
theorem seenF_snoc {D : List PDim} {p : List (List Txt)} {k : Nat} {x : List Txt} {y : Txt} {l : List Txt} (hx : p[k]? = some x) (hd : D.getD k zeroD = (y, l)) (h : seenF D p k) (h1 : x.length = l.length) (h2 : mayP x) : seenF D p (k + 1) := by
 intro i hi
 by_cases h : i < k
 ·exact ‹seenF D p k› i h
 ·obtain rfl : i = k := by omega
  rw [List.getD_eq_getElem?_getD, hx, hd]
  exact ⟨h1, h2⟩
theorem seenF_not {D : List PDim} {p : List (List Txt)} {k n : Nat} {x : List Txt} {y : Txt} {l : List Txt} (hk : k < n) (hx : p[k]? = some x) (hd : D.getD k zeroD = (y, l)) (h : ¬ (x.length = l.length ∧ mayP x)) : ¬ seenF D p n := by
 intro hs
 have := hs k hk
 rw [List.getD_eq_getElem?_getD, hx, hd] at this
 exact h this
set_option maxRecDepth 100000 in
set_option maxHeartbeats 2000000 in
theorem mayBeB_any {S : Nat → Prop} {A1 A2 B1 B2 B3 : Option Addr} {n1 c1 n2 c2 m1 d1 m2 d2 m3 d3 : Nat} {p : List (List Txt)} {q : List Int} {D : List PDim} {M : List Txt} {V : List (List Int)} {w : World}
  (hs : HasS w w.heap.size B1 m1 d1 B2 m2 d2 B3 m3 d3 D M V) (hD : m1 ≤ 3) (hp : Row (elRow elText 1) 1 w S A1 n1 c1 p) (hq : Row elInt 1 w S A2 n2 c2 q) :
  Calls Tryz.prog 99 #[schV B1 m1 d1 B2 m2 d2 B3 m3 d3, .agg #[.slice A1 n1 c1, .slice A2 n2 c2]] w fun e w' => e = .returned (.bool (decide (fitF D M.length (p, q)))) ∧ Below w.heap.size w w' := by
 have hl1 := hp.lenMax
 have hl2 := hq.lenMax
 have HL1 := Lib.hid hp.len
 have HLD := Lib.hid hs.d.len
 have HLM := Lib.hid hs.m.len
 have hlm := hs.m.lenMax
 have hb00 := below_a1 w (.cells #[.slice B1 m1 d1, .slice B2 m2 d2, .slice B3 m3 d3] 26)
 have hb0 := below_then hb00 (below_a1 (w.alloc (.cells #[.slice B1 m1 d1, .slice B2 m2 d2, .slice B3 m3 d3] 26)) (.cells #[.slice A1 n1 c1, .slice A2 n2 c2] 83))
 have hbs := (Block.new w 26 #[.slice B1 m1 d1, .slice B2 m2 d2, .slice B3 m3 d3]).alloc (.cells #[.slice A1 n1 c1, .slice A2 n2 c2] 83)
 have hbl := Block.new (w.alloc (.cells #[.slice B1 m1 d1, .slice B2 m2 d2, .slice B3 m3 d3] 26)) 83 #[.slice A1 n1 c1, .slice A2 n2 c2]
 rw [show (w.alloc (.cells #[.slice B1 m1 d1, .slice B2 m2 d2, .slice B3 m3 d3] 26)).heap.size = w.heap.size + 1 by simp] at hbl
 have hp0 := hp.mv elPath_ok (Mv.belowS hb0 S)
 have hq0 := hq.mv elInt_ok (Mv.belowS hb0 S)
 have hd0 := hs.d.belowS hb0
 clear hp hq hs hb00
 have HI := Lib.hid (fitF_iff (m := M.length) (p := p) (q := q) (show D.length ≤ 3 by have := HLD.out; omega))
 by_cases hne : n1 = m1
 ·subst hne
  have he0 : ((n1 : Int) != (n1 : Int)) = false := by simp
  go_enter Tryz.func99, Tryz.ntmps99
  go_wp2_with fail
  generalize (w.alloc (.cells #[.slice B1 n1 d1, .slice B2 m2 d2, .slice B3 m3 d3] 26)).alloc (.cells #[.slice A1 n1 c1, .slice A2 n2 c2] 83) = W at hb0 hbl hbs hp0 hq0 hd0 ⊢
  clear he0
  have hp1 : Row (elRow elText 1) 1 W (fun b => S b ∧ b < W.heap.size) A1 n1 c1 p := hp0.mv elPath_ok (Mv.to W fun b hb hl => ⟨hb, hl⟩)
  have hq1 : Row elInt 1 W (fun b => S b ∧ b < W.heap.size) A2 n2 c2 q := hq0.mv elInt_ok (Mv.to W fun b hb hl => ⟨hb, hl⟩)
  have HS : ∀ b, (S b ∧ b < W.heap.size) → b < W.heap.size := fun b hb => hb.2
  have HBL := Lib.hid hbl
  have HBS := Lib.hid hbs
  clear hp0 hq0 hbl hbs
  go_loopw [17] (fun i wr => ∃ k : Nat, k ≤ n1 ∧ i = .int .i64 k ∧ seenF D p k ∧ Below W.heap.size W wr) (fun i _ => n1 - (intOf i).toNat)
  case atStart => exact ⟨0, Nat.zero_le _, rfl, (fun i hi => absurd hi (by omega)), Below.refl _ _⟩
  case round =>
   obtain ⟨k, hk, rfl, hall, hB⟩ := hrel
   have HA := Lib.hid hall
   clear hall
   by_cases hlt : k < n1
   ·obtain ⟨b, o, A', n', c', x, rfl, _, _, g0, hx, he⟩ := (hp1.mv elPath_ok (Mv.below hB HS)).at1 hlt
    obtain ⟨b2, o2, y, A4, n4, c4, l, rfl, _, g1, g2, hl, hde⟩ := (hd0.below hB (Nat.le_refl _)).at_ hlt
    have i0 : (0 : Int) ≤ (k : Int) := by omega
    have i1 : (k : Int) < (n1 : Int) := by omega
    have s1 : wr.cell? ⟨w.heap.size, 0, none⟩ = some (.slice (some ⟨b2, o2, none⟩) n1 d1) := (HBS.out.below hB HBS.out.lt).cell 0
    have hT := hx.hasT
    have hlx := hx.len
    have hll := hl.len
    have hn4 := hl.lenMax
    have hn' := hx.lenMax
    clear hx hl
    by_cases hle : n' = n4
    ·subst hle
     by_cases hm : mayP x
     ·have HM := Lib.hid hm
      have HN := Lib.hid (seenF_snoc he.out hde.out HA.out (by omega) hm)
      clear hm hlx hll
      go_wp2_with fail
      refine (may_yes hT HM.out).mono ?_
      rintro e w2 ⟨rfl, hb2⟩
      have hB2 := hB.trans (hb2.mono hB.size)
      clear hB hb2 hT g0 g1 g2 s1
      go_wp2_with fail
      go_roundw
      case rel => exact ⟨k + 1, by omega, by go_num, HN.out, hB2⟩
      case measure => simp [intOf]; omega
     ·have HM := Lib.hid hm
      have H : Hid (decide (fitF D M.length (p, q)) = false) := Lib.hid (by
       rw [decide_eq_false_iff_not, HI.out]
       intro h
       exact seenF_not (by have := HLD.out; omega) he.out hde.out (fun h => hm h.2) h.2.1)
      clear hm hlx hll
      go_wp2_with fail
      refine (may_no hT HM.out).mono ?_
      rintro e w2 ⟨rfl, hb2⟩
      have hB2 := hb0.trans ((hB.trans (hb2.mono hB.size)).mono hb0.size)
      clear hB hb2 hT g0 g1 g2 s1
      go_wp2_with fail
      go_ret
      exact ⟨by rw [H.out]; rfl, hB2⟩
    ·have H : Hid (decide (fitF D M.length (p, q)) = false) := Lib.hid (by
      rw [decide_eq_false_iff_not, HI.out]
      intro h
      exact seenF_not (by have := HLD.out; omega) he.out hde.out (fun h => hle (by have := h.1; omega)) h.2.1)
     have hle1 : ((n' : Int) != (n4 : Int)) = true := by simp; omega
     have hB2 := hb0.trans (hB.mono hb0.size)
     clear hlx hll hle
     go_wp2_with fail
     go_ret
     exact ⟨by rw [H.out]; rfl, hB2⟩
   ·have k1 : wr.cell? ⟨w.heap.size + 1, 1, none⟩ = some (.slice A2 n2 c2) := (HBL.out.below hB HBL.out.lt).cell 1
    have s1 : wr.cell? ⟨w.heap.size, 1, none⟩ = some (.slice B2 m2 d2) := (HBS.out.below hB HBS.out.lt).cell 1
    have HC := Lib.hid (areVals_any (m := (m2 : Int)) (r := decide (fitF D M.length (p, q))) (hq1.mv elInt_ok (Mv.below hB HS)) (by
     rw [decide_eq_true_iff, HI.out]
     have h1 := HL1.out
     have h2 := HLM.out
     have h3 := HLD.out
     have h4 := HA.out
     rw [show k = D.length by omega] at h4
     rw [h2]
     exact ⟨fun h => h.2.2, fun h => ⟨by omega, h4, h⟩⟩))
    go_wp2_with fail
    refine HC.out.mono ?_
    rintro e w2 ⟨rfl, hb2⟩
    have hB2 := hb0.trans ((hB.trans (hb2.mono hB.size)).mono hb0.size)
    clear hB hb2 k1 s1 HC
    go_wp2_with fail
    go_ret
    exact ⟨rfl, hB2⟩
 ·have H : Hid (decide (fitF D M.length (p, q)) = false) := Lib.hid (by
   rw [decide_eq_false_iff_not, HI.out]
   intro h
   have h1 := HL1.out
   have h3 := HLD.out
   exact hne (by have := h.1; omega))
  have hne1 : ((n1 : Int) != (m1 : Int)) = true := by simp; omega
  have hlm1 := hd0.lenMax
  clear hne
  go_enter Tryz.func99, Tryz.ntmps99
  go_wp2_with fail
  go_ret
  exact ⟨by rw [H.out]; rfl, hb0⟩
end Go.Proofs.YtmepdkdeanbbaaaGreat
namespace Go.Proofs.YtmepdkdeanbbaaaGreat
set_option maxRecDepth 100000
open Go.RowKit

set_option maxRecDepth 100000 in
set_option maxHeartbeats 1000000 in
theorem mayC_any {S : Nat → Prop} {A1 A2 B1 B2 B3 : Option Addr} {n1 c1 n2 c2 m1 d1 m2 d2 m3 d3 g : Nat} {p : List (List Txt)} {q : List Int} {D : List PDim} {M : List Txt} {V : List (List Int)} {w : World}
  (hs : HasS w w.heap.size B1 m1 d1 B2 m2 d2 B3 m3 d3 D M V) (hbs : Block w g 26 #[.slice B1 m1 d1, .slice B2 m2 d2, .slice B3 m3 d3]) (hD : m1 ≤ 3) (hp : Row (elRow elText 1) 1 w S A1 n1 c1 p) (hq : Row elInt 1 w S A2 n2 c2 q) :
  Calls Tryz.prog 98 #[.agg #[.slice A1 n1 c1, .slice A2 n2 c2], .pointer (some ⟨g, 0, none⟩)] w fun e w' => e = .returned (.bool (decide (fitF D M.length (p, q)))) ∧ Below w.heap.size w w' := by
 have hb0 := below_a1 w (.cells #[.slice A1 n1 c1, .slice A2 n2 c2] 83)
 have hbl := Block.new w 83 #[.slice A1 n1 c1, .slice A2 n2 c2]
 have hbs1 := hbs.below hb0 hbs.lt
 have HC := Lib.hid (mayBeB_any (hs.belowS hb0) hD (hp.mv elPath_ok (Mv.belowS hb0 S)) (hq.mv elInt_ok (Mv.belowS hb0 S)))
 clear hs hp hq hbs
 obtain ⟨W, hW⟩ : ∃ W, Hid (w.alloc (.cells #[.slice A1 n1 c1, .slice A2 n2 c2] 83) = W) := ⟨_, Lib.hid rfl⟩
 rw [hW.out] at hb0 hbl hbs1 HC
 have k0 : W.cell? ⟨w.heap.size, 0, none⟩ = some (.slice A1 n1 c1) := hbl.cell 0
 have k1 : W.cell? ⟨w.heap.size, 1, none⟩ = some (.slice A2 n2 c2) := hbl.cell 1
 have s0 : W.cell? ⟨g, 0, none⟩ = some (.slice B1 m1 d1) := hbs1.cell 0
 have s1 : W.cell? ⟨g, 1, none⟩ = some (.slice B2 m2 d2) := hbs1.cell 1
 have s2 : W.cell? ⟨g, 2, none⟩ = some (.slice B3 m3 d3) := hbs1.cell 2
 rw [← hW.out] at k0 k1 s0 s1 s2
 go_enter Tryz.func98, Tryz.ntmps98
 go_wp2_with fail
 rw [hW.out]
 refine HC.out.mono ?_
 rintro e w2 ⟨rfl, hb2⟩
 have hB := below_then hb0 hb2
 clear HC hb2 k0 k1 s0 s1 s2
 go_wp2_with fail
 go_ret
 exact ⟨rfl, hB⟩
theorem mayBt_no {D : List PDim} {M : List Txt} {V : List (List Int)} {L : List Fct} (h : ¬ mayS D M V) : mayBt D M V L = 11 := by unfold mayBt; rw [if_neg h]
theorem mayBt_yes {D : List PDim} {M : List Txt} {V : List (List Int)} {L : List Fct} (h : mayS D M V) : mayBt D M V L = missP L 1 (fitF D M.length) := by unfold mayBt; rw [if_pos h]
set_option maxRecDepth 100000 in
set_option maxHeartbeats 1000000 in
theorem mayBatch_any {S : Nat → Prop} {A B1 B2 B3 : Option Addr} {n c m1 d1 m2 d2 m3 d3 : Nat} {D : List PDim} {M : List Txt} {V : List (List Int)} {L : List Fct} {w : World}
  (hs : HasS w w.heap.size B1 m1 d1 B2 m2 d2 B3 m3 d3 D M V) (hf : FitD D) (hm : ∀ s ∈ M, s.length ≤ maxLen) (hn1 : m1 ≤ 1000) (h : HasF w S A n c L) :
  Calls Tryz.prog 46 #[schV B1 m1 d1 B2 m2 d2 B3 m3 d3, .slice A n c] w fun e w' => e = .returned (.int .i64 (mayBt D M V L : Nat)) ∧ Below w.heap.size w w' := by
 have hb0 := below_a1 w (.cells #[.slice B1 m1 d1, .slice B2 m2 d2, .slice B3 m3 d3] 26)
 have hbl := Block.new w 26 #[.slice B1 m1 d1, .slice B2 m2 d2, .slice B3 m3 d3]
 have hs1 := hs.belowS hb0
 have h1 := h.mv elFct_ok (Mv.belowS hb0 S)
 have HC := Lib.hid (maySchema_any hs1 hf hm hn1)
 have HD := Lib.hid hs.d.len
 clear hs h hf hm
 go_enter Tryz.func46, Tryz.ntmps46
 go_wp2_with fail
 generalize w.alloc (.cells #[.slice B1 m1 d1, .slice B2 m2 d2, .slice B3 m3 d3] 26) = W at hb0 hbl hs1 h1 HC ⊢
 have s0 : W.cell? ⟨w.heap.size, 0, none⟩ = some (.slice B1 m1 d1) := hbl.cell 0
 have s1 : W.cell? ⟨w.heap.size, 1, none⟩ = some (.slice B2 m2 d2) := hbl.cell 1
 have s2 : W.cell? ⟨w.heap.size, 2, none⟩ = some (.slice B3 m3 d3) := hbl.cell 2
 by_cases hm : mayS D M V
 ·rw [decide_eq_true hm] at HC
  have HX := Lib.hid (mayBt_yes (L := L) hm)
  have hD3 : m1 ≤ 3 := by have := mayD_3 hm.1; have := HD.out; omega
  clear hm
  go_wp2_with fail
  refine HC.out.mono ?_
  rintro e w2 ⟨rfl, hb2⟩
  have hs2 := hs1.belowS hb2
  have hbl2 := hbl.below hb2 hbl.lt
  have h2 := h1.mv elFct_ok (Mv.belowS hb2 S)
  have hB := below_then hb0 hb2
  have HA := Lib.hid (amiss_any h2 1 98 #[.pointer (some ⟨w.heap.size, 0, none⟩)] (fitF D M.length) (fun _ _ => rfl) (fun p q hpq W' S' A1 n1 c1 A2 n2 c2 hW hp hq => mayC_any (hs2.belowS hW) (hbl2.below hW hbl2.lt) hD3 hp hq))
  clear HC hb2 hs1 hbl h1 s0 s1 s2 hs2 hbl2 h2 hb0
  go_wp2_with fail
  refine HA.out.mono ?_
  rintro e w3 ⟨rfl, hb3⟩
  have hB3 := below_then hB hb3
  clear HA hb3 hB
  go_wp2_with fail
  go_ret
  exact ⟨by rw [HX.out]; rfl, hB3⟩
 ·rw [decide_eq_false hm] at HC
  have HX := Lib.hid (mayBt_no (L := L) hm)
  clear hm
  go_wp2_with fail
  refine HC.out.mono ?_
  rintro e w2 ⟨rfl, hb2⟩
  have hB := below_then hb0 hb2
  clear HC hb2 hs1 hbl h1 s0 s1 s2 hb0
  go_wp2_with fail
  go_ret
  exact ⟨by rw [HX.out]; rfl, hB⟩
end Go.Proofs.YtmepdkdeanbbaaaGreat
