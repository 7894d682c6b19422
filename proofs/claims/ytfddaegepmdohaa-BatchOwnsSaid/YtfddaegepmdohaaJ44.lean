/- BatchP, BatchS, BatchT, BatchV -/
import Derived.Test.YtfddaegepmdohaaJ4
import Derived.Test.YtfddaegepmdohaaJ6
import Derived.Test.YtfddaegepmdohaaJ14
import Derived.Test.YtfddaegepmdohaaJ30
import Derived.Test.YtfddaegepmdohaaJ34
import Derived.Test.YtfddaegepmdohaaJ43
namespace Go.Proofs.Ytfddaegepmdohaa
set_option maxRecDepth 100000
open Go.RowKit

theorem own_ne {w : World} {base g : Nat} {e T : TypeId} {v : Value} {l : List UInt8} {cs : Array Value} (h : OwnB w base e v l) (hb : Block w g T cs) (hT : T ≠ e) : v.ownBlock ≠ some g := by
  rcases h.2 with ⟨rfl, _⟩ | ⟨k, cap, cur, rfl, _, hk, _⟩
  · simp [Value.ownBlock]
  · intro e'
    simp only [Value.ownBlock, Option.some.injEq] at e'
    subst e'
    have h2 : w.heap[k]? = some (.cells cs T (0, 0)) := hb
    rw [hk] at h2
    simp only [Option.some.injEq, Obj.cells.injEq] at h2
    exact hT h2.2.1.symm
theorem below_grownB {w w' : World} {base : Nat} {v : Value} {l : List UInt8} {e : TypeId} (ho : OwnB w base e v l) (hb : base ≤ w.heap.size) (hg : w.grownBy w' v.ownBlock) : Below base w w' :=
  ⟨hg.os, hg.tape, hg.output, hg.size, fun k hk => hg.block k (by omega) (fun e => by have := (ho.lt k e.symm).1; omega)⟩
theorem grown_none {w w' : World} (hb : Below w.heap.size w w') (r : Option Nat) : w.grownBy w' r := ⟨hb.os, hb.tape, hb.output, hb.size, fun k hk _ => hb.block k hk⟩
def encP (x : List Txt) : List UInt8 := encT (textP x)
theorem encI_len {x : Int} (h : -9223372036854775808 ≤ x) (h' : x ≤ 9223372036854775807) : (encI x).length ≤ 10 := enc_ten (zig_lt h h')
theorem textP_len {x : List Txt} (h : mayP x) : (textP x).length ≤ 39 := by
  unfold textP
  split
  · simp
  · exact mayP_join h
theorem encP_len {x : List Txt} (h : mayP x) : (encP x).length ≤ 49 := by
  have h1 := textP_len h
  have h2 := enc_ten (zig_lt (n := ((textP x).length : Int)) (by omega) (by omega))
  unfold encP encT
  rw [List.length_append]
  omega
theorem flat_len {α : Type} {f : α → List UInt8} {l : List α} {m : Nat} (h : ∀ x ∈ l, (f x).length ≤ m) : (l.flatMap f).length ≤ m * l.length := by
  induction l with
  | nil => simp
  | cons x r ih =>
    have h1 := h x (by simp)
    have h2 := ih fun y hy => h y (List.mem_cons_of_mem _ hy)
    rw [List.flatMap_cons, List.length_append, List.length_cons, Nat.mul_succ]
    omega
theorem flat_snoc {α : Type} {f : α → List UInt8} {l : List α} {k : Nat} {x : α} (h : l[k]? = some x) : (l.take (k + 1)).flatMap f = (l.take k).flatMap f ++ f x := by
  rw [List.take_add_one, h]
  simp
theorem encF_len {f : Fct} (h : plainF f) : (encF f).length ≤ 200 := by
  obtain ⟨h1, h2, h3, h4⟩ := h
  have a := flat_len (f := fun p => encT (textP p)) (l := f.1) (m := 49) fun x hx => encP_len (h2 x hx)
  have b := flat_len (f := encI) (l := f.2) (m := 10) fun x hx => by have := h4 x hx; unfold inV at this; exact encI_len (by omega) (by omega)
  have c := encI_len (x := (f.1.length : Int)) (by omega) (by omega)
  have d := encI_len (x := (f.2.length : Int)) (by omega) (by omega)
  unfold encF
  simp only [List.length_append]
  omega
set_option maxRecDepth 100000 in
set_option maxHeartbeats 2000000 in
/-- putFact. -/
theorem putFact_any {S : Nat → Prop} {A1 A2 : Option Addr} {n1 c1 n2 c2 base : Nat} {p : List (List Txt)} {q : List Int} {l : List UInt8} {v : Value} {w : World} (hp : Row (elRow elText 1) 1 w S A1 n1 c1 p) (hq : Row elInt 1 w S A2 n2 c2 q) (hS : ∀ b, S b → b < base)
    (ho : OwnB w base 5 v l) (hb : base ≤ w.heap.size) (hl : l.length ≤ 1000000) (hpl : plainF (p, q)) :
    Calls Try.prog 31 #[v, .agg #[.slice A1 n1 c1, .slice A2 n2 c2]] w fun e w' => ∃ v', e = .returned v' ∧ OwnB w' base 5 v' (l ++ encF (p, q)) ∧ Below base w w' := by
  have HL1 := Lib.hid hp.len
  have HL2 := Lib.hid hq.len
  have hn1 : n1 ≤ 3 := by have := hpl.1; have := hp.len; simp only at *; omega
  have hn2 : n2 ≤ 2 := by have := hpl.2.2.1; have := hq.len; simp only at *; omega
  have HPL := Lib.hid hpl
  have HLL := Lib.hid hl
  have hb0 := below_a1 w (.cells #[.slice A1 n1 c1, .slice A2 n2 c2] 35)
  have hbl := Block.new w 35 #[.slice A1 n1 c1, .slice A2 n2 c2]
  have ho0 := ho.below hb0 (Nat.le_refl _)
  have hbs := Nat.le_trans hb hb0.size
  have HB0 := Lib.hid (hb0.mono hb)
  have Hb := Lib.hid hb
  clear hpl hl ho hb hb0
  have HE1 := Lib.hid (encI_len (x := (n1 : Int)) (by omega) (by omega))
  have HE2 := Lib.hid (encI_len (x := (n2 : Int)) (by omega) (by omega))
  go_enter Try.func31, Try.ntmps31
  go_wp2_with fail
  generalize w.alloc (.cells #[.slice A1 n1 c1, .slice A2 n2 c2] 35) = W at hbl ho0 hbs HB0 ⊢
  have k0 : W.cell? ⟨w.heap.size, 0, none⟩ = some (.slice A1 n1 c1) := hbl.cell 0
  have HP1 := Lib.hid (putInt_own v l (n1 : Int) (by omega) (by omega) W base ho0 hbs (by have := HLL.out; omega))
  go_wp2_with fail
  refine HP1.out.mono ?_
  rintro e w1 ⟨v1, rfl, hO1, hG1⟩
  have hB1 := HB0.out.trans (hG1.below_ hbs (fun k e => (ho0.lt k e).1))
  have hbl1 := hbl.grown hG1.1 (own_ne ho0 hbl (by decide))
  have k1 : w1.cell? ⟨w.heap.size, 0, none⟩ = some (.slice A1 n1 c1) := hbl1.cell 0
  have hO1' : OwnB w1 base 5 v1 (l ++ encI n1) := hO1
  clear HP1 hG1 hbl ho0 k0 hO1
  go_wp2_with fail
  clear k1
  go_loopw [0, 19] (fun v i wr => ∃ k : Nat, k ≤ n1 ∧ i = .int .i64 k ∧ OwnB wr base 5 v (l ++ encI n1 ++ (p.take k).flatMap encP) ∧ Below base w wr ∧ Block wr w.heap.size 35 #[.slice A1 n1 c1, .slice A2 n2 c2] ∧ Hid (((p.take k).flatMap encP).length ≤ 49 * k)) (fun _ i _ => n1 - (intOf i).toNat)
  case atStart => exact ⟨0, Nat.zero_le _, rfl, by simpa using hO1', hB1, hbl1, Lib.hid (by simp)⟩
  case round =>
    clear hO1' hB1 hbl1
    obtain ⟨k, hk, rfl, hO, hB, hblk, hle⟩ := hrel
    have hwb : base ≤ wr.heap.size := Nat.le_trans Hb.out hB.size
    by_cases hlt : k < n1
    · obtain ⟨b, o, A', n', c', x, rfl, _, _, g0, hx, he⟩ := (hp.mv elPath_ok (Mv.below hB hS)).at1 hlt
      have i0 : (0 : Int) ≤ (k : Int) := by omega
      have i1 : (k : Int) < (n1 : Int) := by omega
      have hT := hx.hasT
      have hm := HPL.out.2.1 x (List.mem_of_getElem? he.out)
      have HT := Lib.hid (text_yes hT hm)
      have HX := Lib.hid (textP_len hm)
      have HY := Lib.hid (encP_len hm)
      clear hT hm hx
      go_wp2_with fail
      refine HT.out.mono ?_
      rintro e w2 ⟨rfl, hb2⟩
      have hO2 := hO.below hb2 (Nat.le_refl _)
      have hB2 := hB.trans (hb2.mono hwb)
      have hbl2 := hblk.below hb2 hblk.lt
      have hwb2 := Nat.le_trans hwb hb2.size
      have HPT := Lib.hid (putText_grown u0 _ (textP x) w2 base hO2 hwb2 (by have := HLL.out; have := HE1.out; have := hle.out; have := HX.out; simp only [List.length_append]; omega))
      clear hO hB hblk hb2 g0 HT
      go_wp2_with fail
      refine HPT.out.mono ?_
      rintro e w3 ⟨v3, rfl, hO3, hG3⟩
      have hF := Lib.hid (show OwnB w3 base 5 v3 (l ++ encI n1 ++ (p.take (k + 1)).flatMap encP) ∧ Below base w w3 ∧ Block w3 w.heap.size 35 #[.slice (some ⟨b, o, none⟩) n1 c1, .slice A2 n2 c2] ∧ Hid (((p.take (k + 1)).flatMap encP).length ≤ 49 * (k + 1)) from
        ⟨by rw [flat_snoc he.out, ← List.append_assoc]; exact hO3, hB2.trans (below_grownB hO2 hwb2 hG3), hbl2.grown hG3 (own_ne hO2 hbl2 (by decide)), Lib.hid (by rw [flat_snoc he.out, List.length_append]; have := hle.out; have := HY.out; omega)⟩)
      clear HPT hO2 hO3 hG3 hB2 hbl2
      go_wp2_with fail
      go_roundw
      case rel => exact ⟨k + 1, by omega, by go_num, hF.out⟩
      case measure => simp [intOf]; omega
    · have e0 : p.take k = p := List.take_of_length_le (by have := HL1.out; omega)
      rw [e0] at hO hle
      have f1 : wr.cell? ⟨w.heap.size, 1, none⟩ = some (.slice A2 n2 c2) := hblk.cell 1
      have hk3 : k ≤ 3 := by omega
      have HP2 := Lib.hid (putInt_own u0 _ (n2 : Int) (by omega) (by omega) wr base hO hwb (by have := HLL.out; have := HE1.out; have := hle.out; simp only [List.length_append]; omega))
      go_wp2_with fail
      refine HP2.out.mono ?_
      rintro e w2 ⟨v2, rfl, hO2, hG2⟩
      have hB2 := hB.trans (hG2.below_ hwb (fun k e => (hO.lt k e).1))
      have hbl2 := hblk.grown hG2.1 (own_ne hO hblk (by decide))
      have f2 : w2.cell? ⟨w.heap.size, 1, none⟩ = some (.slice A2 n2 c2) := hbl2.cell 1
      have hO2' : OwnB w2 base 5 v2 (l ++ encI n1 ++ p.flatMap encP ++ encI n2) := hO2
      have HLE := Lib.hid (show (p.flatMap encP).length ≤ 147 by have := hle.out; omega)
      clear HP2 hG2 hblk hO hB hO2 f1 hle hbl2
      go_wp2_with fail
      clear f2
      go_loopw [0, 40] (fun v i wr => ∃ k : Nat, k ≤ n2 ∧ i = .int .i64 k ∧ OwnB wr base 5 v (l ++ encI n1 ++ p.flatMap encP ++ encI n2 ++ (q.take k).flatMap encI) ∧ Below base w wr ∧ Hid (((q.take k).flatMap encI).length ≤ 10 * k)) (fun _ i _ => n2 - (intOf i).toNat)
      case atStart => exact ⟨0, Nat.zero_le _, rfl, by simpa using hO2', hB2, Lib.hid (by simp)⟩
      case round =>
        clear hO2' hB2
        obtain ⟨m, hm, rfl, hO, hB, hle⟩ := hrel
        have hwb : base ≤ wr.heap.size := Nat.le_trans Hb.out hB.size
        by_cases hlt : m < n2
        · obtain ⟨b, o, us, x, rfl, _, _, _, g0, hx, he⟩ := (hq.mv elInt_ok (Mv.below hB hS)).at_ hlt
          have g1 : wr.cell? ⟨b, o + m, none⟩ = some (.int .i64 x) := by
            have hx' : us = [i64v x] := hx
            have := g0 0 (i64v x) (by rw [hx']; rfl)
            rwa [Nat.mul_one, Nat.add_zero] at this
          have i0 : (0 : Int) ≤ (m : Int) := by omega
          have i1 : (m : Int) < (n2 : Int) := by omega
          have hv := HPL.out.2.2.2 x (List.mem_of_getElem? he.out)
          unfold inV at hv
          have HY := Lib.hid (encI_len (x := x) (by omega) (by omega))
          have HPI := Lib.hid (putInt_own u0 _ x (by omega) (by omega) wr base hO hwb (by have := HLL.out; have := HE1.out; have := HE2.out; have := HLE.out; have := hle.out; simp only [List.length_append]; omega))
          clear g0 hx hv
          go_wp2_with fail
          refine HPI.out.mono ?_
          rintro e w3 ⟨v3, rfl, hO3, hG3⟩
          have hF := Lib.hid (show OwnB w3 base 5 v3 (l ++ encI n1 ++ p.flatMap encP ++ encI n2 ++ (q.take (m + 1)).flatMap encI) ∧ Below base w w3 ∧ Hid (((q.take (m + 1)).flatMap encI).length ≤ 10 * (m + 1)) from
            ⟨by rw [flat_snoc he.out, ← List.append_assoc]; exact hO3, hB.trans (hG3.below_ hwb (fun k e => (hO.lt k e).1)), Lib.hid (by rw [flat_snoc he.out, List.length_append]; have := hle.out; have := HY.out; omega)⟩)
          clear HPI hO3 hG3 hO hB g1
          go_wp2_with fail
          go_roundw
          case rel => exact ⟨m + 1, by omega, by go_num, hF.out⟩
          case measure => simp [intOf]; omega
        · have hF := Lib.hid (show OwnB wr base 5 u0 (l ++ encF (p, q)) ∧ Below base w wr from ⟨by
            rw [List.take_of_length_le (by have := HL2.out; omega)] at hO
            have e : l ++ encF (p, q) = l ++ encI n1 ++ p.flatMap encP ++ encI n2 ++ q.flatMap encI := by
              unfold encF encP
              simp only [HL1.out, HL2.out, List.append_assoc]
            rw [e]
            exact hO, hB⟩)
          clear hO hB
          go_wp2_with fail
          go_ret
          exact ⟨_, rfl, hF.out.1, hF.out.2⟩
end Go.Proofs.Ytfddaegepmdohaa
namespace Go.Proofs.Ytfddaegepmdohaa
set_option maxRecDepth 100000
open Go.RowKit

theorem putB_no {b : List UInt8} {L : List Fct} {e : Nat} (h : putE L = e) (he : e ≠ 0) : putB b L = [] := by unfold putB; rw [h, if_neg he]
theorem putB_yes {b : List UInt8} {L : List Fct} (h : putE L = 0) : putB b L = b ++ encB L := by unfold putB; rw [if_pos h]
theorem putE_of {L : List Fct} (h : putE L = 0) : L.length ≤ 8 ∧ ∀ f ∈ L, plainF f := (missP_is.1 h).2
theorem encFs_len {L : List Fct} (h : ∀ f ∈ L, plainF f) (k : Nat) : ((L.take k).flatMap encF).length ≤ 200 * (L.take k).length := flat_len fun f hf => encF_len (h f (List.mem_of_mem_take hf))
set_option maxRecDepth 100000 in
set_option maxHeartbeats 2000000 in
/-- Put. -/
theorem putBatch_any {S : Nat → Prop} {A B : Option Addr} {n c m d : Nat} {L : List Fct} {l : List UInt8} {w : World} (h : HasF w S A n c L) (hb : HasB w w.heap.size B m d l) (hm : m ≤ 100000) :
    Calls Try.prog 14 #[.slice B m d, .slice A n c] w fun e w' => ∃ v, e = .returned (.tuple #[v, .int .i64 (putE L : Nat)]) ∧ OwnB w' w.heap.size 5 v (putB l L) ∧ Below w.heap.size w w' := by
  have hlm := h.lenMax
  have HL := Lib.hid h.len
  have HA := Lib.hid (amiss_any h 0 28 #[] plainF (fun _ _ => rfl) (fun p q hpq W' S' A1 n1 c1 A2 n2 c2 hW hp hq => plainB_any hp hq))
  obtain ⟨x, hx⟩ : ∃ x, Hid (putE L = x) := ⟨_, Lib.hid rfl⟩
  have HA : Hid (Calls Try.prog 23 #[.slice A n c, .int .i64 0, .func (.func 28) #[] #[]] w fun e w' => e = .returned (.int .i64 (putE L : Nat)) ∧ Below w.heap.size w w') := HA
  rw [hx.out] at HA
  rw [hx.out]
  by_cases h0 : x = 0
  · subst h0
    have HPB := Lib.hid (putB_yes (b := l) hx.out)
    have HPL := Lib.hid (putE_of hx.out)
    have hn8 : n ≤ 8 := by have := HPL.out.1; have := HL.out; omega
    have HLB := Lib.hid hb.len
    have HS : ∀ b, (S b ∧ b < w.heap.size) → b < w.heap.size := fun b hb => hb.2
    go_enter Try.func14, Try.ntmps14
    go_wp2_with fail
    refine HA.out.mono ?_
    rintro e w1 ⟨rfl, hb1⟩
    have h1 : HasF w1 (fun b => S b ∧ b < w.heap.size) A n c L := h.mv elFct_ok (fun b hb hl => ⟨hb1.block b hl, hb, hl⟩)
    have HC := Lib.hid (clone_any B m d l w1 (hb.belowS hb1) (by omega))
    clear HA h hb
    go_wp2_with fail
    refine HC.out.mono ?_
    rintro e w2 ⟨⟨v2, rfl, hO2⟩, hb2⟩
    have hz1 := hb1.size
    have hB2 := hb1.trans (hb2.mono hz1)
    have hO2' := hO2.low hz1
    have hz2 := hB2.size
    have HPI := Lib.hid (putInt_own v2 l (n : Int) (by omega) (by omega) w2 w.heap.size hO2' hz2 (by have := HLB.out; omega))
    clear HC hO2 hb2
    go_wp2_with fail
    refine HPI.out.mono ?_
    rintro e w3 ⟨v3, rfl, hO3, hG3⟩
    have hB3 := hB2.trans (hG3.below_ hz2 (fun k e => (hO2'.lt k e).1))
    have hO3' : OwnB w3 w.heap.size 5 v3 (l ++ encI n) := hO3
    have hF3 : HasF w3 (fun b => S b ∧ b < w.heap.size) A n c L := h1.mv elFct_ok (fun b hb hl => ⟨by rw [hB3.block b hb.2, hb1.block b hb.2], hb⟩)
    have HE1 := Lib.hid (encI_len (x := (n : Int)) (by omega) (by omega))
    clear HPI hG3 hO2' hB2 hO3 h1
    go_wp2_with fail
    go_loopw [7, 22] (fun v i wr => ∃ k : Nat, k ≤ n ∧ i = .int .i64 k ∧ OwnB wr w.heap.size 5 v (l ++ encI n ++ (L.take k).flatMap encF) ∧ Below w.heap.size w wr ∧ HasF wr (fun b => S b ∧ b < w.heap.size) A n c L) (fun _ i _ => n - (intOf i).toNat)
    case atStart => exact ⟨0, Nat.zero_le _, rfl, by simpa using hO3', hB3, hF3⟩
    case round =>
      clear hO3' hB3 hF3
      obtain ⟨k, hk, rfl, hO, hB, hF⟩ := hrel
      have hwb : w.heap.size ≤ wr.heap.size := hB.size
      by_cases hlt : k < n
      · obtain ⟨b, o, A1, n1, c1, A2, n2, c2, p, q, rfl, _, _, g0, g1, hp, hq, he⟩ := hF.at2 hlt
        have i0 : (0 : Int) ≤ (k : Int) := by omega
        have i1 : (k : Int) < (n : Int) := by omega
        have hpl := HPL.out.2 (p, q) (List.mem_of_getElem? he.out)
        have hbx := below_a1 wr (.cells #[.slice A1 n1 c1, .slice A2 n2 c2] 35)
        have hbf := Block.new wr 35 #[.slice A1 n1 c1, .slice A2 n2 c2]
        have hB1 := hB.trans (hbx.mono hwb)
        have hp1 := hp.mv elPath_ok (Mv.belowS hbx _)
        have hq1 := hq.mv elInt_ok (Mv.belowS hbx _)
        have hF1 := hF.mv elFct_ok (Mv.belowS hbx _)
        have hO1 := hO.below hbx (Nat.le_refl _)
        have hz := hB1.size
        have hlen : (l ++ encI n ++ (L.take k).flatMap encF).length ≤ 1000000 := by
          have h1 := encFs_len HPL.out.2 k
          have h2 := HE1.out
          have h3 := HLB.out
          have h4 : (L.take k).length ≤ 8 := Nat.le_trans (List.length_take_le k _) (by omega)
          simp only [List.length_append]
          omega
        have HPF := Lib.hid (putFact_any hp1 hq1 (base := w.heap.size) (fun b hb => hb.2) hO1 hz hlen hpl)
        clear hpl hp hq hp1 hq1 hO hB hF hbx hlen
        go_wp2_with fail
        generalize wr.alloc (.cells #[.slice A1 n1 c1, .slice A2 n2 c2] 35) = W1 at hB1 hbf hF1 HPF hO1 hz ⊢
        have k0 : W1.cell? ⟨wr.heap.size, 0, none⟩ = some (.slice A1 n1 c1) := hbf.cell 0
        have k1 : W1.cell? ⟨wr.heap.size, 1, none⟩ = some (.slice A2 n2 c2) := hbf.cell 1
        clear g0 g1
        go_wp2_with fail
        refine HPF.out.mono ?_
        rintro e w5 ⟨v5, rfl, hO5, hb5⟩
        have hF := Lib.hid (show OwnB w5 w.heap.size 5 v5 (l ++ encI n ++ (L.take (k + 1)).flatMap encF) ∧ Below w.heap.size w w5 ∧ HasF w5 (fun b => S b ∧ b < w.heap.size) (some ⟨b, o, none⟩) n c L from
          ⟨by rw [flat_snoc he.out, ← List.append_assoc]; exact hO5, hB1.trans hb5, hF1.mv elFct_ok (Mv.below hb5 HS)⟩)
        clear HPF hO5 hb5 hO1 hB1 hF1 k0 k1 hbf
        go_wp2_with fail
        go_roundw
        case rel => exact ⟨k + 1, by omega, by go_num, hF.out⟩
        case measure => simp [intOf]; omega
      · have hF := Lib.hid (show OwnB wr w.heap.size 5 u7 (putB l L) ∧ Below w.heap.size w wr from ⟨by
          rw [List.take_of_length_le (by have := HL.out; omega)] at hO
          rw [HPB.out]
          unfold encB
          rw [HL.out, ← List.append_assoc]
          exact hO, hB⟩)
        clear hO hB
        go_wp2_with fail
        go_ret2
        exact ⟨_, rfl, hF.out.1, hF.out.2⟩
  · have HPB := Lib.hid (putB_no (b := l) hx.out h0)
    have hx1 : ((x : Int) != 0) = true := by simp; omega
    clear h hb
    go_enter Try.func14, Try.ntmps14
    go_wp2_with fail
    refine HA.out.mono ?_
    rintro e w1 ⟨rfl, hb1⟩
    clear HA
    go_wp2_with fail
    go_ret2
    exact ⟨_, rfl, by rw [HPB.out]; exact OwnB.nil_ _ _ _, hb1⟩
end Go.Proofs.Ytfddaegepmdohaa
namespace Go.Proofs.Ytfddaegepmdohaa
set_option maxRecDepth 100000
open Go.RowKit

/-- A row of bytes somewhere below. -/
def AtB (w : World) (v : Value) (l : List UInt8) : Prop := ∃ A n c, v = .slice A n c ∧ HasB w w.heap.size A n c l
theorem OwnB.at_ {w : World} {base : Nat} {e : TypeId} {v : Value} {l : List UInt8} (h : OwnB w base e v l) : AtB w v l := by
  obtain ⟨A, n, c, h1, h2, _⟩ := h.formN
  exact ⟨A, n, c, h1, h2⟩
theorem refPutInt_at {v : Value} {l : List UInt8} {w : World} (hr : AtB w v l) (n : Int) (h : -9223372036854775808 ≤ n) (h' : n ≤ 9223372036854775807) (hl : l.length ≤ 1000000) :
    Calls Try.prog 32 #[v, .int .i64 n] w fun e w' => ∃ v, e = .returned v ∧ AtB w' v (l ++ encI n) ∧ Below w.heap.size w w' := by
  obtain ⟨A, m, c, rfl, hb⟩ := hr
  exact (refPutInt_any hb n h h' (by have := hb.len; omega)).mono fun e w' ⟨v, h1, h2, h3⟩ => ⟨v, h1, h2.at_, h3⟩
theorem refPutText_at {v : Value} {l : List UInt8} {w : World} (hr : AtB w v l) (t : List UInt8) (ht : t.length ≤ 1000) (hl : l.length ≤ 1000000) :
    Calls Try.prog 34 #[v, .string ⟨t.toArray⟩] w fun e w' => ∃ v, e = .returned v ∧ AtB w' v (l ++ encT t) ∧ Below w.heap.size w w' := by
  obtain ⟨A, m, c, rfl, hb⟩ := hr
  exact (refPutText_any hb t (by have := hb.len; omega)).mono fun e w' ⟨v, h1, h2, h3⟩ => ⟨v, h1, h2.at_, h3⟩
theorem AtB.below {w w' : World} {v : Value} {l : List UInt8} (h : AtB w v l) (hb : Below w.heap.size w w') : AtB w' v l := by
  obtain ⟨A, n, c, h1, h2⟩ := h
  exact ⟨A, n, c, h1, h2.belowS hb⟩
theorem putE_many {L : List Fct} (h : 8 < L.length) : putE L = 13 := missP_many (.inr h)
set_option maxRecDepth 100000 in
set_option maxHeartbeats 4000000 in
/-- The reference's Put. -/
theorem refPutB_any {S : Nat → Prop} {A B : Option Addr} {n c m d : Nat} {L : List Fct} {l : List UInt8} {w : World} (h : HasF w S A n c L) (hb : HasB w w.heap.size B m d l) (hm : m ≤ 100000) :
    Calls Try.prog 15 #[.slice B m d, .slice A n c] w fun e w' => ∃ v, e = .returned (.tuple #[v, .int .i64 (putE L : Nat)]) ∧ AtB w' v (putB l L) ∧ Below w.heap.size w w' := by
  have hlm := h.lenMax
  have HL := Lib.hid h.len
  have HLB := Lib.hid hb.len
  by_cases h8 : 8 < n
  · have HX := Lib.hid (putE_many (L := L) (by have := HL.out; omega))
    have HPB := Lib.hid (putB_no (b := l) HX.out (by decide))
    rw [HX.out]
    have h8' : (8 : Int) < (n : Int) := by omega
    go_enter Try.func15, Try.ntmps15
    go_wp2_with fail
    go_ret2
    exact ⟨_, rfl, by rw [HPB.out]; exact (OwnB.nil_ _ 0 5).at_, Below.refl _ _⟩
  · have HP0 := Lib.hid (refPutInt_at (w := w) (v := .slice B m d) ⟨B, m, d, rfl, hb⟩ (n : Int) (by omega) (by omega) (by have := HLB.out; omega))
    have HE1 := Lib.hid (encI_len (x := (n : Int)) (by omega) (by omega))
    have h8' : ¬ (8 : Int) < (n : Int) := by omega
    have h1 : HasF w (fun b => S b ∧ b < w.heap.size) A n c L := h.mv elFct_ok (Mv.to w fun b hb hl => ⟨hb, hl⟩)
    have HS : ∀ b, (S b ∧ b < w.heap.size) → b < w.heap.size := fun b hb => hb.2
    clear h hb
    go_enter Try.func15, Try.ntmps15
    go_wp2_with fail
    refine HP0.out.mono ?_
    rintro e w1 ⟨v1, rfl, hO1, hB1⟩
    clear HP0
    go_wp2_with fail
    go_loopw [6, 7] (fun v i wr => ∃ k : Nat, k ≤ n ∧ i = .int .i64 k ∧ AtB wr v (l ++ encI n ++ (L.take k).flatMap encF) ∧ Below w.heap.size w wr ∧ Hid (∀ f ∈ L.take k, plainF f)) (fun _ i _ => n - (intOf i).toNat)
    case atStart => exact ⟨0, Nat.zero_le _, rfl, by simpa using hO1, hB1, Lib.hid (fun f hf => by simp at hf)⟩
    case round =>
      clear hO1 hB1
      obtain ⟨k, hk, rfl, hO, hB, HA⟩ := hrel
      by_cases hlt : k < n
      · obtain ⟨b, o, A1, n1, c1, A2, n2, c2, p, q, rfl, hbS, _, g0, g1, hp, hq, he⟩ := h1.at2 hlt
        have hbl := hbS.2
        have i0 : (0 : Int) ≤ (k : Int) := by omega
        have i1 : (k : Int) < (n : Int) := by omega
        have KC : Hid (∀ y, Below w.heap.size w y → y.cell? ⟨b, o + k * 2, none⟩ = some (.slice A1 n1 c1) ∧ y.cell? ⟨b, o + k * 2 + 1, none⟩ = some (.slice A2 n2 c2)) := Lib.hid fun y hy => ⟨(hy.cell (p := ⟨b, o + k * 2, none⟩) hbl).trans g0, (hy.cell (p := ⟨b, o + k * 2 + 1, none⟩) hbl).trans g1⟩
        obtain ⟨f0, f1⟩ := KC.out wr hB
        have HC := Lib.hid (refPlain_any (hp.mv elPath_ok (Mv.below hB HS)) (hq.mv elInt_ok (Mv.below hB HS)))
        have HL1 := Lib.hid hp.len
        have HL2 := Lib.hid hq.len
        have hnm1 := hp.lenMax
        have hnm2 := hq.lenMax
        clear g0 g1
        by_cases hpl : plainF (p, q)
        · rw [decide_eq_true hpl] at HC
          have HPL := Lib.hid hpl
          have hn1 : n1 ≤ 3 := by have : p.length ≤ 3 := hpl.1; have := HL1.out; omega
          have hn2 : n2 ≤ 2 := by have : q.length ≤ 2 := hpl.2.2.1; have := HL2.out; omega
          have HL0 : Hid ((l ++ encI n ++ (L.take k).flatMap encF).length ≤ 200000) := Lib.hid (by
            have h1 := flat_len (f := encF) (l := L.take k) (m := 200) fun f hf => encF_len (HA.out f hf)
            have h2 := HE1.out
            have h3 := HLB.out
            have h4 : (L.take k).length ≤ 8 := Nat.le_trans (List.length_take_le k _) (by omega)
            simp only [List.length_append]
            omega)
          obtain ⟨l0, hl0⟩ : ∃ l0, Hid (l ++ encI n ++ (L.take k).flatMap encF = l0) := ⟨_, Lib.hid rfl⟩
          rw [hl0.out] at hO HL0
          have HE2 := Lib.hid (encI_len (x := (n1 : Int)) (by omega) (by omega))
          have HE3 := Lib.hid (encI_len (x := (n2 : Int)) (by omega) (by omega))
          clear hpl
          go_wp2_with fail
          refine HC.out.mono ?_
          rintro e w2 ⟨rfl, hb2⟩
          have hO2 := hO.below hb2
          have hB2 := hB.trans (hb2.mono hB.size)
          obtain ⟨f2, f3⟩ := KC.out w2 hB2
          have HP1 := Lib.hid (refPutInt_at hO2 (n1 : Int) (by omega) (by omega) (by have := HL0.out; omega))
          clear HC hO hB hb2 f0 f1 hO2
          go_wp2_with fail
          refine HP1.out.mono ?_
          rintro e w3 ⟨v3, rfl, hO3, hb3⟩
          have hB3 := hB2.trans (hb3.mono hB2.size)
          clear HP1 hB2 hb3 f2 f3
          go_wp2_with fail
          obtain ⟨wo, rfl⟩ : ∃ wo, wo = wr := ⟨_, rfl⟩
          go_loopw [6, 9] (fun v i wr => ∃ j : Nat, j ≤ n1 ∧ i = .int .i64 j ∧ AtB wr v (l0 ++ encI n1 ++ (p.take j).flatMap encP) ∧ Below w.heap.size w wr ∧ Hid (((p.take j).flatMap encP).length ≤ 49 * j)) (fun _ i _ => n1 - (intOf i).toNat)
          case atStart => exact ⟨0, Nat.zero_le _, rfl, by simpa using hO3, hB3, Lib.hid (by simp)⟩
          case round =>
            clear hO3 hB3
            obtain ⟨j, hj, rfl, hO, hB, hle⟩ := hrel
            obtain ⟨f0, f1⟩ := KC.out wr hB
            by_cases hlj : j < n1
            · obtain ⟨b', o', A', n', c', x, rfl, _, _, t0, hx, hxe⟩ := (hp.mv elPath_ok (Mv.below hB HS)).at1 hlj
              have i2 : (0 : Int) ≤ (j : Int) := by omega
              have i3 : (j : Int) < (n1 : Int) := by omega
              have hmx := HPL.out.2.1 x (List.mem_of_getElem? hxe.out)
              have HT := Lib.hid (refText_yes hx.hasT hmx)
              have HX := Lib.hid (textP_len hmx)
              have HY := Lib.hid (encP_len hmx)
              have HPT := Lib.hid (refPutText_at hO (textP x) (by have := HX.out; omega) (by have := HL0.out; have := HE2.out; have := hle.out; simp only [List.length_append]; omega))
              clear hmx hx
              go_wp2_with fail
              refine HT.out.mono ?_
              rintro e w4 ⟨rfl, rfl⟩
              go_wp2_with fail
              refine HPT.out.mono ?_
              rintro e w5 ⟨v5, rfl, hO5, hb5⟩
              have hF := Lib.hid (show AtB w5 v5 (l0 ++ encI n1 ++ (p.take (j + 1)).flatMap encP) ∧ Below w.heap.size w w5 ∧ Hid (((p.take (j + 1)).flatMap encP).length ≤ 49 * (j + 1)) from
                ⟨by rw [flat_snoc hxe.out, ← List.append_assoc]; exact hO5, hB.trans (hb5.mono hB.size), Lib.hid (by rw [flat_snoc hxe.out, List.length_append]; have := hle.out; have := HY.out; omega)⟩)
              clear HT HPT hO hB hO5 hb5 f0 f1 t0
              go_wp2_with fail
              go_roundw
              case rel => exact ⟨j + 1, by omega, by go_num, hF.out⟩
              case measure => simp [intOf]; omega
            · rw [List.take_of_length_le (show p.length ≤ j by have := HL1.out; omega)] at hO hle
              have HP2 := Lib.hid (refPutInt_at hO (n2 : Int) (by omega) (by omega) (by have := HL0.out; have := HE2.out; have := hle.out; simp only [List.length_append]; omega))
              have HLE := Lib.hid (show (p.flatMap encP).length ≤ 147 by have := hle.out; omega)
              clear hO hle
              go_wp2_with fail
              refine HP2.out.mono ?_
              rintro e w4 ⟨v4, rfl, hO4, hb4⟩
              have hB4 := hB.trans (hb4.mono hB.size)
              clear HP2 hb4 hB f0 f1
              go_wp2_with fail
              obtain ⟨wi, rfl⟩ : ∃ wi, wi = wr := ⟨_, rfl⟩
              go_loopw [6, 12] (fun v i wr => ∃ t : Nat, t ≤ n2 ∧ i = .int .i64 t ∧ AtB wr v (l0 ++ encI n1 ++ p.flatMap encP ++ encI n2 ++ (q.take t).flatMap encI) ∧ Below w.heap.size w wr ∧ Hid (((q.take t).flatMap encI).length ≤ 10 * t)) (fun _ i _ => n2 - (intOf i).toNat)
              case atStart => exact ⟨0, Nat.zero_le _, rfl, by simpa using hO4, hB4, Lib.hid (by simp)⟩
              case round =>
                clear hO4 hB4
                obtain ⟨t, ht, rfl, hO, hB, hle⟩ := hrel
                obtain ⟨f0, f1⟩ := KC.out wr hB
                by_cases hlt2 : t < n2
                · obtain ⟨b', o', us, x, rfl, _, _, _, t0, hx, hxe⟩ := (hq.mv elInt_ok (Mv.below hB HS)).at_ hlt2
                  have t1 : wr.cell? ⟨b', o' + t, none⟩ = some (.int .i64 x) := by
                    have hx' : us = [i64v x] := hx
                    have := t0 0 (i64v x) (by rw [hx']; rfl)
                    rwa [Nat.mul_one, Nat.add_zero] at this
                  have i2 : (0 : Int) ≤ (t : Int) := by omega
                  have i3 : (t : Int) < (n2 : Int) := by omega
                  have hv := HPL.out.2.2.2 x (List.mem_of_getElem? hxe.out)
                  unfold inV at hv
                  have HY := Lib.hid (encI_len (x := x) (by omega) (by omega))
                  have HPI := Lib.hid (refPutInt_at hO x (by omega) (by omega) (by have := HL0.out; have := HE2.out; have := HE3.out; have := HLE.out; have := hle.out; simp only [List.length_append]; omega))
                  clear t0 hx hv
                  go_wp2_with fail
                  refine HPI.out.mono ?_
                  rintro e w5 ⟨v5, rfl, hO5, hb5⟩
                  have hF := Lib.hid (show AtB w5 v5 (l0 ++ encI n1 ++ p.flatMap encP ++ encI n2 ++ (q.take (t + 1)).flatMap encI) ∧ Below w.heap.size w w5 ∧ Hid (((q.take (t + 1)).flatMap encI).length ≤ 10 * (t + 1)) from
                    ⟨by rw [flat_snoc hxe.out, ← List.append_assoc]; exact hO5, hB.trans (hb5.mono hB.size), Lib.hid (by rw [flat_snoc hxe.out, List.length_append]; have := hle.out; have := HY.out; omega)⟩)
                  clear HPI hO hB hO5 hb5 f0 f1 t1
                  go_wp2_with fail
                  go_roundw
                  case rel => exact ⟨t + 1, by omega, by go_num, hF.out⟩
                  case measure => simp [intOf]; omega
                · have hF := Lib.hid (show AtB wr u6 (l ++ encI n ++ (L.take (k + 1)).flatMap encF) ∧ Below w.heap.size w wr ∧ Hid (∀ f ∈ L.take (k + 1), plainF f) from ⟨by
                    rw [List.take_of_length_le (by have := HL2.out; omega)] at hO
                    have e : l ++ encI n ++ (L.take (k + 1)).flatMap encF = l0 ++ encI n1 ++ p.flatMap encP ++ encI n2 ++ q.flatMap encI := by
                      rw [flat_snoc he.out, ← List.append_assoc, hl0.out]
                      unfold encF encP
                      simp only [HL1.out, HL2.out, List.append_assoc]
                    rw [e]
                    exact hO, hB, Lib.hid (mem_take_snoc he.out HPL.out HA.out)⟩)
                  clear hO
                  go_wp2_with fail
                  go_roundw
                  case rel => exact ⟨k + 1, by omega, by go_num, hF.out⟩
                  case measure => simp [intOf]; omega
        · rw [decide_eq_false hpl] at HC
          have HX : Hid (putE L = 12) := Lib.hid (missP_bad (by have := HL.out; omega) ⟨(p, q), List.mem_of_getElem? he.out, hpl⟩)
          have HPB := Lib.hid (putB_no (b := l) HX.out (by decide))
          clear hpl
          go_wp2_with fail
          refine HC.out.mono ?_
          rintro e w2 ⟨rfl, hb2⟩
          have hB2 := hB.trans (hb2.mono hB.size)
          clear HC hB hb2 f0 f1
          go_wp2_with fail
          go_ret2
          exact ⟨_, by rw [HX.out]; rfl, by rw [HPB.out]; exact (OwnB.nil_ _ 0 5).at_, hB2⟩
      · have HX : Hid (putE L = 0) := Lib.hid (missP_is.2 (by
          have h1 := HL.out
          have h3 := HA.out
          rw [List.take_of_length_le (by omega)] at h3
          exact ⟨Nat.zero_le _, by omega, h3⟩))
        have hF := Lib.hid (show AtB wr u6 (putB l L) from by
          rw [List.take_of_length_le (by have := HL.out; omega)] at hO
          rw [putB_yes HX.out]
          unfold encB
          rw [HL.out, ← List.append_assoc]
          exact hO)
        clear hO
        go_wp2_with fail
        go_ret2
        exact ⟨_, by rw [HX.out]; rfl, hF.out, hB⟩
end Go.Proofs.Ytfddaegepmdohaa
namespace Go.Proofs.Ytfddaegepmdohaa
set_option maxRecDepth 100000
open Go.RowKit

def ExF : List Fct := [([[[97], [120]]], [3])]
def ExD : List PDim := [([100], [[108], [109]])]
theorem ex_may : mayBt ExD [[109]] [] ExF = 0 := by decide +kernel
theorem ex_none : mayBt ExD [[109]] [] [] = 13 := by decide +kernel
theorem ex_putE : putE ExF = 0 := by decide +kernel
theorem encI_small {x : Int} (h : zig x < 128) : encI x = [UInt8.ofNat (zig x)] := enc_small h
theorem ex_putB : putB [] ExF = [2, 2, 6, 97, 47, 120, 2, 6] := by
  have e1 : encI 1 = [2] := encI_small (by decide)
  have e3 : encI 3 = [6] := encI_small (by decide)
  have e4 : encT [97, 47, 120] = [6, 97, 47, 120] := by
    have : enc (zig 3) = [6] := e3
    show enc (zig 3) ++ _ = _
    rw [this]; rfl
  have e5 : textP [[97], [120]] = [97, 47, 120] := by decide +kernel
  rw [putB_yes ex_putE]
  show [] ++ (encI 1 ++ ((encI 1 ++ ((encT (textP [[97], [120]]) ++ []) ++ (encI 1 ++ (encI 3 ++ [])))) ++ [])) = _
  rw [e5, e1, e3, e4]
  rfl
theorem ex_fit : FitD ExD := by
  intro d hd
  rw [List.mem_singleton.1 hd]
  exact ⟨by decide, fun s hs => by
    rcases List.mem_cons.1 hs with rfl | hs
    · decide
    · rw [List.mem_singleton.1 hs]; decide⟩
/-- The example's facts in memory. -/
def ExW (w : World) : World := (((w.alloc (.cells #[.string ⟨#[97]⟩, .string ⟨#[120]⟩] 9)).alloc (.cells #[.slice (some ⟨w.heap.size, 0, none⟩) 2 2] 23)).alloc (.cells #[.int .i64 3] 3)).alloc (.cells #[.slice (some ⟨w.heap.size + 1, 0, none⟩) 1 1, .slice (some ⟨w.heap.size + 1 + 1, 0, none⟩) 1 1] 35)
theorem ExW_has (w : World) : HasF (ExW w) (fun b => b < (ExW w).heap.size) (some ⟨w.heap.size + 1 + 1 + 1, 0, none⟩) 1 1 ExF := by
  have a0 := (HasT.litAt w [[97], [120]] #[.string ⟨#[97]⟩, .string ⟨#[120]⟩] rfl 9 2 rfl (by decide) w.heap.size rfl).row
  have a1 := Row.lit (E := elRow elText 1) (sz := 1) (elRow_ok elText_ok) (w.alloc (.cells #[.string ⟨#[97]⟩, .string ⟨#[120]⟩] 9)) #[.slice (some ⟨w.heap.size, 0, none⟩) 2 2] 23 1 [[[97], [120]]] rfl rfl (by decide) (w.heap.size + 1) (by simp) (fun i x hi => by
    match i, hi with
    | 0, hi => simp at hi; subst hi; exact ⟨_, _, _, rfl, a0⟩
    | i + 1, hi => simp at hi)
  have a1' := a1.up (elRow_ok elText_ok) (.cells #[.int .i64 3] 3)
  have a2 := Row.lit (E := elInt) (sz := 1) elInt_ok ((w.alloc (.cells #[.string ⟨#[97]⟩, .string ⟨#[120]⟩] 9)).alloc (.cells #[.slice (some ⟨w.heap.size, 0, none⟩) 2 2] 23)) #[.int .i64 3] 3 1 [3] rfl rfl (by decide) (w.heap.size + 1 + 1) (by simp) (fun i x hi => by
    match i, hi with
    | 0, hi => simp at hi; subst hi; rfl
    | i + 1, hi => simp at hi)
  exact Row.lit (E := elFct) (sz := 2) elFct_ok _ #[.slice (some ⟨w.heap.size + 1, 0, none⟩) 1 1, .slice (some ⟨w.heap.size + 1 + 1, 0, none⟩) 1 1] 35 1 ExF rfl rfl (by decide) (w.heap.size + 1 + 1 + 1) (by simp) (fun i x hi => by
    match i, hi with
    | 0, hi => simp [ExF] at hi; subst hi; exact ⟨⟨_, _, _, rfl, a1'⟩, ⟨_, _, _, rfl, a2⟩⟩
    | i + 1, hi => simp [ExF] at hi)
theorem ExW_below (w : World) : Below w.heap.size w (ExW w) := below_then (below_then (below_then (below_a1 w _) (below_a1 _ _)) (below_a1 _ _)) (below_a1 _ _)
/-- .. its schema, in a block of its own. -/
def ExS (w : World) : World := (((w.alloc (.cells #[.string ⟨#[108]⟩, .string ⟨#[109]⟩] 9)).alloc (.cells #[.string ⟨#[100]⟩, .slice (some ⟨w.heap.size, 0, none⟩) 2 2] 55)).alloc (.cells #[.string ⟨#[109]⟩] 9)).alloc (.cells #[.slice (some ⟨w.heap.size + 1, 0, none⟩) 1 1, .slice (some ⟨w.heap.size + 1 + 1, 0, none⟩) 1 1, .slice none 0 0] 26)
theorem ExS_below (w : World) : Below w.heap.size w (ExS w) := below_then (below_then (below_then (below_a1 w _) (below_a1 _ _)) (below_a1 _ _)) (below_a1 _ _)
theorem ExS_block (w : World) : Block (ExS w) (w.heap.size + 1 + 1 + 1) 26 #[.slice (some ⟨w.heap.size + 1, 0, none⟩) 1 1, .slice (some ⟨w.heap.size + 1 + 1, 0, none⟩) 1 1, .slice none 0 0] := by
  have := Block.new (((w.alloc (.cells #[.string ⟨#[108]⟩, .string ⟨#[109]⟩] 9)).alloc (.cells #[.string ⟨#[100]⟩, .slice (some ⟨w.heap.size, 0, none⟩) 2 2] 55)).alloc (.cells #[.string ⟨#[109]⟩] 9)) 26 #[.slice (some ⟨w.heap.size + 1, 0, none⟩) 1 1, .slice (some ⟨w.heap.size + 1 + 1, 0, none⟩) 1 1, .slice none 0 0]
  rwa [show (((w.alloc (.cells #[.string ⟨#[108]⟩, .string ⟨#[109]⟩] 9)).alloc (.cells #[.string ⟨#[100]⟩, .slice (some ⟨w.heap.size, 0, none⟩) 2 2] 55)).alloc (.cells #[.string ⟨#[109]⟩] 9)).heap.size = w.heap.size + 1 + 1 + 1 by simp] at this
theorem ExS_has (w : World) : HasS (ExS w) (ExS w).heap.size (some ⟨w.heap.size + 1, 0, none⟩) 1 1 (some ⟨w.heap.size + 1 + 1, 0, none⟩) 1 1 none 0 0 ExD [[109]] [] := by
  have a0 := HasT.litAt w [[108], [109]] #[.string ⟨#[108]⟩, .string ⟨#[109]⟩] rfl 9 2 rfl (by decide) w.heap.size rfl
  have hb := Block.new (w.alloc (.cells #[.string ⟨#[108]⟩, .string ⟨#[109]⟩] 9)) 55 #[.string ⟨#[100]⟩, .slice (some ⟨w.heap.size, 0, none⟩) 2 2]
  rw [show (w.alloc (.cells #[.string ⟨#[108]⟩, .string ⟨#[109]⟩] 9)).heap.size = w.heap.size + 1 by simp] at hb
  have a1 := a0.allocS (.cells #[.string ⟨#[100]⟩, .slice (some ⟨w.heap.size, 0, none⟩) 2 2] 55)
  have hD : HasDs ((w.alloc (.cells #[.string ⟨#[108]⟩, .string ⟨#[109]⟩] 9)).alloc (.cells #[.string ⟨#[100]⟩, .slice (some ⟨w.heap.size, 0, none⟩) 2 2] 55)) ((w.alloc (.cells #[.string ⟨#[108]⟩, .string ⟨#[109]⟩] 9)).alloc (.cells #[.string ⟨#[100]⟩, .slice (some ⟨w.heap.size, 0, none⟩) 2 2] 55)).heap.size (some ⟨w.heap.size + 1, 0, none⟩) 1 1 ExD :=
    ⟨rfl, Nat.le_refl _, by unfold maxLen; omega, (fun h => by cases h), fun i hi => by
      obtain rfl : i = 0 := by omega
      exact ⟨w.heap.size + 1, 0, _, _, _, rfl, hb.lt, hb.cell 0, hb.cell 1, a1⟩⟩
  have hm := HasT.litAt ((w.alloc (.cells #[.string ⟨#[108]⟩, .string ⟨#[109]⟩] 9)).alloc (.cells #[.string ⟨#[100]⟩, .slice (some ⟨w.heap.size, 0, none⟩) 2 2] 55)) [[109]] #[.string ⟨#[109]⟩] rfl 9 1 rfl (by decide) (w.heap.size + 1 + 1) (by simp)
  exact ⟨(hD.belowS (below_a1 _ _)).belowS (below_a1 _ _), hm.allocS _, ⟨rfl, Nat.le_refl _, Nat.zero_le _, fun _ => rfl, fun i hi => absurd hi (by omega)⟩⟩
set_option maxRecDepth 100000 in
set_option maxHeartbeats 4000000 in
theorem batchLives_any (w : World) : Calls Try.prog 13 #[] w fun e w' => e = .returned (.bool true) ∧ Below w.heap.size w w' := by
  have hB := ExW_below w
  have hF := ExW_has w
  have HPB := Lib.hid (putBatch_any hF (B := none) (m := 0) (d := 0) (l := []) ⟨rfl, Nat.le_refl _, Nat.zero_le _, fun _ => rfl, Has.nil_⟩ (by decide))
  go_enter Try.func13, Try.ntmps13
  go_wp2_with fail
  have e0 : (((w.alloc (.cells #[.string ⟨#[97]⟩, .string ⟨#[120]⟩] 9)).alloc (.cells #[.slice (some ⟨w.heap.size, 0, none⟩) 2 2] 23)).alloc (.cells #[.int .i64 3] 3)).alloc (.cells #[.slice (some ⟨w.heap.size + 1, 0, none⟩) 1 1, .slice (some ⟨w.heap.size + 1 + 1, 0, none⟩) 1 1] 35) = ExW w := rfl
  rw [e0]
  clear e0
  generalize ExW w = w0 at hB hF HPB ⊢
  refine HPB.out.mono ?_
  rintro e w1 ⟨v, rfl, hO, hb1⟩
  rw [ex_putB] at hO
  rw [ex_putE]
  obtain ⟨gb, cb, rfl, _, _⟩ := hO.formG (by decide)
  obtain ⟨A1, n1, c1, ev, hb, _⟩ := hO.formN
  injection ev with e1 e2 e3
  subst e1 e2 e3
  have hF1 := hF.mv elFct_ok (Mv.belowS hb1 _)
  have hB1 := below_then hB hb1
  clear HPB hO hF hb1 hB
  have hlit := HasB.litAt w1 [2, 2, 6, 97, 47, 120, 2, 6] #[.int .u8 2, .int .u8 2, .int .u8 6, .int .u8 97, .int .u8 47, .int .u8 120, .int .u8 2, .int .u8 6] rfl 5 (0, 0) 8 rfl (by decide) w1.heap.size rfl
  have hb2 := hb.allocS (.cells #[.int .u8 2, .int .u8 2, .int .u8 6, .int .u8 97, .int .u8 47, .int .u8 120, .int .u8 2, .int .u8 6] 5)
  have HSM := Lib.hid (same_any _ _ _ _ _ _ _ _ _ _ _ hb2 hlit)
  have hF2 := hF1.mv elFct_ok (Mv.alloc w1 (.cells #[.int .u8 2, .int .u8 2, .int .u8 6, .int .u8 97, .int .u8 47, .int .u8 120, .int .u8 2, .int .u8 6] 5) _)
  have hB2 := below_then hB1 (below_a1 w1 (.cells #[.int .u8 2, .int .u8 2, .int .u8 6, .int .u8 97, .int .u8 47, .int .u8 120, .int .u8 2, .int .u8 6] 5))
  clear hlit hb2 hb hF1 hB1
  go_wp2_with fail
  refine HSM.out.mono ?_
  rintro e w2' ⟨rfl, k, rfl⟩
  have hF3 := hF2.mv elFct_ok (Mv.drewN _ k _)
  have hB3 := below_drewN hB2 k
  have hbq : (([2, 2, 6, 97, 47, 120, 2, 6] : List UInt8) == [2, 2, 6, 97, 47, 120, 2, 6]) = true := by decide
  generalize (w1.alloc (.cells #[.int .u8 2, .int .u8 2, .int .u8 6, .int .u8 97, .int .u8 47, .int .u8 120, .int .u8 2, .int .u8 6] 5)).drewN k = w2 at hF3 hB3 ⊢
  clear HSM hF2 hB2
  rw [hbq]
  have hS := ExS_has w2
  have hX := ExS_block w2
  have hF4 := hF3.mv elFct_ok (Mv.belowS (ExS_below w2) _)
  have hB4 := below_then hB3 (ExS_below w2)
  have HV := Lib.hid (values_any hF4 (by decide) (fun f hf => by
    rw [List.mem_singleton.1 hf]
    exact ⟨by decide, fun p hp => by rw [List.mem_singleton.1 hp]; decide, by decide⟩))
  clear hF3 hB3 hbq
  go_wp2_with fail
  have e0 : (((w2.alloc (.cells #[.string ⟨#[108]⟩, .string ⟨#[109]⟩] 9)).alloc (.cells #[.string ⟨#[100]⟩, .slice (some ⟨w2.heap.size, 0, none⟩) 2 2] 55)).alloc (.cells #[.string ⟨#[109]⟩] 9)).alloc (.cells #[.slice (some ⟨w2.heap.size + 1, 0, none⟩) 1 1, .slice (some ⟨w2.heap.size + 1 + 1, 0, none⟩) 1 1, .slice none 0 0] 26) = ExS w2 := rfl
  rw [e0]
  clear e0
  generalize ExS w2 = w4 at hS hX hF4 hB4 HV ⊢
  refine HV.out.mono ?_
  rintro e w5 ⟨vv, rfl, hO, hb5⟩
  obtain ⟨Av, cv, rfl, hv⟩ := hO.read elValsO_ok
  have hv5 := hv.map (E' := elRow elInt 1) (fun us x h => elOwn_row elInt_ok (fun _ _ h => h) h)
  have hS5 := hS.belowS hb5
  have hX5 := hX.below hb5 hX.lt
  have hF5 := hF4.mv elFct_ok (Mv.belowS hb5 _)
  have hB5 := below_then hB4 hb5
  have s0 : w5.cell? ⟨w2.heap.size + 1 + 1 + 1, 0, none⟩ = some (.slice (some ⟨w2.heap.size + 1, 0, none⟩) 1 1) := hX5.cell 0
  have s1 : w5.cell? ⟨w2.heap.size + 1 + 1 + 1, 1, none⟩ = some (.slice (some ⟨w2.heap.size + 1 + 1, 0, none⟩) 1 1) := hX5.cell 1
  have s2 : w5.cell? ⟨w2.heap.size + 1 + 1 + 1, 2, none⟩ = some (.slice none 0 0) := hX5.cell 2
  have hmt : ∀ s ∈ ([[109]] : List Txt), s.length ≤ maxLen := fun s hs => by rw [List.mem_singleton.1 hs]; decide
  have HM := Lib.hid (mayBatch_any hS5 ex_fit hmt (by decide) hF5)
  clear HV hO hv hS hX hF4 hB4 hb5
  go_wp2_with fail
  refine HM.out.mono ?_
  rw [ex_may]
  rintro e w6 ⟨rfl, hb6⟩
  have hS6 := hS5.belowS hb6
  have hX6 := hX5.below hb6 hX5.lt
  have hB6 := below_then hB5 hb6
  have t0 : w6.cell? ⟨w2.heap.size + 1 + 1 + 1, 0, none⟩ = some (.slice (some ⟨w2.heap.size + 1, 0, none⟩) 1 1) := hX6.cell 0
  have t1 : w6.cell? ⟨w2.heap.size + 1 + 1 + 1, 1, none⟩ = some (.slice (some ⟨w2.heap.size + 1 + 1, 0, none⟩) 1 1) := hX6.cell 1
  have t2 : w6.cell? ⟨w2.heap.size + 1 + 1 + 1, 2, none⟩ = some (.slice none 0 0) := hX6.cell 2
  have HM2 := Lib.hid (mayBatch_any (S := fun _ => True) hS6 ex_fit hmt (by decide) (Row.none_ w6 _))
  have hv6 := hv5.mv elVals_ok (Mv.belowS hb6 _)
  clear HM hS5 hX5 hF5 hB5 hb6 s0 s1 s2 hv5
  go_wp2_with fail
  refine HM2.out.mono ?_
  rw [ex_none]
  rintro e w7 ⟨rfl, hb7⟩
  have hv7 := hv6.mv elVals_ok (Mv.belowS hb7 _)
  have hB7 := Lib.hid (below_then hB6 hb7)
  obtain ⟨b, o, A', n', c', l, e8, _, _, g0, hl, he⟩ := hv7.at1 (k := 0) (by decide)
  subst e8
  have hl3 : l = [3] := by
    have h1 := he.out
    simp [ExF] at h1
    exact h1.symm
  subst hl3
  obtain rfl : n' = 1 := hl.len.symm
  obtain ⟨b2, o2, y, e9, _, g1, hy⟩ := hl.hasI.at_ (k := 0) (by decide)
  subst e9
  have hy3 : y = 3 := hy.out
  subst hy3
  simp only [Nat.add_zero] at g0 g1
  clear HM2 hS6 hX6 hB6 hb7 t0 t1 t2 hv6 hv7 hl he hy hmt
  go_wp2_with fail
  go_ret
  exact ⟨rfl, hB7.out⟩
end Go.Proofs.Ytfddaegepmdohaa
