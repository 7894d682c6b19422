/- BatchP, BatchN, BatchI, BatchK, BatchO, BatchQ, BatchS, BatchV, BatchW, BatchX -/
import Derived.Test.YtfddaegepmdohaaGreatDoorJ3
import Derived.Test.YtfddaegepmdohaaGreatDoorJ5
import Derived.Test.YtfddaegepmdohaaGreatDoorJ13
import Derived.Test.YtfddaegepmdohaaGreatDoorJ19
import Derived.Test.YtfddaegepmdohaaGreatDoorJ29
import Derived.Test.YtfddaegepmdohaaGreatDoorJ40
import Derived.Test.YtfddaegepmdohaaGreatDoorJ41
import Derived.Test.YtfddaegepmdohaaGreatDoorJ42
import Derived.Test.YtfddaegepmdohaaGreatDoorJ43
import Derived.Deep.RegionLaw
namespace Go.Proofs.YtfddaegepmdohaaGreatDoor
set_option maxRecDepth 100000
open Go.RowKit

theorem own_ne {w : World} {base g : Nat} {e T : TypeId} {v : Value} {l : List UInt8} {cs : Array Value} (h : OwnB w base e v l) (hb : Block w g T cs) (hT : T ≠ e) : v.ownBlock ≠ some g := by
  rcases h.2 with ⟨rfl, _⟩ | ⟨k, cap, cur, rfl, _, hk, _⟩
  · simp [Value.ownBlock]
  · intro e'
    simp only [Value.ownBlock, Option.some.injEq] at e'
    subst e'
    have h2 : w.heap[k]? = some (.cells cs T (0, 0)) := hb
    rw [hk] at h2
    simp only [Option.some.injEq, Obj.cells.injEq] at h2
    exact hT h2.2.1.symm
theorem below_grownB {w w' : World} {base : Nat} {v : Value} {l : List UInt8} {e : TypeId} (ho : OwnB w base e v l) (hb : base ≤ w.heap.size) (hg : w.grownBy w' v.ownBlock) : Below base w w' :=
  ⟨hg.os, hg.tape, hg.output, hg.size, fun k hk => hg.block k (by omega) (fun e => by have := (ho.lt k e.symm).1; omega)⟩
theorem grown_none {w w' : World} (hb : Below w.heap.size w w') (r : Option Nat) : w.grownBy w' r := ⟨hb.os, hb.tape, hb.output, hb.size, fun k hk _ => hb.block k hk⟩
def encP (x : List Txt) : List UInt8 := encT (textP x)
theorem encI_len {x : Int} (h : -9223372036854775808 ≤ x) (h' : x ≤ 9223372036854775807) : (encI x).length ≤ 10 := enc_ten (zig_lt h h')
theorem textP_len {x : List Txt} (h : mayP x) : (textP x).length ≤ 39 := by
  unfold textP
  split
  · simp
  · exact mayP_join h
theorem encP_len {x : List Txt} (h : mayP x) : (encP x).length ≤ 49 := by
  have h1 := textP_len h
  have h2 := enc_ten (zig_lt (n := ((textP x).length : Int)) (by omega) (by omega))
  unfold encP encT
  rw [List.length_append]
  omega
theorem flat_len {α : Type} {f : α → List UInt8} {l : List α} {m : Nat} (h : ∀ x ∈ l, (f x).length ≤ m) : (l.flatMap f).length ≤ m * l.length := by
  induction l with
  | nil => simp
  | cons x r ih =>
    have h1 := h x (by simp)
    have h2 := ih fun y hy => h y (List.mem_cons_of_mem _ hy)
    rw [List.flatMap_cons, List.length_append, List.length_cons, Nat.mul_succ]
    omega
theorem flat_snoc {α : Type} {f : α → List UInt8} {l : List α} {k : Nat} {x : α} (h : l[k]? = some x) : (l.take (k + 1)).flatMap f = (l.take k).flatMap f ++ f x := by
  rw [List.take_add_one, h]
  simp
theorem encF_len {f : Fct} (h : plainF f) : (encF f).length ≤ 200 := by
  obtain ⟨h1, h2, h3, h4⟩ := h
  have a := flat_len (f := fun p => encT (textP p)) (l := f.1) (m := 49) fun x hx => encP_len (h2 x hx)
  have b := flat_len (f := encI) (l := f.2) (m := 10) fun x hx => by have := h4 x hx; unfold inV at this; exact encI_len (by omega) (by omega)
  have c := encI_len (x := (f.1.length : Int)) (by omega) (by omega)
  have d := encI_len (x := (f.2.length : Int)) (by omega) (by omega)
  unfold encF
  simp only [List.length_append]
  omega
set_option maxRecDepth 100000 in
set_option maxHeartbeats 2000000 in
/-- putFact. -/
theorem putFact_any {S : Nat → Prop} {A1 A2 : Option Addr} {n1 c1 n2 c2 base : Nat} {p : List (List Txt)} {q : List Int} {l : List UInt8} {v : Value} {w : World} (hp : Row (elRow elText 1) 1 w S A1 n1 c1 p) (hq : Row elInt 1 w S A2 n2 c2 q) (hS : ∀ b, S b → b < base)
    (ho : OwnB w base 5 v l) (hb : base ≤ w.heap.size) (hl : l.length ≤ 1000000) (hpl : plainF (p, q)) :
    Calls Tryz.prog 37 #[v, .agg #[.slice A1 n1 c1, .slice A2 n2 c2]] w fun e w' => ∃ v', e = .returned v' ∧ OwnB w' base 5 v' (l ++ encF (p, q)) ∧ Below base w w' := by
  have HL1 := Lib.hid hp.len
  have HL2 := Lib.hid hq.len
  have hn1 : n1 ≤ 3 := by have := hpl.1; have := hp.len; simp only at *; omega
  have hn2 : n2 ≤ 2 := by have := hpl.2.2.1; have := hq.len; simp only at *; omega
  have HPL := Lib.hid hpl
  have HLL := Lib.hid hl
  have hb0 := below_a1 w (.cells #[.slice A1 n1 c1, .slice A2 n2 c2] 48)
  have hbl := Block.new w 48 #[.slice A1 n1 c1, .slice A2 n2 c2]
  have ho0 := ho.below hb0 (Nat.le_refl _)
  have hbs := Nat.le_trans hb hb0.size
  have HB0 := Lib.hid (hb0.mono hb)
  have Hb := Lib.hid hb
  clear hpl hl ho hb hb0
  have HE1 := Lib.hid (encI_len (x := (n1 : Int)) (by omega) (by omega))
  have HE2 := Lib.hid (encI_len (x := (n2 : Int)) (by omega) (by omega))
  go_enter Tryz.func37, Tryz.ntmps37
  go_wp2_with fail
  generalize w.alloc (.cells #[.slice A1 n1 c1, .slice A2 n2 c2] 48) = W at hbl ho0 hbs HB0 ⊢
  have k0 : W.cell? ⟨w.heap.size, 0, none⟩ = some (.slice A1 n1 c1) := hbl.cell 0
  have HP1 := Lib.hid (putInt_own v l (n1 : Int) (by omega) (by omega) W base ho0 hbs (by have := HLL.out; omega))
  go_wp2_with fail
  refine HP1.out.mono ?_
  rintro e w1 ⟨v1, rfl, hO1, hG1⟩
  have hB1 := HB0.out.trans (hG1.below_ hbs (fun k e => (ho0.lt k e).1))
  have hbl1 := hbl.grown hG1.1 (own_ne ho0 hbl (by decide))
  have k1 : w1.cell? ⟨w.heap.size, 0, none⟩ = some (.slice A1 n1 c1) := hbl1.cell 0
  have hO1' : OwnB w1 base 5 v1 (l ++ encI n1) := hO1
  clear HP1 hG1 hbl ho0 k0 hO1
  go_wp2_with fail
  clear k1
  go_loopw [0, 19] (fun v i wr => ∃ k : Nat, k ≤ n1 ∧ i = .int .i64 k ∧ OwnB wr base 5 v (l ++ encI n1 ++ (p.take k).flatMap encP) ∧ Below base w wr ∧ Block wr w.heap.size 48 #[.slice A1 n1 c1, .slice A2 n2 c2] ∧ Hid (((p.take k).flatMap encP).length ≤ 49 * k)) (fun _ i _ => n1 - (intOf i).toNat)
  case atStart => exact ⟨0, Nat.zero_le _, rfl, by simpa using hO1', hB1, hbl1, Lib.hid (by simp)⟩
  case round =>
    clear hO1' hB1 hbl1
    obtain ⟨k, hk, rfl, hO, hB, hblk, hle⟩ := hrel
    have hwb : base ≤ wr.heap.size := Nat.le_trans Hb.out hB.size
    by_cases hlt : k < n1
    · obtain ⟨b, o, A', n', c', x, rfl, _, _, g0, hx, he⟩ := (hp.mv elPath_ok (Mv.below hB hS)).at1 hlt
      have i0 : (0 : Int) ≤ (k : Int) := by omega
      have i1 : (k : Int) < (n1 : Int) := by omega
      have hT := hx.hasT
      have hm := HPL.out.2.1 x (List.mem_of_getElem? he.out)
      have HT := Lib.hid (text_yes hT hm)
      have HX := Lib.hid (textP_len hm)
      have HY := Lib.hid (encP_len hm)
      clear hT hm hx
      go_wp2_with fail
      refine HT.out.mono ?_
      rintro e w2 ⟨rfl, hb2⟩
      have hO2 := hO.below hb2 (Nat.le_refl _)
      have hB2 := hB.trans (hb2.mono hwb)
      have hbl2 := hblk.below hb2 hblk.lt
      have hwb2 := Nat.le_trans hwb hb2.size
      have HPT := Lib.hid (putText_grown u0 _ (textP x) w2 base hO2 hwb2 (by have := HLL.out; have := HE1.out; have := hle.out; have := HX.out; simp only [List.length_append]; omega))
      clear hO hB hblk hb2 g0 HT
      go_wp2_with fail
      refine HPT.out.mono ?_
      rintro e w3 ⟨v3, rfl, hO3, hG3⟩
      have hF := Lib.hid (show OwnB w3 base 5 v3 (l ++ encI n1 ++ (p.take (k + 1)).flatMap encP) ∧ Below base w w3 ∧ Block w3 w.heap.size 48 #[.slice (some ⟨b, o, none⟩) n1 c1, .slice A2 n2 c2] ∧ Hid (((p.take (k + 1)).flatMap encP).length ≤ 49 * (k + 1)) from
        ⟨by rw [flat_snoc he.out, ← List.append_assoc]; exact hO3, hB2.trans (below_grownB hO2 hwb2 hG3), hbl2.grown hG3 (own_ne hO2 hbl2 (by decide)), Lib.hid (by rw [flat_snoc he.out, List.length_append]; have := hle.out; have := HY.out; omega)⟩)
      clear HPT hO2 hO3 hG3 hB2 hbl2
      go_wp2_with fail
      go_roundw
      case rel => exact ⟨k + 1, by omega, by go_num, hF.out⟩
      case measure => simp [intOf]; omega
    · have e0 : p.take k = p := List.take_of_length_le (by have := HL1.out; omega)
      rw [e0] at hO hle
      have f1 : wr.cell? ⟨w.heap.size, 1, none⟩ = some (.slice A2 n2 c2) := hblk.cell 1
      have hk3 : k ≤ 3 := by omega
      have HP2 := Lib.hid (putInt_own u0 _ (n2 : Int) (by omega) (by omega) wr base hO hwb (by have := HLL.out; have := HE1.out; have := hle.out; simp only [List.length_append]; omega))
      go_wp2_with fail
      refine HP2.out.mono ?_
      rintro e w2 ⟨v2, rfl, hO2, hG2⟩
      have hB2 := hB.trans (hG2.below_ hwb (fun k e => (hO.lt k e).1))
      have hbl2 := hblk.grown hG2.1 (own_ne hO hblk (by decide))
      have f2 : w2.cell? ⟨w.heap.size, 1, none⟩ = some (.slice A2 n2 c2) := hbl2.cell 1
      have hO2' : OwnB w2 base 5 v2 (l ++ encI n1 ++ p.flatMap encP ++ encI n2) := hO2
      have HLE := Lib.hid (show (p.flatMap encP).length ≤ 147 by have := hle.out; omega)
      clear HP2 hG2 hblk hO hB hO2 f1 hle hbl2
      go_wp2_with fail
      clear f2
      go_loopw [0, 40] (fun v i wr => ∃ k : Nat, k ≤ n2 ∧ i = .int .i64 k ∧ OwnB wr base 5 v (l ++ encI n1 ++ p.flatMap encP ++ encI n2 ++ (q.take k).flatMap encI) ∧ Below base w wr ∧ Hid (((q.take k).flatMap encI).length ≤ 10 * k)) (fun _ i _ => n2 - (intOf i).toNat)
      case atStart => exact ⟨0, Nat.zero_le _, rfl, by simpa using hO2', hB2, Lib.hid (by simp)⟩
      case round =>
        clear hO2' hB2
        obtain ⟨m, hm, rfl, hO, hB, hle⟩ := hrel
        have hwb : base ≤ wr.heap.size := Nat.le_trans Hb.out hB.size
        by_cases hlt : m < n2
        · obtain ⟨b, o, us, x, rfl, _, _, _, g0, hx, he⟩ := (hq.mv elInt_ok (Mv.below hB hS)).at_ hlt
          have g1 : wr.cell? ⟨b, o + m, none⟩ = some (.int .i64 x) := by
            have hx' : us = [i64v x] := hx
            have := g0 0 (i64v x) (by rw [hx']; rfl)
            rwa [Nat.mul_one, Nat.add_zero] at this
          have i0 : (0 : Int) ≤ (m : Int) := by omega
          have i1 : (m : Int) < (n2 : Int) := by omega
          have hv := HPL.out.2.2.2 x (List.mem_of_getElem? he.out)
          unfold inV at hv
          have HY := Lib.hid (encI_len (x := x) (by omega) (by omega))
          have HPI := Lib.hid (putInt_own u0 _ x (by omega) (by omega) wr base hO hwb (by have := HLL.out; have := HE1.out; have := HE2.out; have := HLE.out; have := hle.out; simp only [List.length_append]; omega))
          clear g0 hx hv
          go_wp2_with fail
          refine HPI.out.mono ?_
          rintro e w3 ⟨v3, rfl, hO3, hG3⟩
          have hF := Lib.hid (show OwnB w3 base 5 v3 (l ++ encI n1 ++ p.flatMap encP ++ encI n2 ++ (q.take (m + 1)).flatMap encI) ∧ Below base w w3 ∧ Hid (((q.take (m + 1)).flatMap encI).length ≤ 10 * (m + 1)) from
            ⟨by rw [flat_snoc he.out, ← List.append_assoc]; exact hO3, hB.trans (hG3.below_ hwb (fun k e => (hO.lt k e).1)), Lib.hid (by rw [flat_snoc he.out, List.length_append]; have := hle.out; have := HY.out; omega)⟩)
          clear HPI hO3 hG3 hO hB g1
          go_wp2_with fail
          go_roundw
          case rel => exact ⟨m + 1, by omega, by go_num, hF.out⟩
          case measure => simp [intOf]; omega
        · have hF := Lib.hid (show OwnB wr base 5 u0 (l ++ encF (p, q)) ∧ Below base w wr from ⟨by
            rw [List.take_of_length_le (by have := HL2.out; omega)] at hO
            have e : l ++ encF (p, q) = l ++ encI n1 ++ p.flatMap encP ++ encI n2 ++ q.flatMap encI := by
              unfold encF encP
              simp only [HL1.out, HL2.out, List.append_assoc]
            rw [e]
            exact hO, hB⟩)
          clear hO hB
          go_wp2_with fail
          go_ret
          exact ⟨_, rfl, hF.out.1, hF.out.2⟩
end Go.Proofs.YtfddaegepmdohaaGreatDoor
namespace Go.Proofs.YtfddaegepmdohaaGreatDoor
set_option maxRecDepth 100000

/-- A thing that is read: what, the place behind it, the error. -/
abbrev RdT (α : Type) := List UInt8 → Nat → Nat → α × Nat × Nat
def sevN {α : Type} (rd : RdT α) (l : List UInt8) (p e : Nat) : Nat → List α × Nat × Nat
  | 0 => ([], p, e)
  | k + 1 => ((sevN rd l p e k).1 ++ [(rd l (sevN rd l p e k).2.1 (sevN rd l p e k).2.2).1], (rd l (sevN rd l p e k).2.1 (sevN rd l p e k).2.2).2.1, (rd l (sevN rd l p e k).2.1 (sevN rd l p e k).2.2).2.2)
def sevA {α : Type} (rd : RdT α) (most : Nat) (l : List UInt8) (p e : Nat) : List α × Nat × Nat := sevN rd l (p + (lk l p e 0 most).2.1) (lk l p e 0 most).2.2 (lk l p e 0 most).1.toNat
def rdPath : RdT (List Txt) := fun l p e => ((pathP (tx l p e 38).1).getD [], (tx l p e 38).2.1, if (pathP (tx l p e 38).1).isSome then (tx l p e 38).2.2 else if (tx l p e 38).2.2 = 0 then 2 else (tx l p e 38).2.2)
def rdVal : RdT Int := fun l p e => ((lk l p e (-2305843009213693952) 2305843009213693952).1, p + (lk l p e (-2305843009213693952) 2305843009213693952).2.1, (lk l p e (-2305843009213693952) 2305843009213693952).2.2)
def rdFct : RdT Fct := fun l p e => (((sevA rdPath 3 l p e).1, (sevA rdVal 2 l (sevA rdPath 3 l p e).2.1 (sevA rdPath 3 l p e).2.2).1), (sevA rdVal 2 l (sevA rdPath 3 l p e).2.1 (sevA rdPath 3 l p e).2.2).2)
def rdB (l : List UInt8) (p e : Nat) : List Fct × Nat × Nat := (if (sevA rdFct 8 l p e).2.2 = 0 then (sevA rdFct 8 l p e).1 else [], (sevA rdFct 8 l p e).2)
theorem sevN_len {α : Type} {rd : RdT α} {l : List UInt8} {p e : Nat} : ∀ k, (sevN rd l p e k).1.length = k
  | 0 => rfl
  | k + 1 => by
    show ((sevN rd l p e k).1 ++ [_]).length = _
    rw [List.length_append, sevN_len k]; rfl
theorem sevN_step {α : Type} {rd : RdT α} {l : List UInt8} {p e k : Nat} {X : List α} {p1 e1 p2 e2 : Nat} {x : α} (h : sevN rd l p e k = (X, p1, e1)) (h2 : rd l p1 e1 = (x, p2, e2)) : sevN rd l p e (k + 1) = (X ++ [x], p2, e2) := by
  unfold sevN
  rw [h, h2]
theorem sevA_is {α : Type} {rd : RdT α} {most : Nat} {l : List UInt8} {p e a k1 e1 : Nat} (h : lk l p e 0 most = ((a : Int), k1, e1)) : sevA rd most l p e = sevN rd l (p + k1) e1 a := by
  unfold sevA
  rw [h, Int.toNat_natCast]
theorem lkN_le (l : List UInt8) (p e : Nat) {hi : Int} (h : 0 ≤ hi) : (lk l p e 0 hi).1 ≤ hi := by
  unfold lk
  split
  · exact h
  · split
    · exact h
    · split
      · exact h
      · show gN _ ≤ hi
        omega
theorem lkN_nat (l : List UInt8) (p e : Nat) {hi : Nat} : ∃ (a k1 e1 : Nat), lk l p e 0 (hi : Int) = ((a : Int), k1, e1) ∧ a ≤ hi := by
  have h1 := lk_pos l p e hi
  have h2 := lkN_le l p e (hi := (hi : Int)) (by omega)
  exact ⟨(lk l p e 0 hi).1.toNat, (lk l p e 0 hi).2.1, (lk l p e 0 hi).2.2, Prod.ext (by simp; omega) rfl, by omega⟩
theorem rdPath_yes {l : List UInt8} {p e p2 e2 : Nat} {s : Txt} {q : List Txt} (h : tx l p e 38 = (s, p2, e2)) (hq : pathP s = some q) : rdPath l p e = (q, p2, e2) := by
  unfold rdPath
  rw [h]
  simp only [hq]
  rfl
theorem rdPath_no {l : List UInt8} {p e p2 e2 : Nat} {s : Txt} (h : tx l p e 38 = (s, p2, e2)) (hq : pathP s = none) : rdPath l p e = ([], p2, if e2 = 0 then 2 else e2) := by
  unfold rdPath
  rw [h]
  simp only [hq]
  rfl
theorem rdVal_is {l : List UInt8} {p e k1 e1 : Nat} {x : Int} (h : lk l p e (-2305843009213693952) 2305843009213693952 = (x, k1, e1)) : rdVal l p e = (x, p + k1, e1) := by
  unfold rdVal
  rw [h]
theorem rdFct_is {l : List UInt8} {p e p1 e1 p2 e2 : Nat} {P : List (List Txt)} {Q : List Int} (h : sevA rdPath 3 l p e = (P, p1, e1)) (h2 : sevA rdVal 2 l p1 e1 = (Q, p2, e2)) : rdFct l p e = ((P, Q), p2, e2) := by
  unfold rdFct
  rw [h]
  simp only [h2]
theorem rdB_is {l : List UInt8} {p e p1 e1 : Nat} {X : List Fct} (h : sevA rdFct 8 l p e = (X, p1, e1)) : rdB l p e = (if e1 = 0 then X else [], p1, e1) := by
  unfold rdB
  rw [h]
theorem tx38_len (l : List UInt8) (p e : Nat) : (tx l p e 38).1.length ≤ 38 := by
  have h := lkN_le l p e (hi := 38) (by decide)
  unfold tx
  simp only
  split
  · simp
  · split
    · refine Nat.le_trans (List.length_take_le _ _) ?_
      omega
    · simp
end Go.Proofs.YtfddaegepmdohaaGreatDoor
namespace Go.Proofs.YtfddaegepmdohaaGreatDoor
set_option maxRecDepth 100000
open Go.RowKit

theorem Rd.below {T : TypeId} {w w' : World} {g : Nat} {A : Option Addr} {n c : Nat} {l : List UInt8} {p e C : Nat} (h : Rd T w g A n c l p e) (hb : Below C w w') (hg : g < C) : Rd T w' g A n c l p e :=
  ⟨h.block.below hb hg, h.has.below hb (Nat.le_of_lt hg), h.at_le, h.err_le⟩
theorem HasT.rowN {w : World} {B C n c : Nat} {A : Option Addr} {L : List Txt} (h : HasT w B A n c L) (hC : ∀ a, A = some a → C ≤ a.block) : Row elText 1 w (fun b => C ≤ b) A n c L := by
  obtain ⟨h0, vs, h1, h2⟩ := h.row
  exact ⟨h0, vs, ⟨h1.len, h1.cap, h1.fit, h1.void, fun hn => by
    obtain ⟨b, o, e, _, hl, hc⟩ := h1.has hn
    exact ⟨b, o, e, hC _ e, hl, hc⟩⟩, fun i x hi => h2 i x hi⟩
theorem OwnR.elR {α : Type} {E : ElT α} {T : TypeId} {sz B : Nat} {w : World} {v : Value} {L : List α} (hE : E.Ok) (h : OwnR E T sz w B (fun k => B ≤ k) v L) : ∃ A n c, v = .slice A n c ∧ Row E sz w (fun k => B ≤ k) A n c L := by
  obtain ⟨A, c, e, hr⟩ := h.read hE
  exact ⟨A, _, c, e, hr.mv hE (Mv.to w fun b hb _ => by
    rcases hb with hb | hb
    · exact hb
    · exact hb.1)⟩
theorem one_i (x : Int) : ∀ u ∈ [Value.int .i64 x], u.oneCell' = true := by
  intro u hu
  rw [List.mem_singleton.1 hu]; rfl
theorem one_sl9 (A : Option Addr) (n c : Nat) : ∀ u ∈ [Value.slice A n c], u.oneCell' = true := by
  intro u hu
  rw [List.mem_singleton.1 hu]; rfl

set_option maxRecDepth 100000 in
set_option maxHeartbeats 2000000 in
theorem sevP_any {w : World} {gr : Nat} {A : Option Addr} {n c : Nat} {l : List UInt8} {p e : Nat} (hR : Rd 43 w gr A n c l p e) (most : Nat) (hmost : most ≤ 10) (rd : RdT (List Txt)) (fid : Nat) (lb : Array Value)
    (eg : ∀ args W, (callFunc fid args).run Tryz.prog W = .ok (.enter fid args) W)
    (HF : ∀ W p e, w.grownBy W (some gr) → Rd 43 W gr A n c l p e → Calls Tryz.prog fid lb W fun y w' => ∃ A5 n5 c5, y = .returned (.slice A5 n5 c5) ∧ (elRow elText 1) w' (fun k => W.heap.size ≤ k) [.slice A5 n5 c5] (rd l p e).1 ∧ Rd 43 w' gr A n c l (rd l p e).2.1 (rd l p e).2.2 ∧ W.grownBy w' (some gr)) :
    Calls Tryz.prog 19 #[.pointer (some ⟨gr, 0, none⟩), .int .i64 (most : Int), .func (.func fid) #[] lb] w fun y w' => ∃ v, y = .returned v ∧ OwnR (elRow elText 1) 50 1 w' w.heap.size (fun k => w.heap.size ≤ k) v (sevA rd most l p e).1 ∧ Rd 43 w' gr A n c l (sevA rd most l p e).2.1 (sevA rd most l p e).2.2 ∧ w.grownBy w' (some gr) := by
  obtain ⟨a, k1, e1, hlk, ham⟩ := lkN_nat l p e (hi := most)
  have hint := int_any w gr A n c l p e hR 0 (most : Int)
  rw [hlk] at hint
  simp only at hint
  have HI := Lib.hid hint
  have HS := Lib.hid (sevA_is (rd := rd) hlk)
  have hgl := hR.lt
  have HFF := Lib.hid HF
  clear hint hR HF hlk
  obtain ⟨Z, hZ⟩ : ∃ Z, Hid (sevA rd most l p e = Z) := ⟨_, Lib.hid rfl⟩
  rw [hZ.out] at HS ⊢
  go_enter Tryz.func19, Tryz.ntmps19
  go_wp2_with fail
  refine HI.out.mono ?_
  rintro y w1 ⟨rfl, hR1, hG1⟩
  clear HI
  go_wp2_with fail
  go_loopw [7, 11] (fun v i wr => ∃ k : Nat, k ≤ a ∧ i = .int .i64 k ∧ OwnR (elRow elText 1) 50 1 wr w.heap.size (fun b => w.heap.size ≤ b) v (sevN rd l (p + k1) e1 k).1 ∧ Rd 43 wr gr A n c l (sevN rd l (p + k1) e1 k).2.1 (sevN rd l (p + k1) e1 k).2.2 ∧ w.grownBy wr (some gr)) (fun _ i _ => a - (intOf i).toNat)
  case atStart => exact ⟨0, Nat.zero_le _, rfl, OwnR.nil_ w1 _ _, hR1, hG1⟩
  case round =>
    clear hR1 hG1
    obtain ⟨k, hk, rfl, hO, hR, hG⟩ := hrel
    have hzk := sevN_len (rd := rd) (l := l) (p := p + k1) (e := e1) k
    obtain ⟨Y, hY⟩ : ∃ Y, Hid (sevN rd l (p + k1) e1 k = Y) := ⟨_, Lib.hid rfl⟩
    rw [hY.out] at hO hR hzk
    obtain ⟨X, p2, e2⟩ := Y
    simp only at hO hR hzk
    by_cases hlt : k < a
    · have HC := Lib.hid (HFF.out wr p2 e2 hG hR)
      obtain ⟨y, hy⟩ : ∃ y, Hid (rd l p2 e2 = y) := ⟨_, Lib.hid rfl⟩
      rw [hy.out] at HC
      obtain ⟨x, p3, e3⟩ := y
      have HT := Lib.hid (sevN_step hY.out hy.out)
      have hz := hG.size
      have hlo := fun g e => hO.lt g e
      clear hR
      go_wp2_with fail
      refine HC.out.mono ?_
      rintro e w5 ⟨A5, n5, c5, rfl, hE5, hR5, hG5⟩
      have hO5 := hO.grown elPath_ok hG5 (fun e => by have := (hlo gr e).1; omega) (by omega)
      have hG6 := grownBy_trans hG hG5 (fun k h => .inl h)
      have hz5 := hG6.size
      have hE6 := elPath_ok _ _ _ _ _ _ (Mv.to w5 (S' := fun b => w.heap.size ≤ b ∧ u7.ownBlock ≠ some b) fun b hb _ => ⟨Nat.le_trans hz hb, fun e => by have := (hlo b e).2; omega⟩) hE5
      have hone := one_sl9 A5 n5 c5
      have hO6 := hO5.alloc elPath_ok (.cells #[.slice A5 n5 c5] 50)
      have hE7 := elPath_ok _ _ _ _ _ _ (Mv.alloc w5 (.cells #[.slice A5 n5 c5] 50) _) hE6
      have hR6 := hR5.below (below_a1 w5 (.cells #[.slice A5 n5 c5] 50)) hR5.lt
      have hG7 := grownBy_trans hG6 (World.grownBy_alloc w5 (.cells #[.slice A5 n5 c5] 50) none) (fun k h => by cases h)
      have hbs : w.heap.size ≤ (w5.alloc (.cells #[.slice A5 n5 c5] 50)).heap.size := by rw [World.size_alloc]; omega
      have hlb : Hid (X.length ≤ 1000000) := Lib.hid (by omega)
      clear HC hE5 hR5 hG5 hO5 hO hG6 hE6 hG
      go_wp2_with (at_builtin; refine wpList_appX elPath_ok rfl _ _ rfl info_rowT Tryz.underlying45 rfl (by decide) w.heap.size _ u7 _ rfl hO6 _ rfl [.slice A5 n5 c5] rfl x (cell_litX w5 _ _) hone hE7 hlb.out hbs ?_)
      intro v' w2 hO2 hG2
      have hF := Lib.hid (show OwnR (elRow elText 1) 50 1 w2 w.heap.size (fun b => w.heap.size ≤ b) v' (X ++ [x]) ∧ Rd 43 w2 gr A n c l p3 e3 ∧ w.grownBy w2 (some gr) from
        ⟨hO2, hR6.below (hG2.below_ hbs (fun g e => (hlo g e).1)) hgl, grownBy_trans hG7 hG2.1 (fun k h => .inr (hlo k h).1)⟩)
      clear hO2 hG2 hO6 hE7 hR6 hG7 hlo hone
      go_wp2_with fail
      go_roundw
      case rel => exact ⟨k + 1, by omega, by go_num, by rw [HT.out]; exact hF.out.1, by rw [HT.out]; exact hF.out.2.1, hF.out.2.2⟩
      case measure => simp [intOf]; omega
    · obtain rfl : k = a := by omega
      rw [hY.out] at HS
      have hF := Lib.hid (show OwnR (elRow elText 1) 50 1 wr w.heap.size (fun b => w.heap.size ≤ b) u7 Z.1 ∧ Rd 43 wr gr A n c l Z.2.1 Z.2.2 ∧ w.grownBy wr (some gr) from by
        rw [HS.out]
        exact ⟨hO, hR, hG⟩)
      clear hO hR hG
      go_wp2_with fail
      go_ret
      exact ⟨_, rfl, hF.out⟩

set_option maxRecDepth 100000 in
set_option maxHeartbeats 2000000 in
theorem sevI_any {w : World} {gr : Nat} {A : Option Addr} {n c : Nat} {l : List UInt8} {p e : Nat} (hR : Rd 43 w gr A n c l p e) (most : Nat) (hmost : most ≤ 10) (rd : RdT Int) (fid : Nat) (lb : Array Value)
    (eg : ∀ args W, (callFunc fid args).run Tryz.prog W = .ok (.enter fid args) W)
    (HF : ∀ W p e, w.grownBy W (some gr) → Rd 43 W gr A n c l p e → Calls Tryz.prog fid lb W fun y w' => ∃ x5, y = .returned (.int .i64 x5) ∧ elInt w' (fun k => W.heap.size ≤ k) [.int .i64 x5] (rd l p e).1 ∧ Rd 43 w' gr A n c l (rd l p e).2.1 (rd l p e).2.2 ∧ W.grownBy w' (some gr)) :
    Calls Tryz.prog 22 #[.pointer (some ⟨gr, 0, none⟩), .int .i64 (most : Int), .func (.func fid) #[] lb] w fun y w' => ∃ v, y = .returned v ∧ OwnR elInt 3 1 w' w.heap.size (fun k => w.heap.size ≤ k) v (sevA rd most l p e).1 ∧ Rd 43 w' gr A n c l (sevA rd most l p e).2.1 (sevA rd most l p e).2.2 ∧ w.grownBy w' (some gr) := by
  obtain ⟨a, k1, e1, hlk, ham⟩ := lkN_nat l p e (hi := most)
  have hint := int_any w gr A n c l p e hR 0 (most : Int)
  rw [hlk] at hint
  simp only at hint
  have HI := Lib.hid hint
  have HS := Lib.hid (sevA_is (rd := rd) hlk)
  have hgl := hR.lt
  have HFF := Lib.hid HF
  clear hint hR HF hlk
  obtain ⟨Z, hZ⟩ : ∃ Z, Hid (sevA rd most l p e = Z) := ⟨_, Lib.hid rfl⟩
  rw [hZ.out] at HS ⊢
  go_enter Tryz.func22, Tryz.ntmps22
  go_wp2_with fail
  refine HI.out.mono ?_
  rintro y w1 ⟨rfl, hR1, hG1⟩
  clear HI
  go_wp2_with fail
  go_loopw [7, 11] (fun v i wr => ∃ k : Nat, k ≤ a ∧ i = .int .i64 k ∧ OwnR elInt 3 1 wr w.heap.size (fun b => w.heap.size ≤ b) v (sevN rd l (p + k1) e1 k).1 ∧ Rd 43 wr gr A n c l (sevN rd l (p + k1) e1 k).2.1 (sevN rd l (p + k1) e1 k).2.2 ∧ w.grownBy wr (some gr)) (fun _ i _ => a - (intOf i).toNat)
  case atStart => exact ⟨0, Nat.zero_le _, rfl, OwnR.nil_ w1 _ _, hR1, hG1⟩
  case round =>
    clear hR1 hG1
    obtain ⟨k, hk, rfl, hO, hR, hG⟩ := hrel
    have hzk := sevN_len (rd := rd) (l := l) (p := p + k1) (e := e1) k
    obtain ⟨Y, hY⟩ : ∃ Y, Hid (sevN rd l (p + k1) e1 k = Y) := ⟨_, Lib.hid rfl⟩
    rw [hY.out] at hO hR hzk
    obtain ⟨X, p2, e2⟩ := Y
    simp only at hO hR hzk
    by_cases hlt : k < a
    · have HC := Lib.hid (HFF.out wr p2 e2 hG hR)
      obtain ⟨y, hy⟩ : ∃ y, Hid (rd l p2 e2 = y) := ⟨_, Lib.hid rfl⟩
      rw [hy.out] at HC
      obtain ⟨x, p3, e3⟩ := y
      have HT := Lib.hid (sevN_step hY.out hy.out)
      have hz := hG.size
      have hlo := fun g e => hO.lt g e
      clear hR
      go_wp2_with fail
      refine HC.out.mono ?_
      rintro e w5 ⟨x5, rfl, hE5, hR5, hG5⟩
      have hO5 := hO.grown elInt_ok hG5 (fun e => by have := (hlo gr e).1; omega) (by omega)
      have hG6 := grownBy_trans hG hG5 (fun k h => .inl h)
      have hz5 := hG6.size
      have hE6 := elInt_ok _ _ _ _ _ _ (Mv.to w5 (S' := fun b => w.heap.size ≤ b ∧ u7.ownBlock ≠ some b) fun b hb _ => ⟨Nat.le_trans hz hb, fun e => by have := (hlo b e).2; omega⟩) hE5
      have hone := one_i x5
      have hO6 := hO5.alloc elInt_ok (.cells #[.int .i64 x5] 3)
      have hE7 := elInt_ok _ _ _ _ _ _ (Mv.alloc w5 (.cells #[.int .i64 x5] 3) _) hE6
      have hR6 := hR5.below (below_a1 w5 (.cells #[.int .i64 x5] 3)) hR5.lt
      have hG7 := grownBy_trans hG6 (World.grownBy_alloc w5 (.cells #[.int .i64 x5] 3) none) (fun k h => by cases h)
      have hbs : w.heap.size ≤ (w5.alloc (.cells #[.int .i64 x5] 3)).heap.size := by rw [World.size_alloc]; omega
      have hlb : Hid (X.length ≤ 1000000) := Lib.hid (by omega)
      clear HC hE5 hR5 hG5 hO5 hO hG6 hE6 hG
      go_wp2_with (at_builtin; refine wpList_appX elInt_ok rfl _ _ rfl info_int Tryz.underlying46 rfl (by decide) w.heap.size _ u7 _ rfl hO6 _ rfl [.int .i64 x5] rfl x (cell_litX w5 _ _) hone hE7 hlb.out hbs ?_)
      intro v' w2 hO2 hG2
      have hF := Lib.hid (show OwnR elInt 3 1 w2 w.heap.size (fun b => w.heap.size ≤ b) v' (X ++ [x]) ∧ Rd 43 w2 gr A n c l p3 e3 ∧ w.grownBy w2 (some gr) from
        ⟨hO2, hR6.below (hG2.below_ hbs (fun g e => (hlo g e).1)) hgl, grownBy_trans hG7 hG2.1 (fun k h => .inr (hlo k h).1)⟩)
      clear hO2 hG2 hO6 hE7 hR6 hG7 hlo hone
      go_wp2_with fail
      go_roundw
      case rel => exact ⟨k + 1, by omega, by go_num, by rw [HT.out]; exact hF.out.1, by rw [HT.out]; exact hF.out.2.1, hF.out.2.2⟩
      case measure => simp [intOf]; omega
    · obtain rfl : k = a := by omega
      rw [hY.out] at HS
      have hF := Lib.hid (show OwnR elInt 3 1 wr w.heap.size (fun b => w.heap.size ≤ b) u7 Z.1 ∧ Rd 43 wr gr A n c l Z.2.1 Z.2.2 ∧ w.grownBy wr (some gr) from by
        rw [HS.out]
        exact ⟨hO, hR, hG⟩)
      clear hO hR hG
      go_wp2_with fail
      go_ret
      exact ⟨_, rfl, hF.out⟩

set_option maxRecDepth 100000 in
set_option maxHeartbeats 2000000 in
theorem sevF_any {w : World} {gr : Nat} {A : Option Addr} {n c : Nat} {l : List UInt8} {p e : Nat} (hR : Rd 43 w gr A n c l p e) (most : Nat) (hmost : most ≤ 10) (rd : RdT Fct) (fid : Nat) (lb : Array Value)
    (eg : ∀ args W, (callFunc fid args).run Tryz.prog W = .ok (.enter fid args) W)
    (HF : ∀ W p e, w.grownBy W (some gr) → Rd 43 W gr A n c l p e → Calls Tryz.prog fid lb W fun y w' => ∃ A5 n5 c5 A6 n6 c6, y = .returned (.agg #[.slice A5 n5 c5, .slice A6 n6 c6]) ∧ elFct w' (fun k => W.heap.size ≤ k) [.slice A5 n5 c5, .slice A6 n6 c6] (rd l p e).1 ∧ Rd 43 w' gr A n c l (rd l p e).2.1 (rd l p e).2.2 ∧ W.grownBy w' (some gr)) :
    Calls Tryz.prog 17 #[.pointer (some ⟨gr, 0, none⟩), .int .i64 (most : Int), .func (.func fid) #[] lb] w fun y w' => ∃ v, y = .returned v ∧ OwnR elFct 48 2 w' w.heap.size (fun k => w.heap.size ≤ k) v (sevA rd most l p e).1 ∧ Rd 43 w' gr A n c l (sevA rd most l p e).2.1 (sevA rd most l p e).2.2 ∧ w.grownBy w' (some gr) := by
  obtain ⟨a, k1, e1, hlk, ham⟩ := lkN_nat l p e (hi := most)
  have hint := int_any w gr A n c l p e hR 0 (most : Int)
  rw [hlk] at hint
  simp only at hint
  have HI := Lib.hid hint
  have HS := Lib.hid (sevA_is (rd := rd) hlk)
  have hgl := hR.lt
  have HFF := Lib.hid HF
  clear hint hR HF hlk
  obtain ⟨Z, hZ⟩ : ∃ Z, Hid (sevA rd most l p e = Z) := ⟨_, Lib.hid rfl⟩
  rw [hZ.out] at HS ⊢
  go_enter Tryz.func17, Tryz.ntmps17
  go_wp2_with fail
  refine HI.out.mono ?_
  rintro y w1 ⟨rfl, hR1, hG1⟩
  clear HI
  go_wp2_with fail
  go_loopw [7, 11] (fun v i wr => ∃ k : Nat, k ≤ a ∧ i = .int .i64 k ∧ OwnR elFct 48 2 wr w.heap.size (fun b => w.heap.size ≤ b) v (sevN rd l (p + k1) e1 k).1 ∧ Rd 43 wr gr A n c l (sevN rd l (p + k1) e1 k).2.1 (sevN rd l (p + k1) e1 k).2.2 ∧ w.grownBy wr (some gr)) (fun _ i _ => a - (intOf i).toNat)
  case atStart => exact ⟨0, Nat.zero_le _, rfl, OwnR.nil_ w1 _ _, hR1, hG1⟩
  case round =>
    clear hR1 hG1
    obtain ⟨k, hk, rfl, hO, hR, hG⟩ := hrel
    have hzk := sevN_len (rd := rd) (l := l) (p := p + k1) (e := e1) k
    obtain ⟨Y, hY⟩ : ∃ Y, Hid (sevN rd l (p + k1) e1 k = Y) := ⟨_, Lib.hid rfl⟩
    rw [hY.out] at hO hR hzk
    obtain ⟨X, p2, e2⟩ := Y
    simp only at hO hR hzk
    by_cases hlt : k < a
    · have HC := Lib.hid (HFF.out wr p2 e2 hG hR)
      obtain ⟨y, hy⟩ : ∃ y, Hid (rd l p2 e2 = y) := ⟨_, Lib.hid rfl⟩
      rw [hy.out] at HC
      obtain ⟨x, p3, e3⟩ := y
      have HT := Lib.hid (sevN_step hY.out hy.out)
      have hz := hG.size
      have hlo := fun g e => hO.lt g e
      clear hR
      go_wp2_with fail
      refine HC.out.mono ?_
      rintro e w5 ⟨A5, n5, c5, A6, n6, c6, rfl, hE5, hR5, hG5⟩
      have hO5 := hO.grown elFct_ok hG5 (fun e => by have := (hlo gr e).1; omega) (by omega)
      have hG6 := grownBy_trans hG hG5 (fun k h => .inl h)
      have hz5 := hG6.size
      have hE6 := elFct_ok _ _ _ _ _ _ (Mv.to w5 (S' := fun b => w.heap.size ≤ b ∧ u7.ownBlock ≠ some b) fun b hb _ => ⟨Nat.le_trans hz hb, fun e => by have := (hlo b e).2; omega⟩) hE5
      have hone := two_is A5 n5 c5 A6 n6 c6
      have hO6 := hO5.alloc elFct_ok (.cells #[.slice A5 n5 c5, .slice A6 n6 c6] 48)
      have hE7 := elFct_ok _ _ _ _ _ _ (Mv.alloc w5 (.cells #[.slice A5 n5 c5, .slice A6 n6 c6] 48) _) hE6
      have hR6 := hR5.below (below_a1 w5 (.cells #[.slice A5 n5 c5, .slice A6 n6 c6] 48)) hR5.lt
      have hG7 := grownBy_trans hG6 (World.grownBy_alloc w5 (.cells #[.slice A5 n5 c5, .slice A6 n6 c6] 48) none) (fun k h => by cases h)
      have hbs : w.heap.size ≤ (w5.alloc (.cells #[.slice A5 n5 c5, .slice A6 n6 c6] 48)).heap.size := by rw [World.size_alloc]; omega
      have hlb : Hid (X.length ≤ 1000000) := Lib.hid (by omega)
      clear HC hE5 hR5 hG5 hO5 hO hG6 hE6 hG
      go_wp2_with (at_builtin; refine wpList_appX elFct_ok rfl _ _ rfl info_fact Tryz.underlying29 rfl (by decide) w.heap.size _ u7 _ rfl hO6 _ rfl [.slice A5 n5 c5, .slice A6 n6 c6] rfl x (cell_two_d w5 _ _ _ _ rfl) hone hE7 hlb.out hbs ?_)
      intro v' w2 hO2 hG2
      have hF := Lib.hid (show OwnR elFct 48 2 w2 w.heap.size (fun b => w.heap.size ≤ b) v' (X ++ [x]) ∧ Rd 43 w2 gr A n c l p3 e3 ∧ w.grownBy w2 (some gr) from
        ⟨hO2, hR6.below (hG2.below_ hbs (fun g e => (hlo g e).1)) hgl, grownBy_trans hG7 hG2.1 (fun k h => .inr (hlo k h).1)⟩)
      clear hO2 hG2 hO6 hE7 hR6 hG7 hlo hone
      go_wp2_with fail
      go_roundw
      case rel => exact ⟨k + 1, by omega, by go_num, by rw [HT.out]; exact hF.out.1, by rw [HT.out]; exact hF.out.2.1, hF.out.2.2⟩
      case measure => simp [intOf]; omega
    · obtain rfl : k = a := by omega
      rw [hY.out] at HS
      have hF := Lib.hid (show OwnR elFct 48 2 wr w.heap.size (fun b => w.heap.size ≤ b) u7 Z.1 ∧ Rd 43 wr gr A n c l Z.2.1 Z.2.2 ∧ w.grownBy wr (some gr) from by
        rw [HS.out]
        exact ⟨hO, hR, hG⟩)
      clear hO hR hG
      go_wp2_with fail
      go_ret
      exact ⟨_, rfl, hF.out⟩
end Go.Proofs.YtfddaegepmdohaaGreatDoor
namespace Go.Proofs.YtfddaegepmdohaaGreatDoor
set_option maxRecDepth 100000
open Go.RowKit

theorem PtR.set {w : World} {g gr b i : Nat} {u : Value} (h : w.cell? ⟨g, 0, none⟩ = some (.pointer (some ⟨gr, 0, none⟩))) (hne : g ≠ b) : (w.setCell ⟨b, i, none⟩ u).cell? ⟨g, 0, none⟩ = some (.pointer (some ⟨gr, 0, none⟩)) := by
  refine (World.cell?_of_block ?_).trans h
  simp [World.setCell, Array.getElem?_modify]
  intro e; exact absurd e.symm hne
theorem grown_belowN {w a b : World} {r : Nat} (hg : w.grownBy a (some r)) (hb : Below a.heap.size a b) : w.grownBy b (some r) := grownBy_trans hg (grown_none hb none) (fun k h => by cases h)
/-- What a closure that reads a path tells. -/
def TellPath (w : World) (gr : Nat) (A : Option Addr) (n c : Nat) (l : List UInt8) (x : List Txt × Nat × Nat) (y : Ending) (w' : World) : Prop :=
  ∃ A5 n5 c5, y = .returned (.slice A5 n5 c5) ∧ elRow elText 1 w' (fun k => w.heap.size ≤ k) [.slice A5 n5 c5] x.1 ∧ Rd 43 w' gr A n c l x.2.1 x.2.2 ∧ w.grownBy w' (some gr)
set_option maxRecDepth 100000 in
set_option maxHeartbeats 1000000 in
theorem readPathB_any {w : World} {gr : Nat} {A : Option Addr} {n c : Nat} {l : List UInt8} {p e : Nat} (hR : Rd 43 w gr A n c l p e) :
    Calls Tryz.prog 21 #[.pointer (some ⟨gr, 0, none⟩)] w (TellPath w gr A n c l (rdPath l p e)) := by
  have htx := text_any w gr A n c l p e hR 38
  have htl := tx38_len l p e
  obtain ⟨t, ht⟩ : ∃ t, Hid (tx l p e 38 = t) := ⟨_, Lib.hid rfl⟩
  rw [ht.out] at htx htl
  obtain ⟨s, p2, e2⟩ := t
  have HT := Lib.hid htx
  have hgl := hR.lt
  clear htx hR
  rcases hp : pathP s with _ | q
  · have HX := Lib.hid (rdPath_no ht.out hp)
    have HP := Lib.hid hp
    clear hp
    go_enter Tryz.func21, Tryz.ntmps21
    go_wp2_with fail
    refine HT.out.mono ?_
    rintro y w1 ⟨rfl, hR1, hG1⟩
    have HC := Lib.hid (path_any s w1 (by have : s.length ≤ 38 := htl; omega))
    rw [HP.out] at HC
    clear HT
    go_wp2_with fail
    refine HC.out.mono ?_
    rintro y w2 hy
    obtain ⟨rfl, hb2⟩ := hy.no
    have hR2 := hR1.below hb2 hR1.lt
    have hG2 := grown_belowN hG1 hb2
    have HB := Lib.hid (bad_any w2 gr A n c l p2 e2 hR2)
    clear HC hy hb2 hR1 hG1 hR2
    go_wp2_with fail
    refine HB.out.mono ?_
    rintro y w3 ⟨rfl, hR3, hG3⟩
    have hG4 := grownBy_trans hG2 hG3 (fun k h => .inl h)
    have hF := Lib.hid (And.intro hR3 hG4)
    clear HB hG2 hG3 hG4 hR3
    go_wp2_with fail
    go_ret
    rw [HX.out]
    exact ⟨none, 0, 0, rfl, ⟨none, 0, 0, rfl, Row.none_ _ _⟩, hF.out.1, hF.out.2⟩
  · have HX := Lib.hid (rdPath_yes ht.out hp)
    have HP := Lib.hid hp
    clear hp
    go_enter Tryz.func21, Tryz.ntmps21
    go_wp2_with fail
    refine HT.out.mono ?_
    rintro y w1 ⟨rfl, hR1, hG1⟩
    have HC := Lib.hid (path_any s w1 (by have : s.length ≤ 38 := htl; omega))
    rw [HP.out] at HC
    clear HT
    go_wp2_with fail
    refine HC.out.mono ?_
    rintro y w2 hy
    obtain ⟨B, j, d, rfl, hv, hfr, hb2⟩ := hy.fresh
    have hR2 := hR1.below hb2 hR1.lt
    have hG2 := grown_belowN hG1 hb2
    have hz := hG1.size
    have hF := Lib.hid (show elRow elText 1 w2 (fun k => w.heap.size ≤ k) [.slice B j d] q ∧ Rd 43 w2 gr A n c l p2 e2 ∧ w.grownBy w2 (some gr) from
      ⟨⟨B, j, d, rfl, hv.rowN fun a ha => Nat.le_trans hz (hfr a ha)⟩, hR2, hG2⟩)
    clear HC hy hv hfr hb2 hR1 hG1 hR2 hG2
    go_wp2_with fail
    go_ret
    rw [HX.out]
    exact ⟨B, j, d, rfl, hF.out⟩
/-- A block that holds a pointer to the reader. -/
abbrev PtR (w : World) (g gr : Nat) : Prop := w.cell? ⟨g, 0, none⟩ = some (.pointer (some ⟨gr, 0, none⟩))
theorem PtR.grown {w w' : World} {g gr : Nat} (h : PtR w g gr) (hg : w.grownBy w' (some gr)) (hne : g ≠ gr) : PtR w' g gr :=
  (World.cell?_of_block (hg.block g (World.block_lt_of_cell? w _ h) (fun e => hne (by injection e)))).trans h
set_option maxRecDepth 100000 in
theorem readC1_any {w : World} {g gr : Nat} {A : Option Addr} {n c : Nat} {l : List UInt8} {p e : Nat} (hp : PtR w g gr) (hR : Rd 43 w gr A n c l p e) :
    Calls Tryz.prog 20 #[.pointer (some ⟨g, 0, none⟩)] w (TellPath w gr A n c l (rdPath l p e)) := by
  have HC := Lib.hid (readPathB_any hR)
  have hp0 : w.cell? ⟨g, 0, none⟩ = some (.pointer (some ⟨gr, 0, none⟩)) := hp
  clear hR hp
  go_enter Tryz.func20, Tryz.ntmps20
  go_wp2_with fail
  refine HC.out.mono ?_
  rintro y w1 ⟨A5, n5, c5, rfl, h⟩
  have hF := Lib.hid h
  clear h HC hp0
  go_wp2_with fail
  go_ret
  exact ⟨A5, n5, c5, rfl, hF.out⟩
set_option maxRecDepth 100000 in
theorem readC2_any {w : World} {g gr : Nat} {A : Option Addr} {n c : Nat} {l : List UInt8} {p e : Nat} (hp : PtR w g gr) (hR : Rd 43 w gr A n c l p e) :
    Calls Tryz.prog 23 #[.pointer (some ⟨g, 0, none⟩)] w fun y w' => ∃ x5, y = .returned (.int .i64 x5) ∧ elInt w' (fun k => w.heap.size ≤ k) [.int .i64 x5] (rdVal l p e).1 ∧ Rd 43 w' gr A n c l (rdVal l p e).2.1 (rdVal l p e).2.2 ∧ w.grownBy w' (some gr) := by
  have HC := Lib.hid (int_any w gr A n c l p e hR (-2305843009213693952) 2305843009213693952)
  have hp0 : w.cell? ⟨g, 0, none⟩ = some (.pointer (some ⟨gr, 0, none⟩)) := hp
  obtain ⟨t, ht⟩ : ∃ t, Hid (lk l p e (-2305843009213693952) 2305843009213693952 = t) := ⟨_, Lib.hid rfl⟩
  rw [ht.out] at HC
  obtain ⟨x, k1, e1⟩ := t
  have HX := Lib.hid (rdVal_is ht.out)
  clear hR hp
  go_enter Tryz.func23, Tryz.ntmps23
  go_wp2_with fail
  refine HC.out.mono ?_
  rintro y w1 ⟨rfl, h⟩
  have hF := Lib.hid h
  clear h HC hp0
  go_wp2_with fail
  go_ret
  rw [HX.out]
  exact ⟨x, rfl, rfl, hF.out⟩
/-- What a closure that reads a fact tells. -/
def TellFct (w : World) (gr : Nat) (A : Option Addr) (n c : Nat) (l : List UInt8) (x : Fct × Nat × Nat) (y : Ending) (w' : World) : Prop :=
  ∃ A5 n5 c5 A6 n6 c6, y = .returned (.agg #[.slice A5 n5 c5, .slice A6 n6 c6]) ∧ elFct w' (fun k => w.heap.size ≤ k) [.slice A5 n5 c5, .slice A6 n6 c6] x.1 ∧ Rd 43 w' gr A n c l x.2.1 x.2.2 ∧ w.grownBy w' (some gr)
set_option maxRecDepth 100000 in
set_option maxHeartbeats 2000000 in
theorem readF_any {w : World} {g gr : Nat} {A : Option Addr} {n c : Nat} {l : List UInt8} {p e : Nat} (hp : PtR w g gr) (hne : g ≠ gr) (hR : Rd 43 w gr A n c l p e) :
    Calls Tryz.prog 18 #[.pointer (some ⟨g, 0, none⟩)] w (TellFct w gr A n c l (rdFct l p e)) := by
  obtain ⟨X, hX⟩ : ∃ X, Hid (sevA rdPath 3 l p e = X) := ⟨_, Lib.hid rfl⟩
  obtain ⟨P, p1, e1⟩ := X
  obtain ⟨Y, hY⟩ : ∃ Y, Hid (sevA rdVal 2 l p1 e1 = Y) := ⟨_, Lib.hid rfl⟩
  obtain ⟨Q, p2, e2⟩ := Y
  have HX := Lib.hid (rdFct_is hX.out hY.out)
  have hgl := hR.lt
  have hpl := World.block_lt_of_cell? w _ hp
  have hb0 := below_a1 w (.cells #[.slice none 0 0, .slice none 0 0] 48)
  have hbf := Block.new w 48 #[.slice none 0 0, .slice none 0 0]
  have hp1 : PtR (w.alloc (.cells #[.slice none 0 0, .slice none 0 0] 48)) g gr := hp.grown (grown_none hb0 _) hne
  have HS := Lib.hid (sevP_any (hR.below hb0 hgl) 3 (by decide) rdPath 20 #[.pointer (some ⟨g, 0, none⟩)] (fun _ _ => rfl) (fun W p e hG hR => readC1_any (hp1.grown hG hne) hR))
  rw [hX.out] at HS
  clear hR hp
  have hcl : (w.alloc (.cells #[.slice none 0 0, .slice none 0 0] 48)).cell? ⟨g, 0, none⟩ = some (.pointer (some ⟨gr, 0, none⟩)) := hp1
  go_enter Tryz.func18, Tryz.ntmps18
  go_wp2_with fail
  have hsz : (w.alloc (.cells #[.slice none 0 0, .slice none 0 0] 48)).heap.size = w.heap.size + 1 := by simp
  generalize w.alloc (.cells #[.slice none 0 0, .slice none 0 0] 48) = W at hb0 hbf hp1 HS hsz hcl ⊢
  refine HS.out.mono ?_
  rintro y w1 ⟨v1, rfl, hO1, hR1, hG1⟩
  obtain ⟨B1, j1, d1, rfl, hr1⟩ := hO1.elR elPath_ok
  have hbf1 := hbf.grown hG1 (fun e => by injection e with e; omega)
  have hp2 := hp1.grown hG1 hne
  have f0 := hbf1.free 0
  have c0 : w1.cell? ⟨w.heap.size, 0, none⟩ = some (.slice none 0 0) := hbf1.cell 0
  have hk2 := hbf1.set_ 0 (.slice B1 j1 d1)
  have hGs := grown_set w1 w.heap.size 0 (.slice B1 j1 d1)
  have hG2 : w.grownBy (w1.setCell ⟨w.heap.size, 0, none⟩ (.slice B1 j1 d1)) (some gr) := grownBy_trans (grownBy_trans (grown_none hb0 (some gr)) hG1 (fun k h => .inl h)) hGs (fun k h => .inr (by injection h with h; omega))
  have hR2 : Rd 43 (w1.setCell ⟨w.heap.size, 0, none⟩ (.slice B1 j1 d1)) gr A n c l p1 e1 := hR1.below ((Below.refl w.heap.size w1).setCell (p := ⟨w.heap.size, 0, none⟩) (Nat.le_refl _) _) hgl
  have hp3 : PtR (w1.setCell ⟨w.heap.size, 0, none⟩ (.slice B1 j1 d1)) g gr := PtR.set hp2 (by omega)
  have hcl2 : (w1.setCell ⟨w.heap.size, 0, none⟩ (.slice B1 j1 d1)).cell? ⟨g, 0, none⟩ = some (.pointer (some ⟨gr, 0, none⟩)) := hp3
  have hr2 := hr1.mv elPath_ok (Mv.set w1 w.heap.size 0 (.slice B1 j1 d1) (S := fun b => W.heap.size ≤ b) (by omega))
  have HS2 := Lib.hid (sevI_any hR2 2 (by decide) rdVal 23 #[.pointer (some ⟨g, 0, none⟩)] (fun _ _ => rfl) (fun W p e hG hR => readC2_any (hp3.grown hG hne) hR))
  rw [hY.out] at HS2
  have hz2 : W.heap.size ≤ (w1.setCell ⟨w.heap.size, 0, none⟩ (.slice B1 j1 d1)).heap.size := by have := hG1.size; simp [World.setCell]; omega
  clear HS hO1 hR1 hG1 hbf hbf1 hp1 hp2 hR2 hb0 hGs hr1 hcl
  go_wp2_with fail
  clear c0 f0
  generalize w1.setCell ⟨w.heap.size, 0, none⟩ (.slice B1 j1 d1) = w2 at hk2 hG2 hp3 hcl2 hr2 HS2 hz2 ⊢
  refine HS2.out.mono ?_
  rintro y w3 ⟨v3, rfl, hO3, hR3, hG3⟩
  obtain ⟨B3, j3, d3, rfl, hr3⟩ := hO3.elR elInt_ok
  have hk3 := hk2.grown hG3 (fun e => by injection e with e; omega)
  have f1 := hk3.free 1
  have c1 : w3.cell? ⟨w.heap.size, 1, none⟩ = some (.slice none 0 0) := hk3.cell 1
  have c0 : w3.cell? ⟨w.heap.size, 0, none⟩ = some (.slice B1 j1 d1) := hk3.cell 0
  have f0 := hk3.free 0
  have hk4 := hk3.set_ 1 (.slice B3 j3 d3)
  have hG4 : w.grownBy (w3.setCell ⟨w.heap.size, 1, none⟩ (.slice B3 j3 d3)) (some gr) := grownBy_trans (grownBy_trans hG2 hG3 (fun k h => .inl h)) (grown_set w3 w.heap.size 1 (.slice B3 j3 d3)) (fun k h => .inr (by injection h with h; omega))
  have hR4 : Rd 43 (w3.setCell ⟨w.heap.size, 1, none⟩ (.slice B3 j3 d3)) gr A n c l p2 e2 := hR3.below ((Below.refl w.heap.size w3).setCell (p := ⟨w.heap.size, 1, none⟩) (Nat.le_refl _) _) hgl
  have hr4 := (hr2.mv elPath_ok (Mv.grown hG3 (fun b hb e => by injection e with e; omega))).mv elPath_ok (Mv.set w3 w.heap.size 1 (.slice B3 j3 d3) (S := fun b => W.heap.size ≤ b) (by omega))
  have hr5 := (hr3.mv elInt_ok (Mv.to w3 (S' := fun b => W.heap.size ≤ b) fun b hb _ => Nat.le_trans hz2 hb)).mv elInt_ok (Mv.set w3 w.heap.size 1 (.slice B3 j3 d3) (by omega))
  have d0 : (w3.setCell ⟨w.heap.size, 1, none⟩ (.slice B3 j3 d3)).cell? ⟨w.heap.size, 0, none⟩ = some (.slice B1 j1 d1) := hk4.cell 0
  have d1' : (w3.setCell ⟨w.heap.size, 1, none⟩ (.slice B3 j3 d3)).cell? ⟨w.heap.size, 1, none⟩ = some (.slice B3 j3 d3) := hk4.cell 1
  have e0 := hk4.free 0
  have e1' := hk4.free 1
  have hk6 := (hk4.set_ 0 (.slice B1 j1 d1)).set_ 1 (.slice B3 j3 d3)
  have hG6 : w.grownBy (((w3.setCell ⟨w.heap.size, 1, none⟩ (.slice B3 j3 d3)).setCell ⟨w.heap.size, 0, none⟩ (.slice B1 j1 d1)).setCell ⟨w.heap.size, 1, none⟩ (.slice B3 j3 d3)) (some gr) := grownBy_trans (grownBy_trans hG4 (grown_set _ w.heap.size 0 (.slice B1 j1 d1)) (fun k h => .inr (by injection h with h; omega))) (grown_set _ w.heap.size 1 (.slice B3 j3 d3)) (fun k h => .inr (by injection h with h; omega))
  have hb6 := ((Below.refl w.heap.size (w3.setCell ⟨w.heap.size, 1, none⟩ (.slice B3 j3 d3))).setCell (p := ⟨w.heap.size, 0, none⟩) (Nat.le_refl _) (.slice B1 j1 d1)).setCell (p := ⟨w.heap.size, 1, none⟩) (Nat.le_refl _) (.slice B3 j3 d3)
  have m6 := Mv.trans (Mv.set (w3.setCell ⟨w.heap.size, 1, none⟩ (.slice B3 j3 d3)) w.heap.size 0 (.slice B1 j1 d1) (S := fun b => W.heap.size ≤ b) (by omega)) (Mv.set ((w3.setCell ⟨w.heap.size, 1, none⟩ (.slice B3 j3 d3)).setCell ⟨w.heap.size, 0, none⟩ (.slice B1 j1 d1)) w.heap.size 1 (.slice B3 j3 d3) (by omega))
  have m7 := Mv.trans m6 (Mv.to _ (S' := fun k => w.heap.size ≤ k) fun b hb _ => by omega)
  have hF := Lib.hid (show elFct _ (fun k => w.heap.size ≤ k) [.slice B1 j1 d1, .slice B3 j3 d3] (P, Q) ∧ Rd 43 _ gr A n c l p2 e2 ∧ w.grownBy _ (some gr) from ⟨⟨⟨B1, j1, d1, rfl, hr4.mv elPath_ok m7⟩, ⟨B3, j3, d3, rfl, hr5.mv elInt_ok m7⟩⟩, hR4.below hb6 hgl, hG6⟩)
  have HR := Lib.hid hk6
  clear HS2 hO3 hR3 hG3 hk2 hk3 hG2 hp3 hr2 hr3 hG4 hR4 hr4 hr5 hk4 hk6 hG6 hb6 m6 m7 hcl2
  go_wp2_with fail
  refine bodyPost_ret (results_block1 rfl _ _ w.heap.size _ _ rfl HR.out Tryz.underlying48 rfl info_factS) rfl ?_
  rw [HX.out]
  exact ⟨_, _, _, _, _, _, rfl, hF.out⟩
end Go.Proofs.YtfddaegepmdohaaGreatDoor
namespace Go.Proofs.YtfddaegepmdohaaGreatDoor
set_option maxRecDepth 100000
open Go.RowKit

set_option maxRecDepth 100000 in
set_option maxHeartbeats 2000000 in
theorem readBatch_any {w : World} {gr : Nat} {A : Option Addr} {n c : Nat} {l : List UInt8} {p e : Nat} (hR : Rd 43 w gr A n c l p e) :
    Calls Tryz.prog 6 #[.pointer (some ⟨gr, 0, none⟩)] w fun y w' => ∃ v, y = .returned v ∧ OwnR elFct 48 2 w' w.heap.size (fun k => w.heap.size ≤ k) v (rdB l p e).1 ∧ Rd 43 w' gr A n c l (rdB l p e).2.1 (rdB l p e).2.2 ∧ w.grownBy w' (some gr) := by
  obtain ⟨X, hX⟩ : ∃ X, Hid (sevA rdFct 8 l p e = X) := ⟨_, Lib.hid rfl⟩
  obtain ⟨L, p1, e1⟩ := X
  have HX := Lib.hid (rdB_is hX.out)
  have hgl := hR.lt
  have hb0 := below_a1 w (.cells #[.pointer (some ⟨gr, 0, none⟩)] 23)
  have hp1 : PtR (w.alloc (.cells #[.pointer (some ⟨gr, 0, none⟩)] 23)) w.heap.size gr := by
    show (w.alloc _).cell? _ = _
    rw [cell_new]; rfl
  have hne : w.heap.size ≠ gr := by omega
  have HS := Lib.hid (sevF_any (hR.below hb0 hgl) 8 (by decide) rdFct 18 #[.pointer (some ⟨w.heap.size, 0, none⟩)] (fun _ _ => rfl) (fun W p e hG hR => readF_any (hp1.grown hG hne) hne hR))
  rw [hX.out] at HS
  rw [HX.out]
  clear hR
  go_enter Tryz.func6, Tryz.ntmps6
  go_wp2_with fail
  generalize w.alloc (.cells #[.pointer (some ⟨gr, 0, none⟩)] 23) = W at hb0 hp1 HS ⊢
  refine HS.out.mono ?_
  rintro y w1 ⟨v1, rfl, hO1, hR1, hG1⟩
  have hp2 : w1.cell? ⟨w.heap.size, 0, none⟩ = some (.pointer (some ⟨gr, 0, none⟩)) := hp1.grown hG1 hne
  have hz := hb0.size
  have hG2 : w.grownBy w1 (some gr) := grownBy_trans (grown_none hb0 (some gr)) hG1 (fun k h => .inl h)
  have HFl := Lib.hid (failed_any _ _ _ _ _ _ _ _ hR1)
  have hO2 := (hO1.to elFct_ok (S' := fun k => w.heap.size ≤ k) fun b hb _ => Nat.le_trans hz hb).low hz
  have hF := Lib.hid (show OwnR elFct 48 2 w1 w.heap.size (fun k => w.heap.size ≤ k) v1 L ∧ Rd 43 w1 gr A n c l p1 e1 ∧ w.grownBy w1 (some gr) from ⟨hO2, hR1, hG2⟩)
  clear HS hO1 hR1 hG1 hG2 hO2 hp1 hb0
  by_cases he : e1 = 0
  · subst he
    go_wp2_with fail
    refine HFl.out.mono ?_
    rintro y w2 ⟨rfl, rfl⟩
    go_wp2_with fail
    go_ret
    exact ⟨_, rfl, hF.out⟩
  · have ht : ((e1 : Int) != 0) = true := by simpa using he
    have HE := Lib.hid he
    have hF2 := Lib.hid (show OwnR elFct 48 2 w1 w.heap.size (fun k => w.heap.size ≤ k) (.slice none 0 0) ([] : List Fct) from OwnR.nil_ _ _ _)
    clear he
    go_wp2_with fail
    refine HFl.out.mono ?_
    rintro y w2 ⟨rfl, rfl⟩
    go_wp2_with fail
    go_ret
    exact ⟨_, rfl, by first | exact hF2.out | (rw [if_neg HE.out]; exact hF2.out), hF.out.2⟩
end Go.Proofs.YtfddaegepmdohaaGreatDoor
namespace Go.Proofs.YtfddaegepmdohaaGreatDoor
set_option maxRecDepth 100000
open Go.RowKit

theorem OwnI.grownR {w w' : World} {base gr : Nat} {v : Value} {l : List Int} (h : OwnI w base v l) (hg : w.grownBy w' (some gr)) (hr : gr < base) : OwnI w' base v l := h.kept hg (by
  rcases hv : v.ownBlock with _ | k
  · exact .inl rfl
  · refine .inr fun e => ?_
    injection e with e
    have := (h.lt k hv).1
    omega)
set_option maxRecDepth 100000 in
set_option maxHeartbeats 4000000 in
/-- The reference's Read. -/
theorem refReadB_any {w : World} {gr : Nat} {A : Option Addr} {n c : Nat} {l : List UInt8} {p e : Nat} (hR : Rd 28 w gr A n c l p e) :
    Calls Tryz.prog 7 #[.pointer (some ⟨gr, 0, none⟩)] w fun y w' => ∃ v, y = .returned v ∧ OwnR elFct 48 2 w' w.heap.size (fun k => w.heap.size ≤ k) v (rdB l p e).1 ∧ Rd 28 w' gr A n c l (rdB l p e).2.1 (rdB l p e).2.2 ∧ w.grownBy w' (some gr) := by
  obtain ⟨a, k1, e1, hlk, ham⟩ := lkN_nat l p e (hi := 8)
  have hint := refInt_any w gr A n c l p e hR 0 8
  rw [show (8 : Int) = ((8 : Nat) : Int) from rfl, hlk] at hint
  have HI := Lib.hid hint
  have hgl := hR.lt
  obtain ⟨Z, hZ⟩ : ∃ Z, Hid (sevA rdFct 8 l p e = Z) := ⟨_, Lib.hid rfl⟩
  have HS := Lib.hid (sevA_is (rd := rdFct) hlk)
  rw [hZ.out] at HS
  obtain ⟨L, p9, e9⟩ := Z
  have HX := Lib.hid (rdB_is hZ.out)
  rw [HX.out]
  clear hint hR hlk
  go_enter Tryz.func7, Tryz.ntmps7
  go_wp2_with fail
  refine HI.out.mono ?_
  rintro y w1 ⟨rfl, hR1, hG1⟩
  clear HI
  go_wp2_with fail
  go_loopw [3, 5] (fun v i wr => ∃ k : Nat, k ≤ a ∧ i = .int .i64 k ∧ OwnR elFct 48 2 wr w.heap.size (fun b => w.heap.size ≤ b) v (sevN rdFct l (p + k1) e1 k).1 ∧ Rd 28 wr gr A n c l (sevN rdFct l (p + k1) e1 k).2.1 (sevN rdFct l (p + k1) e1 k).2.2 ∧ w.grownBy wr (some gr)) (fun _ i _ => a - (intOf i).toNat)
  case atStart => exact ⟨0, Nat.zero_le _, rfl, OwnR.nil_ w1 _ _, hR1, hG1⟩
  case round =>
    clear hR1 hG1
    obtain ⟨k, hk, rfl, hO, hR, hG⟩ := hrel
    have hzk := sevN_len (rd := rdFct) (l := l) (p := p + k1) (e := e1) k
    obtain ⟨Y, hY⟩ : ∃ Y, Hid (sevN rdFct l (p + k1) e1 k = Y) := ⟨_, Lib.hid rfl⟩
    rw [hY.out] at hO hR hzk
    obtain ⟨LF, p2, e2⟩ := Y
    simp only at hO hR hzk
    by_cases hlt : k < a
    · obtain ⟨a3, k3, e3, hlk3, ham3⟩ := lkN_nat l p2 e2 (hi := 3)
      have hbx := below_a1 wr (.cells #[.slice none 0 0, .slice none 0 0] 48)
      have hbf := Block.new wr 48 #[.slice none 0 0, .slice none 0 0]
      have hgz := hG.size
      have hint := refInt_any (wr.alloc (.cells #[.slice none 0 0, .slice none 0 0] 48)) gr A n c l p2 e2 (hR.below hbx hR.lt) 0 3
      rw [show (3 : Int) = ((3 : Nat) : Int) from rfl, hlk3] at hint
      have HI := Lib.hid hint
      have HS3 := Lib.hid (sevA_is (rd := rdPath) hlk3)
      have HO := Lib.hid hO
      have HG := Lib.hid hG
      clear hint hlk3 hO hR hG
      go_wp2_with fail
      have hsz : (wr.alloc (.cells #[.slice none 0 0, .slice none 0 0] 48)).heap.size = wr.heap.size + 1 := by simp
      generalize wr.alloc (.cells #[.slice none 0 0, .slice none 0 0] 48) = W at hbx hbf HI hsz ⊢
      refine HI.out.mono ?_
      rintro y w3 ⟨rfl, hR3, hG3⟩
      have hblk3 := hbf.grown hG3 (fun e => by injection e with e; omega)
      have hG4 : wr.grownBy w3 (some gr) := grownBy_trans (grown_none hbx (some gr)) hG3 (fun k h => .inl h)
      clear HI hbf hbx hG3 hsz
      go_wp2_with fail
      obtain ⟨wb, rfl⟩ : ∃ wb, wb = wr := ⟨_, rfl⟩
      have hglb : gr < wb.heap.size := by omega
      go_loopw [8] (fun i wi => ∃ (j : Nat) (vp : Value), j ≤ a3 ∧ i = .int .i64 j ∧ OwnR (elRow elText 1) 50 1 wi (wb.heap.size + 1) (fun b => wb.heap.size + 1 ≤ b) vp (sevN rdPath l (p2 + k3) e3 j).1 ∧ Rd 28 wi gr A n c l (sevN rdPath l (p2 + k3) e3 j).2.1 (sevN rdPath l (p2 + k3) e3 j).2.2 ∧ Block wi wb.heap.size 48 #[vp, .slice none 0 0] ∧ wb.grownBy wi (some gr)) (fun i _ => a3 - (intOf i).toNat)
      case atStart => exact ⟨0, .slice none 0 0, Nat.zero_le _, rfl, OwnR.nil_ _ _ _, hR3, hblk3, hG4⟩
      case round =>
        clear hR3 hblk3 hG4
        obtain ⟨j, vp, hj, rfl, hP, hR, hblk, hG⟩ := hrel
        have hzj := sevN_len (rd := rdPath) (l := l) (p := p2 + k3) (e := e3) j
        obtain ⟨Yj, hYj⟩ : ∃ Y, Hid (sevN rdPath l (p2 + k3) e3 j = Y) := ⟨_, Lib.hid rfl⟩
        rw [hYj.out] at hP hR hzj
        obtain ⟨X, p3, e5⟩ := Yj
        simp only at hP hR hzj
        by_cases hlj : j < a3
        · have htx := refText_any wr gr A n c l p3 e5 hR 38
          have htl := tx38_len l p3 e5
          obtain ⟨t, ht⟩ : ∃ t, Hid (tx l p3 e5 38 = t) := ⟨_, Lib.hid rfl⟩
          rw [ht.out] at htx htl
          obtain ⟨s, p4, e4⟩ := t
          have HTX := Lib.hid htx
          have hs38 : s.length ≤ 38 := htl
          have HP0 := Lib.hid hP
          have HBK := Lib.hid hblk
          have HGG := Lib.hid hG
          have hgz2 := hG.size
          clear htx hR htl hP hblk hG
          rcases hp : pathP s with _ | q
          · have HT := Lib.hid (sevN_step hYj.out (rdPath_no ht.out hp))
            have HPP := Lib.hid hp
            clear hp
            go_wp2_with fail
            refine HTX.out.mono ?_
            rintro y w5 ⟨rfl, hR5, hG5⟩
            have HC := Lib.hid (refPath_any s w5 (by omega))
            rw [HPP.out] at HC
            clear HTX
            go_wp2_with fail
            refine HC.out.mono ?_
            rintro y w6 hy
            obtain ⟨rfl, hb6⟩ := hy.no
            have hR6 := hR5.below hb6 hR5.lt
            have hG6 := grownBy_trans (grownBy_trans HGG.out hG5 (fun k h => .inl h)) (grown_none hb6 none) (fun k h => by cases h)
            have hP6 := (HP0.out.grown elPath_ok hG5 (fun e => by have := (HP0.out.lt _ e).1; omega) (by omega)).below elPath_ok hb6
            have hblk6 := (HBK.out.grown hG5 (fun e => by injection e with e; omega)).below hb6 (Nat.lt_of_lt_of_le HBK.out.lt hG5.size)
            have HB := Lib.hid (refBad_any w6 gr A n c l p4 e4 hR6)
            clear HC hy hb6 hR5 hG5 hR6 HP0 HBK HGG
            go_wp2_with fail
            refine HB.out.mono ?_
            rintro y w7 ⟨rfl, hR7, hGb⟩
            have hG7 := grownBy_trans hG6 hGb (fun k h => .inl h)
            have hP7 := hP6.grown elPath_ok hGb (fun e => by have := (hP6.lt _ e).1; omega) (by omega)
            have hblk7 := hblk6.grown hGb (fun e => by injection e with e; omega)
            clear HB hG6 hP6 hblk6 hGb
            have k0 : w7.cell? ⟨wb.heap.size, 0, none⟩ = some vp := (hblk7).cell 0
            have hP1 := (hP7).alloc elPath_ok (.cells #[.slice none 0 0] 50)
            have hblk1 := (hblk7).alloc (.cells #[.slice none 0 0] 50)
            have hR1 := (hR7).below (below_a1 w7 (.cells #[.slice none 0 0] 50)) (hR7).lt
            have hG1 := grownBy_trans (hG7) (World.grownBy_alloc w7 (.cells #[.slice none 0 0] 50) none) (fun k h => by cases h)
            have hlb : Hid (X.length ≤ 1000000) := Lib.hid (by omega)
            have hlo := fun g e => hP1.lt g e
            have hel : elRow elText 1 (w7.alloc (.cells #[.slice none 0 0] 50)) (fun b => wb.heap.size + 1 ≤ b ∧ vp.ownBlock ≠ some b) [.slice none 0 0] ([] : List Txt) := ⟨none, 0, 0, rfl, Row.none_ _ _⟩
            have hbs : wb.heap.size + 1 ≤ (w7.alloc (.cells #[.slice none 0 0] 50)).heap.size := by rw [World.size_alloc]; have := (hblk7).lt; omega
            have k1 : (w7.alloc (.cells #[.slice none 0 0] 50)).cell? ⟨wb.heap.size, 0, none⟩ = some vp := hblk1.cell 0
            go_wp2_with (at_builtin; refine wpList_appX elPath_ok rfl _ _ rfl info_rowT Tryz.underlying45 rfl (by decide) (wb.heap.size + 1) _ vp _ rfl hP1 _ rfl [.slice none 0 0] rfl ([] : List Txt) (cell_litX w7 _ _) (one_sl9 _ _ _) hel hlb.out hbs ?_)
            intro v' w8 hP8 hG8
            obtain ⟨Av, nv, cv, rfl⟩ : ∃ A n c, v' = .slice A n c := by
              obtain ⟨A, c, e⟩ := hP8.shape
              exact ⟨A, _, c, e⟩
            have hb8 := hG8.below_ hbs (fun g e => (hlo g e).1)
            have hbn := hblk1.below hb8 (Nat.lt_succ_self _)
            have d0 : w8.cell? ⟨wb.heap.size, 0, none⟩ = some vp := hbn.cell 0
            have d1 := hbn.free 0
            have hR8 := hR1.below hb8 (by omega)
            have hG9 := grownBy_trans hG1 hG8.1 (fun k h => .inr (by have := (hlo k h).1; omega))
            have hF := Lib.hid (show OwnR (elRow elText 1) 50 1 (w8.setCell ⟨wb.heap.size, 0, none⟩ (.slice Av nv cv)) (wb.heap.size + 1) (fun b => wb.heap.size + 1 ≤ b) (.slice Av nv cv) (X ++ [([] : List Txt)]) ∧ Rd 28 (w8.setCell ⟨wb.heap.size, 0, none⟩ (.slice Av nv cv)) gr A n c l p4 (if e4 = 0 then 2 else e4) ∧ Block (w8.setCell ⟨wb.heap.size, 0, none⟩ (.slice Av nv cv)) wb.heap.size 48 #[.slice Av nv cv, .slice none 0 0] ∧ wb.grownBy (w8.setCell ⟨wb.heap.size, 0, none⟩ (.slice Av nv cv)) (some gr) from
              ⟨hP8.set_ elPath_ok (fun e => by have := (hP8.lt _ e).1; omega) (by omega), hR8.below ((Below.refl wb.heap.size w8).setCell (p := ⟨wb.heap.size, 0, none⟩) (Nat.le_refl _) _) hglb, hbn.set_ 0 _, grownBy_trans hG9 (grown_set w8 wb.heap.size 0 (.slice Av nv cv)) (fun k h => .inr (by injection h with h; omega))⟩)
            clear hP1 hblk1 hR1 hG1 hel hP8 hG8 hb8 hbn hR8 hG9 hlo k1 k0
            go_wp2_with fail
            go_roundw
            case rel => exact ⟨j + 1, .slice Av nv cv, by omega, by go_num, by rw [HT.out]; exact hF.out.1, by rw [HT.out]; exact hF.out.2.1, hF.out.2.2⟩
            case measure => simp [intOf]; omega
          · have HT := Lib.hid (sevN_step hYj.out (rdPath_yes ht.out hp))
            have HPP := Lib.hid hp
            clear hp
            go_wp2_with fail
            refine HTX.out.mono ?_
            rintro y w5 ⟨rfl, hR5, hG5⟩
            have HC := Lib.hid (refPath_any s w5 (by omega))
            rw [HPP.out] at HC
            clear HTX
            go_wp2_with fail
            refine HC.out.mono ?_
            rintro y w6 hy
            obtain ⟨B5, j5, d5, rfl, hv, hfr, hb6⟩ := hy.fresh
            have hrow := hv.rowN hfr
            have hR6 := hR5.below hb6 hR5.lt
            have hG6 := grownBy_trans (grownBy_trans HGG.out hG5 (fun k h => .inl h)) (grown_none hb6 none) (fun k h => by cases h)
            have hz5 := hG5.size
            have hlw := HBK.out.lt
            have hP5 := HP0.out.grown elPath_ok hG5 (fun e => by have := (HP0.out.lt _ e).1; omega) (by omega)
            have hlo5 := fun g e => hP5.lt g e
            have hP6 := hP5.below elPath_ok hb6
            have hblk6 := (HBK.out.grown hG5 (fun e => by injection e with e; omega)).below hb6 (Nat.lt_of_lt_of_le hlw hz5)
            clear HC hy hb6 hR5 hG5 HP0 HBK HGG hv hfr hP5
            have k0 : w6.cell? ⟨wb.heap.size, 0, none⟩ = some vp := (hblk6).cell 0
            have hP1 := (hP6).alloc elPath_ok (.cells #[.slice B5 j5 d5] 50)
            have hblk1 := (hblk6).alloc (.cells #[.slice B5 j5 d5] 50)
            have hR1 := (hR6).below (below_a1 w6 (.cells #[.slice B5 j5 d5] 50)) (hR6).lt
            have hG1 := grownBy_trans (hG6) (World.grownBy_alloc w6 (.cells #[.slice B5 j5 d5] 50) none) (fun k h => by cases h)
            have hlb : Hid (X.length ≤ 1000000) := Lib.hid (by omega)
            have hlo := fun g e => hP1.lt g e
            have hel : elRow elText 1 (w6.alloc (.cells #[.slice B5 j5 d5] 50)) (fun b => wb.heap.size + 1 ≤ b ∧ vp.ownBlock ≠ some b) [.slice B5 j5 d5] q := ⟨B5, j5, d5, rfl, (hrow.mv elText_ok (Mv.alloc w6 _ _)).mv elText_ok (Mv.to _ fun b hb _ => ⟨by omega, fun e => by have := (hlo5 b e).2; omega⟩)⟩
            have hbs : wb.heap.size + 1 ≤ (w6.alloc (.cells #[.slice B5 j5 d5] 50)).heap.size := by rw [World.size_alloc]; have := (hblk6).lt; omega
            have k1 : (w6.alloc (.cells #[.slice B5 j5 d5] 50)).cell? ⟨wb.heap.size, 0, none⟩ = some vp := hblk1.cell 0
            go_wp2_with (at_builtin; refine wpList_appX elPath_ok rfl _ _ rfl info_rowT Tryz.underlying45 rfl (by decide) (wb.heap.size + 1) _ vp _ rfl hP1 _ rfl [.slice B5 j5 d5] rfl q (cell_litX w6 _ _) (one_sl9 _ _ _) hel hlb.out hbs ?_)
            intro v' w8 hP8 hG8
            obtain ⟨Av, nv, cv, rfl⟩ : ∃ A n c, v' = .slice A n c := by
              obtain ⟨A, c, e⟩ := hP8.shape
              exact ⟨A, _, c, e⟩
            have hb8 := hG8.below_ hbs (fun g e => (hlo g e).1)
            have hbn := hblk1.below hb8 (Nat.lt_succ_self _)
            have d0 : w8.cell? ⟨wb.heap.size, 0, none⟩ = some vp := hbn.cell 0
            have d1 := hbn.free 0
            have hR8 := hR1.below hb8 (by omega)
            have hG9 := grownBy_trans hG1 hG8.1 (fun k h => .inr (by have := (hlo k h).1; omega))
            have hF := Lib.hid (show OwnR (elRow elText 1) 50 1 (w8.setCell ⟨wb.heap.size, 0, none⟩ (.slice Av nv cv)) (wb.heap.size + 1) (fun b => wb.heap.size + 1 ≤ b) (.slice Av nv cv) (X ++ [q]) ∧ Rd 28 (w8.setCell ⟨wb.heap.size, 0, none⟩ (.slice Av nv cv)) gr A n c l p4 e4 ∧ Block (w8.setCell ⟨wb.heap.size, 0, none⟩ (.slice Av nv cv)) wb.heap.size 48 #[.slice Av nv cv, .slice none 0 0] ∧ wb.grownBy (w8.setCell ⟨wb.heap.size, 0, none⟩ (.slice Av nv cv)) (some gr) from
              ⟨hP8.set_ elPath_ok (fun e => by have := (hP8.lt _ e).1; omega) (by omega), hR8.below ((Below.refl wb.heap.size w8).setCell (p := ⟨wb.heap.size, 0, none⟩) (Nat.le_refl _) _) hglb, hbn.set_ 0 _, grownBy_trans hG9 (grown_set w8 wb.heap.size 0 (.slice Av nv cv)) (fun k h => .inr (by injection h with h; omega))⟩)
            clear hP1 hblk1 hR1 hG1 hel hP8 hG8 hb8 hbn hR8 hG9 hlo k1 k0
            go_wp2_with fail
            go_roundw
            case rel => exact ⟨j + 1, .slice Av nv cv, by omega, by go_num, by rw [HT.out]; exact hF.out.1, by rw [HT.out]; exact hF.out.2.1, hF.out.2.2⟩
            case measure => simp [intOf]; omega
        · obtain rfl : j = a3 := by omega
          have HSX := Lib.hid (HS3.out.trans hYj.out)
          obtain ⟨Av, nv, cv, rfl, hrowP⟩ : ∃ A n c, vp = .slice A n c ∧ Row (elRow elText 1) 1 wr (fun b => wb.heap.size + 1 ≤ b) A n c X := by
            obtain ⟨A, c, e, h⟩ := hP.read elPath_ok
            exact ⟨A, _, c, e, h.mv elPath_ok (Mv.to wr fun b hb _ => by
              rcases hb with hb | hb
              · exact hb
              · exact hb.1)⟩
          obtain ⟨a2, k2, e6, hlk2, ham2⟩ := lkN_nat l p3 e5 (hi := 2)
          have hint := refInt_any wr gr A n c l p3 e5 hR 0 2
          rw [show (2 : Int) = ((2 : Nat) : Int) from rfl, hlk2] at hint
          have HI2 := Lib.hid hint
          have HS4 := Lib.hid (sevA_is (rd := rdVal) hlk2)
          have hgz2 := hG.size
          have hbl0 := hblk.lt
          clear hint hlk2 hR hP
          go_wp2_with fail
          refine HI2.out.mono ?_
          rintro y w5 ⟨rfl, hR5, hG5⟩
          have hblk5 := hblk.grown hG5 (fun e => by injection e with e; omega)
          have hG6 := grownBy_trans hG hG5 (fun k h => .inl h)
          have hz5 := hG5.size
          have hrow5 : Row (elRow elText 1) 1 w5 (fun b => wb.heap.size + 1 ≤ b ∧ b < w5.heap.size) Av nv cv X := hrowP.mv elPath_ok (fun b hb hl => ⟨hG5.block b hl (fun e => by injection e with e; omega), hb, Nat.lt_of_lt_of_le hl hz5⟩)
          have hg5 : gr < w5.heap.size := by omega
          have hf5 : wb.heap.size < w5.heap.size := by omega
          clear HI2 hblk hG hG5 hrowP
          go_wp2_with fail
          go_loopw [13] (fun i wi => ∃ (t : Nat) (v2 : Value), t ≤ a2 ∧ i = .int .i64 t ∧ OwnI wi w5.heap.size v2 (sevN rdVal l (p3 + k2) e6 t).1 ∧ Rd 28 wi gr A n c l (sevN rdVal l (p3 + k2) e6 t).2.1 (sevN rdVal l (p3 + k2) e6 t).2.2 ∧ Block wi wb.heap.size 48 #[.slice Av nv cv, v2] ∧ Row (elRow elText 1) 1 wi (fun b => wb.heap.size + 1 ≤ b ∧ b < w5.heap.size) Av nv cv X ∧ wb.grownBy wi (some gr) ∧ w5.heap.size ≤ wi.heap.size) (fun i _ => a2 - (intOf i).toNat)
          case atStart => exact ⟨0, .slice none 0 0, Nat.zero_le _, rfl, OwnI.nil_ _ _, hR5, hblk5, hrow5, hG6, Nat.le_refl _⟩
          case round =>
            clear hR5 hblk5 hrow5
            obtain ⟨t, v2, ht, rfl, hO2, hR, hblk, hrow, hG, hgz3⟩ := hrel
            have hzt := sevN_len (rd := rdVal) (l := l) (p := p3 + k2) (e := e6) t
            obtain ⟨Yt, hYt⟩ : ∃ Y, Hid (sevN rdVal l (p3 + k2) e6 t = Y) := ⟨_, Lib.hid rfl⟩
            rw [hYt.out] at hO2 hR hzt
            obtain ⟨Q, p6, e7⟩ := Yt
            simp only at hO2 hR hzt
            obtain ⟨A2, n2, c2, rfl, _, _⟩ := hO2.formN
            by_cases hltt : t < a2
            · obtain ⟨u, hu⟩ : ∃ u, Hid (lk l p6 e7 (-2305843009213693952) 2305843009213693952 = u) := ⟨_, Lib.hid rfl⟩
              have hint := refInt_any wr.drew gr A n c l p6 e7 (hR.drewN 1) (-2305843009213693952) 2305843009213693952
              rw [hu.out] at hint
              obtain ⟨x, k5, e8⟩ := u
              have HI3 := Lib.hid hint
              have HT := Lib.hid (sevN_step hYt.out (rdVal_is hu.out))
              have HO2 := Lib.hid hO2
              have HBK := Lib.hid hblk
              have HRow := Lib.hid hrow
              have HGG := Lib.hid hG
              have hlb : Hid (Q.length ≤ 1000000) := Lib.hid (by omega)
              have p0 : wr.cell? ⟨wb.heap.size, 1, none⟩ = some (.slice A2 n2 c2) := hblk.cell 1
              have hglr := hR.lt
              clear hint hR hzt hO2 hblk hrow hG
              go_wp2_with fail
              go_region_law (first
                | (refine step_appI rfl _ _ rfl w5.heap.size (.slice A2 n2 c2) Q rfl HO7.out _ rfl x HC7.out hlb.out HS7.out ?_; intro v' w8 hO8 hG8; obtain ⟨A9, N9, c9, e9, _⟩ := hO8.formN; subst e9; have hbl8 := hG8.below_ HS7.out (fun g e => (HO7.out.lt g e).1); have hb8 := HB7.out.below hbl8 hf5; have p8 : w8.cell? ⟨wb.heap.size, 1, none⟩ = some (.slice A2 n2 c2) := hb8.cell 1; have f8 := hb8.free 1)
                | (go_simp; go_at_call 25; refine HI3.out.mono ?_; rintro y w6 ⟨rfl, hR6, hG6'⟩; have hO6 := (HO2.out.drewN 1).grownR hG6' hg5; have p6' : w6.cell? ⟨wb.heap.size, 1, none⟩ = some (.slice A2 n2 c2) := (HBK.out.drewN 1 |>.grown hG6' (fun e => by injection e with e; omega)).cell 1; have HO7 := Lib.hid (hO6.alloc (.cells #[.int .i64 x] 3)); have HC7 := Lib.hid (cell_lit w6 x 3 w6.heap.size rfl); have HS7 : Hid (w5.heap.size ≤ (w6.alloc (.cells #[.int .i64 x] 3)).heap.size) := Lib.hid (by rw [World.size_alloc]; have h1 := hG6'.size; have h2 : wr.drew.heap.size = wr.heap.size := rfl; omega); have HB7 := Lib.hid ((HBK.out.drewN 1 |>.grown hG6' (fun e => by injection e with e; omega)).alloc (.cells #[.int .i64 x] 3)); have pa : (w6.alloc (.cells #[.int .i64 x] 3)).cell? ⟨wb.heap.size, 1, none⟩ = some (.slice A2 n2 c2) := HB7.out.cell 1; have HR7 := Lib.hid (hR6.below (below_a1 w6 (.cells #[.int .i64 x] 3)) hR6.lt); have HG7 := Lib.hid (grownBy_trans (grownBy_trans (show wb.grownBy wr.drew (some gr) from grown_drewN HGG.out 1) hG6' (fun k h => .inl h)) (World.grownBy_alloc w6 (.cells #[.int .i64 x] 3) none) (fun k h => by cases h)); have HRow7 := Lib.hid ((HRow.out.mv elPath_ok (Mv.drewN wr 1 _)).mv elPath_ok (Mv.grown hG6' (fun b hb e => by injection e with e; have := hb.1; omega)) |>.mv elPath_ok (Mv.alloc w6 (.cells #[.int .i64 x] 3) _)); clear hO6 hR6 hG6'))
              all_goals
                have hF := Lib.hid (show OwnI (w8.setCell ⟨wb.heap.size, 1, none⟩ (.slice A9 N9 c9)) w5.heap.size (.slice A9 N9 c9) (Q ++ [x]) ∧ Rd 28 (w8.setCell ⟨wb.heap.size, 1, none⟩ (.slice A9 N9 c9)) gr A n c l (p6 + k5) e8 ∧ Block (w8.setCell ⟨wb.heap.size, 1, none⟩ (.slice A9 N9 c9)) wb.heap.size 48 #[.slice Av nv cv, .slice A9 N9 c9] ∧ Row (elRow elText 1) 1 (w8.setCell ⟨wb.heap.size, 1, none⟩ (.slice A9 N9 c9)) (fun b => wb.heap.size + 1 ≤ b ∧ b < w5.heap.size) Av nv cv X ∧ wb.grownBy (w8.setCell ⟨wb.heap.size, 1, none⟩ (.slice A9 N9 c9)) (some gr) ∧ w5.heap.size ≤ (w8.setCell ⟨wb.heap.size, 1, none⟩ (.slice A9 N9 c9)).heap.size from
                  ⟨hO8.other (g := wb.heap.size) (fun e => by have := (hO8.lt _ e).1; omega) _, (HR7.out.below hbl8 hg5).below ((Below.refl wb.heap.size w8).setCell (p := ⟨wb.heap.size, 1, none⟩) (Nat.le_refl _) _) hglb, hb8.set_ 1 _, (HRow7.out.mv elPath_ok (Mv.below hbl8 (fun b hb => hb.2))).mv elPath_ok (Mv.set w8 wb.heap.size 1 _ (by omega)), grownBy_trans (grownBy_trans HG7.out hG8.1 (fun k h => .inr (by have := (HO7.out.lt k h).1; omega))) (grown_set w8 wb.heap.size 1 _) (fun k h => .inr (by injection h with h; omega)), Nat.le_trans HS7.out (Nat.le_trans hbl8.size (by simp [World.setCell]))⟩)
                clear hO8 hG8 hbl8 hb8 p8 f8 HO7 HC7 HS7 HB7 HR7 HG7 HRow7 p0 p6' pa HI3 HO2 HBK HRow HGG
                go_wp2_with fail
                go_roundw
                case rel => exact ⟨t + 1, .slice A9 N9 c9, by omega, by go_num, by rw [HT.out]; exact hF.out.1, by rw [HT.out]; exact hF.out.2.1, hF.out.2.2⟩
                case measure => simp [intOf]; omega
            · obtain rfl : t = a2 := by omega
              have HQ := Lib.hid (HS4.out.trans hYt.out)
              have HT := Lib.hid (sevN_step hY.out (rdFct_is HSX.out HQ.out))
              have hrowQ : Row elInt 1 wr (fun b => w5.heap.size ≤ b ∧ (Value.slice A2 n2 c2).ownBlock = some b) A2 n2 c2 Q := by
                obtain ⟨A9, c9, e9, h⟩ := hO2.row
                injection e9 with e9a e9b e9c
                subst e9a e9c
                rw [e9b] at h ⊢
                exact h
              clear hzt
              have f0 : wr.cell? ⟨wb.heap.size, 0, none⟩ = some (.slice Av nv cv) := hblk.cell 0
              have f1 : wr.cell? ⟨wb.heap.size, 1, none⟩ = some (.slice A2 n2 c2) := hblk.cell 1
              have hGw := hG
              have hlo0 := fun g e => HO.out.lt g e
              have hO8 := HO.out.grown elFct_ok hGw (fun e => by have := (hlo0 _ e).1; omega) (by omega)
              have hO9 := hO8.alloc elFct_ok (.cells #[.slice Av nv cv, .slice A2 n2 c2] 48)
              have hel : elFct (wr.alloc (.cells #[.slice Av nv cv, .slice A2 n2 c2] 48)) (fun b => w.heap.size ≤ b ∧ u3.ownBlock ≠ some b) [.slice Av nv cv, .slice A2 n2 c2] (X, Q) :=
                elFct_ok _ _ _ _ _ _ (Mv.alloc wr _ _) ⟨⟨Av, nv, cv, rfl, hrow.mv elPath_ok (Mv.to wr fun b hb _ => ⟨by omega, fun e => by have := (hlo0 b e).2; omega⟩)⟩, ⟨A2, _, c2, rfl, hrowQ.mv elInt_ok (Mv.to wr fun b hb _ => ⟨by omega, fun e => by have := (hlo0 b e).2; omega⟩)⟩⟩
              have hbs : w.heap.size ≤ (wr.alloc (.cells #[.slice Av nv cv, .slice A2 n2 c2] 48)).heap.size := by rw [World.size_alloc]; omega
              have hlb : Hid (LF.length ≤ 1000000) := Lib.hid (by omega)
              have hR9 := hR.below (below_a1 wr (.cells #[.slice Av nv cv, .slice A2 n2 c2] 48)) hR.lt
              have hG9 := grownBy_trans (grownBy_trans HG.out hGw (fun k h => .inl h)) (World.grownBy_alloc wr (.cells #[.slice Av nv cv, .slice A2 n2 c2] 48) none) (fun k h => by cases h)
              clear hrow hrowQ hO2 hO8 hGw hG hR hblk
              go_wp2_with (at_builtin; refine wpList_appX elFct_ok rfl _ _ rfl info_fact Tryz.underlying29 rfl (by decide) w.heap.size _ u3 _ rfl hO9 _ rfl [.slice Av nv cv, .slice A2 n2 c2] rfl (X, Q) (cell_two_d wr _ _ _ _ rfl) (two_is _ _ _ _ _ _) hel hlb.out hbs ?_)
              intro v' w8 hO2 hG2
              have hF := Lib.hid (show OwnR elFct 48 2 w8 w.heap.size (fun b => w.heap.size ≤ b) v' (LF ++ [(X, Q)]) ∧ Rd 28 w8 gr A n c l p6 e7 ∧ w.grownBy w8 (some gr) from
                ⟨hO2, hR9.below (hG2.below_ hbs (fun g e => (hlo0 g e).1)) hgl, grownBy_trans hG9 hG2.1 (fun k h => .inr (hlo0 k h).1)⟩)
              clear hO2 hG2 hO9 hel hR9 hG9 hlo0 f0 f1
              go_wp2_with fail
              go_roundw
              case rel => exact ⟨k + 1, by omega, by go_num, by rw [HT.out]; exact hF.out.1, by rw [HT.out]; exact hF.out.2.1, hF.out.2.2⟩
              case measure => simp [intOf]; omega
    · obtain rfl : k = a := by omega
      have e0 := hY.out.symm.trans HS.out.symm
      injection e0 with e0 e1'
      injection e1' with e1' e2'
      subst e0 e1' e2'
      have c2 := hR.c2
      by_cases he : e2 = 0
      · subst he
        have c2' : wr.cell? ⟨gr, 2, none⟩ = some (.int .i64 0) := c2
        have hF := Lib.hid (And.intro hO (And.intro hR hG))
        clear hO hR hG c2
        go_wp2_with fail
        go_ret
        exact ⟨_, rfl, hF.out⟩
      · have ht : ((e2 : Int) != 0) = true := by simpa using he
        have HE := Lib.hid he
        have hF2 := Lib.hid (show OwnR elFct 48 2 wr w.heap.size (fun k => w.heap.size ≤ k) (.slice none 0 0) ([] : List Fct) from OwnR.nil_ _ _ _)
        have hF := Lib.hid (And.intro hR hG)
        clear hO hR hG he
        go_wp2_with fail
        go_ret
        exact ⟨_, rfl, by first | exact hF2.out | (rw [if_neg HE.out]; exact hF2.out), hF.out⟩
end Go.Proofs.YtfddaegepmdohaaGreatDoor
namespace Go.Proofs.YtfddaegepmdohaaGreatDoor
set_option maxRecDepth 100000
open Go.RowKit

theorem putB_no {b : List UInt8} {L : List Fct} {e : Nat} (h : putE L = e) (he : e ≠ 0) : putB b L = [] := by unfold putB; rw [h, if_neg he]
theorem putB_yes {b : List UInt8} {L : List Fct} (h : putE L = 0) : putB b L = b ++ encB L := by unfold putB; rw [if_pos h]
theorem putE_of {L : List Fct} (h : putE L = 0) : L.length ≤ 8 ∧ ∀ f ∈ L, plainF f := (missP_is.1 h).2
theorem encFs_len {L : List Fct} (h : ∀ f ∈ L, plainF f) (k : Nat) : ((L.take k).flatMap encF).length ≤ 200 * (L.take k).length := flat_len fun f hf => encF_len (h f (List.mem_of_mem_take hf))
set_option maxRecDepth 100000 in
set_option maxHeartbeats 2000000 in
/-- Put. -/
theorem putBatch_any {S : Nat → Prop} {A B : Option Addr} {n c m d : Nat} {L : List Fct} {l : List UInt8} {w : World} (h : HasF w S A n c L) (hb : HasB w w.heap.size B m d l) (hm : m ≤ 100000) :
    Calls Tryz.prog 15 #[.slice B m d, .slice A n c] w fun e w' => ∃ v, e = .returned (.tuple #[v, .int .i64 (putE L : Nat)]) ∧ OwnB w' w.heap.size 5 v (putB l L) ∧ Below w.heap.size w w' := by
  have hlm := h.lenMax
  have HL := Lib.hid h.len
  have HA := Lib.hid (amiss_any h 0 35 #[] plainF (fun _ _ => rfl) (fun p q hpq W' S' A1 n1 c1 A2 n2 c2 hW hp hq => plainB_any hp hq))
  obtain ⟨x, hx⟩ : ∃ x, Hid (putE L = x) := ⟨_, Lib.hid rfl⟩
  have HA : Hid (Calls Tryz.prog 34 #[.slice A n c, .int .i64 0, .func (.func 35) #[] #[]] w fun e w' => e = .returned (.int .i64 (putE L : Nat)) ∧ Below w.heap.size w w') := HA
  rw [hx.out] at HA
  rw [hx.out]
  by_cases h0 : x = 0
  · subst h0
    have HPB := Lib.hid (putB_yes (b := l) hx.out)
    have HPL := Lib.hid (putE_of hx.out)
    have hn8 : n ≤ 8 := by have := HPL.out.1; have := HL.out; omega
    have HLB := Lib.hid hb.len
    have HS : ∀ b, (S b ∧ b < w.heap.size) → b < w.heap.size := fun b hb => hb.2
    go_enter Tryz.func15, Tryz.ntmps15
    go_wp2_with fail
    refine HA.out.mono ?_
    rintro e w1 ⟨rfl, hb1⟩
    have h1 : HasF w1 (fun b => S b ∧ b < w.heap.size) A n c L := h.mv elFct_ok (fun b hb hl => ⟨hb1.block b hl, hb, hl⟩)
    have HC := Lib.hid (clone_any B m d l w1 (hb.belowS hb1) (by omega))
    clear HA h hb
    go_wp2_with fail
    refine HC.out.mono ?_
    rintro e w2 ⟨⟨v2, rfl, hO2⟩, hb2⟩
    have hz1 := hb1.size
    have hB2 := hb1.trans (hb2.mono hz1)
    have hO2' := hO2.low hz1
    have hz2 := hB2.size
    have HPI := Lib.hid (putInt_own v2 l (n : Int) (by omega) (by omega) w2 w.heap.size hO2' hz2 (by have := HLB.out; omega))
    clear HC hO2 hb2
    go_wp2_with fail
    refine HPI.out.mono ?_
    rintro e w3 ⟨v3, rfl, hO3, hG3⟩
    have hB3 := hB2.trans (hG3.below_ hz2 (fun k e => (hO2'.lt k e).1))
    have hO3' : OwnB w3 w.heap.size 5 v3 (l ++ encI n) := hO3
    have hF3 : HasF w3 (fun b => S b ∧ b < w.heap.size) A n c L := h1.mv elFct_ok (fun b hb hl => ⟨by rw [hB3.block b hb.2, hb1.block b hb.2], hb⟩)
    have HE1 := Lib.hid (encI_len (x := (n : Int)) (by omega) (by omega))
    clear HPI hG3 hO2' hB2 hO3 h1
    go_wp2_with fail
    go_loopw [7, 22] (fun v i wr => ∃ k : Nat, k ≤ n ∧ i = .int .i64 k ∧ OwnB wr w.heap.size 5 v (l ++ encI n ++ (L.take k).flatMap encF) ∧ Below w.heap.size w wr ∧ HasF wr (fun b => S b ∧ b < w.heap.size) A n c L) (fun _ i _ => n - (intOf i).toNat)
    case atStart => exact ⟨0, Nat.zero_le _, rfl, by simpa using hO3', hB3, hF3⟩
    case round =>
      clear hO3' hB3 hF3
      obtain ⟨k, hk, rfl, hO, hB, hF⟩ := hrel
      have hwb : w.heap.size ≤ wr.heap.size := hB.size
      by_cases hlt : k < n
      · obtain ⟨b, o, A1, n1, c1, A2, n2, c2, p, q, rfl, _, _, g0, g1, hp, hq, he⟩ := hF.at2 hlt
        have i0 : (0 : Int) ≤ (k : Int) := by omega
        have i1 : (k : Int) < (n : Int) := by omega
        have hpl := HPL.out.2 (p, q) (List.mem_of_getElem? he.out)
        have hbx := below_a1 wr (.cells #[.slice A1 n1 c1, .slice A2 n2 c2] 48)
        have hbf := Block.new wr 48 #[.slice A1 n1 c1, .slice A2 n2 c2]
        have hB1 := hB.trans (hbx.mono hwb)
        have hp1 := hp.mv elPath_ok (Mv.belowS hbx _)
        have hq1 := hq.mv elInt_ok (Mv.belowS hbx _)
        have hF1 := hF.mv elFct_ok (Mv.belowS hbx _)
        have hO1 := hO.below hbx (Nat.le_refl _)
        have hz := hB1.size
        have hlen : (l ++ encI n ++ (L.take k).flatMap encF).length ≤ 1000000 := by
          have h1 := encFs_len HPL.out.2 k
          have h2 := HE1.out
          have h3 := HLB.out
          have h4 : (L.take k).length ≤ 8 := Nat.le_trans (List.length_take_le k _) (by omega)
          simp only [List.length_append]
          omega
        have HPF := Lib.hid (putFact_any hp1 hq1 (base := w.heap.size) (fun b hb => hb.2) hO1 hz hlen hpl)
        clear hpl hp hq hp1 hq1 hO hB hF hbx hlen
        go_wp2_with fail
        generalize wr.alloc (.cells #[.slice A1 n1 c1, .slice A2 n2 c2] 48) = W1 at hB1 hbf hF1 HPF hO1 hz ⊢
        have k0 : W1.cell? ⟨wr.heap.size, 0, none⟩ = some (.slice A1 n1 c1) := hbf.cell 0
        have k1 : W1.cell? ⟨wr.heap.size, 1, none⟩ = some (.slice A2 n2 c2) := hbf.cell 1
        clear g0 g1
        go_wp2_with fail
        refine HPF.out.mono ?_
        rintro e w5 ⟨v5, rfl, hO5, hb5⟩
        have hF := Lib.hid (show OwnB w5 w.heap.size 5 v5 (l ++ encI n ++ (L.take (k + 1)).flatMap encF) ∧ Below w.heap.size w w5 ∧ HasF w5 (fun b => S b ∧ b < w.heap.size) (some ⟨b, o, none⟩) n c L from
          ⟨by rw [flat_snoc he.out, ← List.append_assoc]; exact hO5, hB1.trans hb5, hF1.mv elFct_ok (Mv.below hb5 HS)⟩)
        clear HPF hO5 hb5 hO1 hB1 hF1 k0 k1 hbf
        go_wp2_with fail
        go_roundw
        case rel => exact ⟨k + 1, by omega, by go_num, hF.out⟩
        case measure => simp [intOf]; omega
      · have hF := Lib.hid (show OwnB wr w.heap.size 5 u7 (putB l L) ∧ Below w.heap.size w wr from ⟨by
          rw [List.take_of_length_le (by have := HL.out; omega)] at hO
          rw [HPB.out]
          unfold encB
          rw [HL.out, ← List.append_assoc]
          exact hO, hB⟩)
        clear hO hB
        go_wp2_with fail
        go_ret2
        exact ⟨_, rfl, hF.out.1, hF.out.2⟩
  · have HPB := Lib.hid (putB_no (b := l) hx.out h0)
    have hx1 : ((x : Int) != 0) = true := by simp; omega
    clear h hb
    go_enter Tryz.func15, Tryz.ntmps15
    go_wp2_with fail
    refine HA.out.mono ?_
    rintro e w1 ⟨rfl, hb1⟩
    clear HA
    go_wp2_with fail
    go_ret2
    exact ⟨_, rfl, by rw [HPB.out]; exact OwnB.nil_ _ _ _, hb1⟩
end Go.Proofs.YtfddaegepmdohaaGreatDoor
namespace Go.Proofs.YtfddaegepmdohaaGreatDoor
set_option maxRecDepth 100000
open Go.RowKit

def ExF : List Fct := [([[[97], [120]]], [3])]
def ExD : List PDim := [([100], [[108], [109]])]
theorem ex_may : mayBt ExD [[109]] [] ExF = 0 := by decide +kernel
theorem ex_none : mayBt ExD [[109]] [] [] = 13 := by decide +kernel
theorem ex_putE : putE ExF = 0 := by decide +kernel
theorem encI_small {x : Int} (h : zig x < 128) : encI x = [UInt8.ofNat (zig x)] := enc_small h
theorem ex_putB : putB [] ExF = [2, 2, 6, 97, 47, 120, 2, 6] := by
  have e1 : encI 1 = [2] := encI_small (by decide)
  have e3 : encI 3 = [6] := encI_small (by decide)
  have e4 : encT [97, 47, 120] = [6, 97, 47, 120] := by
    have : enc (zig 3) = [6] := e3
    show enc (zig 3) ++ _ = _
    rw [this]; rfl
  have e5 : textP [[97], [120]] = [97, 47, 120] := by decide +kernel
  rw [putB_yes ex_putE]
  show [] ++ (encI 1 ++ ((encI 1 ++ ((encT (textP [[97], [120]]) ++ []) ++ (encI 1 ++ (encI 3 ++ [])))) ++ [])) = _
  rw [e5, e1, e3, e4]
  rfl
theorem ex_fit : FitD ExD := by
  intro d hd
  rw [List.mem_singleton.1 hd]
  exact ⟨by decide, fun s hs => by
    rcases List.mem_cons.1 hs with rfl | hs
    · decide
    · rw [List.mem_singleton.1 hs]; decide⟩
/-- The example's facts in memory. -/
def ExW (w : World) : World := (((w.alloc (.cells #[.string ⟨#[97]⟩, .string ⟨#[120]⟩] 9)).alloc (.cells #[.slice (some ⟨w.heap.size, 0, none⟩) 2 2] 50)).alloc (.cells #[.int .i64 3] 3)).alloc (.cells #[.slice (some ⟨w.heap.size + 1, 0, none⟩) 1 1, .slice (some ⟨w.heap.size + 1 + 1, 0, none⟩) 1 1] 48)
theorem ExW_has (w : World) : HasF (ExW w) (fun b => b < (ExW w).heap.size) (some ⟨w.heap.size + 1 + 1 + 1, 0, none⟩) 1 1 ExF := by
  have a0 := (HasT.litAt w [[97], [120]] #[.string ⟨#[97]⟩, .string ⟨#[120]⟩] rfl 9 2 rfl (by decide) w.heap.size rfl).row
  have a1 := Row.lit (E := elRow elText 1) (sz := 1) (elRow_ok elText_ok) (w.alloc (.cells #[.string ⟨#[97]⟩, .string ⟨#[120]⟩] 9)) #[.slice (some ⟨w.heap.size, 0, none⟩) 2 2] 50 1 [[[97], [120]]] rfl rfl (by decide) (w.heap.size + 1) (by simp) (fun i x hi => by
    match i, hi with
    | 0, hi => simp at hi; subst hi; exact ⟨_, _, _, rfl, a0⟩
    | i + 1, hi => simp at hi)
  have a1' := a1.up (elRow_ok elText_ok) (.cells #[.int .i64 3] 3)
  have a2 := Row.lit (E := elInt) (sz := 1) elInt_ok ((w.alloc (.cells #[.string ⟨#[97]⟩, .string ⟨#[120]⟩] 9)).alloc (.cells #[.slice (some ⟨w.heap.size, 0, none⟩) 2 2] 50)) #[.int .i64 3] 3 1 [3] rfl rfl (by decide) (w.heap.size + 1 + 1) (by simp) (fun i x hi => by
    match i, hi with
    | 0, hi => simp at hi; subst hi; rfl
    | i + 1, hi => simp at hi)
  exact Row.lit (E := elFct) (sz := 2) elFct_ok _ #[.slice (some ⟨w.heap.size + 1, 0, none⟩) 1 1, .slice (some ⟨w.heap.size + 1 + 1, 0, none⟩) 1 1] 48 1 ExF rfl rfl (by decide) (w.heap.size + 1 + 1 + 1) (by simp) (fun i x hi => by
    match i, hi with
    | 0, hi => simp [ExF] at hi; subst hi; exact ⟨⟨_, _, _, rfl, a1'⟩, ⟨_, _, _, rfl, a2⟩⟩
    | i + 1, hi => simp [ExF] at hi)
theorem ExW_below (w : World) : Below w.heap.size w (ExW w) := below_then (below_then (below_then (below_a1 w _) (below_a1 _ _)) (below_a1 _ _)) (below_a1 _ _)
/-- .. its schema, in a block of its own. -/
def ExS (w : World) : World := (((w.alloc (.cells #[.string ⟨#[108]⟩, .string ⟨#[109]⟩] 9)).alloc (.cells #[.string ⟨#[100]⟩, .slice (some ⟨w.heap.size, 0, none⟩) 2 2] 63)).alloc (.cells #[.string ⟨#[109]⟩] 9)).alloc (.cells #[.slice (some ⟨w.heap.size + 1, 0, none⟩) 1 1, .slice (some ⟨w.heap.size + 1 + 1, 0, none⟩) 1 1, .slice none 0 0] 67)
theorem ExS_below (w : World) : Below w.heap.size w (ExS w) := below_then (below_then (below_then (below_a1 w _) (below_a1 _ _)) (below_a1 _ _)) (below_a1 _ _)
theorem ExS_block (w : World) : Block (ExS w) (w.heap.size + 1 + 1 + 1) 67 #[.slice (some ⟨w.heap.size + 1, 0, none⟩) 1 1, .slice (some ⟨w.heap.size + 1 + 1, 0, none⟩) 1 1, .slice none 0 0] := by
  have := Block.new (((w.alloc (.cells #[.string ⟨#[108]⟩, .string ⟨#[109]⟩] 9)).alloc (.cells #[.string ⟨#[100]⟩, .slice (some ⟨w.heap.size, 0, none⟩) 2 2] 63)).alloc (.cells #[.string ⟨#[109]⟩] 9)) 67 #[.slice (some ⟨w.heap.size + 1, 0, none⟩) 1 1, .slice (some ⟨w.heap.size + 1 + 1, 0, none⟩) 1 1, .slice none 0 0]
  rwa [show (((w.alloc (.cells #[.string ⟨#[108]⟩, .string ⟨#[109]⟩] 9)).alloc (.cells #[.string ⟨#[100]⟩, .slice (some ⟨w.heap.size, 0, none⟩) 2 2] 63)).alloc (.cells #[.string ⟨#[109]⟩] 9)).heap.size = w.heap.size + 1 + 1 + 1 by simp] at this
theorem ExS_has (w : World) : HasS (ExS w) (ExS w).heap.size (some ⟨w.heap.size + 1, 0, none⟩) 1 1 (some ⟨w.heap.size + 1 + 1, 0, none⟩) 1 1 none 0 0 ExD [[109]] [] := by
  have a0 := HasT.litAt w [[108], [109]] #[.string ⟨#[108]⟩, .string ⟨#[109]⟩] rfl 9 2 rfl (by decide) w.heap.size rfl
  have hb := Block.new (w.alloc (.cells #[.string ⟨#[108]⟩, .string ⟨#[109]⟩] 9)) 63 #[.string ⟨#[100]⟩, .slice (some ⟨w.heap.size, 0, none⟩) 2 2]
  rw [show (w.alloc (.cells #[.string ⟨#[108]⟩, .string ⟨#[109]⟩] 9)).heap.size = w.heap.size + 1 by simp] at hb
  have a1 := a0.allocS (.cells #[.string ⟨#[100]⟩, .slice (some ⟨w.heap.size, 0, none⟩) 2 2] 63)
  have hD : HasDs ((w.alloc (.cells #[.string ⟨#[108]⟩, .string ⟨#[109]⟩] 9)).alloc (.cells #[.string ⟨#[100]⟩, .slice (some ⟨w.heap.size, 0, none⟩) 2 2] 63)) ((w.alloc (.cells #[.string ⟨#[108]⟩, .string ⟨#[109]⟩] 9)).alloc (.cells #[.string ⟨#[100]⟩, .slice (some ⟨w.heap.size, 0, none⟩) 2 2] 63)).heap.size (some ⟨w.heap.size + 1, 0, none⟩) 1 1 ExD :=
    ⟨rfl, Nat.le_refl _, by unfold maxLen; omega, (fun h => by cases h), fun i hi => by
      obtain rfl : i = 0 := by omega
      exact ⟨w.heap.size + 1, 0, _, _, _, rfl, hb.lt, hb.cell 0, hb.cell 1, a1⟩⟩
  have hm := HasT.litAt ((w.alloc (.cells #[.string ⟨#[108]⟩, .string ⟨#[109]⟩] 9)).alloc (.cells #[.string ⟨#[100]⟩, .slice (some ⟨w.heap.size, 0, none⟩) 2 2] 63)) [[109]] #[.string ⟨#[109]⟩] rfl 9 1 rfl (by decide) (w.heap.size + 1 + 1) (by simp)
  exact ⟨(hD.belowS (below_a1 _ _)).belowS (below_a1 _ _), hm.allocS _, ⟨rfl, Nat.le_refl _, Nat.zero_le _, fun _ => rfl, fun i hi => absurd hi (by omega)⟩⟩
set_option maxRecDepth 100000 in
set_option maxHeartbeats 4000000 in
theorem batchLives_any (w : World) : Calls Tryz.prog 13 #[] w fun e w' => e = .returned (.bool true) ∧ Below w.heap.size w w' := by
  have hB := ExW_below w
  have hF := ExW_has w
  have HPB := Lib.hid (putBatch_any hF (B := none) (m := 0) (d := 0) (l := []) ⟨rfl, Nat.le_refl _, Nat.zero_le _, fun _ => rfl, Has.nil_⟩ (by decide))
  go_enter Tryz.func13, Tryz.ntmps13
  go_wp2_with fail
  have e0 : (((w.alloc (.cells #[.string ⟨#[97]⟩, .string ⟨#[120]⟩] 9)).alloc (.cells #[.slice (some ⟨w.heap.size, 0, none⟩) 2 2] 50)).alloc (.cells #[.int .i64 3] 3)).alloc (.cells #[.slice (some ⟨w.heap.size + 1, 0, none⟩) 1 1, .slice (some ⟨w.heap.size + 1 + 1, 0, none⟩) 1 1] 48) = ExW w := rfl
  rw [e0]
  clear e0
  generalize ExW w = w0 at hB hF HPB ⊢
  refine HPB.out.mono ?_
  rintro e w1 ⟨v, rfl, hO, hb1⟩
  rw [ex_putB] at hO
  rw [ex_putE]
  obtain ⟨gb, cb, rfl, _, _⟩ := hO.formG (by decide)
  obtain ⟨A1, n1, c1, ev, hb, _⟩ := hO.formN
  injection ev with e1 e2 e3
  subst e1 e2 e3
  have hF1 := hF.mv elFct_ok (Mv.belowS hb1 _)
  have hB1 := below_then hB hb1
  clear HPB hO hF hb1 hB
  have hlit := HasB.litAt w1 [2, 2, 6, 97, 47, 120, 2, 6] #[.int .u8 2, .int .u8 2, .int .u8 6, .int .u8 97, .int .u8 47, .int .u8 120, .int .u8 2, .int .u8 6] rfl 5 (0, 0) 8 rfl (by decide) w1.heap.size rfl
  have hb2 := hb.allocS (.cells #[.int .u8 2, .int .u8 2, .int .u8 6, .int .u8 97, .int .u8 47, .int .u8 120, .int .u8 2, .int .u8 6] 5)
  have HSM := Lib.hid (same_any _ _ _ _ _ _ _ _ _ _ _ hb2 hlit)
  have hF2 := hF1.mv elFct_ok (Mv.alloc w1 (.cells #[.int .u8 2, .int .u8 2, .int .u8 6, .int .u8 97, .int .u8 47, .int .u8 120, .int .u8 2, .int .u8 6] 5) _)
  have hB2 := below_then hB1 (below_a1 w1 (.cells #[.int .u8 2, .int .u8 2, .int .u8 6, .int .u8 97, .int .u8 47, .int .u8 120, .int .u8 2, .int .u8 6] 5))
  clear hlit hb2 hb hF1 hB1
  go_wp2_with fail
  refine HSM.out.mono ?_
  rintro e w2' ⟨rfl, k, rfl⟩
  have hF3 := hF2.mv elFct_ok (Mv.drewN _ k _)
  have hB3 := below_drewN hB2 k
  have hbq : (([2, 2, 6, 97, 47, 120, 2, 6] : List UInt8) == [2, 2, 6, 97, 47, 120, 2, 6]) = true := by decide
  generalize (w1.alloc (.cells #[.int .u8 2, .int .u8 2, .int .u8 6, .int .u8 97, .int .u8 47, .int .u8 120, .int .u8 2, .int .u8 6] 5)).drewN k = w2 at hF3 hB3 ⊢
  clear HSM hF2 hB2
  rw [hbq]
  have hS := ExS_has w2
  have hX := ExS_block w2
  have hF4 := hF3.mv elFct_ok (Mv.belowS (ExS_below w2) _)
  have hB4 := below_then hB3 (ExS_below w2)
  have HV := Lib.hid (values_any hF4 (by decide) (fun f hf => by
    rw [List.mem_singleton.1 hf]
    exact ⟨by decide, fun p hp => by rw [List.mem_singleton.1 hp]; decide, by decide⟩))
  clear hF3 hB3 hbq
  go_wp2_with fail
  have e0 : (((w2.alloc (.cells #[.string ⟨#[108]⟩, .string ⟨#[109]⟩] 9)).alloc (.cells #[.string ⟨#[100]⟩, .slice (some ⟨w2.heap.size, 0, none⟩) 2 2] 63)).alloc (.cells #[.string ⟨#[109]⟩] 9)).alloc (.cells #[.slice (some ⟨w2.heap.size + 1, 0, none⟩) 1 1, .slice (some ⟨w2.heap.size + 1 + 1, 0, none⟩) 1 1, .slice none 0 0] 67) = ExS w2 := rfl
  rw [e0]
  clear e0
  generalize ExS w2 = w4 at hS hX hF4 hB4 HV ⊢
  refine HV.out.mono ?_
  rintro e w5 ⟨vv, rfl, hO, hb5⟩
  obtain ⟨Av, cv, rfl, hv⟩ := hO.read elValsO_ok
  have hv5 := hv.map (E' := elRow elInt 1) (fun us x h => elOwn_row elInt_ok (fun _ _ h => h) h)
  have hS5 := hS.belowS hb5
  have hX5 := hX.below hb5 hX.lt
  have hF5 := hF4.mv elFct_ok (Mv.belowS hb5 _)
  have hB5 := below_then hB4 hb5
  have s0 : w5.cell? ⟨w2.heap.size + 1 + 1 + 1, 0, none⟩ = some (.slice (some ⟨w2.heap.size + 1, 0, none⟩) 1 1) := hX5.cell 0
  have s1 : w5.cell? ⟨w2.heap.size + 1 + 1 + 1, 1, none⟩ = some (.slice (some ⟨w2.heap.size + 1 + 1, 0, none⟩) 1 1) := hX5.cell 1
  have s2 : w5.cell? ⟨w2.heap.size + 1 + 1 + 1, 2, none⟩ = some (.slice none 0 0) := hX5.cell 2
  have hmt : ∀ s ∈ ([[109]] : List Txt), s.length ≤ maxLen := fun s hs => by rw [List.mem_singleton.1 hs]; decide
  have HM := Lib.hid (mayBatch_any hS5 ex_fit hmt (by decide) hF5)
  clear HV hO hv hS hX hF4 hB4 hb5
  go_wp2_with fail
  refine HM.out.mono ?_
  rw [ex_may]
  rintro e w6 ⟨rfl, hb6⟩
  have hS6 := hS5.belowS hb6
  have hX6 := hX5.below hb6 hX5.lt
  have hB6 := below_then hB5 hb6
  have t0 : w6.cell? ⟨w2.heap.size + 1 + 1 + 1, 0, none⟩ = some (.slice (some ⟨w2.heap.size + 1, 0, none⟩) 1 1) := hX6.cell 0
  have t1 : w6.cell? ⟨w2.heap.size + 1 + 1 + 1, 1, none⟩ = some (.slice (some ⟨w2.heap.size + 1 + 1, 0, none⟩) 1 1) := hX6.cell 1
  have t2 : w6.cell? ⟨w2.heap.size + 1 + 1 + 1, 2, none⟩ = some (.slice none 0 0) := hX6.cell 2
  have HM2 := Lib.hid (mayBatch_any (S := fun _ => True) hS6 ex_fit hmt (by decide) (Row.none_ w6 _))
  have hv6 := hv5.mv elVals_ok (Mv.belowS hb6 _)
  clear HM hS5 hX5 hF5 hB5 hb6 s0 s1 s2 hv5
  go_wp2_with fail
  refine HM2.out.mono ?_
  rw [ex_none]
  rintro e w7 ⟨rfl, hb7⟩
  have hv7 := hv6.mv elVals_ok (Mv.belowS hb7 _)
  have hB7 := Lib.hid (below_then hB6 hb7)
  obtain ⟨b, o, A', n', c', l, e8, _, _, g0, hl, he⟩ := hv7.at1 (k := 0) (by decide)
  subst e8
  have hl3 : l = [3] := by
    have h1 := he.out
    simp [ExF] at h1
    exact h1.symm
  subst hl3
  obtain rfl : n' = 1 := hl.len.symm
  obtain ⟨b2, o2, y, e9, _, g1, hy⟩ := hl.hasI.at_ (k := 0) (by decide)
  subst e9
  have hy3 : y = 3 := hy.out
  subst hy3
  simp only [Nat.add_zero] at g0 g1
  clear HM2 hS6 hX6 hB6 hb7 t0 t1 t2 hv6 hv7 hl he hy hmt
  go_wp2_with fail
  go_ret
  exact ⟨rfl, hB7.out⟩
end Go.Proofs.YtfddaegepmdohaaGreatDoor
namespace Go.Proofs.YtfddaegepmdohaaGreatDoor
set_option maxRecDepth 100000

theorem lkP {F R : List UInt8} {x lo hi : Int} (h1 : -9223372036854775808 ≤ x) (h2 : x ≤ 9223372036854775807) (hl : lo ≤ x) (hh : x ≤ hi) : lk (F ++ (encI x ++ R)) F.length 0 lo hi = (x, (encI x).length, 0) := by
  have hd : (F ++ (encI x ++ R)).drop F.length = enc (zig x) ++ R := List.drop_left
  obtain ⟨g1, g2, g3⟩ := g_put h1 h2 R
  rw [lk_ok (by rw [hd]; exact g3) (by rw [hd, g1]; omega), hd, g1, g2]
  rfl
theorem txP {F R : List UInt8} {s : Txt} (hs : s.length ≤ 38) : tx (F ++ (encT s ++ R)) F.length 0 38 = (s, F.length + (encT s).length, 0) := by
  have e : F ++ (encT s ++ R) = F ++ (encI (s.length : Int) ++ (s ++ R)) := by unfold encT encI; simp only [List.append_assoc]
  have h1 := lkP (F := F) (R := s ++ R) (x := (s.length : Int)) (lo := 0) (hi := 38) (by omega) (by omega) (by omega) (by omega)
  have hd : (F ++ (encI (s.length : Int) ++ (s ++ R))).drop (F.length + (encI (s.length : Int)).length) = s ++ R := by
    rw [← List.append_assoc, ← List.length_append, List.drop_left]
  rw [e, tx_ok h1 (by simp), hd, Int.toNat_natCast, List.take_left]
  unfold encT encI
  rw [List.length_append, Nat.add_assoc]
theorem joinT_len38 : ∀ {L : List Txt}, L ≠ [] → (∀ s ∈ L, s.length ≤ 12) → (joinT L).length + 1 ≤ 13 * L.length := by
  intro L
  induction L with
  | nil => intro h; exact absurd rfl h
  | cons a p ih =>
    intro _ h
    have h1 := h a (by simp)
    by_cases hp : p = []
    · subst hp
      simp [joinT]; omega
    · have h2 := ih hp fun s hs => h s (List.mem_cons_of_mem _ hs)
      rw [joinT_cons a hp]
      simp; omega
theorem textP_38 {x : List Txt} (h : mayP x) : (textP x).length ≤ 38 := by
  unfold textP
  split
  · simp
  · rename_i hne
    have h1 := joinT_len38 hne fun s hs => (h.2 s hs).2.1
    have h2 := h.1
    omega
/-- rd reads back what en puts. -/
def Back {α : Type} (rd : RdT α) (en : α → List UInt8) (x : α) : Prop := ∀ F R, rd (F ++ (en x ++ R)) F.length 0 = (x, F.length + (en x).length, 0)
theorem rdPath_back {x : List Txt} (h : mayP x) : Back rdPath encP x := fun F R => by
  exact rdPath_yes (txP (F := F) (R := R) (textP_38 h)) (pathP_text h)
theorem rdVal_back {x : Int} (h : inV x) : Back rdVal encI x := fun F R => by
  unfold inV at h
  exact rdVal_is (lkP (F := F) (R := R) (by omega) (by omega) h.1 h.2)
theorem takeW_snoc {α : Type} {L : List α} {k : Nat} {x : α} (h : L[k]? = some x) : L.take k ++ [x] = L.take (k + 1) := by
  rw [List.take_add_one, h]; rfl
theorem sevN_back {α : Type} {rd : RdT α} {en : α → List UInt8} {L : List α} (h : ∀ x ∈ L, Back rd en x) (F R : List UInt8) : ∀ k, k ≤ L.length → sevN rd (F ++ (L.flatMap en ++ R)) F.length 0 k = (L.take k, F.length + ((L.take k).flatMap en).length, 0) := by
  intro k
  induction k with
  | zero => intro _; simp [sevN]
  | succ k ih =>
    intro hk
    have hx : L[k]? = some (L[k]'(by omega)) := List.getElem?_eq_getElem (by omega)
    generalize L[k]'(by omega) = x at hx
    have hB := h x (List.mem_of_getElem? hx)
    have e : F ++ (L.flatMap en ++ R) = (F ++ (L.take k).flatMap en) ++ (en x ++ ((L.drop (k + 1)).flatMap en ++ R)) := by
      have h1 : L.flatMap en = (L.take (k + 1)).flatMap en ++ (L.drop (k + 1)).flatMap en := by rw [← List.flatMap_append, List.take_append_drop]
      rw [h1, flat_snoc hx]
      simp only [List.append_assoc]
    have h2 := hB (F ++ (L.take k).flatMap en) ((L.drop (k + 1)).flatMap en ++ R)
    rw [← e, List.length_append] at h2
    rw [sevN_step (ih (by omega)) h2, takeW_snoc hx, flat_snoc hx, List.length_append]
    simp only [Prod.mk.injEq, true_and, and_true]
    omega
theorem sevA_back {α : Type} {rd : RdT α} {en : α → List UInt8} {L : List α} {most : Nat} (h : ∀ x ∈ L, Back rd en x) (hm : L.length ≤ most) (hm2 : most ≤ 100) (F R : List UInt8) :
    sevA rd most (F ++ (encI (L.length : Int) ++ (L.flatMap en ++ R))) F.length 0 = (L, F.length + (encI (L.length : Int) ++ L.flatMap en).length, 0) := by
  have h1 := lkP (F := F) (R := L.flatMap en ++ R) (x := (L.length : Int)) (lo := 0) (hi := (most : Int)) (by omega) (by omega) (by omega) (by omega)
  rw [sevA_is h1]
  have e : F ++ (encI (L.length : Int) ++ (L.flatMap en ++ R)) = (F ++ encI (L.length : Int)) ++ (L.flatMap en ++ R) := by rw [List.append_assoc]
  have h2 := sevN_back h (F ++ encI (L.length : Int)) R L.length (Nat.le_refl _)
  rw [List.take_of_length_le (Nat.le_refl _), List.length_append] at h2
  rw [e, h2, List.length_append]
  simp only [Prod.mk.injEq, true_and, and_true]
  omega
theorem rdFct_back {f : Fct} (h : plainF f) : Back rdFct encF f := fun F R => by
  obtain ⟨p, q⟩ := f
  obtain ⟨h1, h2, h3, h4⟩ := h
  have a := sevA_back (rd := rdPath) (en := encP) (L := p) (most := 3) (fun x hx => rdPath_back (h2 x hx)) h1 (by decide) F (encI (q.length : Int) ++ (q.flatMap encI ++ R))
  have b := sevA_back (rd := rdVal) (en := encI) (L := q) (most := 2) (fun x hx => rdVal_back (h4 x hx)) h3 (by decide) (F ++ (encI (p.length : Int) ++ p.flatMap encP)) R
  have e1 : F ++ (encF (p, q) ++ R) = F ++ (encI (p.length : Int) ++ (p.flatMap encP ++ (encI (q.length : Int) ++ (q.flatMap encI ++ R)))) := by
    unfold encF encP
    simp only [List.append_assoc]
  have e2 : F ++ (encI (p.length : Int) ++ (p.flatMap encP ++ (encI (q.length : Int) ++ (q.flatMap encI ++ R)))) = (F ++ (encI (p.length : Int) ++ p.flatMap encP)) ++ (encI (q.length : Int) ++ (q.flatMap encI ++ R)) := by
    simp only [List.append_assoc]
  rw [← e2, List.length_append] at b
  rw [e1, rdFct_is a b]
  simp only [Prod.mk.injEq, true_and, and_true]
  unfold encF encP
  simp only [List.length_append]
  omega
/-- What is put is read again, whatever stands behind. -/
theorem rdB_put {L : List Fct} (h : putE L = 0) (R : List UInt8) : rdB (putB [] L ++ R) 0 0 = (L, (putB [] L).length, 0) := by
  obtain ⟨h1, h2⟩ := putE_of h
  have a := sevA_back (rd := rdFct) (en := encF) (L := L) (most := 8) (fun x hx => rdFct_back (h2 x hx)) h1 (by decide) [] R
  have e : putB [] L ++ R = [] ++ (encI (L.length : Int) ++ (L.flatMap encF ++ R)) := by
    rw [putB_yes h]
    unfold encB
    simp only [List.nil_append, List.append_assoc]
  have e2 : (putB [] L).length = ([] : List UInt8).length + (encI (L.length : Int) ++ L.flatMap encF).length := by
    rw [putB_yes h]
    unfold encB
    simp
  rw [e, e2]
  exact (rdB_is a).trans (by rw [if_pos rfl])
end Go.Proofs.YtfddaegepmdohaaGreatDoor
namespace Go.Proofs.YtfddaegepmdohaaGreatDoor
set_option maxRecDepth 100000
open Go.RowKit

theorem Rd.other {T : TypeId} {w w' : World} {gx g : Nat} {A : Option Addr} {n c : Nat} {l : List UInt8} {p e : Nat} (h : Rd T w gx A n c l p e) (hg : w.grownBy w' (some g)) (hne : gx ≠ g) (hb : HasB w' gx A n c l) : Rd T w' gx A n c l p e :=
  ⟨h.block.grown hg (fun e => hne (by injection e with e; exact e.symm)), hb, h.at_le, h.err_le⟩
theorem below_gr {w w' : World} {b C : Nat} (h : w.grownBy w' (some b)) (hC : C ≤ b) (hs : C ≤ w.heap.size) : Below C w w' := ⟨h.os, h.tape, h.output, h.size, fun k hk => h.block k (by omega) fun e => by injection e with e; omega⟩
theorem toBB {P : Program} {f : FuncId} {args : Array Value} {v : Value} {w : World} (h : Calls P f args w fun e w' => e = .returned v ∧ w = w') : Calls P f args w fun e w' => e = .returned v ∧ Below w.heap.size w w' :=
  h.mono fun _ _ ⟨he, hw⟩ => ⟨he, hw ▸ Below.refl _ _⟩
theorem toBD {P : Program} {f : FuncId} {args : Array Value} {v : Value} {w : World} (h : Calls P f args w fun e w' => e = .returned v ∧ ∃ k, w' = w.drewN k) : Calls P f args w fun e w' => e = .returned v ∧ Below w.heap.size w w' :=
  h.mono fun _ _ ⟨he, k, hw⟩ => ⟨he, hw ▸ below_drewN (Below.refl _ _) k⟩
end Go.Proofs.YtfddaegepmdohaaGreatDoor
