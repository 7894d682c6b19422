/- BatchD, BatchE, BatchF, BatchR, BatchP, BatchS, BatchT, QryG, QryW -/
import Derived.Test.YtmcccpbpijnbmaaJ2
import Derived.Test.YtmcccpbpijnbmaaJ16
import Derived.Test.YtmcccpbpijnbmaaJ18
import Derived.Test.YtmcccpbpijnbmaaJ24
import Derived.Test.YtmcccpbpijnbmaaJ28
import Derived.Test.YtmcccpbpijnbmaaJ29
import Derived.Test.YtmcccpbpijnbmaaJ32
import Derived.Test.YtmcccpbpijnbmaaJ33
import Derived.Test.YtmcccpbpijnbmaaJ35
import Derived.Test.YtmcccpbpijnbmaaJ37
import Derived.Test.YtmcccpbpijnbmaaJ39
import Derived.Deep.RegionHeld3
namespace Go.Proofs.Ytmcccpbpijnbmaa
set_option maxRecDepth 100000
open Go.RowKit

/-! ### amiss -/
end Go.Proofs.Ytmcccpbpijnbmaa
namespace Go.Proofs.Ytmcccpbpijnbmaa
set_option maxRecDepth 100000
open Go.RowKit

end Go.Proofs.Ytmcccpbpijnbmaa
namespace Go.Proofs.Ytmcccpbpijnbmaa
set_option maxRecDepth 100000
open Go.RowKit

end Go.Proofs.Ytmcccpbpijnbmaa
namespace Go.Proofs.Ytmcccpbpijnbmaa
set_option maxRecDepth 100000
open Go.RowKit

end Go.Proofs.Ytmcccpbpijnbmaa
namespace Go.Proofs.Ytmcccpbpijnbmaa
set_option maxRecDepth 100000
open Go.RowKit

theorem own_ne {w : World} {base g : Nat} {e T : TypeId} {v : Value} {l : List UInt8} {cs : Array Value} (h : OwnB w base e v l) (hb : Block w g T cs) (hT : T ≠ e) : v.ownBlock ≠ some g := by
 rcases h.2 with ⟨rfl, _⟩ | ⟨k, cap, cur, rfl, _, hk, _⟩
 ·simp [Value.ownBlock]
 ·intro e'
  simp only [Value.ownBlock, Option.some.injEq] at e'
  subst e'
  have h2 : w.heap[k]? = some (.cells cs T (0, 0)) := hb
  rw [hk] at h2
  simp only [Option.some.injEq, Obj.cells.injEq] at h2
  exact hT h2.2.1.symm
theorem below_grownB {w w' : World} {base : Nat} {v : Value} {l : List UInt8} {e : TypeId} (ho : OwnB w base e v l) (hb : base ≤ w.heap.size) (hg : w.grownBy w' v.ownBlock) : Below base w w' :=
 ⟨hg.os, hg.tape, hg.output, hg.size, fun k hk => hg.block k (by omega) (fun e => by have := (ho.lt k e.symm).1; omega)⟩
end Go.Proofs.Ytmcccpbpijnbmaa
namespace Go.Proofs.Ytmcccpbpijnbmaa
set_option maxRecDepth 100000
open Go.RowKit

end Go.Proofs.Ytmcccpbpijnbmaa
namespace Go.Proofs.Ytmcccpbpijnbmaa
set_option maxRecDepth 100000
open Go.RowKit

def AtB (w : World) (v : Value) (l : List UInt8) : Prop := ∃ A n c, v = .slice A n c ∧ HasB w w.heap.size A n c l
theorem OwnB.at_ {w : World} {base : Nat} {e : TypeId} {v : Value} {l : List UInt8} (h : OwnB w base e v l) : AtB w v l := by
 obtain ⟨A, n, c, h1, h2, _⟩ := h.formN
 exact ⟨A, n, c, h1, h2⟩
theorem refPutInt_at {v : Value} {l : List UInt8} {w : World} (hr : AtB w v l) (n : Int) (h : -9223372036854775808 ≤ n) (h' : n ≤ 9223372036854775807) (hl : l.length ≤ 1000000) :
  Calls Try.prog 42 #[v, .int .i64 n] w fun e w' => ∃ v, e = .returned v ∧ AtB w' v (l ++ encI n) ∧ Below w.heap.size w w' := by
 obtain ⟨A, m, c, rfl, hb⟩ := hr
 exact (refPutInt_any hb n h h' (by have := hb.len; omega)).mono fun e w' ⟨v, h1, h2, h3⟩ => ⟨v, h1, h2.at_, h3⟩
theorem refPutText_at {v : Value} {l : List UInt8} {w : World} (hr : AtB w v l) (t : List UInt8) (ht : t.length ≤ 1000) (hl : l.length ≤ 1000000) :
  Calls Try.prog 44 #[v, .string ⟨t.toArray⟩] w fun e w' => ∃ v, e = .returned v ∧ AtB w' v (l ++ encT t) ∧ Below w.heap.size w w' := by
 obtain ⟨A, m, c, rfl, hb⟩ := hr
 exact (refPutText_any hb t (by have := hb.len; omega)).mono fun e w' ⟨v, h1, h2, h3⟩ => ⟨v, h1, h2.at_, h3⟩
theorem AtB.below {w w' : World} {v : Value} {l : List UInt8} (h : AtB w v l) (hb : Below w.heap.size w w') : AtB w' v l := by
 obtain ⟨A, n, c, h1, h2⟩ := h
 exact ⟨A, n, c, h1, h2.belowS hb⟩
end Go.Proofs.Ytmcccpbpijnbmaa
namespace Go.Proofs.Ytmcccpbpijnbmaa
set_option maxRecDepth 100000
open Go.RowKit

theorem putQ_no {b : List UInt8} {q : Qry} (h : ¬ plainQ q) : putQ b q = [] := if_neg h
theorem putQ_yes {b : List UInt8} {q : Qry} (h : plainQ q) : putQ b q = b ++ encQ q := if_pos h
def putQE (q : Qry) : Nat := if plainQ q then 0 else 16
theorem putQE_no {q : Qry} (h : ¬ plainQ q) : putQE q = 16 := if_neg h
theorem putQE_yes {q : Qry} (h : plainQ q) : putQE q = 0 := if_pos h
set_option maxHeartbeats 4000000 in
theorem putFl_any {S : Nat → Prop} {A : Option Addr} {n c base : Nat} {d x : Int} {M : List (List Txt)} {l : List UInt8} {v : Value} {w : World} (hp : Row (elRow elText 1) 1 w S A n c M) (hS : ∀ b, S b → b < base)
  (ho : OwnB w base 5 v l) (hb : base ≤ w.heap.size) (hl : l.length ≤ 1000000) (hpl : plainFl (d, x, M)) :
  Calls Try.prog 40 #[v, .agg #[.int .i64 d, .int .i64 x, .slice A n c]] w fun e w' => ∃ v', e = .returned v' ∧ OwnB w' base 5 v' (l ++ encFl (d, x, M)) ∧ Below base w w' := by
 have HL := Lib.hid hp.len
 have hd := hpl.1
 have hx := hpl.2.1
 have hn6 : n ≤ 6 := by have h1 : M.length ≤ 6 := hpl.2.2.1; have := hp.len; omega
 have hn0 : (0 : Int) ≤ (n : Int) := by omega
 simp only at hd hx
 have d0 := hd.1
 have d2 := hd.2
 have x0 := hx.1
 have x3 := hx.2
 have HPL := Lib.hid hpl.2.2.2
 have HLL := Lib.hid hl
 have hb0 := below_a1 w (.cells #[.int .i64 d, .int .i64 x, .slice A n c] 54)
 have hbl := Block.new w 54 #[.int .i64 d, .int .i64 x, .slice A n c]
 have ho0 := ho.below hb0 (Nat.le_refl _)
 have hbs := Nat.le_trans hb hb0.size
 have HB0 := Lib.hid (hb0.mono hb)
 have Hb := Lib.hid hb
 clear hpl hl ho hb hb0 hd hx
 have HE1 := Lib.hid (encI_len (x := d) (by omega) (by omega))
 have HE2 := Lib.hid (encI_len (x := x) (by omega) (by omega))
 have HE3 := Lib.hid (encI_len (x := (n : Int)) (by omega) (by omega))
 go_enter Try.func40, Try.ntmps40
 go_wp2_with fail
 generalize w.alloc (.cells #[.int .i64 d, .int .i64 x, .slice A n c] 54) = W at hbl ho0 hbs HB0 ⊢
 have k0 : W.cell? ⟨w.heap.size, 0, none⟩ = some (.int .i64 d) := hbl.cell 0
 have HP1 := Lib.hid (putInt_own v l d (by omega) (by omega) W base ho0 hbs (by have := HLL.out; omega))
 go_wp2_with fail
 refine HP1.out.mono ?_
 rintro e w1 ⟨v1, rfl, hO1, hG1⟩
 have hB1 := HB0.out.trans (hG1.below_ hbs (fun k e => (ho0.lt k e).1))
 have hbl1 := hbl.grown hG1.1 (own_ne ho0 hbl (by decide))
 have hs1 := Nat.le_trans Hb.out hB1.size
 have k1 : w1.cell? ⟨w.heap.size, 1, none⟩ = some (.int .i64 x) := hbl1.cell 1
 have hO1' : OwnB w1 base 5 v1 (l ++ encI d) := hO1
 have HP2 := Lib.hid (putInt_own v1 _ x (by omega) (by omega) w1 base hO1' hs1 (by have := HLL.out; have := HE1.out; simp only [List.length_append]; omega))
 clear HP1 hG1 hbl ho0 k0 hO1
 go_wp2_with fail
 refine HP2.out.mono ?_
 rintro e w2 ⟨v2, rfl, hO2, hG2⟩
 have hB2 := hB1.trans (hG2.below_ hs1 (fun k e => (hO1'.lt k e).1))
 have hbl2 := hbl1.grown hG2.1 (own_ne hO1' hbl1 (by decide))
 have hs2 := Nat.le_trans Hb.out hB2.size
 have k2 : w2.cell? ⟨w.heap.size, 2, none⟩ = some (.slice A n c) := hbl2.cell 2
 have hO2' : OwnB w2 base 5 v2 (l ++ encI d ++ encI x) := hO2
 have HP3 := Lib.hid (putInt_own v2 _ (n : Int) (by omega) (by omega) w2 base hO2' hs2 (by have := HLL.out; have := HE1.out; have := HE2.out; simp only [List.length_append]; omega))
 clear HP2 hG2 hbl1 k1 hO2 hO1' hB1 hs1
 go_wp2_with fail
 refine HP3.out.mono ?_
 rintro e w3 ⟨v3, rfl, hO3, hG3⟩
 have hB3 := hB2.trans (hG3.below_ hs2 (fun k e => (hO2'.lt k e).1))
 have hbl3 := hbl2.grown hG3.1 (own_ne hO2' hbl2 (by decide))
 have k3 : w3.cell? ⟨w.heap.size, 2, none⟩ = some (.slice A n c) := hbl3.cell 2
 have hO3' : OwnB w3 base 5 v3 (l ++ encI d ++ encI x ++ encI n) := hO3
 clear HP3 hG3 hbl2 k2 hO3 hO2' hB2 hs2 hbl3
 go_wp2_with fail
 clear k3
 go_loopw [0, 25] (fun v i wr => ∃ k : Nat, k ≤ n ∧ i = .int .i64 k ∧ OwnB wr base 5 v (l ++ encI d ++ encI x ++ encI n ++ (M.take k).flatMap encP) ∧ Below base w wr ∧ Hid (((M.take k).flatMap encP).length ≤ 49 * k)) (fun _ i _ => n - (intOf i).toNat)
 case atStart => exact ⟨0, Nat.zero_le _, rfl, by simpa using hO3', hB3, Lib.hid (by simp)⟩
 case round =>
  clear hO3' hB3
  obtain ⟨k, hk, rfl, hO, hB, hle⟩ := hrel
  have hwb : base ≤ wr.heap.size := Nat.le_trans Hb.out hB.size
  by_cases hlt : k < n
  ·obtain ⟨b, o, A', n', c', y, rfl, _, _, g0, hy, he⟩ := (hp.mv elPath_ok (Mv.below hB hS)).at1 hlt
   have i0 : (0 : Int) ≤ (k : Int) := by omega
   have i1 : (k : Int) < (n : Int) := by omega
   have hT := hy.hasT
   have hm := HPL.out y (List.mem_of_getElem? he.out)
   have HT := Lib.hid (text_yes hT hm)
   have HX := Lib.hid (textP_len hm)
   have HY := Lib.hid (encP_len hm)
   clear hT hm hy
   go_wp2_with fail
   refine HT.out.mono ?_
   rintro e w2 ⟨rfl, hb2⟩
   have hO2 := hO.below hb2 (Nat.le_refl _)
   have hB2 := hB.trans (hb2.mono hwb)
   have hwb2 := Nat.le_trans hwb hb2.size
   have HPT := Lib.hid (putText_grown u0 _ (textP y) w2 base hO2 hwb2 (by have := HLL.out; have := HE1.out; have := HE2.out; have := HE3.out; have := hle.out; have := HX.out; simp only [List.length_append]; omega))
   clear hO hB hb2 g0 HT
   go_wp2_with fail
   refine HPT.out.mono ?_
   rintro e w3 ⟨v3, rfl, hO3, hG3⟩
   have hF := Lib.hid (show OwnB w3 base 5 v3 (l ++ encI d ++ encI x ++ encI n ++ (M.take (k + 1)).flatMap encP) ∧ Below base w w3 ∧ Hid (((M.take (k + 1)).flatMap encP).length ≤ 49 * (k + 1)) from
    ⟨by rw [flat_snoc he.out, ← List.append_assoc]; exact hO3, hB2.trans (below_grownB hO2 hwb2 hG3), Lib.hid (by rw [flat_snoc he.out, List.length_append]; have := hle.out; have := HY.out; omega)⟩)
   clear HPT hO2 hO3 hG3 hB2
   go_wp2_with fail
   go_roundw
   case rel => exact ⟨k + 1, by omega, by go_num, hF.out⟩
   case measure => simp [intOf]; omega
  ·have hF := Lib.hid (show OwnB wr base 5 u0 (l ++ encFl (d, x, M)) ∧ Below base w wr from ⟨by
    rw [List.take_of_length_le (by have := HL.out; omega)] at hO
    have e : l ++ encFl (d, x, M) = l ++ encI d ++ encI x ++ encI n ++ M.flatMap encP := by
     unfold encFl
     simp only [HL.out, List.append_assoc]
    rw [e]
    exact hO, hB⟩)
   clear hO hB
   go_wp2_with fail
   go_ret
   exact ⟨_, rfl, hF.out.1, hF.out.2⟩
set_option maxHeartbeats 4000000 in
theorem putQry_any {S : Nat → Prop} {A1 A2 B : Option Addr} {n1 c1 n2 c2 m d : Nat} {q : Qry} {l : List UInt8} {w : World} (hq : HasQ w S A1 n1 c1 A2 n2 c2 q) (hb : HasB w w.heap.size B m d l) (hm : m ≤ 100000) :
  Calls Try.prog 22 #[.slice B m d, qryV A1 n1 c1 A2 n2 c2] w fun e w' => ∃ v, e = .returned (.tuple #[v, .int .i64 (putQE q : Nat)]) ∧ OwnB w' w.heap.size 5 v (putQ l q) ∧ Below w.heap.size w w' := by
 have hb0 := below_a1 w (.cells #[.slice A1 n1 c1, .slice A2 n2 c2] 30)
 have hbl := Block.new w 30 #[.slice A1 n1 c1, .slice A2 n2 c2]
 have h0 := hq.belowS hb0
 have hB0 := hb.belowS hb0
 have HC := Lib.hid (plainQ_any h0)
 have HLB := Lib.hid hb.len
 clear hq hb
 by_cases hpl : plainQ q
 ·rw [decide_eq_true hpl] at HC
  have HPL := Lib.hid hpl
  rw [putQE_yes hpl]
  have HPB := Lib.hid (putQ_yes (b := l) hpl)
  obtain ⟨G, F⟩ := q
  have HG := Lib.hid (show G.length = n1 from h0.g.len)
  have HF := Lib.hid (show F.length = n2 from h0.f.len)
  have hn1 : n1 ≤ 3 := by have h1 : G.length ≤ 3 := hpl.1; have := HG.out; omega
  have hn2 : n2 ≤ 3 := by have h1 : F.length ≤ 3 := hpl.2.1; have := HF.out; omega
  have hi0 : (0 : Int) ≤ (n1 : Int) := by omega
  have hi1 : (0 : Int) ≤ (n2 : Int) := by omega
  clear hpl
  go_enter Try.func22, Try.ntmps22
  go_wp2_with fail
  generalize w.alloc (.cells #[.slice A1 n1 c1, .slice A2 n2 c2] 30) = W at hb0 hbl h0 hB0 HC ⊢
  have k0 : W.cell? ⟨w.heap.size, 0, none⟩ = some (.slice A1 n1 c1) := hbl.cell 0
  have k1 : W.cell? ⟨w.heap.size, 1, none⟩ = some (.slice A2 n2 c2) := hbl.cell 1
  have hz0 := hb0.size
  go_wp2_with fail
  refine HC.out.mono ?_
  rintro e w2 ⟨rfl, hb2⟩
  have hbl2 := hbl.below hb2 hbl.lt
  have hz2 := hb2.size
  have hBw := hb0.trans (hb2.mono hz0)
  have K0 : Hid (∀ y, Below w2.heap.size w2 y → y.cell? ⟨w.heap.size, 0, none⟩ = some (.slice A1 n1 c1)) := Lib.hid fun y hy => (hbl2.below hy hbl2.lt).cell 0
  have hg1 : Row elInt 1 w2 (fun b => S b ∧ b < w2.heap.size) A1 n1 c1 G := (h0.g.mv elInt_ok (Mv.belowS hb2 S)).mv elInt_ok (Mv.to w2 fun b hb hl => ⟨hb, hl⟩)
  have hf1 : Row elFil 3 w2 (fun b => S b ∧ b < w2.heap.size) A2 n2 c2 F := (h0.f.mv elFil_ok (Mv.belowS hb2 S)).mv elFil_ok (Mv.to w2 fun b hb hl => ⟨hb, hl⟩)
  have HCl := Lib.hid (clone_any B m d l w2.drew ((hB0.belowS hb2).drewN 1) (by omega))
  have HBK := Lib.hid hbl2
  have k2 : w2.cell? ⟨w.heap.size, 0, none⟩ = some (.slice A1 n1 c1) := hbl2.cell 0
  clear HC h0 hB0 k0 k1 hbl hb2 hbl2
  go_wp2_with fail
  go_region_held3 (fun w' => w'.cell? ⟨w.heap.size, 0, none⟩ = some (.slice A1 n1 c1))
   (first
    | go_keep
    | exact K0.out _ hBB4
    | exact K0.out _ hBB3)
   (first
    | (go_at_call 39; refine HCl.out.mono ?_; rintro e w3 ⟨⟨v3, rfl, hO3⟩, hb3⟩; have hBB3 : Below w2.heap.size w2 w3 := (below_drewN (Below.refl _ w2) 1).trans hb3)
    | (go_at_call 38; refine (putInt_own v3 l (n1 : Int) (by omega) (by omega) w3 w2.heap.size hO3 hBB3.size (by have := HLB.out; omega)).mono ?_; rintro e w4 ⟨v4, rfl, hO4, hG4⟩; have hBB4 : Below w2.heap.size w2 w4 := hBB3.trans (hG4.below_ hBB3.size (fun k e => (hO3.lt k e).1))))
  have hO4' : OwnB w4 w2.heap.size 5 v4 (l ++ encI n1) := hO4
  have k4 := K0.out w4 hBB4
  have HE1 := Lib.hid (encI_len (x := (n1 : Int)) (by omega) (by omega))
  have HE2 := Lib.hid (encI_len (x := (n2 : Int)) (by omega) (by omega))
  have HS : ∀ b, (S b ∧ b < w2.heap.size) → b < w2.heap.size := fun b hb => hb.2
  clear hO4 hG4 hO3 hb3 hBB3 HCl k2
  go_wp2_with fail
  clear k4
  go_loopw [6, 23] (fun v i wr => ∃ k : Nat, k ≤ n1 ∧ i = .int .i64 k ∧ OwnB wr w2.heap.size 5 v (l ++ encI n1 ++ (G.take k).flatMap encI) ∧ Below w2.heap.size w2 wr ∧ Hid (((G.take k).flatMap encI).length ≤ 10 * k)) (fun _ i _ => n1 - (intOf i).toNat)
  case atStart => exact ⟨0, Nat.zero_le _, rfl, by simpa using hO4', hBB4, Lib.hid (by simp)⟩
  case round =>
   clear hO4' hBB4
   obtain ⟨k, hk, rfl, hO, hB, hle⟩ := hrel
   have hwb := hB.size
   by_cases hlt : k < n1
   ·obtain ⟨b, o, x, rfl, _, g0, hx⟩ := (hg1.mv elInt_ok (Mv.below hB HS)).hasI.at_ hlt
    have hget : G[k]? = some x := by
     rw [hx.out, List.getD_eq_getElem?_getD, List.getElem?_eq_getElem (show k < G.length by have := HG.out; omega)]
     rfl
    have HGet := Lib.hid hget
    have hxb := HPL.out.2.2.1 x (List.mem_of_getElem? hget)
    have x0 := hxb.1
    have x3 := hxb.2
    have i0 : (0 : Int) ≤ (k : Int) := by omega
    have i1 : (k : Int) < (n1 : Int) := by omega
    have HY := Lib.hid (encI_len (x := x) (by omega) (by omega))
    have HPI := Lib.hid (putInt_own u6 _ x (by omega) (by omega) wr w2.heap.size hO hwb (by have := HLB.out; have := HE1.out; have := hle.out; simp only [List.length_append]; omega))
    clear hget hx hxb
    go_wp2_with fail
    refine HPI.out.mono ?_
    rintro e w3 ⟨v3, rfl, hO3, hG3⟩
    have hF := Lib.hid (show OwnB w3 w2.heap.size 5 v3 (l ++ encI n1 ++ (G.take (k + 1)).flatMap encI) ∧ Below w2.heap.size w2 w3 ∧ Hid (((G.take (k + 1)).flatMap encI).length ≤ 10 * (k + 1)) from
     ⟨by rw [flat_snoc HGet.out, ← List.append_assoc]; exact hO3, hB.trans (hG3.below_ hwb (fun k e => (hO.lt k e).1)), Lib.hid (by rw [flat_snoc HGet.out, List.length_append]; have := hle.out; have := HY.out; omega)⟩)
    clear HPI hO3 hG3 hO hB g0
    go_wp2_with fail
    go_roundw
    case rel => exact ⟨k + 1, by omega, by go_num, hF.out⟩
    case measure => simp [intOf]; omega
   ·rw [List.take_of_length_le (by have := HG.out; omega)] at hO hle
    have HLE := Lib.hid (show (G.flatMap encI).length ≤ 30 by have := hle.out; omega)
    have hblr := HBK.out.below hB HBK.out.lt
    have k5 : wr.cell? ⟨w.heap.size, 1, none⟩ = some (.slice A2 n2 c2) := hblr.cell 1
    have HPI := Lib.hid (putInt_own u6 _ (n2 : Int) (by omega) (by omega) wr w2.heap.size hO hwb (by have := HLB.out; have := HE1.out; have := HLE.out; simp only [List.length_append]; omega))
    go_wp2_with fail
    refine HPI.out.mono ?_
    rintro e w3 ⟨v3, rfl, hO3, hG3⟩
    have hB3 := hB.trans (hG3.below_ hwb (fun k e => (hO.lt k e).1))
    have hO3' : OwnB w3 w2.heap.size 5 v3 (l ++ encI n1 ++ G.flatMap encI ++ encI n2) := hO3
    have k6 : w3.cell? ⟨w.heap.size, 1, none⟩ = some (.slice A2 n2 c2) := (HBK.out.below hB3 HBK.out.lt).cell 1
    clear HPI hO3 hG3 hO hB hle k5 hblr
    go_wp2_with fail
    clear k6
    obtain ⟨wo, rfl⟩ : ∃ wo, wo = wr := ⟨_, rfl⟩
    go_loopw [6, 39] (fun v i wr => ∃ j : Nat, j ≤ n2 ∧ i = .int .i64 j ∧ OwnB wr w2.heap.size 5 v (l ++ encI n1 ++ G.flatMap encI ++ encI n2 ++ (F.take j).flatMap encFl) ∧ Below w2.heap.size w2 wr ∧ Hid (((F.take j).flatMap encFl).length ≤ 330 * j)) (fun _ i _ => n2 - (intOf i).toNat)
    case atStart => exact ⟨0, Nat.zero_le _, rfl, by simpa using hO3', hB3, Lib.hid (by simp)⟩
    case round =>
     clear hO3' hB3
     obtain ⟨j, hj, rfl, hO, hB, hle⟩ := hrel
     by_cases hlj : j < n2
     ·obtain ⟨b, o, d', v', A', n', c', M', rfl, _, _, g0, g1, g2, hM, he⟩ := (hf1.mv elFil_ok (Mv.below hB HS)).atF hlj
      have i0 : (0 : Int) ≤ (j : Int) := by omega
      have i1 : (j : Int) < (n2 : Int) := by omega
      have hfp := HPL.out.2.2.2 _ (List.mem_of_getElem? he.out)
      have HY := Lib.hid (encFl_len hfp)
      have hbx := below_a1 wr (.cells #[.int .i64 d', .int .i64 v', .slice A' n' c'] 54)
      have hbf := Block.new wr 54 #[.int .i64 d', .int .i64 v', .slice A' n' c']
      have hB1 := hB.trans (hbx.mono hB.size)
      have hO1 := hO.below hbx (Nat.le_refl _)
      have HC := Lib.hid (putFl_any (hM.mv elPath_ok (Mv.belowS hbx _)) HS hO1 hB1.size (by have := HLB.out; have := HE1.out; have := HE2.out; have := HLE.out; have := hle.out; simp only [List.length_append]; omega) hfp)
      clear hB hbx hM hO hfp
      go_wp2_with fail
      generalize wr.alloc (.cells #[.int .i64 d', .int .i64 v', .slice A' n' c'] 54) = W1 at hB1 hbf HC hO1 ⊢
      have f0 : W1.cell? ⟨wr.heap.size, 0, none⟩ = some (.int .i64 d') := hbf.cell 0
      have f1 : W1.cell? ⟨wr.heap.size, 1, none⟩ = some (.int .i64 v') := hbf.cell 1
      have f2 : W1.cell? ⟨wr.heap.size, 2, none⟩ = some (.slice A' n' c') := hbf.cell 2
      clear g0 g1 g2
      go_wp2_with fail
      refine HC.out.mono ?_
      rintro e w5 ⟨v5, rfl, hO5, hb5⟩
      have hF := Lib.hid (show OwnB w5 w2.heap.size 5 v5 (l ++ encI n1 ++ G.flatMap encI ++ encI n2 ++ (F.take (j + 1)).flatMap encFl) ∧ Below w2.heap.size w2 w5 ∧ Hid (((F.take (j + 1)).flatMap encFl).length ≤ 330 * (j + 1)) from
       ⟨by rw [flat_snoc he.out, ← List.append_assoc]; exact hO5, hB1.trans hb5, Lib.hid (by rw [flat_snoc he.out, List.length_append]; have := hle.out; have := HY.out; omega)⟩)
      clear HC hO1 hO5 hb5 hB1 hbf f0 f1 f2
      go_wp2_with fail
      go_roundw
      case rel => exact ⟨j + 1, by omega, by go_num, hF.out⟩
      case measure => simp [intOf]; omega
     ·have hF := Lib.hid (show OwnB wr w.heap.size 5 u6 (putQ l (G, F)) ∧ Below w.heap.size w wr from ⟨by
       rw [List.take_of_length_le (by have := HF.out; omega)] at hO
       have e : putQ l (G, F) = l ++ encI n1 ++ G.flatMap encI ++ encI n2 ++ F.flatMap encFl := by
        rw [HPB.out]
        unfold encQ
        simp only [HG.out, HF.out, List.append_assoc]
       rw [e]
       exact hO.low (Nat.le_trans hz0 hz2), hBw.trans (hB.mono (Nat.le_trans hz0 hz2))⟩)
      clear hO hB
      go_wp2_with fail
      go_ret2
      exact ⟨_, rfl, hF.out⟩
 ·rw [decide_eq_false hpl] at HC
  rw [putQE_no hpl]
  have HPB := Lib.hid (putQ_no (b := l) hpl)
  clear hpl
  go_enter Try.func22, Try.ntmps22
  go_wp2_with fail
  generalize w.alloc (.cells #[.slice A1 n1 c1, .slice A2 n2 c2] 30) = W at hb0 hbl h0 hB0 HC ⊢
  have k0 : W.cell? ⟨w.heap.size, 0, none⟩ = some (.slice A1 n1 c1) := hbl.cell 0
  have k1 : W.cell? ⟨w.heap.size, 1, none⟩ = some (.slice A2 n2 c2) := hbl.cell 1
  go_wp2_with fail
  refine HC.out.mono ?_
  rintro e w2 ⟨rfl, hb2⟩
  have hBw := hb0.trans (hb2.mono hb0.size)
  clear HC k0 k1
  go_wp2_with fail
  go_ret2
  exact ⟨_, rfl, by rw [HPB.out]; exact OwnB.nil_ _ _ _, hBw⟩
end Go.Proofs.Ytmcccpbpijnbmaa
namespace Go.Proofs.Ytmcccpbpijnbmaa
set_option maxRecDepth 100000
open Go.RowKit

set_option maxHeartbeats 4000000 in
theorem refPutQ_any {S : Nat → Prop} {A1 A2 B : Option Addr} {n1 c1 n2 c2 m d : Nat} {q : Qry} {l : List UInt8} {w : World} (hq : HasQ w S A1 n1 c1 A2 n2 c2 q) (hb : HasB w w.heap.size B m d l) (hm : m ≤ 100000) :
  Calls Try.prog 23 #[.slice B m d, qryV A1 n1 c1 A2 n2 c2] w fun e w' => ∃ v, e = .returned (.tuple #[v, .int .i64 (putQE q : Nat)]) ∧ AtB w' v (putQ l q) ∧ Below w.heap.size w w' := by
 have hb0 := below_a1 w (.cells #[.slice A1 n1 c1, .slice A2 n2 c2] 30)
 have hbl := Block.new w 30 #[.slice A1 n1 c1, .slice A2 n2 c2]
 have h0 := hq.belowS hb0
 have hB0 := hb.belowS hb0
 have HC := Lib.hid (refPlainQ_any h0)
 have HLB := Lib.hid hb.len
 clear hq hb
 by_cases hpl : plainQ q
 ·rw [decide_eq_true hpl] at HC
  have HPL := Lib.hid hpl
  rw [putQE_yes hpl]
  have HPB := Lib.hid (putQ_yes (b := l) hpl)
  obtain ⟨G, F⟩ := q
  have HG := Lib.hid (show G.length = n1 from h0.g.len)
  have HF := Lib.hid (show F.length = n2 from h0.f.len)
  have hn1 : n1 ≤ 3 := by have h1 : G.length ≤ 3 := hpl.1; have := HG.out; omega
  have hn2 : n2 ≤ 3 := by have h1 : F.length ≤ 3 := hpl.2.1; have := HF.out; omega
  have hi0 : (0 : Int) ≤ (n1 : Int) := by omega
  have hi1 : (0 : Int) ≤ (n2 : Int) := by omega
  clear hpl
  go_enter Try.func23, Try.ntmps23
  go_wp2_with fail
  generalize w.alloc (.cells #[.slice A1 n1 c1, .slice A2 n2 c2] 30) = W at hb0 hbl h0 hB0 HC ⊢
  have k0 : W.cell? ⟨w.heap.size, 0, none⟩ = some (.slice A1 n1 c1) := hbl.cell 0
  have k1 : W.cell? ⟨w.heap.size, 1, none⟩ = some (.slice A2 n2 c2) := hbl.cell 1
  have hz0 := hb0.size
  go_wp2_with fail
  refine HC.out.mono ?_
  rintro e w2 ⟨rfl, hb2⟩
  have hbl2 := hbl.below hb2 hbl.lt
  have hz2 := hb2.size
  have hBw := hb0.trans (hb2.mono hz0)
  have hg1 : Row elInt 1 w2 (fun b => S b ∧ b < w2.heap.size) A1 n1 c1 G := (h0.g.mv elInt_ok (Mv.belowS hb2 S)).mv elInt_ok (Mv.to w2 fun b hb hl => ⟨hb, hl⟩)
  have hf1 : Row elFil 3 w2 (fun b => S b ∧ b < w2.heap.size) A2 n2 c2 F := (h0.f.mv elFil_ok (Mv.belowS hb2 S)).mv elFil_ok (Mv.to w2 fun b hb hl => ⟨hb, hl⟩)
  have HP0 := Lib.hid (refPutInt_at (w := w2) (v := .slice B m d) ⟨B, m, d, rfl, hB0.belowS hb2⟩ (n1 : Int) (by omega) (by omega) (by have := HLB.out; omega))
  have HBK := Lib.hid hbl2
  have k2 : w2.cell? ⟨w.heap.size, 0, none⟩ = some (.slice A1 n1 c1) := hbl2.cell 0
  clear HC h0 hB0 k0 k1 hbl hb2 hbl2
  go_wp2_with fail
  refine HP0.out.mono ?_
  rintro e w4 ⟨v4, rfl, hO4, hBB4⟩
  have HE1 := Lib.hid (encI_len (x := (n1 : Int)) (by omega) (by omega))
  have HE2 := Lib.hid (encI_len (x := (n2 : Int)) (by omega) (by omega))
  have HS : ∀ b, (S b ∧ b < w2.heap.size) → b < w2.heap.size := fun b hb => hb.2
  clear HP0 k2
  go_wp2_with fail
  go_loopw [7, 8] (fun v i wr => ∃ k : Nat, k ≤ n1 ∧ i = .int .i64 k ∧ AtB wr v (l ++ encI n1 ++ (G.take k).flatMap encI) ∧ Below w2.heap.size w2 wr ∧ Hid (((G.take k).flatMap encI).length ≤ 10 * k)) (fun _ i _ => n1 - (intOf i).toNat)
  case atStart => exact ⟨0, Nat.zero_le _, rfl, by simpa using hO4, hBB4, Lib.hid (by simp)⟩
  case round =>
   clear hO4 hBB4
   obtain ⟨k, hk, rfl, hO, hB, hle⟩ := hrel
   have k3 : wr.cell? ⟨w.heap.size, 0, none⟩ = some (.slice A1 n1 c1) := (HBK.out.below hB HBK.out.lt).cell 0
   by_cases hlt : k < n1
   ·obtain ⟨b, o, x, rfl, g0, hx⟩ := ((hg1.mv elInt_ok (Mv.below hB HS)).hasI).get hlt
    have hxb := HPL.out.2.2.1 x (List.mem_of_getElem? hx.out)
    have x0 := hxb.1
    have x3 := hxb.2
    have i0 : (0 : Int) ≤ (k : Int) := by omega
    have i1 : (k : Int) < (n1 : Int) := by omega
    have HY := Lib.hid (encI_len (x := x) (by omega) (by omega))
    have HPI := Lib.hid (refPutInt_at hO x (by omega) (by omega) (by have := HLB.out; have := HE1.out; have := hle.out; simp only [List.length_append]; omega))
    clear hxb
    go_wp2_with fail
    refine HPI.out.mono ?_
    rintro e w3 ⟨v3, rfl, hO3, hb3⟩
    have hF := Lib.hid (show AtB w3 v3 (l ++ encI n1 ++ (G.take (k + 1)).flatMap encI) ∧ Below w2.heap.size w2 w3 ∧ Hid (((G.take (k + 1)).flatMap encI).length ≤ 10 * (k + 1)) from
     ⟨by rw [flat_snoc hx.out, ← List.append_assoc]; exact hO3, hB.trans (hb3.mono hB.size), Lib.hid (by rw [flat_snoc hx.out, List.length_append]; have := hle.out; have := HY.out; omega)⟩)
    clear HPI hO3 hb3 hO hB g0 k3
    go_wp2_with fail
    go_roundw
    case rel => exact ⟨k + 1, by omega, by go_num, hF.out⟩
    case measure => simp [intOf]; omega
   ·rw [List.take_of_length_le (by have := HG.out; omega)] at hO hle
    have HLE := Lib.hid (show (G.flatMap encI).length ≤ 30 by have := hle.out; omega)
    have k5 : wr.cell? ⟨w.heap.size, 1, none⟩ = some (.slice A2 n2 c2) := (HBK.out.below hB HBK.out.lt).cell 1
    have HPI := Lib.hid (refPutInt_at hO (n2 : Int) (by omega) (by omega) (by have := HLB.out; have := HE1.out; have := HLE.out; simp only [List.length_append]; omega))
    go_wp2_with fail
    refine HPI.out.mono ?_
    rintro e w3 ⟨v3, rfl, hO3, hb3⟩
    have hB3 := hB.trans (hb3.mono hB.size)
    clear HPI hb3 hO hB hle k5 k3
    go_wp2_with fail
    obtain ⟨wo, rfl⟩ : ∃ wo, wo = wr := ⟨_, rfl⟩
    go_loopw [7, 9] (fun v i wr => ∃ j : Nat, j ≤ n2 ∧ i = .int .i64 j ∧ AtB wr v (l ++ encI n1 ++ G.flatMap encI ++ encI n2 ++ (F.take j).flatMap encFl) ∧ Below w2.heap.size w2 wr ∧ Hid (((F.take j).flatMap encFl).length ≤ 330 * j)) (fun _ i _ => n2 - (intOf i).toNat)
    case atStart => exact ⟨0, Nat.zero_le _, rfl, by simpa using hO3, hB3, Lib.hid (by simp)⟩
    case round =>
     clear hO3 hB3
     obtain ⟨j, hj, rfl, hO, hB, hle⟩ := hrel
     have k6 : wr.cell? ⟨w.heap.size, 1, none⟩ = some (.slice A2 n2 c2) := (HBK.out.below hB HBK.out.lt).cell 1
     by_cases hlj : j < n2
     ·obtain ⟨b, o, d', v', A', n', c', M', rfl, _, _, g0, g1, g2, hM, he⟩ := (hf1.mv elFil_ok (Mv.below hB HS)).atF hlj
      have i0 : (0 : Int) ≤ (j : Int) := by omega
      have i1 : (j : Int) < (n2 : Int) := by omega
      have hfp := HPL.out.2.2.2 _ (List.mem_of_getElem? he.out)
      have HY := Lib.hid (encFl_len hfp)
      have HMM := Lib.hid hfp.2.2.2
      have d0 := hfp.1.1
      have d2 := hfp.1.2
      have x0 := hfp.2.1.1
      have x3 := hfp.2.1.2
      have hn6 : n' ≤ 6 := by have h1 : M'.length ≤ 6 := hfp.2.2.1; have := hM.len; omega
      simp only at d0 d2 x0 x3
      have HLM := Lib.hid hM.len
      have hn0 : (0 : Int) ≤ (n' : Int) := by omega
      have hbx := below_a1 wr (.cells #[.int .i64 d', .int .i64 v', .slice A' n' c'] 54)
      have hbf := Block.new wr 54 #[.int .i64 d', .int .i64 v', .slice A' n' c']
      have hB1 := hB.trans (hbx.mono hB.size)
      have hO1 := hO.below hbx
      have hM1 : Row (elRow elText 1) 1 (wr.alloc (.cells #[.int .i64 d', .int .i64 v', .slice A' n' c'] 54)) (fun b => S b ∧ b < w2.heap.size) A' n' c' M' := hM.mv elPath_ok (Mv.belowS hbx _)
      have HLEJ := hle
      obtain ⟨l0, hl0⟩ : ∃ l0, Hid (l ++ encI n1 ++ G.flatMap encI ++ encI n2 ++ (F.take j).flatMap encFl = l0) := ⟨_, Lib.hid rfl⟩
      have HL0 : Hid (l0.length ≤ 200000) := Lib.hid (by rw [← hl0.out]; have := HLB.out; have := HE1.out; have := HE2.out; have := HLE.out; have := hle.out; simp only [List.length_append]; omega)
      rw [hl0.out] at hO1
      have HD1 := Lib.hid (encI_len (x := d') (by omega) (by omega))
      have HD2 := Lib.hid (encI_len (x := v') (by omega) (by omega))
      have HD3 := Lib.hid (encI_len (x := (n' : Int)) (by omega) (by omega))
      clear hB hbx hM hO hfp
      go_wp2_with fail
      generalize wr.alloc (.cells #[.int .i64 d', .int .i64 v', .slice A' n' c'] 54) = W1 at hB1 hbf hO1 hM1 ⊢
      have HBF := Lib.hid hbf
      have f0 : W1.cell? ⟨wr.heap.size, 0, none⟩ = some (.int .i64 d') := hbf.cell 0
      have HPI := Lib.hid (refPutInt_at hO1 d' (by omega) (by omega) (by have := HL0.out; omega))
      have hMS : ∀ b, (S b ∧ b < w2.heap.size) → b < W1.heap.size := fun b hb => Nat.lt_of_lt_of_le hb.2 hB1.size
      clear g0 g1 g2 k6 hbf hO1
      go_wp2_with fail
      refine HPI.out.mono ?_
      rintro e w5 ⟨v5, rfl, hO5, hb5⟩
      have f1 : w5.cell? ⟨wr.heap.size, 1, none⟩ = some (.int .i64 v') := (HBF.out.below hb5 HBF.out.lt).cell 1
      have HPI2 := Lib.hid (refPutInt_at hO5 v' (by omega) (by omega) (by have := HL0.out; have := HD1.out; simp only [List.length_append]; omega))
      clear HPI f0 hO5
      go_wp2_with fail
      refine HPI2.out.mono ?_
      rintro e w6 ⟨v6, rfl, hO6, hb6⟩
      have hbb6 := below_then hb5 hb6
      have f2 : w6.cell? ⟨wr.heap.size, 2, none⟩ = some (.slice A' n' c') := (HBF.out.below hbb6 HBF.out.lt).cell 2
      have HPI3 := Lib.hid (refPutInt_at hO6 (n' : Int) (by omega) (by omega) (by have := HL0.out; have := HD1.out; have := HD2.out; simp only [List.length_append]; omega))
      clear HPI2 f1 hO6 hb5 hb6
      go_wp2_with fail
      refine HPI3.out.mono ?_
      rintro e w7 ⟨v7, rfl, hO7, hb7⟩
      have hbb7 := below_then hbb6 hb7
      clear HPI3 f2 hb7 hbb6
      go_wp2_with fail
      obtain ⟨wi, rfl⟩ : ∃ wi, wi = wr := ⟨_, rfl⟩
      go_loopw [7, 11] (fun v i wr => ∃ t : Nat, t ≤ n' ∧ i = .int .i64 t ∧ AtB wr v (l0 ++ encI d' ++ encI v' ++ encI n' ++ (M'.take t).flatMap encP) ∧ Below W1.heap.size W1 wr ∧ Hid (((M'.take t).flatMap encP).length ≤ 49 * t)) (fun _ i _ => n' - (intOf i).toNat)
      case atStart => exact ⟨0, Nat.zero_le _, rfl, by simpa using hO7, hbb7, Lib.hid (by simp)⟩
      case round =>
       clear hO7 hbb7
       obtain ⟨t, ht, rfl, hO, hB, hle⟩ := hrel
       have f2 : wr.cell? ⟨wi.heap.size, 2, none⟩ = some (.slice A' n' c') := (HBF.out.below hB HBF.out.lt).cell 2
       by_cases hlt2 : t < n'
       ·obtain ⟨b', o', A9, n9, c9, y, rfl, _, _, t0, hy, hye⟩ := (hM1.mv elPath_ok (Mv.below hB hMS)).at1 hlt2
        have i2 : (0 : Int) ≤ (t : Int) := by omega
        have i3 : (t : Int) < (n' : Int) := by omega
        have hmy := HMM.out y (List.mem_of_getElem? hye.out)
        have HT := Lib.hid (refText_yes hy.hasT hmy)
        have HX := Lib.hid (textP_len hmy)
        have HYP := Lib.hid (encP_len hmy)
        have HPT := Lib.hid (refPutText_at hO (textP y) (by have := HX.out; omega) (by have := HL0.out; have := HD1.out; have := HD2.out; have := HD3.out; have := hle.out; simp only [List.length_append]; omega))
        clear hmy hy
        go_wp2_with fail
        refine HT.out.mono ?_
        rintro e w8 ⟨rfl, rfl⟩
        go_wp2_with fail
        refine HPT.out.mono ?_
        rintro e w9 ⟨v9, rfl, hO9, hb9⟩
        have hF := Lib.hid (show AtB w9 v9 (l0 ++ encI d' ++ encI v' ++ encI n' ++ (M'.take (t + 1)).flatMap encP) ∧ Below W1.heap.size W1 w9 ∧ Hid (((M'.take (t + 1)).flatMap encP).length ≤ 49 * (t + 1)) from
         ⟨by rw [flat_snoc hye.out, ← List.append_assoc]; exact hO9, hB.trans (hb9.mono hB.size), Lib.hid (by rw [flat_snoc hye.out, List.length_append]; have := hle.out; have := HYP.out; omega)⟩)
        clear HT HPT hO hB hO9 hb9 t0 f2
        go_wp2_with fail
        go_roundw
        case rel => exact ⟨t + 1, by omega, by go_num, hF.out⟩
        case measure => simp [intOf]; omega
       ·have hF := Lib.hid (show AtB wr u7 (l ++ encI n1 ++ G.flatMap encI ++ encI n2 ++ (F.take (j + 1)).flatMap encFl) ∧ Below w2.heap.size w2 wr ∧ Hid (((F.take (j + 1)).flatMap encFl).length ≤ 330 * (j + 1)) from ⟨by
         rw [List.take_of_length_le (by have := HLM.out; omega)] at hO
         have e : l ++ encI n1 ++ G.flatMap encI ++ encI n2 ++ (F.take (j + 1)).flatMap encFl = l0 ++ encI d' ++ encI v' ++ encI n' ++ M'.flatMap encP := by
          rw [flat_snoc he.out, ← List.append_assoc, hl0.out]
          unfold encFl
          simp only [HLM.out, List.append_assoc]
         rw [e]
         exact hO, hB1.trans (hB.mono hB1.size), Lib.hid (by rw [flat_snoc he.out, List.length_append]; have := HLEJ.out; have := HY.out; omega)⟩)
        clear hO hB
        go_wp2_with fail
        go_roundw
        case rel => exact ⟨j + 1, by omega, by go_num, hF.out⟩
        case measure => simp [intOf]; omega
     ·have hF := Lib.hid (show AtB wr u7 (putQ l (G, F)) ∧ Below w.heap.size w wr from ⟨by
       rw [List.take_of_length_le (by have := HF.out; omega)] at hO
       have e : putQ l (G, F) = l ++ encI n1 ++ G.flatMap encI ++ encI n2 ++ F.flatMap encFl := by
        rw [HPB.out]
        unfold encQ
        simp only [HG.out, HF.out, List.append_assoc]
       rw [e]
       exact hO, hBw.trans (hB.mono (Nat.le_trans hz0 hz2))⟩)
      clear hO hB
      go_wp2_with fail
      go_ret2
      exact ⟨_, rfl, hF.out⟩
 ·rw [decide_eq_false hpl] at HC
  rw [putQE_no hpl]
  have HPB := Lib.hid (putQ_no (b := l) hpl)
  clear hpl
  go_enter Try.func23, Try.ntmps23
  go_wp2_with fail
  generalize w.alloc (.cells #[.slice A1 n1 c1, .slice A2 n2 c2] 30) = W at hb0 hbl h0 hB0 HC ⊢
  have k0 : W.cell? ⟨w.heap.size, 0, none⟩ = some (.slice A1 n1 c1) := hbl.cell 0
  have k1 : W.cell? ⟨w.heap.size, 1, none⟩ = some (.slice A2 n2 c2) := hbl.cell 1
  go_wp2_with fail
  refine HC.out.mono ?_
  rintro e w2 ⟨rfl, hb2⟩
  have hBw := hb0.trans (hb2.mono hb0.size)
  clear HC k0 k1
  go_wp2_with fail
  go_ret2
  exact ⟨_, rfl, by rw [HPB.out]; exact (OwnB.nil_ _ 0 5).at_, hBw⟩
end Go.Proofs.Ytmcccpbpijnbmaa
