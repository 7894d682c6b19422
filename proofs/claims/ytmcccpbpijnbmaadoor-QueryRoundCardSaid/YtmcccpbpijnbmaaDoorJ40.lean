/- BatchD, BatchE, BatchP, BatchN, BatchI, BatchK, BatchO, BatchQ, BatchX, QryG, QryX, QryP, QryQ -/
import Derived.Test.YtmcccpbpijnbmaaDoorJ1
import Derived.Test.YtmcccpbpijnbmaaDoorJ10
import Derived.Test.YtmcccpbpijnbmaaDoorJ16
import Derived.Test.YtmcccpbpijnbmaaDoorJ19
import Derived.Test.YtmcccpbpijnbmaaDoorJ26
import Derived.Test.YtmcccpbpijnbmaaDoorJ30
import Derived.Test.YtmcccpbpijnbmaaDoorJ32
import Derived.Test.YtmcccpbpijnbmaaDoorJ33
import Derived.Test.YtmcccpbpijnbmaaDoorJ35
import Derived.Test.YtmcccpbpijnbmaaDoorJ37
import Derived.Test.YtmcccpbpijnbmaaDoorJ38
import Derived.Test.YtmcccpbpijnbmaaDoorJ39
import Derived.Deep.RegionHeld3
import Derived.Deep.RegionLaw
namespace Go.Proofs.YtmcccpbpijnbmaaDoor
set_option maxRecDepth 100000
open Go.RowKit

/-! ### amiss -/
end Go.Proofs.YtmcccpbpijnbmaaDoor
namespace Go.Proofs.YtmcccpbpijnbmaaDoor
set_option maxRecDepth 100000
open Go.RowKit

end Go.Proofs.YtmcccpbpijnbmaaDoor
namespace Go.Proofs.YtmcccpbpijnbmaaDoor
set_option maxRecDepth 100000
open Go.RowKit

theorem own_ne {w : World} {base g : Nat} {e T : TypeId} {v : Value} {l : List UInt8} {cs : Array Value} (h : OwnB w base e v l) (hb : Block w g T cs) (hT : T ≠ e) : v.ownBlock ≠ some g := by
 rcases h.2 with ⟨rfl, _⟩ | ⟨k, cap, cur, rfl, _, hk, _⟩
 ·simp [Value.ownBlock]
 ·intro e'
  simp only [Value.ownBlock, Option.some.injEq] at e'
  subst e'
  have h2 : w.heap[k]? = some (.cells cs T (0, 0)) := hb
  rw [hk] at h2
  simp only [Option.some.injEq, Obj.cells.injEq] at h2
  exact hT h2.2.1.symm
theorem below_grownB {w w' : World} {base : Nat} {v : Value} {l : List UInt8} {e : TypeId} (ho : OwnB w base e v l) (hb : base ≤ w.heap.size) (hg : w.grownBy w' v.ownBlock) : Below base w w' :=
 ⟨hg.os, hg.tape, hg.output, hg.size, fun k hk => hg.block k (by omega) (fun e => by have := (ho.lt k e.symm).1; omega)⟩
theorem grown_none {w w' : World} (hb : Below w.heap.size w w') (r : Option Nat) : w.grownBy w' r := ⟨hb.os, hb.tape, hb.output, hb.size, fun k hk _ => hb.block k hk⟩
end Go.Proofs.YtmcccpbpijnbmaaDoor
namespace Go.Proofs.YtmcccpbpijnbmaaDoor
set_option maxRecDepth 100000

end Go.Proofs.YtmcccpbpijnbmaaDoor
namespace Go.Proofs.YtmcccpbpijnbmaaDoor
set_option maxRecDepth 100000
open Go.RowKit

theorem HasT.rowN {w : World} {B C n c : Nat} {A : Option Addr} {L : List Txt} (h : HasT w B A n c L) (hC : ∀ a, A = some a → C ≤ a.block) : Row elText 1 w (fun b => C ≤ b) A n c L := by
 obtain ⟨h0, vs, h1, h2⟩ := h.row
 exact ⟨h0, vs, ⟨h1.len, h1.cap, h1.fit, h1.void, fun hn => by
  obtain ⟨b, o, e, _, hl, hc⟩ := h1.has hn
  exact ⟨b, o, e, hC _ e, hl, hc⟩⟩, fun i x hi => h2 i x hi⟩
end Go.Proofs.YtmcccpbpijnbmaaDoor
namespace Go.Proofs.YtmcccpbpijnbmaaDoor
set_option maxRecDepth 100000
open Go.RowKit

theorem PtR.set {w : World} {g gr b i : Nat} {u : Value} (h : w.cell? ⟨g, 0, none⟩ = some (.pointer (some ⟨gr, 0, none⟩))) (hne : g ≠ b) : (w.setCell ⟨b, i, none⟩ u).cell? ⟨g, 0, none⟩ = some (.pointer (some ⟨gr, 0, none⟩)) := by
 refine (World.cell?_of_block ?_).trans h
 simp [World.setCell, Array.getElem?_modify]
 intro e; exact absurd e.symm hne
theorem grown_belowN {w a b : World} {r : Nat} (hg : w.grownBy a (some r)) (hb : Below a.heap.size a b) : w.grownBy b (some r) := grownBy_trans hg (grown_none hb none) (fun k h => by cases h)
def TellPath (w : World) (gr : Nat) (A : Option Addr) (n c : Nat) (l : List UInt8) (x : List Txt × Nat × Nat) (y : Ending) (w' : World) : Prop :=
 ∃ A5 n5 c5, y = .returned (.slice A5 n5 c5) ∧ elRow elText 1 w' (fun k => w.heap.size ≤ k) [.slice A5 n5 c5] x.1 ∧ Rd 53 w' gr A n c l x.2.1 x.2.2 ∧ w.grownBy w' (some gr)
abbrev PtR (w : World) (g gr : Nat) : Prop := w.cell? ⟨g, 0, none⟩ = some (.pointer (some ⟨gr, 0, none⟩))
end Go.Proofs.YtmcccpbpijnbmaaDoor
namespace Go.Proofs.YtmcccpbpijnbmaaDoor
set_option maxRecDepth 100000
open Go.RowKit

end Go.Proofs.YtmcccpbpijnbmaaDoor
namespace Go.Proofs.YtmcccpbpijnbmaaDoor
set_option maxRecDepth 100000
open Go.RowKit

theorem OwnI.grownR {w w' : World} {base gr : Nat} {v : Value} {l : List Int} (h : OwnI w base v l) (hg : w.grownBy w' (some gr)) (hr : gr < base) : OwnI w' base v l := h.kept hg (by
 rcases hv : v.ownBlock with _ | k
 ·exact .inl rfl
 ·refine .inr fun e => ?_
  injection e with e
  have := (h.lt k hv).1
  omega)
end Go.Proofs.YtmcccpbpijnbmaaDoor
namespace Go.Proofs.YtmcccpbpijnbmaaDoor
set_option maxRecDepth 100000
open Go.RowKit

theorem Rd.other {T : TypeId} {w w' : World} {gx g : Nat} {A : Option Addr} {n c : Nat} {l : List UInt8} {p e : Nat} (h : Rd T w gx A n c l p e) (hg : w.grownBy w' (some g)) (hne : gx ≠ g) (hb : HasB w' gx A n c l) : Rd T w' gx A n c l p e :=
 ⟨h.block.grown hg (fun e => hne (by injection e with e; exact e.symm)), hb, h.at_le, h.err_le⟩
theorem below_gr {w w' : World} {b C : Nat} (h : w.grownBy w' (some b)) (hC : C ≤ b) (hs : C ≤ w.heap.size) : Below C w w' := ⟨h.os, h.tape, h.output, h.size, fun k hk => h.block k (by omega) fun e => by injection e with e; omega⟩
theorem toBB {P : Program} {f : FuncId} {args : Array Value} {v : Value} {w : World} (h : Calls P f args w fun e w' => e = .returned v ∧ w = w') : Calls P f args w fun e w' => e = .returned v ∧ Below w.heap.size w w' :=
 h.mono fun _ _ ⟨he, hw⟩ => ⟨he, hw ▸ Below.refl _ _⟩
theorem toBD {P : Program} {f : FuncId} {args : Array Value} {v : Value} {w : World} (h : Calls P f args w fun e w' => e = .returned v ∧ ∃ k, w' = w.drewN k) : Calls P f args w fun e w' => e = .returned v ∧ Below w.heap.size w w' :=
 h.mono fun _ _ ⟨he, k, hw⟩ => ⟨he, hw ▸ below_drewN (Below.refl _ _) k⟩
end Go.Proofs.YtmcccpbpijnbmaaDoor
namespace Go.Proofs.YtmcccpbpijnbmaaDoor
set_option maxRecDepth 100000
open Go.RowKit

theorem putQ_no {b : List UInt8} {q : Qry} (h : ¬ plainQ q) : putQ b q = [] := if_neg h
theorem putQ_yes {b : List UInt8} {q : Qry} (h : plainQ q) : putQ b q = b ++ encQ q := if_pos h
def putQE (q : Qry) : Nat := if plainQ q then 0 else 16
theorem putQE_no {q : Qry} (h : ¬ plainQ q) : putQE q = 16 := if_neg h
theorem putQE_yes {q : Qry} (h : plainQ q) : putQE q = 0 := if_pos h
set_option maxHeartbeats 4000000 in
theorem putFl_any {S : Nat → Prop} {A : Option Addr} {n c base : Nat} {d x : Int} {M : List (List Txt)} {l : List UInt8} {v : Value} {w : World} (hp : Row (elRow elText 1) 1 w S A n c M) (hS : ∀ b, S b → b < base)
  (ho : OwnB w base 5 v l) (hb : base ≤ w.heap.size) (hl : l.length ≤ 1000000) (hpl : plainFl (d, x, M)) :
  Calls Tryd.prog 33 #[v, .agg #[.int .i64 d, .int .i64 x, .slice A n c]] w fun e w' => ∃ v', e = .returned v' ∧ OwnB w' base 5 v' (l ++ encFl (d, x, M)) ∧ Below base w w' := by
 have HL := Lib.hid hp.len
 have hd := hpl.1
 have hx := hpl.2.1
 have hn6 : n ≤ 6 := by have h1 : M.length ≤ 6 := hpl.2.2.1; have := hp.len; omega
 have hn0 : (0 : Int) ≤ (n : Int) := by omega
 simp only at hd hx
 have d0 := hd.1
 have d2 := hd.2
 have x0 := hx.1
 have x3 := hx.2
 have HPL := Lib.hid hpl.2.2.2
 have HLL := Lib.hid hl
 have hb0 := below_a1 w (.cells #[.int .i64 d, .int .i64 x, .slice A n c] 57)
 have hbl := Block.new w 57 #[.int .i64 d, .int .i64 x, .slice A n c]
 have ho0 := ho.below hb0 (Nat.le_refl _)
 have hbs := Nat.le_trans hb hb0.size
 have HB0 := Lib.hid (hb0.mono hb)
 have Hb := Lib.hid hb
 clear hpl hl ho hb hb0 hd hx
 have HE1 := Lib.hid (encI_len (x := d) (by omega) (by omega))
 have HE2 := Lib.hid (encI_len (x := x) (by omega) (by omega))
 have HE3 := Lib.hid (encI_len (x := (n : Int)) (by omega) (by omega))
 go_enter Tryd.func33, Tryd.ntmps33
 go_wp2_with fail
 generalize w.alloc (.cells #[.int .i64 d, .int .i64 x, .slice A n c] 57) = W at hbl ho0 hbs HB0 ⊢
 have k0 : W.cell? ⟨w.heap.size, 0, none⟩ = some (.int .i64 d) := hbl.cell 0
 have HP1 := Lib.hid (putInt_own v l d (by omega) (by omega) W base ho0 hbs (by have := HLL.out; omega))
 go_wp2_with fail
 refine HP1.out.mono ?_
 rintro e w1 ⟨v1, rfl, hO1, hG1⟩
 have hB1 := HB0.out.trans (hG1.below_ hbs (fun k e => (ho0.lt k e).1))
 have hbl1 := hbl.grown hG1.1 (own_ne ho0 hbl (by decide))
 have hs1 := Nat.le_trans Hb.out hB1.size
 have k1 : w1.cell? ⟨w.heap.size, 1, none⟩ = some (.int .i64 x) := hbl1.cell 1
 have hO1' : OwnB w1 base 5 v1 (l ++ encI d) := hO1
 have HP2 := Lib.hid (putInt_own v1 _ x (by omega) (by omega) w1 base hO1' hs1 (by have := HLL.out; have := HE1.out; simp only [List.length_append]; omega))
 clear HP1 hG1 hbl ho0 k0 hO1
 go_wp2_with fail
 refine HP2.out.mono ?_
 rintro e w2 ⟨v2, rfl, hO2, hG2⟩
 have hB2 := hB1.trans (hG2.below_ hs1 (fun k e => (hO1'.lt k e).1))
 have hbl2 := hbl1.grown hG2.1 (own_ne hO1' hbl1 (by decide))
 have hs2 := Nat.le_trans Hb.out hB2.size
 have k2 : w2.cell? ⟨w.heap.size, 2, none⟩ = some (.slice A n c) := hbl2.cell 2
 have hO2' : OwnB w2 base 5 v2 (l ++ encI d ++ encI x) := hO2
 have HP3 := Lib.hid (putInt_own v2 _ (n : Int) (by omega) (by omega) w2 base hO2' hs2 (by have := HLL.out; have := HE1.out; have := HE2.out; simp only [List.length_append]; omega))
 clear HP2 hG2 hbl1 k1 hO2 hO1' hB1 hs1
 go_wp2_with fail
 refine HP3.out.mono ?_
 rintro e w3 ⟨v3, rfl, hO3, hG3⟩
 have hB3 := hB2.trans (hG3.below_ hs2 (fun k e => (hO2'.lt k e).1))
 have hbl3 := hbl2.grown hG3.1 (own_ne hO2' hbl2 (by decide))
 have k3 : w3.cell? ⟨w.heap.size, 2, none⟩ = some (.slice A n c) := hbl3.cell 2
 have hO3' : OwnB w3 base 5 v3 (l ++ encI d ++ encI x ++ encI n) := hO3
 clear HP3 hG3 hbl2 k2 hO3 hO2' hB2 hs2 hbl3
 go_wp2_with fail
 clear k3
 go_loopw [0, 25] (fun v i wr => ∃ k : Nat, k ≤ n ∧ i = .int .i64 k ∧ OwnB wr base 5 v (l ++ encI d ++ encI x ++ encI n ++ (M.take k).flatMap encP) ∧ Below base w wr ∧ Hid (((M.take k).flatMap encP).length ≤ 49 * k)) (fun _ i _ => n - (intOf i).toNat)
 case atStart => exact ⟨0, Nat.zero_le _, rfl, by simpa using hO3', hB3, Lib.hid (by simp)⟩
 case round =>
  clear hO3' hB3
  obtain ⟨k, hk, rfl, hO, hB, hle⟩ := hrel
  have hwb : base ≤ wr.heap.size := Nat.le_trans Hb.out hB.size
  by_cases hlt : k < n
  ·obtain ⟨b, o, A', n', c', y, rfl, _, _, g0, hy, he⟩ := (hp.mv elPath_ok (Mv.below hB hS)).at1 hlt
   have i0 : (0 : Int) ≤ (k : Int) := by omega
   have i1 : (k : Int) < (n : Int) := by omega
   have hT := hy.hasT
   have hm := HPL.out y (List.mem_of_getElem? he.out)
   have HT := Lib.hid (text_yes hT hm)
   have HX := Lib.hid (textP_len hm)
   have HY := Lib.hid (encP_len hm)
   clear hT hm hy
   go_wp2_with fail
   refine HT.out.mono ?_
   rintro e w2 ⟨rfl, hb2⟩
   have hO2 := hO.below hb2 (Nat.le_refl _)
   have hB2 := hB.trans (hb2.mono hwb)
   have hwb2 := Nat.le_trans hwb hb2.size
   have HPT := Lib.hid (putText_grown u0 _ (textP y) w2 base hO2 hwb2 (by have := HLL.out; have := HE1.out; have := HE2.out; have := HE3.out; have := hle.out; have := HX.out; simp only [List.length_append]; omega))
   clear hO hB hb2 g0 HT
   go_wp2_with fail
   refine HPT.out.mono ?_
   rintro e w3 ⟨v3, rfl, hO3, hG3⟩
   have hF := Lib.hid (show OwnB w3 base 5 v3 (l ++ encI d ++ encI x ++ encI n ++ (M.take (k + 1)).flatMap encP) ∧ Below base w w3 ∧ Hid (((M.take (k + 1)).flatMap encP).length ≤ 49 * (k + 1)) from
    ⟨by rw [flat_snoc he.out, ← List.append_assoc]; exact hO3, hB2.trans (below_grownB hO2 hwb2 hG3), Lib.hid (by rw [flat_snoc he.out, List.length_append]; have := hle.out; have := HY.out; omega)⟩)
   clear HPT hO2 hO3 hG3 hB2
   go_wp2_with fail
   go_roundw
   case rel => exact ⟨k + 1, by omega, by go_num, hF.out⟩
   case measure => simp [intOf]; omega
  ·have hF := Lib.hid (show OwnB wr base 5 u0 (l ++ encFl (d, x, M)) ∧ Below base w wr from ⟨by
    rw [List.take_of_length_le (by have := HL.out; omega)] at hO
    have e : l ++ encFl (d, x, M) = l ++ encI d ++ encI x ++ encI n ++ M.flatMap encP := by
     unfold encFl
     simp only [HL.out, List.append_assoc]
    rw [e]
    exact hO, hB⟩)
   clear hO hB
   go_wp2_with fail
   go_ret
   exact ⟨_, rfl, hF.out.1, hF.out.2⟩
set_option maxHeartbeats 4000000 in
theorem putQry_any {S : Nat → Prop} {A1 A2 B : Option Addr} {n1 c1 n2 c2 m d : Nat} {q : Qry} {l : List UInt8} {w : World} (hq : HasQ w S A1 n1 c1 A2 n2 c2 q) (hb : HasB w w.heap.size B m d l) (hm : m ≤ 100000) :
  Calls Tryd.prog 15 #[.slice B m d, qryV A1 n1 c1 A2 n2 c2] w fun e w' => ∃ v, e = .returned (.tuple #[v, .int .i64 (putQE q : Nat)]) ∧ OwnB w' w.heap.size 5 v (putQ l q) ∧ Below w.heap.size w w' := by
 have hb0 := below_a1 w (.cells #[.slice A1 n1 c1, .slice A2 n2 c2] 32)
 have hbl := Block.new w 32 #[.slice A1 n1 c1, .slice A2 n2 c2]
 have h0 := hq.belowS hb0
 have hB0 := hb.belowS hb0
 have HC := Lib.hid (plainQ_any h0)
 have HLB := Lib.hid hb.len
 clear hq hb
 by_cases hpl : plainQ q
 ·rw [decide_eq_true hpl] at HC
  have HPL := Lib.hid hpl
  rw [putQE_yes hpl]
  have HPB := Lib.hid (putQ_yes (b := l) hpl)
  obtain ⟨G, F⟩ := q
  have HG := Lib.hid (show G.length = n1 from h0.g.len)
  have HF := Lib.hid (show F.length = n2 from h0.f.len)
  have hn1 : n1 ≤ 3 := by have h1 : G.length ≤ 3 := hpl.1; have := HG.out; omega
  have hn2 : n2 ≤ 3 := by have h1 : F.length ≤ 3 := hpl.2.1; have := HF.out; omega
  have hi0 : (0 : Int) ≤ (n1 : Int) := by omega
  have hi1 : (0 : Int) ≤ (n2 : Int) := by omega
  clear hpl
  go_enter Tryd.func15, Tryd.ntmps15
  go_wp2_with fail
  generalize w.alloc (.cells #[.slice A1 n1 c1, .slice A2 n2 c2] 32) = W at hb0 hbl h0 hB0 HC ⊢
  have k0 : W.cell? ⟨w.heap.size, 0, none⟩ = some (.slice A1 n1 c1) := hbl.cell 0
  have k1 : W.cell? ⟨w.heap.size, 1, none⟩ = some (.slice A2 n2 c2) := hbl.cell 1
  have hz0 := hb0.size
  go_wp2_with fail
  refine HC.out.mono ?_
  rintro e w2 ⟨rfl, hb2⟩
  have hbl2 := hbl.below hb2 hbl.lt
  have hz2 := hb2.size
  have hBw := hb0.trans (hb2.mono hz0)
  have K0 : Hid (∀ y, Below w2.heap.size w2 y → y.cell? ⟨w.heap.size, 0, none⟩ = some (.slice A1 n1 c1)) := Lib.hid fun y hy => (hbl2.below hy hbl2.lt).cell 0
  have hg1 : Row elInt 1 w2 (fun b => S b ∧ b < w2.heap.size) A1 n1 c1 G := (h0.g.mv elInt_ok (Mv.belowS hb2 S)).mv elInt_ok (Mv.to w2 fun b hb hl => ⟨hb, hl⟩)
  have hf1 : Row elFil 3 w2 (fun b => S b ∧ b < w2.heap.size) A2 n2 c2 F := (h0.f.mv elFil_ok (Mv.belowS hb2 S)).mv elFil_ok (Mv.to w2 fun b hb hl => ⟨hb, hl⟩)
  have HCl := Lib.hid (clone_any B m d l w2.drew ((hB0.belowS hb2).drewN 1) (by omega))
  have HBK := Lib.hid hbl2
  have k2 : w2.cell? ⟨w.heap.size, 0, none⟩ = some (.slice A1 n1 c1) := hbl2.cell 0
  clear HC h0 hB0 k0 k1 hbl hb2 hbl2
  go_wp2_with fail
  go_region_held3 (fun w' => w'.cell? ⟨w.heap.size, 0, none⟩ = some (.slice A1 n1 c1))
   (first
    | go_keep
    | exact K0.out _ hBB4
    | exact K0.out _ hBB3)
   (first
    | (go_at_call 17; refine HCl.out.mono ?_; rintro e w3 ⟨⟨v3, rfl, hO3⟩, hb3⟩; have hBB3 : Below w2.heap.size w2 w3 := (below_drewN (Below.refl _ w2) 1).trans hb3)
    | (go_at_call 32; refine (putInt_own v3 l (n1 : Int) (by omega) (by omega) w3 w2.heap.size hO3 hBB3.size (by have := HLB.out; omega)).mono ?_; rintro e w4 ⟨v4, rfl, hO4, hG4⟩; have hBB4 : Below w2.heap.size w2 w4 := hBB3.trans (hG4.below_ hBB3.size (fun k e => (hO3.lt k e).1))))
  have hO4' : OwnB w4 w2.heap.size 5 v4 (l ++ encI n1) := hO4
  have k4 := K0.out w4 hBB4
  have HE1 := Lib.hid (encI_len (x := (n1 : Int)) (by omega) (by omega))
  have HE2 := Lib.hid (encI_len (x := (n2 : Int)) (by omega) (by omega))
  have HS : ∀ b, (S b ∧ b < w2.heap.size) → b < w2.heap.size := fun b hb => hb.2
  clear hO4 hG4 hO3 hb3 hBB3 HCl k2
  go_wp2_with fail
  clear k4
  go_loopw [6, 23] (fun v i wr => ∃ k : Nat, k ≤ n1 ∧ i = .int .i64 k ∧ OwnB wr w2.heap.size 5 v (l ++ encI n1 ++ (G.take k).flatMap encI) ∧ Below w2.heap.size w2 wr ∧ Hid (((G.take k).flatMap encI).length ≤ 10 * k)) (fun _ i _ => n1 - (intOf i).toNat)
  case atStart => exact ⟨0, Nat.zero_le _, rfl, by simpa using hO4', hBB4, Lib.hid (by simp)⟩
  case round =>
   clear hO4' hBB4
   obtain ⟨k, hk, rfl, hO, hB, hle⟩ := hrel
   have hwb := hB.size
   by_cases hlt : k < n1
   ·obtain ⟨b, o, x, rfl, _, g0, hx⟩ := (hg1.mv elInt_ok (Mv.below hB HS)).hasI.at_ hlt
    have hget : G[k]? = some x := by
     rw [hx.out, List.getD_eq_getElem?_getD, List.getElem?_eq_getElem (show k < G.length by have := HG.out; omega)]
     rfl
    have HGet := Lib.hid hget
    have hxb := HPL.out.2.2.1 x (List.mem_of_getElem? hget)
    have x0 := hxb.1
    have x3 := hxb.2
    have i0 : (0 : Int) ≤ (k : Int) := by omega
    have i1 : (k : Int) < (n1 : Int) := by omega
    have HY := Lib.hid (encI_len (x := x) (by omega) (by omega))
    have HPI := Lib.hid (putInt_own u6 _ x (by omega) (by omega) wr w2.heap.size hO hwb (by have := HLB.out; have := HE1.out; have := hle.out; simp only [List.length_append]; omega))
    clear hget hx hxb
    go_wp2_with fail
    refine HPI.out.mono ?_
    rintro e w3 ⟨v3, rfl, hO3, hG3⟩
    have hF := Lib.hid (show OwnB w3 w2.heap.size 5 v3 (l ++ encI n1 ++ (G.take (k + 1)).flatMap encI) ∧ Below w2.heap.size w2 w3 ∧ Hid (((G.take (k + 1)).flatMap encI).length ≤ 10 * (k + 1)) from
     ⟨by rw [flat_snoc HGet.out, ← List.append_assoc]; exact hO3, hB.trans (hG3.below_ hwb (fun k e => (hO.lt k e).1)), Lib.hid (by rw [flat_snoc HGet.out, List.length_append]; have := hle.out; have := HY.out; omega)⟩)
    clear HPI hO3 hG3 hO hB g0
    go_wp2_with fail
    go_roundw
    case rel => exact ⟨k + 1, by omega, by go_num, hF.out⟩
    case measure => simp [intOf]; omega
   ·rw [List.take_of_length_le (by have := HG.out; omega)] at hO hle
    have HLE := Lib.hid (show (G.flatMap encI).length ≤ 30 by have := hle.out; omega)
    have hblr := HBK.out.below hB HBK.out.lt
    have k5 : wr.cell? ⟨w.heap.size, 1, none⟩ = some (.slice A2 n2 c2) := hblr.cell 1
    have HPI := Lib.hid (putInt_own u6 _ (n2 : Int) (by omega) (by omega) wr w2.heap.size hO hwb (by have := HLB.out; have := HE1.out; have := HLE.out; simp only [List.length_append]; omega))
    go_wp2_with fail
    refine HPI.out.mono ?_
    rintro e w3 ⟨v3, rfl, hO3, hG3⟩
    have hB3 := hB.trans (hG3.below_ hwb (fun k e => (hO.lt k e).1))
    have hO3' : OwnB w3 w2.heap.size 5 v3 (l ++ encI n1 ++ G.flatMap encI ++ encI n2) := hO3
    have k6 : w3.cell? ⟨w.heap.size, 1, none⟩ = some (.slice A2 n2 c2) := (HBK.out.below hB3 HBK.out.lt).cell 1
    clear HPI hO3 hG3 hO hB hle k5 hblr
    go_wp2_with fail
    clear k6
    obtain ⟨wo, rfl⟩ : ∃ wo, wo = wr := ⟨_, rfl⟩
    go_loopw [6, 39] (fun v i wr => ∃ j : Nat, j ≤ n2 ∧ i = .int .i64 j ∧ OwnB wr w2.heap.size 5 v (l ++ encI n1 ++ G.flatMap encI ++ encI n2 ++ (F.take j).flatMap encFl) ∧ Below w2.heap.size w2 wr ∧ Hid (((F.take j).flatMap encFl).length ≤ 330 * j)) (fun _ i _ => n2 - (intOf i).toNat)
    case atStart => exact ⟨0, Nat.zero_le _, rfl, by simpa using hO3', hB3, Lib.hid (by simp)⟩
    case round =>
     clear hO3' hB3
     obtain ⟨j, hj, rfl, hO, hB, hle⟩ := hrel
     by_cases hlj : j < n2
     ·obtain ⟨b, o, d', v', A', n', c', M', rfl, _, _, g0, g1, g2, hM, he⟩ := (hf1.mv elFil_ok (Mv.below hB HS)).atF hlj
      have i0 : (0 : Int) ≤ (j : Int) := by omega
      have i1 : (j : Int) < (n2 : Int) := by omega
      have hfp := HPL.out.2.2.2 _ (List.mem_of_getElem? he.out)
      have HY := Lib.hid (encFl_len hfp)
      have hbx := below_a1 wr (.cells #[.int .i64 d', .int .i64 v', .slice A' n' c'] 57)
      have hbf := Block.new wr 57 #[.int .i64 d', .int .i64 v', .slice A' n' c']
      have hB1 := hB.trans (hbx.mono hB.size)
      have hO1 := hO.below hbx (Nat.le_refl _)
      have HC := Lib.hid (putFl_any (hM.mv elPath_ok (Mv.belowS hbx _)) HS hO1 hB1.size (by have := HLB.out; have := HE1.out; have := HE2.out; have := HLE.out; have := hle.out; simp only [List.length_append]; omega) hfp)
      clear hB hbx hM hO hfp
      go_wp2_with fail
      generalize wr.alloc (.cells #[.int .i64 d', .int .i64 v', .slice A' n' c'] 57) = W1 at hB1 hbf HC hO1 ⊢
      have f0 : W1.cell? ⟨wr.heap.size, 0, none⟩ = some (.int .i64 d') := hbf.cell 0
      have f1 : W1.cell? ⟨wr.heap.size, 1, none⟩ = some (.int .i64 v') := hbf.cell 1
      have f2 : W1.cell? ⟨wr.heap.size, 2, none⟩ = some (.slice A' n' c') := hbf.cell 2
      clear g0 g1 g2
      go_wp2_with fail
      refine HC.out.mono ?_
      rintro e w5 ⟨v5, rfl, hO5, hb5⟩
      have hF := Lib.hid (show OwnB w5 w2.heap.size 5 v5 (l ++ encI n1 ++ G.flatMap encI ++ encI n2 ++ (F.take (j + 1)).flatMap encFl) ∧ Below w2.heap.size w2 w5 ∧ Hid (((F.take (j + 1)).flatMap encFl).length ≤ 330 * (j + 1)) from
       ⟨by rw [flat_snoc he.out, ← List.append_assoc]; exact hO5, hB1.trans hb5, Lib.hid (by rw [flat_snoc he.out, List.length_append]; have := hle.out; have := HY.out; omega)⟩)
      clear HC hO1 hO5 hb5 hB1 hbf f0 f1 f2
      go_wp2_with fail
      go_roundw
      case rel => exact ⟨j + 1, by omega, by go_num, hF.out⟩
      case measure => simp [intOf]; omega
     ·have hF := Lib.hid (show OwnB wr w.heap.size 5 u6 (putQ l (G, F)) ∧ Below w.heap.size w wr from ⟨by
       rw [List.take_of_length_le (by have := HF.out; omega)] at hO
       have e : putQ l (G, F) = l ++ encI n1 ++ G.flatMap encI ++ encI n2 ++ F.flatMap encFl := by
        rw [HPB.out]
        unfold encQ
        simp only [HG.out, HF.out, List.append_assoc]
       rw [e]
       exact hO.low (Nat.le_trans hz0 hz2), hBw.trans (hB.mono (Nat.le_trans hz0 hz2))⟩)
      clear hO hB
      go_wp2_with fail
      go_ret2
      exact ⟨_, rfl, hF.out⟩
 ·rw [decide_eq_false hpl] at HC
  rw [putQE_no hpl]
  have HPB := Lib.hid (putQ_no (b := l) hpl)
  clear hpl
  go_enter Tryd.func15, Tryd.ntmps15
  go_wp2_with fail
  generalize w.alloc (.cells #[.slice A1 n1 c1, .slice A2 n2 c2] 32) = W at hb0 hbl h0 hB0 HC ⊢
  have k0 : W.cell? ⟨w.heap.size, 0, none⟩ = some (.slice A1 n1 c1) := hbl.cell 0
  have k1 : W.cell? ⟨w.heap.size, 1, none⟩ = some (.slice A2 n2 c2) := hbl.cell 1
  go_wp2_with fail
  refine HC.out.mono ?_
  rintro e w2 ⟨rfl, hb2⟩
  have hBw := hb0.trans (hb2.mono hb0.size)
  clear HC k0 k1
  go_wp2_with fail
  go_ret2
  exact ⟨_, rfl, by rw [HPB.out]; exact OwnB.nil_ _ _ _, hBw⟩
end Go.Proofs.YtmcccpbpijnbmaaDoor
namespace Go.Proofs.YtmcccpbpijnbmaaDoor
set_option maxRecDepth 100000
open Go.RowKit

set_option maxHeartbeats 1000000 in
theorem readPathQ_any {w : World} {gr : Nat} {A : Option Addr} {n c : Nat} {l : List UInt8} {p e : Nat} (hR : Rd 53 w gr A n c l p e) :
  Calls Tryd.prog 37 #[.pointer (some ⟨gr, 0, none⟩)] w (TellPath w gr A n c l (rdPath l p e)) := by
 have htx := text_any w gr A n c l p e hR 38
 have htl := tx38_len l p e
 obtain ⟨t, ht⟩ : ∃ t, Hid (tx l p e 38 = t) := ⟨_, Lib.hid rfl⟩
 rw [ht.out] at htx htl
 obtain ⟨s, p2, e2⟩ := t
 have HT := Lib.hid htx
 have hgl := hR.lt
 clear htx hR
 rcases hp : pathP s with _ | q
 ·have HX := Lib.hid (rdPath_no ht.out hp)
  have HP := Lib.hid hp
  clear hp
  go_enter Tryd.func37, Tryd.ntmps37
  go_wp2_with fail
  refine HT.out.mono ?_
  rintro y w1 ⟨rfl, hR1, hG1⟩
  have HC := Lib.hid (path_any s w1 (by have : s.length ≤ 38 := htl; omega))
  rw [HP.out] at HC
  clear HT
  go_wp2_with fail
  refine HC.out.mono ?_
  rintro y w2 hy
  obtain ⟨rfl, hb2⟩ := hy.no
  have hR2 := hR1.below hb2 hR1.lt
  have hG2 := grown_belowN hG1 hb2
  have HB := Lib.hid (bad_any w2 gr A n c l p2 e2 hR2)
  clear HC hy hb2 hR1 hG1 hR2
  go_wp2_with fail
  refine HB.out.mono ?_
  rintro y w3 ⟨rfl, hR3, hG3⟩
  have hG4 := grownBy_trans hG2 hG3 (fun k h => .inl h)
  have hF := Lib.hid (And.intro hR3 hG4)
  clear HB hG2 hG3 hG4 hR3
  go_wp2_with fail
  go_ret
  rw [HX.out]
  exact ⟨none, 0, 0, rfl, ⟨none, 0, 0, rfl, Row.none_ _ _⟩, hF.out.1, hF.out.2⟩
 ·have HX := Lib.hid (rdPath_yes ht.out hp)
  have HP := Lib.hid hp
  clear hp
  go_enter Tryd.func37, Tryd.ntmps37
  go_wp2_with fail
  refine HT.out.mono ?_
  rintro y w1 ⟨rfl, hR1, hG1⟩
  have HC := Lib.hid (path_any s w1 (by have : s.length ≤ 38 := htl; omega))
  rw [HP.out] at HC
  clear HT
  go_wp2_with fail
  refine HC.out.mono ?_
  rintro y w2 hy
  obtain ⟨B, j, d, rfl, hv, hfr, hb2⟩ := hy.fresh
  have hR2 := hR1.below hb2 hR1.lt
  have hG2 := grown_belowN hG1 hb2
  have hz := hG1.size
  have hF := Lib.hid (show elRow elText 1 w2 (fun k => w.heap.size ≤ k) [.slice B j d] q ∧ Rd 53 w2 gr A n c l p2 e2 ∧ w.grownBy w2 (some gr) from
   ⟨⟨B, j, d, rfl, hv.rowN fun a ha => Nat.le_trans hz (hfr a ha)⟩, hR2, hG2⟩)
  clear HC hy hv hfr hb2 hR1 hG1 hR2 hG2
  go_wp2_with fail
  go_ret
  rw [HX.out]
  exact ⟨B, j, d, rfl, hF.out⟩
def TellFr (w : World) (gr : Nat) (A : Option Addr) (n c : Nat) (l : List UInt8) (x : Fil × Nat × Nat) (y : Ending) (w' : World) : Prop :=
 ∃ d v A5 n5 c5, y = .returned (.agg #[.int .i64 d, .int .i64 v, .slice A5 n5 c5]) ∧ elFil w' (fun k => w.heap.size ≤ k) [.int .i64 d, .int .i64 v, .slice A5 n5 c5] x.1 ∧ Rd 53 w' gr A n c l x.2.1 x.2.2 ∧ w.grownBy w' (some gr)
theorem info_filterS : (Tryd.prog.info? 57).map (·.size) = some 3 := by kernel_rfl
set_option maxHeartbeats 4000000 in
theorem readFl_any {w : World} {gr : Nat} {A : Option Addr} {n c : Nat} {l : List UInt8} {p e : Nat} (hR : Rd 53 w gr A n c l p e) :
  Calls Tryd.prog 19 #[.pointer (some ⟨gr, 0, none⟩)] w (TellFr w gr A n c l (rdFl l p e)) := by
 have hgl := hR.lt
 have hb0 := below_a1 w (.cells #[.int .i64 0, .int .i64 0, .slice none 0 0] 57)
 have hbr := Block.new w 57 #[.int .i64 0, .int .i64 0, .slice none 0 0]
 have hR0 := hR.below hb0 hgl
 obtain ⟨t1, ht1⟩ : ∃ t, Hid (lk l p e 0 2 = t) := ⟨_, Lib.hid rfl⟩
 obtain ⟨d, k1, e1⟩ := t1
 obtain ⟨t2, ht2⟩ : ∃ t, Hid (lk l (p + k1) e1 0 3 = t) := ⟨_, Lib.hid rfl⟩
 obtain ⟨v, k2, e2⟩ := t2
 obtain ⟨a3, k3, e3, hlk3, ham3⟩ := lkN_nat l (p + k1 + k2) e2 (hi := 6)
 have HS3 := Lib.hid (sevA_is (rd := rdPath) hlk3)
 obtain ⟨Z, hZ⟩ : ∃ Z, Hid (sevA rdPath 6 l (p + k1 + k2) e2 = Z) := ⟨_, Lib.hid rfl⟩
 rw [hZ.out] at HS3
 obtain ⟨MZ, p9, e9⟩ := Z
 have HX := Lib.hid (rdFl_is (rdNum_is ht1.out) (rdNum_is ht2.out) hZ.out)
 rw [HX.out]
 have hint1 := int_any (w.alloc (.cells #[.int .i64 0, .int .i64 0, .slice none 0 0] 57)) gr A n c l p e hR0 0 2
 rw [ht1.out] at hint1
 have HI1 := Lib.hid hint1
 have HL3 := Lib.hid hlk3
 clear hint1 hR hR0 hlk3
 go_enter Tryd.func19, Tryd.ntmps19
 go_wp2_with fail
 have hsz : (w.alloc (.cells #[.int .i64 0, .int .i64 0, .slice none 0 0] 57)).heap.size = w.heap.size + 1 := by simp
 generalize w.alloc (.cells #[.int .i64 0, .int .i64 0, .slice none 0 0] 57) = W at hb0 hbr HI1 hsz ⊢
 refine HI1.out.mono ?_
 rintro y w1 ⟨rfl, hR1, hG1⟩
 have hbr1 := hbr.grown hG1 (fun e => by injection e with e; omega)
 have hG1' : w.grownBy w1 (some gr) := grownBy_trans (grown_none hb0 (some gr)) hG1 (fun k h => .inl h)
 have hint2 := int_any w1 gr A n c l (p + k1) e1 hR1 0 3
 rw [ht2.out] at hint2
 have HI2 := Lib.hid hint2
 have hz1 := hG1.size
 clear HI1 hint2 hbr hb0 hG1 hR1
 go_wp2_with fail
 refine HI2.out.mono ?_
 rintro y w2 ⟨rfl, hR2, hG2⟩
 have hbr2 := hbr1.grown hG2 (fun e => by injection e with e; omega)
 have hG2' : w.grownBy w2 (some gr) := grownBy_trans hG1' hG2 (fun k h => .inl h)
 have hz2 := hG2.size
 have hbx := below_a1 w2 (.cells #[.int .i64 d, .int .i64 v, .slice none 0 0] 57)
 have hbf := Block.new w2 57 #[.int .i64 d, .int .i64 v, .slice none 0 0]
 have hint3 := int_any (w2.alloc (.cells #[.int .i64 d, .int .i64 v, .slice none 0 0] 57)) gr A n c l (p + k1 + k2) e2 (hR2.below hbx hR2.lt) 0 6
 rw [show (6 : Int) = ((6 : Nat) : Int) from rfl, HL3.out] at hint3
 have HI3 := Lib.hid hint3
 have hbr3 := hbr2.below hbx hbr2.lt
 clear HI2 hint3 hbr1 hG1' hG2 hR2 hbr2
 go_wp2_with fail
 have hsz2 : (w2.alloc (.cells #[.int .i64 d, .int .i64 v, .slice none 0 0] 57)).heap.size = w2.heap.size + 1 := by simp
 generalize w2.alloc (.cells #[.int .i64 d, .int .i64 v, .slice none 0 0] 57) = W2 at hbx hbf HI3 hsz2 hbr3 ⊢
 refine HI3.out.mono ?_
 rintro y w3 ⟨rfl, hR3, hG3⟩
 have hblk3 := hbf.grown hG3 (fun e => by injection e with e; omega)
 have hbr4 := hbr3.grown hG3 (fun e => by injection e with e; omega)
 have hG4 : w.grownBy w3 (some gr) := grownBy_trans (grownBy_trans hG2' (grown_none hbx none) (fun k h => by cases h)) hG3 (fun k h => .inl h)
 have hz3 := hG3.size
 clear HI3 hbf hbx hG3 hbr3 hG2'
 go_wp2_with fail
 go_loopw [11] (fun i wi => ∃ (j : Nat) (vp : Value), j ≤ a3 ∧ i = .int .i64 j ∧ OwnR (elRow elText 1) 41 1 wi (w2.heap.size + 1) (fun b => w2.heap.size + 1 ≤ b) vp (sevN rdPath l (p + k1 + k2 + k3) e3 j).1 ∧ Rd 53 wi gr A n c l (sevN rdPath l (p + k1 + k2 + k3) e3 j).2.1 (sevN rdPath l (p + k1 + k2 + k3) e3 j).2.2 ∧ Block wi w2.heap.size 57 #[.int .i64 d, .int .i64 v, vp] ∧ Block wi w.heap.size 57 #[.int .i64 0, .int .i64 0, .slice none 0 0] ∧ w.grownBy wi (some gr)) (fun i _ => a3 - (intOf i).toNat)
 case atStart => exact ⟨0, .slice none 0 0, Nat.zero_le _, rfl, OwnR.nil_ _ _ _, hR3, hblk3, hbr4, hG4⟩
 case round =>
  clear hR3 hblk3 hG4 hbr4
  obtain ⟨j, vp, hj, rfl, hP, hR, hblk, hbr, hG⟩ := hrel
  have hzj := sevN_len (rd := rdPath) (l := l) (p := p + k1 + k2 + k3) (e := e3) j
  obtain ⟨Yj, hYj⟩ : ∃ Y, Hid (sevN rdPath l (p + k1 + k2 + k3) e3 j = Y) := ⟨_, Lib.hid rfl⟩
  rw [hYj.out] at hP hR hzj
  obtain ⟨X, p3, e5⟩ := Yj
  simp only at hP hR hzj
  obtain ⟨Av, nv, cv, rfl⟩ : ∃ A n c, vp = .slice A n c := by
   obtain ⟨A, c, e⟩ := hP.shape
   exact ⟨A, _, c, e⟩
  have hgz := hG.size
  have hbk := hblk.lt
  by_cases hlj : j < a3
  ·have HRP := Lib.hid (readPathQ_any (hR.drewN 1))
   obtain ⟨t, ht⟩ : ∃ t, Hid (rdPath l p3 e5 = t) := ⟨_, Lib.hid rfl⟩
   rw [ht.out] at HRP
   obtain ⟨q, p4, e4⟩ := t
   have HT := Lib.hid (sevN_step hYj.out ht.out)
   have HP0 := Lib.hid hP
   have HBK := Lib.hid hblk
   have HBR := Lib.hid hbr
   have HGG := Lib.hid hG
   have hlb : Hid (X.length ≤ 1000000) := Lib.hid (by omega)
   have hlo := hP.lt
   have p0 : wr.cell? ⟨w2.heap.size, 2, none⟩ = some (.slice Av nv cv) := hblk.cell 2
   clear hR hP hblk hbr hG hzj
   go_wp2_with fail
   go_region_law (first
    | (refine step_appX elPath_ok rfl _ _ rfl info_rowT Tryd.underlying55 rfl (by decide) (w2.heap.size + 1) _ (.slice Av nv cv) X rfl HO7.out _ rfl [.slice A5 n5 c5] rfl q HC7.out (one_slR _ _ _) HE7.out hlb.out HS7.out ?_; intro v' w8 hO8 hG8; obtain ⟨A9, N9, c9, e9⟩ : ∃ A n c, v' = .slice A n c := (by obtain ⟨A, c, e⟩ := hO8.shape; exact ⟨A, _, c, e⟩); subst e9; have hbl8 := hG8.below_ HS7.out (fun g e => (HO7.out.lt g e).1); have hb8 := HB7.out.below hbl8 (Nat.lt_succ_self _); have p8 : w8.cell? ⟨w2.heap.size, 2, none⟩ = some (.slice Av nv cv) := hb8.cell 2; have f8 := hb8.free 2)
    | (go_simp; go_at_call 37; refine HRP.out.mono ?_; rintro y w6 ⟨A5, n5, c5, rfl, hE6, hR6, hG6⟩; have hG6' : wr.grownBy w6 (some gr) := grownBy_trans (grown_drewN (World.grownBy.refl wr (some gr)) 1) hG6 (fun k h => .inl h); have hz6 := hG6'.size; have hO6 := HP0.out.grown elPath_ok hG6' (fun e => by have := (hlo _ e).1; omega) (by omega); have hB6 := HBK.out.grown hG6' (fun e => by injection e with e; omega); have p6' : w6.cell? ⟨w2.heap.size, 2, none⟩ = some (.slice Av nv cv) := hB6.cell 2; have HO7 := Lib.hid (hO6.alloc elPath_ok (.cells #[.slice A5 n5 c5] 41)); have HC7 := Lib.hid (cell_litX w6 (.slice A5 n5 c5) 41); have HE7 := Lib.hid (elPath_ok _ _ _ _ _ _ ((Mv.to w6 (S' := fun b => w2.heap.size + 1 ≤ b ∧ (Value.slice Av nv cv).ownBlock ≠ some b) fun b hb _ => ⟨Nat.le_trans (show w2.heap.size + 1 ≤ wr.heap.size by omega) hb, fun e => by have h1 := (hlo _ e).2; have h2 : wr.drew.heap.size ≤ b := hb; have h3 : wr.drew.heap.size = wr.heap.size := rfl; omega⟩).trans (Mv.alloc w6 (.cells #[.slice A5 n5 c5] 41) _)) hE6); have HS7 : Hid (w2.heap.size + 1 ≤ (w6.alloc (.cells #[.slice A5 n5 c5] 41)).heap.size) := Lib.hid (by rw [World.size_alloc]; omega); have HB7 := Lib.hid (hB6.alloc (.cells #[.slice A5 n5 c5] 41)); have pa : (w6.alloc (.cells #[.slice A5 n5 c5] 41)).cell? ⟨w2.heap.size, 2, none⟩ = some (.slice Av nv cv) := HB7.out.cell 2; have HR7 := Lib.hid (hR6.below (below_a1 w6 (.cells #[.slice A5 n5 c5] 41)) hR6.lt); have HG7 := Lib.hid (grownBy_trans (grownBy_trans HGG.out hG6' (fun k h => .inl h)) (World.grownBy_alloc w6 (.cells #[.slice A5 n5 c5] 41) none) (fun k h => by cases h)); have HBR7 := Lib.hid ((HBR.out.grown hG6' (fun e => by injection e with e; omega)).alloc (.cells #[.slice A5 n5 c5] 41)); clear hO6 hR6 hG6 hE6))
   all_goals
    have hF := Lib.hid (show OwnR (elRow elText 1) 41 1 (w8.setCell ⟨w2.heap.size, 2, none⟩ (.slice A9 N9 c9)) (w2.heap.size + 1) (fun b => w2.heap.size + 1 ≤ b) (.slice A9 N9 c9) (X ++ [q]) ∧ Rd 53 (w8.setCell ⟨w2.heap.size, 2, none⟩ (.slice A9 N9 c9)) gr A n c l p4 e4 ∧ Block (w8.setCell ⟨w2.heap.size, 2, none⟩ (.slice A9 N9 c9)) w2.heap.size 57 #[.int .i64 d, .int .i64 v, .slice A9 N9 c9] ∧ Block (w8.setCell ⟨w2.heap.size, 2, none⟩ (.slice A9 N9 c9)) w.heap.size 57 #[.int .i64 0, .int .i64 0, .slice none 0 0] ∧ w.grownBy (w8.setCell ⟨w2.heap.size, 2, none⟩ (.slice A9 N9 c9)) (some gr) from
     ⟨hO8.setR elPath_ok (fun e => by have := (hO8.lt _ e).1; omega) (by omega), (HR7.out.below hbl8 (by omega)).below ((Below.refl w2.heap.size w8).setCell (p := ⟨w2.heap.size, 2, none⟩) (Nat.le_refl _) _) (by omega), hb8.set_ 2 _, ((HBR7.out.below hbl8 (by omega))).elsewhere w2.heap.size 2 _ (by omega), grownBy_trans (grownBy_trans HG7.out hG8.1 (fun k h => .inr (by have := (HO7.out.lt k h).1; omega))) (grown_set w8 w2.heap.size 2 _) (fun k h => .inr (by injection h with h; omega))⟩)
    clear hO8 hG8 hbl8 hb8 p8 f8 HO7 HC7 HE7 HS7 HB7 HR7 HG7 HBR7 p0 p6' pa HRP HP0 HBK HBR HGG hlo
    go_wp2_with fail
    go_roundw
    case rel => exact ⟨j + 1, .slice A9 N9 c9, by omega, by go_num, by rw [HT.out]; exact hF.out.1, by rw [HT.out]; exact hF.out.2.1, hF.out.2.2⟩
    case measure => simp [intOf]; omega
  ·obtain rfl : j = a3 := by omega
   have e0 := HS3.out.trans hYj.out
   injection e0 with e0 e1'
   injection e1' with e1' e2'
   subst e0 e1' e2'
   have f0 : wr.cell? ⟨w2.heap.size, 0, none⟩ = some (.int .i64 d) := hblk.cell 0
   have f1 : wr.cell? ⟨w2.heap.size, 1, none⟩ = some (.int .i64 v) := hblk.cell 1
   have f2 : wr.cell? ⟨w2.heap.size, 2, none⟩ = some (.slice Av nv cv) := hblk.cell 2
   have z0 : wr.cell? ⟨w.heap.size, 0, none⟩ = some (.int .i64 0) := hbr.cell 0
   have z1 : wr.cell? ⟨w.heap.size, 1, none⟩ = some (.int .i64 0) := hbr.cell 1
   have z2 : wr.cell? ⟨w.heap.size, 2, none⟩ = some (.slice none 0 0) := hbr.cell 2
   have y0 := hbr.free 0
   have y1 := hbr.free 1
   have y2 := hbr.free 2
   have HRB := Lib.hid (((hbr.set_ 0 (.int .i64 d)).set_ 1 (.int .i64 v)).set_ 2 (.slice Av nv cv))
   obtain ⟨A9, c9, e9, hrow⟩ := hP.read elPath_ok
   injection e9 with e9a e9b e9c
   subst e9a e9c
   rw [← e9b] at hrow
   clear e9b hzj
   have hns : ∀ b, (w2.heap.size + 1 ≤ b ∨ (w2.heap.size + 1 ≤ b ∧ (Value.slice Av nv cv).ownBlock = some b)) → w2.heap.size + 1 ≤ b := fun b hb => by rcases hb with hb | hb; exact hb; exact hb.1
   have hrow1 : Row (elRow elText 1) 1 wr (fun b => w2.heap.size + 1 ≤ b) Av nv cv MZ := hrow.mv elPath_ok (Mv.to wr fun b hb _ => hns b hb)
   have hrow2 := hrow1.mv (S' := fun b => w2.heap.size + 1 ≤ b) elPath_ok (Mv.set wr w.heap.size 0 (.int .i64 d) (by omega))
   have hrow3 := hrow2.mv (S' := fun b => w2.heap.size + 1 ≤ b) elPath_ok (Mv.set _ w.heap.size 1 (.int .i64 v) (by omega))
   have hrow4 := hrow3.mv (S' := fun b => w2.heap.size + 1 ≤ b) elPath_ok (Mv.set _ w.heap.size 2 (.slice Av nv cv) (by omega))
   have hBS := ((Below.refl w.heap.size wr).setCell (p := ⟨w.heap.size, 0, none⟩) (Nat.le_refl _) (.int .i64 d)).setCell (p := ⟨w.heap.size, 1, none⟩) (Nat.le_refl _) (.int .i64 v) |>.setCell (p := ⟨w.heap.size, 2, none⟩) (Nat.le_refl _) (.slice Av nv cv)
   have hF := Lib.hid (show elFil (((wr.setCell ⟨w.heap.size, 0, none⟩ (.int .i64 d)).setCell ⟨w.heap.size, 1, none⟩ (.int .i64 v)).setCell ⟨w.heap.size, 2, none⟩ (.slice Av nv cv)) (fun k => w.heap.size ≤ k) [.int .i64 d, .int .i64 v, .slice Av nv cv] (d, v, MZ) ∧ Rd 53 (((wr.setCell ⟨w.heap.size, 0, none⟩ (.int .i64 d)).setCell ⟨w.heap.size, 1, none⟩ (.int .i64 v)).setCell ⟨w.heap.size, 2, none⟩ (.slice Av nv cv)) gr A n c l p9 e9 ∧ w.grownBy (((wr.setCell ⟨w.heap.size, 0, none⟩ (.int .i64 d)).setCell ⟨w.heap.size, 1, none⟩ (.int .i64 v)).setCell ⟨w.heap.size, 2, none⟩ (.slice Av nv cv)) (some gr) from
    ⟨elFil_mk (hrow4.mv elPath_ok (Mv.to _ fun b hb _ => by omega)), hR.below hBS hgl, grownBy_trans (grownBy_trans (grownBy_trans hG (grown_set wr w.heap.size 0 _) (fun k h => .inr (by injection h with h; omega))) (grown_set _ w.heap.size 1 _) (fun k h => .inr (by injection h with h; omega))) (grown_set _ w.heap.size 2 _) (fun k h => .inr (by injection h with h; omega))⟩)
   clear hP hR hblk hbr hG hrow hrow1 hrow2 hrow3 hrow4 hBS hns
   go_wp2_with fail
   refine bodyPost_ret (results_block1 rfl _ _ w.heap.size _ _ rfl HRB.out Tryd.underlying57 rfl info_filterS) rfl ?_
   exact ⟨d, v, Av, nv, cv, rfl, hF.out⟩
end Go.Proofs.YtmcccpbpijnbmaaDoor
namespace Go.Proofs.YtmcccpbpijnbmaaDoor
set_option maxRecDepth 100000
open Go.RowKit

def TellQr (T : TypeId) (w : World) (gr : Nat) (A : Option Addr) (n c : Nat) (l : List UInt8) (x : Qry × Nat × Nat) (y : Ending) (w' : World) : Prop :=
 ∃ (A1 : Option Addr) (n1 c1 : Nat) (A2 : Option Addr) (n2 c2 : Nat), y = .returned (qryV A1 n1 c1 A2 n2 c2) ∧ HasQ w' (fun k => w.heap.size ≤ k) A1 n1 c1 A2 n2 c2 x.1 ∧ Rd T w' gr A n c l x.2.1 x.2.2 ∧ w.grownBy w' (some gr)
theorem block_two {w : World} {g : Nat} {T : TypeId} {u v : Value} (h : Block w g T #[.slice none 0 0, .slice none 0 0]) : Block ((w.setCell ⟨g, 0, none⟩ u).setCell ⟨g, 1, none⟩ v) g T #[u, v] := (h.set_ 0 u).set_ 1 v
theorem Rd.two {T : TypeId} {w : World} {gr g : Nat} {A : Option Addr} {n c : Nat} {l : List UInt8} {p e : Nat} (h : Rd T w gr A n c l p e) (hg : gr < g) (u v : Value) : Rd T ((w.setCell ⟨g, 0, none⟩ u).setCell ⟨g, 1, none⟩ v) gr A n c l p e :=
 h.below (((Below.refl g w).setCell (p := ⟨g, 0, none⟩) (Nat.le_refl _) u).setCell (p := ⟨g, 1, none⟩) (Nat.le_refl _) v) hg
theorem grown_two {w0 w : World} {gr g : Nat} (h : w0.grownBy w (some gr)) (hg : w0.heap.size ≤ g) (u v : Value) : w0.grownBy ((w.setCell ⟨g, 0, none⟩ u).setCell ⟨g, 1, none⟩ v) (some gr) :=
 grownBy_trans (grownBy_trans h (grown_set w g 0 u) (fun k h => .inr (by injection h with h; omega))) (grown_set _ g 1 v) (fun k h => .inr (by injection h with h; omega))
set_option maxHeartbeats 4000000 in
theorem readQ_any {w : World} {gr : Nat} {A : Option Addr} {n c : Nat} {l : List UInt8} {p e : Nat} (hR : Rd 53 w gr A n c l p e) :
  Calls Tryd.prog 6 #[.pointer (some ⟨gr, 0, none⟩)] w (TellQr 53 w gr A n c l (rdQ l p e)) := by
 have hgl := hR.lt
 have hb0 := below_a2 w (.cells #[.slice none 0 0, .slice none 0 0] 32) (.cells #[.slice none 0 0, .slice none 0 0] 32)
 have hbr := (Block.new w 32 #[.slice none 0 0, .slice none 0 0]).alloc (.cells #[.slice none 0 0, .slice none 0 0] 32)
 have hbf := Block.new (w.alloc (.cells #[.slice none 0 0, .slice none 0 0] 32)) 32 #[.slice none 0 0, .slice none 0 0]
 rw [show (w.alloc (.cells #[.slice none 0 0, .slice none 0 0] 32)).heap.size = w.heap.size + 1 by simp] at hbf
 have hR0 := hR.below hb0 hgl
 obtain ⟨a1, k1, e1, hlk1, ham1⟩ := lkN_nat l p e (hi := 3)
 have HS1 := Lib.hid (sevA_is (rd := rdNum 3) hlk1)
 obtain ⟨Z1, hZ1⟩ : ∃ Z, Hid (sevA (rdNum 3) 3 l p e = Z) := ⟨_, Lib.hid rfl⟩
 rw [hZ1.out] at HS1
 obtain ⟨GZ, p8, e8⟩ := Z1
 obtain ⟨a2, k2, e2, hlk2, ham2⟩ := lkN_nat l p8 e8 (hi := 3)
 have HS2 := Lib.hid (sevA_is (rd := rdFl) hlk2)
 obtain ⟨Z2, hZ2⟩ : ∃ Z, Hid (sevA rdFl 3 l p8 e8 = Z) := ⟨_, Lib.hid rfl⟩
 rw [hZ2.out] at HS2
 obtain ⟨FZ, p9, e9⟩ := Z2
 have HX := Lib.hid (rdQ_is hZ1.out hZ2.out)
 obtain ⟨QZ, hQZ⟩ : ∃ QZ, Hid ((if e9 = 0 then (GZ, FZ) else ([], [])) = QZ) := ⟨_, Lib.hid rfl⟩
 rw [HX.out, hQZ.out]
 have hint1 := int_any ((w.alloc (.cells #[.slice none 0 0, .slice none 0 0] 32)).alloc (.cells #[.slice none 0 0, .slice none 0 0] 32)) gr A n c l p e hR0 0 3
 rw [show (3 : Int) = ((3 : Nat) : Int) from rfl, hlk1] at hint1
 have HI1 := Lib.hid hint1
 have HL2 := Lib.hid hlk2
 clear hint1 hR hR0 hlk1 hlk2
 go_enter Tryd.func6, Tryd.ntmps6
 go_wp2_with fail
 generalize (w.alloc (.cells #[.slice none 0 0, .slice none 0 0] 32)).alloc (.cells #[.slice none 0 0, .slice none 0 0] 32) = W at hb0 hbr hbf HI1 ⊢
 refine HI1.out.mono ?_
 rintro y w1 ⟨rfl, hR1, hG1⟩
 have hbr1 := hbr.grown hG1 (fun e => by injection e with e; omega)
 have hbf1 := hbf.grown hG1 (fun e => by injection e with e; omega)
 have hG1' : w.grownBy w1 (some gr) := grownBy_trans (grown_none hb0 (some gr)) hG1 (fun k h => .inl h)
 clear HI1 hbr hbf hb0 hG1
 go_wp2_with fail
 go_loopw [9] (fun i wi => ∃ (j : Nat) (v : Value), j ≤ a1 ∧ i = .int .i64 j ∧ OwnI wi (w.heap.size + 1 + 1) v (sevN (rdNum 3) l (p + k1) e1 j).1 ∧ Rd 53 wi gr A n c l (sevN (rdNum 3) l (p + k1) e1 j).2.1 (sevN (rdNum 3) l (p + k1) e1 j).2.2 ∧ Block wi (w.heap.size + 1) 32 #[v, .slice none 0 0] ∧ Block wi w.heap.size 32 #[.slice none 0 0, .slice none 0 0] ∧ w.grownBy wi (some gr)) (fun i _ => a1 - (intOf i).toNat)
 case atStart => exact ⟨0, .slice none 0 0, Nat.zero_le _, rfl, OwnI.nil_ _ _, hR1, hbf1, hbr1, hG1'⟩
 case round =>
  clear hR1 hbf1 hbr1 hG1'
  obtain ⟨j, v, hj, rfl, hO, hR, hblk, hbr, hG⟩ := hrel
  have hzj := sevN_len (rd := rdNum 3) (l := l) (p := p + k1) (e := e1) j
  obtain ⟨Yj, hYj⟩ : ∃ Y, Hid (sevN (rdNum 3) l (p + k1) e1 j = Y) := ⟨_, Lib.hid rfl⟩
  rw [hYj.out] at hO hR hzj
  obtain ⟨X, p3, e5⟩ := Yj
  simp only at hO hR hzj
  obtain ⟨Av, nv, cv, rfl, _, _⟩ := hO.formN
  have hgz := hG.size
  have hbk := hblk.lt
  by_cases hlj : j < a1
  ·obtain ⟨u, hu⟩ : ∃ u, Hid (lk l p3 e5 0 3 = u) := ⟨_, Lib.hid rfl⟩
   have hint := int_any wr.drew gr A n c l p3 e5 (hR.drewN 1) 0 3
   rw [hu.out] at hint
   obtain ⟨x, k5, e8'⟩ := u
   have HI3 := Lib.hid hint
   have HT := Lib.hid (sevN_step hYj.out (rdNum_is hu.out))
   have HO := Lib.hid hO
   have HBK := Lib.hid hblk
   have HBR := Lib.hid hbr
   have HGG := Lib.hid hG
   have hlb : Hid (X.length ≤ 1000000) := Lib.hid (by omega)
   have hlo := hO.lt
   have p0 : wr.cell? ⟨w.heap.size + 1, 0, none⟩ = some (.slice Av nv cv) := hblk.cell 0
   clear hint hR hzj hO hblk hbr hG
   go_wp2_with fail
   go_region_law (first
    | (refine step_appI rfl _ _ rfl (w.heap.size + 1 + 1) (.slice Av nv cv) X rfl HO7.out _ rfl x HC7.out hlb.out HS7.out ?_; intro v' w8 hO8 hG8; obtain ⟨A9, N9, c9, e9, _⟩ := hO8.formN; subst e9; have hbl8 := hG8.below_ HS7.out (fun g e => (HO7.out.lt g e).1); have hb8 := HB7.out.below hbl8 (Nat.lt_succ_self _); have p8 : w8.cell? ⟨w.heap.size + 1, 0, none⟩ = some (.slice Av nv cv) := hb8.cell 0; have f8 := hb8.free 0)
    | (go_simp; go_at_call 18; refine HI3.out.mono ?_; rintro y w6 ⟨rfl, hR6, hG6⟩; have hG6' : wr.grownBy w6 (some gr) := grownBy_trans (grown_drewN (World.grownBy.refl wr (some gr)) 1) hG6 (fun k h => .inl h); have hz6 := hG6'.size; have hO6 := HO.out.grownR hG6' (by omega); have hB6 := HBK.out.grown hG6' (fun e => by injection e with e; omega); have p6' : w6.cell? ⟨w.heap.size + 1, 0, none⟩ = some (.slice Av nv cv) := hB6.cell 0; have HO7 := Lib.hid (hO6.alloc (.cells #[.int .i64 x] 3)); have HC7 := Lib.hid (cell_lit w6 x 3 w6.heap.size rfl); have HS7 : Hid (w.heap.size + 1 + 1 ≤ (w6.alloc (.cells #[.int .i64 x] 3)).heap.size) := Lib.hid (by rw [World.size_alloc]; omega); have HB7 := Lib.hid (hB6.alloc (.cells #[.int .i64 x] 3)); have pa : (w6.alloc (.cells #[.int .i64 x] 3)).cell? ⟨w.heap.size + 1, 0, none⟩ = some (.slice Av nv cv) := HB7.out.cell 0; have HR7 := Lib.hid (hR6.below (below_a1 w6 (.cells #[.int .i64 x] 3)) hR6.lt); have HG7 := Lib.hid (grownBy_trans (grownBy_trans HGG.out hG6' (fun k h => .inl h)) (World.grownBy_alloc w6 (.cells #[.int .i64 x] 3) none) (fun k h => by cases h)); have HBR7 := Lib.hid ((HBR.out.grown hG6' (fun e => by injection e with e; omega)).alloc (.cells #[.int .i64 x] 3)); clear hO6 hR6 hG6))
   all_goals
    have hF := Lib.hid (show OwnI (w8.setCell ⟨w.heap.size + 1, 0, none⟩ (.slice A9 N9 c9)) (w.heap.size + 1 + 1) (.slice A9 N9 c9) (X ++ [x]) ∧ Rd 53 (w8.setCell ⟨w.heap.size + 1, 0, none⟩ (.slice A9 N9 c9)) gr A n c l (p3 + k5) e8' ∧ Block (w8.setCell ⟨w.heap.size + 1, 0, none⟩ (.slice A9 N9 c9)) (w.heap.size + 1) 32 #[.slice A9 N9 c9, .slice none 0 0] ∧ Block (w8.setCell ⟨w.heap.size + 1, 0, none⟩ (.slice A9 N9 c9)) w.heap.size 32 #[.slice none 0 0, .slice none 0 0] ∧ w.grownBy (w8.setCell ⟨w.heap.size + 1, 0, none⟩ (.slice A9 N9 c9)) (some gr) from
     ⟨hO8.other (g := w.heap.size + 1) (fun e => by have := (hO8.lt _ e).1; omega) _, (HR7.out.below hbl8 (by omega)).below ((Below.refl (w.heap.size + 1) w8).setCell (p := ⟨w.heap.size + 1, 0, none⟩) (Nat.le_refl _) _) (by omega), hb8.set_ 0 _, (HBR7.out.below hbl8 (by omega)).elsewhere (w.heap.size + 1) 0 _ (by omega), grownBy_trans (grownBy_trans HG7.out hG8.1 (fun k h => .inr (by have := (HO7.out.lt k h).1; omega))) (grown_set w8 (w.heap.size + 1) 0 _) (fun k h => .inr (by injection h with h; omega))⟩)
    clear hO8 hG8 hbl8 hb8 p8 f8 HO7 HC7 HS7 HB7 HR7 HG7 HBR7 p0 p6' pa HI3 HO HBK HBR HGG hlo
    go_wp2_with fail
    go_roundw
    case rel => exact ⟨j + 1, .slice A9 N9 c9, by omega, by go_num, by rw [HT.out]; exact hF.out.1, by rw [HT.out]; exact hF.out.2.1, hF.out.2.2⟩
    case measure => simp [intOf]; omega
  ·obtain rfl : j = a1 := by omega
   have e0 := HS1.out.trans hYj.out
   injection e0 with e0 e1'
   injection e1' with e1' e2'
   subst e0 e1' e2'
   have hrowG : Row elInt 1 wr (fun b => w.heap.size + 1 + 1 ≤ b ∧ b < wr.heap.size) Av nv cv GZ := by
    obtain ⟨A9, c9, e9, h⟩ := hO.row
    injection e9 with e9a e9b e9c
    subst e9a e9c
    rw [← e9b] at h
    exact h.mv elInt_ok (Mv.to wr fun b hb hl => ⟨hb.1, hl⟩)
   have hint2 := int_any wr gr A n c l p8 e8 hR 0 3
   rw [show (3 : Int) = ((3 : Nat) : Int) from rfl, HL2.out] at hint2
   have HI2 := Lib.hid hint2
   clear hint2 hO hR hzj
   go_wp2_with fail
   refine HI2.out.mono ?_
   rintro y w5 ⟨rfl, hR5, hG5⟩
   have hblk5 := hblk.grown hG5 (fun e => by injection e with e; omega)
   have hbr5 := hbr.grown hG5 (fun e => by injection e with e; omega)
   have hG6 := grownBy_trans hG hG5 (fun k h => .inl h)
   have hz5 := hG5.size
   have hrow5 : Row elInt 1 w5 (fun b => w.heap.size + 1 + 1 ≤ b ∧ b < w5.heap.size) Av nv cv GZ := hrowG.mv elInt_ok (fun b hb hl => ⟨hG5.block b hl (fun e => by injection e with e; omega), hb.1, Nat.lt_of_lt_of_le hl hz5⟩)
   clear HI2 hblk hbr hG hG5 hrowG
   go_wp2_with fail
   go_loopw [21] (fun i wi => ∃ (t : Nat) (v2 : Value), t ≤ a2 ∧ i = .int .i64 t ∧ OwnR elFil 57 3 wi w5.heap.size (fun b => w5.heap.size ≤ b) v2 (sevN rdFl l (p8 + k2) e2 t).1 ∧ Rd 53 wi gr A n c l (sevN rdFl l (p8 + k2) e2 t).2.1 (sevN rdFl l (p8 + k2) e2 t).2.2 ∧ Block wi (w.heap.size + 1) 32 #[.slice Av nv cv, v2] ∧ Block wi w.heap.size 32 #[.slice none 0 0, .slice none 0 0] ∧ Row elInt 1 wi (fun b => w.heap.size + 1 + 1 ≤ b ∧ b < w5.heap.size) Av nv cv GZ ∧ w.grownBy wi (some gr) ∧ w5.heap.size ≤ wi.heap.size) (fun i _ => a2 - (intOf i).toNat)
   case atStart => exact ⟨0, .slice none 0 0, Nat.zero_le _, rfl, OwnR.nil_ _ _ _, hR5, hblk5, hbr5, hrow5, hG6, Nat.le_refl _⟩
   case round =>
    clear hR5 hblk5 hbr5 hrow5 hG6
    obtain ⟨t, v2, ht, rfl, hO2, hR, hblk, hbr, hrow, hG, hgz3⟩ := hrel
    have hzt := sevN_len (rd := rdFl) (l := l) (p := p8 + k2) (e := e2) t
    obtain ⟨Yt, hYt⟩ : ∃ Y, Hid (sevN rdFl l (p8 + k2) e2 t = Y) := ⟨_, Lib.hid rfl⟩
    rw [hYt.out] at hO2 hR hzt
    obtain ⟨Q, p6, e7⟩ := Yt
    simp only at hO2 hR hzt
    obtain ⟨A2, n2, c2, rfl⟩ : ∃ A n c, v2 = .slice A n c := by
     obtain ⟨A, c, e⟩ := hO2.shape
     exact ⟨A, _, c, e⟩
    have hbk5 := hblk.lt
    have hgz4 := hG.size
    by_cases hltt : t < a2
    ·have HRF := readFl_any (hR.drewN 1)
     obtain ⟨u, hu⟩ : ∃ u, Hid (rdFl l p6 e7 = u) := ⟨_, Lib.hid rfl⟩
     rw [hu.out] at HRF
     obtain ⟨f, p7, e6⟩ := u
     have HRF := Lib.hid HRF
     have HT := Lib.hid (sevN_step hYt.out hu.out)
     have HO := Lib.hid hO2
     have HBK := Lib.hid hblk
     have HBR := Lib.hid hbr
     have HGG := Lib.hid hG
     have HRow := Lib.hid hrow
     have hlb : Hid (Q.length ≤ 1000000) := Lib.hid (by omega)
     have hlo := hO2.lt
     have p0 : wr.cell? ⟨w.heap.size + 1, 1, none⟩ = some (.slice A2 n2 c2) := hblk.cell 1
     have hg5 : gr < w5.heap.size := by omega
     have hf5 : w.heap.size + 1 < w5.heap.size := by omega
     clear hR hzt hO2 hblk hbr hG hrow
     go_wp2_with fail
     go_region_law (first
      | (refine step_appX elFil_ok rfl _ _ rfl info_filter Tryd.underlying30 rfl (by decide) w5.heap.size _ (.slice A2 n2 c2) Q rfl HO7.out _ rfl [.int .i64 d, .int .i64 vl, .slice A5 n5 c5] rfl f HC7.out (one_fil _ _ _ _ _) HE7.out hlb.out HS7.out ?_; intro v' w8 hO8 hG8; obtain ⟨A9, N9, c9, e9⟩ : ∃ A n c, v' = .slice A n c := (by obtain ⟨A, c, e⟩ := hO8.shape; exact ⟨A, _, c, e⟩); subst e9; have hbl8 := hG8.below_ HS7.out (fun g e => (HO7.out.lt g e).1); have hb8 := HB7.out.below hbl8 hf5; have p8 : w8.cell? ⟨w.heap.size + 1, 1, none⟩ = some (.slice A2 n2 c2) := hb8.cell 1; have f8 := hb8.free 1)
      | (go_simp; go_at_call 19; refine HRF.out.mono ?_; rintro y w6 ⟨d, vl, A5, n5, c5, rfl, hE6, hR6, hG6⟩; have hG6' : wr.grownBy w6 (some gr) := grownBy_trans (grown_drewN (World.grownBy.refl wr (some gr)) 1) hG6 (fun k h => .inl h); have hz6 := hG6'.size; have hO6 := HO.out.grown elFil_ok hG6' (fun e => by have := (hlo _ e).1; omega) (by omega); have hB6 := HBK.out.grown hG6' (fun e => by injection e with e; omega); have p6' : w6.cell? ⟨w.heap.size + 1, 1, none⟩ = some (.slice A2 n2 c2) := hB6.cell 1; have HO7 := Lib.hid (hO6.alloc elFil_ok (.cells #[.int .i64 d, .int .i64 vl, .slice A5 n5 c5] 57)); have HC7 := Lib.hid (cell_litD w6 #[.int .i64 d, .int .i64 vl, .slice A5 n5 c5] 57); have HE7 := Lib.hid (elFil_ok _ _ _ _ _ _ ((Mv.to w6 (S' := fun b => w5.heap.size ≤ b ∧ (Value.slice A2 n2 c2).ownBlock ≠ some b) fun b hb _ => ⟨Nat.le_trans hgz3 hb, fun e => by have h1 := (hlo _ e).2; have h2 : wr.drew.heap.size ≤ b := hb; have h3 : wr.drew.heap.size = wr.heap.size := rfl; omega⟩).trans (Mv.alloc w6 (.cells #[.int .i64 d, .int .i64 vl, .slice A5 n5 c5] 57) _)) hE6); have HS7 : Hid (w5.heap.size ≤ (w6.alloc (.cells #[.int .i64 d, .int .i64 vl, .slice A5 n5 c5] 57)).heap.size) := Lib.hid (by rw [World.size_alloc]; omega); have HB7 := Lib.hid (hB6.alloc (.cells #[.int .i64 d, .int .i64 vl, .slice A5 n5 c5] 57)); have pa : (w6.alloc (.cells #[.int .i64 d, .int .i64 vl, .slice A5 n5 c5] 57)).cell? ⟨w.heap.size + 1, 1, none⟩ = some (.slice A2 n2 c2) := HB7.out.cell 1; have HR7 := Lib.hid (hR6.below (below_a1 w6 (.cells #[.int .i64 d, .int .i64 vl, .slice A5 n5 c5] 57)) hR6.lt); have HG7 := Lib.hid (grownBy_trans (grownBy_trans HGG.out hG6' (fun k h => .inl h)) (World.grownBy_alloc w6 (.cells #[.int .i64 d, .int .i64 vl, .slice A5 n5 c5] 57) none) (fun k h => by cases h)); have HBR7 := Lib.hid ((HBR.out.grown hG6' (fun e => by injection e with e; omega)).alloc (.cells #[.int .i64 d, .int .i64 vl, .slice A5 n5 c5] 57)); have HRow7 := Lib.hid ((HRow.out.mv elInt_ok (Mv.grown hG6' (fun b hb e => by injection e with e; have := hb.1; omega))).mv elInt_ok (Mv.alloc w6 (.cells #[.int .i64 d, .int .i64 vl, .slice A5 n5 c5] 57) _)); clear hO6 hR6 hG6 hE6))
     all_goals
      have hF := Lib.hid (show OwnR elFil 57 3 (w8.setCell ⟨w.heap.size + 1, 1, none⟩ (.slice A9 N9 c9)) w5.heap.size (fun b => w5.heap.size ≤ b) (.slice A9 N9 c9) (Q ++ [f]) ∧ Rd 53 (w8.setCell ⟨w.heap.size + 1, 1, none⟩ (.slice A9 N9 c9)) gr A n c l p7 e6 ∧ Block (w8.setCell ⟨w.heap.size + 1, 1, none⟩ (.slice A9 N9 c9)) (w.heap.size + 1) 32 #[.slice Av nv cv, .slice A9 N9 c9] ∧ Block (w8.setCell ⟨w.heap.size + 1, 1, none⟩ (.slice A9 N9 c9)) w.heap.size 32 #[.slice none 0 0, .slice none 0 0] ∧ Row elInt 1 (w8.setCell ⟨w.heap.size + 1, 1, none⟩ (.slice A9 N9 c9)) (fun b => w.heap.size + 1 + 1 ≤ b ∧ b < w5.heap.size) Av nv cv GZ ∧ w.grownBy (w8.setCell ⟨w.heap.size + 1, 1, none⟩ (.slice A9 N9 c9)) (some gr) ∧ w5.heap.size ≤ (w8.setCell ⟨w.heap.size + 1, 1, none⟩ (.slice A9 N9 c9)).heap.size from
       ⟨hO8.setR elFil_ok (fun e => by have := (hO8.lt _ e).1; omega) (by omega), (HR7.out.below hbl8 hg5).below ((Below.refl (w.heap.size + 1) w8).setCell (p := ⟨w.heap.size + 1, 1, none⟩) (Nat.le_refl _) _) (by omega), hb8.set_ 1 _, (HBR7.out.below hbl8 (by omega)).elsewhere (w.heap.size + 1) 1 _ (by omega), (HRow7.out.mv elInt_ok (Mv.below hbl8 (fun b hb => hb.2))).mv elInt_ok (Mv.set w8 (w.heap.size + 1) 1 _ (by omega)), grownBy_trans (grownBy_trans HG7.out hG8.1 (fun k h => .inr (by have := (HO7.out.lt k h).1; omega))) (grown_set w8 (w.heap.size + 1) 1 _) (fun k h => .inr (by injection h with h; omega)), Nat.le_trans HS7.out (Nat.le_trans hbl8.size (by simp [World.setCell]))⟩)
      clear hO8 hG8 hbl8 hb8 p8 f8 HO7 HC7 HE7 HS7 HB7 HR7 HG7 HBR7 HRow7 p0 p6' pa HRF HO HBK HBR HGG HRow hlo
      go_wp2_with fail
      go_roundw
      case rel => exact ⟨t + 1, .slice A9 N9 c9, by omega, by go_num, by rw [HT.out]; exact hF.out.1, by rw [HT.out]; exact hF.out.2.1, hF.out.2.2⟩
      case measure => simp [intOf]; omega
    ·obtain rfl : t = a2 := by omega
     have e0 := HS2.out.trans hYt.out
     injection e0 with e0 e1'
     injection e1' with e1' e2'
     subst e0 e1' e2'
     obtain ⟨A9, c9, e9', hrowF⟩ := hO2.read elFil_ok
     injection e9' with e9a e9b e9c
     subst e9a e9c
     rw [← e9b] at hrowF
     clear e9b hzt
     have hHQ : HasQ wr (fun b => w.heap.size + 1 + 1 ≤ b) Av nv cv A2 n2 c2 (GZ, FZ) := ⟨hrow.mv elInt_ok (Mv.to wr fun b hb _ => hb.1), hrowF.mv elFil_ok (Mv.to wr fun b hb _ => by
      rcases hb with hb | hb
      ·omega
      ·omega)⟩
     have HFl := Lib.hid (failed_any _ _ _ _ _ _ _ _ hR)
     have z0 : wr.cell? ⟨w.heap.size, 0, none⟩ = some (.slice none 0 0) := hbr.cell 0
     have z1 : wr.cell? ⟨w.heap.size, 1, none⟩ = some (.slice none 0 0) := hbr.cell 1
     have y0 := hbr.free 0
     have y1 := hbr.free 1
     by_cases he : e9 = 0
     ·subst he
      obtain rfl : (GZ, FZ) = QZ := by rw [← hQZ.out, if_pos rfl]
      have q0 : wr.cell? ⟨w.heap.size + 1, 0, none⟩ = some (.slice Av nv cv) := hblk.cell 0
      have q1 : wr.cell? ⟨w.heap.size + 1, 1, none⟩ = some (.slice A2 n2 c2) := hblk.cell 1
      have HRB := Lib.hid (block_two hbr (u := .slice Av nv cv) (v := .slice A2 n2 c2))
      have hF := Lib.hid (show HasQ ((wr.setCell ⟨w.heap.size, 0, none⟩ (.slice Av nv cv)).setCell ⟨w.heap.size, 1, none⟩ (.slice A2 n2 c2)) (fun k => w.heap.size ≤ k) Av nv cv A2 n2 c2 (GZ, FZ) ∧ Rd 53 ((wr.setCell ⟨w.heap.size, 0, none⟩ (.slice Av nv cv)).setCell ⟨w.heap.size, 1, none⟩ (.slice A2 n2 c2)) gr A n c l p9 0 ∧ w.grownBy ((wr.setCell ⟨w.heap.size, 0, none⟩ (.slice Av nv cv)).setCell ⟨w.heap.size, 1, none⟩ (.slice A2 n2 c2)) (some gr) from
       ⟨hHQ.mv ((Mv.set wr w.heap.size 0 _ (by omega)).trans ((Mv.set _ w.heap.size 1 _ (by omega)).trans (Mv.to _ fun b hb _ => by omega))), hR.two hgl _ _, grown_two hG (Nat.le_refl _) _ _⟩)
      clear hO2 hR hblk hbr hrow hG hrowF hHQ
      go_wp2_with fail
      refine HFl.out.mono ?_
      rintro y w7 ⟨rfl, rfl⟩
      clear HFl
      go_wp2_with fail
      refine bodyPost_ret (results_block1 rfl _ _ w.heap.size _ _ rfl HRB.out Tryd.underlying32 rfl info_queryS) rfl ?_
      exact ⟨_, _, _, _, _, _, rfl, hF.out⟩
     ·have ht : ((e9 : Int) != 0) = true := by simpa using he
      obtain rfl : ([], []) = QZ := by rw [← hQZ.out, if_neg he]
      have HRB := Lib.hid (block_two hbr (u := .slice none 0 0) (v := .slice none 0 0))
      have hF := Lib.hid (show HasQ ((wr.setCell ⟨w.heap.size, 0, none⟩ (.slice none 0 0)).setCell ⟨w.heap.size, 1, none⟩ (.slice none 0 0)) (fun k => w.heap.size ≤ k) none 0 0 none 0 0 ([], []) ∧ Rd 53 ((wr.setCell ⟨w.heap.size, 0, none⟩ (.slice none 0 0)).setCell ⟨w.heap.size, 1, none⟩ (.slice none 0 0)) gr A n c l p9 e9 ∧ w.grownBy ((wr.setCell ⟨w.heap.size, 0, none⟩ (.slice none 0 0)).setCell ⟨w.heap.size, 1, none⟩ (.slice none 0 0)) (some gr) from
       ⟨⟨Row.none_ _ _, Row.none_ _ _⟩, hR.two hgl _ _, grown_two hG (Nat.le_refl _) _ _⟩)
      clear hO2 hR hblk hbr hrow hG hrowF hHQ he
      go_wp2_with fail
      refine HFl.out.mono ?_
      rintro y w7 ⟨rfl, rfl⟩
      clear HFl
      go_wp2_with fail
      refine bodyPost_ret (results_block1 rfl _ _ w.heap.size _ _ rfl HRB.out Tryd.underlying32 rfl info_queryS) rfl ?_
      exact ⟨_, _, _, _, _, _, rfl, hF.out⟩
end Go.Proofs.YtmcccpbpijnbmaaDoor
namespace Go.Proofs.YtmcccpbpijnbmaaDoor
set_option maxRecDepth 100000
open Go.RowKit

set_option maxHeartbeats 4000000 in
theorem refReadQ_any {w : World} {gr : Nat} {A : Option Addr} {n c : Nat} {l : List UInt8} {p e : Nat} (hR : Rd 28 w gr A n c l p e) :
  Calls Tryd.prog 7 #[.pointer (some ⟨gr, 0, none⟩)] w (TellQr 28 w gr A n c l (rdQ l p e)) := by
 have hgl := hR.lt
 have hb0 := below_a2 w (.cells #[.slice none 0 0, .slice none 0 0] 32) (.cells #[.slice none 0 0, .slice none 0 0] 32)
 have hbr := (Block.new w 32 #[.slice none 0 0, .slice none 0 0]).alloc (.cells #[.slice none 0 0, .slice none 0 0] 32)
 have hbf := Block.new (w.alloc (.cells #[.slice none 0 0, .slice none 0 0] 32)) 32 #[.slice none 0 0, .slice none 0 0]
 rw [show (w.alloc (.cells #[.slice none 0 0, .slice none 0 0] 32)).heap.size = w.heap.size + 1 by simp] at hbf
 have hR0 := hR.below hb0 hgl
 obtain ⟨a1, k1, e1, hlk1, ham1⟩ := lkN_nat l p e (hi := 3)
 have HS1 := Lib.hid (sevA_is (rd := rdNum 3) hlk1)
 obtain ⟨Z1, hZ1⟩ : ∃ Z, Hid (sevA (rdNum 3) 3 l p e = Z) := ⟨_, Lib.hid rfl⟩
 rw [hZ1.out] at HS1
 obtain ⟨GZ, p8, e8⟩ := Z1
 obtain ⟨a2, k2, e2, hlk2, ham2⟩ := lkN_nat l p8 e8 (hi := 3)
 have HS2 := Lib.hid (sevA_is (rd := rdFl) hlk2)
 obtain ⟨Z2, hZ2⟩ : ∃ Z, Hid (sevA rdFl 3 l p8 e8 = Z) := ⟨_, Lib.hid rfl⟩
 rw [hZ2.out] at HS2
 obtain ⟨FZ, p9, e9⟩ := Z2
 have HX := Lib.hid (rdQ_is hZ1.out hZ2.out)
 obtain ⟨QZ, hQZ⟩ : ∃ QZ, Hid ((if e9 = 0 then (GZ, FZ) else ([], [])) = QZ) := ⟨_, Lib.hid rfl⟩
 rw [HX.out, hQZ.out]
 have hint1 := refInt_any ((w.alloc (.cells #[.slice none 0 0, .slice none 0 0] 32)).alloc (.cells #[.slice none 0 0, .slice none 0 0] 32)) gr A n c l p e hR0 0 3
 rw [show (3 : Int) = ((3 : Nat) : Int) from rfl, hlk1] at hint1
 have HI1 := Lib.hid hint1
 have HL2 := Lib.hid hlk2
 clear hint1 hR hR0 hlk1 hlk2
 go_enter Tryd.func7, Tryd.ntmps7
 go_wp2_with fail
 generalize (w.alloc (.cells #[.slice none 0 0, .slice none 0 0] 32)).alloc (.cells #[.slice none 0 0, .slice none 0 0] 32) = W at hb0 hbr hbf HI1 ⊢
 refine HI1.out.mono ?_
 rintro y w1 ⟨rfl, hR1, hG1⟩
 have hbr1 := hbr.grown hG1 (fun e => by injection e with e; omega)
 have hbf1 := hbf.grown hG1 (fun e => by injection e with e; omega)
 have hG1' : w.grownBy w1 (some gr) := grownBy_trans (grown_none hb0 (some gr)) hG1 (fun k h => .inl h)
 clear HI1 hbr hbf hb0 hG1
 go_wp2_with fail
 go_loopw [5] (fun i wi => ∃ (j : Nat) (v : Value), j ≤ a1 ∧ i = .int .i64 j ∧ OwnI wi (w.heap.size + 1 + 1) v (sevN (rdNum 3) l (p + k1) e1 j).1 ∧ Rd 28 wi gr A n c l (sevN (rdNum 3) l (p + k1) e1 j).2.1 (sevN (rdNum 3) l (p + k1) e1 j).2.2 ∧ Block wi (w.heap.size + 1) 32 #[v, .slice none 0 0] ∧ Block wi w.heap.size 32 #[.slice none 0 0, .slice none 0 0] ∧ w.grownBy wi (some gr)) (fun i _ => a1 - (intOf i).toNat)
 case atStart => exact ⟨0, .slice none 0 0, Nat.zero_le _, rfl, OwnI.nil_ _ _, hR1, hbf1, hbr1, hG1'⟩
 case round =>
  clear hR1 hbf1 hbr1 hG1'
  obtain ⟨j, v, hj, rfl, hO, hR, hblk, hbr, hG⟩ := hrel
  have hzj := sevN_len (rd := rdNum 3) (l := l) (p := p + k1) (e := e1) j
  obtain ⟨Yj, hYj⟩ : ∃ Y, Hid (sevN (rdNum 3) l (p + k1) e1 j = Y) := ⟨_, Lib.hid rfl⟩
  rw [hYj.out] at hO hR hzj
  obtain ⟨X, p3, e5⟩ := Yj
  simp only at hO hR hzj
  obtain ⟨Av, nv, cv, rfl, _, _⟩ := hO.formN
  have hgz := hG.size
  have hbk := hblk.lt
  by_cases hlj : j < a1
  ·obtain ⟨u, hu⟩ : ∃ u, Hid (lk l p3 e5 0 3 = u) := ⟨_, Lib.hid rfl⟩
   have hint := refInt_any wr.drew gr A n c l p3 e5 (hR.drewN 1) 0 3
   rw [hu.out] at hint
   obtain ⟨x, k5, e8'⟩ := u
   have HI3 := Lib.hid hint
   have HT := Lib.hid (sevN_step hYj.out (rdNum_is hu.out))
   have HO := Lib.hid hO
   have HBK := Lib.hid hblk
   have HBR := Lib.hid hbr
   have HGG := Lib.hid hG
   have hlb : Hid (X.length ≤ 1000000) := Lib.hid (by omega)
   have hlo := hO.lt
   have p0 : wr.cell? ⟨w.heap.size + 1, 0, none⟩ = some (.slice Av nv cv) := hblk.cell 0
   clear hint hR hzj hO hblk hbr hG
   go_wp2_with fail
   go_region_law (first
    | (refine step_appI rfl _ _ rfl (w.heap.size + 1 + 1) (.slice Av nv cv) X rfl HO7.out _ rfl x HC7.out hlb.out HS7.out ?_; intro v' w8 hO8 hG8; obtain ⟨A9, N9, c9, e9, _⟩ := hO8.formN; subst e9; have hbl8 := hG8.below_ HS7.out (fun g e => (HO7.out.lt g e).1); have hb8 := HB7.out.below hbl8 (Nat.lt_succ_self _); have p8 : w8.cell? ⟨w.heap.size + 1, 0, none⟩ = some (.slice Av nv cv) := hb8.cell 0; have f8 := hb8.free 0)
    | (go_simp; go_at_call 21; refine HI3.out.mono ?_; rintro y w6 ⟨rfl, hR6, hG6⟩; have hG6' : wr.grownBy w6 (some gr) := grownBy_trans (grown_drewN (World.grownBy.refl wr (some gr)) 1) hG6 (fun k h => .inl h); have hz6 := hG6'.size; have hO6 := HO.out.grownR hG6' (by omega); have hB6 := HBK.out.grown hG6' (fun e => by injection e with e; omega); have p6' : w6.cell? ⟨w.heap.size + 1, 0, none⟩ = some (.slice Av nv cv) := hB6.cell 0; have HO7 := Lib.hid (hO6.alloc (.cells #[.int .i64 x] 3)); have HC7 := Lib.hid (cell_lit w6 x 3 w6.heap.size rfl); have HS7 : Hid (w.heap.size + 1 + 1 ≤ (w6.alloc (.cells #[.int .i64 x] 3)).heap.size) := Lib.hid (by rw [World.size_alloc]; omega); have HB7 := Lib.hid (hB6.alloc (.cells #[.int .i64 x] 3)); have pa : (w6.alloc (.cells #[.int .i64 x] 3)).cell? ⟨w.heap.size + 1, 0, none⟩ = some (.slice Av nv cv) := HB7.out.cell 0; have HR7 := Lib.hid (hR6.below (below_a1 w6 (.cells #[.int .i64 x] 3)) hR6.lt); have HG7 := Lib.hid (grownBy_trans (grownBy_trans HGG.out hG6' (fun k h => .inl h)) (World.grownBy_alloc w6 (.cells #[.int .i64 x] 3) none) (fun k h => by cases h)); have HBR7 := Lib.hid ((HBR.out.grown hG6' (fun e => by injection e with e; omega)).alloc (.cells #[.int .i64 x] 3)); clear hO6 hR6 hG6))
   all_goals
    have hF := Lib.hid (show OwnI (w8.setCell ⟨w.heap.size + 1, 0, none⟩ (.slice A9 N9 c9)) (w.heap.size + 1 + 1) (.slice A9 N9 c9) (X ++ [x]) ∧ Rd 28 (w8.setCell ⟨w.heap.size + 1, 0, none⟩ (.slice A9 N9 c9)) gr A n c l (p3 + k5) e8' ∧ Block (w8.setCell ⟨w.heap.size + 1, 0, none⟩ (.slice A9 N9 c9)) (w.heap.size + 1) 32 #[.slice A9 N9 c9, .slice none 0 0] ∧ Block (w8.setCell ⟨w.heap.size + 1, 0, none⟩ (.slice A9 N9 c9)) w.heap.size 32 #[.slice none 0 0, .slice none 0 0] ∧ w.grownBy (w8.setCell ⟨w.heap.size + 1, 0, none⟩ (.slice A9 N9 c9)) (some gr) from
     ⟨hO8.other (g := w.heap.size + 1) (fun e => by have := (hO8.lt _ e).1; omega) _, (HR7.out.below hbl8 (by omega)).below ((Below.refl (w.heap.size + 1) w8).setCell (p := ⟨w.heap.size + 1, 0, none⟩) (Nat.le_refl _) _) (by omega), hb8.set_ 0 _, (HBR7.out.below hbl8 (by omega)).elsewhere (w.heap.size + 1) 0 _ (by omega), grownBy_trans (grownBy_trans HG7.out hG8.1 (fun k h => .inr (by have := (HO7.out.lt k h).1; omega))) (grown_set w8 (w.heap.size + 1) 0 _) (fun k h => .inr (by injection h with h; omega))⟩)
    clear hO8 hG8 hbl8 hb8 p8 f8 HO7 HC7 HS7 HB7 HR7 HG7 HBR7 p0 p6' pa HI3 HO HBK HBR HGG hlo
    go_wp2_with fail
    go_roundw
    case rel => exact ⟨j + 1, .slice A9 N9 c9, by omega, by go_num, by rw [HT.out]; exact hF.out.1, by rw [HT.out]; exact hF.out.2.1, hF.out.2.2⟩
    case measure => simp [intOf]; omega
  ·obtain rfl : j = a1 := by omega
   have e0 := HS1.out.trans hYj.out
   injection e0 with e0 e1'
   injection e1' with e1' e2'
   subst e0 e1' e2'
   have hrowG : Row elInt 1 wr (fun b => w.heap.size + 1 + 1 ≤ b ∧ b < wr.heap.size) Av nv cv GZ := by
    obtain ⟨A9, c9, e9, h⟩ := hO.row
    injection e9 with e9a e9b e9c
    subst e9a e9c
    rw [← e9b] at h
    exact h.mv elInt_ok (Mv.to wr fun b hb hl => ⟨hb.1, hl⟩)
   have hint2 := refInt_any wr gr A n c l p8 e8 hR 0 3
   rw [show (3 : Int) = ((3 : Nat) : Int) from rfl, HL2.out] at hint2
   have HI2 := Lib.hid hint2
   clear hint2 hO hR hzj
   go_wp2_with fail
   refine HI2.out.mono ?_
   rintro y w5 ⟨rfl, hR5, hG5⟩
   have hblk5 := hblk.grown hG5 (fun e => by injection e with e; omega)
   have hbr5 := hbr.grown hG5 (fun e => by injection e with e; omega)
   have hG6 := grownBy_trans hG hG5 (fun k h => .inl h)
   have hz5 := hG5.size
   have hrow5 : Row elInt 1 w5 (fun b => w.heap.size + 1 + 1 ≤ b ∧ b < w5.heap.size) Av nv cv GZ := hrowG.mv elInt_ok (fun b hb hl => ⟨hG5.block b hl (fun e => by injection e with e; omega), hb.1, Nat.lt_of_lt_of_le hl hz5⟩)
   clear HI2 hblk hbr hG hG5 hrowG
   go_wp2_with fail
   go_loopw [6] (fun i wi => ∃ (t : Nat) (v2 : Value), t ≤ a2 ∧ i = .int .i64 t ∧ OwnR elFil 57 3 wi w5.heap.size (fun b => w5.heap.size ≤ b) v2 (sevN rdFl l (p8 + k2) e2 t).1 ∧ Rd 28 wi gr A n c l (sevN rdFl l (p8 + k2) e2 t).2.1 (sevN rdFl l (p8 + k2) e2 t).2.2 ∧ Block wi (w.heap.size + 1) 32 #[.slice Av nv cv, v2] ∧ Block wi w.heap.size 32 #[.slice none 0 0, .slice none 0 0] ∧ Row elInt 1 wi (fun b => w.heap.size + 1 + 1 ≤ b ∧ b < w5.heap.size) Av nv cv GZ ∧ w.grownBy wi (some gr) ∧ w5.heap.size ≤ wi.heap.size) (fun i _ => a2 - (intOf i).toNat)
   case atStart => exact ⟨0, .slice none 0 0, Nat.zero_le _, rfl, OwnR.nil_ _ _ _, hR5, hblk5, hbr5, hrow5, hG6, Nat.le_refl _⟩
   case round =>
    clear hR5 hblk5 hbr5 hrow5 hG6
    obtain ⟨t, v2, ht, rfl, hO2, hR, hblk, hbr, hrow, hG, hgz3⟩ := hrel
    have hzt := sevN_len (rd := rdFl) (l := l) (p := p8 + k2) (e := e2) t
    obtain ⟨Yt, hYt⟩ : ∃ Y, Hid (sevN rdFl l (p8 + k2) e2 t = Y) := ⟨_, Lib.hid rfl⟩
    rw [hYt.out] at hO2 hR hzt
    obtain ⟨Q, p6, e7⟩ := Yt
    simp only at hO2 hR hzt
    obtain ⟨A2, n2, c2, rfl⟩ : ∃ A n c, v2 = .slice A n c := by
     obtain ⟨A, c, e⟩ := hO2.shape
     exact ⟨A, _, c, e⟩
    have hbk5 := hblk.lt
    have hgz4 := hG.size
    by_cases hltt : t < a2
    ·obtain ⟨t1, ht1⟩ : ∃ t, Hid (lk l p6 e7 0 2 = t) := ⟨_, Lib.hid rfl⟩
     obtain ⟨d, kd, ed⟩ := t1
     obtain ⟨t2, ht2⟩ : ∃ t, Hid (lk l (p6 + kd) ed 0 3 = t) := ⟨_, Lib.hid rfl⟩
     obtain ⟨v, kv, ev⟩ := t2
     obtain ⟨a3, k3, e3, hlk3, ham3⟩ := lkN_nat l (p6 + kd + kv) ev (hi := 6)
     have HS3 := Lib.hid (sevA_is (rd := rdPath) hlk3)
     obtain ⟨Z3, hZ3⟩ : ∃ Z, Hid (sevA rdPath 6 l (p6 + kd + kv) ev = Z) := ⟨_, Lib.hid rfl⟩
     rw [hZ3.out] at HS3
     obtain ⟨MZ, p7, e6⟩ := Z3
     have HT := Lib.hid (sevN_step hYt.out (rdFl_is (rdNum_is ht1.out) (rdNum_is ht2.out) hZ3.out))
     have hbx := below_a1 wr (.cells #[.int .i64 0, .int .i64 0, .slice none 0 0] 57)
     have hbf := Block.new wr 57 #[.int .i64 0, .int .i64 0, .slice none 0 0]
     have hglb : gr < wr.heap.size := by omega
     have hint1 := refInt_any (wr.alloc (.cells #[.int .i64 0, .int .i64 0, .slice none 0 0] 57)) gr A n c l p6 e7 (hR.below hbx hR.lt) 0 2
     rw [ht1.out] at hint1
     have HI1 := Lib.hid hint1
     have HL3 := Lib.hid hlk3
     have HO := Lib.hid hO2
     have HBK := Lib.hid hblk
     have HBR := Lib.hid hbr
     have HGG := Lib.hid hG
     have HRow := Lib.hid hrow
     have hlb : Hid (Q.length ≤ 1000000) := Lib.hid (by omega)
     have hlo := hO2.lt
     have hg5 : gr < w5.heap.size := by omega
     have hf5 : w.heap.size + 1 < w5.heap.size := by omega
     clear hint1 hR hO2 hblk hbr hG hrow hlk3 hzt
     go_wp2_with fail
     have hsz : (wr.alloc (.cells #[.int .i64 0, .int .i64 0, .slice none 0 0] 57)).heap.size = wr.heap.size + 1 := by simp
     generalize wr.alloc (.cells #[.int .i64 0, .int .i64 0, .slice none 0 0] 57) = W at hbx hbf HI1 hsz ⊢
     refine HI1.out.mono ?_
     rintro y z1 ⟨rfl, hR1, hG1⟩
     have hB1 := hbf.grown hG1 (fun e => by injection e with e; omega)
     have hG1' : wr.grownBy z1 (some gr) := grownBy_trans (grown_none hbx (some gr)) hG1 (fun k h => .inl h)
     have c0 : z1.cell? ⟨wr.heap.size, 0, none⟩ = some (.int .i64 0) := hB1.cell 0
     have c1 := hB1.free 0
     have hz1 := hB1.lt
     clear HI1 hbf hbx hG1 hsz
     go_upto_region 13 with fail
     have hB2 := hB1.set_ 0 (.int .i64 d)
     have hR2 := hR1.below ((Below.refl wr.heap.size z1).setCell (p := ⟨wr.heap.size, 0, none⟩) (Nat.le_refl _) (.int .i64 d)) hglb
     have hG2 : wr.grownBy (z1.setCell ⟨wr.heap.size, 0, none⟩ (.int .i64 d)) (some gr) := grownBy_trans hG1' (grown_set z1 wr.heap.size 0 (.int .i64 d)) (fun k h => .inr (by injection h with h; omega))
     clear c0 c1 hB1 hR1 hG1' hz1
     generalize z1.setCell ⟨wr.heap.size, 0, none⟩ (.int .i64 d) = z2 at hB2 hR2 hG2 ⊢
     have hint2 := refInt_any z2 gr A n c l (p6 + kd) ed hR2 0 3
     rw [ht2.out] at hint2
     have HI2 := Lib.hid hint2
     have hz2 := hB2.lt
     clear hint2 hR2
     go_wp2_with fail
     refine HI2.out.mono ?_
     rintro y z3 ⟨rfl, hR3, hG3⟩
     have hB3 := hB2.grown hG3 (fun e => by injection e with e; omega)
     have hG3' : wr.grownBy z3 (some gr) := grownBy_trans hG2 hG3 (fun k h => .inl h)
     have c0 : z3.cell? ⟨wr.heap.size, 1, none⟩ = some (.int .i64 0) := hB3.cell 1
     have c1 := hB3.free 1
     clear HI2 hB2 hG2 hG3 hz2
     go_upto_region 14 with fail
     have hB4 := hB3.set_ 1 (.int .i64 v)
     have hR4 := hR3.below ((Below.refl wr.heap.size z3).setCell (p := ⟨wr.heap.size, 1, none⟩) (Nat.le_refl _) (.int .i64 v)) hglb
     have hG4 : wr.grownBy (z3.setCell ⟨wr.heap.size, 1, none⟩ (.int .i64 v)) (some gr) := grownBy_trans hG3' (grown_set z3 wr.heap.size 1 (.int .i64 v)) (fun k h => .inr (by injection h with h; omega))
     clear c0 c1 hB3 hR3 hG3'
     generalize z3.setCell ⟨wr.heap.size, 1, none⟩ (.int .i64 v) = z4 at hB4 hR4 hG4 ⊢
     have hint3 := refInt_any z4 gr A n c l (p6 + kd + kv) ev hR4 0 6
     rw [show (6 : Int) = ((6 : Nat) : Int) from rfl, HL3.out] at hint3
     have HI3 := Lib.hid hint3
     have hz4 := hB4.lt
     clear hint3 hR4
     go_wp2_with fail
     refine HI3.out.mono ?_
     rintro y z5 ⟨rfl, hR5, hG5⟩
     have hB5 : Block z5 wr.heap.size 57 #[.int .i64 d, .int .i64 v, .slice none 0 0] := hB4.grown hG5 (fun e => by injection e with e; omega)
     have hG5' : wr.grownBy z5 (some gr) := grownBy_trans hG4 hG5 (fun k h => .inl h)
     clear HI3 hB4 hG4 hG5 hz4
     go_wp2_with fail
     obtain ⟨wb, rfl⟩ : ∃ wb, wb = wr := ⟨_, rfl⟩
     go_loopw [9] (fun i wi => ∃ (j : Nat) (vp : Value), j ≤ a3 ∧ i = .int .i64 j ∧ OwnR (elRow elText 1) 41 1 wi (wb.heap.size + 1) (fun b => wb.heap.size + 1 ≤ b) vp (sevN rdPath l (p6 + kd + kv + k3) e3 j).1 ∧ Rd 28 wi gr A n c l (sevN rdPath l (p6 + kd + kv + k3) e3 j).2.1 (sevN rdPath l (p6 + kd + kv + k3) e3 j).2.2 ∧ Block wi wb.heap.size 57 #[.int .i64 d, .int .i64 v, vp] ∧ wb.grownBy wi (some gr)) (fun i _ => a3 - (intOf i).toNat)
     case atStart => exact ⟨0, .slice none 0 0, Nat.zero_le _, rfl, OwnR.nil_ _ _ _, hR5, hB5, hG5'⟩
     case round =>
      clear hR5 hB5 hG5'
      obtain ⟨j, vp, hj, rfl, hP, hR, hblk, hG⟩ := hrel
      have hzj := sevN_len (rd := rdPath) (l := l) (p := p6 + kd + kv + k3) (e := e3) j
      obtain ⟨Yj, hYj⟩ : ∃ Y, Hid (sevN rdPath l (p6 + kd + kv + k3) e3 j = Y) := ⟨_, Lib.hid rfl⟩
      rw [hYj.out] at hP hR hzj
      obtain ⟨X, p3, e5⟩ := Yj
      simp only at hP hR hzj
      obtain ⟨Ap, np, cp, rfl⟩ : ∃ A n c, vp = .slice A n c := by
       obtain ⟨A, c, e⟩ := hP.shape
       exact ⟨A, _, c, e⟩
      have hgz2 := hG.size
      have hbk := hblk.lt
      by_cases hlj : j < a3
      ·have htx := refText_any wr gr A n c l p3 e5 hR 38
       have htl := tx38_len l p3 e5
       obtain ⟨t, ht⟩ : ∃ t, Hid (tx l p3 e5 38 = t) := ⟨_, Lib.hid rfl⟩
       rw [ht.out] at htx htl
       obtain ⟨s, p4, e4⟩ := t
       have HTX := Lib.hid htx
       have hs38 : s.length ≤ 38 := htl
       have hlbX : Hid (X.length ≤ 1000000) := Lib.hid (by omega)
       have hloP := hP.lt
       have HP0 := Lib.hid hP
       have HB0 := Lib.hid hblk
       have HG0 := Lib.hid hG
       clear htx hR htl hP hblk hG hzj
       rcases hp : pathP s with _ | q
       ·have HTj := Lib.hid (sevN_step hYj.out (rdPath_no ht.out hp))
        have HPP := Lib.hid hp
        clear hp
        go_wp2_with fail
        refine HTX.out.mono ?_
        rintro y x5 ⟨rfl, hR5, hG5⟩
        have HC := Lib.hid (refPath_any s x5 (by omega))
        rw [HPP.out] at HC
        clear HTX
        go_wp2_with fail
        refine HC.out.mono ?_
        rintro y x6 hy
        obtain ⟨rfl, hb6⟩ := hy.no
        have hR6 := hR5.below hb6 hR5.lt
        have hG6 := grown_belowN hG5 hb6
        have HBd := Lib.hid (refBad_any x6 gr A n c l p4 e4 hR6)
        clear HC hy hb6 hR5 hG5 hR6
        go_wp2_with fail
        refine HBd.out.mono ?_
        rintro y x7 ⟨rfl, hR7, hG7⟩
        have hG8 := grownBy_trans hG6 hG7 (fun k h => .inl h)
        clear HBd hG6 hG7
        have hrow : elRow elText 1 x7 (fun b => wr.heap.size ≤ b) [.slice none 0 0] ([] : List Txt) := ⟨none, 0, 0, rfl, Row.none_ _ _⟩
        have hG9 : wb.grownBy x7 (some gr) := grownBy_trans HG0.out hG8 (fun k h => .inl h)
        have hz8 := hG8.size
        have hP7 := HP0.out.grown elPath_ok hG8 (fun e => by have := (hloP _ e).1; omega) (by omega)
        have hB7 := HB0.out.grown hG8 (fun e => by injection e with e; omega)
        have k0 : x7.cell? ⟨wb.heap.size, 2, none⟩ = some (.slice Ap np cp) := hB7.cell 2
        have hP8 := hP7.alloc elPath_ok (.cells #[.slice none 0 0] 41)
        have hB8 := hB7.alloc (.cells #[.slice none 0 0] 41)
        have hR8 := hR7.below (below_a1 x7 (.cells #[.slice none 0 0] 41)) hR7.lt
        have hG10 := grownBy_trans hG9 (World.grownBy_alloc x7 (.cells #[.slice none 0 0] 41) none) (fun k h => by cases h)
        have hE8 := elPath_ok _ _ _ _ _ _ ((Mv.to x7 (S' := fun b => wb.heap.size + 1 ≤ b ∧ (Value.slice Ap np cp).ownBlock ≠ some b) fun b hb _ => ⟨by omega, fun e => by have := (hloP _ e).2; omega⟩).trans (Mv.alloc x7 (.cells #[.slice none 0 0] 41) _)) hrow
        have hbs : wb.heap.size + 1 ≤ (x7.alloc (.cells #[.slice none 0 0] 41)).heap.size := by rw [World.size_alloc]; omega
        have k1 : (x7.alloc (.cells #[.slice none 0 0] 41)).cell? ⟨wb.heap.size, 2, none⟩ = some (.slice Ap np cp) := hB8.cell 2
        clear hP7 hB7 hR7 hG8 hG9 hrow HP0 HB0 HG0
        go_wp2_with (at_builtin; refine wpList_appX elPath_ok rfl _ _ rfl info_rowT Tryd.underlying55 rfl (by decide) (wb.heap.size + 1) _ (.slice Ap np cp) _ rfl hP8 _ rfl [.slice none 0 0] rfl ([] : List Txt) (cell_litX x7 _ _) (one_slR _ _ _) hE8 hlbX.out hbs ?_)
        intro v' x8 hP9 hG11
        obtain ⟨A9, N9, c9, rfl⟩ : ∃ A n c, v' = .slice A n c := by
         obtain ⟨A, c, e⟩ := hP9.shape
         exact ⟨A, _, c, e⟩
        have hb8 := hG11.below_ hbs (fun g e => (hloP g e).1)
        have hbn := hB8.below hb8 (Nat.lt_succ_self _)
        have d0 : x8.cell? ⟨wb.heap.size, 2, none⟩ = some (.slice Ap np cp) := hbn.cell 2
        have d1 := hbn.free 2
        have hF := Lib.hid (show OwnR (elRow elText 1) 41 1 (x8.setCell ⟨wb.heap.size, 2, none⟩ (.slice A9 N9 c9)) (wb.heap.size + 1) (fun b => wb.heap.size + 1 ≤ b) (.slice A9 N9 c9) (X ++ [([] : List Txt)]) ∧ Rd 28 (x8.setCell ⟨wb.heap.size, 2, none⟩ (.slice A9 N9 c9)) gr A n c l p4 (if e4 = 0 then 2 else e4) ∧ Block (x8.setCell ⟨wb.heap.size, 2, none⟩ (.slice A9 N9 c9)) wb.heap.size 57 #[.int .i64 d, .int .i64 v, .slice A9 N9 c9] ∧ wb.grownBy (x8.setCell ⟨wb.heap.size, 2, none⟩ (.slice A9 N9 c9)) (some gr) from
         ⟨hP9.setR elPath_ok (fun e => by have := (hP9.lt _ e).1; omega) (by omega), (hR8.below hb8 (by omega)).below ((Below.refl wb.heap.size x8).setCell (p := ⟨wb.heap.size, 2, none⟩) (Nat.le_refl _) _) hglb, hbn.set_ 2 _, grownBy_trans (grownBy_trans hG10 hG11.1 (fun k h => .inr (by have := (hloP k h).1; omega))) (grown_set x8 wb.heap.size 2 _) (fun k h => .inr (by injection h with h; omega))⟩)
        clear hP8 hB8 hR8 hG10 hE8 hP9 hG11 hb8 hbn k0 k1 hloP
        go_wp2_with fail
        go_roundw
        case rel => exact ⟨j + 1, .slice A9 N9 c9, by omega, by go_num, by rw [HTj.out]; exact hF.out.1, by rw [HTj.out]; exact hF.out.2.1, hF.out.2.2⟩
        case measure => simp [intOf]; omega
       ·have HTj := Lib.hid (sevN_step hYj.out (rdPath_yes ht.out hp))
        have HPP := Lib.hid hp
        clear hp
        go_wp2_with fail
        refine HTX.out.mono ?_
        rintro y x5 ⟨rfl, hR5, hG5⟩
        have HC := Lib.hid (refPath_any s x5 (by omega))
        rw [HPP.out] at HC
        clear HTX
        go_wp2_with fail
        refine HC.out.mono ?_
        rintro y x7 hy
        obtain ⟨B5, j5, d5, rfl, hv, hfr, hb6⟩ := hy.fresh
        have hR7 := hR5.below hb6 hR5.lt
        have hG8 := grown_belowN hG5 hb6
        have hz5 := hG5.size
        have hrow : elRow elText 1 x7 (fun b => wr.heap.size ≤ b) [.slice B5 j5 d5] q := ⟨B5, j5, d5, rfl, hv.rowN fun a ha => Nat.le_trans hz5 (hfr a ha)⟩
        clear HC hy hb6 hR5 hG5 hv hfr
        have hG9 : wb.grownBy x7 (some gr) := grownBy_trans HG0.out hG8 (fun k h => .inl h)
        have hz8 := hG8.size
        have hP7 := HP0.out.grown elPath_ok hG8 (fun e => by have := (hloP _ e).1; omega) (by omega)
        have hB7 := HB0.out.grown hG8 (fun e => by injection e with e; omega)
        have k0 : x7.cell? ⟨wb.heap.size, 2, none⟩ = some (.slice Ap np cp) := hB7.cell 2
        have hP8 := hP7.alloc elPath_ok (.cells #[.slice B5 j5 d5] 41)
        have hB8 := hB7.alloc (.cells #[.slice B5 j5 d5] 41)
        have hR8 := hR7.below (below_a1 x7 (.cells #[.slice B5 j5 d5] 41)) hR7.lt
        have hG10 := grownBy_trans hG9 (World.grownBy_alloc x7 (.cells #[.slice B5 j5 d5] 41) none) (fun k h => by cases h)
        have hE8 := elPath_ok _ _ _ _ _ _ ((Mv.to x7 (S' := fun b => wb.heap.size + 1 ≤ b ∧ (Value.slice Ap np cp).ownBlock ≠ some b) fun b hb _ => ⟨by omega, fun e => by have := (hloP _ e).2; omega⟩).trans (Mv.alloc x7 (.cells #[.slice B5 j5 d5] 41) _)) hrow
        have hbs : wb.heap.size + 1 ≤ (x7.alloc (.cells #[.slice B5 j5 d5] 41)).heap.size := by rw [World.size_alloc]; omega
        have k1 : (x7.alloc (.cells #[.slice B5 j5 d5] 41)).cell? ⟨wb.heap.size, 2, none⟩ = some (.slice Ap np cp) := hB8.cell 2
        clear hP7 hB7 hR7 hG8 hG9 hrow HP0 HB0 HG0
        go_wp2_with (at_builtin; refine wpList_appX elPath_ok rfl _ _ rfl info_rowT Tryd.underlying55 rfl (by decide) (wb.heap.size + 1) _ (.slice Ap np cp) _ rfl hP8 _ rfl [.slice B5 j5 d5] rfl q (cell_litX x7 _ _) (one_slR _ _ _) hE8 hlbX.out hbs ?_)
        intro v' x8 hP9 hG11
        obtain ⟨A9, N9, c9, rfl⟩ : ∃ A n c, v' = .slice A n c := by
         obtain ⟨A, c, e⟩ := hP9.shape
         exact ⟨A, _, c, e⟩
        have hb8 := hG11.below_ hbs (fun g e => (hloP g e).1)
        have hbn := hB8.below hb8 (Nat.lt_succ_self _)
        have d0 : x8.cell? ⟨wb.heap.size, 2, none⟩ = some (.slice Ap np cp) := hbn.cell 2
        have d1 := hbn.free 2
        have hF := Lib.hid (show OwnR (elRow elText 1) 41 1 (x8.setCell ⟨wb.heap.size, 2, none⟩ (.slice A9 N9 c9)) (wb.heap.size + 1) (fun b => wb.heap.size + 1 ≤ b) (.slice A9 N9 c9) (X ++ [q]) ∧ Rd 28 (x8.setCell ⟨wb.heap.size, 2, none⟩ (.slice A9 N9 c9)) gr A n c l p4 e4 ∧ Block (x8.setCell ⟨wb.heap.size, 2, none⟩ (.slice A9 N9 c9)) wb.heap.size 57 #[.int .i64 d, .int .i64 v, .slice A9 N9 c9] ∧ wb.grownBy (x8.setCell ⟨wb.heap.size, 2, none⟩ (.slice A9 N9 c9)) (some gr) from
         ⟨hP9.setR elPath_ok (fun e => by have := (hP9.lt _ e).1; omega) (by omega), (hR8.below hb8 (by omega)).below ((Below.refl wb.heap.size x8).setCell (p := ⟨wb.heap.size, 2, none⟩) (Nat.le_refl _) _) hglb, hbn.set_ 2 _, grownBy_trans (grownBy_trans hG10 hG11.1 (fun k h => .inr (by have := (hloP k h).1; omega))) (grown_set x8 wb.heap.size 2 _) (fun k h => .inr (by injection h with h; omega))⟩)
        clear hP8 hB8 hR8 hG10 hE8 hP9 hG11 hb8 hbn k0 k1 hloP
        go_wp2_with fail
        go_roundw
        case rel => exact ⟨j + 1, .slice A9 N9 c9, by omega, by go_num, by rw [HTj.out]; exact hF.out.1, by rw [HTj.out]; exact hF.out.2.1, hF.out.2.2⟩
        case measure => simp [intOf]; omega
      ·obtain rfl : j = a3 := by omega
       have e0 := HS3.out.trans hYj.out
       injection e0 with e0 e1'
       injection e1' with e1' e2'
       subst e0 e1' e2'
       have f0 : wr.cell? ⟨wb.heap.size, 0, none⟩ = some (.int .i64 d) := hblk.cell 0
       have f1 : wr.cell? ⟨wb.heap.size, 1, none⟩ = some (.int .i64 v) := hblk.cell 1
       have f2 : wr.cell? ⟨wb.heap.size, 2, none⟩ = some (.slice Ap np cp) := hblk.cell 2
       obtain ⟨A9, c9, e9', hrowP⟩ := hP.read elPath_ok
       injection e9' with e9a e9b e9c
       subst e9a e9c
       rw [← e9b] at hrowP
       clear e9b hzj
       have hEF : elFil wr (fun b => w5.heap.size ≤ b ∧ (Value.slice A2 n2 c2).ownBlock ≠ some b) [.int .i64 d, .int .i64 v, .slice Ap np cp] (d, v, MZ) := elFil_mk (hrowP.mv elPath_ok (Mv.to wr fun b hb _ => by
        have hb' : wb.heap.size + 1 ≤ b := by rcases hb with hb | hb; exact hb; exact hb.1
        exact ⟨by omega, fun e => by have := (hlo _ e).2; omega⟩))
       have hBK := HBK.out.grown hG (fun e => by injection e with e; omega)
       have hBR := HBR.out.grown hG (fun e => by injection e with e; omega)
       have hRow := HRow.out.mv (S' := fun b => w.heap.size + 1 + 1 ≤ b ∧ b < w5.heap.size) elInt_ok (Mv.grown hG (fun b hb e => by injection e with e; have := hb.1; omega))
       have hO7 := (HO.out.grown elFil_ok hG (fun e => by have := (hlo _ e).1; omega) (by omega)).alloc elFil_ok (.cells #[.int .i64 d, .int .i64 v, .slice Ap np cp] 57)
       have hE7 := elFil_ok _ _ _ _ _ _ (Mv.alloc wr (.cells #[.int .i64 d, .int .i64 v, .slice Ap np cp] 57) _) hEF
       have hBK7 := hBK.alloc (.cells #[.int .i64 d, .int .i64 v, .slice Ap np cp] 57)
       have hBR7 := hBR.alloc (.cells #[.int .i64 d, .int .i64 v, .slice Ap np cp] 57)
       have hRow7 := hRow.mv elInt_ok (Mv.alloc wr (.cells #[.int .i64 d, .int .i64 v, .slice Ap np cp] 57) _)
       have hR7 := hR.below (below_a1 wr (.cells #[.int .i64 d, .int .i64 v, .slice Ap np cp] 57)) hR.lt
       have hG7 := grownBy_trans (grownBy_trans HGG.out hG (fun k h => .inl h)) (World.grownBy_alloc wr (.cells #[.int .i64 d, .int .i64 v, .slice Ap np cp] 57) none) (fun k h => by cases h)
       have q0 : wr.cell? ⟨w.heap.size + 1, 1, none⟩ = some (.slice A2 n2 c2) := hBK.cell 1
       have q1 : (wr.alloc (.cells #[.int .i64 d, .int .i64 v, .slice Ap np cp] 57)).cell? ⟨w.heap.size + 1, 1, none⟩ = some (.slice A2 n2 c2) := hBK7.cell 1
       have hbs : w5.heap.size ≤ (wr.alloc (.cells #[.int .i64 d, .int .i64 v, .slice Ap np cp] 57)).heap.size := by rw [World.size_alloc]; omega
       clear hP hR hblk hG hrowP hEF hBK hBR hRow HO HBK HBR HGG HRow
       go_wp2_with (at_builtin; refine wpList_appX elFil_ok rfl _ _ rfl info_filter Tryd.underlying30 rfl (by decide) w5.heap.size _ (.slice A2 n2 c2) _ rfl hO7 _ rfl [.int .i64 d, .int .i64 v, .slice Ap np cp] rfl (d, v, MZ) (cell_litD wr #[.int .i64 d, .int .i64 v, .slice Ap np cp] _) (one_fil _ _ _ _ _) hE7 hlb.out hbs ?_)
       intro v' w8 hO8 hG8
       obtain ⟨A9, N9, c9, rfl⟩ : ∃ A n c, v' = .slice A n c := by
        obtain ⟨A, c, e⟩ := hO8.shape
        exact ⟨A, _, c, e⟩
       have hbl8 := hG8.below_ hbs (fun g e => (hlo g e).1)
       have hb8 := hBK7.below hbl8 hf5
       have p8 : w8.cell? ⟨w.heap.size + 1, 1, none⟩ = some (.slice A2 n2 c2) := hb8.cell 1
       have f8 := hb8.free 1
       have hF := Lib.hid (show OwnR elFil 57 3 (w8.setCell ⟨w.heap.size + 1, 1, none⟩ (.slice A9 N9 c9)) w5.heap.size (fun b => w5.heap.size ≤ b) (.slice A9 N9 c9) (Q ++ [(d, v, MZ)]) ∧ Rd 28 (w8.setCell ⟨w.heap.size + 1, 1, none⟩ (.slice A9 N9 c9)) gr A n c l p7 e6 ∧ Block (w8.setCell ⟨w.heap.size + 1, 1, none⟩ (.slice A9 N9 c9)) (w.heap.size + 1) 32 #[.slice Av nv cv, .slice A9 N9 c9] ∧ Block (w8.setCell ⟨w.heap.size + 1, 1, none⟩ (.slice A9 N9 c9)) w.heap.size 32 #[.slice none 0 0, .slice none 0 0] ∧ Row elInt 1 (w8.setCell ⟨w.heap.size + 1, 1, none⟩ (.slice A9 N9 c9)) (fun b => w.heap.size + 1 + 1 ≤ b ∧ b < w5.heap.size) Av nv cv GZ ∧ w.grownBy (w8.setCell ⟨w.heap.size + 1, 1, none⟩ (.slice A9 N9 c9)) (some gr) ∧ w5.heap.size ≤ (w8.setCell ⟨w.heap.size + 1, 1, none⟩ (.slice A9 N9 c9)).heap.size from
        ⟨hO8.setR elFil_ok (fun e => by have := (hO8.lt _ e).1; omega) (by omega), (hR7.below hbl8 hg5).below ((Below.refl (w.heap.size + 1) w8).setCell (p := ⟨w.heap.size + 1, 1, none⟩) (Nat.le_refl _) _) (by omega), hb8.set_ 1 _, (hBR7.below hbl8 (by omega)).elsewhere (w.heap.size + 1) 1 _ (by omega), (hRow7.mv elInt_ok (Mv.below hbl8 (fun b hb => hb.2))).mv elInt_ok (Mv.set w8 (w.heap.size + 1) 1 _ (by omega)), grownBy_trans (grownBy_trans hG7 hG8.1 (fun k h => .inr (by have := (hlo k h).1; omega))) (grown_set w8 (w.heap.size + 1) 1 _) (fun k h => .inr (by injection h with h; omega)), Nat.le_trans hbs (Nat.le_trans hbl8.size (by simp [World.setCell]))⟩)
       clear hO8 hG8 hbl8 hb8 hO7 hE7 hBK7 hBR7 hRow7 hR7 hG7 f0 f1 f2 q0 q1 hlo
       go_wp2_with fail
       go_roundw
       case rel => exact ⟨t + 1, .slice A9 N9 c9, by omega, by go_num, by rw [HT.out]; exact hF.out.1, by rw [HT.out]; exact hF.out.2.1, hF.out.2.2⟩
       case measure => simp [intOf]; omega
    ·obtain rfl : t = a2 := by omega
     have e0 := HS2.out.trans hYt.out
     injection e0 with e0 e1'
     injection e1' with e1' e2'
     subst e0 e1' e2'
     obtain ⟨A9, c9, e9', hrowF⟩ := hO2.read elFil_ok
     injection e9' with e9a e9b e9c
     subst e9a e9c
     rw [← e9b] at hrowF
     clear e9b hzt
     have hHQ : HasQ wr (fun b => w.heap.size + 1 + 1 ≤ b) Av nv cv A2 n2 c2 (GZ, FZ) := ⟨hrow.mv elInt_ok (Mv.to wr fun b hb _ => hb.1), hrowF.mv elFil_ok (Mv.to wr fun b hb _ => by
      rcases hb with hb | hb
      ·omega
      ·omega)⟩
     have rc2 := hR.c2
     have z0 : wr.cell? ⟨w.heap.size, 0, none⟩ = some (.slice none 0 0) := hbr.cell 0
     have z1 : wr.cell? ⟨w.heap.size, 1, none⟩ = some (.slice none 0 0) := hbr.cell 1
     have y0 := hbr.free 0
     have y1 := hbr.free 1
     by_cases he : e9 = 0
     ·subst he
      obtain rfl : (GZ, FZ) = QZ := by rw [← hQZ.out, if_pos rfl]
      have q0 : wr.cell? ⟨w.heap.size + 1, 0, none⟩ = some (.slice Av nv cv) := hblk.cell 0
      have q1 : wr.cell? ⟨w.heap.size + 1, 1, none⟩ = some (.slice A2 n2 c2) := hblk.cell 1
      have HRB := Lib.hid (block_two hbr (u := .slice Av nv cv) (v := .slice A2 n2 c2))
      have hF := Lib.hid (show HasQ ((wr.setCell ⟨w.heap.size, 0, none⟩ (.slice Av nv cv)).setCell ⟨w.heap.size, 1, none⟩ (.slice A2 n2 c2)) (fun k => w.heap.size ≤ k) Av nv cv A2 n2 c2 (GZ, FZ) ∧ Rd 28 ((wr.setCell ⟨w.heap.size, 0, none⟩ (.slice Av nv cv)).setCell ⟨w.heap.size, 1, none⟩ (.slice A2 n2 c2)) gr A n c l p9 0 ∧ w.grownBy ((wr.setCell ⟨w.heap.size, 0, none⟩ (.slice Av nv cv)).setCell ⟨w.heap.size, 1, none⟩ (.slice A2 n2 c2)) (some gr) from
       ⟨hHQ.mv ((Mv.set wr w.heap.size 0 _ (by omega)).trans ((Mv.set _ w.heap.size 1 _ (by omega)).trans (Mv.to _ fun b hb _ => by omega))), hR.two hgl _ _, grown_two hG (Nat.le_refl _) _ _⟩)
      clear hO2 hR hblk hbr hrow hG hrowF hHQ
      go_wp2_with fail
      refine bodyPost_ret (results_block1 rfl _ _ w.heap.size _ _ rfl HRB.out Tryd.underlying32 rfl info_queryS) rfl ?_
      exact ⟨_, _, _, _, _, _, rfl, hF.out⟩
     ·have ht : ((e9 : Int) != 0) = true := by simpa using he
      obtain rfl : ([], []) = QZ := by rw [← hQZ.out, if_neg he]
      have HRB := Lib.hid (block_two hbr (u := .slice none 0 0) (v := .slice none 0 0))
      have hF := Lib.hid (show HasQ ((wr.setCell ⟨w.heap.size, 0, none⟩ (.slice none 0 0)).setCell ⟨w.heap.size, 1, none⟩ (.slice none 0 0)) (fun k => w.heap.size ≤ k) none 0 0 none 0 0 ([], []) ∧ Rd 28 ((wr.setCell ⟨w.heap.size, 0, none⟩ (.slice none 0 0)).setCell ⟨w.heap.size, 1, none⟩ (.slice none 0 0)) gr A n c l p9 e9 ∧ w.grownBy ((wr.setCell ⟨w.heap.size, 0, none⟩ (.slice none 0 0)).setCell ⟨w.heap.size, 1, none⟩ (.slice none 0 0)) (some gr) from
       ⟨⟨Row.none_ _ _, Row.none_ _ _⟩, hR.two hgl _ _, grown_two hG (Nat.le_refl _) _ _⟩)
      clear hO2 hR hblk hbr hrow hG hrowF hHQ he
      go_wp2_with fail
      refine bodyPost_ret (results_block1 rfl _ _ w.heap.size _ _ rfl HRB.out Tryd.underlying32 rfl info_queryS) rfl ?_
      exact ⟨_, _, _, _, _, _, rfl, hF.out⟩
end Go.Proofs.YtmcccpbpijnbmaaDoor
