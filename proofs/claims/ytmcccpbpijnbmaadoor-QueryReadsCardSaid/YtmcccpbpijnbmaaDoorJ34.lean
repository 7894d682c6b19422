/- QryE -/
import Derived.Test.YtmcccpbpijnbmaaDoorJ22
import Derived.Test.YtmcccpbpijnbmaaDoorJ30
import Derived.Test.YtmcccpbpijnbmaaDoorJ32
namespace Go.Proofs.YtmcccpbpijnbmaaDoor
set_option maxRecDepth 100000
open Go.RowKit

def keyK (q : Qry) (P : List (List Txt)) (k : Nat) : List (List Txt) := (List.range q.1.length).map fun i => if i < k then upP (P.getD i []) (q.1.getD i 0) else []
theorem keyK_len (q : Qry) (P : List (List Txt)) (k : Nat) : (keyK q P k).length = q.1.length := by simp [keyK]
theorem keyK_get {q : Qry} {P : List (List Txt)} {k i : Nat} (hi : i < q.1.length) : (keyK q P k)[i]? = some (if i < k then upP (P.getD i []) (q.1.getD i 0) else []) := by
 unfold keyK
 rw [List.getElem?_map, List.getElem?_range hi]
 rfl
theorem keyK_zero {G : List Int} {F : List Fil} (P : List (List Txt)) {n : Nat} (hn : G.length = n) : keyK (G, F) P 0 = List.replicate n [] := by
 subst hn
 refine List.ext_getElem? fun i => ?_
 rw [List.getElem?_replicate]
 by_cases hi : i < G.length
 ·rw [keyK_get hi, if_pos hi, if_neg (by omega)]
 ·rw [if_neg hi, List.getElem?_eq_none (by rw [keyK_len]; exact Nat.le_of_not_lt hi)]
theorem keyK_set {q : Qry} {P : List (List Txt)} {k : Nat} {x : List Txt} {v : Int} (hx : P[k]? = some x) (hv : v = q.1.getD k 0) : (keyK q P k).set k (upP x v) = keyK q P (k + 1) := by
 refine List.ext_getElem? fun i => ?_
 rw [List.getElem?_set]
 by_cases hi : i < q.1.length
 ·by_cases hik : k = i
  ·subst hik
   rw [if_pos rfl, if_pos (by rw [keyK_len]; exact hi), keyK_get hi, if_pos (by omega), hv, show P.getD k [] = x by rw [List.getD_eq_getElem?_getD, hx]; rfl]
  ·rw [if_neg hik, keyK_get hi, keyK_get hi]
   by_cases h : i < k
   ·rw [if_pos h, if_pos (by omega)]
   ·rw [if_neg h, if_neg (by omega)]
 ·rw [List.getElem?_eq_none (by rw [keyK_len]; exact Nat.le_of_not_lt hi), List.getElem?_eq_none (by rw [keyK_len]; exact Nat.le_of_not_lt hi)]
  by_cases hki : k = i
  ·rw [if_pos hki, if_neg (by rw [keyK_len]; omega)]
  ·rw [if_neg hki]
theorem keyK_all {q : Qry} {P : List (List Txt)} {k : Nat} (h : q.1.length ≤ k ∨ P.length ≤ k) : keyK q P k = keyQ q P := by
 unfold keyK keyQ
 refine List.map_congr_left fun i hi => ?_
 have hi := List.mem_range.1 hi
 by_cases h1 : i < k
 ·rw [if_pos h1]
 ·rw [if_neg h1, show P.getD i [] = [] by rw [List.getD_eq_getElem?_getD, List.getElem?_eq_none (by omega)]; rfl]
  simp [upP]
set_option maxHeartbeats 4000000 in
theorem key_any {S S' : Nat → Prop} {A A1 A2 : Option Addr} {n c n1 c1 n2 c2 : Nat} {P : List (List Txt)} {q : Qry} {w : World} (hq : HasQ w S A1 n1 c1 A2 n2 c2 q) (hp : Row (elRow elText 1) 1 w S' A n c P) (hn1 : n1 ≤ 1000) (hP : ∀ p ∈ P, p.length ≤ 1000000) :
  Calls Tryd.prog 28 #[qryV A1 n1 c1 A2 n2 c2, .slice A n c] w (Told (elOwn elText 9 1) 41 1 w (keyQ q P)) := by
 obtain ⟨G, F⟩ := q
 have hn := hp.lenMax
 have hc1 := hq.g.cap
 have hc1m := hq.g.capMax
 have HG := Lib.hid (show G.length = n1 from hq.g.len)
 have HP := Lib.hid hp.len
 have hb0 := below_a1 w (.cells #[.slice A1 n1 c1, .slice A2 n2 c2] 32)
 have hbl := Block.new w 32 #[.slice A1 n1 c1, .slice A2 n2 c2]
 have hg0 := hq.g.mv elInt_ok (Mv.belowS hb0 S)
 have hp0 := hp.mv elPath_ok (Mv.belowS hb0 S')
 clear hq hp
 have HK : ∀ V : World, (Instr.makeSlice 55 (.int .i64 (n1 : Int)) (.int .i64 (n1 : Int))).run Tryd.prog V = .ok (.slice (some ⟨V.heap.size, 0, none⟩) n1 n1) (V.alloc (.cells (prow n1) 41)) := fun V => make_paths n1 V (by omega)
 obtain ⟨N, hN⟩ : ∃ N, min n1 n = N := ⟨_, rfl⟩
 have hmin : min (n1 : Int) (n : Int) = (N : Int) := by omega
 have hN1 : N ≤ n1 := by omega
 have hN2 : N ≤ n := by omega
 have HN := Lib.hid hN
 clear hN
 have i8 : (0 : Int) ≤ (N : Int) := by omega
 have i9 : (N : Int) ≤ (c1 : Int) := by omega
 go_enter Tryd.func28, Tryd.ntmps28
 go_wp2_with fail
 clear HK hmin
 generalize hWe : w.alloc (.cells #[.slice A1 n1 c1, .slice A2 n2 c2] 32) = W at hb0 hbl hg0 hp0 ⊢
 have hzW : W.heap.size = w.heap.size + 1 := by rw [← hWe]; simp
 have HZ := Lib.hid hzW
 clear hWe hzW
 have hb1 := below_a1 W (.cells (prow n1) 41)
 have hO0 : OwnR (elOwn elText 9 1) 41 1 (W.alloc (.cells (prow n1) 41)) w.heap.size (fun k => w.heap.size ≤ k) (.slice (some ⟨w.heap.size + 1, 0, none⟩) n1 n1) (keyK (G, F) P 0) := by
  rw [keyK_zero P HG.out]
  rw [← HZ.out]
  exact own_prow (Block.new W 41 (prow n1)) hb0.size (by omega)
 have hB1 := hb0.trans (hb1.mono hb0.size)
 have hzg := hb0.size
 have hg1 : Row elInt 1 W (fun b => S b ∧ b < W.heap.size) A1 N c1 (G.take N) := (hg0.take_ hN1).mv elInt_ok (Mv.to W fun b hb hl => ⟨hb, hl⟩)
 have hp1 : Row (elRow elText 1) 1 W (fun b => S' b ∧ b < W.heap.size) A n c P := hp0.mv elPath_ok (Mv.to W fun b hb hl => ⟨hb, hl⟩)
 have HS : ∀ b, (S b ∧ b < W.heap.size) → b < W.heap.size := fun b hb => hb.2
 have HS' : ∀ b, (S' b ∧ b < W.heap.size) → b < W.heap.size := fun b hb => hb.2
 have HB1 := Lib.hid (show Below W.heap.size W (W.alloc (.cells (prow n1) 41)) from hb1)
 have HO0 := Lib.hid hO0
 clear hg0 hp0 hb1 hO0 hbl
 go_loopw [22] (fun i wr => ∃ k : Nat, k ≤ N ∧ i = .int .i64 k ∧ OwnR (elOwn elText 9 1) 41 1 wr w.heap.size (fun k => w.heap.size ≤ k) (.slice (some ⟨w.heap.size + 1, 0, none⟩) n1 n1) (keyK (G, F) P k) ∧ Below W.heap.size W wr) (fun i _ => N - (intOf i).toNat)
 case atStart => exact ⟨0, Nat.zero_le _, rfl, HO0.out, HB1.out⟩
 case round =>
  obtain ⟨k, hk, rfl, hO, hB⟩ := hrel
  by_cases hlt : k < N
  ·obtain ⟨b, o, v, rfl, _, g0, hv⟩ := (hg1.mv elInt_ok (Mv.below hB HS)).hasI.at_ hlt
   obtain ⟨b2, o2, A3, n3, c3, x, rfl, _, _, g1, hx, hxe⟩ := (hp1.mv elPath_ok (Mv.below hB HS')).at1 (show k < n by omega)
   have i0 : (0 : Int) ≤ (k : Int) := by omega
   have i1 : (k : Int) < (N : Int) := by omega
   have i2 : (k : Int) < (n : Int) := by omega
   have i3 : (k : Int) < (n1 : Int) := by omega
   have hv2 : v = (G, F).1.getD k 0 := by
    rw [hv.out]
    simp [List.getD_eq_getElem?_getD, hlt]
   have HT := Lib.hid (keyK_set (q := (G, F)) hxe.out hv2)
   have hxl : n3 ≤ 1000000 := by have h1 := hP x (List.mem_of_getElem? hxe.out); have h2 := hx.len; omega
   have HU := Lib.hid (upO_any hx.hasT v hxl)
   have hgl := hO.lt (w.heap.size + 1) rfl
   clear hx hv hv2
   go_wp2_with fail
   refine HU.out.mono ?_
   rintro e w2 ⟨⟨v2, rfl, hO2⟩, hb2⟩
   have hE2 : elOwn elText 9 1 w2 (fun k => w.heap.size ≤ k ∧ k ≠ w.heap.size + 1) [v2] (upP x v) := elPathO_ok _ _ _ _ _ _ (Mv.to w2 fun b hb _ => ⟨by omega, by omega⟩) (OwnR.el0 (hO2.ownR (S := fun k => wr.heap.size ≤ k)))
   obtain ⟨A5, n5, c5, rfl, _⟩ := hO2.formN
   have hO3 := (hO.below elPathO_ok hb2).put1 elPathO_ok (j := k) (by rw [keyK_len]; have := HG.out; simp only; omega) hE2
   rw [HT.out] at hO3
   obtain ⟨y, q0, q1⟩ := (hO.below elPathO_ok hb2).cellAt (j := k) (by rw [keyK_len]; have := HG.out; simp only; omega)
   have hF := Lib.hid (And.intro hO3 ((hB.trans (hb2.mono hB.size)).setCell (p := ⟨w.heap.size + 1, k, none⟩) (Nat.le_of_eq HZ.out) (.slice A5 n5 c5)))
   clear hO hB hb2 hO2 hE2 HU hO3 g0 g1
   go_wp2_with fail
   go_roundw
   case rel => exact ⟨k + 1, by omega, by go_num, hF.out⟩
   case measure => simp [intOf]; omega
  ·have hA := keyK_all (q := (G, F)) (P := P) (k := k) (by have := HN.out; have := HG.out; have := HP.out; simp only; omega)
   rw [hA] at hO
   have hF := Lib.hid (And.intro hO (hb0.trans (hB.mono hzg)))
   clear hO hB
   go_wp2_with fail
   go_ret
   exact ⟨_, rfl, hF.out⟩
end Go.Proofs.YtmcccpbpijnbmaaDoor
