/- CubL6, CubL7, CubL8, CubL9 -/
import Derived.Test.YteifhgcjmjihgaaGreatJ6
import Derived.Test.YteifhgcjmjihgaaGreatJ20
import Derived.Test.YteifhgcjmjihgaaGreatJ21
import Derived.Test.YteifhgcjmjihgaaGreatJ31
import Derived.Test.YteifhgcjmjihgaaGreatJ35
import Derived.Test.YteifhgcjmjihgaaGreatJ38
import Derived.Test.YteifhgcjmjihgaaGreatJ42
import Derived.Test.YteifhgcjmjihgaaGreatJ43
import Derived.Test.YteifhgcjmjihgaaGreatJ44
import Derived.Deep.RegionHeld3
namespace Go.Proofs.YteifhgcjmjihgaaGreat
set_option maxRecDepth 100000
open Go.RowKit

theorem getC_at {W m : Nat} {C : Cub} (hC : Cuboid W m C) {t : Nat} {K : List Int} {u : PC} (h : C[t]? = some (K, u)) : getC W C K = some u := by
  unfold getC
  have hm := List.mem_of_getElem? h
  rw [if_pos (hC.key _ hm)]
  exact getK_of_mem hC.ris hm
theorem getC_is {W m : Nat} {C : Cub} (hC : Cuboid W m C) (K : List Int) : getC W C K = getK C K := by
  unfold getC
  by_cases hk : isKey W K
  · rw [if_pos hk]
  · rw [if_neg hk]
    rcases hg : getK C K with _ | u
    · rfl
    · exact absurd (hC.key _ (getK_mem hg)) hk
set_option maxRecDepth 100000 in
set_option maxHeartbeats 4000000 in
theorem like_any {w : World} {g b r W m n c : Nat} {S : Nat → Prop} {A : Option Addr} {C : Cub} (hC : Cb w g b W m C) (hR : Rq w r W m S A n c C) :
    Calls Tryz.prog 12 #[.pointer (some ⟨g, 0, none⟩), .pointer (some ⟨r, 0, none⟩)] w fun e w' => e = .returned (.bool true) ∧ Below w.heap.size w w' := by
  have HC := Lib.hid hC
  have HR := Lib.hid hR
  have hCl := Lib.hid hR.row.len
  have hnm : n ≤ 68921 := by have h1 := hC.len; have h2 := hR.row.len; omega
  have hcap := hR.row.cap
  have hcm := hR.row.capMax
  have hks := Lib.hid (keys_any hC)
  clear hC hR
  go_enter Tryz.func12, Tryz.ntmps12
  go_wp2_with fail
  refine hks.out.mono ?_
  rintro e w1 ⟨v, rfl, hO1, hB1⟩
  have hO1' := hO1
  obtain ⟨AK, cK, rfl, hRK⟩ := hO1.read elIntsO_ok
  have hlm : (C.map (·.1)).length = n := by rw [List.length_map, hCl.out]
  rw [hlm] at hRK ⊢
  have HRK : Hid (Row elInts 1 w1 (fun k => w.heap.size ≤ k) AK n cK (C.map (·.1))) := Lib.hid ((hRK.mv elIntsO_ok (Mv.to w1 fun k hk _ => by
    rcases hk with hk | hk
    · exact hk
    · exact hk.1)).map fun us x h => elIntsO_read h)
  have HB1 := Lib.hid hB1
  have KC : Hid (∀ y : World, Below w.heap.size w y → y.cell? ⟨r, 2, none⟩ = some (.slice A n c)) := Lib.hid fun y hy => (HR.out.belowS hy).c2
  have cq := KC.out w1 hB1
  have HLn : Hid (∀ q, Calls Tryz.prog 33 #[.pointer (some ⟨g, 0, none⟩)] (w1.drewN q) fun e w' => e = .returned (.int .i64 (n : Int)) ∧ w' = w1.drewN q) := Lib.hid fun q => by
    have h := cubLen_any ((HC.out.belowS HB1.out).drewN q)
    rw [hCl.out] at h
    exact h.mono fun e w' h => ⟨h.1, h.2.symm⟩
  have hne : ((n : Int) != (n : Int)) = false := by simp
  have hck := hRK.capMax
  have hcka := hRK.cap
  clear hks hO1 hO1' hRK hlm hB1
  go_wp2_with fail
  go_quiet ((go_at_call 33; exact Calls.quiet_of_same (HLn.out _)))
  have HBq : Hid (Below w.heap.size w (w1.drewN nq) ∧ Below w1.heap.size w1 (w1.drewN nq)) := Lib.hid ⟨below_drewN HB1.out nq, below_drewN (Below.refl _ _) nq⟩
  generalize w1.drewN nq = w2 at HBq ⊢
  clear hne cq HLn
  go_wp2_with fail
  go_loopw [6] (fun i wr => ∃ t : Nat, t ≤ n ∧ i = .int .i64 t ∧ Hid (Below w.heap.size w wr ∧ Below w1.heap.size w1 wr)) (fun i _ => n - (intOf i).toNat)
  case atStart => exact ⟨0, Nat.zero_le _, rfl, HBq⟩
  case round =>
    clear HBq
    obtain ⟨t, ht, rfl, HO⟩ := hrel
    by_cases hlt : t < n
    · obtain ⟨bk, ok, A', n', c', l, rfl, hbS, hbk, kc, hRl, hl⟩ := HRK.out.at1 hlt
      obtain ⟨bd, o, A0, n0, c0, q, A1, n1, c1, A2, n2, c2, A3, n3, c3, K, Su, M, X, rfl, _, hbl, g0, g1, g2, g3, g4, hK0, hSu, hM, hX, hCj⟩ := HR.out.row.atU hlt
      have i0 : (0 : Int) ≤ (t : Int) := by omega
      have i1 : (t : Int) < (n : Int) := by omega
      have hlK : l = K := by
        have h1 := hl.out
        rw [List.getElem?_map, hCj.out] at h1
        injection h1 with h1
        exact h1.symm
      subst hlK
      have KK : Hid (∀ y : World, (Below w.heap.size w y ∧ Below w1.heap.size w1 y) → y.cell? ⟨r, 2, none⟩ = some (.slice (some ⟨bd, o, none⟩) n c) ∧ y.cell? ⟨bk, ok + t, none⟩ = some (.slice A' n' c') ∧ y.cell? ⟨bd, o + t * 5, none⟩ = some (.slice A0 n0 c0) ∧ y.cell? ⟨bd, o + t * 5 + 1, none⟩ = some (.int .i64 q) ∧ y.cell? ⟨bd, o + t * 5 + 2, none⟩ = some (.slice A1 n1 c1) ∧ y.cell? ⟨bd, o + t * 5 + 3, none⟩ = some (.slice A2 n2 c2) ∧ y.cell? ⟨bd, o + t * 5 + 4, none⟩ = some (.slice A3 n3 c3)) := Lib.hid fun y hy =>
        ⟨KC.out y hy.1, (hy.2.cell (p := ⟨bk, ok + t, none⟩) hbk).trans kc, (hy.1.cell (p := ⟨bd, o + t * 5, none⟩) hbl).trans g0, (hy.1.cell (p := ⟨bd, o + t * 5 + 1, none⟩) hbl).trans g1, (hy.1.cell (p := ⟨bd, o + t * 5 + 2, none⟩) hbl).trans g2, (hy.1.cell (p := ⟨bd, o + t * 5 + 3, none⟩) hbl).trans g3, (hy.1.cell (p := ⟨bd, o + t * 5 + 4, none⟩) hbl).trans g4⟩
      have KH : Hid (∀ y : World, (Below w.heap.size w y ∧ Below w1.heap.size w1 y) → HasI y y.heap.size A' n' c' l ∧ HasI y y.heap.size A0 n0 c0 l ∧ HasC y y.heap.size A1 n1 c1 A2 n2 c2 A3 n3 c3 Su M X) := Lib.hid fun y hy =>
        ⟨(hRl.mv elInt_ok (Mv.belowS hy.2 _)).hasI, (hK0.mv elInt_ok (Mv.belowS hy.1 _)).hasI, ⟨(hSu.mv elInt_ok (Mv.belowS hy.1 _)).hasI, (hM.mv elInt_ok (Mv.belowS hy.1 _)).hasI, (hX.mv elInt_ok (Mv.belowS hy.1 _)).hasI⟩⟩
      have HSM : Hid (∀ q, Calls Tryz.prog 32 #[.slice A' n' c', .slice A0 n0 c0] (wr.drewN q) fun e w' => e = .returned (.bool true) ∧ ∃ k, w' = (wr.drewN q).drewN k) := Lib.hid fun q => by
        have h0 := KH.out (wr.drewN q) ⟨below_drewN HO.out.1 q, below_drewN HO.out.2 q⟩
        have h := sameI_any (w := wr.drewN q) h0.1 h0.2.1
        rw [decide_eq_true (rfl : l = l)] at h
        exact h
      have hgc := Lib.hid (getC_at HC.out.ok hCj.out)
      obtain ⟨k0, k1, k2, k3, k4, k5, k6⟩ := KK.out wr HO.out
      clear hbS kc hRl hl g0 g1 g2 g3 g4 hK0 hSu hM hX
      go_wp2_with fail
      go_quiet ((go_at_call 32; exact Calls.quiet_of (HSM.out _)))
      have HB3 : Hid (Below w.heap.size w (wr.drewN nq) ∧ Below w1.heap.size w1 (wr.drewN nq)) := Lib.hid ⟨below_drewN HO.out.1 nq, below_drewN HO.out.2 nq⟩
      generalize wr.drewN nq = w3 at HB3 ⊢
      clear k0 k1 k2 k3 k4 k5 k6 HSM HO
      obtain ⟨k0, k1, k2, k3, k4, k5, k6⟩ := KK.out w3 HB3.out
      have hget := get_any (HC.out.belowS HB3.out.1) (KH.out w3 HB3.out).1
      rw [hgc.out] at hget
      have HG := Lib.hid hget
      clear hget
      go_wp2_with fail
      refine HG.out.mono ?_
      rintro e w4 ht4
      obtain ⟨⟨v1, v2, v3, rfl, hO4⟩, hb4⟩ := ht4.some_
      obtain ⟨E1, l1, e1, E2, l2, e2, E3, l3, e3, rfl, rfl, rfl, hE4⟩ := hO4.form
      have hbx := below_then hb4 (below_a1 w4 (.cells #[.int .i64 q, .slice E1 l1 e1, .slice E2 l2 e2, .slice E3 l3 e3] 30))
      have HB5 : Hid (Below w.heap.size w (w4.alloc (.cells #[.int .i64 q, .slice E1 l1 e1, .slice E2 l2 e2, .slice E3 l3 e3] 30)) ∧ Below w1.heap.size w1 (w4.alloc (.cells #[.int .i64 q, .slice E1 l1 e1, .slice E2 l2 e2, .slice E3 l3 e3] 30))) := Lib.hid ⟨HB3.out.1.trans (hbx.mono HB3.out.1.size), HB3.out.2.trans (hbx.mono HB3.out.2.size)⟩
      have HX5 := Lib.hid (And.intro (Block.new w4 30 #[.int .i64 q, .slice E1 l1 e1, .slice E2 l2 e2, .slice E3 l3 e3]) (hE4.allocS (.cells #[.int .i64 q, .slice E1 l1 e1, .slice E2 l2 e2, .slice E3 l3 e3] 30)))
      clear HG ht4 hO4 hb4 hE4 hbx k0 k1 k2 k3 k4 k5 k6
      go_upto_region 9 with fail
      generalize w4.alloc (.cells #[.int .i64 q, .slice E1 l1 e1, .slice E2 l2 e2, .slice E3 l3 e3] 30) = w5 at HB5 HX5 ⊢
      obtain ⟨xb, hxb⟩ : ∃ xb, w4.heap.size = xb := ⟨_, rfl⟩
      rw [hxb] at HX5 ⊢
      clear hxb
      have KX : Hid (∀ y : World, Below w5.heap.size w5 y → (Below w.heap.size w y ∧ Below w1.heap.size w1 y) ∧ y.cell? ⟨xb, 0, none⟩ = some (.int .i64 q) ∧ y.cell? ⟨xb, 1, none⟩ = some (.slice E1 l1 e1) ∧ y.cell? ⟨xb, 2, none⟩ = some (.slice E2 l2 e2) ∧ y.cell? ⟨xb, 3, none⟩ = some (.slice E3 l3 e3)) := Lib.hid fun y hy => by
        have h := HX5.out.1.below hy HX5.out.1.lt
        exact ⟨⟨HB5.out.1.trans (hy.mono HB5.out.1.size), HB5.out.2.trans (hy.mono HB5.out.2.size)⟩, h.cell 0, h.cell 1, h.cell 2, h.cell 3⟩
      have KA : Hid (∀ y : World, Below w5.heap.size w5 y → y.cell? ⟨r, 2, none⟩ = some (.slice (some ⟨bd, o, none⟩) n c) ∧ y.cell? ⟨bd, o + t * 5 + 1, none⟩ = some (.int .i64 q) ∧ y.cell? ⟨bd, o + t * 5 + 2, none⟩ = some (.slice A1 n1 c1) ∧ y.cell? ⟨bd, o + t * 5 + 3, none⟩ = some (.slice A2 n2 c2) ∧ y.cell? ⟨bd, o + t * 5 + 4, none⟩ = some (.slice A3 n3 c3) ∧ y.cell? ⟨xb, 0, none⟩ = some (.int .i64 q) ∧ y.cell? ⟨xb, 1, none⟩ = some (.slice E1 l1 e1) ∧ y.cell? ⟨xb, 2, none⟩ = some (.slice E2 l2 e2) ∧ y.cell? ⟨xb, 3, none⟩ = some (.slice E3 l3 e3)) := Lib.hid fun y hy => by
        have h1 := KX.out y hy
        have h2 := KK.out y h1.1
        exact ⟨h2.1, h2.2.2.2.1, h2.2.2.2.2.1, h2.2.2.2.2.2.1, h2.2.2.2.2.2.2, h1.2⟩
      have hsm : Hid (Calls Tryz.prog 11 #[cellV q E1 l1 e1 E2 l2 e2 E3 l3 e3, cellV q A1 n1 c1 A2 n2 c2 A3 n3 c3] w5.drew fun e w' => e = .returned (.bool true) ∧ Below w5.heap.size w5 w') := Lib.hid ((refSame_any (w := w5.drew) HX5.out.2.drew (KH.out w5.drew (KX.out w5.drew (below_drewN (Below.refl _ _) 1)).1).2.2 (r := true) (by simp)).mono fun e w' h => ⟨h.1, (below_drewN (Below.refl _ w5) 1).trans h.2⟩)
      obtain ⟨y0, y1, y2, y3, y4, y5, y6, y7, y8⟩ := KA.out w5 (Below.refl _ _)
      go_region_held3 (fun w' => w'.cell? ⟨r, 2, none⟩ = some (.slice (some ⟨bd, o, none⟩) n c) ∧ w'.cell? ⟨bd, o + t * 5 + 1, none⟩ = some (.int .i64 q) ∧ w'.cell? ⟨bd, o + t * 5 + 2, none⟩ = some (.slice A1 n1 c1) ∧ w'.cell? ⟨bd, o + t * 5 + 3, none⟩ = some (.slice A2 n2 c2) ∧ w'.cell? ⟨bd, o + t * 5 + 4, none⟩ = some (.slice A3 n3 c3) ∧ w'.cell? ⟨xb, 0, none⟩ = some (.int .i64 q) ∧ w'.cell? ⟨xb, 1, none⟩ = some (.slice E1 l1 e1) ∧ w'.cell? ⟨xb, 2, none⟩ = some (.slice E2 l2 e2) ∧ w'.cell? ⟨xb, 3, none⟩ = some (.slice E3 l3 e3))
        (first
          | with_reducible exact KA.out _ hBB
          | go_keep)
        (first
          | (go_at_call 11; refine hsm.out.mono ?_; rintro e w6 ⟨rfl, hBB⟩))
      all_goals
        have HF := Lib.hid (KX.out w6 hBB).1
        clear y0 y1 y2 y3 y4 y5 y6 y7 y8 hBB hsm KA KX
        go_wp2_with fail
        go_roundw
        case rel => exact ⟨t + 1, by omega, by go_num, HF⟩
        case measure => simp [intOf]; omega
    · have hput := Lib.hid (put_any (HC.out.belowS HO.out.1))
      go_wp2_with fail
      refine hput.out.mono ?_
      rintro e w3 ⟨v3, rfl, hO3, hB3⟩
      have HB3 := Lib.hid (HO.out.1.trans (hB3.mono HO.out.1.size))
      have hrp := Lib.hid (refPutK_any (HR.out.belowS HB3.out) (by omega) HC.out.ok HC.out.w3 HC.out.m2)
      obtain ⟨P1, p1, d1, rfl, hP1, _⟩ := hO3.formN
      have HP1 := Lib.hid hP1
      clear hput hO3 hB3 hP1
      go_wp2_with fail
      refine hrp.out.mono ?_
      rintro e w4 ⟨v4, rfl, hO4, hB4⟩
      obtain ⟨P2, p2, d2, rfl, hP2, _⟩ := hO4.formN
      have hsm := same_any _ _ _ _ _ _ _ _ w4 _ _ (HP1.out.below hB4 (Nat.le_refl _)) hP2
      rw [show (encC m C == encC m C) = true by simp] at hsm
      have HSM := Lib.hid hsm
      have HB4 := Lib.hid (below_then HB3.out hB4)
      clear hrp hO4 hB4 hP2 hsm
      go_wp2_with fail
      refine HSM.out.mono ?_
      rintro e w5 ⟨rfl, k, rfl⟩
      have HF := Lib.hid (below_drewN HB4.out k)
      clear HSM
      go_wp2_with fail
      go_ret
      exact ⟨rfl, HF.out⟩
end Go.Proofs.YteifhgcjmjihgaaGreat
namespace Go.Proofs.YteifhgcjmjihgaaGreat
set_option maxRecDepth 100000
open Go.RowKit

theorem cells_deed : Tryz.prog.cellsOf 64 = 5 := by kernel_rfl
theorem deed_of {w : World} {cs : List Value} (h : RC Tryz.prog w 64 cs) : ∃ x, elUnd w (fun b => b < w.heap.size) cs x ∧ True := by
  have hl := h.len Tryz.underlying64
  rw [cells_deed] at hl
  have f0 := h.field Tryz.underlying64 0 _ rfl
  have f1 := h.field Tryz.underlying64 1 _ rfl
  obtain ⟨A, n, c, e0⟩ := f0.slice_shape Tryz.underlying28
  rw [e0] at f0
  obtain ⟨K, hK, _⟩ := f0.ints Tryz.underlying28 Tryz.underlying3 cells_intC
  obtain ⟨x, hx, _⟩ := cell_el f1
  have e0 : (cs.drop 0).take (Tryz.prog.cellsOf 28) = [.slice A n c] := e0
  rw [cells_intsC] at e0
  have hx : elCell w (fun b => b < w.heap.size) ((cs.drop 1).take (Tryz.prog.cellsOf 30)) x := hx
  rw [cells_cell, List.take_of_length_le (by simp; omega)] at hx
  refine ⟨(K, x), ⟨⟨A, n, c, by simpa using e0, hK.row⟩, hx⟩, trivial⟩
theorem deeds_of {w : World} {a : Option Addr} {n c : Nat} (h : RC Tryz.prog w 22 [.slice a n c]) : ∃ L, Row elUnd 5 w (fun b => b < w.heap.size) a n c L := by
  obtain ⟨L, h1, _⟩ := h.row Tryz.underlying22 cells_deed (by decide) (G := fun _ => True) fun _ h => deed_of h
  exact ⟨L, h1⟩
theorem ups_of {w : World} {a : Option Addr} {n c : Nat} (h : RC Tryz.prog w 23 [.slice a n c]) : ∃ L, HasL w w.heap.size a n c L := by
  obtain ⟨L, h1, _⟩ := h.lists Tryz.underlying23 Tryz.underlying28 Tryz.underlying3 cells_intsC cells_intC
  exact ⟨L, h1⟩
theorem addsK_len (W m : Nat) (D : Cub) : ∀ t, (addsK W m D t).length ≤ t
  | 0 => by simp [addsK]
  | t + 1 => by
    have h := addsK_len W m D t
    rw [addsK]
    split
    · rename_i d _
      have h2 : (addK W m (addsK W m D t) d.1 d.2).1.length ≤ (addsK W m D t).length + 1 := by
        unfold addK
        split
        · split
          · exact setK_atmost _ _ _
          · split
            · exact setK_atmost _ _ _
            · simp
        · simp
      omega
    · omega
theorem rollK_none {W : Nat} {C : Cub} {us : List (List Int)} {x : Int} (h : rollK W C us = (none, x)) : x = 1 ∨ x = 14 := by
  unfold rollK at h
  split at h
  · injection h with _ h; exact .inl h.symm
  · split at h
    · injection h with _ h; exact .inr h.symm
    · cases h
theorem rollK_some {W : Nat} {C D : Cub} {us : List (List Int)} {x : Int} (h : rollK W C us = (some D, x)) : x = 0 := by
  unfold rollK at h
  split at h
  · cases h
  · split at h
    · cases h
    · injection h with _ h; exact h.symm
theorem TellRo.below {w w' : World} {W m : Nat} {r : Option Cub × Int} {e : Ending} (h : TellRo w W m r e w') : Below w.heap.size w w' := h.2
end Go.Proofs.YteifhgcjmjihgaaGreat
namespace Go.Proofs.YteifhgcjmjihgaaGreat
set_option maxRecDepth 100000
open Go.RowKit

theorem Rq.low {w : World} {r W m n c : Nat} {S : Nat → Prop} {A : Option Addr} {C : Cub} (h : Rq w r W m S A n c C) : Rq w r W m (fun k => k < w.heap.size) A n c C := ⟨h.blk, h.row.mv elUnd_ok (Mv.to w fun _ _ hl => hl)⟩
theorem TellRd.yes {w w' : World} {gr W m : Nat} {A : Option Addr} {n c : Nat} {l : List UInt8} {C : Cub} {p e : Nat} {y : Ending} (h : TellRd w gr W m A n c l (some C, p, e) y w') :
    (∃ g b, y = .returned (.pointer (some ⟨g, 0, none⟩)) ∧ Cb w' g b W m C ∧ w.heap.size ≤ g ∧ w.heap.size ≤ b) ∧ e = 0 ∧ Rd 94 w' gr A n c l p e ∧ w.grownBy w' (some gr) := by
  obtain ⟨h1, h2, h3⟩ := h
  rcases h1 with ⟨D, v, e1, e2, rfl, g, b, rfl, hC, hg, hb⟩ | ⟨e1, _⟩
  · injection e1 with e1
    subst e1
    exact ⟨⟨g, b, rfl, hC, hg, hb⟩, e2, h2, h3⟩
  · cases e1
theorem TellRd.no {w w' : World} {gr W m : Nat} {A : Option Addr} {n c : Nat} {l : List UInt8} {p e : Nat} {y : Ending} (h : TellRd w gr W m A n c l (none, p, e) y w') :
    y = .returned (.pointer none) ∧ Rd 94 w' gr A n c l p e ∧ w.grownBy w' (some gr) := by
  obtain ⟨h1, h2, h3⟩ := h
  rcases h1 with ⟨D, v, e1, _⟩ | ⟨_, _, e1⟩
  · cases e1
  · exact ⟨e1, h2, h3⟩
theorem TellRr.yes {w w' : World} {gr W m : Nat} {A : Option Addr} {n c : Nat} {l : List UInt8} {C : Cub} {p e : Nat} {y : Ending} (h : TellRr w gr W m A n c l (some C, p, e) y w') :
    (∃ d Ad nd cd, y = .returned (.tuple #[.pointer (some ⟨d, 0, none⟩), .bool true]) ∧ Rq w' d W m (fun k => w.heap.size ≤ k ∧ k ≠ d) Ad nd cd C) ∧ Rd 49 w' gr A n c l p e ∧ w.grownBy w' (some gr) := by
  obtain ⟨⟨d, h1⟩, h2, h3⟩ := h
  rcases h1 with ⟨D, Ad, nd, cd, e1, rfl, _, hq⟩ | ⟨e1, _⟩
  · injection e1 with e1
    subst e1
    exact ⟨⟨d, Ad, nd, cd, rfl, hq⟩, h2, h3⟩
  · cases e1
theorem TellRr.no {w w' : World} {gr W m : Nat} {A : Option Addr} {n c : Nat} {l : List UInt8} {p e : Nat} {y : Ending} (h : TellRr w gr W m A n c l (none, p, e) y w') :
    (∃ d, y = .returned (.tuple #[.pointer (some ⟨d, 0, none⟩), .bool false])) ∧ Rd 49 w' gr A n c l p e ∧ w.grownBy w' (some gr) := by
  obtain ⟨⟨d, h1⟩, h2, h3⟩ := h
  rcases h1 with ⟨D, Ad, nd, cd, e1, _⟩ | ⟨_, rfl⟩
  · cases e1
  · exact ⟨⟨d, rfl⟩, h2, h3⟩
theorem Rd.beside {T : TypeId} {w w' : World} {gx g : Nat} {A : Option Addr} {n c : Nat} {l : List UInt8} {p e : Nat} (h : Rd T w gx A n c l p e) (hg : w.grownBy w' (some g)) (hne : gx ≠ g) (hb : HasB w' gx A n c l) : Rd T w' gx A n c l p e :=
  ⟨h.block.grown hg (fun e => hne (by injection e with e; exact e.symm)), hb, h.at_le, h.err_le⟩
theorem endE_same (n e : Nat) (h : e = 0) : endE n n e = 0 := by
  subst h
  simp [endE]
theorem rdC_some {W m : Nat} {l : List UInt8} {p e : Nat} {C : Cub} {p' e' : Nat} (h : rdC W m l p e = (some C, p', e')) : e' = 0 := by
  have key : ∀ (n : Nat) (D : Cub) (p e : Nat), rdMore W m l n D p e = (some C, p', e') → e' = 0 := by
    intro n
    induction n with
    | zero =>
      intro D p e h
      rw [rdMore] at h
      by_cases he : e = 0
      · rw [if_pos he] at h
        injection h with _ h
        injection h with _ h
        rw [← h, he]
      · rw [if_neg he] at h
        cases h
    | succ n ih =>
      intro D p e h
      rw [rdMore] at h
      split at h
      · cases h
      · split at h
        · exact ih _ _ _ h
        · cases h
  exact key _ _ _ _ h
end Go.Proofs.YteifhgcjmjihgaaGreat
namespace Go.Proofs.YteifhgcjmjihgaaGreat
set_option maxRecDepth 100000
open Go.RowKit

theorem new_in {a b : Int} (h : 1 ≤ a ∧ a ≤ 3 ∧ 1 ≤ b ∧ b ≤ 2) (w : World) : Calls Tryz.prog 13 #[.int .i64 a, .int .i64 b] w fun e w' => (∃ g, e = .returned (.pointer (some ⟨g, 0, none⟩))) ∧ Below w.heap.size w w' := by
  obtain ⟨W, rfl⟩ : ∃ n : Nat, a = n := ⟨a.toNat, by omega⟩
  obtain ⟨m, rfl⟩ : ∃ n : Nat, b = n := ⟨b.toNat, by omega⟩
  refine (new_yes (W := W) (m := m) (by omega) (by omega) (by omega) (by omega) w).mono ?_
  rintro e w' ⟨⟨v, rfl, g, bb, rfl, _⟩, hb⟩
  exact ⟨⟨g, rfl⟩, hb⟩
theorem hasC_zero (w : World) : HasC w w.heap.size none 0 0 none 0 0 none 0 0 [] [] [] := by
  have h := (Row.none_ (E := elInt) (sz := 1) w (fun _ => False)).hasI
  exact ⟨h, h, h⟩
/-- While what was told is written over. -/
structure Ow (w1 w : World) (base : Nat) (keys : Value) : Prop where
  bel : Below base w1 w
  rows : RowsI w base keys
structure Ox (w1 w : World) (base : Nat) (keys : Value) (xb : Nat) (q : Int) (v1 v2 v3 : Value) : Prop where
  ow : Ow w1 w base keys
  blk : Block w xb 30 #[.int .i64 q, v1, v2, v3]
  r1 : RowI w base v1
  r2 : RowI w base v2
theorem Ow.below {w1 w w' : World} {base : Nat} {keys : Value} (h : Ow w1 w base keys) (hb : Below w.heap.size w w') (hz : base ≤ w.heap.size) : Ow w1 w' base keys := ⟨h.bel.trans (hb.mono hz), h.rows.below hb⟩
theorem Ow.set_ {w1 w : World} {base : Nat} {keys : Value} (h : Ow w1 w base keys) {g : Nat} {cs : Array Value} (hb : Block w g 3 cs) (hg : base ≤ g) (i : Nat) (y : Int) : Ow w1 (w.setCell ⟨g, i, none⟩ (.int .i64 y)) base keys :=
  ⟨h.bel.setCell (p := ⟨g, i, none⟩) hg _, h.rows.set_ hb i y⟩
theorem Ox.set_ {w1 w : World} {base : Nat} {keys : Value} {xb : Nat} {q : Int} {v1 v2 v3 : Value} (h : Ox w1 w base keys xb q v1 v2 v3) {g : Nat} {cs : Array Value} (hb : Block w g 3 cs) (hg : base ≤ g) (i : Nat) (y : Int) : Ox w1 (w.setCell ⟨g, i, none⟩ (.int .i64 y)) base keys xb q v1 v2 v3 :=
  ⟨h.ow.set_ hb hg i y, h.blk.elsewhere g i _ (fun e => by subst e; exact absurd (block_typeI hb h.blk) (by decide)), h.r1.set_ g i y, h.r2.set_ g i y⟩
theorem rowI_none (w : World) (base : Nat) : RowI w base (.slice none 0 0) := ⟨none, 0, 0, rfl, Nat.le_refl _, Nat.zero_le _, fun _ => rfl, fun k hk => absurd hk (by omega)⟩
structure Oy (w1 w : World) (base : Nat) (keys : Value) (gK : Nat) (csK : Array Value) (x : Value) : Prop where
  ow : Ow w1 w base keys
  kb : Block w gK 28 csK
  row : RowI w base x
theorem Oy.set_ {w1 w : World} {base gK : Nat} {keys x : Value} {csK : Array Value} (h : Oy w1 w base keys gK csK x) {g : Nat} {cs : Array Value} (hb : Block w g 3 cs) (hg : base ≤ g) (i : Nat) (y : Int) : Oy w1 (w.setCell ⟨g, i, none⟩ (.int .i64 y)) base keys gK csK x :=
  ⟨h.ow.set_ hb hg i y, h.kb.elsewhere g i _ (fun e => by subst e; exact absurd (block_typeI hb h.kb) (by decide)), h.row.set_ g i y⟩
end Go.Proofs.YteifhgcjmjihgaaGreat
