/- QryT, QryU, QryL -/
import Derived.Test.YtmcccpbpijnbmaaJ33
import Derived.Test.YtmcccpbpijnbmaaJ34
import Derived.Test.YtmcccpbpijnbmaaJ35
import Derived.Test.YtmcccpbpijnbmaaJ36
import Derived.Deep.DeepCutAuto
namespace Go.Proofs.Ytmcccpbpijnbmaa
set_option maxRecDepth 100000
open Go.RowKit

theorem mem_fil {F : List Fil} {D : List PDim} {G : List Int} {f : Fil} (hm : f ∈ F) (h : ¬ fitFl D f) : ¬ fitQ D (G, F) := fun h2 => h (h2.2.2 f hm)
set_option maxHeartbeats 8000000 in
theorem refMayQ_any {S : Nat → Prop} {A1 A2 B1 B2 B3 : Option Addr} {n1 c1 n2 c2 m1 d1 m2 d2 m3 d3 : Nat} {D : List PDim} {M : List Txt} {V : List (List Int)} {q : Qry} {w : World}
  (hs : HasS w w.heap.size B1 m1 d1 B2 m2 d2 B3 m3 d3 D M V) (hn1 : m1 ≤ 1000) (hn3 : m3 ≤ 1000) (hq : HasQ w S A1 n1 c1 A2 n2 c2 q) :
  Calls Try.prog 10 #[schV B1 m1 d1 B2 m2 d2 B3 m3 d3, qryV A1 n1 c1 A2 n2 c2] w fun e w' => e = .returned (.int .i64 (mayQ D M V q : Nat)) ∧ Below w.heap.size w w' := by
 obtain ⟨hb0, hbs, hbl⟩ := boxes2 w 26 30 #[.slice B1 m1 d1, .slice B2 m2 d2, .slice B3 m3 d3] #[.slice A1 n1 c1, .slice A2 n2 c2]
 have h0 := hq.belowS hb0
 have hs0 := hs.belowS hb0
 have HC := Lib.hid (refMay8_any hs0 hn1 hn3)
 have HD := Lib.hid hs.d.len
 clear hs hq
 obtain ⟨G, F⟩ := q
 have hn2 := h0.f.lenMax
 have HF := Lib.hid (show F.length = n2 from h0.f.len)
 have HI := Lib.hid (fitQ_iff (D := D) (G := G) HF.out)
 go_enter Try.func10, Try.ntmps10
 go_wp2_with fail
 generalize (w.alloc (.cells #[.slice B1 m1 d1, .slice B2 m2 d2, .slice B3 m3 d3] 26)).alloc (.cells #[.slice A1 n1 c1, .slice A2 n2 c2] 30) = W at hb0 hbl hbs h0 hs0 HC ⊢
 have s0 : W.cell? ⟨w.heap.size, 0, none⟩ = some (.slice B1 m1 d1) := hbs.cell 0
 have s1 : W.cell? ⟨w.heap.size, 1, none⟩ = some (.slice B2 m2 d2) := hbs.cell 1
 have s2 : W.cell? ⟨w.heap.size, 2, none⟩ = some (.slice B3 m3 d3) := hbs.cell 2
 have hz0 := hb0.size
 by_cases hm : mayS D M V
 ·rw [decide_eq_true hm] at HC
  have HM := Lib.hid hm
  clear hm
  go_wp2_with fail
  refine HC.out.mono ?_
  rintro e w2 ⟨rfl, hb2⟩
  have hbs2 := hbs.below hb2 hbs.lt
  have hbl2 := hbl.below hb2 hbl.lt
  have hB2 := hb0.trans (hb2.mono hz0)
  have h2 := h0.belowS hb2
  have hs2 := hs0.belowS hb2
  have HC2 := Lib.hid (refCorner_any (A2 := B2) (n2 := m2) (c2 := d2) (A3 := B3) (n3 := m3) (c3 := d3) hs2.d h2.g.hasI)
  clear HC s0 s1 s2 hbs hbl hs0 h0 hb2
  have s0 : w2.cell? ⟨w.heap.size, 0, none⟩ = some (.slice B1 m1 d1) := hbs2.cell 0
  have s1 : w2.cell? ⟨w.heap.size, 1, none⟩ = some (.slice B2 m2 d2) := hbs2.cell 1
  have s2 : w2.cell? ⟨w.heap.size, 2, none⟩ = some (.slice B3 m3 d3) := hbs2.cell 2
  have k0 : w2.cell? ⟨w.heap.size + 1, 0, none⟩ = some (.slice A1 n1 c1) := hbl2.cell 0
  by_cases hc : cornerP D G
  ·rw [decide_eq_true hc] at HC2
   have HCC := Lib.hid hc
   clear hc
   go_wp2_with fail
   refine HC2.out.mono ?_
   rintro e w3 ⟨rfl, hb3⟩
   have HBL := Lib.hid (hbl2.below hb3 hbl2.lt)
   have HBS := Lib.hid (hbs2.below hb3 hbs2.lt)
   have hB3 := hB2.trans (hb3.mono hB2.size)
   have hd3 := hs2.d.belowS hb3
   have h3 : Row elFil 3 w3 (fun b => S b ∧ b < w3.heap.size) A2 n2 c2 F := (h2.f.mv elFil_ok (Mv.belowS hb3 S)).mv elFil_ok (Mv.to w3 fun b hb hl => ⟨hb, hl⟩)
   have HS : ∀ b, (S b ∧ b < w3.heap.size) → b < w3.heap.size := fun b hb => hb.2
   have hz3 := hB3.size
   have k1 : w3.cell? ⟨w.heap.size + 1, 1, none⟩ = some (.slice A2 n2 c2) := HBL.out.cell 1
   clear HC2 s0 s1 s2 k0 hbl2 hbs2 hb3 h2 hs2 hB2
   by_cases h4 : (3 : Int) < (n2 : Int)
   ·have H : Hid (mayQ D M V (G, F) = 16) := Lib.hid (mayQ_f HM.out (by rw [HI.out]; intro h; have := h.2.1; omega))
    go_wp2_with fail
    go_ret
    exact ⟨by rw [H.out]; rfl, hB3⟩
   ·go_wp2_with fail
    clear k1
    go_loopw [7] (fun i wr => ∃ k : Nat, k ≤ n2 ∧ i = .int .i64 k ∧ Hid (∀ f ∈ F.take k, fitFl D f) ∧ Below w3.heap.size w3 wr) (fun i _ => n2 - (intOf i).toNat)
    case atStart => exact ⟨0, Nat.zero_le _, rfl, Lib.hid (fun p hp => by simp at hp), Below.refl _ _⟩
    case round =>
     obtain ⟨j, hj, rfl, HA, hB⟩ := hrel
     have k1 : wr.cell? ⟨w.heap.size + 1, 1, none⟩ = some (.slice A2 n2 c2) := (HBL.out.below hB HBL.out.lt).cell 1
     by_cases hlj : j < n2
     ·obtain ⟨b, o, d, v, A', n', c', M', rfl, _, _, g0, g1, g2, hM, he⟩ := (h3.mv elFil_ok (Mv.below hB HS)).atF hlj
      have i0 : (0 : Int) ≤ (j : Int) := by omega
      have i1 : (j : Int) < (n2 : Int) := by omega
      have hbx := below_a1 wr (.cells #[.int .i64 d, .int .i64 v, .slice A' n' c'] 54)
      have hbf := Block.new wr 54 #[.int .i64 d, .int .i64 v, .slice A' n' c']
      have hB1 := hB.trans (hbx.mono hB.size)
      have hM1 := hM.mv elPath_ok (Mv.belowS hbx _)
      have hd1 := hd3.below hB1 (Nat.le_refl _)
      have hnm := hM.lenMax
      have HLM := Lib.hid hM.len
      have hm1 := hd3.lenMax
      have hbs1 := HBS.out.below hB1 HBS.out.lt
      clear hB hbx hM
      go_wp2_with fail
      generalize wr.alloc (.cells #[.int .i64 d, .int .i64 v, .slice A' n' c'] 54) = W1 at hB1 hbf hM1 hd1 hbs1 ⊢
      have f0 : W1.cell? ⟨wr.heap.size, 0, none⟩ = some (.int .i64 d) := hbf.cell 0
      have f1 : W1.cell? ⟨wr.heap.size, 1, none⟩ = some (.int .i64 v) := hbf.cell 1
      have f2 : W1.cell? ⟨wr.heap.size, 2, none⟩ = some (.slice A' n' c') := hbf.cell 2
      have t0 : W1.cell? ⟨w.heap.size, 0, none⟩ = some (.slice B1 m1 d1) := hbs1.cell 0
      have hBW := hB3.trans (hB1.mono hz3)
      clear g0 g1 g2 k1 hbs1 hbf
      by_cases hd : 0 ≤ d ∧ d ≤ (m1 : Int) - 1
      ·obtain ⟨m, rfl⟩ : ∃ m : Nat, d = (m : Int) := ⟨d.toNat, by omega⟩
       have hmm : m < m1 := by omega
       obtain ⟨b5, o5, x5, A5, n5, c5, l5, rfl, _, g5, g6, hl5, he5⟩ := hd1.at_ hmm
       have HIF := Lib.hid (fitFl_iff (v := v) (by have := HD.out; omega) he5.out hl5.len HLM.out)
       have hlm5 := hl5.lenMax
       have b1 : decide ((m : Int) < 0) = false := decide_eq_false (by omega)
       have b2 : decide ((m1 : Int) ≤ (m : Int)) = false := decide_eq_false (by omega)
       have b2' : decide (m1 ≤ m) = false := decide_eq_false (by omega)
       have e0 : (0 : Int) ≤ (m : Int) := by omega
       have e1 : (m : Int) < (m1 : Int) := by omega
       clear hd hl5 hd1
       by_cases hok : (1 ≤ v ∧ v ≤ (n5 : Int)) ∧ (1 ≤ (n' : Int) ∧ (n' : Int) ≤ 6)
       ·obtain ⟨⟨o1, o2⟩, o3, o4⟩ := hok
        have b3 : decide (v < 1) = false := decide_eq_false (by omega)
        have b4 : decide ((n5 : Int) < v) = false := decide_eq_false (by omega)
        have b5 : decide ((n' : Int) < 1) = false := decide_eq_false (by omega)
        have b6 : decide ((6 : Int) < (n' : Int)) = false := decide_eq_false (by omega)
        go_big_quiet (fail)
        clear b1 b2 b2' b3 b4 b5 b6
        go_wp2_with fail
        clear f0 t0 g5 g6
        obtain ⟨wo, hwo⟩ : ∃ wo, Hid (wo = wr.heap.size) := ⟨_, Lib.hid rfl⟩
        rw [← hwo.out] at f1 f2
        rw [← hwo.out]
        clear hwo
        go_loopw [9] (fun i wx => ∃ t u : Nat, t ≤ n' ∧ i = .int .i64 t ∧ wx = W1.drewN u ∧ Hid (∀ p ∈ M'.take t, mayP p ∧ (p.length : Int) = v)) (fun i _ => n' - (intOf i).toNat)
        case atStart => exact ⟨0, nq, Nat.zero_le _, rfl, rfl, Lib.hid (fun p hp => by simp at hp)⟩
        case round =>
         obtain ⟨t, u, ht, rfl, hwx, HA3⟩ := hrel
         have hM2 : Row (elRow elText 1) 1 wr (fun b => S b ∧ b < w3.heap.size) A' n' c' M' := by rw [hwx]; exact hM1.mv elPath_ok (Mv.drewN W1 u _)
         have q1 : wr.cell? ⟨wo, 1, none⟩ = some (.int .i64 v) := by rw [hwx]; exact f1
         have q2 : wr.cell? ⟨wo, 2, none⟩ = some (.slice A' n' c') := by rw [hwx]; exact f2
         have HWX := Lib.hid hwx
         clear hwx
         by_cases hlt2 : t < n'
         ·obtain ⟨b3, o3', A3, n3, c3, y, rfl, _, _, g3, hy, hye⟩ := hM2.at1 hlt2
          have j0 : (0 : Int) ≤ (t : Int) := by omega
          have j1 : (t : Int) < (n' : Int) := by omega
          have hT := hy.hasT
          have hly := hy.len
          have hym := hy.lenMax
          clear hy hM2
          by_cases hmy : mayP y
          ·have HMy := Lib.hid hmy
           by_cases hle : (n3 : Int) = v
           ·have he3 : ((n3 : Int) != v) = false := by rw [bne_eq_false_iff_eq]; exact hle
            have HN := Lib.hid (mem_takeX (P := fun p => mayP p ∧ (p.length : Int) = v) hye.out ⟨hmy, by rw [hly]; exact hle⟩ HA3.out)
            clear hmy hle hly
            go_wp2_with fail
            refine (refMay_yes hT HMy.out).mono ?_
            rintro e w4 ⟨rfl, rfl⟩
            go_wp2_with fail
            go_big_quiet (fail)
            go_wp2_with fail
            go_roundw
            case rel => exact ⟨t + 1, u + nq, by omega, by go_num, by rw [HWX.out, World.drewN_drewN], HN⟩
            case measure => simp [intOf]; omega
           ·have he3 : ((n3 : Int) != v) = true := by rw [bne_iff_ne]; exact hle
            have H : Hid (mayQ D M V (G, F) = 16) := Lib.hid (mayQ_f HM.out (mem_fil (List.mem_of_getElem? he.out) (by
             rw [HIF.out]
             intro h
             have h5 := (h.2.2 y (List.mem_of_getElem? hye.out)).2
             rw [hly] at h5
             exact hle h5)))
            clear hmy hle hly
            go_wp2_with fail
            refine (refMay_yes hT HMy.out).mono ?_
            rintro e w4 ⟨rfl, rfl⟩
            go_wp2_with fail
            go_big_quiet (fail)
            have hBF : Below w.heap.size w (wr.drewN nq) := by rw [HWX.out, World.drewN_drewN]; exact below_drewN hBW _
            go_wp2_with fail
            go_ret
            exact ⟨by rw [H.out]; rfl, hBF⟩
          ·have HMy := Lib.hid hmy
           have H : Hid (mayQ D M V (G, F) = 16) := Lib.hid (mayQ_f HM.out (mem_fil (List.mem_of_getElem? he.out) (by
            rw [HIF.out]
            intro h
            exact hmy (h.2.2 y (List.mem_of_getElem? hye.out)).1)))
           clear hmy hly
           go_wp2_with fail
           refine (refMay_no hT HMy.out).mono ?_
           rintro e w4 ⟨rfl, rfl⟩
           go_wp2_with fail
           go_big_quiet (fail)
           have hBF : Below w.heap.size w (wr.drewN nq) := by rw [HWX.out, World.drewN_drewN]; exact below_drewN hBW _
           go_wp2_with fail
           go_ret
           exact ⟨by rw [H.out]; rfl, hBF⟩
         ·have hfit : fitFl D ((m : Int), v, M') := by
           rw [HIF.out]
           have h5 := HA3.out
           rw [List.take_of_length_le (by have := HLM.out; omega)] at h5
           exact ⟨⟨o1, o2⟩, ⟨o3, o4⟩, h5⟩
          have HN := Lib.hid (mem_takeX he.out hfit HA.out)
          have hBF : Below w3.heap.size w3 wr := by rw [HWX.out]; exact below_drewN hB1 _
          clear hfit hM2
          go_wp2_with fail
          go_roundw
          case rel => exact ⟨j + 1, by omega, by go_num, HN, hBF⟩
          case measure => simp [intOf]; omega
       ·have H : Hid (mayQ D M V (G, F) = 16) := Lib.hid (mayQ_f HM.out (mem_fil (List.mem_of_getElem? he.out) (by
         rw [HIF.out]
         exact fun h => hok ⟨h.1, h.2.1⟩)))
        have hc : v < 1 ∨ (1 ≤ v ∧ (n5 : Int) < v) ∨ (1 ≤ v ∧ v ≤ (n5 : Int) ∧ (n' : Int) < 1) ∨ (1 ≤ v ∧ v ≤ (n5 : Int) ∧ 1 ≤ (n' : Int) ∧ (6 : Int) < (n' : Int)) := by omega
        clear hok
        rcases hc with o1 | ⟨o1, o2⟩ | ⟨o1, o2, o3⟩ | ⟨o1, o2, o3, o4⟩
        ·have b3 : decide (v < 1) = true := decide_eq_true (by omega)
         go_big_quiet (fail)
         have hBF := below_drewN hBW nq
         go_wp2_with fail
         go_ret
         exact ⟨by rw [H.out]; rfl, hBF⟩
        ·have b3 : decide (v < 1) = false := decide_eq_false (by omega)
         have b4 : decide ((n5 : Int) < v) = true := decide_eq_true (by omega)
         go_big_quiet (fail)
         have hBF := below_drewN hBW nq
         go_wp2_with fail
         go_ret
         exact ⟨by rw [H.out]; rfl, hBF⟩
        ·have b3 : decide (v < 1) = false := decide_eq_false (by omega)
         have b4 : decide ((n5 : Int) < v) = false := decide_eq_false (by omega)
         have b5 : decide ((n' : Int) < 1) = true := decide_eq_true (by omega)
         go_big_quiet (fail)
         have hBF := below_drewN hBW nq
         go_wp2_with fail
         go_ret
         exact ⟨by rw [H.out]; rfl, hBF⟩
        ·have b3 : decide (v < 1) = false := decide_eq_false (by omega)
         have b4 : decide ((n5 : Int) < v) = false := decide_eq_false (by omega)
         have b5 : decide ((n' : Int) < 1) = false := decide_eq_false (by omega)
         have b6 : decide ((6 : Int) < (n' : Int)) = true := decide_eq_true (by omega)
         go_big_quiet (fail)
         have hBF := below_drewN hBW nq
         go_wp2_with fail
         go_ret
         exact ⟨by rw [H.out]; rfl, hBF⟩
      ·have H : Hid (mayQ D M V (G, F) = 16) := Lib.hid (mayQ_f HM.out (mem_fil (List.mem_of_getElem? he.out) (fitFl_far HD.out hd)))
       have hc : d < 0 ∨ (0 ≤ d ∧ (m1 : Int) ≤ d) := by omega
       clear hd
       rcases hc with o1 | ⟨o1, o2⟩
       ·have b1 : decide (d < 0) = true := decide_eq_true (by omega)
        go_big_quiet (fail)
        have hBF := below_drewN hBW nq
        go_wp2_with fail
        go_ret
        exact ⟨by rw [H.out]; rfl, hBF⟩
       ·have b1 : decide (d < 0) = false := decide_eq_false (by omega)
        have b2 : decide ((m1 : Int) ≤ d) = true := decide_eq_true (by omega)
        go_big_quiet (fail)
        have hBF := below_drewN hBW nq
        go_wp2_with fail
        go_ret
        exact ⟨by rw [H.out]; rfl, hBF⟩
     ·have H : Hid (mayQ D M V (G, F) = 0) := Lib.hid (mayQ_y HM.out (by
       have h5 := HA.out
       rw [List.take_of_length_le (by have := HF.out; omega)] at h5
       rw [HI.out]
       exact ⟨HCC.out, by omega, h5⟩))
      have hBF := hB3.trans (hB.mono hz3)
      go_wp2_with fail
      go_ret
      exact ⟨by rw [H.out]; rfl, hBF⟩
  ·rw [decide_eq_false hc] at HC2
   have H : Hid (mayQ D M V (G, F) = 16) := Lib.hid (mayQ_f HM.out (by rw [HI.out]; exact fun h => hc h.1))
   clear hc
   go_wp2_with fail
   refine HC2.out.mono ?_
   rintro e w3 ⟨rfl, hb3⟩
   have hB3 := hB2.trans (hb3.mono hB2.size)
   clear HC2 s0 s1 s2 k0
   go_wp2_with fail
   go_ret
   exact ⟨by rw [H.out]; rfl, hB3⟩
 ·rw [decide_eq_false hm] at HC
  have H := Lib.hid (mayQ_s (q := (G, F)) hm)
  clear hm
  go_wp2_with fail
  refine HC.out.mono ?_
  rintro e w2 ⟨rfl, hb2⟩
  have hB2 := hb0.trans (hb2.mono hz0)
  clear HC s0 s1 s2
  go_wp2_with fail
  go_ret
  exact ⟨by rw [H.out]; rfl, hB2⟩
end Go.Proofs.Ytmcccpbpijnbmaa
namespace Go.Proofs.Ytmcccpbpijnbmaa
set_option maxRecDepth 100000
open Go.RowKit

theorem takeX_step {α : Type} {L : List α} {k : Nat} {x : α} (h : L[k]? = some x) : L.take k ++ [x] = L.take (k + 1) := by rw [List.take_add_one, h]; rfl
theorem needQ_at {G : List Int} {F : List Fil} {k : Nat} {x : Int} (h : G[k]? = some x) : (needQ (G, F))[k]? = some (needAt F k x) := by
 have hi := (List.getElem?_eq_some_iff.1 h).1
 unfold needQ
 rw [List.getElem?_map, List.getElem?_range (show k < (G, F).1.length from hi)]
 simp [List.getD_eq_getElem?_getD, h]
theorem keyQ_at {q : Qry} {P : List (List Txt)} {k : Nat} {x : Int} (h : q.1[k]? = some x) : (keyQ q P)[k]? = some (upP (P.getD k []) x) := by
 have hi := (List.getElem?_eq_some_iff.1 h).1
 unfold keyQ
 rw [List.getElem?_map, List.getElem?_range hi]
 simp [List.getD_eq_getElem?_getD, h]
theorem HasI.get {w : World} {B n c k : Nat} {A : Option Addr} {L : List Int} (h : HasI w B A n c L) (hk : k < n) : ∃ b o x, A = some ⟨b, o, none⟩ ∧ w.cell? ⟨b, o + k, none⟩ = some (.int .i64 x) ∧ Hid (L[k]? = some x) := by
 obtain ⟨b, o, x, e, _, hc, hx⟩ := h.at_ hk
 exact ⟨b, o, x, e, hc, Lib.hid (by
  rw [hx.out, List.getD_eq_getElem?_getD, List.getElem?_eq_getElem (show k < L.length by have := h.len; omega)]
  rfl)⟩
set_option maxHeartbeats 4000000 in
theorem refNeedQ_any {S : Nat → Prop} {A1 A2 : Option Addr} {n1 c1 n2 c2 : Nat} {q : Qry} {w : World} (hq : HasQ w S A1 n1 c1 A2 n2 c2 q) (hn : n1 ≤ 1000) :
  Calls Try.prog 15 #[qryV A1 n1 c1 A2 n2 c2] w (TellJ w (needQ q)) := by
 obtain ⟨G, F⟩ := q
 have hn2 := hq.f.lenMax
 have HG := Lib.hid (show G.length = n1 from hq.g.len)
 have HF := Lib.hid (show F.length = n2 from hq.f.len)
 have hb0 := below_a1 w (.cells #[.slice A1 n1 c1, .slice A2 n2 c2] 30)
 have hbl := Block.new w 30 #[.slice A1 n1 c1, .slice A2 n2 c2]
 have h0 := hq.belowS hb0
 clear hq
 go_enter Try.func15, Try.ntmps15
 go_wp2_with fail
 generalize w.alloc (.cells #[.slice A1 n1 c1, .slice A2 n2 c2] 30) = W at hb0 hbl h0 ⊢
 have h1 : Row elInt 1 W (fun b => S b ∧ b < W.heap.size) A1 n1 c1 G := h0.g.mv elInt_ok (Mv.to W fun b hb hl => ⟨hb, hl⟩)
 have h2 : Row elFil 3 W (fun b => S b ∧ b < W.heap.size) A2 n2 c2 F := h0.f.mv elFil_ok (Mv.to W fun b hb hl => ⟨hb, hl⟩)
 have HS : ∀ b, (S b ∧ b < W.heap.size) → b < W.heap.size := fun b hb => hb.2
 have hz0 := hb0.size
 have HBL := Lib.hid hbl
 clear h0 hbl
 go_loopw [3, 4] (fun v i wr => ∃ k : Nat, k ≤ n1 ∧ i = .int .i64 k ∧ OwnI wr W.heap.size v ((needQ (G, F)).take k) ∧ Below W.heap.size W wr) (fun _ i _ => n1 - (intOf i).toNat)
 case atStart => exact ⟨0, Nat.zero_le _, rfl, OwnI.nil_ _ _, Below.refl _ _⟩
 case round =>
  obtain ⟨k, hk, rfl, hO, hB⟩ := hrel
  have k0 : wr.cell? ⟨w.heap.size, 0, none⟩ = some (.slice A1 n1 c1) := (HBL.out.below hB HBL.out.lt).cell 0
  have k1 : wr.cell? ⟨w.heap.size, 1, none⟩ = some (.slice A2 n2 c2) := (HBL.out.below hB HBL.out.lt).cell 1
  by_cases hlt : k < n1
  ·obtain ⟨b, o, x, rfl, g0, hx⟩ := ((h1.mv elInt_ok (Mv.below hB HS)).hasI).get hlt
   have i0 : (0 : Int) ≤ (k : Int) := by omega
   have i1 : (k : Int) < (n1 : Int) := by omega
   have HT := Lib.hid (takeX_step (needQ_at (F := F) hx.out))
   have h3 := h2.mv elFil_ok (Mv.below hB HS)
   have HO := Lib.hid hO
   have hz := hB.size
   clear hO
   go_wp2_with fail
   clear g0
   go_loop [5, 6] (fun m i => ∃ j : Nat, j ≤ n2 ∧ i = .int .i64 j ∧ m = .int .i64 (needAt (F.take j) k x)) (fun _ i => n2 - (intOf i).toNat)
   case atStart => exact ⟨0, Nat.zero_le _, rfl, by rw [List.take_zero]; rfl⟩
   case round =>
    obtain ⟨j, hj, rfl, rfl⟩ := hrel
    by_cases hlj : j < n2
    ·obtain ⟨b3, o3, d, v, A', n', c', M', rfl, _, _, g0, g1, g2, _, he⟩ := h3.atF hlj
     have j0 : (0 : Int) ≤ (j : Int) := by omega
     have j1 : (j : Int) < (n2 : Int) := by omega
     have HN : Hid (needAt (F.take (j + 1)) k x = if d = (k : Int) ∧ needAt (F.take j) k x < v then v else needAt (F.take j) k x) := Lib.hid (by
      rw [← takeX_step he.out, needAt_snoc])
     obtain ⟨y, hy⟩ : ∃ y, Hid (needAt (F.take j) k x = y) := ⟨_, Lib.hid rfl⟩
     rw [hy.out] at HN ⊢
     by_cases hdk : d = (k : Int)
     ·have e1 : (d == (k : Int)) = true := by rw [beq_iff_eq]; exact hdk
      by_cases hyv : y < v
      ·rw [if_pos ⟨hdk, hyv⟩] at HN
       clear hdk g2
       go_wp2_with fail
       go_round
       case rel => exact ⟨j + 1, by omega, by go_num, by rw [HN.out]⟩
       case measure => simp [intOf]; omega
      ·rw [if_neg (fun h => hyv h.2)] at HN
       clear hdk g2
       go_wp2_with fail
       go_round
       case rel => exact ⟨j + 1, by omega, by go_num, by rw [HN.out]⟩
       case measure => simp [intOf]; omega
     ·have e1 : (d == (k : Int)) = false := by rw [beq_eq_false_iff_ne]; exact hdk
      rw [if_neg (fun h => hdk h.1)] at HN
      clear hdk g1 g2
      go_wp2_with fail
      go_round
      case rel => exact ⟨j + 1, by omega, by go_num, by rw [HN.out]⟩
      case measure => simp [intOf]; omega
    ·have e : needAt (F.take j) k x = needAt F k x := by rw [List.take_of_length_le (by have := HF.out; omega)]
     rw [e]
     obtain ⟨y, hy⟩ : ∃ y, Hid (needAt F k x = y) := ⟨_, Lib.hid rfl⟩
     rw [hy.out] at HT ⊢
     have hO1 := HO.out.alloc (.cells #[.int .i64 y] 3)
     have hlb : Hid (((needQ (G, F)).take k).length ≤ 1000000) := Lib.hid (Nat.le_trans (List.length_take_le k _) (by omega))
     have hlo := fun g e => (HO.out.lt g e).1
     clear e
     go_wp2_with (at_builtin; refine wpList_appI rfl _ _ rfl W.heap.size _ _ rfl hO1 _ rfl y (cell_lit _ _ _ _ (by simp)) hlb.out (by rw [World.size_alloc]; omega) ?_)
     intro v' w8 hO3 hG2
     have hF := Lib.hid (show OwnI w8 W.heap.size v' ((needQ (G, F)).take (k + 1)) ∧ Below W.heap.size W w8 from ⟨by rw [← HT.out]; exact hO3, (hB.alloc hz (.cells #[.int .i64 y] 3)).trans (hG2.below_ (by rw [World.size_alloc]; omega) hlo)⟩)
     clear hO1 hO3 hG2 hB hlo HO k0 k1 h3
     go_wp2_with fail
     go_roundw
     case rel => exact ⟨k + 1, by omega, by go_num, hF.out⟩
     case measure => simp [intOf]; omega
  ·rw [List.take_of_length_le (by rw [needQ_len]; simp only; have := HG.out; omega)] at hO
   have hF := Lib.hid (And.intro (hO.low hz0) (hb0.trans (hB.mono hz0)))
   clear hO hB
   go_wp2_with fail
   go_ret
   exact ⟨⟨_, rfl, hF.out.1⟩, hF.out.2⟩
set_option maxHeartbeats 4000000 in
theorem refKeyQ_any {S S' : Nat → Prop} {A A1 A2 : Option Addr} {n c n1 c1 n2 c2 : Nat} {P : List (List Txt)} {q : Qry} {w : World} (hq : HasQ w S A1 n1 c1 A2 n2 c2 q) (hp : Row (elRow elText 1) 1 w S' A n c P) (hn1 : n1 ≤ 1000) (hP : ∀ p ∈ P, p.length ≤ 1000000) :
  Calls Try.prog 19 #[qryV A1 n1 c1 A2 n2 c2, .slice A n c] w (Told (elOwn elText 9 1) 23 1 w (keyQ q P)) := by
 have hn := hp.lenMax
 have HG := Lib.hid hq.g.len
 have HP := Lib.hid hp.len
 have hb0 := below_a1 w (.cells #[.slice A1 n1 c1, .slice A2 n2 c2] 30)
 have hbl := Block.new w 30 #[.slice A1 n1 c1, .slice A2 n2 c2]
 have h0 := hq.belowS hb0
 have hp0 := hp.mv elPath_ok (Mv.belowS hb0 S')
 clear hq hp
 go_enter Try.func19, Try.ntmps19
 go_wp2_with fail
 generalize w.alloc (.cells #[.slice A1 n1 c1, .slice A2 n2 c2] 30) = W at hb0 hbl h0 hp0 ⊢
 have h1 : Row elInt 1 W (fun b => S b ∧ b < W.heap.size) A1 n1 c1 q.1 := h0.g.mv elInt_ok (Mv.to W fun b hb hl => ⟨hb, hl⟩)
 have h2 : Row (elRow elText 1) 1 W (fun b => S' b ∧ b < W.heap.size) A n c P := hp0.mv elPath_ok (Mv.to W fun b hb hl => ⟨hb, hl⟩)
 have HS : ∀ b, (S b ∧ b < W.heap.size) → b < W.heap.size := fun b hb => hb.2
 have HS' : ∀ b, (S' b ∧ b < W.heap.size) → b < W.heap.size := fun b hb => hb.2
 have hz0 := hb0.size
 have HBL := Lib.hid hbl
 clear h0 hbl hp0
 go_loopw [5, 6] (fun v i wr => ∃ k : Nat, k ≤ n1 ∧ i = .int .i64 k ∧ OwnR (elOwn elText 9 1) 23 1 wr W.heap.size (fun b => W.heap.size ≤ b) v ((keyQ q P).take k) ∧ Below W.heap.size W wr) (fun _ i _ => n1 - (intOf i).toNat)
 case atStart => exact ⟨0, Nat.zero_le _, rfl, OwnR.nil_ _ _ _, Below.refl _ _⟩
 case round =>
  obtain ⟨k, hk, rfl, hO, hB⟩ := hrel
  have k0 : wr.cell? ⟨w.heap.size, 0, none⟩ = some (.slice A1 n1 c1) := (HBL.out.below hB HBL.out.lt).cell 0
  have hz := hB.size
  by_cases hlt : k < n1
  ·obtain ⟨b, o, x, rfl, g0, hx⟩ := ((h1.mv elInt_ok (Mv.below hB HS)).hasI).get hlt
   have i0 : (0 : Int) ≤ (k : Int) := by omega
   have i1 : (k : Int) < (n1 : Int) := by omega
   have HT := Lib.hid (takeX_step (keyQ_at (P := P) hx.out))
   have hlb : Hid (((keyQ q P).take k).length ≤ 1000000) := Lib.hid (Nat.le_trans (List.length_take_le k _) (by omega))
   have hlo := fun g e => hO.lt g e
   by_cases hkn : k < n
   ·obtain ⟨b2, o2, A3, n3, c3, p, rfl, _, _, g1, hp, hpe⟩ := (h2.mv elPath_ok (Mv.below hB HS')).at1 hkn
    have i2 : (k : Int) < (n : Int) := by omega
    have hpl : n3 ≤ 1000000 := by have h1 := hP p (List.mem_of_getElem? hpe.out); have h2 := hp.len; omega
    have HU := Lib.hid (refUpO_any (w := wr.drew) (hp.hasT.drewN 1) x hpl)
    rw [show P.getD k [] = p by rw [List.getD_eq_getElem?_getD, hpe.out]; rfl] at HT
    clear hp
    go_wp2_with fail
    go_still_tail 9, (by kernel_rfl)
    change wpList _ _ _ _ _ wr.drew
    go_wp2_with fail
    refine HU.out.mono ?_
    rintro e w2 ⟨⟨v2, rfl, hO2⟩, hb2⟩
    obtain ⟨A5, n5, c5, rfl, _⟩ := hO2.formN
    have hbw : Below wr.heap.size wr w2 := (below_drewN (Below.refl _ wr) 1).trans hb2
    have hE2 := OwnR.el (base := W.heap.size) (u := u5) elText_ok (hO2.ownR (S := fun k => wr.drew.heap.size ≤ k)) (fun k hk => (hlo k hk).2) hz
    have hO3 := (hO.below elPathO_ok hbw).alloc elPathO_ok (.cells #[.slice A5 n5 c5] 23)
    have hE3 := elPathO_ok _ _ _ _ _ _ (Mv.alloc w2 (.cells #[.slice A5 n5 c5] 23) _) hE2
    have hB3 := (hB.trans (hbw.mono hz)).trans ((below_a1 w2 (.cells #[.slice A5 n5 c5] 23)).mono (Nat.le_trans hz hbw.size))
    have hbs := hB3.size
    clear hO hO2 hE2 hb2 hbw hB g0 g1 k0 HU
    go_wp2_with (at_builtin; refine wpList_appX elPathO_ok rfl _ _ rfl info_rowT Try.underlying41 rfl (by decide) W.heap.size _ u5 _ rfl hO3 _ rfl [.slice A5 n5 c5] rfl (upP p x) (cell_litX w2 _ _) (one_slR _ _ _) hE3 hlb.out hbs ?_)
    intro v' w8 hO8 hG8
    have hF := Lib.hid (show OwnR (elOwn elText 9 1) 23 1 w8 W.heap.size (fun b => W.heap.size ≤ b) v' ((keyQ q P).take (k + 1)) ∧ Below W.heap.size W w8 from ⟨by rw [← HT.out]; exact hO8, hB3.trans (hG8.below_ hbs fun j e => (hlo j e).1)⟩)
    clear hO8 hG8 hB3 hO3 hE3
    go_wp2_with fail
    go_roundw
    case rel => exact ⟨k + 1, by omega, by go_num, hF.out⟩
    case measure => simp [intOf]; omega
   ·have hpe : upP (P.getD k []) x = [] := by
     rw [List.getD_eq_getElem?_getD, List.getElem?_eq_none (by have := HP.out; omega)]
     simp [upP]
    rw [hpe] at HT
    have hO3 := hO.alloc elPathO_ok (.cells #[.slice none 0 0] 23)
    have hE3 : elOwn elText 9 1 (wr.alloc (.cells #[.slice none 0 0] 23)) (fun k => W.heap.size ≤ k ∧ u5.ownBlock ≠ some k) [.slice none 0 0] ([] : List Txt) := ⟨_, rfl, OwnR.nil_ _ _ _, fun k hk => by cases hk⟩
    have hB3 := hB.trans ((below_a1 wr (.cells #[.slice none 0 0] 23)).mono hz)
    have hbs := hB3.size
    clear hO hB hpe
    go_wp2_with (at_builtin; refine wpList_appX elPathO_ok rfl _ _ rfl info_rowT Try.underlying41 rfl (by decide) W.heap.size _ u5 _ rfl hO3 _ rfl [.slice none 0 0] rfl [] (cell_litX wr _ _) (one_slR _ _ _) hE3 hlb.out hbs ?_)
    intro v' w8 hO8 hG8
    have hF := Lib.hid (show OwnR (elOwn elText 9 1) 23 1 w8 W.heap.size (fun b => W.heap.size ≤ b) v' ((keyQ q P).take (k + 1)) ∧ Below W.heap.size W w8 from ⟨by rw [← HT.out]; exact hO8, hB3.trans (hG8.below_ hbs fun j e => (hlo j e).1)⟩)
    clear hO8 hG8 hB3 hO3 hE3 g0 k0
    go_wp2_with fail
    go_roundw
    case rel => exact ⟨k + 1, by omega, by go_num, hF.out⟩
    case measure => simp [intOf]; omega
  ·rw [List.take_of_length_le (by rw [keyQ_len]; have := HG.out; omega)] at hO
   have hF := Lib.hid (And.intro ((hO.to elPathO_ok (S' := fun b => w.heap.size ≤ b) fun b hb _ => Nat.le_trans hz0 hb).low hz0) (hb0.trans (hB.mono hz0)))
   clear hO hB
   go_wp2_with fail
   go_ret
   exact ⟨_, rfl, hF.out⟩
end Go.Proofs.Ytmcccpbpijnbmaa
namespace Go.Proofs.Ytmcccpbpijnbmaa
set_option maxRecDepth 100000
open Go.RowKit

def cutQ (P : List (List Txt)) : List (List Txt) := (P.take 8).map fun p => p.take 5
theorem cutQ_at {P : List (List Txt)} {k : Nat} {x : List Txt} (h : P[k]? = some x) (hk : k < 8) : (cutQ P)[k]? = some (x.take 5) := by
 unfold cutQ
 rw [List.getElem?_map, List.getElem?_take, if_pos hk, h]
 rfl
theorem cutQ_len (P : List (List Txt)) : (cutQ P).length = min 8 P.length := by
 unfold cutQ
 rw [List.length_map, List.length_take]
theorem cutQ_short (P : List (List Txt)) : (cutQ P).length ≤ 8 ∧ ∀ p ∈ cutQ P, p.length ≤ 5 := by
 refine ⟨by rw [cutQ_len]; omega, fun p hp => ?_⟩
 obtain ⟨x, _, rfl⟩ := List.mem_map.1 hp
 exact Nat.le_trans (List.length_take_le _ _) (Nat.le_refl _)
def fewFl (f : Fil) : Fil := (f.1, f.2.1, cutQ f.2.2)
def fewFs (F : List Fil) : List Fil := (F.take 5).map fewFl
def fewQ (q : Qry) : Qry := (q.1.take 6, fewFs q.2)
theorem fewFs_at {F : List Fil} {k : Nat} {f : Fil} (h : F[k]? = some f) (hk : k < 5) : (fewFs F)[k]? = some (fewFl f) := by
 unfold fewFs
 rw [List.getElem?_map, List.getElem?_take, if_pos hk, h]
 rfl
theorem fewFs_len (F : List Fil) : (fewFs F).length = min 5 F.length := by
 unfold fewFs
 rw [List.length_map, List.length_take]
theorem fewQ_short (q : Qry) : (fewQ q).1.length ≤ 6 ∧ (fewQ q).2.length ≤ 5 := ⟨List.length_take_le _ _, by
 show (fewFs q.2).length ≤ 5
 rw [fewFs_len]; omega⟩
theorem cell_litD (w : World) (cs : Array Value) (t : TypeId) : ∀ j u, cs.toList[j]? = some u → (w.alloc (.cells cs t)).cell? ((⟨w.heap.size, 0, none⟩ : Addr).add j) = some u := by
 intro j u hj
 rw [add_flat, Nat.zero_add, (Block.new w t cs).cell j]
 simpa using hj
theorem one_fil (d v : Int) (A : Option Addr) (n c : Nat) : ∀ u ∈ [Value.int .i64 d, Value.int .i64 v, Value.slice A n c], u.oneCell' = true := by
 intro u hu
 simp at hu
 rcases hu with rfl | rfl | rfl <;> rfl
theorem info_filter : (Try.prog.info? 54).map (fun i => (i.zero, i.size, i.bytes)) = some (some (.agg #[.int .i64 0, .int .i64 0, .slice none 0 0]), 3, 40) := by kernel_rfl
theorem info_queryS : (Try.prog.info? 30).map (·.size) = some 2 := by kernel_rfl
set_option maxHeartbeats 2000000 in
theorem cutQ_any {w : World} {S : Nat → Prop} {A : Option Addr} {n c : Nat} {K : List (List Txt)} (h : Row (elRow elText 1) 1 w S A n c K) :
  Calls Try.prog 16 #[.slice A n c] w fun e w' => (∃ A' n' c', e = .returned (.slice A' n' c') ∧ Row (elRow elText 1) 1 w' (fun b => (S b ∧ b < w.heap.size) ∨ (w.heap.size ≤ b ∧ b < w'.heap.size)) A' n' c' (cutQ K)) ∧ Below w.heap.size w w' := by
 have HK := Lib.hid (show Row (elRow elText 1) 1 w (fun b => S b ∧ b < w.heap.size) A n c K from h.mv elPath_ok (Mv.to w fun b hb hl => ⟨hb, hl⟩))
 have HL := Lib.hid h.len
 have hnm := h.lenMax
 have HS : ∀ b, (S b ∧ b < w.heap.size) → b < w.heap.size := fun b hb => hb.2
 clear h
 go_enter Try.func16, Try.ntmps16
 go_wp2_with fail
 go_loopw [3, 4] (fun v i wr => ∃ k : Nat, k ≤ n ∧ k ≤ 8 ∧ i = .int .i64 k ∧ Hid (OwnR (elRow elText 1) 23 1 wr w.heap.size (fun b => S b ∧ b < w.heap.size) v ((cutQ K).take k)) ∧ Below w.heap.size w wr) (fun _ i _ => n - (intOf i).toNat)
 case atStart => exact ⟨0, Nat.zero_le _, Nat.zero_le _, rfl, Lib.hid (OwnR.nil_ _ _ _), Below.refl _ _⟩
 case round =>
  obtain ⟨k, hk, hk5, rfl, hO, hB⟩ := hrel
  by_cases hgo : k < n ∧ k < 8
  ·obtain ⟨hlt, hlt5⟩ := hgo
   obtain ⟨b, o, A', n', c', x, rfl, _, _, gk, hl, hxe⟩ := (HK.out.mv elPath_ok (Mv.below hB HS)).at1 hlt
   have i0 : (0 : Int) ≤ (k : Int) := by omega
   have i1 : (k : Int) < (n : Int) := by omega
   have i2 : decide ((k : Int) < 8) = true := decide_eq_true (by omega)
   have hT := Lib.hid (takeX_step (cutQ_at hxe.out hlt5))
   have hxl := hl.len
   have hxm := hl.lenMax
   have hxc := hl.cap
   have hxcm := hl.capMax
   have hlb : Hid (((cutQ K).take k).length ≤ 1000000) := Lib.hid (Nat.le_trans (List.length_take_le k _) (by omega))
   have hlo := hO.out.lt
   have hz := hB.size
   by_cases h5 : (5 : Int) < (n' : Int)
   ·have hc5 : (5 : Int) ≤ (c' : Int) := by omega
    have HR := Lib.hid (hl.take_ (k := 5) (by omega))
    clear hl
    have HO1 := Lib.hid (hO.out.alloc elPath_ok (.cells #[.slice A' 5 c'] 23))
    have HE : Hid (elRow elText 1 (wr.alloc (.cells #[.slice A' 5 c'] 23)) (fun b => (S b ∧ b < w.heap.size) ∧ u3.ownBlock ≠ some b) [.slice A' 5 c'] (x.take 5)) := Lib.hid ⟨A', 5, c', rfl, HR.out.mv elText_ok ((Mv.alloc wr _ _).trans (Mv.to _ fun b hb _ => ⟨hb, fun e => by have := (hlo b e).1; have := hb.2; omega⟩))⟩
    have hB1 := hB.trans ((below_a1 wr (.cells #[.slice A' 5 c'] 23)).mono hz)
    have hbs : w.heap.size ≤ (wr.alloc (.cells #[.slice A' 5 c'] 23)).heap.size := hB1.size
    clear hO
    go_wp2_with (at_builtin; refine wpList_appX elPath_ok rfl _ _ rfl info_rowT Try.underlying41 rfl (by decide) w.heap.size _ _ _ rfl HO1.out _ rfl [.slice A' 5 c'] rfl (x.take 5) (cell_litX wr _ _) (one_slR A' 5 c') HE.out hlb.out hbs ?_)
    intro v' w8 hO8 hG8
    have hF := Lib.hid (show OwnR (elRow elText 1) 23 1 w8 w.heap.size (fun b => S b ∧ b < w.heap.size) v' ((cutQ K).take (k + 1)) ∧ Below w.heap.size w w8 from ⟨by rw [← hT.out]; exact hO8, hB1.trans (hG8.below_ hbs fun j e => (hlo j e).1)⟩)
    clear hO8 hG8 hB1
    go_wp2_with fail
    go_roundw
    case rel => exact ⟨k + 1, by omega, by omega, by go_num, Lib.hid hF.out.1, hF.out.2⟩
    case measure => simp [intOf]; omega
   ·have HR : Hid (Row elText 1 wr (fun b => S b ∧ b < w.heap.size) A' n' c' (x.take 5)) := Lib.hid (by rw [List.take_of_length_le (by omega)]; exact hl)
    clear hl
    have HO1 := Lib.hid (hO.out.alloc elPath_ok (.cells #[.slice A' n' c'] 23))
    have HE : Hid (elRow elText 1 (wr.alloc (.cells #[.slice A' n' c'] 23)) (fun b => (S b ∧ b < w.heap.size) ∧ u3.ownBlock ≠ some b) [.slice A' n' c'] (x.take 5)) := Lib.hid ⟨A', n', c', rfl, HR.out.mv elText_ok ((Mv.alloc wr _ _).trans (Mv.to _ fun b hb _ => ⟨hb, fun e => by have := (hlo b e).1; have := hb.2; omega⟩))⟩
    have hB1 := hB.trans ((below_a1 wr (.cells #[.slice A' n' c'] 23)).mono hz)
    have hbs : w.heap.size ≤ (wr.alloc (.cells #[.slice A' n' c'] 23)).heap.size := hB1.size
    clear hO
    go_wp2_with (at_builtin; refine wpList_appX elPath_ok rfl _ _ rfl info_rowT Try.underlying41 rfl (by decide) w.heap.size _ _ _ rfl HO1.out _ rfl [.slice A' n' c'] rfl (x.take 5) (cell_litX wr _ _) (one_slR A' n' c') HE.out hlb.out hbs ?_)
    intro v' w8 hO8 hG8
    have hF := Lib.hid (show OwnR (elRow elText 1) 23 1 w8 w.heap.size (fun b => S b ∧ b < w.heap.size) v' ((cutQ K).take (k + 1)) ∧ Below w.heap.size w w8 from ⟨by rw [← hT.out]; exact hO8, hB1.trans (hG8.below_ hbs fun j e => (hlo j e).1)⟩)
    clear hO8 hG8 hB1
    go_wp2_with fail
    go_roundw
    case rel => exact ⟨k + 1, by omega, by omega, by go_num, Lib.hid hF.out.1, hF.out.2⟩
    case measure => simp [intOf]; omega
  ·have hall : (cutQ K).take k = cutQ K := by
    refine List.take_of_length_le ?_
    rw [cutQ_len]
    have := HL.out
    omega
   have hF := hO.out
   rw [hall] at hF
   obtain ⟨A9, c9, e9, hR9⟩ := hF.read elPath_ok
   have hR : Row (elRow elText 1) 1 wr (fun b => (S b ∧ b < w.heap.size) ∨ (w.heap.size ≤ b ∧ b < wr.heap.size)) A9 (cutQ K).length c9 (cutQ K) := hR9.mv elPath_ok (Mv.to wr fun b hb hl => by
    rcases hb with hb | hb
    ·exact .inl hb
    ·exact .inr ⟨hb.1, hl⟩)
   subst e9
   have HF := Lib.hid hR
   clear hO hF hR9 hR
   by_cases hlt : k < n
   ·have i1 : (k : Int) < (n : Int) := by omega
    have i2 : decide ((k : Int) < 8) = false := decide_eq_false (by omega)
    go_wp2_with fail
    go_ret
    exact ⟨⟨_, _, _, rfl, HF.out⟩, hB⟩
   ·have i1 : ¬ (k : Int) < (n : Int) := by omega
    go_wp2_with fail
    go_ret
    exact ⟨⟨_, _, _, rfl, HF.out⟩, hB⟩
theorem boxes3q (w : World) (T : TypeId) (cs ds es : Array Value) : Below w.heap.size w (((w.alloc (.cells cs T)).alloc (.cells ds T)).alloc (.cells es T)) ∧ Block (((w.alloc (.cells cs T)).alloc (.cells ds T)).alloc (.cells es T)) w.heap.size T cs ∧ Block (((w.alloc (.cells cs T)).alloc (.cells ds T)).alloc (.cells es T)) (w.heap.size + 1) T ds ∧ Block (((w.alloc (.cells cs T)).alloc (.cells ds T)).alloc (.cells es T)) (w.heap.size + 1 + 1) T es := by
 obtain ⟨h1, h2, h3⟩ := boxes2 w T T cs ds
 refine ⟨below_then h1 (below_a1 _ _), h2.alloc _, h3.alloc _, ?_⟩
 have h := Block.new ((w.alloc (.cells cs T)).alloc (.cells ds T)) T es
 rwa [show ((w.alloc (.cells cs T)).alloc (.cells ds T)).heap.size = w.heap.size + 1 + 1 by simp] at h
def TellFw (w : World) (S : Nat → Prop) (q : Qry) (e : Ending) (w' : World) : Prop :=
 ∃ (A1 : Option Addr) (n1 c1 : Nat) (A2 : Option Addr) (n2 c2 : Nat), e = .returned (qryV A1 n1 c1 A2 n2 c2) ∧ HasQ w' (fun b => (S b ∧ b < w.heap.size) ∨ (w.heap.size ≤ b ∧ b < w'.heap.size)) A1 n1 c1 A2 n2 c2 q ∧ Below w.heap.size w w'
set_option maxHeartbeats 4000000 in
theorem fewQ_any {w : World} {S : Nat → Prop} {A1 A2 : Option Addr} {n1 c1 n2 c2 : Nat} {q : Qry} (hq : HasQ w S A1 n1 c1 A2 n2 c2 q) :
  Calls Try.prog 9 #[qryV A1 n1 c1 A2 n2 c2] w (TellFw w S (fewQ q)) := by
 obtain ⟨G, F⟩ := q
 have hn1 := hq.g.lenMax
 have hn2 := hq.f.lenMax
 have hc1 := hq.g.cap
 have hcm1 := hq.g.capMax
 have HF := Lib.hid (show F.length = n2 from hq.f.len)
 have HG := Lib.hid (show G.length = n1 from hq.g.len)
 obtain ⟨hb0, hk1, hk2, hk3⟩ := boxes3q w 30 #[.slice A1 n1 c1, .slice A2 n2 c2] #[.slice none 0 0, .slice none 0 0] #[.slice none 0 0, .slice none 0 0]
 have HQ0 : Hid (HasQ w (fun b => S b ∧ b < w.heap.size) A1 n1 c1 A2 n2 c2 (G, F)) := Lib.hid (hq.mv (Mv.to w fun b hb hl => ⟨hb, hl⟩))
 clear hq
 go_enter Try.func9, Try.ntmps9
 go_upto_region 2 with fail
 generalize ((w.alloc (.cells #[.slice A1 n1 c1, .slice A2 n2 c2] 30)).alloc (.cells #[.slice none 0 0, .slice none 0 0] 30)).alloc (.cells #[.slice none 0 0, .slice none 0 0] 30) = W at hb0 hk1 hk2 hk3 ⊢
 have k0 : W.cell? ⟨w.heap.size, 0, none⟩ = some (.slice A1 n1 c1) := hk1.cell 0
 have z0 : W.cell? ⟨w.heap.size + 1 + 1, 0, none⟩ = some (.slice none 0 0) := hk3.cell 0
 have fr := hk3.free 0
 go_upto_if 12 with fail
 go_cut [12] (fun _ wx => Block wx (w.heap.size + 1 + 1) 30 #[.slice A1 (min n1 6) c1, .slice none 0 0] ∧ Below (w.heap.size + 1 + 1) W wx)
 case first =>
  have s1 := hk3.set_ 0 (.slice A1 n1 c1)
  have s2 : (W.setCell ⟨w.heap.size + 1 + 1, 0, none⟩ (.slice A1 n1 c1)).cell? ⟨w.heap.size + 1 + 1, 0, none⟩ = some (.slice A1 n1 c1) := s1.cell 0
  have s3 := s1.free 0
  have hbB := (Below.refl (w.heap.size + 1 + 1) W).setCell (p := ⟨w.heap.size + 1 + 1, 0, none⟩) (Nat.le_refl _) (.slice A1 n1 c1)
  by_cases h : (6 : Int) < (n1 : Int)
  ·have h2 : (6 : Int) ≤ (c1 : Int) := by omega
   have e : min n1 6 = 6 := by omega
   have hN := Lib.hid (show Block ((W.setCell ⟨w.heap.size + 1 + 1, 0, none⟩ (.slice A1 n1 c1)).setCell ⟨w.heap.size + 1 + 1, 0, none⟩ (.slice A1 6 c1)) (w.heap.size + 1 + 1) 30 #[.slice A1 (min n1 6) c1, .slice none 0 0] ∧ Below (w.heap.size + 1 + 1) W ((W.setCell ⟨w.heap.size + 1 + 1, 0, none⟩ (.slice A1 n1 c1)).setCell ⟨w.heap.size + 1 + 1, 0, none⟩ (.slice A1 6 c1)) from ⟨by rw [e]; exact s1.set_ 0 _, hbB.setCell (p := ⟨w.heap.size + 1 + 1, 0, none⟩) (Nat.le_refl _) _⟩)
   clear s1 hbB e
   go_wp2_with fail
   go_meet
   exact hN.out
  ·have e : min n1 6 = n1 := by omega
   have hN := Lib.hid (show Block (W.setCell ⟨w.heap.size + 1 + 1, 0, none⟩ (.slice A1 n1 c1)) (w.heap.size + 1 + 1) 30 #[.slice A1 (min n1 6) c1, .slice none 0 0] ∧ Below (w.heap.size + 1 + 1) W (W.setCell ⟨w.heap.size + 1 + 1, 0, none⟩ (.slice A1 n1 c1)) from ⟨by rw [e]; exact s1, hbB⟩)
   clear s1 hbB e
   go_wp2_with fail
   go_meet
   exact hN.out
 case rest =>
  obtain ⟨hk3', hbc⟩ := hcut
  obtain ⟨Wc, rfl⟩ : ∃ Wc, Wc = wc := ⟨_, rfl⟩
  obtain ⟨N, hN⟩ : ∃ N, min n1 6 = N := ⟨_, rfl⟩
  rw [hN] at hk3'
  have HN := Lib.hid hN
  have HK1 := Lib.hid hk1
  have HK2 := Lib.hid hk2
  have hzW : w.heap.size + 1 + 1 < W.heap.size := hk3.lt
  clear hN hk1 hk2 hk3 k0 z0 fr
  go_wp2_with fail
  go_loopw [4] (fun i wr => ∃ (k : Nat) (v : Value), k ≤ n2 ∧ k ≤ 5 ∧ i = .int .i64 k ∧ Below (w.heap.size + 1 + 1) W wr ∧ Block wr (w.heap.size + 1 + 1) 30 #[.slice A1 N c1, v] ∧ OwnR elFil 54 3 wr (w.heap.size + 1 + 1 + 1) (fun b => (S b ∧ b < w.heap.size) ∨ w.heap.size + 1 + 1 < b) v ((fewFs F).take k)) (fun i _ => n2 - (intOf i).toNat)
  case atStart => exact ⟨0, _, Nat.zero_le _, Nat.zero_le _, rfl, hbc, hk3', OwnR.nil_ _ _ _⟩
  case round =>
   clear hbc hk3'
   obtain ⟨k, v, hk, hk5, rfl, hB, hblk, hO⟩ := hrel
   have hzr := hB.size
   have k1 : wr.cell? ⟨w.heap.size, 1, none⟩ = some (.slice A2 n2 c2) := (HK1.out.below hB (by omega)).cell 1
   obtain ⟨Av, nv, cv, rfl⟩ : ∃ A n c, v = .slice A n c := by
    obtain ⟨A, c, e⟩ := hO.shape
    exact ⟨A, _, c, e⟩
   by_cases hgo : k < n2 ∧ k < 5
   ·obtain ⟨hlt, hlt5⟩ := hgo
    have hBw := hb0.trans (hB.mono (show w.heap.size ≤ w.heap.size + 1 + 1 by omega))
    have hrf : Row elFil 3 wr (fun b => S b ∧ b < w.heap.size) A2 n2 c2 F := HQ0.out.f.mv elFil_ok (Mv.below hBw fun b hb => hb.2)
    obtain ⟨b, o, d, x, A', n', c', M', rfl, _, _, g0, g1, g2, hM, he⟩ := hrf.atF hlt
    have i0 : (0 : Int) ≤ (k : Int) := by omega
    have i1 : (k : Int) < (n2 : Int) := by omega
    have i2 : decide ((k : Int) < 5) = true := decide_eq_true (by omega)
    have hbx := below_a1 wr (.cells #[.int .i64 d, .int .i64 x, .slice A' n' c'] 54)
    have hbf := Block.new wr 54 #[.int .i64 d, .int .i64 x, .slice A' n' c']
    have hlo := hO.lt
    have hzk := hblk.lt
    have hB1 := hB.trans (hbx.mono (by omega))
    have hblk1 := hblk.below hbx hblk.lt
    have hO1 := (hO.to (S' := fun b => ((S b ∧ b < w.heap.size) ∨ w.heap.size + 1 + 1 < b) ∧ b < wr.heap.size) elFil_ok fun b hb hl => ⟨hb, hl⟩).below elFil_ok hbx
    have hM1 := hM.mv elPath_ok (Mv.belowS hbx _)
    have HC := Lib.hid (cutQ_any hM1)
    have HT := Lib.hid (takeX_step (fewFs_at he.out hlt5))
    clear hB hblk hO hbx hM hM1 hrf hBw
    go_wp2_with fail
    generalize wr.alloc (.cells #[.int .i64 d, .int .i64 x, .slice A' n' c'] 54) = W1 at hB1 hbf hblk1 hO1 HC ⊢
    have f2 : W1.cell? ⟨wr.heap.size, 2, none⟩ = some (.slice A' n' c') := hbf.cell 2
    clear g0 g1 g2 k1
    go_wp2_with fail
    refine HC.out.mono ?_
    rintro e w2 ⟨⟨A9, n9, c9, rfl, hR9⟩, hb2⟩
    have hbf2 := hbf.below hb2 hbf.lt
    have q2 : w2.cell? ⟨wr.heap.size, 2, none⟩ = some (.slice A' n' c') := hbf2.cell 2
    have q3 := hbf2.free 2
    have hbf3 := hbf2.set_ 2 (.slice A9 n9 c9)
    have hz1 := hbf.lt
    have hz2 := hb2.size
    have hblk2 := hblk1.below hb2 hblk1.lt
    have hO2 := hO1.below elFil_ok hb2
    have hblk3 := hblk2.elsewhere wr.heap.size 2 (.slice A9 n9 c9) (by omega)
    have hB3 := (hB1.trans (hb2.mono (by have := hB1.size; omega))).setCell (p := ⟨wr.heap.size, 2, none⟩) (by show w.heap.size + 1 + 1 ≤ wr.heap.size; omega) (.slice A9 n9 c9)
    have hO3 := ((hO1.below elFil_ok hb2).setR elFil_ok (g := wr.heap.size) (i := 2) (u := .slice A9 n9 c9) (fun e => by have := (hlo _ e).2; omega) (fun h => Nat.lt_irrefl _ h.2)).to (S' := fun b => (S b ∧ b < w.heap.size) ∨ w.heap.size + 1 + 1 < b) elFil_ok fun b hb _ => hb.1
    have hM3 : Row (elRow elText 1) 1 (w2.setCell ⟨wr.heap.size, 2, none⟩ (.slice A9 n9 c9)) (fun b => ((S b ∧ b < w.heap.size) ∨ w.heap.size + 1 + 1 < b) ∧ (Value.slice Av nv cv).ownBlock ≠ some b) A9 n9 c9 (cutQ M') :=
     hR9.mv elPath_ok ((Mv.set w2 wr.heap.size 2 (.slice A9 n9 c9) (fun h => by rcases h with ⟨⟨_, h⟩, _⟩ | h <;> omega)).trans (Mv.to _ fun b hb _ => by
      rcases hb with hb | hb
      ·exact ⟨.inl hb.1, fun e => by have := hlo _ e; have := hb.1.2; omega⟩
      ·exact ⟨.inr (by omega), fun e => by have := hlo _ e; omega⟩))
    clear HC hB1 hbf hblk1 hO1 hb2 hbf2 hblk2 hO2 hR9
    go_upto_region 10 with fail
    generalize w2.setCell ⟨wr.heap.size, 2, none⟩ (.slice A9 n9 c9) = W3 at hbf3 hblk3 hB3 hO3 hM3 ⊢
    clear q2 q3 f2
    have f0 : W3.cell? ⟨wr.heap.size, 0, none⟩ = some (.int .i64 d) := hbf3.cell 0
    have f1 : W3.cell? ⟨wr.heap.size, 1, none⟩ = some (.int .i64 x) := hbf3.cell 1
    have f2 : W3.cell? ⟨wr.heap.size, 2, none⟩ = some (.slice A9 n9 c9) := hbf3.cell 2
    have p1 : W3.cell? ⟨w.heap.size + 1 + 1, 1, none⟩ = some (.slice Av nv cv) := hblk3.cell 1
    have hO4 := hO3.alloc elFil_ok (.cells #[.int .i64 d, .int .i64 x, .slice A9 n9 c9] 54)
    have hE4 := elFil_ok _ _ _ _ _ _ (Mv.alloc W3 (.cells #[.int .i64 d, .int .i64 x, .slice A9 n9 c9] 54) _) (elFil_mk (d := d) (v := x) hM3)
    have hB4 := hB3.trans ((below_a1 W3 (.cells #[.int .i64 d, .int .i64 x, .slice A9 n9 c9] 54)).mono (by have := hblk3.lt; omega))
    have hblk4 := hblk3.alloc (.cells #[.int .i64 d, .int .i64 x, .slice A9 n9 c9] 54)
    have hbs : w.heap.size + 1 + 1 + 1 ≤ (W3.alloc (.cells #[.int .i64 d, .int .i64 x, .slice A9 n9 c9] 54)).heap.size := by rw [World.size_alloc]; have := hblk3.lt; omega
    have hlb : Hid (((fewFs F).take k).length ≤ 1000000) := Lib.hid (Nat.le_trans (List.length_take_le k _) (by omega))
    have p2 : (W3.alloc (.cells #[.int .i64 d, .int .i64 x, .slice A9 n9 c9] 54)).cell? ⟨w.heap.size + 1 + 1, 1, none⟩ = some (.slice Av nv cv) := hblk4.cell 1
    clear hO3 hM3 hB3 hbf3
    go_wp2_with (at_builtin; refine wpList_appX elFil_ok rfl _ _ rfl info_filter Try.underlying28 rfl (by decide) (w.heap.size + 1 + 1 + 1) _ _ _ rfl hO4 _ rfl [.int .i64 d, .int .i64 x, .slice A9 n9 c9] rfl (fewFl (d, x, M')) (cell_litD W3 #[.int .i64 d, .int .i64 x, .slice A9 n9 c9] _) (one_fil _ _ _ _ _) hE4 hlb.out hbs ?_)
    intro v' w8 hO8 hG8
    obtain ⟨Aw, nw, cw, rfl⟩ : ∃ A n c, v' = .slice A n c := by
     obtain ⟨A, c, e⟩ := hO8.shape
     exact ⟨A, _, c, e⟩
    have hb8 := hG8.below_ hbs (fun g e => (hO4.lt g e).1)
    have hblk8 := hblk4.below hb8 (by omega)
    have d0 : w8.cell? ⟨w.heap.size + 1 + 1, 1, none⟩ = some (.slice Av nv cv) := hblk8.cell 1
    have d1 := hblk8.free 1
    have hF := Lib.hid (show Below (w.heap.size + 1 + 1) W (w8.setCell ⟨w.heap.size + 1 + 1, 1, none⟩ (.slice Aw nw cw)) ∧ Block (w8.setCell ⟨w.heap.size + 1 + 1, 1, none⟩ (.slice Aw nw cw)) (w.heap.size + 1 + 1) 30 #[.slice A1 N c1, .slice Aw nw cw] ∧ OwnR elFil 54 3 (w8.setCell ⟨w.heap.size + 1 + 1, 1, none⟩ (.slice Aw nw cw)) (w.heap.size + 1 + 1 + 1) (fun b => (S b ∧ b < w.heap.size) ∨ w.heap.size + 1 + 1 < b) (.slice Aw nw cw) ((fewFs F).take (k + 1)) from
     ⟨(hB4.trans (hb8.mono (by omega))).setCell (p := ⟨w.heap.size + 1 + 1, 1, none⟩) (Nat.le_refl _) _, hblk8.set_ 1 _, by
      rw [← HT.out]
      exact hO8.setR elFil_ok (fun e => by have := (hO8.lt _ e).1; omega) (fun h => by rcases h with ⟨_, h⟩ | h <;> omega)⟩)
    clear hO4 hE4 hB4 hblk3 hblk4 hO8 hG8 hb8 hblk8 f0 f1 f2 p1 p2 hlo
    go_wp2_with fail
    go_roundw
    case rel => exact ⟨k + 1, _, by omega, by omega, by go_num, hF.out⟩
    case measure => simp [intOf]; omega
   ·have hall : (fewFs F).take k = fewFs F := by
     refine List.take_of_length_le ?_
     rw [fewFs_len]
     have := HF.out
     omega
    rw [hall] at hO
    obtain ⟨A9, c9, e9, hR9⟩ := hO.read elFil_ok
    injection e9 with e9a e9b e9c
    subst e9a e9c
    rw [← e9b] at hR9
    clear e9b
    have hHQ : HasQ wr (fun b => ((S b ∧ b < w.heap.size) ∨ w.heap.size + 1 + 1 < b) ∧ b < wr.heap.size) A1 N c1 Av nv cv (fewQ (G, F)) := by
     refine ⟨?_, hR9.mv elFil_ok (Mv.to wr fun b hb hl => ⟨by
      rcases hb with hb | hb
      ·exact hb
      ·exact .inr (by omega), hl⟩)⟩
     have hr : Row elInt 1 w (fun b => S b ∧ b < w.heap.size) A1 N c1 (G.take 6) := by
      rw [← HN.out]
      rcases Nat.le_total n1 6 with h | h
      ·rw [Nat.min_eq_left h, List.take_of_length_le (by have := HG.out; omega)]; exact HQ0.out.g
      ·rw [Nat.min_eq_right h]; exact HQ0.out.g.take_ h
     exact hr.mv elInt_ok ((Mv.below (hb0.trans (hB.mono (show w.heap.size ≤ w.heap.size + 1 + 1 by omega))) fun b hb => hb.2).trans (Mv.to _ fun b hb hl => ⟨.inl hb, hl⟩))
    have hbr := HK2.out.below hB (Nat.lt_succ_self _)
    have c0 : wr.cell? ⟨w.heap.size + 1 + 1, 0, none⟩ = some (.slice A1 N c1) := hblk.cell 0
    have c1' : wr.cell? ⟨w.heap.size + 1 + 1, 1, none⟩ = some (.slice Av nv cv) := hblk.cell 1
    have z0 : wr.cell? ⟨w.heap.size + 1, 0, none⟩ = some (.slice none 0 0) := hbr.cell 0
    have z1 : wr.cell? ⟨w.heap.size + 1, 1, none⟩ = some (.slice none 0 0) := hbr.cell 1
    have y0 := hbr.free 0
    have y1 := hbr.free 1
    have HR := Lib.hid ((hbr.set_ 0 (.slice A1 N c1)).set_ 1 (.slice Av nv cv))
    have HB := Lib.hid (((hb0.trans (hB.mono (show w.heap.size ≤ w.heap.size + 1 + 1 by omega))).setCell (p := ⟨w.heap.size + 1, 0, none⟩) (Nat.le_succ _) (.slice A1 N c1)).setCell (p := ⟨w.heap.size + 1, 1, none⟩) (Nat.le_succ _) (.slice Av nv cv))
    have hns : ¬ (((S (w.heap.size + 1) ∧ w.heap.size + 1 < w.heap.size) ∨ w.heap.size + 1 + 1 < w.heap.size + 1) ∧ w.heap.size + 1 < wr.heap.size) := fun h => by
     rcases h.1 with h | h
     ·have := h.2; omega
     ·omega
    have HH := Lib.hid (hHQ.mv (S' := fun b => (S b ∧ b < w.heap.size) ∨ (w.heap.size ≤ b ∧ b < ((wr.setCell ⟨w.heap.size + 1, 0, none⟩ (.slice A1 N c1)).setCell ⟨w.heap.size + 1, 1, none⟩ (.slice Av nv cv)).heap.size)) ((Mv.set wr (w.heap.size + 1) 0 (.slice A1 N c1) hns).trans ((Mv.set _ (w.heap.size + 1) 1 (.slice Av nv cv) hns).trans (Mv.to _ fun b hb hl => by
     rcases hb.1 with hb | hb
     ·exact .inl hb
     ·exact .inr ⟨by omega, hl⟩))))
    clear hHQ hR9 hO hB hblk hbr
    by_cases hlt : k < n2
    ·have i1 : (k : Int) < (n2 : Int) := by omega
     have i2 : decide ((k : Int) < 5) = false := decide_eq_false (by omega)
     clear hgo
     go_wp2_with fail
     refine bodyPost_ret (results_block1 rfl _ _ (w.heap.size + 1) _ _ rfl HR.out Try.underlying30 rfl info_queryS) rfl ?_
     exact ⟨_, _, _, _, _, _, rfl, HH.out, HB.out⟩
    ·have i1 : ¬ (k : Int) < (n2 : Int) := by omega
     clear hgo
     go_wp2_with fail
     refine bodyPost_ret (results_block1 rfl _ _ (w.heap.size + 1) _ _ rfl HR.out Try.underlying30 rfl info_queryS) rfl ?_
     exact ⟨_, _, _, _, _, _, rfl, HH.out, HB.out⟩
end Go.Proofs.Ytmcccpbpijnbmaa
