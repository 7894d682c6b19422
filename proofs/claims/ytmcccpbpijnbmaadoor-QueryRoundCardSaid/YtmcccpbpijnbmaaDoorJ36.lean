/- QryB, QryC, QryO -/
import Derived.Test.YtmcccpbpijnbmaaDoorJ2
import Derived.Test.YtmcccpbpijnbmaaDoorJ10
import Derived.Test.YtmcccpbpijnbmaaDoorJ30
import Derived.Test.YtmcccpbpijnbmaaDoorJ34
import Derived.Test.YtmcccpbpijnbmaaDoorJ35
import Derived.StillTailTactics
namespace Go.Proofs.YtmcccpbpijnbmaaDoor
set_option maxRecDepth 100000
open Go.RowKit

set_option maxHeartbeats 4000000 in
theorem mayBeQ_any {S : Nat → Prop} {A1 A2 B1 B2 B3 : Option Addr} {n1 c1 n2 c2 m1 d1 m2 d2 m3 d3 : Nat} {D : List PDim} {q : Qry} {w : World}
  (hs : HasDs w w.heap.size B1 m1 d1 D) (hq : HasQ w S A1 n1 c1 A2 n2 c2 q) :
  Calls Tryd.prog 35 #[schV B1 m1 d1 B2 m2 d2 B3 m3 d3, qryV A1 n1 c1 A2 n2 c2] w fun e w' => e = .returned (.bool (decide (fitQ D q))) ∧ Below w.heap.size w w' := by
 obtain ⟨G, F⟩ := q
 have hn2 := hq.f.lenMax
 have HI := Lib.hid (fitQ_iff (D := D) (G := G) hq.f.len)
 have HL := Lib.hid (show F.length = n2 from hq.f.len)
 obtain ⟨hb0, hbs, hbl⟩ := boxes2 w 44 32 #[.slice B1 m1 d1, .slice B2 m2 d2, .slice B3 m3 d3] #[.slice A1 n1 c1, .slice A2 n2 c2]
 have h0 := hq.belowS hb0
 have hd0 := hs.belowS hb0
 clear hs hq
 go_enter Tryd.func35, Tryd.ntmps35
 go_wp2_with fail
 generalize (w.alloc (.cells #[.slice B1 m1 d1, .slice B2 m2 d2, .slice B3 m3 d3] 44)).alloc (.cells #[.slice A1 n1 c1, .slice A2 n2 c2] 32) = W at hb0 hbl hbs h0 hd0 ⊢
 have HC := Lib.hid (corner_any (A2 := B2) (n2 := m2) (c2 := d2) (A3 := B3) (n3 := m3) (c3 := d3) hd0 h0.g.hasI)
 have k0 : W.cell? ⟨w.heap.size + 1, 0, none⟩ = some (.slice A1 n1 c1) := hbl.cell 0
 have s0 : W.cell? ⟨w.heap.size, 0, none⟩ = some (.slice B1 m1 d1) := hbs.cell 0
 have s1 : W.cell? ⟨w.heap.size, 1, none⟩ = some (.slice B2 m2 d2) := hbs.cell 1
 have s2 : W.cell? ⟨w.heap.size, 2, none⟩ = some (.slice B3 m3 d3) := hbs.cell 2
 have hz0 := hb0.size
 by_cases hc : cornerP D G
 ·rw [decide_eq_true hc] at HC
  have HCC := Lib.hid hc
  clear hc
  go_wp2_with fail
  refine HC.out.mono ?_
  rintro e w2 ⟨rfl, hb2⟩
  have k1 : w2.cell? ⟨w.heap.size + 1, 1, none⟩ = some (.slice A2 n2 c2) := (hbl.below hb2 hbl.lt).cell 1
  have h1 : Row elFil 3 W (fun b => S b ∧ b < W.heap.size) A2 n2 c2 F := h0.f.mv elFil_ok (Mv.to W fun b hb hl => ⟨hb, hl⟩)
  have HS : ∀ b, (S b ∧ b < W.heap.size) → b < W.heap.size := fun b hb => hb.2
  have HBS := Lib.hid hbs
  clear HC h0 k0 s0 s1 s2 hbl hbs
  by_cases h3 : (3 : Int) < (n2 : Int)
  ·have H : Hid (decide (fitQ D (G, F)) = false) := Lib.hid (by
    rw [decide_eq_false_iff_not, HI.out]
    intro h
    have := h.2.1; omega)
   have hB3 := hb0.trans (hb2.mono hz0)
   go_wp2_with fail
   go_ret
   exact ⟨by rw [H.out]; rfl, hB3⟩
  ·go_wp2_with fail
   clear k1
   go_loopw [21] (fun i wr => ∃ k : Nat, k ≤ n2 ∧ i = .int .i64 k ∧ Hid (∀ f ∈ F.take k, fitFl D f) ∧ Below W.heap.size W wr) (fun i _ => n2 - (intOf i).toNat)
   case atStart => exact ⟨0, Nat.zero_le _, rfl, Lib.hid (fun p hp => by simp at hp), hb2⟩
   case round =>
    obtain ⟨k, hk, rfl, HA, hB⟩ := hrel
    by_cases hlt : k < n2
    ·obtain ⟨b, o, d, v, A', n', c', M', rfl, _, _, g0, g1, g2, hM, he⟩ := (h1.mv elFil_ok (Mv.below hB HS)).atF hlt
     have i0 : (0 : Int) ≤ (k : Int) := by omega
     have i1 : (k : Int) < (n2 : Int) := by omega
     have hbx := below_a1 wr (.cells #[.int .i64 d, .int .i64 v, .slice A' n' c'] 57)
     have hbf := Block.new wr 57 #[.int .i64 d, .int .i64 v, .slice A' n' c']
     have hB1 := hB.trans (hbx.mono hB.size)
     have hM1 := hM.mv elPath_ok (Mv.belowS hbx _)
     have hd1 := (hd0.below hB1 (Nat.le_refl _)).more hB1.size
     have HC := Lib.hid (fits_any (B2 := B2) (m2 := m2) (d2 := d2) (B3 := B3) (m3 := m3) (d3 := d3) (d := d) (v := v) hd1 hM1)
     have hbs1 := HBS.out.below hB1 HBS.out.lt
     have s0 : (wr.alloc (.cells #[.int .i64 d, .int .i64 v, .slice A' n' c'] 57)).cell? ⟨w.heap.size, 0, none⟩ = some (.slice B1 m1 d1) := hbs1.cell 0
     have s1 : (wr.alloc (.cells #[.int .i64 d, .int .i64 v, .slice A' n' c'] 57)).cell? ⟨w.heap.size, 1, none⟩ = some (.slice B2 m2 d2) := hbs1.cell 1
     have s2 : (wr.alloc (.cells #[.int .i64 d, .int .i64 v, .slice A' n' c'] 57)).cell? ⟨w.heap.size, 2, none⟩ = some (.slice B3 m3 d3) := hbs1.cell 2
     clear hB hbx hM hM1 hd1 hbs1
     go_wp2_with fail
     generalize wr.alloc (.cells #[.int .i64 d, .int .i64 v, .slice A' n' c'] 57) = W1 at hB1 hbf HC s0 s1 s2 ⊢
     have k0 : W1.cell? ⟨wr.heap.size, 0, none⟩ = some (.int .i64 d) := hbf.cell 0
     have k1 : W1.cell? ⟨wr.heap.size, 1, none⟩ = some (.int .i64 v) := hbf.cell 1
     have k2 : W1.cell? ⟨wr.heap.size, 2, none⟩ = some (.slice A' n' c') := hbf.cell 2
     clear g0 g1 g2
     by_cases hf : fitFl D (d, v, M')
     ·rw [decide_eq_true hf] at HC
      have HN := Lib.hid (mem_takeX he.out hf HA.out)
      clear hf
      go_wp2_with fail
      refine HC.out.mono ?_
      rintro e w3 ⟨rfl, hb3⟩
      have hB3 := hB1.trans (hb3.mono hB1.size)
      clear HC hB1 hb3 hbf k0 k1 k2 s0 s1 s2
      go_wp2_with fail
      go_roundw
      case rel => exact ⟨k + 1, by omega, by go_num, HN, hB3⟩
      case measure => simp [intOf]; omega
     ·rw [decide_eq_false hf] at HC
      have H : Hid (decide (fitQ D (G, F)) = false) := Lib.hid (by
       rw [decide_eq_false_iff_not, HI.out]
       intro h
       exact hf (h.2.2 _ (List.mem_of_getElem? he.out)))
      clear hf
      go_wp2_with fail
      refine HC.out.mono ?_
      rintro e w3 ⟨rfl, hb3⟩
      have hB3 := hb0.trans ((hB1.trans (hb3.mono hB1.size)).mono hz0)
      clear HC hB1 hb3 hbf k0 k1 k2 s0 s1 s2
      go_wp2_with fail
      go_ret
      exact ⟨by rw [H.out]; rfl, hB3⟩
    ·have H : Hid (decide (fitQ D (G, F)) = true) := Lib.hid (by
      have h3 := HA.out
      rw [List.take_of_length_le (by have := HL.out; omega)] at h3
      rw [decide_eq_true_iff, HI.out]
      exact ⟨HCC.out, by omega, h3⟩)
     have hB3 := hb0.trans (hB.mono hz0)
     go_wp2_with fail
     go_ret
     exact ⟨by rw [H.out]; rfl, hB3⟩
 ·rw [decide_eq_false hc] at HC
  have H : Hid (decide (fitQ D (G, F)) = false) := Lib.hid (by
   rw [decide_eq_false_iff_not, HI.out]
   exact fun h => hc h.1)
  clear hc
  go_wp2_with fail
  refine HC.out.mono ?_
  rintro e w2 ⟨rfl, hb2⟩
  have hB3 := hb0.trans (hb2.mono hz0)
  clear HC k0 s0 s1 s2
  go_wp2_with fail
  go_ret
  exact ⟨by rw [H.out]; rfl, hB3⟩
set_option maxHeartbeats 2000000 in
theorem mayQry_any {S : Nat → Prop} {A1 A2 B1 B2 B3 : Option Addr} {n1 c1 n2 c2 m1 d1 m2 d2 m3 d3 : Nat} {D : List PDim} {M : List Txt} {V : List (List Int)} {q : Qry} {w : World}
  (hs : HasS w w.heap.size B1 m1 d1 B2 m2 d2 B3 m3 d3 D M V) (hf : FitD D) (hm : ∀ s ∈ M, s.length ≤ maxLen) (hn1 : m1 ≤ 1000) (hq : HasQ w S A1 n1 c1 A2 n2 c2 q) :
  Calls Tryd.prog 16 #[schV B1 m1 d1 B2 m2 d2 B3 m3 d3, qryV A1 n1 c1 A2 n2 c2] w fun e w' => e = .returned (.int .i64 (mayQ D M V q : Nat)) ∧ Below w.heap.size w w' := by
 obtain ⟨hb0, hbs, hbl⟩ := boxes2 w 44 32 #[.slice B1 m1 d1, .slice B2 m2 d2, .slice B3 m3 d3] #[.slice A1 n1 c1, .slice A2 n2 c2]
 have h0 := hq.belowS hb0
 have hs0 := hs.belowS hb0
 have HC := Lib.hid (maySchema_any hs0 hf hm hn1)
 clear hs hq hf hm
 go_enter Tryd.func16, Tryd.ntmps16
 go_wp2_with fail
 generalize (w.alloc (.cells #[.slice B1 m1 d1, .slice B2 m2 d2, .slice B3 m3 d3] 44)).alloc (.cells #[.slice A1 n1 c1, .slice A2 n2 c2] 32) = W at hb0 hbl hbs h0 hs0 HC ⊢
 have s0 : W.cell? ⟨w.heap.size, 0, none⟩ = some (.slice B1 m1 d1) := hbs.cell 0
 have s1 : W.cell? ⟨w.heap.size, 1, none⟩ = some (.slice B2 m2 d2) := hbs.cell 1
 have s2 : W.cell? ⟨w.heap.size, 2, none⟩ = some (.slice B3 m3 d3) := hbs.cell 2
 have hz0 := hb0.size
 by_cases hm : mayS D M V
 ·rw [decide_eq_true hm] at HC
  have HM := Lib.hid hm
  clear hm
  go_wp2_with fail
  refine HC.out.mono ?_
  rintro e w2 ⟨rfl, hb2⟩
  have hbs2 := hbs.below hb2 hbs.lt
  have hbl2 := hbl.below hb2 hbl.lt
  have hB2 := hb0.trans (hb2.mono hz0)
  have HC2 := Lib.hid (mayBeQ_any (B2 := B2) (m2 := m2) (d2 := d2) (B3 := B3) (m3 := m3) (d3 := d3) (hs0.belowS hb2).d (h0.belowS hb2))
  clear HC s0 s1 s2 hbs hbl hs0 h0 hb2
  have s0 : w2.cell? ⟨w.heap.size, 0, none⟩ = some (.slice B1 m1 d1) := hbs2.cell 0
  have s1 : w2.cell? ⟨w.heap.size, 1, none⟩ = some (.slice B2 m2 d2) := hbs2.cell 1
  have s2 : w2.cell? ⟨w.heap.size, 2, none⟩ = some (.slice B3 m3 d3) := hbs2.cell 2
  have k0 : w2.cell? ⟨w.heap.size + 1, 0, none⟩ = some (.slice A1 n1 c1) := hbl2.cell 0
  have k1 : w2.cell? ⟨w.heap.size + 1, 1, none⟩ = some (.slice A2 n2 c2) := hbl2.cell 1
  by_cases hf : fitQ D q
  ·rw [decide_eq_true hf] at HC2
   have H := Lib.hid (mayQ_y HM.out hf)
   clear hf
   go_wp2_with fail
   refine HC2.out.mono ?_
   rintro e w3 ⟨rfl, hb3⟩
   have hB3 := hB2.trans (hb3.mono hB2.size)
   clear HC2 s0 s1 s2 k0 k1
   go_wp2_with fail
   go_ret
   exact ⟨by rw [H.out]; rfl, hB3⟩
  ·rw [decide_eq_false hf] at HC2
   have H := Lib.hid (mayQ_f HM.out hf)
   clear hf
   go_wp2_with fail
   refine HC2.out.mono ?_
   rintro e w3 ⟨rfl, hb3⟩
   have hB3 := hB2.trans (hb3.mono hB2.size)
   clear HC2 s0 s1 s2 k0 k1
   go_wp2_with fail
   go_ret
   exact ⟨by rw [H.out]; rfl, hB3⟩
 ·rw [decide_eq_false hm] at HC
  have H := Lib.hid (mayQ_s (q := q) hm)
  clear hm
  go_wp2_with fail
  refine HC.out.mono ?_
  rintro e w2 ⟨rfl, hb2⟩
  have hB2 := hb0.trans (hb2.mono hz0)
  clear HC s0 s1 s2
  go_wp2_with fail
  go_ret
  exact ⟨by rw [H.out]; rfl, hB2⟩
end Go.Proofs.YtmcccpbpijnbmaaDoor
namespace Go.Proofs.YtmcccpbpijnbmaaDoor
set_option maxRecDepth 100000
open Go.RowKit

def TellN (w : World) (x : Nat) (l : List Int) (e : Ending) (w' : World) : Prop := ∃ v, e = .returned (.tuple #[v, .int .i64 x]) ∧ OwnI w' w.heap.size v l ∧ Below w.heap.size w w'
set_option maxHeartbeats 4000000 in
theorem need_any {S : Nat → Prop} {A1 A2 B1 B2 B3 : Option Addr} {n1 c1 n2 c2 m1 d1 m2 d2 m3 d3 : Nat} {D : List PDim} {M : List Txt} {V : List (List Int)} {q : Qry} {w : World}
  (hs : HasS w w.heap.size B1 m1 d1 B2 m2 d2 B3 m3 d3 D M V) (hf : FitD D) (hm : ∀ s ∈ M, s.length ≤ maxLen) (hn1 : m1 ≤ 1000) (hq : HasQ w S A1 n1 c1 A2 n2 c2 q) :
  Calls Tryd.prog 27 #[schV B1 m1 d1 B2 m2 d2 B3 m3 d3, qryV A1 n1 c1 A2 n2 c2] w (TellN w (mayQ D M V q) (needA D M V q)) := by
 obtain ⟨hb0, hbs, hbl⟩ := boxes2 w 44 32 #[.slice B1 m1 d1, .slice B2 m2 d2, .slice B3 m3 d3] #[.slice A1 n1 c1, .slice A2 n2 c2]
 have h0 := hq.belowS hb0
 have hs0 := hs.belowS hb0
 have HC := Lib.hid (mayQry_any hs0 hf hm hn1 h0)
 have HLD := Lib.hid hs.d.len
 clear hs hq hf hm hs0
 obtain ⟨x, hx⟩ : ∃ x, Hid (mayQ D M V q = x) := ⟨_, Lib.hid rfl⟩
 rw [hx.out] at HC ⊢
 go_enter Tryd.func27, Tryd.ntmps27
 go_wp2_with fail
 generalize (w.alloc (.cells #[.slice B1 m1 d1, .slice B2 m2 d2, .slice B3 m3 d3] 44)).alloc (.cells #[.slice A1 n1 c1, .slice A2 n2 c2] 32) = W at hb0 hbl hbs h0 HC ⊢
 have s0 : W.cell? ⟨w.heap.size, 0, none⟩ = some (.slice B1 m1 d1) := hbs.cell 0
 have s1 : W.cell? ⟨w.heap.size, 1, none⟩ = some (.slice B2 m2 d2) := hbs.cell 1
 have s2 : W.cell? ⟨w.heap.size, 2, none⟩ = some (.slice B3 m3 d3) := hbs.cell 2
 have k0 : W.cell? ⟨w.heap.size + 1, 0, none⟩ = some (.slice A1 n1 c1) := hbl.cell 0
 have k1 : W.cell? ⟨w.heap.size + 1, 1, none⟩ = some (.slice A2 n2 c2) := hbl.cell 1
 have hz0 := hb0.size
 by_cases hx0 : x = 0
 ·subst hx0
  have HN : Hid (needA D M V q = needQ q) := Lib.hid (if_pos hx.out)
  obtain ⟨_, HF0, HP0⟩ := mayQ_plain hx.out
  have HF := Lib.hid HF0
  have hn13 : n1 ≤ 3 := by have := HP0.1; have := h0.g.len; omega
  clear HF0 HP0
  obtain ⟨G, F⟩ := q
  have HLG := Lib.hid (show G.length = n1 from h0.g.len)
  have HL := Lib.hid (show F.length = n2 from h0.f.len)
  have hn2 := h0.f.lenMax
  go_wp2_with fail
  refine HC.out.mono ?_
  rintro e w2 ⟨rfl, hb2⟩
  have hB2 := hb0.trans (hb2.mono hz0)
  have hbl2 := hbl.below hb2 hbl.lt
  have h2 := h0.belowS hb2
  have HCl := Lib.hid (cloneI_any (h2.g.hasI) (by omega))
  clear HC s0 s1 s2 k0 k1 hbl hbs h0 hb2
  have k0 : w2.cell? ⟨w.heap.size + 1, 0, none⟩ = some (.slice A1 n1 c1) := hbl2.cell 0
  go_wp2_with fail
  refine HCl.out.mono ?_
  rintro e w3 ⟨⟨v3, rfl, hO3⟩, hb3⟩
  have hB3 := hB2.trans (hb3.mono hB2.size)
  have hbl3 := hbl2.below hb3 hbl2.lt
  have k1 : w3.cell? ⟨w.heap.size + 1, 1, none⟩ = some (.slice A2 n2 c2) := hbl3.cell 1
  have h3 : Row elFil 3 w3 (fun b => S b ∧ b < w2.heap.size) A2 n2 c2 F := h2.f.mv elFil_ok (fun b hb hl => ⟨hb3.block b hl, hb, hl⟩)
  have HS : ∀ b, (S b ∧ b < w2.heap.size) → b < w2.heap.size := fun b hb => hb.2
  have HW2 := Lib.hid hB2.size
  have HO3 := Lib.hid (show OwnI w3 w2.heap.size v3 (needQ (G, F.take 0)) by rw [List.take_zero, needQ_nil]; exact hO3)
  have HB3 := Lib.hid hb3
  clear HCl h2 k0 hb3 hO3 hbl2 hbl3
  go_wp2_with fail
  clear k1
  go_loopw [22] (fun i wr => ∃ k : Nat, k ≤ n2 ∧ i = .int .i64 k ∧ OwnI wr w2.heap.size v3 (needQ (G, F.take k)) ∧ Below w2.heap.size w2 wr) (fun i _ => n2 - (intOf i).toNat)
  case atStart => exact ⟨0, Nat.zero_le _, rfl, HO3.out, HB3.out⟩
  case round =>
   obtain ⟨k, hk, rfl, hO, hB⟩ := hrel
   by_cases hlt : k < n2
   ·obtain ⟨b, o, d, v, A', n', c', M', rfl, _, _, g0, g1, g2, _, he⟩ := (h3.mv (w' := wr) (S' := fun b => S b ∧ b < w2.heap.size) elFil_ok (fun b hb _ => ⟨by rw [hB.block b hb.2, HB3.out.block b hb.2], hb⟩)).atF hlt
    have hfit := HF.out.2.2 _ (List.mem_of_getElem? he.out)
    have hcl := HF.out.1.1
    obtain ⟨m, rfl⟩ : ∃ m : Nat, d = (m : Int) := ⟨d.toNat, by have := hfit.1.1; simp only at this; omega⟩
    have hmn : m < n1 := by
     have h1 := hfit.1.2
     have h2 := HLG.out
     simp only at h1 hcl
     omega
    have hlen : (needQ (G, F.take k)).length = n1 := by rw [needQ_len]; exact HLG.out
    have HLE := Lib.hid hlen
    have HT := Lib.hid (need_set (G := G) he.out)
    obtain ⟨gb, cap, rfl, hgb, hgl⟩ : ∃ g cap, v3 = .slice (some ⟨g, 0, none⟩) n1 cap ∧ w2.heap.size ≤ g ∧ g < wr.heap.size := by
     obtain ⟨g, cap, e, h1, h2, _⟩ := hO.formP (by omega)
     exact ⟨g, cap, by rw [e, hlen], h1, h2⟩
    have q0 := hO.cell_ m (by omega)
    have q1 := hO.free m
    obtain ⟨y, hy⟩ : ∃ y, Hid ((needQ (G, F.take k)).getD m 0 = y) := ⟨_, Lib.hid rfl⟩
    rw [hy.out] at q0 HT
    have i0 : (0 : Int) ≤ (k : Int) := by omega
    have i1 : (k : Int) < (n2 : Int) := by omega
    have i2 : (0 : Int) ≤ (m : Int) := by omega
    have i3 : (m : Int) < (n1 : Int) := by omega
    clear hfit hcl hlen
    have hbx := below_a1 wr (.cells #[.int .i64 m, .int .i64 v, .slice A' n' c'] 57)
    have hbf := Block.new wr 57 #[.int .i64 m, .int .i64 v, .slice A' n' c']
    have hO1 := hO.below hbx (Nat.le_refl _)
    have hB1 := hB.trans (hbx.mono hB.size)
    have p0 : (wr.alloc (.cells #[.int .i64 m, .int .i64 v, .slice A' n' c'] 57)).cell? ⟨gb, m, none⟩ = some (.int .i64 y) := (hbx.cell (p := ⟨gb, m, none⟩) hgl).trans q0
    have p1 := hO1.free m
    clear hO hB hbx q0 q1
    go_wp2_with fail
    generalize wr.alloc (.cells #[.int .i64 m, .int .i64 v, .slice A' n' c'] 57) = W1 at hB1 hbf hO1 p0 p1 ⊢
    have f0 : W1.cell? ⟨wr.heap.size, 0, none⟩ = some (.int .i64 m) := hbf.cell 0
    have f1 : W1.cell? ⟨wr.heap.size, 1, none⟩ = some (.int .i64 v) := hbf.cell 1
    clear g0 g1 g2
    go_still_tail 12, (by kernel_rfl)
    change wpList _ _ _ _ _ W1.drew
    have hF := Lib.hid (show OwnI (W1.drew.setCell ⟨gb, m, none⟩ (.int .i64 (max y v))) w2.heap.size (.slice (some ⟨gb, 0, none⟩) n1 cap) (needQ (G, F.take (k + 1))) ∧ Below w2.heap.size w2 (W1.drew.setCell ⟨gb, m, none⟩ (.int .i64 (max y v))) from ⟨by
     rw [← HT.out]
     exact (hO1.drewN 1).set_ m (max y v), (hB1.drew).setCell (p := ⟨gb, m, none⟩) hgb _⟩)
    go_wp2_with fail
    go_roundw
    case rel => exact ⟨k + 1, by omega, by go_num, hF.out⟩
    case measure => simp [intOf]; omega
   ·have hO2 : OwnI wr w.heap.size v3 (needA D M V (G, F)) := by
     rw [HN.out]
     rw [List.take_of_length_le (by have := HL.out; omega)] at hO
     exact hO.low HW2.out
    have HO := Lib.hid hO2
    have hB3 := hB2.trans (hB.mono HW2.out)
    clear hO hO2
    go_wp2_with fail
    go_ret2
    exact ⟨_, rfl, HO.out, hB3⟩
 ·have hx1 : ((x : Int) != 0) = true := by simp; omega
  have HN : Hid (needA D M V q = []) := Lib.hid (if_neg (by rw [hx.out]; exact hx0))
  clear hx0
  go_wp2_with fail
  refine HC.out.mono ?_
  rintro e w2 ⟨rfl, hb2⟩
  have hB2 := hb0.trans (hb2.mono hz0)
  clear HC s0 s1 s2 k0 k1
  go_wp2_with fail
  go_ret2
  exact ⟨_, rfl, by rw [HN.out]; exact OwnI.nil_ _ _, hB2⟩
end Go.Proofs.YtmcccpbpijnbmaaDoor
namespace Go.Proofs.YtmcccpbpijnbmaaDoor
set_option maxRecDepth 100000
open Go.RowKit

def LqD : List PDim := [([97], [[108], [109]]), ([98], [[108], [109]])]
def LqM : List Txt := [[118]]
def LqQ : Qry := ([1, 0], [(1, 2, [[[97], [120]]])])
theorem lq_may : mayQ LqD LqM [] LqQ = 0 := by decide +kernel
theorem lq_need : needA LqD LqM [] LqQ = [1, 2] := by decide +kernel
theorem lq_key : keyQ LqQ [[[98], [99]], [[97], [120]]] = [[[98]], []] := by decide +kernel
theorem lq_pass : decide (passQ [[[98], [99]], [[97], [120]]] LqQ) = true := by decide +kernel
theorem lq_not : decide (passQ [[[98], [99]], [[97], [121]]] LqQ) = false := by decide +kernel
theorem lq_fit : FitD LqD := by
 intro d hd
 simp only [LqD, List.mem_cons, List.not_mem_nil, or_false] at hd
 rcases hd with rfl | rfl
 all_goals
  refine ⟨by decide, fun s hs => ?_⟩
  simp only [List.mem_cons, List.not_mem_nil, or_false] at hs
  rcases hs with rfl | rfl <;> decide
theorem lq_m : ∀ s ∈ LqM, s.length ≤ maxLen := by
 intro s hs
 rw [List.mem_singleton.1 hs]; decide
def LqS (w : World) : World := (((w.alloc (.cells #[.string ⟨#[108]⟩, .string ⟨#[109]⟩] 9)).alloc (.cells #[.string ⟨#[97]⟩, .slice (some ⟨w.heap.size, 0, none⟩) 2 2, .string ⟨#[98]⟩, .slice (some ⟨w.heap.size, 0, none⟩) 2 2] 65)).alloc (.cells #[.string ⟨#[118]⟩] 9)).alloc (.cells #[.slice (some ⟨w.heap.size + 1, 0, none⟩) 2 2, .slice (some ⟨w.heap.size + 1 + 1, 0, none⟩) 1 1, .slice none 0 0] 44)
theorem LqS_size (w : World) : (LqS w).heap.size = w.heap.size + 1 + 1 + 1 + 1 := by simp [LqS]
theorem LqS_below (w : World) : Below w.heap.size w (LqS w) := below_then (below_then (below_then (below_a1 w _) (below_a1 _ _)) (below_a1 _ _)) (below_a1 _ _)
theorem LqS_block (w : World) : Block (LqS w) (w.heap.size + 1 + 1 + 1) 44 #[.slice (some ⟨w.heap.size + 1, 0, none⟩) 2 2, .slice (some ⟨w.heap.size + 1 + 1, 0, none⟩) 1 1, .slice none 0 0] := by
 have h := Block.new (((w.alloc (.cells #[.string ⟨#[108]⟩, .string ⟨#[109]⟩] 9)).alloc (.cells #[.string ⟨#[97]⟩, .slice (some ⟨w.heap.size, 0, none⟩) 2 2, .string ⟨#[98]⟩, .slice (some ⟨w.heap.size, 0, none⟩) 2 2] 65)).alloc (.cells #[.string ⟨#[118]⟩] 9)) 44 #[.slice (some ⟨w.heap.size + 1, 0, none⟩) 2 2, .slice (some ⟨w.heap.size + 1 + 1, 0, none⟩) 1 1, .slice none 0 0]
 rwa [show (((w.alloc (.cells #[.string ⟨#[108]⟩, .string ⟨#[109]⟩] 9)).alloc (.cells #[.string ⟨#[97]⟩, .slice (some ⟨w.heap.size, 0, none⟩) 2 2, .string ⟨#[98]⟩, .slice (some ⟨w.heap.size, 0, none⟩) 2 2] 65)).alloc (.cells #[.string ⟨#[118]⟩] 9)).heap.size = w.heap.size + 1 + 1 + 1 by simp] at h
theorem LqS_has (w : World) : HasS (LqS w) (LqS w).heap.size (some ⟨w.heap.size + 1, 0, none⟩) 2 2 (some ⟨w.heap.size + 1 + 1, 0, none⟩) 1 1 none 0 0 LqD LqM [] := by
 have a0 := HasT.litAt w [[108], [109]] #[.string ⟨#[108]⟩, .string ⟨#[109]⟩] rfl 9 2 rfl (by decide) w.heap.size rfl
 have hb := Block.new (w.alloc (.cells #[.string ⟨#[108]⟩, .string ⟨#[109]⟩] 9)) 65 #[.string ⟨#[97]⟩, .slice (some ⟨w.heap.size, 0, none⟩) 2 2, .string ⟨#[98]⟩, .slice (some ⟨w.heap.size, 0, none⟩) 2 2]
 rw [show (w.alloc (.cells #[.string ⟨#[108]⟩, .string ⟨#[109]⟩] 9)).heap.size = w.heap.size + 1 by simp] at hb
 have a1 := a0.allocS (.cells #[.string ⟨#[97]⟩, .slice (some ⟨w.heap.size, 0, none⟩) 2 2, .string ⟨#[98]⟩, .slice (some ⟨w.heap.size, 0, none⟩) 2 2] 65)
 have z2 : ((w.alloc (.cells #[.string ⟨#[108]⟩, .string ⟨#[109]⟩] 9)).alloc (.cells #[.string ⟨#[97]⟩, .slice (some ⟨w.heap.size, 0, none⟩) 2 2, .string ⟨#[98]⟩, .slice (some ⟨w.heap.size, 0, none⟩) 2 2] 65)).heap.size = w.heap.size + 1 + 1 := by simp
 unfold LqS
 generalize (w.alloc (.cells #[.string ⟨#[108]⟩, .string ⟨#[109]⟩] 9)).alloc (.cells #[.string ⟨#[97]⟩, .slice (some ⟨w.heap.size, 0, none⟩) 2 2, .string ⟨#[98]⟩, .slice (some ⟨w.heap.size, 0, none⟩) 2 2] 65) = W at hb a1 z2 ⊢
 have hD : HasDs W W.heap.size (some ⟨w.heap.size + 1, 0, none⟩) 2 2 LqD :=
  ⟨rfl, Nat.le_refl _, by unfold maxLen; omega, (fun h => by cases h), fun i hi => by
   match i, hi with
   | 0, _ => exact ⟨w.heap.size + 1, 0, _, _, _, rfl, hb.lt, hb.cell 0, hb.cell 1, a1⟩
   | 1, _ => exact ⟨w.heap.size + 1, 0, _, _, _, rfl, hb.lt, hb.cell 2, hb.cell 3, a1⟩⟩
 have hm := HasT.litAt W [[118]] #[.string ⟨#[118]⟩] rfl 9 1 rfl (by decide) (w.heap.size + 1 + 1) z2.symm
 exact ⟨(hD.belowS (below_a1 _ _)).belowS (below_a1 _ _), hm.allocS _, ⟨rfl, Nat.le_refl _, Nat.zero_le _, fun _ => rfl, fun i hi => absurd hi (by omega)⟩⟩
def LqF (w : World) (g : Nat) : World := ((((w.alloc (.cells #[.int .i64 1, .int .i64 0] 3)).alloc (.cells #[.string ⟨#[97]⟩, .string ⟨#[120]⟩] 9)).alloc (.cells #[.slice (some ⟨g + 1, 0, none⟩) 2 2] 41)).alloc (.cells #[.int .i64 1, .int .i64 2, .slice (some ⟨g + 1 + 1, 0, none⟩) 1 1] 57)).alloc (.cells #[.slice (some ⟨g, 0, none⟩) 2 2, .slice (some ⟨g + 1 + 1 + 1, 0, none⟩) 1 1] 32)
theorem LqF_below (w : World) (g : Nat) : Below w.heap.size w (LqF w g) := below_then (below_then (below_then (below_then (below_a1 w _) (below_a1 _ _)) (below_a1 _ _)) (below_a1 _ _)) (below_a1 _ _)
theorem LqF_has (w : World) (g : Nat) (hg : g = w.heap.size) : HasQ (LqF w g) (fun b => g ≤ b) (some ⟨g, 0, none⟩) 2 2 (some ⟨g + 1 + 1 + 1, 0, none⟩) 1 1 LqQ ∧ Block (LqF w g) (g + 1 + 1 + 1 + 1) 32 #[.slice (some ⟨g, 0, none⟩) 2 2, .slice (some ⟨g + 1 + 1 + 1, 0, none⟩) 1 1] := by
 have a0 := Row.litS (S := fun b => g ≤ b) (E := elInt) (sz := 1) elInt_ok w #[.int .i64 1, .int .i64 0] 3 2 [1, 0] rfl rfl (by decide) g hg (Nat.le_refl _) (fun i x hi => by
  match i, hi with
  | 0, hi => simp at hi; subst hi; rfl
  | 1, hi => simp at hi; subst hi; rfl
  | i + 2, hi => simp at hi)
 have z1 : (w.alloc (.cells #[.int .i64 1, .int .i64 0] 3)).heap.size = g + 1 := by rw [World.size_alloc, hg]
 unfold LqF
 generalize w.alloc (.cells #[.int .i64 1, .int .i64 0] 3) = w1 at a0 z1 ⊢
 have a1 := Row.litS (S := fun b => g ≤ b) (E := elText) (sz := 1) elText_ok w1 #[.string ⟨#[97]⟩, .string ⟨#[120]⟩] 9 2 [[97], [120]] rfl rfl (by decide) (g + 1) z1.symm (by omega) (fun i x hi => by
  match i, hi with
  | 0, hi => simp at hi; subst hi; rfl
  | 1, hi => simp at hi; subst hi; rfl
  | i + 2, hi => simp at hi)
 have m0 := a0.mv elInt_ok (Mv.alloc w1 (.cells #[.string ⟨#[97]⟩, .string ⟨#[120]⟩] 9) _)
 have z2 : (w1.alloc (.cells #[.string ⟨#[97]⟩, .string ⟨#[120]⟩] 9)).heap.size = g + 1 + 1 := by rw [World.size_alloc, z1]
 generalize w1.alloc (.cells #[.string ⟨#[97]⟩, .string ⟨#[120]⟩] 9) = w2 at a1 m0 z2 ⊢
 have a2 := Row.litS (S := fun b => g ≤ b) (E := elRow elText 1) (sz := 1) elPath_ok w2 #[.slice (some ⟨g + 1, 0, none⟩) 2 2] 41 1 [[[97], [120]]] rfl rfl (by decide) (g + 1 + 1) z2.symm (by omega) (fun i x hi => by
  match i, hi with
  | 0, hi => simp at hi; subst hi; exact ⟨_, _, _, rfl, a1⟩
  | i + 1, hi => simp at hi)
 have m1 := m0.mv elInt_ok (Mv.alloc w2 (.cells #[.slice (some ⟨g + 1, 0, none⟩) 2 2] 41) _)
 have z3 : (w2.alloc (.cells #[.slice (some ⟨g + 1, 0, none⟩) 2 2] 41)).heap.size = g + 1 + 1 + 1 := by rw [World.size_alloc, z2]
 generalize w2.alloc (.cells #[.slice (some ⟨g + 1, 0, none⟩) 2 2] 41) = w3 at a2 m1 z3 ⊢
 have a3 := Row.litS (S := fun b => g ≤ b) (E := elFil) (sz := 3) elFil_ok w3 #[.int .i64 1, .int .i64 2, .slice (some ⟨g + 1 + 1, 0, none⟩) 1 1] 57 1 [(1, 2, [[[97], [120]]])] rfl rfl (by decide) (g + 1 + 1 + 1) z3.symm (by omega) (fun i x hi => by
  match i, hi with
  | 0, hi => simp at hi; subst hi; exact elFil_mk a2
  | i + 1, hi => simp at hi)
 have m2 := m1.mv elInt_ok (Mv.alloc w3 (.cells #[.int .i64 1, .int .i64 2, .slice (some ⟨g + 1 + 1, 0, none⟩) 1 1] 57) _)
 have z4 : (w3.alloc (.cells #[.int .i64 1, .int .i64 2, .slice (some ⟨g + 1 + 1, 0, none⟩) 1 1] 57)).heap.size = g + 1 + 1 + 1 + 1 := by rw [World.size_alloc, z3]
 generalize w3.alloc (.cells #[.int .i64 1, .int .i64 2, .slice (some ⟨g + 1 + 1, 0, none⟩) 1 1] 57) = w4 at a3 m2 z4 ⊢
 have hB := Block.new w4 32 #[.slice (some ⟨g, 0, none⟩) 2 2, .slice (some ⟨g + 1 + 1 + 1, 0, none⟩) 1 1]
 rw [z4] at hB
 exact ⟨⟨m2.mv elInt_ok (Mv.alloc w4 _ _), a3.mv elFil_ok (Mv.alloc w4 _ _)⟩, hB⟩
def LqP (w : World) (g : Nat) (x y u v : Array UInt8) : World := ((w.alloc (.cells #[.string ⟨x⟩, .string ⟨y⟩] 9)).alloc (.cells #[.string ⟨u⟩, .string ⟨v⟩] 9)).alloc (.cells #[.slice (some ⟨g, 0, none⟩) 2 2, .slice (some ⟨g + 1, 0, none⟩) 2 2] 41)
theorem LqP_below (w : World) (g : Nat) (x y u v : Array UInt8) : Below w.heap.size w (LqP w g x y u v) := below_then (below_then (below_a1 w _) (below_a1 _ _)) (below_a1 _ _)
theorem LqP_has (w : World) (g : Nat) (hg : g = w.heap.size) (x y u v : Txt) : Row (elRow elText 1) 1 (LqP w g x.toArray y.toArray u.toArray v.toArray) (fun b => g ≤ b) (some ⟨g + 1 + 1, 0, none⟩) 2 2 [[x, y], [u, v]] := by
 have a0 := Row.litS (S := fun b => g ≤ b) (E := elText) (sz := 1) elText_ok w #[.string ⟨x.toArray⟩, .string ⟨y.toArray⟩] 9 2 [x, y] rfl rfl (by decide) g hg (Nat.le_refl _) (fun i z hi => by
  match i, hi with
  | 0, hi => simp at hi; subst hi; rfl
  | 1, hi => simp at hi; subst hi; rfl
  | i + 2, hi => simp at hi)
 have z1 : (w.alloc (.cells #[.string ⟨x.toArray⟩, .string ⟨y.toArray⟩] 9)).heap.size = g + 1 := by rw [World.size_alloc, hg]
 unfold LqP
 generalize w.alloc (.cells #[.string ⟨x.toArray⟩, .string ⟨y.toArray⟩] 9) = w1 at a0 z1 ⊢
 have a1 := Row.litS (S := fun b => g ≤ b) (E := elText) (sz := 1) elText_ok w1 #[.string ⟨u.toArray⟩, .string ⟨v.toArray⟩] 9 2 [u, v] rfl rfl (by decide) (g + 1) z1.symm (by omega) (fun i z hi => by
  match i, hi with
  | 0, hi => simp at hi; subst hi; rfl
  | 1, hi => simp at hi; subst hi; rfl
  | i + 2, hi => simp at hi)
 have m0 := a0.mv elText_ok (Mv.alloc w1 (.cells #[.string ⟨u.toArray⟩, .string ⟨v.toArray⟩] 9) _)
 have z2 : (w1.alloc (.cells #[.string ⟨u.toArray⟩, .string ⟨v.toArray⟩] 9)).heap.size = g + 1 + 1 := by rw [World.size_alloc, z1]
 generalize w1.alloc (.cells #[.string ⟨u.toArray⟩, .string ⟨v.toArray⟩] 9) = w2 at a1 m0 z2 ⊢
 exact Row.litS (S := fun b => g ≤ b) (E := elRow elText 1) (sz := 1) elPath_ok w2 #[.slice (some ⟨g, 0, none⟩) 2 2, .slice (some ⟨g + 1, 0, none⟩) 2 2] 41 2 [[x, y], [u, v]] rfl rfl (by decide) (g + 1 + 1) z2.symm (by omega) (fun i z hi => by
  match i, hi with
  | 0, hi => simp at hi; subst hi; exact ⟨_, _, _, rfl, m0⟩
  | 1, hi => simp at hi; subst hi; exact ⟨_, _, _, rfl, a1⟩
  | i + 2, hi => simp at hi)
set_option maxHeartbeats 4000000 in
theorem qryLives_any (w : World) : Calls Tryd.prog 12 #[] w fun e w' => e = .returned (.bool true) ∧ Below w.heap.size w w' := by
 have hB0 := LqS_below w
 have hS0 := LqS_has w
 have hK0 := LqS_block w
 have hz0 := LqS_size w
 have hB1 := LqF_below (LqS w) (w.heap.size + 1 + 1 + 1 + 1)
 obtain ⟨hQ1, hL1⟩ := LqF_has (LqS w) (w.heap.size + 1 + 1 + 1 + 1) hz0.symm
 have hS1 := hS0.belowS hB1
 have hK1 := hK0.below hB1 (by rw [hz0]; omega)
 have HB1 := Lib.hid (below_then hB0 hB1)
 have HN := Lib.hid (need_any hS1 lq_fit lq_m (by decide) hQ1)
 rw [lq_may, lq_need] at HN
 clear hS0 hK0 hz0 hB0 hB1
 go_enter Tryd.func12, Tryd.ntmps12
 go_wp2_with fail
 refine HN.out.mono ?_
 rintro e w2 ⟨v2, rfl, hO2, hb2⟩
 obtain ⟨gn, cn, rfl, _, hgn, _⟩ := hO2.formP (by decide)
 have hn0 := hO2.cell_ 0 (by decide)
 have hn1 := hO2.cell_ 1 (by decide)
 have hS2 := hS1.belowS hb2
 have hQ2 := hQ1.belowS hb2
 have hK2 := hK1.below hb2 hK1.lt
 have hL2 := hL1.below hb2 hL1.lt
 have HB2 := Lib.hid (below_then HB1.out hb2)
 have q0 : w2.cell? ⟨w.heap.size + 1 + 1 + 1 + 1 + 1 + 1 + 1 + 1, 0, none⟩ = some (.slice (some ⟨w.heap.size + 1 + 1 + 1 + 1, 0, none⟩) 2 2) := hL2.cell 0
 have q1 : w2.cell? ⟨w.heap.size + 1 + 1 + 1 + 1 + 1 + 1 + 1 + 1, 1, none⟩ = some (.slice (some ⟨w.heap.size + 1 + 1 + 1 + 1 + 1 + 1 + 1, 0, none⟩) 1 1) := hL2.cell 1
 have hbP := LqP_below w2 w2.heap.size #[98] #[99] #[97] #[120]
 have hP2 := LqP_has w2 w2.heap.size rfl [98] [99] [97] [120]
 have HKy := Lib.hid (key_any (hQ2.belowS hbP) hP2 (by decide) (fun p hp => by simp only [List.mem_cons, List.not_mem_nil, or_false] at hp; rcases hp with rfl | rfl <;> decide))
 rw [lq_key] at HKy
 clear HN hS1 hQ1 hK1 hL1 hb2 hO2
 go_wp2_with fail
 refine HKy.out.mono ?_
 rintro e w3 ⟨v3, rfl, hO3, hb3⟩
 have hb3' := below_then hbP hb3
 have hS3 := hS2.belowS hb3'
 have hQ3 := hQ2.belowS hb3'
 have hK3 := hK2.below hb3' hK2.lt
 have hL3 := hL2.below hb3' hL2.lt
 have HB3 := Lib.hid (below_then HB2.out hb3')
 have hn0 := (hb3'.cell (p := ⟨gn, 0, none⟩) hgn).trans hn0
 have hn1 := (hb3'.cell (p := ⟨gn, 1, none⟩) hgn).trans hn1
 have hgn := Nat.lt_of_lt_of_le hgn hb3'.size
 obtain ⟨Ak, ck, rfl, hR3⟩ := hO3.read elPathO_ok
 have hR4 : Row (elRow elText 1) 1 w3 (fun b => b < w3.heap.size) Ak 2 ck [[[98]], []] := (hR3.map (E' := elRow elText 1) fun us x h => elOwn_row elText_ok (fun _ _ h => h) h).mv elPath_ok (Mv.to w3 fun _ _ hl => hl)
 have HMy := Lib.hid (mayQry_any hS3 lq_fit lq_m (by decide) hQ3)
 rw [lq_may] at HMy
 have q0 : w3.cell? ⟨w.heap.size + 1 + 1 + 1 + 1 + 1 + 1 + 1 + 1, 0, none⟩ = some (.slice (some ⟨w.heap.size + 1 + 1 + 1 + 1, 0, none⟩) 2 2) := hL3.cell 0
 have q1 : w3.cell? ⟨w.heap.size + 1 + 1 + 1 + 1 + 1 + 1 + 1 + 1, 1, none⟩ = some (.slice (some ⟨w.heap.size + 1 + 1 + 1 + 1 + 1 + 1 + 1, 0, none⟩) 1 1) := hL3.cell 1
 have s0 : w3.cell? ⟨w.heap.size + 1 + 1 + 1, 0, none⟩ = some (.slice (some ⟨w.heap.size + 1, 0, none⟩) 2 2) := hK3.cell 0
 have s1 : w3.cell? ⟨w.heap.size + 1 + 1 + 1, 1, none⟩ = some (.slice (some ⟨w.heap.size + 1 + 1, 0, none⟩) 1 1) := hK3.cell 1
 have s2 : w3.cell? ⟨w.heap.size + 1 + 1 + 1, 2, none⟩ = some (.slice none 0 0) := hK3.cell 2
 clear HKy hS2 hQ2 hK2 hL2 hb3 hb3' hbP hP2 hO3 hR3 hK3 hS3
 go_wp2_with fail
 refine HMy.out.mono ?_
 rintro e w4 ⟨rfl, hb4⟩
 have hQ4 := hQ3.belowS hb4
 have hL4 := hL3.below hb4 hL3.lt
 have HB4 := Lib.hid (below_then HB3.out hb4)
 have hn0 : w4.cell? ⟨gn, 0, none⟩ = some (.int .i64 1) := (hb4.cell (p := ⟨gn, 0, none⟩) hgn).trans hn0
 have hn1 : w4.cell? ⟨gn, 1, none⟩ = some (.int .i64 2) := (hb4.cell (p := ⟨gn, 1, none⟩) hgn).trans hn1
 have hR5 := hR4.mv (S' := fun b => b < w4.heap.size) elPath_ok (fun b hb hl => ⟨hb4.block b hl, Nat.lt_of_lt_of_le hl hb4.size⟩)
 have q0 : w4.cell? ⟨w.heap.size + 1 + 1 + 1 + 1 + 1 + 1 + 1 + 1, 0, none⟩ = some (.slice (some ⟨w.heap.size + 1 + 1 + 1 + 1, 0, none⟩) 2 2) := hL4.cell 0
 have q1 : w4.cell? ⟨w.heap.size + 1 + 1 + 1 + 1 + 1 + 1 + 1 + 1, 1, none⟩ = some (.slice (some ⟨w.heap.size + 1 + 1 + 1 + 1 + 1 + 1 + 1, 0, none⟩) 1 1) := hL4.cell 1
 have hbP := LqP_below w4 w4.heap.size #[98] #[99] #[97] #[120]
 have hP2 := LqP_has w4 w4.heap.size rfl [98] [99] [97] [120]
 have HPs := Lib.hid (passes_any (hQ4.belowS hbP) hP2)
 rw [lq_pass] at HPs
 clear HMy hQ3 hL3 hb4 s0 s1 s2 hR4
 go_wp2_with fail
 refine HPs.out.mono ?_
 rintro e w5 ⟨rfl, hb5⟩
 have hb5' := below_then hbP hb5
 have hQ5 := hQ4.belowS hb5'
 have hL5 := hL4.below hb5' hL4.lt
 have HB5 := Lib.hid (below_then HB4.out hb5')
 have hR6 := hR5.mv (S' := fun b => b < w5.heap.size) elPath_ok (fun b hb hl => ⟨hb5'.block b hl, Nat.lt_of_lt_of_le hl hb5'.size⟩)
 have q0 : w5.cell? ⟨w.heap.size + 1 + 1 + 1 + 1 + 1 + 1 + 1 + 1, 0, none⟩ = some (.slice (some ⟨w.heap.size + 1 + 1 + 1 + 1, 0, none⟩) 2 2) := hL5.cell 0
 have q1 : w5.cell? ⟨w.heap.size + 1 + 1 + 1 + 1 + 1 + 1 + 1 + 1, 1, none⟩ = some (.slice (some ⟨w.heap.size + 1 + 1 + 1 + 1 + 1 + 1 + 1, 0, none⟩) 1 1) := hL5.cell 1
 clear HPs hQ4 hL4 hb5 hb5' hbP hP2 hR5 hn0 hn1
 have hbP := LqP_below w5 w5.heap.size #[98] #[99] #[97] #[121]
 have hP2 := LqP_has w5 w5.heap.size rfl [98] [99] [97] [121]
 have HPs := Lib.hid (passes_any (hQ5.belowS hbP) hP2)
 rw [lq_not] at HPs
 go_wp2_with fail
 refine HPs.out.mono ?_
 rintro e w6 ⟨rfl, hb6⟩
 have hb6' := below_then hbP hb6
 have HB6 := Lib.hid (below_then HB5.out hb6')
 have hR7 := hR6.mv (S' := fun b => b < w6.heap.size) elPath_ok (fun b hb hl => ⟨hb6'.block b hl, Nat.lt_of_lt_of_le hl hb6'.size⟩)
 obtain ⟨bk, ok, A0, n0, c0, x0, rfl, _, _, j0, hx0, he0⟩ := hR7.at1 (k := 0) (by decide)
 obtain ⟨bk', ok', A1, n1, c1, x1, e1, _, _, j1, hx1, he1⟩ := hR7.at1 (k := 1) (by decide)
 injection e1 with e1
 injection e1 with e1 e2 _
 subst e1 e2
 have h0 := he0.out
 have h1 := he1.out
 simp only [List.getElem?_cons_zero, List.getElem?_cons_succ, Option.some.injEq] at h0 h1
 subst h0 h1
 obtain rfl : n0 = 1 := hx0.len.symm
 obtain rfl : n1 = 0 := hx1.len.symm
 obtain ⟨b2, o2, us, y, rfl, _, _, _, j2, hy, hye⟩ := hx0.at_ (k := 0) (by decide)
 have h2 := hye.out
 simp only [List.getElem?_cons_zero, Option.some.injEq] at h2
 subst h2
 have hy : us = [strV [98]] := hy
 have j3 := j2 0 (strV [98]) (by rw [hy]; rfl)
 simp only [Nat.zero_mul, Nat.add_zero] at j0 j3
 replace j3 : w6.cell? ⟨b2, o2, none⟩ = some (.string ⟨#[98]⟩) := j3
 clear HPs hQ5 hL5 hb6 hb6' hbP hP2 hR6 hR7 hx0 hx1 hye hy j2 he0 he1 q0 q1
 go_wp2_with fail
 go_ret
 exact ⟨rfl, HB6.out⟩
end Go.Proofs.YtmcccpbpijnbmaaDoor
