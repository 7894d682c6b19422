/- SchemaC, SchemaV -/
import Derived.Test.YtmcccpbpijnbmaaDoorJ10
import Derived.Test.YtmcccpbpijnbmaaDoorJ23
import Derived.Test.YtmcccpbpijnbmaaDoorJ24
import Derived.Test.YtmcccpbpijnbmaaDoorJ27
import Derived.Lib.SliceRun
namespace Go.Proofs.YtmcccpbpijnbmaaDoor
set_option maxRecDepth 100000
open Go.RowKit Go.Maps

theorem md_no {D : List PDim} {k : Nat} {x : Txt} {L : List Txt} (hk : k < D.length) (he : D.getD k zeroD = (x, L)) (h : ¬ apartP L 3) : decide (mayDP D) = false := by
 rw [decide_eq_false_iff_not]
 intro hm
 refine h (hm.1 (x, L) ?_)
 rw [← he, List.getD_eq_getElem?_getD, List.getElem?_eq_getElem hk]
 exact List.getElem_mem hk
theorem md_step {D : List PDim} {k : Nat} {x : Txt} {L : List Txt} (hk : k < D.length) (he : D.getD k zeroD = (x, L)) (h : apartP L 3) (ht : ∀ d ∈ D.take k, apartP d.2 3) : ∀ d ∈ D.take (k + 1), apartP d.2 3 := by
 rw [List.take_succ_eq_append_getElem hk]
 intro d hd
 rcases List.mem_append.1 hd with hd | hd
 ·exact ht d hd
 ·rw [List.mem_singleton] at hd
  have e : D[k] = (x, L) := by rw [← he, List.getD_eq_getElem?_getD, List.getElem?_eq_getElem hk]; rfl
  rw [hd, e]
  exact h
theorem md_end {D : List PDim} {k : Nat} (hk : D.length ≤ k) (ht : ∀ d ∈ D.take k, apartP d.2 3) : decide (apartP (D.map (·.1)) 3) = decide (mayDP D) := by
 rw [List.take_of_length_le hk] at ht
 by_cases h : apartP (D.map (·.1)) 3
 ·rw [decide_eq_true h, decide_eq_true (show mayDP D from ⟨ht, h⟩)]
 ·rw [decide_eq_false h, decide_eq_false (fun hm : mayDP D => h hm.2)]
theorem heads_snoc {D : List PDim} {k : Nat} {x : Txt} {L : List Txt} (hk : k < D.length) (he : D.getD k zeroD = (x, L)) : (D.map (·.1)).take k ++ [x] = (D.map (·.1)).take (k + 1) := by
 have hk2 : k < (D.map (·.1)).length := by simpa using hk
 rw [List.take_succ_eq_append_getElem hk2]
 congr 2
 have e : D[k] = (x, L) := by rw [← he, List.getD_eq_getElem?_getD, List.getElem?_eq_getElem hk]; rfl
 rw [List.getElem_map, e]
theorem fit_at {D : List PDim} {k : Nat} {x : Txt} {L : List Txt} (hf : FitD D) (hk : k < D.length) (he : D.getD k zeroD = (x, L)) : ∀ s ∈ L, s.length ≤ maxLen := by
 have h1 : (x, L) ∈ D := by
  rw [← he, List.getD_eq_getElem?_getD, List.getElem?_eq_getElem hk]
  exact List.getElem_mem hk
 exact (hf _ h1).2
theorem fit_heads {D : List PDim} (hf : FitD D) : ∀ s ∈ D.map (·.1), s.length ≤ maxLen := by
 intro s hs
 obtain ⟨d, hd, rfl⟩ := List.mem_map.1 hs
 exact (hf d hd).1
set_option maxRecDepth 100000 in
set_option maxHeartbeats 1000000 in
theorem mayDims_any {A : Option Addr} {n c : Nat} {D : List PDim} {w : World} (h : HasDs w w.heap.size A n c D) (hf : FitD D) (hn : n ≤ 1000) :
  Calls Tryd.prog 49 #[.slice A n c] w fun e w' => e = .returned (.bool (decide (mayDP D))) ∧ Below w.heap.size w w' := by
 have HL := Lib.hid h.len
 have HF := Lib.hid hf
 clear hf
 go_enter Tryd.func49, Tryd.ntmps49
 go_wp2
 go_loopw [3, 8] (fun v i wr => ∃ k : Nat, k ≤ n ∧ i = .int .i64 k ∧ OwnT wr w.heap.size v ((D.map (·.1)).take k) ∧ Below w.heap.size w wr ∧ Hid (∀ d ∈ D.take k, apartP d.2 3)) (fun _ i _ => n - (intOf i).toNat)
 case atStart => exact ⟨0, Nat.zero_le _, rfl, OwnT.nil_ w _, Below.refl _ _, Lib.hid (by simp)⟩
 case round =>
  obtain ⟨k, hk, rfl, hO, hB, ht⟩ := hrel
  by_cases hlt : k < n
  ·obtain ⟨b, o, x, A', n', c', L, rfl, hb, g0, g1, hT, he⟩ := (h.below hB (Nat.le_refl _)).at_ hlt
   have i0 : (0 : Int) ≤ (k : Int) := by omega
   have i1 : (k : Int) < (n : Int) := by omega
   have hz := hB.size
   have hlb : Hid (((D.map (·.1)).take k).length ≤ 1000000) := Lib.hid (Nat.le_trans (List.length_take_le k _) (by omega))
   have hba := below_a1 wr (.cells #[.string ⟨x.toArray⟩, .slice A' n' c'] 65)
   have hT1 := (hT.more hz).belowS hba
   have hB1 := hB.trans (hba.mono hz)
   have hO1 := hO.alloc (.cells #[.string ⟨x.toArray⟩, .slice A' n' c'] 65)
   have hS := Block.new wr 65 #[.string ⟨x.toArray⟩, .slice A' n' c']
   have HN := Lib.hid (show Calls Tryd.prog 50 #[.slice A' n' c', .int .i64 3] _ _ from mayNames_any (m := 3) hT1 (fit_at HF.out (by have := HL.out; omega) he.out) (Nat.le_refl _))
   clear hT hT1 hO hB
   by_cases ha : apartP L 3
   ·rw [decide_eq_true ha] at HN
    have H := Lib.hid (md_step (by have := HL.out; omega) he.out ha ht.out)
    have HH := Lib.hid (heads_snoc (by have := HL.out; omega) he.out)
    clear ha
    go_wp2_with fail
    generalize wr.alloc (.cells #[.string ⟨x.toArray⟩, .slice A' n' c'] 65) = w2 at hB1 hO1 HN hS ⊢
    clear hba
    refine HN.out.mono ?_
    rintro e w3 ⟨rfl, hb3⟩
    have hO3 := hO1.below hb3 (Nat.le_refl _)
    have hB3 := hB1.trans (hb3.mono hB1.size)
    have hS3 := hS.below hb3 hS.lt
    have d0 : w3.cell? ⟨wr.heap.size, 0, none⟩ = some (.string ⟨x.toArray⟩) := hS3.cell 0
    have d1 : w3.cell? ⟨wr.heap.size, 1, none⟩ = some (.slice A' n' c') := hS3.cell 1
    have hlo := fun g e => (hO3.lt g e).1
    have hO4 := hO3.alloc (.cells #[.string ⟨x.toArray⟩] 9)
    have hz3 := hB3.size
    clear hO1 hB1 HN hb3 hS hS3
    go_wp2_with (at_builtin; refine wpList_appT rfl _ _ rfl w.heap.size _ _ rfl hO4 _ rfl x (cell_litS _ _ _ _ (by simp)) hlb.out (by rw [World.size_alloc]; omega) ?_)
    intro v' w5 hO5 hG5
    have hB5 := Lib.hid ((hB3.alloc hz3 (.cells #[.string ⟨x.toArray⟩] 9)).trans (hG5.below_ (by rw [World.size_alloc]; omega) hlo))
    rw [HH.out] at hO5
    have hO6 := Lib.hid hO5
    clear hO3 hO4 hO5 hG5 hlo hB3 d0 d1
    go_wp2_with fail
    go_roundw
    case rel => exact ⟨k + 1, by omega, by go_num, hO6.out, hB5.out, H⟩
    case measure => simp [intOf]; omega
   ·rw [decide_eq_false ha] at HN
    have H := Lib.hid (md_no (by have := HL.out; omega) he.out ha)
    clear ha
    go_wp2_with fail
    refine HN.out.mono ?_
    rintro e w3 ⟨rfl, hb3⟩
    have hB3 := Lib.hid (hB1.trans (hb3.mono hB1.size))
    clear hO1 hB1 HN hb3
    go_wp2_with fail
    go_ret
    exact ⟨bool_of H.out.symm, hB3.out⟩
  ·have e : (D.map (·.1)).take k = D.map (·.1) := List.take_of_length_le (by have := HL.out; simp; omega)
   rw [e] at hO
   have H := Lib.hid (md_end (by have := HL.out; omega) ht.out)
   obtain ⟨A', n', c', rfl, hT, _⟩ := hO.formN
   have HN := Lib.hid (show Calls Tryd.prog 50 #[.slice A' n' c', .int .i64 3] _ _ from mayNames_any (m := 3) hT (fit_heads HF.out) (Nat.le_refl _))
   rw [H.out] at HN
   clear hO hT e H
   go_wp2_with fail
   refine HN.out.mono ?_
   rintro e w3 ⟨rfl, hb3⟩
   have hB3 := Lib.hid (hB.trans (hb3.mono hB.size))
   clear HN hb3 hB
   go_wp2_with fail
   go_ret
   exact ⟨rfl, hB3.out⟩

/-! ### The views -/
theorem nodup_map_on {α β : Type} {f : α → β} {l : List α} (hf : ∀ a ∈ l, ∀ b ∈ l, f a = f b → a = b) : (l.map f).Nodup ↔ l.Nodup := by
 unfold List.Nodup
 rw [List.pairwise_map, List.pairwise_iff_getElem, List.pairwise_iff_getElem]
 constructor
 ·exact fun h i j hi hj hij e => h i j hi hj hij (by rw [e])
 ·exact fun h i j hi hj hij e => h i j hi hj hij (hf _ (List.getElem_mem hi) _ (List.getElem_mem hj) e)
theorem fix3_inj {v w : List Int} (h : v.length = w.length) (h3 : v.length ≤ 3) (e : fix3 v = fix3 w) : v = w := by
 simp only [fix3, Prod.mk.injEq] at e
 obtain ⟨e0, e1, e2⟩ := e
 refine ext_getD h fun i hi => ?_
 match i, hi with
 | 0, _ => exact e0
 | 1, _ => exact e1
 | 2, _ => exact e2
 | (i + 3), hi => omega
theorem views_fix {D : List PDim} {V : List (List Int)} (h3 : D.length ≤ 3) (hc : ∀ v ∈ V, cornerP D v) : ((viewsP D V).map fix3).Nodup ↔ (viewsP D V).Nodup := by
 have hl : ∀ v ∈ viewsP D V, v.length = D.length := by
  intro v hv
  rcases List.mem_cons.1 hv with rfl | hv
  ·exact baseP_len D
  ·exact (hc v hv).1
 exact nodup_map_on fun a ha b hb e => fix3_inj ((hl a ha).trans (hl b hb).symm) (by rw [hl a ha]; exact h3) e
theorem mv_long {D : List PDim} {V : List (List Int)} (h : 6 < V.length) : decide (mayVP D V) = false := by
 rw [decide_eq_false_iff_not]; intro h'; have := h'.1; omega
theorem mv_no {D : List PDim} {V : List (List Int)} {k : Nat} {l : List Int} (hk : k < V.length) (he : l = V.getD k []) (h : ¬ cornerP D l) : decide (mayVP D V) = false := by
 rw [decide_eq_false_iff_not]
 intro hm
 refine h (hm.2.1 l ?_)
 rw [he, List.getD_eq_getElem?_getD, List.getElem?_eq_getElem hk]
 exact List.getElem_mem hk
theorem mv_step {D : List PDim} {V : List (List Int)} {k : Nat} {l : List Int} (hk : k < V.length) (he : l = V.getD k []) (h : cornerP D l) (ht : ∀ v ∈ V.take k, cornerP D v) : ∀ v ∈ V.take (k + 1), cornerP D v := by
 rw [List.take_succ_eq_append_getElem hk]
 intro d hd
 rcases List.mem_append.1 hd with hd | hd
 ·exact ht d hd
 ·rw [List.mem_singleton] at hd
  have e : V[k] = l := by rw [he, List.getD_eq_getElem?_getD, List.getElem?_eq_getElem hk]; rfl
  rw [hd, e]
  exact h
def corsP (D : List PDim) (V : List (List Int)) (k : Nat) : List T3 := fix3 (baseP D) :: (V.take k).map fix3
theorem corsP_len {D : List PDim} {V : List (List Int)} {k : Nat} (hk : k ≤ 6) : (corsP D V k).length ≤ 1000 := by
 have := List.length_take_le k V
 simp [corsP]; omega
theorem mv_end {D : List PDim} {V : List (List Int)} {k : Nat} (h3 : D.length ≤ 3) (h6 : ¬ 6 < V.length) (hk : V.length ≤ k) (ht : ∀ v ∈ V.take k, cornerP D v) : (!decide (¬ (corsP D V k).Nodup)) = decide (mayVP D V) := by
 unfold corsP
 rw [List.take_of_length_le hk] at ht ⊢
 have e : (fix3 (baseP D) :: V.map fix3).Nodup ↔ (viewsP D V).Nodup := views_fix h3 ht
 by_cases hn : (viewsP D V).Nodup
 ·have h1 : mayVP D V := ⟨by omega, ht, hn⟩
  rw [decide_eq_true h1, decide_eq_false (show ¬ ¬ (fix3 (baseP D) :: V.map fix3).Nodup from fun h => h (e.2 hn))]
  rfl
 ·have h1 : ¬ mayVP D V := fun h => hn h.2.2
  rw [decide_eq_false h1, decide_eq_true (show ¬ (fix3 (baseP D) :: V.map fix3).Nodup from fun h => hn (e.1 h))]
  rfl
theorem fix_snoc {D : List PDim} {V : List (List Int)} {k : Nat} {l : List Int} (hk : k < V.length) (he : l = V.getD k []) : corsP D V k ++ [fix3 l] = corsP D V (k + 1) := by
 unfold corsP
 rw [List.take_succ_eq_append_getElem hk, he, List.getD_eq_getElem?_getD, List.getElem?_eq_getElem hk, List.map_append]
 rfl
theorem cors_wf {D : List PDim} {V : List (List Int)} {k : Nat} (hl : ∀ v, cornerP D v → Wf3 (fix3 v)) (ht : ∀ v ∈ V.take k, cornerP D v) : ∀ t ∈ corsP D V k, Wf3 t := fun t ht' => by
 rcases List.mem_cons.1 ht' with rfl | ht'
 ·exact hl _ (base_corner D)
 ·obtain ⟨v, hv, rfl⟩ := List.mem_map.1 ht'
  exact hl _ (ht v hv)
theorem HasDs.levels {w : World} {B n c : Nat} {A : Option Addr} {D : List PDim} (h : HasDs w B A n c D) : ∀ d ∈ D, d.2.length ≤ maxLen := by
 intro d hd
 obtain ⟨i, hi, rfl⟩ := List.mem_iff_getElem.1 hd
 obtain ⟨b, o, A', n', c', _, _, _, _, hT⟩ := h.has i (by rw [← h.len]; exact hi)
 rw [List.getD_eq_getElem?_getD, List.getElem?_eq_getElem hi] at hT
 have h1 := hT.len
 have h2 := hT.cap
 have h3 := hT.fit
 show (D[i]).2.length ≤ maxLen
 have h4 : (D[i]).2.length = n' := h1
 omega
theorem wf_of {x : Int} (h0 : 0 ≤ x) (h1 : x ≤ ((maxLen : Nat) : Int)) : (Lit.int .i64 x).wf = true := by
 have e1 : IntKind.i64.min = -9223372036854775808 := rfl
 have e2 : IntKind.i64.max = 9223372036854775807 := rfl
 unfold maxLen at h1
 simp only [Lit.wf, Bool.and_eq_true, decide_eq_true_eq]
 omega
theorem corner_wf {D : List PDim} {v : List Int} (hl : ∀ d ∈ D, d.2.length ≤ maxLen) (h : cornerP D v) : Wf3 (fix3 v) := by
 have key : ∀ i, (Lit.int .i64 (v.getD i 0)).wf = true := fun i => by
  by_cases hi : i < v.length
  ·obtain ⟨h0, h1⟩ := h.2 i hi
   refine wf_of h0 (Int.le_trans h1 ?_)
   have hi2 : i < D.length := by rw [← h.1]; exact hi
   have : (D.getD i zeroD).2.length ≤ maxLen := hl _ (by rw [List.getD_eq_getElem?_getD, List.getElem?_eq_getElem hi2]; exact List.getElem_mem hi2)
   omega
  ·rw [List.getD_eq_getElem?_getD, List.getElem?_eq_none (by omega)]
   rfl
 exact ⟨key 0, key 1, key 2⟩
set_option maxRecDepth 100000 in
set_option maxHeartbeats 1000000 in
theorem mayViews_any {A1 A2 A3 : Option Addr} {n1 c1 n2 c2 n3 c3 : Nat} {D : List PDim} {M : List Txt} {V : List (List Int)} {w : World} (h : HasS w w.heap.size A1 n1 c1 A2 n2 c2 A3 n3 c3 D M V) (h3 : D.length ≤ 3) :
  Calls Tryd.prog 51 #[schV A1 n1 c1 A2 n2 c2 A3 n3 c3] w fun e w' => e = .returned (.bool (decide (mayVP D V))) ∧ Below w.heap.size w w' := by
 have HD := Lib.hid h.d.len
 have HV := Lib.hid h.v.len
 have H3 := Lib.hid h3
 have hlev := Lib.hid h.d.levels
 have hb0 := below_a1 w (.cells #[.slice A1 n1 c1, .slice A2 n2 c2, .slice A3 n3 c3] 44)
 have h1 := h.belowS hb0
 have hS := Block.new w 44 #[.slice A1 n1 c1, .slice A2 n2 c2, .slice A3 n3 c3]
 clear h h3
 by_cases h6 : (6 : Int) < (n3 : Int)
 ·have H := Lib.hid (mv_long (D := D) (V := V) (by rw [HV.out]; omega))
  go_enter Tryd.func51, Tryd.ntmps51
  go_wp2
  go_ret
  exact ⟨bool_of H.out.symm, hb0⟩
 ·have H6 : Hid (n3 ≤ 6) := Lib.hid (by omega)
  have hn1 : Hid (n1 ≤ 1000) := Lib.hid (by have := HD.out; have := H3.out; omega)
  go_enter Tryd.func51, Tryd.ntmps51
  go_wp2_with fail
  generalize w.alloc (.cells #[.slice A1 n1 c1, .slice A2 n2 c2, .slice A3 n3 c3] 44) = w1 at hb0 h1 hS ⊢
  refine (base_any h1.d hn1.out).mono ?_
  rintro e w2 ⟨⟨v, rfl, hO⟩, hb2⟩
  obtain ⟨Ab, nb, cb, rfl, hI, _⟩ := hO.formN
  obtain ⟨x, y, z, hxyz⟩ : ∃ x y z, Hid (fix3 (baseP D) = (x, y, z)) := ⟨_, _, _, Lib.hid rfl⟩
  clear hO
  go_wp2_with fail
  refine (fixed_is hI hxyz).mono ?_
  rintro e w3 ⟨rfl, hb3⟩
  have hb4 := below_then hb2 hb3
  have hO4 := OwnA.lit w3 (x, y, z) w3.heap.size rfl w1.heap.size hb4.size
  have hb5 := below_then hb4 (below_a1 w3 (.cells #[.int .i64 x, .int .i64 y, .int .i64 z] 98))
  have hO5 : OwnA (w3.alloc (.cells #[.int .i64 x, .int .i64 y, .int .i64 z] 98)) w1.heap.size (.slice (some ⟨w3.heap.size, 0, none⟩) 1 1) (corsP D V 0) := by
   have e : corsP D V 0 = [(x, y, z)] := by rw [← hxyz.out]; simp [corsP]
   rw [e]
   exact hO4
  have hS5 := hS.below hb5 hS.lt
  have s5 : (w3.alloc (.cells #[.int .i64 x, .int .i64 y, .int .i64 z] 98)).cell? ⟨w.heap.size, 2, none⟩ = some (.slice A3 n3 c3) := hS5.cell 2
  clear hO4 hI hb2 hb3 hb4
  go_wp2_with fail
  generalize w3.alloc (.cells #[.int .i64 x, .int .i64 y, .int .i64 z] 98) = w4 at hb5 hO5 hS5 s5 ⊢
  clear hS5 s5
  go_loopw [3, 17] (fun v i wr => ∃ k : Nat, k ≤ n3 ∧ i = .int .i64 k ∧ OwnA wr w1.heap.size v (corsP D V k) ∧ Below w1.heap.size w1 wr ∧ Hid (∀ v ∈ V.take k, cornerP D v)) (fun _ i _ => n3 - (intOf i).toNat)
  case atStart => exact ⟨0, Nat.zero_le _, rfl, hO5, hb5, Lib.hid (by simp)⟩
  case round =>
   obtain ⟨k, hk, rfl, hO, hB, ht⟩ := hrel
   clear hO5 hb5
   have hSr := hS.below hB hS.lt
   by_cases hlt : k < n3
   ·obtain ⟨b, o, A', n', c', l, rfl, hb, g0, hl, he⟩ := (h1.v.below hB (Nat.le_refl _)).at_ hlt
    have i0 : (0 : Int) ≤ (k : Int) := by omega
    have i1 : (k : Int) < (n3 : Int) := by omega
    have s0 : wr.cell? ⟨w.heap.size, 0, none⟩ = some (.slice A1 n1 c1) := hSr.cell 0
    have s1 : wr.cell? ⟨w.heap.size, 1, none⟩ = some (.slice A2 n2 c2) := hSr.cell 1
    have s2 : wr.cell? ⟨w.heap.size, 2, none⟩ = some (.slice (some ⟨b, o, none⟩) n3 c3) := hSr.cell 2
    have hlr := hl.more hB.size
    have HC := Lib.hid (corner_any (A2 := A2) (n2 := n2) (c2 := c2) (A3 := some ⟨b, o, none⟩) (n3 := n3) (c3 := c3) (h1.d.belowS hB) hlr)
    clear hl
    by_cases hc : cornerP D l
    ·rw [decide_eq_true hc] at HC
     have H := Lib.hid (mv_step (by have := HV.out; omega) he.out hc ht.out)
     have HF := Lib.hid (fix_snoc (D := D) (by have := HV.out; omega) he.out)
     have hlb : Hid ((corsP D V k).length ≤ 1000) := Lib.hid (corsP_len (by have := H6.out; omega))
     clear hc
     go_wp2_with fail
     refine HC.out.mono ?_
     rintro e w5 ⟨rfl, hb5⟩
     have hl5 := hlr.belowS hb5
     have hB5 := hB.trans (hb5.mono hB.size)
     have hO5 := hO.below hb5
     obtain ⟨x2, y2, z2, hx2⟩ : ∃ x y z, Hid (fix3 l = (x, y, z)) := ⟨_, _, _, Lib.hid rfl⟩
     clear HC s0 s1 s2 hlr hO hB hSr g0
     go_wp2_with fail
     refine (fixed_is hl5 hx2).mono ?_
     rintro e w6 ⟨rfl, hb6⟩
     have hB6 := hB5.trans (hb6.mono hB5.size)
     have hO6 := (hO5.below hb6).alloc (.cells #[.int .i64 x2, .int .i64 y2, .int .i64 z2] 98)
     have hcell := Lib.hid (cell_arr w6 (x2, y2, z2) 98 w6.heap.size rfl)
     have hz6 := hB6.size
     have hlo := fun g e => (hO5.lt g e).1
     clear hl5 hb5 hb6 hO5 hB5
     go_wp2_with (at_builtin; refine wpList_appA rfl _ _ rfl w1.heap.size _ _ rfl hO6 _ rfl (x2, y2, z2) hcell.out hlb.out (by rw [World.size_alloc]; omega) ?_)
     intro v' w7 hO7 hG7
     have hB7 := Lib.hid ((hB6.alloc hz6 (.cells #[.int .i64 x2, .int .i64 y2, .int .i64 z2] 98)).trans (hG7.below_ (by rw [World.size_alloc]; omega) hlo))
     rw [← hx2.out, HF.out] at hO7
     have hO8 := Lib.hid hO7
     clear hO6 hO7 hG7 hlo hB6 hcell
     go_wp2_with fail
     go_roundw
     case rel => exact ⟨k + 1, by omega, by go_num, hO8.out, hB7.out, H⟩
     case measure => simp [intOf]; omega
    ·rw [decide_eq_false hc] at HC
     have H := Lib.hid (mv_no (by have := HV.out; omega) he.out hc)
     clear hc
     go_wp2_with fail
     refine HC.out.mono ?_
     rintro e w5 ⟨rfl, hb5⟩
     have hB5 := Lib.hid (below_then hb0 (hB.trans (hb5.mono hB.size)))
     clear HC hb5 hB hO
     go_wp2_with fail
     go_ret
     exact ⟨bool_of H.out.symm, hB5.out⟩
   ·have H := Lib.hid (mv_end (D := D) (V := V) (k := k) H3.out (by have := HV.out; omega) (by have := HV.out; omega) ht.out)
    obtain ⟨A', c', rfl, hA⟩ := hO.form
    have HT := Lib.hid (twice3_any hA (corsP_len (by have := H6.out; omega)) (cors_wf (fun v => corner_wf hlev.out) ht.out))
    obtain ⟨N, hN⟩ : ∃ N, (corsP D V k).length = N := ⟨_, rfl⟩
    obtain ⟨q, hq⟩ : ∃ q, decide (¬ (corsP D V k).Nodup) = q := ⟨_, rfl⟩
    rw [hN, hq] at HT
    rw [hq] at H
    rw [hN]
    clear hO hA hN hq
    go_wp2_with fail
    refine HT.out.mono ?_
    rintro e w5 ⟨rfl, hb5⟩
    have hB5 := Lib.hid (below_then hb0 (hB.trans (hb5.mono hB.size)))
    clear HT hb5 hB
    go_wp2_with fail
    go_ret
    exact ⟨bool_not H.out, hB5.out⟩
end Go.Proofs.YtmcccpbpijnbmaaDoor
namespace Go.Proofs.YtmcccpbpijnbmaaDoor
set_option maxRecDepth 100000
open Go.RowKit Go.Maps

theorem may_1 {D : List PDim} {M : List Txt} {V : List (List Int)} (h : ¬ mayDP D) : decide (mayS D M V) = false := by
 rw [decide_eq_false_iff_not]; exact fun h' => h h'.1
theorem may_2 {D : List PDim} {M : List Txt} {V : List (List Int)} (h : ¬ apartP M 2) : decide (mayS D M V) = false := by
 rw [decide_eq_false_iff_not]; exact fun h' => h h'.2.1
theorem may_3 {D : List PDim} {M : List Txt} {V : List (List Int)} (h : mayDP D) (h' : apartP M 2) : decide (mayVP D V) = decide (mayS D M V) := by
 by_cases hv : mayVP D V
 ·rw [decide_eq_true hv, decide_eq_true (show mayS D M V from ⟨h, h', hv⟩)]
 ·rw [decide_eq_false hv, decide_eq_false (show ¬ mayS D M V from fun h => hv h.2.2)]
theorem mayD_3 {D : List PDim} (h : mayDP D) : D.length ≤ 3 := by have := h.2.2.1; simpa using this
set_option maxRecDepth 100000 in
set_option maxHeartbeats 1000000 in
theorem maySchema_any {A1 A2 A3 : Option Addr} {n1 c1 n2 c2 n3 c3 : Nat} {D : List PDim} {M : List Txt} {V : List (List Int)} {w : World} (h : HasS w w.heap.size A1 n1 c1 A2 n2 c2 A3 n3 c3 D M V) (hf : FitD D) (hm : ∀ s ∈ M, s.length ≤ maxLen) (hn1 : n1 ≤ 1000) :
  Calls Tryd.prog 34 #[schV A1 n1 c1 A2 n2 c2 A3 n3 c3] w fun e w' => e = .returned (.bool (decide (mayS D M V))) ∧ Below w.heap.size w w' := by
 have hb0 := below_a1 w (.cells #[.slice A1 n1 c1, .slice A2 n2 c2, .slice A3 n3 c3] 44)
 have h1 := h.belowS hb0
 have hS := Block.new w 44 #[.slice A1 n1 c1, .slice A2 n2 c2, .slice A3 n3 c3]
 have HD := Lib.hid (mayDims_any h1.d hf hn1)
 have HM := Lib.hid hm
 clear h hm
 by_cases hd : mayDP D
 ·rw [decide_eq_true hd] at HD
  have HX := Lib.hid hd
  clear hd
  go_enter Tryd.func34, Tryd.ntmps34
  go_wp2_with fail
  generalize w.alloc (.cells #[.slice A1 n1 c1, .slice A2 n2 c2, .slice A3 n3 c3] 44) = w1 at hb0 h1 hS HD ⊢
  refine HD.out.mono ?_
  rintro e w2 ⟨rfl, hb2⟩
  have h2 := h1.belowS hb2
  have hS2 := hS.below hb2 hS.lt
  have hb3 := below_then hb0 hb2
  have s1 : w2.cell? ⟨w.heap.size, 1, none⟩ = some (.slice A2 n2 c2) := hS2.cell 1
  have HN := Lib.hid (show Calls Tryd.prog 50 #[.slice A2 n2 c2, .int .i64 2] _ _ from mayNames_any (m := 2) h2.m HM.out (by decide))
  clear HD hb2 hb0 h1 hS
  by_cases ha : apartP M 2
  ·rw [decide_eq_true ha] at HN
   have HA := Lib.hid ha
   clear ha
   go_wp2_with fail
   refine HN.out.mono ?_
   rintro e w3 ⟨rfl, hb4⟩
   have h3 := h2.belowS hb4
   have hS3 := hS2.below hb4 hS2.lt
   have hb5 := below_then hb3 hb4
   have s0 : w3.cell? ⟨w.heap.size, 0, none⟩ = some (.slice A1 n1 c1) := hS3.cell 0
   have s4 : w3.cell? ⟨w.heap.size, 1, none⟩ = some (.slice A2 n2 c2) := hS3.cell 1
   have s2 : w3.cell? ⟨w.heap.size, 2, none⟩ = some (.slice A3 n3 c3) := hS3.cell 2
   have HV := Lib.hid (mayViews_any h3 (mayD_3 HX.out))
   have H := Lib.hid (may_3 (V := V) HX.out HA.out)
   rw [H.out] at HV
   clear s1 HN hb4 hb3 h2 hS2 H
   go_wp2_with fail
   refine HV.out.mono ?_
   rintro e w4 ⟨rfl, hb6⟩
   have hb7 := below_then hb5 hb6
   clear s0 s4 s2 HV hb6
   go_wp2_with fail
   go_ret
   exact ⟨rfl, hb7⟩
  ·rw [decide_eq_false ha] at HN
   have H := Lib.hid (may_2 (D := D) (V := V) ha)
   clear ha
   go_wp2_with fail
   refine HN.out.mono ?_
   rintro e w3 ⟨rfl, hb4⟩
   have hb5 := below_then hb3 hb4
   clear s1 HN hb4
   go_wp2_with fail
   go_ret
   exact ⟨bool_of H.out.symm, hb5⟩
 ·rw [decide_eq_false hd] at HD
  have H := Lib.hid (may_1 (M := M) (V := V) hd)
  clear hd
  go_enter Tryd.func34, Tryd.ntmps34
  go_wp2_with fail
  refine HD.out.mono ?_
  rintro e w2 ⟨rfl, hb2⟩
  have hb3 := below_then hb0 hb2
  clear HD
  go_wp2_with fail
  go_ret
  exact ⟨bool_of H.out.symm, hb3⟩

/-! ### Rows of rows of the call's own -/
section
variable {w w' : World} {base : Nat} {v : Value} {Q : List (List Int)}
end
section
variable {w : World} {ops : Array Oper} {rest : List Oper} {o : Oper} {a : Act} {K : Exit → Act → World → Prop}
end
end Go.Proofs.YtmcccpbpijnbmaaDoor
