/- SchemaC, SchemaV, SchemaW, SchemaR -/
import Derived.Test.YtmcccpbpijnbmaaJ2
import Derived.Test.YtmcccpbpijnbmaaJ9
import Derived.Test.YtmcccpbpijnbmaaJ21
import Derived.Test.YtmcccpbpijnbmaaJ22
import Derived.Test.YtmcccpbpijnbmaaJ26
import Derived.BigQuiet
import Derived.Deep.QuietTactic
import Derived.Lib.SliceRun
namespace Go.Proofs.Ytmcccpbpijnbmaa
set_option maxRecDepth 100000
open Go.RowKit Go.Maps

theorem md_no {D : List PDim} {k : Nat} {x : Txt} {L : List Txt} (hk : k < D.length) (he : D.getD k zeroD = (x, L)) (h : ¬ apartP L 3) : decide (mayDP D) = false := by
 rw [decide_eq_false_iff_not]
 intro hm
 refine h (hm.1 (x, L) ?_)
 rw [← he, List.getD_eq_getElem?_getD, List.getElem?_eq_getElem hk]
 exact List.getElem_mem hk
theorem md_step {D : List PDim} {k : Nat} {x : Txt} {L : List Txt} (hk : k < D.length) (he : D.getD k zeroD = (x, L)) (h : apartP L 3) (ht : ∀ d ∈ D.take k, apartP d.2 3) : ∀ d ∈ D.take (k + 1), apartP d.2 3 := by
 rw [List.take_succ_eq_append_getElem hk]
 intro d hd
 rcases List.mem_append.1 hd with hd | hd
 ·exact ht d hd
 ·rw [List.mem_singleton] at hd
  have e : D[k] = (x, L) := by rw [← he, List.getD_eq_getElem?_getD, List.getElem?_eq_getElem hk]; rfl
  rw [hd, e]
  exact h
theorem md_end {D : List PDim} {k : Nat} (hk : D.length ≤ k) (ht : ∀ d ∈ D.take k, apartP d.2 3) : decide (apartP (D.map (·.1)) 3) = decide (mayDP D) := by
 rw [List.take_of_length_le hk] at ht
 by_cases h : apartP (D.map (·.1)) 3
 ·rw [decide_eq_true h, decide_eq_true (show mayDP D from ⟨ht, h⟩)]
 ·rw [decide_eq_false h, decide_eq_false (fun hm : mayDP D => h hm.2)]
theorem heads_snoc {D : List PDim} {k : Nat} {x : Txt} {L : List Txt} (hk : k < D.length) (he : D.getD k zeroD = (x, L)) : (D.map (·.1)).take k ++ [x] = (D.map (·.1)).take (k + 1) := by
 have hk2 : k < (D.map (·.1)).length := by simpa using hk
 rw [List.take_succ_eq_append_getElem hk2]
 congr 2
 have e : D[k] = (x, L) := by rw [← he, List.getD_eq_getElem?_getD, List.getElem?_eq_getElem hk]; rfl
 rw [List.getElem_map, e]
theorem fit_at {D : List PDim} {k : Nat} {x : Txt} {L : List Txt} (hf : FitD D) (hk : k < D.length) (he : D.getD k zeroD = (x, L)) : ∀ s ∈ L, s.length ≤ maxLen := by
 have h1 : (x, L) ∈ D := by
  rw [← he, List.getD_eq_getElem?_getD, List.getElem?_eq_getElem hk]
  exact List.getElem_mem hk
 exact (hf _ h1).2
theorem fit_heads {D : List PDim} (hf : FitD D) : ∀ s ∈ D.map (·.1), s.length ≤ maxLen := by
 intro s hs
 obtain ⟨d, hd, rfl⟩ := List.mem_map.1 hs
 exact (hf d hd).1
set_option maxRecDepth 100000 in
set_option maxHeartbeats 1000000 in
theorem mayDims_any {A : Option Addr} {n c : Nat} {D : List PDim} {w : World} (h : HasDs w w.heap.size A n c D) (hf : FitD D) (hn : n ≤ 1000) :
  Calls Try.prog 48 #[.slice A n c] w fun e w' => e = .returned (.bool (decide (mayDP D))) ∧ Below w.heap.size w w' := by
 have HL := Lib.hid h.len
 have HF := Lib.hid hf
 clear hf
 go_enter Try.func48, Try.ntmps48
 go_wp2
 go_loopw [3, 8] (fun v i wr => ∃ k : Nat, k ≤ n ∧ i = .int .i64 k ∧ OwnT wr w.heap.size v ((D.map (·.1)).take k) ∧ Below w.heap.size w wr ∧ Hid (∀ d ∈ D.take k, apartP d.2 3)) (fun _ i _ => n - (intOf i).toNat)
 case atStart => exact ⟨0, Nat.zero_le _, rfl, OwnT.nil_ w _, Below.refl _ _, Lib.hid (by simp)⟩
 case round =>
  obtain ⟨k, hk, rfl, hO, hB, ht⟩ := hrel
  by_cases hlt : k < n
  ·obtain ⟨b, o, x, A', n', c', L, rfl, hb, g0, g1, hT, he⟩ := (h.below hB (Nat.le_refl _)).at_ hlt
   have i0 : (0 : Int) ≤ (k : Int) := by omega
   have i1 : (k : Int) < (n : Int) := by omega
   have hz := hB.size
   have hlb : Hid (((D.map (·.1)).take k).length ≤ 1000000) := Lib.hid (Nat.le_trans (List.length_take_le k _) (by omega))
   have hba := below_a1 wr (.cells #[.string ⟨x.toArray⟩, .slice A' n' c'] 58)
   have hT1 := (hT.more hz).belowS hba
   have hB1 := hB.trans (hba.mono hz)
   have hO1 := hO.alloc (.cells #[.string ⟨x.toArray⟩, .slice A' n' c'] 58)
   have hS := Block.new wr 58 #[.string ⟨x.toArray⟩, .slice A' n' c']
   have HN := Lib.hid (show Calls Try.prog 49 #[.slice A' n' c', .int .i64 3] _ _ from mayNames_any (m := 3) hT1 (fit_at HF.out (by have := HL.out; omega) he.out) (Nat.le_refl _))
   clear hT hT1 hO hB
   by_cases ha : apartP L 3
   ·rw [decide_eq_true ha] at HN
    have H := Lib.hid (md_step (by have := HL.out; omega) he.out ha ht.out)
    have HH := Lib.hid (heads_snoc (by have := HL.out; omega) he.out)
    clear ha
    go_wp2_with fail
    generalize wr.alloc (.cells #[.string ⟨x.toArray⟩, .slice A' n' c'] 58) = w2 at hB1 hO1 HN hS ⊢
    clear hba
    refine HN.out.mono ?_
    rintro e w3 ⟨rfl, hb3⟩
    have hO3 := hO1.below hb3 (Nat.le_refl _)
    have hB3 := hB1.trans (hb3.mono hB1.size)
    have hS3 := hS.below hb3 hS.lt
    have d0 : w3.cell? ⟨wr.heap.size, 0, none⟩ = some (.string ⟨x.toArray⟩) := hS3.cell 0
    have d1 : w3.cell? ⟨wr.heap.size, 1, none⟩ = some (.slice A' n' c') := hS3.cell 1
    have hlo := fun g e => (hO3.lt g e).1
    have hO4 := hO3.alloc (.cells #[.string ⟨x.toArray⟩] 9)
    have hz3 := hB3.size
    clear hO1 hB1 HN hb3 hS hS3
    go_wp2_with (at_builtin; refine wpList_appT rfl _ _ rfl w.heap.size _ _ rfl hO4 _ rfl x (cell_litS _ _ _ _ (by simp)) hlb.out (by rw [World.size_alloc]; omega) ?_)
    intro v' w5 hO5 hG5
    have hB5 := Lib.hid ((hB3.alloc hz3 (.cells #[.string ⟨x.toArray⟩] 9)).trans (hG5.below_ (by rw [World.size_alloc]; omega) hlo))
    rw [HH.out] at hO5
    have hO6 := Lib.hid hO5
    clear hO3 hO4 hO5 hG5 hlo hB3 d0 d1
    go_wp2_with fail
    go_roundw
    case rel => exact ⟨k + 1, by omega, by go_num, hO6.out, hB5.out, H⟩
    case measure => simp [intOf]; omega
   ·rw [decide_eq_false ha] at HN
    have H := Lib.hid (md_no (by have := HL.out; omega) he.out ha)
    clear ha
    go_wp2_with fail
    refine HN.out.mono ?_
    rintro e w3 ⟨rfl, hb3⟩
    have hB3 := Lib.hid (hB1.trans (hb3.mono hB1.size))
    clear hO1 hB1 HN hb3
    go_wp2_with fail
    go_ret
    exact ⟨bool_of H.out.symm, hB3.out⟩
  ·have e : (D.map (·.1)).take k = D.map (·.1) := List.take_of_length_le (by have := HL.out; simp; omega)
   rw [e] at hO
   have H := Lib.hid (md_end (by have := HL.out; omega) ht.out)
   obtain ⟨A', n', c', rfl, hT, _⟩ := hO.formN
   have HN := Lib.hid (show Calls Try.prog 49 #[.slice A' n' c', .int .i64 3] _ _ from mayNames_any (m := 3) hT (fit_heads HF.out) (Nat.le_refl _))
   rw [H.out] at HN
   clear hO hT e H
   go_wp2_with fail
   refine HN.out.mono ?_
   rintro e w3 ⟨rfl, hb3⟩
   have hB3 := Lib.hid (hB.trans (hb3.mono hB.size))
   clear HN hb3 hB
   go_wp2_with fail
   go_ret
   exact ⟨rfl, hB3.out⟩

/-! ### The views -/
theorem nodup_map_on {α β : Type} {f : α → β} {l : List α} (hf : ∀ a ∈ l, ∀ b ∈ l, f a = f b → a = b) : (l.map f).Nodup ↔ l.Nodup := by
 unfold List.Nodup
 rw [List.pairwise_map, List.pairwise_iff_getElem, List.pairwise_iff_getElem]
 constructor
 ·exact fun h i j hi hj hij e => h i j hi hj hij (by rw [e])
 ·exact fun h i j hi hj hij e => h i j hi hj hij (hf _ (List.getElem_mem hi) _ (List.getElem_mem hj) e)
theorem fix3_inj {v w : List Int} (h : v.length = w.length) (h3 : v.length ≤ 3) (e : fix3 v = fix3 w) : v = w := by
 simp only [fix3, Prod.mk.injEq] at e
 obtain ⟨e0, e1, e2⟩ := e
 refine ext_getD h fun i hi => ?_
 match i, hi with
 | 0, _ => exact e0
 | 1, _ => exact e1
 | 2, _ => exact e2
 | (i + 3), hi => omega
theorem views_fix {D : List PDim} {V : List (List Int)} (h3 : D.length ≤ 3) (hc : ∀ v ∈ V, cornerP D v) : ((viewsP D V).map fix3).Nodup ↔ (viewsP D V).Nodup := by
 have hl : ∀ v ∈ viewsP D V, v.length = D.length := by
  intro v hv
  rcases List.mem_cons.1 hv with rfl | hv
  ·exact baseP_len D
  ·exact (hc v hv).1
 exact nodup_map_on fun a ha b hb e => fix3_inj ((hl a ha).trans (hl b hb).symm) (by rw [hl a ha]; exact h3) e
theorem mv_long {D : List PDim} {V : List (List Int)} (h : 6 < V.length) : decide (mayVP D V) = false := by
 rw [decide_eq_false_iff_not]; intro h'; have := h'.1; omega
theorem mv_no {D : List PDim} {V : List (List Int)} {k : Nat} {l : List Int} (hk : k < V.length) (he : l = V.getD k []) (h : ¬ cornerP D l) : decide (mayVP D V) = false := by
 rw [decide_eq_false_iff_not]
 intro hm
 refine h (hm.2.1 l ?_)
 rw [he, List.getD_eq_getElem?_getD, List.getElem?_eq_getElem hk]
 exact List.getElem_mem hk
theorem mv_step {D : List PDim} {V : List (List Int)} {k : Nat} {l : List Int} (hk : k < V.length) (he : l = V.getD k []) (h : cornerP D l) (ht : ∀ v ∈ V.take k, cornerP D v) : ∀ v ∈ V.take (k + 1), cornerP D v := by
 rw [List.take_succ_eq_append_getElem hk]
 intro d hd
 rcases List.mem_append.1 hd with hd | hd
 ·exact ht d hd
 ·rw [List.mem_singleton] at hd
  have e : V[k] = l := by rw [he, List.getD_eq_getElem?_getD, List.getElem?_eq_getElem hk]; rfl
  rw [hd, e]
  exact h
def corsP (D : List PDim) (V : List (List Int)) (k : Nat) : List T3 := fix3 (baseP D) :: (V.take k).map fix3
theorem corsP_len {D : List PDim} {V : List (List Int)} {k : Nat} (hk : k ≤ 6) : (corsP D V k).length ≤ 1000 := by
 have := List.length_take_le k V
 simp [corsP]; omega
theorem mv_end {D : List PDim} {V : List (List Int)} {k : Nat} (h3 : D.length ≤ 3) (h6 : ¬ 6 < V.length) (hk : V.length ≤ k) (ht : ∀ v ∈ V.take k, cornerP D v) : (!decide (¬ (corsP D V k).Nodup)) = decide (mayVP D V) := by
 unfold corsP
 rw [List.take_of_length_le hk] at ht ⊢
 have e : (fix3 (baseP D) :: V.map fix3).Nodup ↔ (viewsP D V).Nodup := views_fix h3 ht
 by_cases hn : (viewsP D V).Nodup
 ·have h1 : mayVP D V := ⟨by omega, ht, hn⟩
  rw [decide_eq_true h1, decide_eq_false (show ¬ ¬ (fix3 (baseP D) :: V.map fix3).Nodup from fun h => h (e.2 hn))]
  rfl
 ·have h1 : ¬ mayVP D V := fun h => hn h.2.2
  rw [decide_eq_false h1, decide_eq_true (show ¬ (fix3 (baseP D) :: V.map fix3).Nodup from fun h => hn (e.1 h))]
  rfl
theorem fix_snoc {D : List PDim} {V : List (List Int)} {k : Nat} {l : List Int} (hk : k < V.length) (he : l = V.getD k []) : corsP D V k ++ [fix3 l] = corsP D V (k + 1) := by
 unfold corsP
 rw [List.take_succ_eq_append_getElem hk, he, List.getD_eq_getElem?_getD, List.getElem?_eq_getElem hk, List.map_append]
 rfl
theorem cors_wf {D : List PDim} {V : List (List Int)} {k : Nat} (hl : ∀ v, cornerP D v → Wf3 (fix3 v)) (ht : ∀ v ∈ V.take k, cornerP D v) : ∀ t ∈ corsP D V k, Wf3 t := fun t ht' => by
 rcases List.mem_cons.1 ht' with rfl | ht'
 ·exact hl _ (base_corner D)
 ·obtain ⟨v, hv, rfl⟩ := List.mem_map.1 ht'
  exact hl _ (ht v hv)
theorem HasDs.levels {w : World} {B n c : Nat} {A : Option Addr} {D : List PDim} (h : HasDs w B A n c D) : ∀ d ∈ D, d.2.length ≤ maxLen := by
 intro d hd
 obtain ⟨i, hi, rfl⟩ := List.mem_iff_getElem.1 hd
 obtain ⟨b, o, A', n', c', _, _, _, _, hT⟩ := h.has i (by rw [← h.len]; exact hi)
 rw [List.getD_eq_getElem?_getD, List.getElem?_eq_getElem hi] at hT
 have h1 := hT.len
 have h2 := hT.cap
 have h3 := hT.fit
 show (D[i]).2.length ≤ maxLen
 have h4 : (D[i]).2.length = n' := h1
 omega
theorem wf_of {x : Int} (h0 : 0 ≤ x) (h1 : x ≤ ((maxLen : Nat) : Int)) : (Lit.int .i64 x).wf = true := by
 have e1 : IntKind.i64.min = -9223372036854775808 := rfl
 have e2 : IntKind.i64.max = 9223372036854775807 := rfl
 unfold maxLen at h1
 simp only [Lit.wf, Bool.and_eq_true, decide_eq_true_eq]
 omega
theorem corner_wf {D : List PDim} {v : List Int} (hl : ∀ d ∈ D, d.2.length ≤ maxLen) (h : cornerP D v) : Wf3 (fix3 v) := by
 have key : ∀ i, (Lit.int .i64 (v.getD i 0)).wf = true := fun i => by
  by_cases hi : i < v.length
  ·obtain ⟨h0, h1⟩ := h.2 i hi
   refine wf_of h0 (Int.le_trans h1 ?_)
   have hi2 : i < D.length := by rw [← h.1]; exact hi
   have : (D.getD i zeroD).2.length ≤ maxLen := hl _ (by rw [List.getD_eq_getElem?_getD, List.getElem?_eq_getElem hi2]; exact List.getElem_mem hi2)
   omega
  ·rw [List.getD_eq_getElem?_getD, List.getElem?_eq_none (by omega)]
   rfl
 exact ⟨key 0, key 1, key 2⟩
set_option maxRecDepth 100000 in
set_option maxHeartbeats 1000000 in
theorem mayViews_any {A1 A2 A3 : Option Addr} {n1 c1 n2 c2 n3 c3 : Nat} {D : List PDim} {M : List Txt} {V : List (List Int)} {w : World} (h : HasS w w.heap.size A1 n1 c1 A2 n2 c2 A3 n3 c3 D M V) (h3 : D.length ≤ 3) :
  Calls Try.prog 50 #[schV A1 n1 c1 A2 n2 c2 A3 n3 c3] w fun e w' => e = .returned (.bool (decide (mayVP D V))) ∧ Below w.heap.size w w' := by
 have HD := Lib.hid h.d.len
 have HV := Lib.hid h.v.len
 have H3 := Lib.hid h3
 have hlev := Lib.hid h.d.levels
 have hb0 := below_a1 w (.cells #[.slice A1 n1 c1, .slice A2 n2 c2, .slice A3 n3 c3] 26)
 have h1 := h.belowS hb0
 have hS := Block.new w 26 #[.slice A1 n1 c1, .slice A2 n2 c2, .slice A3 n3 c3]
 clear h h3
 by_cases h6 : (6 : Int) < (n3 : Int)
 ·have H := Lib.hid (mv_long (D := D) (V := V) (by rw [HV.out]; omega))
  go_enter Try.func50, Try.ntmps50
  go_wp2
  go_ret
  exact ⟨bool_of H.out.symm, hb0⟩
 ·have H6 : Hid (n3 ≤ 6) := Lib.hid (by omega)
  have hn1 : Hid (n1 ≤ 1000) := Lib.hid (by have := HD.out; have := H3.out; omega)
  go_enter Try.func50, Try.ntmps50
  go_wp2_with fail
  generalize w.alloc (.cells #[.slice A1 n1 c1, .slice A2 n2 c2, .slice A3 n3 c3] 26) = w1 at hb0 h1 hS ⊢
  refine (base_any h1.d hn1.out).mono ?_
  rintro e w2 ⟨⟨v, rfl, hO⟩, hb2⟩
  obtain ⟨Ab, nb, cb, rfl, hI, _⟩ := hO.formN
  obtain ⟨x, y, z, hxyz⟩ : ∃ x y z, Hid (fix3 (baseP D) = (x, y, z)) := ⟨_, _, _, Lib.hid rfl⟩
  clear hO
  go_wp2_with fail
  refine (fixed_is hI hxyz).mono ?_
  rintro e w3 ⟨rfl, hb3⟩
  have hb4 := below_then hb2 hb3
  have hO4 := OwnA.lit w3 (x, y, z) w3.heap.size rfl w1.heap.size hb4.size
  have hb5 := below_then hb4 (below_a1 w3 (.cells #[.int .i64 x, .int .i64 y, .int .i64 z] 80))
  have hO5 : OwnA (w3.alloc (.cells #[.int .i64 x, .int .i64 y, .int .i64 z] 80)) w1.heap.size (.slice (some ⟨w3.heap.size, 0, none⟩) 1 1) (corsP D V 0) := by
   have e : corsP D V 0 = [(x, y, z)] := by rw [← hxyz.out]; simp [corsP]
   rw [e]
   exact hO4
  have hS5 := hS.below hb5 hS.lt
  have s5 : (w3.alloc (.cells #[.int .i64 x, .int .i64 y, .int .i64 z] 80)).cell? ⟨w.heap.size, 2, none⟩ = some (.slice A3 n3 c3) := hS5.cell 2
  clear hO4 hI hb2 hb3 hb4
  go_wp2_with fail
  generalize w3.alloc (.cells #[.int .i64 x, .int .i64 y, .int .i64 z] 80) = w4 at hb5 hO5 hS5 s5 ⊢
  clear hS5 s5
  go_loopw [3, 17] (fun v i wr => ∃ k : Nat, k ≤ n3 ∧ i = .int .i64 k ∧ OwnA wr w1.heap.size v (corsP D V k) ∧ Below w1.heap.size w1 wr ∧ Hid (∀ v ∈ V.take k, cornerP D v)) (fun _ i _ => n3 - (intOf i).toNat)
  case atStart => exact ⟨0, Nat.zero_le _, rfl, hO5, hb5, Lib.hid (by simp)⟩
  case round =>
   obtain ⟨k, hk, rfl, hO, hB, ht⟩ := hrel
   clear hO5 hb5
   have hSr := hS.below hB hS.lt
   by_cases hlt : k < n3
   ·obtain ⟨b, o, A', n', c', l, rfl, hb, g0, hl, he⟩ := (h1.v.below hB (Nat.le_refl _)).at_ hlt
    have i0 : (0 : Int) ≤ (k : Int) := by omega
    have i1 : (k : Int) < (n3 : Int) := by omega
    have s0 : wr.cell? ⟨w.heap.size, 0, none⟩ = some (.slice A1 n1 c1) := hSr.cell 0
    have s1 : wr.cell? ⟨w.heap.size, 1, none⟩ = some (.slice A2 n2 c2) := hSr.cell 1
    have s2 : wr.cell? ⟨w.heap.size, 2, none⟩ = some (.slice (some ⟨b, o, none⟩) n3 c3) := hSr.cell 2
    have hlr := hl.more hB.size
    have HC := Lib.hid (corner_any (A2 := A2) (n2 := n2) (c2 := c2) (A3 := some ⟨b, o, none⟩) (n3 := n3) (c3 := c3) (h1.d.belowS hB) hlr)
    clear hl
    by_cases hc : cornerP D l
    ·rw [decide_eq_true hc] at HC
     have H := Lib.hid (mv_step (by have := HV.out; omega) he.out hc ht.out)
     have HF := Lib.hid (fix_snoc (D := D) (by have := HV.out; omega) he.out)
     have hlb : Hid ((corsP D V k).length ≤ 1000) := Lib.hid (corsP_len (by have := H6.out; omega))
     clear hc
     go_wp2_with fail
     refine HC.out.mono ?_
     rintro e w5 ⟨rfl, hb5⟩
     have hl5 := hlr.belowS hb5
     have hB5 := hB.trans (hb5.mono hB.size)
     have hO5 := hO.below hb5
     obtain ⟨x2, y2, z2, hx2⟩ : ∃ x y z, Hid (fix3 l = (x, y, z)) := ⟨_, _, _, Lib.hid rfl⟩
     clear HC s0 s1 s2 hlr hO hB hSr g0
     go_wp2_with fail
     refine (fixed_is hl5 hx2).mono ?_
     rintro e w6 ⟨rfl, hb6⟩
     have hB6 := hB5.trans (hb6.mono hB5.size)
     have hO6 := (hO5.below hb6).alloc (.cells #[.int .i64 x2, .int .i64 y2, .int .i64 z2] 80)
     have hcell := Lib.hid (cell_arr w6 (x2, y2, z2) 80 w6.heap.size rfl)
     have hz6 := hB6.size
     have hlo := fun g e => (hO5.lt g e).1
     clear hl5 hb5 hb6 hO5 hB5
     go_wp2_with (at_builtin; refine wpList_appA rfl _ _ rfl w1.heap.size _ _ rfl hO6 _ rfl (x2, y2, z2) hcell.out hlb.out (by rw [World.size_alloc]; omega) ?_)
     intro v' w7 hO7 hG7
     have hB7 := Lib.hid ((hB6.alloc hz6 (.cells #[.int .i64 x2, .int .i64 y2, .int .i64 z2] 80)).trans (hG7.below_ (by rw [World.size_alloc]; omega) hlo))
     rw [← hx2.out, HF.out] at hO7
     have hO8 := Lib.hid hO7
     clear hO6 hO7 hG7 hlo hB6 hcell
     go_wp2_with fail
     go_roundw
     case rel => exact ⟨k + 1, by omega, by go_num, hO8.out, hB7.out, H⟩
     case measure => simp [intOf]; omega
    ·rw [decide_eq_false hc] at HC
     have H := Lib.hid (mv_no (by have := HV.out; omega) he.out hc)
     clear hc
     go_wp2_with fail
     refine HC.out.mono ?_
     rintro e w5 ⟨rfl, hb5⟩
     have hB5 := Lib.hid (below_then hb0 (hB.trans (hb5.mono hB.size)))
     clear HC hb5 hB hO
     go_wp2_with fail
     go_ret
     exact ⟨bool_of H.out.symm, hB5.out⟩
   ·have H := Lib.hid (mv_end (D := D) (V := V) (k := k) H3.out (by have := HV.out; omega) (by have := HV.out; omega) ht.out)
    obtain ⟨A', c', rfl, hA⟩ := hO.form
    have HT := Lib.hid (twice3_any hA (corsP_len (by have := H6.out; omega)) (cors_wf (fun v => corner_wf hlev.out) ht.out))
    obtain ⟨N, hN⟩ : ∃ N, (corsP D V k).length = N := ⟨_, rfl⟩
    obtain ⟨q, hq⟩ : ∃ q, decide (¬ (corsP D V k).Nodup) = q := ⟨_, rfl⟩
    rw [hN, hq] at HT
    rw [hq] at H
    rw [hN]
    clear hO hA hN hq
    go_wp2_with fail
    refine HT.out.mono ?_
    rintro e w5 ⟨rfl, hb5⟩
    have hB5 := Lib.hid (below_then hb0 (hB.trans (hb5.mono hB.size)))
    clear HT hb5 hB
    go_wp2_with fail
    go_ret
    exact ⟨bool_not H.out, hB5.out⟩
end Go.Proofs.Ytmcccpbpijnbmaa
namespace Go.Proofs.Ytmcccpbpijnbmaa
set_option maxRecDepth 100000
open Go.RowKit Go.Maps

theorem may_1 {D : List PDim} {M : List Txt} {V : List (List Int)} (h : ¬ mayDP D) : decide (mayS D M V) = false := by
 rw [decide_eq_false_iff_not]; exact fun h' => h h'.1
theorem may_2 {D : List PDim} {M : List Txt} {V : List (List Int)} (h : ¬ apartP M 2) : decide (mayS D M V) = false := by
 rw [decide_eq_false_iff_not]; exact fun h' => h h'.2.1
theorem may_3 {D : List PDim} {M : List Txt} {V : List (List Int)} (h : mayDP D) (h' : apartP M 2) : decide (mayVP D V) = decide (mayS D M V) := by
 by_cases hv : mayVP D V
 ·rw [decide_eq_true hv, decide_eq_true (show mayS D M V from ⟨h, h', hv⟩)]
 ·rw [decide_eq_false hv, decide_eq_false (show ¬ mayS D M V from fun h => hv h.2.2)]
theorem mayD_3 {D : List PDim} (h : mayDP D) : D.length ≤ 3 := by have := h.2.2.1; simpa using this
set_option maxRecDepth 100000 in
set_option maxHeartbeats 1000000 in
theorem maySchema_any {A1 A2 A3 : Option Addr} {n1 c1 n2 c2 n3 c3 : Nat} {D : List PDim} {M : List Txt} {V : List (List Int)} {w : World} (h : HasS w w.heap.size A1 n1 c1 A2 n2 c2 A3 n3 c3 D M V) (hf : FitD D) (hm : ∀ s ∈ M, s.length ≤ maxLen) (hn1 : n1 ≤ 1000) :
  Calls Try.prog 30 #[schV A1 n1 c1 A2 n2 c2 A3 n3 c3] w fun e w' => e = .returned (.bool (decide (mayS D M V))) ∧ Below w.heap.size w w' := by
 have hb0 := below_a1 w (.cells #[.slice A1 n1 c1, .slice A2 n2 c2, .slice A3 n3 c3] 26)
 have h1 := h.belowS hb0
 have hS := Block.new w 26 #[.slice A1 n1 c1, .slice A2 n2 c2, .slice A3 n3 c3]
 have HD := Lib.hid (mayDims_any h1.d hf hn1)
 have HM := Lib.hid hm
 clear h hm
 by_cases hd : mayDP D
 ·rw [decide_eq_true hd] at HD
  have HX := Lib.hid hd
  clear hd
  go_enter Try.func30, Try.ntmps30
  go_wp2_with fail
  generalize w.alloc (.cells #[.slice A1 n1 c1, .slice A2 n2 c2, .slice A3 n3 c3] 26) = w1 at hb0 h1 hS HD ⊢
  refine HD.out.mono ?_
  rintro e w2 ⟨rfl, hb2⟩
  have h2 := h1.belowS hb2
  have hS2 := hS.below hb2 hS.lt
  have hb3 := below_then hb0 hb2
  have s1 : w2.cell? ⟨w.heap.size, 1, none⟩ = some (.slice A2 n2 c2) := hS2.cell 1
  have HN := Lib.hid (show Calls Try.prog 49 #[.slice A2 n2 c2, .int .i64 2] _ _ from mayNames_any (m := 2) h2.m HM.out (by decide))
  clear HD hb2 hb0 h1 hS
  by_cases ha : apartP M 2
  ·rw [decide_eq_true ha] at HN
   have HA := Lib.hid ha
   clear ha
   go_wp2_with fail
   refine HN.out.mono ?_
   rintro e w3 ⟨rfl, hb4⟩
   have h3 := h2.belowS hb4
   have hS3 := hS2.below hb4 hS2.lt
   have hb5 := below_then hb3 hb4
   have s0 : w3.cell? ⟨w.heap.size, 0, none⟩ = some (.slice A1 n1 c1) := hS3.cell 0
   have s4 : w3.cell? ⟨w.heap.size, 1, none⟩ = some (.slice A2 n2 c2) := hS3.cell 1
   have s2 : w3.cell? ⟨w.heap.size, 2, none⟩ = some (.slice A3 n3 c3) := hS3.cell 2
   have HV := Lib.hid (mayViews_any h3 (mayD_3 HX.out))
   have H := Lib.hid (may_3 (V := V) HX.out HA.out)
   rw [H.out] at HV
   clear s1 HN hb4 hb3 h2 hS2 H
   go_wp2_with fail
   refine HV.out.mono ?_
   rintro e w4 ⟨rfl, hb6⟩
   have hb7 := below_then hb5 hb6
   clear s0 s4 s2 HV hb6
   go_wp2_with fail
   go_ret
   exact ⟨rfl, hb7⟩
  ·rw [decide_eq_false ha] at HN
   have H := Lib.hid (may_2 (D := D) (V := V) ha)
   clear ha
   go_wp2_with fail
   refine HN.out.mono ?_
   rintro e w3 ⟨rfl, hb4⟩
   have hb5 := below_then hb3 hb4
   clear s1 HN hb4
   go_wp2_with fail
   go_ret
   exact ⟨bool_of H.out.symm, hb5⟩
 ·rw [decide_eq_false hd] at HD
  have H := Lib.hid (may_1 (M := M) (V := V) hd)
  clear hd
  go_enter Try.func30, Try.ntmps30
  go_wp2_with fail
  refine HD.out.mono ?_
  rintro e w2 ⟨rfl, hb2⟩
  have hb3 := below_then hb0 hb2
  clear HD
  go_wp2_with fail
  go_ret
  exact ⟨bool_of H.out.symm, hb3⟩

/-! ### Rows of rows of the call's own -/
section
variable {w w' : World} {base : Nat} {v : Value} {Q : List (List Int)}
end
section
variable {w : World} {ops : Array Oper} {rest : List Oper} {o : Oper} {a : Act} {K : Exit → Act → World → Prop}
end
theorem views_snoc {D : List PDim} {V : List (List Int)} {k : Nat} {l : List Int} (hk : k < V.length) (he : l = V.getD k []) : viewsP D (V.take k) ++ [l] = viewsP D (V.take (k + 1)) := by
 unfold viewsP
 rw [List.take_succ_eq_append_getElem hk, he, List.getD_eq_getElem?_getD, List.getElem?_eq_getElem hk]
 rfl
end Go.Proofs.Ytmcccpbpijnbmaa
namespace Go.Proofs.Ytmcccpbpijnbmaa
set_option maxRecDepth 100000
open Go.RowKit Go.Maps

/-! ### How many corners -/
end Go.Proofs.Ytmcccpbpijnbmaa
namespace Go.Proofs.Ytmcccpbpijnbmaa
set_option maxRecDepth 100000
open Go.RowKit Go.Maps

theorem toB {P : Program} {f : FuncId} {args : Array Value} {w : World} {v : Value} (h : Calls P f args w fun e w' => e = .returned v ∧ ∃ k, w' = w.drewN k) : Calls P f args w fun e w' => e = .returned v ∧ Below w.heap.size w w' :=
 h.mono fun _ _ ⟨he, k, hk⟩ => ⟨he, hk ▸ below_drewN (Below.refl _ _) k⟩
theorem rm_1 {D : List PDim} {M : List Txt} {V : List (List Int)} {k : Nat} {x : Txt} {L : List Txt} (hk : k < D.length) (he : D.getD k zeroD = (x, L)) (h : ¬ apartP L 3) : decide (mayS D M V) = false := by
 have h1 := md_no hk he h
 rw [decide_eq_false_iff_not] at h1 ⊢
 exact fun h' => h1 h'.1
theorem rm_2 {D : List PDim} {M : List Txt} {V : List (List Int)} (h : ¬ apartP (D.map (·.1)) 3 ∨ ¬ apartP M 2 ∨ 6 < V.length) : decide (mayS D M V) = false := by
 rw [decide_eq_false_iff_not]
 intro h'
 rcases h with h | h | h
 ·exact h h'.1.2
 ·exact h h'.2.1
 ·have := h'.2.2.1; omega
theorem rm_3 {D : List PDim} {M : List Txt} {V : List (List Int)} {k : Nat} {l : List Int} (hk : k < V.length) (he : l = V.getD k []) (h : ¬ cornerP D l ∨ l = baseP D ∨ ∃ j, j < k ∧ V.getD j [] = l) : decide (mayS D M V) = false := by
 have e : V[k] = l := by rw [he, List.getD_eq_getElem?_getD, List.getElem?_eq_getElem hk]; rfl
 rw [decide_eq_false_iff_not]
 intro h'
 obtain ⟨_, hc, hn⟩ := h'.2.2
 rcases h with h | h | ⟨j, hj, h⟩
 ·exact h (e ▸ hc _ (List.getElem_mem hk))
 ·have := (List.nodup_cons.1 hn).1
  exact this (by rw [← h, ← e]; exact List.getElem_mem hk)
 ·have := List.pairwise_iff_getElem.1 (List.nodup_cons.1 hn).2 j k (by omega) hk hj
  refine this ?_
  rw [e, ← h, List.getD_eq_getElem?_getD, List.getElem?_eq_getElem (show j < V.length by omega)]
  rfl
theorem rm_step {D : List PDim} {V : List (List Int)} {k : Nat} {l : List Int} (hk : k < V.length) (he : l = V.getD k []) (hn : (viewsP D (V.take k)).Nodup) (hb : ¬ l = baseP D) (hj : ∀ j, j < k → ¬ V.getD j [] = l) : (viewsP D (V.take (k + 1))).Nodup := by
 rw [← views_snoc hk he]
 refine List.nodup_append.2 ⟨hn, by simp, fun a ha b hbm => ?_⟩
 rw [List.mem_singleton] at hbm
 rw [hbm]
 rcases List.mem_cons.1 ha with rfl | ha
 ·exact fun e => hb e.symm
 ·obtain ⟨j, hjt, e⟩ := List.mem_iff_getElem.1 ha
  rw [List.length_take] at hjt
  rw [List.getElem_take] at e
  intro e2
  refine hj j (by omega) ?_
  rw [List.getD_eq_getElem?_getD, List.getElem?_eq_getElem (show j < V.length by omega)]
  exact e.trans e2
theorem rm_end {D : List PDim} {M : List Txt} {V : List (List Int)} {k : Nat} (hk : V.length ≤ k) (h6 : ¬ 6 < V.length) (hd : ∀ d ∈ D, apartP d.2 3) (h1 : apartP (D.map (·.1)) 3) (h2 : apartP M 2) (hc : ∀ v ∈ V.take k, cornerP D v) (hn : (viewsP D (V.take k)).Nodup) : decide (mayS D M V) = true := by
 rw [List.take_of_length_le hk] at hc hn
 rw [decide_eq_true_eq]
 exact ⟨⟨hd, h1⟩, h2, by omega, hc, hn⟩
theorem all_take {D : List PDim} {k : Nat} (hk : D.length ≤ k) (ht : ∀ d ∈ D.take k, apartP d.2 3) : ∀ d ∈ D, apartP d.2 3 := by rwa [List.take_of_length_le hk] at ht
set_option maxRecDepth 100000 in
set_option maxHeartbeats 4000000 in
theorem refMay8_any {A1 A2 A3 : Option Addr} {n1 c1 n2 c2 n3 c3 : Nat} {D : List PDim} {M : List Txt} {V : List (List Int)} {w : World} (h : HasS w w.heap.size A1 n1 c1 A2 n2 c2 A3 n3 c3 D M V) (hn1 : n1 ≤ 1000) (hn3 : n3 ≤ 1000) :
  Calls Try.prog 26 #[schV A1 n1 c1 A2 n2 c2 A3 n3 c3] w fun e w' => e = .returned (.bool (decide (mayS D M V))) ∧ Below w.heap.size w w' := by
 have HL := Lib.hid h.d.len
 have HV := Lib.hid h.v.len
 have hb0 := below_a1 w (.cells #[.slice A1 n1 c1, .slice A2 n2 c2, .slice A3 n3 c3] 26)
 have h1 := h.belowS hb0
 have hS := Block.new w 26 #[.slice A1 n1 c1, .slice A2 n2 c2, .slice A3 n3 c3]
 clear h
 go_enter Try.func26, Try.ntmps26
 go_wp2_with fail
 generalize w.alloc (.cells #[.slice A1 n1 c1, .slice A2 n2 c2, .slice A3 n3 c3] 26) = w1 at hb0 h1 hS ⊢
 go_loopw [3, 4] (fun v i wr => ∃ k : Nat, k ≤ n1 ∧ i = .int .i64 k ∧ OwnT wr w1.heap.size v ((D.map (·.1)).take k) ∧ Below w1.heap.size w1 wr ∧ Hid (∀ d ∈ D.take k, apartP d.2 3)) (fun _ i _ => n1 - (intOf i).toNat)
 case atStart => exact ⟨0, Nat.zero_le _, rfl, OwnT.nil_ w1 _, Below.refl _ _, Lib.hid (by simp)⟩
 case round =>
  obtain ⟨k, hk, rfl, hO, hB, ht⟩ := hrel
  have s0 : wr.cell? ⟨w.heap.size, 0, none⟩ = some (.slice A1 n1 c1) := (hS.below hB hS.lt).cell 0
  by_cases hlt : k < n1
  ·obtain ⟨b, o, x, A', n', c', L, rfl, hb, g0, g1, hT, he⟩ := (h1.d.below hB (Nat.le_refl _)).at_ hlt
   have i0 : (0 : Int) ≤ (k : Int) := by omega
   have i1 : (k : Int) < (n1 : Int) := by omega
   have hz := hB.size
   have hlb : Hid (((D.map (·.1)).take k).length ≤ 1000000) := Lib.hid (Nat.le_trans (List.length_take_le k _) (by omega))
   have HH := Lib.hid (heads_snoc (by have := HL.out; omega) he.out)
   have hlo := fun g e => (hO.lt g e).1
   have hO1 := hO.alloc (.cells #[.string ⟨x.toArray⟩] 9)
   go_wp2_with (at_builtin; refine wpList_appT rfl _ _ rfl w1.heap.size _ _ rfl hO1 _ rfl x (cell_litS _ _ _ _ (by simp)) hlb.out (by rw [World.size_alloc]; omega) ?_)
   intro v' w2 hO2 hG2
   have hbx := (below_a1 wr (.cells #[.string ⟨x.toArray⟩] 9)).mono hz |>.trans (hG2.below_ (by rw [World.size_alloc]; omega) hlo)
   have hB2 := hB.trans hbx
   have e0 : w2.cell? ⟨w.heap.size, 0, none⟩ = some (.slice (some ⟨b, o, none⟩) n1 c1) := (hS.below hB2 hS.lt).cell 0
   have e1 : w2.cell? ⟨b, o + k * 2 + 1, none⟩ = some (.slice A' n' c') := (hbx.cell (p := ⟨b, o + k * 2 + 1, none⟩) hb).trans g1
   have hT2 := hT.below hbx (Nat.le_refl _)
   have HA := Lib.hid (show Calls Try.prog 45 #[.slice A' n' c', .int .i64 3] _ _ from apart_any (m := 3) hT2 (Nat.le_refl _))
   rw [HH.out] at hO2
   clear hO hO1 hG2 hlo hB hbx hT hT2 s0 g0 g1
   by_cases ha : apartP L 3
   ·rw [decide_eq_true ha] at HA
    have H := Lib.hid (md_step (by have := HL.out; omega) he.out ha ht.out)
    clear ha
    go_wp2_with fail
    refine HA.out.mono ?_
    rintro e w3 ⟨rfl, q, rfl⟩
    have hO3 := Lib.hid (hO2.drewN q)
    have hB3 := Lib.hid (below_drewN hB2 q)
    clear HA hO2 hB2 e0 e1
    go_wp2_with fail
    go_roundw
    case rel => exact ⟨k + 1, by omega, by go_num, hO3.out, hB3.out, H⟩
    case measure => simp [intOf]; omega
   ·rw [decide_eq_false ha] at HA
    have H := Lib.hid (rm_1 (M := M) (V := V) (by have := HL.out; omega) he.out ha)
    clear ha
    go_wp2_with fail
    refine HA.out.mono ?_
    rintro e w3 ⟨rfl, q, rfl⟩
    have hB3 := Lib.hid (below_then hb0 (below_drewN hB2 q))
    clear HA hO2 hB2 e0 e1
    go_wp2_with fail
    go_ret
    exact ⟨bool_of H.out.symm, hB3.out⟩
  ·have e : (D.map (·.1)).take k = D.map (·.1) := List.take_of_length_le (by have := HL.out; simp; omega)
   rw [e] at hO
   have HD := Lib.hid (all_take (by have := HL.out; omega) ht.out)
   obtain ⟨A', n', c', rfl, hT, _⟩ := hO.formN
   have HA := Lib.hid (show Calls Try.prog 45 #[.slice A' n' c', .int .i64 3] _ _ from apart_any (m := 3) hT (Nat.le_refl _))
   obtain ⟨one, h_one⟩ : ∃ q, Hid (decide (apartP (D.map (·.1)) 3) = q) := ⟨_, Lib.hid rfl⟩
   rw [h_one.out] at HA
   clear hO hT e ht
   go_wp2_with fail
   refine HA.out.mono ?_
   rintro e w3 ⟨rfl, q, rfl⟩
   have hB3 := below_drewN hB q
   have hS3 := hS.below hB3 hS.lt
   have s1 : (wr.drewN q).cell? ⟨w.heap.size, 1, none⟩ = some (.slice A2 n2 c2) := hS3.cell 1
   have HA2 := Lib.hid (show Calls Try.prog 45 #[.slice A2 n2 c2, .int .i64 2] _ _ from apart_any (m := 2) (h1.m.below hB3 (Nat.le_refl _)) (by decide))
   obtain ⟨two, h_two⟩ : ∃ q, Hid (decide (apartP M 2) = q) := ⟨_, Lib.hid rfl⟩
   rw [h_two.out] at HA2
   clear HA s0
   go_wp2_with fail
   refine HA2.out.mono ?_
   rintro e w4 ⟨rfl, q2, rfl⟩
   have hB4 := below_drewN (below_drewN hB q) q2
   have hS4 := hS.below hB4 hS.lt
   have t0 : ((wr.drewN q).drewN q2).cell? ⟨w.heap.size, 0, none⟩ = some (.slice A1 n1 c1) := hS4.cell 0
   have t1 : ((wr.drewN q).drewN q2).cell? ⟨w.heap.size, 1, none⟩ = some (.slice A2 n2 c2) := hS4.cell 1
   have t2 : ((wr.drewN q).drewN q2).cell? ⟨w.heap.size, 2, none⟩ = some (.slice A3 n3 c3) := hS4.cell 2
   clear HA2 hB3 hS3 s1 hB
   generalize (wr.drewN q).drewN q2 = w4 at hB4 hS4 t0 t1 t2 ⊢
   by_cases hall : (one = true ∧ two = true) ∧ ¬ (6 : Int) < (n3 : Int)
   ·obtain ⟨⟨rfl, rfl⟩, h6⟩ := hall
    have HB := Lib.hid (refBase_any (A2 := A2) (n2 := n2) (c2 := c2) (A3 := A3) (n3 := n3) (c3 := c3) ((h1.d.below hB4 (Nat.le_refl _)).more hB4.size) hn1)
    have H6 : Hid (n3 ≤ 6) := Lib.hid (by omega)
    go_wp2_with fail
    clear t0 t1 t2
    refine HB.out.mono ?_
    rintro e w5 ⟨⟨v, rfl, hO⟩, hb5⟩
    obtain ⟨Ab, nb, cb, rfl, hI, _⟩ := hO.formN
    have hB5 := hB4.trans (hb5.mono hB4.size)
    clear hO HB hB4 hb5 hS4
    go_wp2_with fail
    go_loopw [9] (fun i wr => ∃ k : Nat, k ≤ n3 ∧ i = .int .i64 k ∧ Below w5.heap.size w5 wr ∧ Hid (∀ v ∈ V.take k, cornerP D v) ∧ Hid ((viewsP D (V.take k)).Nodup)) (fun i _ => n3 - (intOf i).toNat)
    case atStart => exact ⟨0, Nat.zero_le _, rfl, Below.refl _ _, Lib.hid (by simp), Lib.hid (by simp [viewsP])⟩
    case round =>
     obtain ⟨k2, hk2, rfl, hC, hcs, hnd⟩ := hrel
     obtain ⟨wo, rfl⟩ : ∃ wo, wo = wr := ⟨_, rfl⟩
     have hB6 := hB5.trans (hC.mono hB5.size)
     have hS6 := hS.below hB6 hS.lt
     have t0 : wo.cell? ⟨w.heap.size, 0, none⟩ = some (.slice A1 n1 c1) := hS6.cell 0
     have t1 : wo.cell? ⟨w.heap.size, 1, none⟩ = some (.slice A2 n2 c2) := hS6.cell 1
     have t2 : wo.cell? ⟨w.heap.size, 2, none⟩ = some (.slice A3 n3 c3) := hS6.cell 2
     by_cases hlt2 : k2 < n3
     ·obtain ⟨b, o, A', n', c', l, rfl, hb, g0, hl, he⟩ := (h1.v.below hB6 (Nat.le_refl _)).at_ hlt2
      have i0 : (0 : Int) ≤ (k2 : Int) := by omega
      have i1 : (k2 : Int) < (n3 : Int) := by omega
      have HW := Lib.hid (show ∀ W, Below w5.heap.size w5 W → (W.cell? ⟨w.heap.size, 0, none⟩ = some (.slice A1 n1 c1) ∧ W.cell? ⟨w.heap.size, 1, none⟩ = some (.slice A2 n2 c2) ∧ W.cell? ⟨w.heap.size, 2, none⟩ = some (.slice (some ⟨b, o, none⟩) n3 c3)) ∧ W.cell? ⟨b, o + k2, none⟩ = some (.slice A' n' c') ∧ HasI W W.heap.size A' n' c' l ∧ HasI W W.heap.size Ab nb cb (baseP D) ∧ HasDs W W.heap.size A1 n1 c1 D ∧ HasL W W.heap.size (some ⟨b, o, none⟩) n3 c3 V from fun W hW => by
       have hBW := hB5.trans (hW.mono hB5.size)
       have hSW := hS.below hBW hS.lt
       have hlW := (h1.v.below hBW (Nat.le_refl _)).more hBW.size
       obtain ⟨b9, o9, A9, n9, c9, l9, e9, _, g9, hl9, he9⟩ := (h1.v.below hBW (Nat.le_refl _)).at_ hlt2
       obtain ⟨rfl, rfl⟩ : b = b9 ∧ o = o9 := by simpa using e9
       have hw0 : W.cell? ⟨b, o + k2, none⟩ = some (.slice A' n' c') := ((hBW.cell (p := ⟨b, o + k2, none⟩) hb).trans (hB6.cell (p := ⟨b, o + k2, none⟩) hb).symm).trans g0
       have e2 : Value.slice A9 n9 c9 = .slice A' n' c' := Option.some.inj (g9.symm.trans hw0)
       injection e2 with e3 e4 e5
       subst e3 e4 e5
       obtain rfl : l = l9 := he.out.trans he9.out.symm
       exact ⟨⟨hSW.cell 0, hSW.cell 1, hSW.cell 2⟩, hw0, hl9.more hBW.size, (hI.below hW (Nat.le_refl _)).more hW.size, (h1.d.below hBW (Nat.le_refl _)).more hBW.size, hlW⟩)
      have HCo := Lib.hid fun (y : Bel wo) => y.calls fun W hw => refCorner_any (A2 := A2) (n2 := n2) (c2 := c2) (A3 := some ⟨b, o, none⟩) (n3 := n3) (c3 := c3) (HW.out W (hC.trans (hw.mono hC.size))).2.2.2.2.1 (HW.out W (hC.trans (hw.mono hC.size))).2.2.1
      have k0 : ∀ y : Bel wo, y.w.cell? ⟨w.heap.size, 0, none⟩ = some (.slice A1 n1 c1) := fun y => y.cell t0
      have k1 : ∀ y : Bel wo, y.w.cell? ⟨w.heap.size, 1, none⟩ = some (.slice A2 n2 c2) := fun y => y.cell t1
      have k3 : ∀ y : Bel wo, y.w.cell? ⟨w.heap.size, 2, none⟩ = some (.slice (some ⟨b, o, none⟩) n3 c3) := fun y => y.cell t2
      have k4 : ∀ y : Bel wo, y.w.cell? ⟨b, o + k2, none⟩ = some (.slice A' n' c') := fun y => y.cell g0
      obtain ⟨cb1, hcb⟩ : ∃ q, Hid (decide (cornerP D l) = q) := ⟨_, Lib.hid rfl⟩
      rw [hcb.out] at HCo
      clear hl hS6 hB6
      go_wp2_with fail
      refine wp_region_below (by kernel_rfl) (by kernel_rfl) ?_
      repeat (go_big_quiet_step ((go_at_call 27; exact HCo.out _)))
      refine wpQuiet_nil ?_
      rintro _ ⟨y7, rfl⟩
      have hb7 := y7.b
      generalize y7.w = w7 at hb7 ⊢
      have hC7 := hC.trans (hb7.mono hC.size)
      obtain ⟨⟨_, _, u2⟩, u3, u4, u5, _⟩ := HW.out w7 hC7
      have HSa := Lib.hid (sameI_any u4 u5)
      obtain ⟨sb1, hsb⟩ : ∃ q, Hid (decide (l = baseP D) = q) := ⟨_, Lib.hid rfl⟩
      rw [hsb.out] at HSa
      clear HCo k0 k1 k3 k4 t0 t1 t2 g0 hb7 hC u4 u5
      go_wp2_with fail
      refine HSa.out.mono ?_
      rintro e w8 ⟨rfl, q3, rfl⟩
      have hC8 := below_drewN hC7 q3
      clear HSa u2 u3 hC7
      by_cases hgo : cb1 = true ∧ sb1 = false
      ·obtain ⟨rfl, rfl⟩ := hgo
       have HX := Lib.hid (of_decide_eq_true hcb.out)
       have HY := Lib.hid (of_decide_eq_false hsb.out)
       have H := Lib.hid (mv_step (by have := HV.out; omega) he.out HX.out hcs.out)
       go_wp2_with fail
       go_loopw [12] (fun i wr => ∃ j : Nat, j ≤ k2 ∧ i = .int .i64 j ∧ Below w5.heap.size w5 wr ∧ Hid (∀ t, t < j → ¬ V.getD t [] = l)) (fun i _ => k2 - (intOf i).toNat)
       case atStart => exact ⟨0, Nat.zero_le _, rfl, hC8, Lib.hid fun t ht => absurd ht (by omega)⟩
       case round =>
        obtain ⟨j, hj, rfl, hC, hne⟩ := hrel
        clear hC8
        by_cases hjk : j < k2
        ·obtain ⟨⟨_, _, u2⟩, u3, u4, _, _, u6⟩ := HW.out wr hC
         obtain ⟨b9, o9, A9, n9, c9, l9, e9, _, g9, hl9, he9⟩ := u6.at_ (show j < n3 by omega)
         obtain ⟨rfl, rfl⟩ : b = b9 ∧ o = o9 := by simpa using e9
         have j0 : (0 : Int) ≤ (j : Int) := by omega
         have j1 : (j : Int) < (n3 : Int) := by omega
         have j2 : (j : Int) < (k2 : Int) := by omega
         have HS2 := Lib.hid fun (y : Bel wr) => y.calls fun W hw => toB (sameI_any (hl9.below hw (Nat.le_refl _)) (u4.below hw (Nat.le_refl _)))
         have k3 : ∀ y : Bel wr, y.w.cell? ⟨w.heap.size, 2, none⟩ = some (.slice (some ⟨b, o, none⟩) n3 c3) := fun y => y.cell u2
         have k4 : ∀ y : Bel wr, y.w.cell? ⟨b, o + k2, none⟩ = some (.slice A' n' c') := fun y => y.cell u3
         have k5 : ∀ y : Bel wr, y.w.cell? ⟨b, o + j, none⟩ = some (.slice A9 n9 c9) := fun y => y.cell g9
         clear u2 u3 u4 u6 e9 g9 hl9
         by_cases hll : l9 = l
         ·have HZ := Lib.hid (rm_3 (D := D) (M := M) (by have := HV.out; omega) he.out (.inr (.inr ⟨j, hjk, he9.out.symm.trans hll⟩)))
          rw [decide_eq_true hll] at HS2
          clear hll
          go_wp2_with fail
          refine wp_region_below (by kernel_rfl) (by kernel_rfl) ?_
          repeat (go_big_quiet_step ((go_at_call 14; exact HS2.out _)))
          refine wpQuiet_nil ?_
          rintro _ ⟨⟨w9, hb9⟩, rfl⟩
          have HB9 := Lib.hid (below_then hb0 (hB5.trans ((hC.trans (hb9.mono hC.size)).mono hB5.size)))
          clear HS2 k3 k4 k5 hb9
          go_wp2_with fail
          go_ret
          exact ⟨bool_of HZ.out.symm, HB9.out⟩
         ·have HN : Hid (∀ t, t < j + 1 → ¬ V.getD t [] = l) := Lib.hid fun t ht => by
           by_cases h : t < j
           ·exact hne.out t h
           ·obtain rfl : t = j := by omega
            rw [← he9.out]; exact hll
          rw [decide_eq_false hll] at HS2
          clear hll
          go_wp2_with fail
          refine wp_region_below (by kernel_rfl) (by kernel_rfl) ?_
          repeat (go_big_quiet_step ((go_at_call 14; exact HS2.out _)))
          refine wpQuiet_nil ?_
          rintro _ ⟨⟨w9, hb9⟩, rfl⟩
          have HB9 := Lib.hid (hC.trans (hb9.mono hC.size))
          clear HS2 k3 k4 k5 hb9
          go_wp2_with fail
          go_roundw
          case rel => exact ⟨j + 1, by omega, by go_num, HB9.out, HN⟩
          case measure => simp [intOf]; omega
        ·obtain rfl : j = k2 := by omega
         have HN := Lib.hid (rm_step (D := D) (by have := HV.out; omega) he.out hnd.out HY.out hne.out)
         have HC := Lib.hid hC
         clear hC
         go_wp2_with fail
         go_roundw
         case rel => exact ⟨j + 1, by omega, by go_num, HC.out, H, HN⟩
         case measure => simp [intOf]; omega
      ·have HZ : Hid (decide (mayS D M V) = false) := Lib.hid (rm_3 (by have := HV.out; omega) he.out (by
        by_cases h : cb1 = true
        ·right; left
         have : sb1 = true := by
          rcases Bool.eq_false_or_eq_true sb1 with h2 | h2
          ·exact h2
          ·exact absurd ⟨h, h2⟩ hgo
         exact of_decide_eq_true (hsb.out.trans this)
        ·left
         rw [Bool.not_eq_true] at h
         exact of_decide_eq_false (hcb.out.trans h)))
       have HB9 := Lib.hid (below_then hb0 (hB5.trans (hC8.mono hB5.size)))
       cases cb1
       ·go_wp2_with fail
        go_ret
        exact ⟨bool_of HZ.out.symm, HB9.out⟩
       ·cases sb1
        ·exact absurd ⟨rfl, rfl⟩ hgo
        ·clear hgo
         go_wp2_with fail
         go_ret
         exact ⟨bool_of HZ.out.symm, HB9.out⟩
     ·have HZ := Lib.hid (rm_end (M := M) (k := k2) (by have := HV.out; omega) (by have := HV.out; have := H6.out; omega) HD.out (of_decide_eq_true h_one.out) (of_decide_eq_true h_two.out) hcs.out hnd.out)
      have HB9 := Lib.hid (below_then hb0 hB6)
      clear hS6 hB6
      go_wp2_with fail
      go_ret
      exact ⟨bool_of HZ.out.symm, HB9.out⟩
   ·have HZ : Hid (decide (mayS D M V) = false) := Lib.hid (rm_2 (by
     by_cases h1 : one = true
     ·by_cases h2 : two = true
      ·right; right
       have : (6 : Int) < (n3 : Int) := by
        rcases Int.lt_or_le 6 (n3 : Int) with h | h
        ·exact h
        ·exact absurd ⟨⟨h1, h2⟩, by omega⟩ hall
       rw [HV.out]; omega
      ·right; left
       rw [Bool.not_eq_true] at h2
       exact of_decide_eq_false (h_two.out.trans h2)
     ·left
      rw [Bool.not_eq_true] at h1
      exact of_decide_eq_false (h_one.out.trans h1)))
    have HB9 := Lib.hid (below_then hb0 hB4)
    cases one
    ·clear hall
     go_wp2_with fail
     go_ret
     exact ⟨bool_of HZ.out.symm, HB9.out⟩
    ·cases two
     ·clear hall
      go_wp2_with fail
      go_ret
      exact ⟨bool_of HZ.out.symm, HB9.out⟩
     ·have h6 : (6 : Int) < (n3 : Int) := by
       rcases Int.lt_or_le 6 (n3 : Int) with h | h
       ·exact h
       ·exact absurd ⟨⟨rfl, rfl⟩, by omega⟩ hall
      clear hall
      go_wp2_with fail
      go_ret
      exact ⟨bool_of HZ.out.symm, HB9.out⟩
end Go.Proofs.Ytmcccpbpijnbmaa
