/- PutR, BatchA, QryA, QryD, QryF -/
import Derived.Test.YtmcccpbpijnbmaaDoorJ12
import Derived.Test.YtmcccpbpijnbmaaDoorJ13
import Derived.Test.YtmcccpbpijnbmaaDoorJ16
import Derived.Test.YtmcccpbpijnbmaaDoorJ20
import Derived.Test.YtmcccpbpijnbmaaDoorJ22
import Derived.Test.YtmcccpbpijnbmaaDoorJ26
import Derived.BigQuiet
import Derived.Deep.QuietTactic
import Derived.Laws.MakeOwn
namespace Go.Proofs.YtmcccpbpijnbmaaDoor
set_option maxRecDepth 100000
open Go.RowKit

theorem one_slR (A : Option Addr) (n c : Nat) : ∀ u ∈ [Value.slice A n c], u.oneCell' = true := by
 intro u hu
 rw [List.mem_singleton.1 hu]; rfl
theorem OwnR.put1 {α : Type} {E : ElT α} (hE : E.Ok) {w : World} {base g n cap j : Nat} {S : Nat → Prop} {T : TypeId} {L : List α} {u : Value} {x : α}
  (h : OwnR E T 1 w base S (.slice (some ⟨g, 0, none⟩) n cap) L) (hj : j < L.length) (hx : E w (fun k => S k ∧ k ≠ g) [u] x) : OwnR E T 1 (w.setCell ⟨g, j, none⟩ u) base S (.slice (some ⟨g, 0, none⟩) n cap) (L.set j x) := by
 obtain ⟨vs, h1, h2⟩ := h
 have hn : L.length = n := by
  rcases h1.2 with ⟨h3, _⟩ | ⟨g', cap', cur, h3, _⟩
  ·cases h3
  ·injection h3 with _ h3 _
   exact h3.symm
 have hl := h1.1
 rw [hn, Nat.mul_one] at hl
 have hm : Mv w (fun k => S k ∧ (Value.slice (some ⟨g, 0, none⟩) n cap).ownBlock ≠ some k) (w.setCell ⟨g, j, none⟩ u) (fun k => S k ∧ (Value.slice (some ⟨g, 0, none⟩) n cap).ownBlock ≠ some k) := Mv.set w g j u fun h => h.2 rfl
 refine ⟨vs.set j u, ?_, fun i y hi => ?_⟩
 ·rw [List.length_set]
  rw [hn] at h1 ⊢
  exact (World.ownsRow.stored h1 j u).1
 ·by_cases hij : i = j
  ·subst hij
   rw [List.getElem?_set, if_pos rfl, if_pos hj] at hi
   simp only [Option.some.injEq] at hi
   subst hi
   have e : ((vs.set i u).drop (i * 1)).take 1 = [u] := by
    apply List.ext_getElem?
    intro t
    rw [List.getElem?_take, List.getElem?_drop, List.getElem?_set]
    match t with
    | 0 => simp; omega
    | t + 1 => simp
   rw [e]
   exact hE _ _ _ _ _ _ ((Mv.to w fun b hb _ => ⟨hb.1, fun e => hb.2 (Option.some.inj e).symm⟩).trans hm) hx
  ·rw [List.getElem?_set, if_neg (fun e => hij e.symm)] at hi
   have e : ((vs.set j u).drop (i * 1)).take 1 = (vs.drop (i * 1)).take 1 := by
    apply List.ext_getElem?
    intro t
    rw [List.getElem?_take, List.getElem?_take, List.getElem?_drop, List.getElem?_drop, List.getElem?_set]
    match t with
    | 0 => rw [if_neg (show ¬ j = i * 1 + 0 by omega)]
    | t + 1 => simp
   rw [e]
   exact hE _ _ _ _ _ _ hm (h2 i y hi)
theorem OwnR.cellAt {α : Type} {E : ElT α} {w : World} {base g n cap j : Nat} {S : Nat → Prop} {T : TypeId} {L : List α} (h : OwnR E T 1 w base S (.slice (some ⟨g, 0, none⟩) n cap) L) (hj : j < L.length) :
  ∃ u, w.cell? ⟨g, j, none⟩ = some u ∧ w.frozen? ⟨g, j, none⟩ = false := by
 obtain ⟨vs, h1, _⟩ := h
 have hn : L.length = n := by
  rcases h1.2 with ⟨h3, _⟩ | ⟨g', cap', cur, h3, _⟩
  ·cases h3
  ·injection h3 with _ h3 _
   exact h3.symm
 have hl := h1.1
 have hc := World.ownsRow.cells h1 (g := g) rfl j vs[j] (List.getElem?_eq_getElem (by omega))
 rw [add_flat, Nat.zero_add] at hc
 rw [hn] at h1
 exact ⟨_, hc, World.ownsRow.frozenAt h1 j⟩
theorem OwnR.setR {α : Type} {E : ElT α} {w : World} {S : Nat → Prop} {sz base : Nat} {T : TypeId} {v : Value} {L : List α} (h : OwnR E T sz w base S v L) (hE : E.Ok) {g i : Nat} {u : Value} (hv : v.ownBlock ≠ some g) (hS : ¬ S g) : OwnR E T sz (w.setCell ⟨g, i, none⟩ u) base S v L :=
 h.grown hE (r := g) ⟨rfl, rfl, rfl, by simp [World.setCell], fun k _ hk => by
  simp [World.setCell, Array.getElem?_modify]
  intro e; exact absurd (congrArg some e.symm) hk⟩ hv hS
def prow (m : Nat) : Array Value := (List.replicate m (Value.slice none 0 0)).toArray
theorem make_paths (m : Nat) (W : World) (hm : m ≤ 1000000) : (Instr.makeSlice 55 (.int .i64 (m : Int)) (.int .i64 (m : Int))).run Tryd.prog W = .ok (.slice (some ⟨W.heap.size, 0, none⟩) m m) (W.alloc (.cells (prow m) 41)) := by
 obtain ⟨i, hi, hz, hy, hx⟩ := info_parts info_rowT
 have h := run_make (P := Tryd.prog) W 55 41 i (.slice none 0 0) Tryd.underlying55 hi hz .i64 .i64 m m (by omega) (by omega) (by rw [hx]; omega) (by omega)
 rw [hy, Nat.mul_one, Int.toNat_natCast] at h
 rw [h]
 congr 2
 congr 1
 apply Array.ext
 ·simp [prow, madeCells]
 ·intro k h1 h2
  simp [prow, madeCells, Value.cells, Nat.mod_one]
theorem own_prow {w : World} {base g m : Nat} {S : Nat → Prop} (hb : Block w g 41 (prow m)) (h : base ≤ g) (hm : m ≤ 1000000) : OwnR (elOwn elText 9 1) 41 1 w base S (.slice (some ⟨g, 0, none⟩) m m) (List.replicate m []) := by
 refine ⟨List.replicate m (.slice none 0 0), ⟨by simp, .inr ⟨g, m, prow m, by simp, h, hb, by simp, by unfold maxLen; omega, by simp [prow], by simp [prow]⟩⟩, fun i x hi => ?_⟩
 have him : i < m := by
  have := (List.getElem?_eq_some_iff.1 hi).1
  simpa using this
 rw [List.getElem?_replicate, if_pos him] at hi
 simp only [Option.some.injEq] at hi
 subst hi
 have e : ((List.replicate m (Value.slice none 0 0)).drop (i * 1)).take 1 = [.slice none 0 0] := by
  rw [List.drop_replicate, List.take_replicate, Nat.min_eq_left (by omega)]
  rfl
 rw [e]
 exact ⟨_, rfl, OwnR.nil_ _ _ _, fun k hk => by cases hk⟩
end Go.Proofs.YtmcccpbpijnbmaaDoor
namespace Go.Proofs.YtmcccpbpijnbmaaDoor
set_option maxRecDepth 100000
open Go.RowKit

theorem cell_litX (w : World) (y : Value) (t : TypeId) : ∀ j u, [y][j]? = some u → (w.alloc (.cells #[y] t)).cell? ((⟨w.heap.size, 0, none⟩ : Addr).add j) = some u := by
 intro j u hj
 match j, hj with
 | 0, hj => simp at hj; subst hj; simp [add_flat, cell_new]
 | j + 1, hj => simp at hj
end Go.Proofs.YtmcccpbpijnbmaaDoor
namespace Go.Proofs.YtmcccpbpijnbmaaDoor
set_option maxRecDepth 100000
open Go.RowKit

theorem within_is {n a b : Int} {r : Bool} (h : Hid (decide (a ≤ n ∧ n ≤ b) = r)) (w : World) : Calls Tryd.prog 43 #[.int .i64 n, .int .i64 a, .int .i64 b] w fun e w' => e = .returned (.bool r) ∧ w = w' := by
 by_cases h1 : a ≤ n
 ·by_cases h2 : n ≤ b
  ·obtain rfl : r = true := by rw [← h.out]; exact decide_eq_true ⟨h1, h2⟩
   clear h
   go_enter Tryd.func43, Tryd.ntmps43
   go_wp2_with fail
   go_ret
   exact ⟨rfl, rfl⟩
  ·obtain rfl : r = false := by rw [← h.out]; exact decide_eq_false fun h => h2 h.2
   clear h
   go_enter Tryd.func43, Tryd.ntmps43
   go_wp2_with fail
   go_ret
   exact ⟨rfl, rfl⟩
 ·obtain rfl : r = false := by rw [← h.out]; exact decide_eq_false fun h => h1 h.1
  clear h
  go_enter Tryd.func43, Tryd.ntmps43
  go_wp2_with fail
  go_ret
  exact ⟨rfl, rfl⟩
theorem mayT_yes {A : Option Addr} {n c : Nat} {L : List Txt} {w : World} (h : HasT w w.heap.size A n c L) (hm : mayP L) : Calls Tryd.prog 61 #[.slice A n c] w fun e w' => e = .returned (.bool true) ∧ Below w.heap.size w w' := by
 have := may_any h
 rwa [decide_eq_true hm] at this
theorem mayT_no {A : Option Addr} {n c : Nat} {L : List Txt} {w : World} (h : HasT w w.heap.size A n c L) (hm : ¬ mayP L) : Calls Tryd.prog 61 #[.slice A n c] w fun e w' => e = .returned (.bool false) ∧ Below w.heap.size w w' := by
 have := may_any h
 rwa [decide_eq_false hm] at this
theorem boxes2 (w : World) (T1 T2 : TypeId) (cs ds : Array Value) : Below w.heap.size w ((w.alloc (.cells cs T1)).alloc (.cells ds T2)) ∧ Block ((w.alloc (.cells cs T1)).alloc (.cells ds T2)) w.heap.size T1 cs ∧ Block ((w.alloc (.cells cs T1)).alloc (.cells ds T2)) (w.heap.size + 1) T2 ds := by
 refine ⟨below_then (below_a1 w _) (below_a1 _ _), (Block.new w T1 cs).alloc _, ?_⟩
 have h := Block.new (w.alloc (.cells cs T1)) T2 ds
 rwa [show (w.alloc (.cells cs T1)).heap.size = w.heap.size + 1 by simp] at h
set_option maxHeartbeats 4000000 in
theorem fits_any {S : Nat → Prop} {A B1 B2 B3 : Option Addr} {n c m1 d1 m2 d2 m3 d3 : Nat} {D : List PDim} {d v : Int} {L : List (List Txt)} {w : World}
  (hs : HasDs w w.heap.size B1 m1 d1 D) (h : Row (elRow elText 1) 1 w S A n c L) :
  Calls Tryd.prog 53 #[schV B1 m1 d1 B2 m2 d2 B3 m3 d3, .agg #[.int .i64 d, .int .i64 v, .slice A n c]] w fun e w' => e = .returned (.bool (decide (fitFl D (d, v, L)))) ∧ Below w.heap.size w w' := by
 have hn := h.lenMax
 have HL := Lib.hid h.len
 have HD := Lib.hid hs.len
 have hm1 := hs.lenMax
 obtain ⟨hb0, hbs, hbl⟩ := boxes2 w 44 57 #[.slice B1 m1 d1, .slice B2 m2 d2, .slice B3 m3 d3] #[.int .i64 d, .int .i64 v, .slice A n c]
 have h0 := h.mv elPath_ok (Mv.belowS hb0 S)
 have hd0 := hs.belowS hb0
 clear hs h
 by_cases hd : 0 ≤ d ∧ d ≤ (m1 : Int) - 1
 ·obtain ⟨k, rfl⟩ : ∃ k : Nat, d = (k : Int) := ⟨d.toNat, by omega⟩
  have hk : k < m1 := by omega
  have H1 : Hid (decide ((0 : Int) ≤ (k : Int) ∧ (k : Int) ≤ (m1 : Int) - 1) = true) := Lib.hid (decide_eq_true hd)
  have i0 : (0 : Int) ≤ (k : Int) := by omega
  have i1 : (k : Int) < (m1 : Int) := by omega
  go_enter Tryd.func53, Tryd.ntmps53
  go_wp2_with fail
  generalize (w.alloc (.cells #[.slice B1 m1 d1, .slice B2 m2 d2, .slice B3 m3 d3] 44)).alloc (.cells #[.int .i64 k, .int .i64 v, .slice A n c] 57) = W at hb0 hbl hbs h0 hd0 ⊢
  obtain ⟨b, o, x, A', n', c', l, rfl, _, g1, g2, hl, he⟩ := hd0.at_ hk
  have HI := Lib.hid (fitFl_iff (v := v) (by have := HD.out; omega) he.out hl.len HL.out)
  have hlm := hl.lenMax
  have k0 : W.cell? ⟨w.heap.size + 1, 0, none⟩ = some (.int .i64 k) := hbl.cell 0
  have k1 : W.cell? ⟨w.heap.size + 1, 1, none⟩ = some (.int .i64 v) := hbl.cell 1
  have k2 : W.cell? ⟨w.heap.size + 1, 2, none⟩ = some (.slice A n c) := hbl.cell 2
  have s0 : W.cell? ⟨w.heap.size, 0, none⟩ = some (.slice (some ⟨b, o, none⟩) m1 d1) := hbs.cell 0
  have hz0 := hb0.size
  clear hd hl hd0 hbs
  by_cases hv : 1 ≤ v ∧ v ≤ (n' : Int)
  ·have H2 : Hid (decide ((1 : Int) ≤ v ∧ v ≤ (n' : Int)) = true) := Lib.hid (decide_eq_true hv)
   have HV := Lib.hid hv
   clear hv
   go_big_quiet ((first | (go_at_call 43; with_reducible exact quietS (within_is H1 _)) | (go_at_call 43; with_reducible exact quietS (within_is H2 _))))
   have hbq := below_drewN (Below.refl W.heap.size W) nq
   by_cases hm : 1 ≤ (n : Int) ∧ (n : Int) ≤ 6
   ·have H3 : Hid (decide ((1 : Int) ≤ (n : Int) ∧ (n : Int) ≤ 6) = true) := Lib.hid (decide_eq_true hm)
    go_wp2_with fail
    refine (within_is H3 _).mono ?_
    rintro e w2 ⟨rfl, rfl⟩
    have h1 : Row (elRow elText 1) 1 W (fun b => S b ∧ b < W.heap.size) A n c L := h0.mv elPath_ok (Mv.to W fun b hb hl => ⟨hb, hl⟩)
    have HS : ∀ b, (S b ∧ b < W.heap.size) → b < W.heap.size := fun b hb => hb.2
    have HBL := Lib.hid hbl
    clear h0 hbl g1 g2 s0 k0 k1
    go_wp2_with fail
    clear k2
    go_loopw [37] (fun i wr => ∃ j : Nat, j ≤ n ∧ i = .int .i64 j ∧ Hid (∀ p ∈ L.take j, mayP p ∧ (p.length : Int) = v) ∧ Below W.heap.size W wr) (fun i _ => n - (intOf i).toNat)
    case atStart => exact ⟨0, Nat.zero_le _, rfl, Lib.hid (fun p hp => by simp at hp), hbq⟩
    case round =>
     obtain ⟨j, hj, rfl, HA, hB⟩ := hrel
     by_cases hlt : j < n
     ·obtain ⟨b3, o3, A3, n3, c3, y, rfl, _, _, g3, hy, hye⟩ := (h1.mv elPath_ok (Mv.below hB HS)).at1 hlt
      have j0 : (0 : Int) ≤ (j : Int) := by omega
      have j1 : (j : Int) < (n : Int) := by omega
      have q1 : wr.cell? ⟨w.heap.size + 1, 1, none⟩ = some (.int .i64 v) := (HBL.out.below hB HBL.out.lt).cell 1
      have hT := hy.hasT
      have hly := hy.len
      have hnm := hy.lenMax
      clear hy
      by_cases hle : (n3 : Int) = v
      ·have he3 : ((n3 : Int) != v) = false := by rw [bne_eq_false_iff_eq]; exact hle
       have HLE := Lib.hid (show ((y.length : Nat) : Int) = v by rw [hly]; exact hle)
       clear hle hly
       by_cases hmy : mayP y
       ·have HM := Lib.hid hmy
        have HN := Lib.hid (mem_takeX (P := fun p => mayP p ∧ (p.length : Int) = v) hye.out ⟨hmy, HLE.out⟩ HA.out)
        clear hmy
        go_wp2_with fail
        refine (mayT_yes hT HM.out).mono ?_
        rintro e w3 ⟨rfl, hb3⟩
        have hB3 := hB.trans (hb3.mono hB.size)
        clear hB hb3 hT g3 q1 he3
        go_wp2_with fail
        go_roundw
        case rel => exact ⟨j + 1, by omega, by go_num, HN, hB3⟩
        case measure => simp [intOf]; omega
       ·have HM := Lib.hid hmy
        have H : Hid (decide (fitFl D ((k : Int), v, L)) = false) := Lib.hid (by
         rw [decide_eq_false_iff_not, HI.out]
         intro h
         exact HM.out (h.2.2 y (List.mem_of_getElem? hye.out)).1)
        clear hmy
        go_wp2_with fail
        refine (mayT_no hT HM.out).mono ?_
        rintro e w3 ⟨rfl, hb3⟩
        have hB3 := hb0.trans ((hB.trans (hb3.mono hB.size)).mono hz0)
        clear hB hb3 hT g3 q1 he3
        go_wp2_with fail
        go_ret
        exact ⟨by rw [H.out]; rfl, hB3⟩
      ·have he3 : ((n3 : Int) != v) = true := by rw [bne_iff_ne]; exact hle
       have H : Hid (decide (fitFl D ((k : Int), v, L)) = false) := Lib.hid (by
        rw [decide_eq_false_iff_not, HI.out]
        intro h
        have := (h.2.2 y (List.mem_of_getElem? hye.out)).2
        rw [hly] at this
        exact hle this)
       have hB3 := hb0.trans (hB.mono hz0)
       clear hle hly
       go_wp2_with fail
       go_ret
       exact ⟨by rw [H.out]; rfl, hB3⟩
     ·have H : Hid (decide (fitFl D ((k : Int), v, L)) = true) := Lib.hid (by
       have h3 := HA.out
       rw [List.take_of_length_le (by have := HL.out; omega)] at h3
       rw [decide_eq_true_iff, HI.out]
       exact ⟨HV.out, hm, h3⟩)
      have hB3 := hb0.trans (hB.mono hz0)
      go_wp2_with fail
      go_ret
      exact ⟨by rw [H.out]; rfl, hB3⟩
   ·have H3 : Hid (decide ((1 : Int) ≤ (n : Int) ∧ (n : Int) ≤ 6) = false) := Lib.hid (decide_eq_false hm)
    have H : Hid (decide (fitFl D ((k : Int), v, L)) = false) := Lib.hid (by
     rw [decide_eq_false_iff_not, HI.out]
     exact fun h => hm h.2.1)
    have hB3 := hb0.trans (hbq.mono hz0)
    clear hm
    go_wp2_with fail
    refine (within_is H3 _).mono ?_
    rintro e w2 ⟨rfl, rfl⟩
    go_wp2_with fail
    go_ret
    exact ⟨by rw [H.out]; rfl, hB3⟩
  ·have H2 : Hid (decide ((1 : Int) ≤ v ∧ v ≤ (n' : Int)) = false) := Lib.hid (decide_eq_false hv)
   have H : Hid (decide (fitFl D ((k : Int), v, L)) = false) := Lib.hid (by
    rw [decide_eq_false_iff_not, HI.out]
    exact fun h => hv h.1)
   clear hv
   go_big_quiet ((first | (go_at_call 43; with_reducible exact quietS (within_is H1 _)) | (go_at_call 43; with_reducible exact quietS (within_is H2 _))))
   have hB3 := hb0.trans ((below_drewN (Below.refl W.heap.size W) nq).mono hz0)
   go_wp2_with fail
   go_ret
   exact ⟨by rw [H.out]; rfl, hB3⟩
 ·have H1 : Hid (decide ((0 : Int) ≤ d ∧ d ≤ (m1 : Int) - 1) = false) := Lib.hid (decide_eq_false hd)
  have H := Lib.hid (decide_eq_false (fitFl_far (v := v) (L := L) HD.out hd))
  clear hd
  go_enter Tryd.func53, Tryd.ntmps53
  go_wp2_with fail
  generalize (w.alloc (.cells #[.slice B1 m1 d1, .slice B2 m2 d2, .slice B3 m3 d3] 44)).alloc (.cells #[.int .i64 d, .int .i64 v, .slice A n c] 57) = W at hb0 hbl hbs h0 hd0 ⊢
  have k0 : W.cell? ⟨w.heap.size + 1, 0, none⟩ = some (.int .i64 d) := hbl.cell 0
  have s0 : W.cell? ⟨w.heap.size, 0, none⟩ = some (.slice B1 m1 d1) := hbs.cell 0
  have hz0 := hb0.size
  go_big_quiet ((go_at_call 43; with_reducible exact quietS (within_is H1 _)))
  have hB3 := hb0.trans ((below_drewN (Below.refl W.heap.size W) nq).mono hz0)
  go_wp2_with fail
  go_ret
  exact ⟨by rw [H.out]; rfl, hB3⟩
end Go.Proofs.YtmcccpbpijnbmaaDoor
namespace Go.Proofs.YtmcccpbpijnbmaaDoor
set_option maxRecDepth 100000
open Go.RowKit

set_option maxHeartbeats 4000000 in
theorem passes_any {S S' : Nat → Prop} {A A1 A2 : Option Addr} {n c n1 c1 n2 c2 : Nat} {P : List (List Txt)} {q : Qry} {w : World} (hq : HasQ w S A1 n1 c1 A2 n2 c2 q) (hp : Row (elRow elText 1) 1 w S' A n c P) :
  Calls Tryd.prog 29 #[qryV A1 n1 c1 A2 n2 c2, .slice A n c] w fun e w' => e = .returned (.bool (decide (passQ P q))) ∧ Below w.heap.size w w' := by
 obtain ⟨G, F⟩ := q
 have hn := hp.lenMax
 have hn2 := hq.f.lenMax
 have HL := Lib.hid (show F.length = n2 from hq.f.len)
 have HP := Lib.hid hp.len
 have hb0 := below_a1 w (.cells #[.slice A1 n1 c1, .slice A2 n2 c2] 32)
 have hbl := Block.new w 32 #[.slice A1 n1 c1, .slice A2 n2 c2]
 have hq0 := hq.f.mv elFil_ok (Mv.belowS hb0 S)
 have hp0 := hp.mv elPath_ok (Mv.belowS hb0 S')
 clear hq hp
 go_enter Tryd.func29, Tryd.ntmps29
 go_wp2_with fail
 generalize w.alloc (.cells #[.slice A1 n1 c1, .slice A2 n2 c2] 32) = W at hb0 hbl hq0 hp0 ⊢
 have k1 : W.cell? ⟨w.heap.size, 1, none⟩ = some (.slice A2 n2 c2) := hbl.cell 1
 have h1 : Row elFil 3 W (fun b => S b ∧ b < W.heap.size) A2 n2 c2 F := hq0.mv elFil_ok (Mv.to W fun b hb hl => ⟨hb, hl⟩)
 have hp1 : Row (elRow elText 1) 1 W (fun b => S' b ∧ b < W.heap.size) A n c P := hp0.mv elPath_ok (Mv.to W fun b hb hl => ⟨hb, hl⟩)
 have HS : ∀ b, (S b ∧ b < W.heap.size) → b < W.heap.size := fun b hb => hb.2
 have HS' : ∀ b, (S' b ∧ b < W.heap.size) → b < W.heap.size := fun b hb => hb.2
 have hz0 := hb0.size
 clear hq0 hp0 hbl
 go_wp2_with fail
 go_step3
 go_wp2
 go_step3
 go_wp2
 clear k1
 go_loopw [12] (fun i wr => ∃ k : Nat, k ≤ n2 ∧ i = .int .i64 k ∧ Hid (∀ f ∈ F.take k, passF P f) ∧ Below W.heap.size W wr) (fun i _ => n2 - (intOf i).toNat)
 case atStart => exact ⟨0, Nat.zero_le _, rfl, Lib.hid (fun f hf => by simp at hf), Below.refl _ _⟩
 case round =>
  obtain ⟨k, hk, rfl, HA, hB⟩ := hrel
  by_cases hlt : k < n2
  ·obtain ⟨b, o, d, v, A', n', c', M', rfl, _, _, g0, g1, g2, hM, he⟩ := (h1.mv elFil_ok (Mv.below hB HS)).atF hlt
   have i0 : (0 : Int) ≤ (k : Int) := by omega
   have i1 : (k : Int) < (n2 : Int) := by omega
   have hbx := below_a1 wr (.cells #[.int .i64 d, .int .i64 v, .slice A' n' c'] 57)
   have hbf := Block.new wr 57 #[.int .i64 d, .int .i64 v, .slice A' n' c']
   have hB1 := hB.trans (hbx.mono hB.size)
   have hM1 := hM.mv elPath_ok (Mv.belowS hbx _)
   have hnm := hM.lenMax
   have HLM := Lib.hid hM.len
   clear hB hbx hM
   go_wp2_with fail
   generalize wr.alloc (.cells #[.int .i64 d, .int .i64 v, .slice A' n' c'] 57) = W1 at hB1 hbf hM1 ⊢
   have f0 : W1.cell? ⟨wr.heap.size, 0, none⟩ = some (.int .i64 d) := hbf.cell 0
   have f2 : W1.cell? ⟨wr.heap.size, 2, none⟩ = some (.slice A' n' c') := hbf.cell 2
   clear g0 g1 g2
   by_cases hd : 0 ≤ d ∧ d ≤ (n : Int) - 1
   ·obtain ⟨m, rfl⟩ : ∃ m : Nat, d = (m : Int) := ⟨d.toNat, by omega⟩
    have HW : Hid (decide ((0 : Int) ≤ (m : Int) ∧ (m : Int) ≤ (n : Int) - 1) = true) := Lib.hid (decide_eq_true hd)
    have hmn : m < n := by omega
    obtain ⟨b4, o4, A4, n4, c4, x, rfl, _, hb4, g4, hx, hxe⟩ := (hp1.mv elPath_ok (Mv.below hB1 HS')).at1 hmn
    have j0 : (0 : Int) ≤ (m : Int) := by omega
    have j1 : (m : Int) < (n : Int) := by omega
    have HX := Lib.hid hx
    clear hd hx
    go_wp2_with fail
    refine (within_is HW _).mono ?_
    rintro e w2 ⟨rfl, rfl⟩
    go_wp2_with fail
    obtain ⟨wo, rfl⟩ : ∃ wo, wo = wr := ⟨_, rfl⟩
    go_loopw [26] (fun i wx => ∃ j t : Nat, j ≤ n' ∧ i = .int .i64 j ∧ Hid (∀ p ∈ M'.take j, ¬ underP x p) ∧ wx = W1.drewN t) (fun i _ => n' - (intOf i).toNat)
    case atStart => exact ⟨0, 0, Nat.zero_le _, rfl, Lib.hid (fun p hp => by simp at hp), rfl⟩
    case round =>
     obtain ⟨j, t, hj, rfl, HN, hwx⟩ := hrel
     have HWX := Lib.hid hwx
     have e0 : wr.cell? ⟨wo.heap.size, 0, none⟩ = some (.int .i64 m) := by rw [hwx]; exact f0
     have e4 : wr.cell? ⟨b4, o4 + m, none⟩ = some (.slice A4 n4 c4) := by rw [hwx]; exact g4
     have hM2 : Row (elRow elText 1) 1 wr (fun b => S b ∧ b < W.heap.size) A' n' c' M' := by rw [hwx]; exact hM1.mv elPath_ok (Mv.drewN W1 t _)
     have hX2 : Row elText 1 wr (fun b => S' b ∧ b < W.heap.size) A4 n4 c4 x := by rw [hwx]; exact HX.out.mv elText_ok (Mv.drewN W1 t _)
     clear hwx
     by_cases hlj : j < n'
     ·obtain ⟨b5, o5, A5, n5, c5, p, rfl, _, _, g5, hp5, hpe⟩ := hM2.at1 hlj
      have j2 : (0 : Int) ≤ (j : Int) := by omega
      have j3 : (j : Int) < (n' : Int) := by omega
      have hTx := hX2.hasT
      have hTp := hp5.hasT
      clear hM2 hX2 hp5
      by_cases hu : underP x p
      ·have HU := Lib.hid hu
       have HF : Hid (∀ f ∈ F.take (k + 1), passF P f) := Lib.hid (mem_takeX he.out ⟨by simp, by simp only; have := HP.out; omega, p, List.mem_of_getElem? hpe.out, by rw [show P.getD ((m : Int), v, M').1.toNat [] = x by simp [List.getD_eq_getElem?_getD, hxe.out]]; exact hu⟩ HA.out)
       clear hu
       go_wp2_with fail
       refine (under_yes hTx hTp HU.out).mono ?_
       rintro e w2 ⟨rfl, t2, rfl⟩
       have hB3 : Below W.heap.size W (wr.drewN t2) := by rw [HWX.out, World.drewN_drewN]; exact below_drewN hB1 _
       clear hTx hTp e0 e4 g5
       go_wp2_with fail
       go_roundw
       case rel => exact ⟨k + 1, by omega, by go_num, HF, hB3⟩
       case measure => simp [intOf]; omega
      ·have HU := Lib.hid hu
       have HN2 := Lib.hid (mem_takeX (P := fun p => ¬ underP x p) hpe.out hu HN.out)
       clear hu
       go_wp2_with fail
       refine (under_no hTx hTp HU.out).mono ?_
       rintro e w2 ⟨rfl, t2, rfl⟩
       clear hTx hTp e0 e4 g5
       go_wp2_with fail
       go_roundw
       case rel => exact ⟨j + 1, t + t2, by omega, by go_num, HN2, by rw [HWX.out, World.drewN_drewN]⟩
       case measure => simp [intOf]; omega
     ·have H : Hid (decide (passQ P (G, F)) = false) := Lib.hid (by
       rw [decide_eq_false_iff_not]
       intro h
       obtain ⟨_, _, p, hp, hu⟩ := h _ (List.mem_of_getElem? he.out)
       have h3 := HN.out
       rw [List.take_of_length_le (by have := HLM.out; omega)] at h3
       rw [show P.getD ((m : Int), v, M').1.toNat [] = x by simp [List.getD_eq_getElem?_getD, hxe.out]] at hu
       exact h3 p hp hu)
      have hB3 : Below w.heap.size w wr := hb0.trans ((show Below W.heap.size W wr by rw [HWX.out]; exact below_drewN hB1 _).mono hz0)
      clear hM2 hX2 e0 e4
      go_wp2_with fail
      rw [Exit.noGoto_ret]
      go_ret
      exact ⟨by rw [H.out]; rfl, hB3⟩
   ·have HW : Hid (decide ((0 : Int) ≤ d ∧ d ≤ (n : Int) - 1) = false) := Lib.hid (decide_eq_false hd)
    have H : Hid (decide (passQ P (G, F)) = false) := Lib.hid (by
     rw [decide_eq_false_iff_not]
     intro h
     obtain ⟨h1, h2, _⟩ := h _ (List.mem_of_getElem? he.out)
     have := HP.out
     simp only at h1 h2
     exact hd ⟨h1, by omega⟩)
    have hB3 := hb0.trans (hB1.mono hz0)
    clear hd hM1
    go_wp2_with fail
    refine (within_is HW _).mono ?_
    rintro e w2 ⟨rfl, rfl⟩
    go_wp2_with fail
    rw [Exit.noGoto_ret]
    go_ret
    exact ⟨by rw [H.out]; rfl, hB3⟩
  ·have H : Hid (decide (passQ P (G, F)) = true) := Lib.hid (by
    have h3 := HA.out
    rw [List.take_of_length_le (by have := HL.out; omega)] at h3
    rw [decide_eq_true_iff]
    exact h3)
   have hB3 := hb0.trans (hB.mono hz0)
   go_wp2_with fail
   rw [Exit.noGoto_ret]
   go_ret
   exact ⟨by rw [H.out]; rfl, hB3⟩
end Go.Proofs.YtmcccpbpijnbmaaDoor
namespace Go.Proofs.YtmcccpbpijnbmaaDoor
set_option maxRecDepth 100000
open Go.RowKit

theorem plainFl_iff {d v : Int} {L : List (List Txt)} {n : Nat} (hn : L.length = n) : plainFl (d, v, L) ↔ (0 ≤ d ∧ d ≤ 2) ∧ (0 ≤ v ∧ v ≤ 3) ∧ (n : Int) ≤ 6 ∧ ∀ p ∈ L, mayP p := by
 subst hn
 unfold plainFl
 simp only
 constructor
 ·rintro ⟨h1, h2, h3, h4⟩; exact ⟨h1, h2, by omega, h4⟩
 ·rintro ⟨h1, h2, h3, h4⟩; exact ⟨h1, h2, by omega, h4⟩
theorem plainQ_iff {G : List Int} {F : List Fil} {n m : Nat} (hn : G.length = n) (hm : F.length = m) : plainQ (G, F) ↔ (n : Int) ≤ 3 ∧ (m : Int) ≤ 3 ∧ (∀ x ∈ G, 0 ≤ x ∧ x ≤ 3) ∧ ∀ f ∈ F, plainFl f := by
 subst hn hm
 unfold plainQ
 simp only
 constructor
 ·rintro ⟨h1, h2, h3, h4⟩; exact ⟨by omega, by omega, h3, h4⟩
 ·rintro ⟨h1, h2, h3, h4⟩; exact ⟨by omega, by omega, h3, h4⟩
set_option maxHeartbeats 4000000 in
theorem plainFl_any {S : Nat → Prop} {A : Option Addr} {n c : Nat} {d v : Int} {L : List (List Txt)} {w : World} (h : Row (elRow elText 1) 1 w S A n c L) :
  Calls Tryd.prog 45 #[.agg #[.int .i64 d, .int .i64 v, .slice A n c]] w fun e w' => e = .returned (.bool (decide (plainFl (d, v, L)))) ∧ Below w.heap.size w w' := by
 have hn := h.lenMax
 have HI := Lib.hid (plainFl_iff (d := d) (v := v) h.len)
 have HL := Lib.hid h.len
 have hb0 := below_a1 w (.cells #[.int .i64 d, .int .i64 v, .slice A n c] 57)
 have hbl := Block.new w 57 #[.int .i64 d, .int .i64 v, .slice A n c]
 have h0 := h.mv elPath_ok (Mv.belowS hb0 S)
 clear h
 obtain ⟨r1, hr1⟩ : ∃ r, Hid (decide ((0 : Int) ≤ d ∧ d ≤ 2) = r) := ⟨_, Lib.hid rfl⟩
 obtain ⟨r2, hr2⟩ : ∃ r, Hid (decide ((0 : Int) ≤ v ∧ v ≤ 3) = r) := ⟨_, Lib.hid rfl⟩
 by_cases hok : (0 ≤ d ∧ d ≤ 2) ∧ (0 ≤ v ∧ v ≤ 3) ∧ (n : Int) ≤ 6
 ·obtain ⟨hd, hv, h6⟩ := hok
  obtain rfl : r1 = true := by rw [← hr1.out]; exact decide_eq_true hd
  obtain rfl : r2 = true := by rw [← hr2.out]; exact decide_eq_true hv
  have HD := Lib.hid hd
  have HV := Lib.hid hv
  clear hd hv
  go_enter Tryd.func45, Tryd.ntmps45
  go_wp2_with fail
  refine (within_is hr1 _).mono ?_
  rintro e w2 ⟨rfl, rfl⟩
  go_wp2_with fail
  refine (within_is hr2 _).mono ?_
  rintro e w2 ⟨rfl, rfl⟩
  go_wp2_with fail
  generalize w.alloc (.cells #[.int .i64 d, .int .i64 v, .slice A n c] 57) = W at hb0 hbl h0 ⊢
  have h1 : Row (elRow elText 1) 1 W (fun b => S b ∧ b < W.heap.size) A n c L := h0.mv elPath_ok (Mv.to W fun b hb hl => ⟨hb, hl⟩)
  have HS : ∀ b, (S b ∧ b < W.heap.size) → b < W.heap.size := fun b hb => hb.2
  have hz0 := hb0.size
  clear h0 hbl
  go_loopw [24] (fun i wr => ∃ j : Nat, j ≤ n ∧ i = .int .i64 j ∧ Hid (∀ p ∈ L.take j, mayP p) ∧ Below W.heap.size W wr) (fun i _ => n - (intOf i).toNat)
  case atStart => exact ⟨0, Nat.zero_le _, rfl, Lib.hid (fun p hp => by simp at hp), Below.refl _ _⟩
  case round =>
   obtain ⟨j, hj, rfl, HA, hB⟩ := hrel
   by_cases hlt : j < n
   ·obtain ⟨b3, o3, A3, n3, c3, y, rfl, _, _, g3, hy, hye⟩ := (h1.mv elPath_ok (Mv.below hB HS)).at1 hlt
    have j0 : (0 : Int) ≤ (j : Int) := by omega
    have j1 : (j : Int) < (n : Int) := by omega
    have hT := hy.hasT
    clear hy
    by_cases hmy : mayP y
    ·have HM := Lib.hid hmy
     have HN := Lib.hid (mem_takeX hye.out hmy HA.out)
     clear hmy
     go_wp2_with fail
     refine (mayT_yes hT HM.out).mono ?_
     rintro e w3 ⟨rfl, hb3⟩
     have hB3 := hB.trans (hb3.mono hB.size)
     clear hB hb3 hT g3
     go_wp2_with fail
     go_roundw
     case rel => exact ⟨j + 1, by omega, by go_num, HN, hB3⟩
     case measure => simp [intOf]; omega
    ·have HM := Lib.hid hmy
     have H : Hid (decide (plainFl (d, v, L)) = false) := Lib.hid (by
      rw [decide_eq_false_iff_not, HI.out]
      intro h
      exact HM.out (h.2.2.2 y (List.mem_of_getElem? hye.out)))
     clear hmy
     go_wp2_with fail
     refine (mayT_no hT HM.out).mono ?_
     rintro e w3 ⟨rfl, hb3⟩
     have hB3 := hb0.trans ((hB.trans (hb3.mono hB.size)).mono hz0)
     clear hB hb3 hT g3
     go_wp2_with fail
     go_ret
     exact ⟨by rw [H.out]; rfl, hB3⟩
   ·have H : Hid (decide (plainFl (d, v, L)) = true) := Lib.hid (by
     have h3 := HA.out
     rw [List.take_of_length_le (by have := HL.out; omega)] at h3
     rw [decide_eq_true_iff, HI.out]
     exact ⟨HD.out, HV.out, h6, h3⟩)
    have hB3 := hb0.trans (hB.mono hz0)
    go_wp2_with fail
    go_ret
    exact ⟨by rw [H.out]; rfl, hB3⟩
 ·have H : Hid (decide (plainFl (d, v, L)) = false) := Lib.hid (by
   rw [decide_eq_false_iff_not, HI.out]
   exact fun h => hok ⟨h.1, h.2.1, h.2.2.1⟩)
  by_cases hd : 0 ≤ d ∧ d ≤ 2
  ·obtain rfl : r1 = true := by rw [← hr1.out]; exact decide_eq_true hd
   by_cases hv : 0 ≤ v ∧ v ≤ 3
   ·obtain rfl : r2 = true := by rw [← hr2.out]; exact decide_eq_true hv
    have h6 : (6 : Int) < (n : Int) := by
     rcases Int.lt_or_le 6 (n : Int) with h | h
     ·exact h
     ·exact absurd ⟨hd, hv, h⟩ hok
    clear hok hd hv
    go_enter Tryd.func45, Tryd.ntmps45
    go_wp2_with fail
    refine (within_is hr1 _).mono ?_
    rintro e w2 ⟨rfl, rfl⟩
    go_wp2_with fail
    refine (within_is hr2 _).mono ?_
    rintro e w2 ⟨rfl, rfl⟩
    go_wp2_with fail
    go_ret
    exact ⟨by rw [H.out]; rfl, hb0⟩
   ·obtain rfl : r2 = false := by rw [← hr2.out]; exact decide_eq_false hv
    clear hok hd hv
    go_enter Tryd.func45, Tryd.ntmps45
    go_wp2_with fail
    refine (within_is hr1 _).mono ?_
    rintro e w2 ⟨rfl, rfl⟩
    go_wp2_with fail
    refine (within_is hr2 _).mono ?_
    rintro e w2 ⟨rfl, rfl⟩
    go_wp2_with fail
    go_ret
    exact ⟨by rw [H.out]; rfl, hb0⟩
  ·obtain rfl : r1 = false := by rw [← hr1.out]; exact decide_eq_false hd
   clear hok hd
   go_enter Tryd.func45, Tryd.ntmps45
   go_wp2_with fail
   refine (within_is hr1 _).mono ?_
   rintro e w2 ⟨rfl, rfl⟩
   go_wp2_with fail
   go_ret
   exact ⟨by rw [H.out]; rfl, hb0⟩
set_option maxHeartbeats 4000000 in
theorem plainQ_any {S : Nat → Prop} {A1 A2 : Option Addr} {n1 c1 n2 c2 : Nat} {q : Qry} {w : World} (hq : HasQ w S A1 n1 c1 A2 n2 c2 q) :
  Calls Tryd.prog 31 #[qryV A1 n1 c1 A2 n2 c2] w fun e w' => e = .returned (.bool (decide (plainQ q))) ∧ Below w.heap.size w w' := by
 obtain ⟨G, F⟩ := q
 have hn1 := hq.g.lenMax
 have hn2 := hq.f.lenMax
 have HI := Lib.hid (plainQ_iff (show G.length = n1 from hq.g.len) (show F.length = n2 from hq.f.len))
 have HG := Lib.hid (show G.length = n1 from hq.g.len)
 have HF := Lib.hid (show F.length = n2 from hq.f.len)
 have hb0 := below_a1 w (.cells #[.slice A1 n1 c1, .slice A2 n2 c2] 32)
 have hbl := Block.new w 32 #[.slice A1 n1 c1, .slice A2 n2 c2]
 have h0 := hq.belowS hb0
 clear hq
 by_cases h3 : (3 : Int) < (n1 : Int)
 ·have H : Hid (decide (plainQ (G, F)) = false) := Lib.hid (by
   rw [decide_eq_false_iff_not, HI.out]
   intro h; have := h.1; omega)
  go_enter Tryd.func31, Tryd.ntmps31
  go_wp2_with fail
  go_ret
  exact ⟨by rw [H.out]; rfl, hb0⟩
 ·by_cases h4 : (3 : Int) < (n2 : Int)
  ·have H : Hid (decide (plainQ (G, F)) = false) := Lib.hid (by
    rw [decide_eq_false_iff_not, HI.out]
    intro h; have := h.2.1; omega)
   go_enter Tryd.func31, Tryd.ntmps31
   go_wp2_with fail
   go_ret
   exact ⟨by rw [H.out]; rfl, hb0⟩
  ·go_enter Tryd.func31, Tryd.ntmps31
   go_wp2_with fail
   generalize w.alloc (.cells #[.slice A1 n1 c1, .slice A2 n2 c2] 32) = W at hb0 hbl h0 ⊢
   have h1 : Row elInt 1 W (fun b => S b ∧ b < W.heap.size) A1 n1 c1 G := h0.g.mv elInt_ok (Mv.to W fun b hb hl => ⟨hb, hl⟩)
   have h2 : Row elFil 3 W (fun b => S b ∧ b < W.heap.size) A2 n2 c2 F := h0.f.mv elFil_ok (Mv.to W fun b hb hl => ⟨hb, hl⟩)
   have HS : ∀ b, (S b ∧ b < W.heap.size) → b < W.heap.size := fun b hb => hb.2
   have hz0 := hb0.size
   have k1 : W.cell? ⟨w.heap.size, 1, none⟩ = some (.slice A2 n2 c2) := hbl.cell 1
   clear h0 hbl
   go_loop [20] (fun i => ∃ k : Nat, k ≤ n1 ∧ i = .int .i64 k ∧ Hid (∀ x ∈ G.take k, 0 ≤ x ∧ x ≤ 3)) (fun i => n1 - (intOf i).toNat)
   case atStart => exact ⟨0, Nat.zero_le _, rfl, Lib.hid (fun x hx => by simp at hx)⟩
   case round =>
    obtain ⟨k, hk, rfl, HA⟩ := hrel
    by_cases hlt : k < n1
    ·obtain ⟨b, o, x, rfl, _, g0, hx⟩ := h1.hasI.at_ hlt
     have hmem : x ∈ G := by
      rw [hx.out, List.getD_eq_getElem?_getD, List.getElem?_eq_getElem (show k < G.length by have := HG.out; omega)]
      exact List.getElem_mem _
     have hget : G[k]? = some x := by
      rw [hx.out, List.getD_eq_getElem?_getD, List.getElem?_eq_getElem (show k < G.length by have := HG.out; omega)]
      rfl
     have HM := Lib.hid hmem
     have HGet := Lib.hid hget
     have i0 : (0 : Int) ≤ (k : Int) := by omega
     have i1 : (k : Int) < (n1 : Int) := by omega
     clear hmem hget hx
     by_cases hd : 0 ≤ x ∧ x ≤ 3
     ·have HW : Hid (decide ((0 : Int) ≤ x ∧ x ≤ 3) = true) := Lib.hid (decide_eq_true hd)
      have HN := Lib.hid (mem_takeX (P := fun x => 0 ≤ x ∧ x ≤ 3) HGet.out hd HA.out)
      clear hd
      go_wp2_with fail
      refine (within_is HW _).mono ?_
      rintro e w2 ⟨rfl, rfl⟩
      go_wp2_with fail
      go_round
      case rel => exact ⟨k + 1, by omega, by go_num, HN⟩
      case measure => simp [intOf]; omega
     ·have HW : Hid (decide ((0 : Int) ≤ x ∧ x ≤ 3) = false) := Lib.hid (decide_eq_false hd)
      have H : Hid (decide (plainQ (G, F)) = false) := Lib.hid (by
       rw [decide_eq_false_iff_not, HI.out]
       intro h; exact hd (h.2.2.1 x HM.out))
      clear hd
      go_wp2_with fail
      refine (within_is HW _).mono ?_
      rintro e w2 ⟨rfl, rfl⟩
      go_wp2_with fail
      go_ret
      exact ⟨by rw [H.out]; rfl, hb0⟩
    ·have HGA : Hid (∀ x ∈ G, 0 ≤ x ∧ x ≤ 3) := Lib.hid (by
      have h3 := HA.out
      rwa [List.take_of_length_le (by have := HG.out; omega)] at h3)
     go_wp2_with fail
     clear k1
     go_loopw [31] (fun i wr => ∃ k : Nat, k ≤ n2 ∧ i = .int .i64 k ∧ Hid (∀ f ∈ F.take k, plainFl f) ∧ Below W.heap.size W wr) (fun i _ => n2 - (intOf i).toNat)
     case atStart => exact ⟨0, Nat.zero_le _, rfl, Lib.hid (fun p hp => by simp at hp), Below.refl _ _⟩
     case round =>
      obtain ⟨j, hj, rfl, HA2, hB⟩ := hrel
      by_cases hlj : j < n2
      ·obtain ⟨b, o, d, v, A', n', c', M', rfl, _, _, g0, g1, g2, hM, he⟩ := (h2.mv elFil_ok (Mv.below hB HS)).atF hlj
       have i0 : (0 : Int) ≤ (j : Int) := by omega
       have i1 : (j : Int) < (n2 : Int) := by omega
       have hbx := below_a1 wr (.cells #[.int .i64 d, .int .i64 v, .slice A' n' c'] 57)
       have hbf := Block.new wr 57 #[.int .i64 d, .int .i64 v, .slice A' n' c']
       have hB1 := hB.trans (hbx.mono hB.size)
       have HC := Lib.hid (plainFl_any (d := d) (v := v) (hM.mv elPath_ok (Mv.belowS hbx _)))
       clear hB hbx hM
       go_wp2_with fail
       generalize wr.alloc (.cells #[.int .i64 d, .int .i64 v, .slice A' n' c'] 57) = W1 at hB1 hbf HC ⊢
       have k0 : W1.cell? ⟨wr.heap.size, 0, none⟩ = some (.int .i64 d) := hbf.cell 0
       have k1 : W1.cell? ⟨wr.heap.size, 1, none⟩ = some (.int .i64 v) := hbf.cell 1
       have k2 : W1.cell? ⟨wr.heap.size, 2, none⟩ = some (.slice A' n' c') := hbf.cell 2
       clear g0 g1 g2
       by_cases hf : plainFl (d, v, M')
       ·rw [decide_eq_true hf] at HC
        have HN := Lib.hid (mem_takeX he.out hf HA2.out)
        clear hf
        go_wp2_with fail
        refine HC.out.mono ?_
        rintro e w3 ⟨rfl, hb3⟩
        have hB3 := hB1.trans (hb3.mono hB1.size)
        clear HC hB1 hb3 hbf k0 k1 k2
        go_wp2_with fail
        go_roundw
        case rel => exact ⟨j + 1, by omega, by go_num, HN, hB3⟩
        case measure => simp [intOf]; omega
       ·rw [decide_eq_false hf] at HC
        have H : Hid (decide (plainQ (G, F)) = false) := Lib.hid (by
         rw [decide_eq_false_iff_not, HI.out]
         intro h
         exact hf (h.2.2.2 _ (List.mem_of_getElem? he.out)))
        clear hf
        go_wp2_with fail
        refine HC.out.mono ?_
        rintro e w3 ⟨rfl, hb3⟩
        have hB3 := hb0.trans ((hB1.trans (hb3.mono hB1.size)).mono hz0)
        clear HC hB1 hb3 hbf k0 k1 k2
        go_wp2_with fail
        go_ret
        exact ⟨by rw [H.out]; rfl, hB3⟩
      ·have H : Hid (decide (plainQ (G, F)) = true) := Lib.hid (by
        have h5 := HA2.out
        rw [List.take_of_length_le (by have := HF.out; omega)] at h5
        rw [decide_eq_true_iff, HI.out]
        exact ⟨by omega, by omega, HGA.out, h5⟩)
       have hB3 := hb0.trans (hB.mono hz0)
       go_wp2_with fail
       go_ret
       exact ⟨by rw [H.out]; rfl, hB3⟩
end Go.Proofs.YtmcccpbpijnbmaaDoor
