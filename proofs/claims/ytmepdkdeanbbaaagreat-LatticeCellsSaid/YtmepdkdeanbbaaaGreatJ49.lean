/- LtB, LtC, LtH, LtI, LtJ, LtK, LtL, LtN, LtP, LtQ, LtR, LuL, LuM -/
import Derived.Test.YtmepdkdeanbbaaaGreatJ1
import Derived.Test.YtmepdkdeanbbaaaGreatJ2
import Derived.Test.YtmepdkdeanbbaaaGreatJ8
import Derived.Test.YtmepdkdeanbbaaaGreatJ15
import Derived.Test.YtmepdkdeanbbaaaGreatJ21
import Derived.Test.YtmepdkdeanbbaaaGreatJ26
import Derived.Test.YtmepdkdeanbbaaaGreatJ34
import Derived.Test.YtmepdkdeanbbaaaGreatJ35
import Derived.Test.YtmepdkdeanbbaaaGreatJ37
import Derived.Test.YtmepdkdeanbbaaaGreatJ39
import Derived.Test.YtmepdkdeanbbaaaGreatJ45
import Derived.Test.YtmepdkdeanbbaaaGreatJ46
import Derived.Test.YtmepdkdeanbbaaaGreatJ47
import Derived.Test.YtmepdkdeanbbaaaGreatJ48
import Derived.BigQuiet
import Derived.Deep.DeepCutAuto
import Derived.Deep.QuietTactic
import Derived.Deep.RegionLaw
import Derived.Shelf.SlSortCmp.NoneTotal
import Derived.StillTailTactics
namespace Go.Proofs.YtmepdkdeanbbaaaGreat
set_option maxRecDepth 100000
open Go.RowKit Go.Maps Go.Sort Go.Shelf

theorem row_five (w : World) (a b c d e : Value) : Block (w.alloc (.cells #[a, b, c, d, e] 73)) w.heap.size 73 #[a, b, c, d, e] := Block.new w _ _
theorem alloc_two (w : World) (a b : Obj) : (w.alloc a).alloc b = grow (w.drewN 0) #[a, b] := by
 rw [alloc_eq_grow, alloc_eq_grow, grow_grow]
 rfl
set_option maxRecDepth 100000 in
set_option maxHeartbeats 1000000 in
theorem rowsC_any {S S' : Nat → Prop} {us vs : List Value} {x y : PKey × PC} {W : World} (h : elRw W S us x) (h' : elRw W S' vs y) :
  Calls Tryz.prog 59 #[.agg us.toArray, .agg vs.toArray] W fun e w' => e = .returned (.int .i64 (cmpL x.1 y.1)) ∧ ∃ q os, w' = grow (W.drewN q) os := by
 obtain ⟨A0, n0, c0, n, A1, n1, c1, A2, n2, c2, A3, n3, c3, K, Su, M, X, rfl, hK, _, _, _, rfl⟩ := elRw_open h
 obtain ⟨B0, m0, d0, q, B1, m1, d1, B2, m2, d2, B3, m3, d3, K', Su', M', X', rfl, hK', _, _, _, rfl⟩ := elRw_open h'
 obtain ⟨W2, hW⟩ : ∃ W2, Hid (W2 = (W.alloc (.cells #[.slice A0 n0 c0, .int .i64 n, .slice A1 n1 c1, .slice A2 n2 c2, .slice A3 n3 c3] 73)).alloc (.cells #[.slice B0 m0 d0, .int .i64 q, .slice B1 m1 d1, .slice B2 m2 d2, .slice B3 m3 d3] 73)) := ⟨_, Lib.hid rfl⟩
 have hb1 : Below W.heap.size W W2 := by rw [hW.out]; exact below_then (below_a1 W _) (below_a1 _ _)
 have k0 : W2.cell? ⟨W.heap.size, 0, none⟩ = some (.slice A0 n0 c0) := by
  rw [hW.out]
  exact ((row_five W _ _ _ _ _).alloc _).cell 0
 have k1 : W2.cell? ⟨W.heap.size + 1, 0, none⟩ = some (.slice B0 m0 d0) := by
  rw [hW.out]
  have := (row_five (W.alloc (.cells #[.slice A0 n0 c0, .int .i64 n, .slice A1 n1 c1, .slice A2 n2 c2, .slice A3 n3 c3] 73)) (.slice B0 m0 d0) (.int .i64 q) (.slice B1 m1 d1) (.slice B2 m2 d2) (.slice B3 m3 d3)).cell 0
  rwa [World.size_alloc] at this
 obtain ⟨r, hr⟩ : ∃ r, Hid (cmpL K K' = r) := ⟨_, Lib.hid rfl⟩
 have HC := Lib.hid (cmpL_any (hK.mv elPathR_ok (Mv.belowS hb1 S)) (hK'.mv elPathR_ok (Mv.belowS hb1 S')) hr)
 show Calls _ _ _ _ fun e w' => e = .returned (.int .i64 (cmpL K K')) ∧ _
 rw [hr.out]
 clear h h' hK hK' hb1
 go_enter Tryz.func59, Tryz.ntmps59
 go_wp2_with fail
 rw [← hW.out]
 go_wp2_with fail
 refine HC.out.mono ?_
 rintro e w3 ⟨rfl, rfl⟩
 go_wp2_with fail
 go_ret
 exact ⟨rfl, 0, #[_, _], by rw [hW.out]; exact alloc_two W _ _⟩
/-! ### arrays of elements of several cells -/
section
variable {α : Type} {enc : α → List Value} {k : Nat} (hk : ∀ x, (enc x).length = k)
include hk
theorem flatG_len (d : List α) : (d.flatMap enc).length = d.length * k := by
 induction d with
 | nil => simp
 | cons a d ih => rw [List.flatMap_cons, List.length_append, ih, hk, List.length_cons, Nat.succ_mul, Nat.add_comm]
theorem flatG_at (d : List α) (i c : Nat) (hc : c < k) (x : α) (hx : d[i]? = some x) : (d.flatMap enc)[i * k + c]? = (enc x)[c]? := by
 induction d generalizing i with
 | nil => simp at hx
 | cons a d ih =>
  rw [List.flatMap_cons]
  cases i with
  | zero =>
   simp at hx
   subst hx
   rw [Nat.zero_mul, Nat.zero_add, List.getElem?_append_left (by rw [hk]; exact hc)]
  | succ i =>
   rw [List.getElem?_append_right (by rw [hk, Nat.succ_mul]; omega)]
   have e : (i + 1) * k + c - (enc a).length = i * k + c := by rw [hk, Nat.succ_mul]; omega
   rw [e]
   exact ih i (by simpa using hx)
theorem flatG_is [Inhabited α] (h0 : 0 < k) (d : Array α) : flatK enc k d = (d.toList.flatMap enc).toArray := by
 refine ext_get! (by rw [size_flatK]; show d.size * k = (List.flatMap enc d.toList).length; rw [flatG_len hk, Array.length_toList]) fun t ht => ?_
 rw [size_flatK] at ht
 rw [get_flatK _ _ _ t ht]
 have h1 : t / k < d.size := (Nat.div_lt_iff_lt_mul h0).2 ht
 have h2 : t % k < k := Nat.mod_lt _ h0
 have hx : d.toList[t / k]? = some d[t / k] := by rw [Array.getElem?_toList, Array.getElem?_eq_getElem h1]
 have h3 := flatG_at hk d.toList (t / k) (t % k) h2 _ hx
 rw [show t / k * k + t % k = t from by rw [Nat.mul_comm]; exact Nat.div_add_mod t k] at h3
 have h4 : t < (d.toList.flatMap enc).length := by rw [flatG_len hk]; simpa using ht
 rw [List.getElem?_eq_getElem h4] at h3
 rw [getElem!_pos d _ h1, getElem!_pos (d.toList.flatMap enc).toArray t (by simpa using h4)]
 have h5 : t % k < (enc d[t / k]).length := by rw [hk]; exact h2
 rw [List.getElem?_eq_getElem h5] at h3
 rw [getElem!_pos (enc d[t / k]) _ h5]
 simp only [List.getElem_toArray]
 exact (Option.some.inj h3).symm
end
section
variable {α : Type} [Inhabited α] {enc : α → List Value} {k : Nat}
theorem heap_sortK (w : World) (g m : Nat) (d : Array α) (os : Array Obj) {b : Nat} (hb : b < w.heap.size) (hne : b ≠ g) : (sortWorldK enc k w g 0 m d os).heap[b]? = w.heap[b]? := by
 show (grow (putRowK enc k (Sort.ahead w m) g 0 d) os).heap[b]? = _
 rw [heap_grow_old _ _ (by simpa [putRowK, putRow, mapBlock, Sort.ahead] using hb)]
 simp only [putRowK, putRow, mapBlock, Sort.ahead, Array.getElem?_modify, if_neg (fun e : g = b => hne e.symm)]
theorem size_sortK (w : World) (g m : Nat) (d : Array α) (os : Array Obj) : w.heap.size ≤ (sortWorldK enc k w g 0 m d os).heap.size := by
 show _ ≤ (grow (putRowK enc k (Sort.ahead w m) g 0 d) os).heap.size
 rw [size_grow]
 have h1 : (putRowK enc k (Sort.ahead w m) g 0 d).heap.size = w.heap.size := by simp [putRowK, putRow, mapBlock, Sort.ahead]
 omega
theorem mv_sortK (w : World) (g m : Nat) (d : Array α) (os : Array Obj) (S : Nat → Prop) : Mv w (fun b => S b ∧ b ≠ g) (sortWorldK enc k w g 0 m d os) (fun b => S b ∧ b ≠ g) := fun _ hb hl => ⟨heap_sortK w g m d os hl hb.2, hb⟩
theorem below_sortK (w : World) (g m : Nat) (d : Array α) (os : Array Obj) {B : Nat} (hB : B ≤ g) (hw : B ≤ w.heap.size) : Below B w (sortWorldK enc k w g 0 m d os) :=
 ⟨rfl, rfl, rfl, size_sortK w g m d os, fun b hb => heap_sortK w g m d os (by omega) (by omega)⟩
end
/-! ### rows, sorted -/
theorem lessL_ntrans {a b c : PKey} (h1 : ¬ lessL a b) (h2 : ¬ lessL b c) : ¬ lessL a c := fun h => by
 rcases lessL_tri b a with h3 | rfl | h3
 ·exact h2 (lessL_trans h3 h)
 ·exact h2 h
 ·exact h1 h3
theorem elRwO_one {w : World} {S : Nat → Prop} {us : List Value} {x : PKey × PC} (h : elRwO w S us x) : us.length = 5 ∧ ∀ u ∈ us, u.oneCell' = true := by
 obtain ⟨A0, n0, c0, n, A1, n1, c1, A2, n2, c2, A3, n3, c3, K, Su, M, X, rfl, _⟩ := elRw_open (elRwO_read h)
 exact ⟨rfl, fun u hu => by
  simp at hu
  rcases hu with rfl | rfl | rfl | rfl | rfl <;> rfl⟩
abbrev RowIn (w : World) (S : Nat → Prop) := { p : List Value × (PKey × PC) // elRwO w S p.1 p.2 }
theorem elIntsO_nil (w : World) (S : Nat → Prop) : elIntsO w S [.slice none 0 0] [] := ⟨_, rfl, OwnR.nil_ _ _ _, fun k h => by cases h⟩
theorem elRwO_nil (w : World) (S : Nat → Prop) : elRwO w S [.slice none 0 0, .int .i64 0, .slice none 0 0, .slice none 0 0, .slice none 0 0] ([], 0, [], [], []) :=
 ⟨⟨_, rfl, OwnR.nil_ _ _ _, fun k h => by cases h⟩, rfl, elIntsO_nil w S, elIntsO_nil w S, elIntsO_nil w S⟩
instance (w : World) (S : Nat → Prop) : Inhabited (RowIn w S) := ⟨⟨(_, _), elRwO_nil w S⟩⟩
def encR {w : World} {S : Nat → Prop} (x : RowIn w S) : List Value := x.1.1
def cfR {w : World} {S : Nat → Prop} (x y : RowIn w S) : Int := cmpL x.1.2.1 y.1.2.1
theorem encR_len {w : World} {S : Nat → Prop} (x : RowIn w S) : (encR x).length = 5 := (elRwO_one x.2).1
theorem swoR (w : World) (S : Nat → Prop) : SWO (ltOf (cfR (w := w) (S := S))) := by
 have e : ∀ x y : RowIn w S, ltOf cfR x y = true ↔ lessL x.1.2.1 y.1.2.1 := fun x y => by unfold ltOf cfR lessL; simp
 have e' : ∀ x y : RowIn w S, ltOf cfR x y = false ↔ ¬ lessL x.1.2.1 y.1.2.1 := fun x y => by rw [← e x y]; simp
 exact ⟨fun x => (e' x x).2 (lessL_irrefl _), fun x y z h1 h2 => (e x z).2 (lessL_trans ((e x y).1 h1) ((e y z).1 h2)), fun x y z h1 h2 => (e' x z).2 (lessL_ntrans ((e' x y).1 h1) ((e' y z).1 h2))⟩
def TellSort (w : World) (base : Nat) (S : Nat → Prop) (v : Value) (L : Rws) (e : Ending) (w' : World) : Prop :=
 e = .returned (.tuple #[]) ∧ (∃ A c L', v = .slice A L.length c ∧ Row elRwO 5 w' (fun b => S b ∨ (base ≤ b ∧ v.ownBlock = some b)) A L.length c L' ∧ L'.Perm L ∧ L'.Pairwise fun a b => ¬ lessL b.1 a.1) ∧ Below base w w'
set_option maxRecDepth 100000 in
set_option maxHeartbeats 2000000 in
theorem sortRows_any {w : World} {base : Nat} {S : Nat → Prop} {v : Value} {L : Rws} (hO : OwnR elRwO 73 5 w base S v L) (hl : L.length ≤ 1000000) (hB : base ≤ w.heap.size) :
  Calls Tryz.prog 58 #[v, .func (.func 59) #[] #[]] w (TellSort w base S v L) := by
 obtain ⟨vs, hr, hE⟩ := hO
 rcases hr.2 with ⟨rfl, h0⟩ | ⟨g, cap, cur, rfl, hbg, hgg, hnc, hcm, hcs, ht⟩
 ·obtain rfl : L = [] := List.eq_nil_of_length_eq_zero h0
  refine (AnyF.slices_SortFunc_none (P := Tryz.prog) (ρ := Tryz.sortR_ren) { Tryz.sortR with } none 0 _ w).mono ?_
  rintro e w' ⟨rfl, rfl⟩
  exact ⟨rfl, ⟨none, 0, [], rfl, Row.none_ _ _, List.Perm.refl _, List.Pairwise.nil⟩, Below.refl _ _⟩
 ·have hgl : g < w.heap.size := (Array.getElem?_eq_some_iff.1 hgg).1
  obtain ⟨T, hT⟩ : ∃ T : Nat → Prop, T = fun k => S k ∧ k ≠ g := ⟨_, rfl⟩
  have hE' : ∀ i x, L[i]? = some x → elRwO w T ((vs.drop (i * 5)).take 5) x := fun i x hx => elRwO_ok _ _ _ _ _ _ (Mv.to w fun b hb _ => by
   rw [hT]
   exact ⟨hb.1, fun e => hb.2 (by rw [e]; rfl)⟩) (hE i x hx)
  obtain ⟨d, hd⟩ : ∃ d : List (RowIn w T), d.map (fun x => x.1.2) = L ∧ d.flatMap encR = vs := by
   refine ⟨List.ofFn fun i : Fin L.length => ⟨((vs.drop (i.1 * 5)).take 5, L[i.1]), hE' i.1 _ (List.getElem?_eq_getElem i.2)⟩, ?_, ?_⟩
   ·rw [List.map_ofFn]
    exact List.ofFn_getElem
   ·refine List.ext_getElem? fun j => ?_
    by_cases hj : j < L.length * 5
    ·have h1 : j / 5 < L.length := by omega
     have h2 : j % 5 < 5 := Nat.mod_lt _ (by decide)
     have h3 := flatG_at (enc := encR (w := w) (S := T)) encR_len (List.ofFn fun i : Fin L.length => (⟨((vs.drop (i.1 * 5)).take 5, L[i.1]), hE' i.1 _ (List.getElem?_eq_getElem i.2)⟩ : RowIn w T)) (j / 5) (j % 5) h2 _ (by rw [List.getElem?_ofFn, dif_pos h1])
     rw [show j / 5 * 5 + j % 5 = j by omega] at h3
     rw [h3]
     show ((vs.drop (j / 5 * 5)).take 5)[j % 5]? = _
     rw [List.getElem?_take, if_pos h2, List.getElem?_drop, show j / 5 * 5 + j % 5 = j by omega]
    ·rw [List.getElem?_eq_none (by rw [flatG_len encR_len, List.length_ofFn]; omega), List.getElem?_eq_none (by have := hr.1; omega)]
  have hdl : d.toArray.size = L.length := by rw [← hd.1]; simp
  have hfl : flatK encR 5 d.toArray = vs.toArray := by rw [flatG_is encR_len (by decide)]; simp only [hd.2]
  have hH : HoldsK encR 5 w g 0 d.toArray := by
   unfold HoldsK
   rw [hfl]
   intro j hj
   have hj' : j < vs.length := by simpa using hj
   have h1 := hr.cells (g := g) rfl j _ (List.getElem?_eq_getElem hj')
   rw [add_flat] at h1
   refine ⟨?_, ?_⟩
   ·rw [h1, getElem!_pos vs.toArray j hj]
    simp
   ·rw [Nat.zero_add]
    exact World.ownsRow.frozenAt hr j
  have eg : ∀ args w, (callFunc 59 args).run Tryz.prog w = .ok (.enter 59 args) w := enters_of Tryz.func59 (by kernel_rfl) rfl
  have hcmp : CmpLays Tryz.prog 59 #[] encR 5 (cfR (w := w) (S := T)) g 0 d.toArray.size w := fun m os dk _ x y => by
   have hm : ∀ z : RowIn w T, elRw (sortWorldK encR 5 w g 0 m dk os) T (encR z) z.1.2 := fun z => elRwO_read (elRwO_ok _ _ _ _ _ _ (by have h := mv_sortK (enc := encR) (k := 5) w g m dk os S; rw [← hT] at h; exact h) z.2)
   exact rowsC_any (hm x) (hm y)
  have hcon := AnyQ.slices_SortFunc Tryz.sortR 5 Tryz.isAgg73 Tryz.sizeOf73 encR encR_len (fun x => (elRwO_one x.2).2) cfR (swoR w T) 59 #[] g 0 cap d.toArray w eg hcmp hH hgl (by rw [hdl]; omega)
  change Calls Tryz.prog 58 _ _ _ at hcon
  rw [hdl] at hcon
  refine hcon.mono ?_
  rintro e w' ⟨rfl, d', m, os, h1, h2, rfl⟩
  rw [← hdl] at h1 h2
  have hp : d'.toList.Perm d := permIn_list h1
  have hsz : d'.size = d.toArray.size := by rw [← Array.length_toList, hp.length_eq]; simp
  have hs := sortedIn_list hsz h2
  have hlen : (d'.toList.map fun x => x.1.2).length = L.length := by rw [List.length_map, hp.length_eq, ← hd.1, List.length_map]
  refine ⟨rfl, ⟨some ⟨g, 0, none⟩, cap, d'.toList.map fun x => x.1.2, rfl, ?_, ?_, ?_⟩, below_sortK w g m d' os hbg hB⟩
  ·have hH' := holdsK_sortWorldK_c encR 5 w g 0 d.toArray d' m os hH hgl hsz
   unfold HoldsK at hH'
   rw [flatG_is encR_len (by decide)] at hH'
   have hvl : (d'.toList.flatMap encR).length = L.length * 5 := by rw [flatG_len encR_len, ← hlen, List.length_map]
   refine ⟨hlen, d'.toList.flatMap encR, ⟨hvl, hnc, hcm, (fun h => by cases h), fun _ => ⟨g, 0, rfl, .inr ⟨hbg, rfl⟩, Nat.lt_of_lt_of_le hgl (size_sortK w g m d' os), fun j u hu => ?_⟩⟩, fun i x hi => ?_⟩
   ·have hj := (List.getElem?_eq_some_iff.1 hu).1
    have := (hH' j (by simpa using hj)).1
    rw [this, getElem!_pos _ j (by simpa using hj)]
    rw [List.getElem?_eq_getElem hj] at hu
    simpa using hu
   ·rw [List.getElem?_map, Option.map_eq_some_iff] at hi
    obtain ⟨z, hz, rfl⟩ := hi
    have e : ((d'.toList.flatMap encR).drop (i * 5)).take 5 = encR z := by
     apply List.ext_getElem?
     intro c
     rw [List.getElem?_take]
     split
     ·rename_i hc
      rw [List.getElem?_drop, flatG_at encR_len _ i c hc z hz]
     ·rw [List.getElem?_eq_none (by rw [encR_len]; omega)]
    rw [e]
    exact elRwO_ok _ _ _ _ _ _ ((mv_sortK (enc := encR) (k := 5) w g m d' os S).trans (Mv.to _ fun _ hb _ => .inl hb.1)) (elRwO_ok _ _ _ _ _ _ (Mv.to w (S' := fun b => S b ∧ b ≠ g) fun b hb _ => by rw [hT] at hb; exact hb) z.2)
  ·rw [← hd.1]
   exact hp.map _
  ·rw [List.pairwise_map]
   exact hs.imp fun {a b} h => by
    intro hl
    have : ltOf (cfR (w := w) (S := T)) b a = true := by unfold ltOf cfR; exact decide_eq_true hl
    rw [this] at h
    cases h
end Go.Proofs.YtmepdkdeanbbaaaGreat
namespace Go.Proofs.YtmepdkdeanbbaaaGreat
set_option maxRecDepth 100000
open Go.RowKit

theorem TellG.some_ {w w' : World} {e : Ending} {u : PC} (h : TellG w (some u) e w') : (∃ v1 v2 v3, e = .returned (.tuple #[.agg #[.int .i64 u.1, v1, v2, v3], .bool true]) ∧ OwnC w' w.heap.size v1 v2 v3 u.2.1 u.2.2.1 u.2.2.2) ∧ Below w.heap.size w w' := h
theorem TellG.none_ {w w' : World} {e : Ending} (h : TellG w none e w') : e = .returned (.tuple #[.agg #[.int .i64 0, .slice none 0 0, .slice none 0 0, .slice none 0 0], .bool false]) ∧ Below w.heap.size w w' := h
theorem getC_mem {W m : Nat} {C : Cub} (hC : Cuboid W m C) {t : Nat} {K : List Int} {u : PC} (h : C[t]? = some (K, u)) : getC W C K = some u := by
 unfold getC
 have hm := List.mem_of_getElem? h
 rw [if_pos (hC.key _ hm)]
 exact getK_of_mem hC.ris hm
def rowsC (Qs : List (List Pth)) (C : Cub) : Rws := C.map fun e => (pathsK Qs e.1, e.2)
theorem rowsC_at {Qs : List (List Pth)} {C : Cub} {t : Nat} {K : List Int} {u : PC} (h : C[t]? = some (K, u)) : (rowsC Qs C)[t]? = some (pathsK Qs K, u) := by
 unfold rowsC
 rw [List.getElem?_map, h]
 rfl
def CodesIn (N : List Nat) (Qs : List (List Pth)) (C : Cub) : Prop := ∀ e ∈ C, e.1.length = N.length ∧ ∀ i, i < N.length → 0 ≤ e.1.getD i 0 ∧ e.1.getD i 0 ≤ ((Qs.getD i []).length : Int)
theorem info_rowS : (Tryz.prog.info? 73).map (fun i => (i.zero, i.size, i.bytes)) = some (some (.agg #[.slice none 0 0, .int .i64 0, .slice none 0 0, .slice none 0 0, .slice none 0 0]), 5, 104) := by kernel_rfl
theorem five_one (A0 : Option Addr) (n0 c0 : Nat) (p : Int) (A1 : Option Addr) (n1 c1 : Nat) (A2 : Option Addr) (n2 c2 : Nat) (A3 : Option Addr) (n3 c3 : Nat) : ∀ u ∈ [Value.slice A0 n0 c0, .int .i64 p, .slice A1 n1 c1, .slice A2 n2 c2, .slice A3 n3 c3], u.oneCell' = true := by
 intro u hu
 simp at hu
 rcases hu with rfl | rfl | rfl | rfl | rfl <;> rfl
theorem cells_at (w : World) (us : List Value) (t : TypeId) (g : Nat) (hg : g = w.heap.size) : ∀ j u, us[j]? = some u → (w.alloc (.cells us.toArray t)).cell? ((⟨g, 0, none⟩ : Addr).add j) = some u := by
 subst hg
 intro j u hj
 rw [add_flat, Nat.zero_add, (Block.new w t us.toArray).cell j]
 simpa using hj
def TellRows (w : World) (Qs : List (List Pth)) (C : Cub) (e : Ending) (w' : World) : Prop :=
 (∃ A c L, e = .returned (.tuple #[.slice A C.length c, .int .i64 0]) ∧ Row elRwO 5 w' (fun b => w.heap.size ≤ b) A C.length c L ∧ L.Perm (rowsC Qs C) ∧ L.Pairwise fun a b => ¬ lessL b.1 a.1) ∧ Below w.heap.size w w'
set_option maxRecDepth 100000 in
set_option maxHeartbeats 4000000 in
theorem rowsM_any {w : World} {g : Nat} {X1 X2 X3 dv vv : Value} {ds : List DAt} {vs : List CAt} {N : List Nat} {Qs : List (List Pth)} {W m : Nat} {Cs : List Cub} {cnt : Int} (h : LtM w g X1 X2 X3 dv vv ds vs N Qs W m Cs cnt) (hN : N.length ≤ 3) (_h7 : Cs.length ≤ 7) {v : Nat} (hv : v < Cs.length) (hcod : CodesIn N Qs (Cs.getD v [])) :
  Calls Tryz.prog 19 #[.pointer (some ⟨g, 0, none⟩), .int .i64 (v : Int)] w (TellRows w Qs (Cs.getD v [])) := by
 obtain ⟨Av, cv, evv, hvl, hat⟩ := h.lenV
 have hH := Lib.hid (hasV_any (r := true) evv h.c4 (v : Int) (Lib.hid (decide_eq_true ⟨by omega, by omega⟩)))
 obtain ⟨cc, hcc⟩ : ∃ cc, Hid (vs[v]? = some cc) := ⟨_, Lib.hid (List.getElem?_eq_getElem (by omega))⟩
 obtain ⟨bv, rfl, _, hbv, hcell⟩ := hat v cc hcc.out
 subst evv
 obtain ⟨C, hCe⟩ : ∃ C, C = Cs.getD v [] := ⟨_, rfl⟩
 have hCb := h.cbs.at_ v cc hcc.out
 rw [← hCe] at hCb hcod ⊢
 have HC := Lib.hid hCb
 have HM := Lib.hid h
 have HK := Lib.hid (keys_any hCb)
 have HCod := Lib.hid hcod
 have HN := Lib.hid hN
 have HL := Lib.hid hCb.len
 have g0 : w.cell? ⟨bv, v, none⟩ = some (.pointer (some ⟨cc.1, 0, none⟩)) := hcell
 have c4 := h.c4
 have i0 : (0 : Int) ≤ (v : Int) := by omega
 have i1 : (v : Int) < (Cs.length : Int) := by omega
 have KW : Hid (∀ y, Below w.heap.size w y → y.cell? ⟨g, 4, none⟩ = some (.slice (some ⟨bv, 0, none⟩) Cs.length cv) ∧ y.cell? ⟨bv, v, none⟩ = some (.pointer (some ⟨cc.1, 0, none⟩))) := Lib.hid fun y hy => ⟨(HM.out.below hy).c4, (hy.cell (p := ⟨bv, v, none⟩) hbv).trans hcell⟩
 clear h hCb hat hcod hN hcell hCe
 go_enter Tryz.func19, Tryz.ntmps19
 go_wp2_with fail
 refine hH.out.mono ?_
 rintro e w1 ⟨rfl, rfl⟩
 go_wp2_with fail
 refine HK.out.mono ?_
 rintro e w1 ⟨vk, rfl, hO1, hB1⟩
 obtain ⟨AK, cK, rfl, hRK⟩ := hO1.read elIntsO_ok
 obtain ⟨n, hn⟩ : ∃ n, Hid (C.length = n) := ⟨_, Lib.hid rfl⟩
 rw [List.length_map, hn.out] at hRK
 rw [List.length_map]
 rw [hn.out]
 have HRK : Hid (Row elInts 1 w1 (fun k => w.heap.size ≤ k ∧ k < w1.heap.size) AK n cK (C.map (·.1))) := Lib.hid ((hRK.mv elIntsO_ok (Mv.to w1 fun k hk hl => ⟨by
  rcases hk with hk | hk
  ·exact hk
  ·exact hk.1, hl⟩)).map fun us x h => elIntsO_read h)
 have HB1 := Lib.hid hB1
 have hnm : n ≤ 68921 := by have := HL.out; rw [hn.out] at this; exact this
 clear hO1 hRK HK hB1
 go_wp2_with fail
 go_loopw [6, 24] (fun rv i wr => ∃ k : Nat, k ≤ n ∧ i = .int .i64 k ∧ Hid (OwnR elRwO 73 5 wr w1.heap.size (fun b => w1.heap.size ≤ b) rv ((rowsC Qs C).take k)) ∧ Below w1.heap.size w1 wr) (fun _ i _ => n - (intOf i).toNat)
 case atStart => exact ⟨0, Nat.zero_le _, rfl, Lib.hid (OwnR.nil_ _ _ _), Below.refl _ _⟩
 case round =>
  obtain ⟨k, hk, rfl, hO, hB⟩ := hrel
  have hBw := HB1.out.trans (hB.mono HB1.out.size)
  by_cases hlt : k < n
  ·obtain ⟨b, o, A', n', c', K, rfl, _, _, gk, hl, he⟩ := (HRK.out.mv elInts_ok (Mv.below hB fun b hb => hb.2)).at1 hlt
   have i2 : (0 : Int) ≤ (k : Int) := by omega
   have i3 : (k : Int) < (n : Int) := by omega
   obtain ⟨u, hu⟩ : ∃ u, Hid (C[k]? = some (K, u)) := by
    have h1 := he.out
    rw [List.getElem?_map, Option.map_eq_some_iff] at h1
    obtain ⟨⟨K', u⟩, h2, rfl⟩ := h1
    exact ⟨u, Lib.hid h2⟩
   obtain ⟨q, Su, M, X⟩ := u
   have hT := Lib.hid (takeG_step (rowsC_at (Qs := Qs) hu.out))
   have hg := cubGet_any (HC.out.belowS hBw) hl.hasI
   rw [getC_mem HC.out.ok hu.out] at hg
   have HG := Lib.hid hg
   obtain ⟨c4', g0'⟩ := KW.out wr hBw
   have HKey := Lib.hid hl
   have hcd := HCod.out _ (List.mem_of_getElem? hu.out)
   have HCd := Lib.hid hcd
   clear hg hl hcd
   go_wp2_with fail
   refine HG.out.mono ?_
   intro e w5 hte
   obtain ⟨⟨v1, v2, v3, rfl, hOC⟩, hB5⟩ := hte.some_
   obtain ⟨A1, n1, c1, rfl, _, _⟩ := hOC.s.formN
   obtain ⟨A2, n2, c2, rfl, _, _⟩ := hOC.m.formN
   obtain ⟨A3, n3, c3, rfl, _, _⟩ := hOC.x.formN
   have hz := hB.size
   have hzw := hBw.size
   have hlo := hO.out.lt
   have hb6 := below_a1 w5 (.cells #[.int .i64 q, .slice A1 n1 c1, .slice A2 n2 c2, .slice A3 n3 c3] 71)
   have hbk := Block.new w5 71 #[.int .i64 q, .slice A1 n1 c1, .slice A2 n2 c2, .slice A3 n3 c3]
   have hCel : elCellO w5 (fun b => w1.heap.size ≤ b ∧ u6.ownBlock ≠ some b) [.int .i64 q, .slice A1 n1 c1, .slice A2 n2 c2, .slice A3 n3 c3] (q, Su, M, X) := hOC.el fun j h1 h2 => ⟨by omega, fun e => by have := (hlo j e).2; omega⟩
   have HCel := Lib.hid (elCellO_ok _ _ _ _ _ _ (Mv.belowS hb6 _) hCel)
   have HO6 := Lib.hid ((hO.out.below elRwO_ok hB5).below elRwO_ok hb6)
   have hB6 := hB5.trans (hb6.mono hB5.size)
   have HB6 := Lib.hid (hB.trans (hB6.mono hB.size))
   have HKey6 := Lib.hid (HKey.out.mv elInt_ok (Mv.belowS hB6 _))
   have HBw6 := Lib.hid (hBw.trans (hB6.mono hzw))
   clear hOC hCel hB5 hte hO HG
   go_wp2_with fail
   generalize w5.alloc (.cells #[.int .i64 q, .slice A1 n1 c1, .slice A2 n2 c2, .slice A3 n3 c3] 71) = Y at hb6 hbk HCel HO6 hB6 HB6 HKey6 HBw6 ⊢
   have KY : Hid (∀ y, Below Y.heap.size Y y → Block y w5.heap.size 71 #[.int .i64 q, .slice A1 n1 c1, .slice A2 n2 c2, .slice A3 n3 c3]) := Lib.hid fun y hy => hbk.below hy hbk.lt
   have q0 : Y.cell? ⟨w5.heap.size, 0, none⟩ = some (.int .i64 q) := hbk.cell 0
   have q1 : Y.cell? ⟨w5.heap.size, 1, none⟩ = some (.slice A1 n1 c1) := hbk.cell 1
   have q2 : Y.cell? ⟨w5.heap.size, 2, none⟩ = some (.slice A2 n2 c2) := hbk.cell 2
   have q3 : Y.cell? ⟨w5.heap.size, 3, none⟩ = some (.slice A3 n3 c3) := hbk.cell 3
   have HP := Lib.hid (pathsL_any ((HM.out.below HBw6.out).drewN 1) HN.out (HKey6.out.hasI.drewN 1) HCd.out.1 HCd.out.2)
   have hlb : Hid (((rowsC Qs C).take k).length ≤ 1000000) := Lib.hid (Nat.le_trans (List.length_take_le k _) (by omega))
   have hloY : ∀ j, u6.ownBlock = some j → j < Y.heap.size := fun j e => by have h1 := (hlo j e).2; have h2 := hB6.size; omega
   have hzY : w1.heap.size ≤ Y.heap.size := HB6.out.size
   clear hbk hb6 hB6
   go_region_law (first
    | (refine step_appX elRwO_ok rfl _ _ rfl info_rowS Tryz.underlying43 rfl (by decide) w1.heap.size _ _ _ rfl HO7.out _ rfl [.slice Ap np cp, .int .i64 q, .slice A1 n1 c1, .slice A2 n2 c2, .slice A3 n3 c3] rfl (pathsK Qs K, q, Su, M, X) HC7.out (five_one _ _ _ _ _ _ _ _ _ _ _ _ _) HE7.out hlb.out HS7.out ?_; intro v' w8 hO8 hG8)
    | (go_simp; go_at_call 57; refine HP.out.mono ?_; rintro e w6 ⟨vp, rfl, hvp, hb6⟩; have hb6' : Below Y.heap.size Y w6 := (below_drewN (Below.refl _ Y) 1).trans hb6; have hk6 := KY.out _ hb6'; have r0 : w6.cell? ⟨w5.heap.size, 0, none⟩ = some (.int .i64 q) := hk6.cell 0; have r1 : w6.cell? ⟨w5.heap.size, 1, none⟩ = some (.slice A1 n1 c1) := hk6.cell 1; have r2 : w6.cell? ⟨w5.heap.size, 2, none⟩ = some (.slice A2 n2 c2) := hk6.cell 2; have r3 : w6.cell? ⟨w5.heap.size, 3, none⟩ = some (.slice A3 n3 c3) := hk6.cell 3; have hEk := OwnR.el elPathO_ok' hvp hloY hzY; obtain ⟨Ap, np, cp, ep⟩ := elOwn_one hEk; injection ep with ep _; subst ep; have hb7 := hb6'.trans ((below_a1 w6 (.cells #[.slice Ap np cp, .int .i64 q, .slice A1 n1 c1, .slice A2 n2 c2, .slice A3 n3 c3] 73)).mono hb6'.size); have HB7 := Lib.hid hb7; have HO7 := Lib.hid (HO6.out.below elRwO_ok hb7); have HC7 := Lib.hid (cells_at w6 [.slice Ap np cp, .int .i64 q, .slice A1 n1 c1, .slice A2 n2 c2, .slice A3 n3 c3] 73 w6.heap.size rfl); have HE7 : Hid (elRwO (w6.alloc (.cells #[.slice Ap np cp, .int .i64 q, .slice A1 n1 c1, .slice A2 n2 c2, .slice A3 n3 c3] 73)) (fun b => w1.heap.size ≤ b ∧ u6.ownBlock ≠ some b) [.slice Ap np cp, .int .i64 q, .slice A1 n1 c1, .slice A2 n2 c2, .slice A3 n3 c3] (pathsK Qs K, q, Su, M, X)) := Lib.hid ⟨elKeyO_ok _ _ _ _ _ _ (Mv.alloc w6 _ _) hEk, elCellO_ok _ _ _ _ _ _ (Mv.belowS hb7 _) HCel.out⟩; have HS7 : Hid (w1.heap.size ≤ (w6.alloc (.cells #[.slice Ap np cp, .int .i64 q, .slice A1 n1 c1, .slice A2 n2 c2, .slice A3 n3 c3] 73)).heap.size) := Lib.hid (Nat.le_trans hzY hb7.size); clear hvp hb6 hb6' hk6 hEk hb7))
   all_goals
    have hF := Lib.hid (show OwnR elRwO 73 5 w8 w1.heap.size (fun b => w1.heap.size ≤ b) v' ((rowsC Qs C).take (k + 1)) ∧ Below w1.heap.size w1 w8 from ⟨by rw [hT.out]; exact hO8, (HB6.out.trans (HB7.out.mono hzY)).trans (hG8.below_ HS7.out fun j e => (hlo j e).1)⟩)
    clear hO8 hG8 HE7 HS7 HC7 HO7 HB7 r0 r1 r2 r3 q0 q1 q2 q3
    go_wp2_with fail
    go_roundw
    case rel => exact ⟨k + 1, by omega, by go_num, Lib.hid hF.out.1, hF.out.2⟩
    case measure => simp [intOf]; omega
  ·obtain rfl : k = n := by omega
   have hlR : (rowsC Qs C).length = k := by unfold rowsC; rw [List.length_map, hn.out]
   have hO' := hO.out
   rw [List.take_of_length_le (by omega)] at hO'
   have HS := Lib.hid (sortRows_any hO' (by omega) hB.size)
   clear hO hO'
   go_wp2_with fail
   refine HS.out.mono ?_
   intro e w9 hts
   obtain ⟨rfl, ⟨A9, c9, L9, e9, hRw, hp, hs⟩, hB9⟩ := hts
   rw [hlR] at e9 hRw
   subst e9
   have hz1 := HB1.out.size
   have hF := Lib.hid (show TellRows w Qs C (.returned (.tuple #[.slice A9 k c9, .int .i64 0])) w9 from ⟨⟨A9, c9, L9, by rw [hn.out], by rw [hn.out]; exact hRw.mv elRwO_ok (Mv.to w9 fun b hb _ => by
    rcases hb with hb | hb
    ·exact Nat.le_trans hz1 hb
    ·exact Nat.le_trans hz1 hb.1), hp, hs⟩, hBw.trans (hB9.mono (Nat.le_trans hz1 (Nat.le_refl _)))⟩)
   clear hRw hp hs hB9
   go_wp2_with fail
   go_ret2
   exact hF.out
end Go.Proofs.YtmepdkdeanbbaaaGreat
namespace Go.Proofs.YtmepdkdeanbbaaaGreat
set_option maxRecDepth 100000
open Go.RowKit

def gc7 (view : Int) (p : Value × Value) : List Value := [.int .i64 view, p.1, p.2, .int .i64 0, .slice none 0 0, .slice none 0 0, .slice none 0 0]
theorem gc7_len (view : Int) (p : Value × Value) : (gc7 view p).length = 7 := rfl
theorem gc7_one (view : Int) {p : Value × Value} (h1 : p.1.oneCell' = true) (h2 : p.2.oneCell' = true) : ∀ u ∈ gc7 view p, u.oneCell' = true := by
 intro u hu
 simp [gc7] at hu
 rcases hu with rfl | rfl | rfl | rfl | rfl
 ·rfl
 ·exact h1
 ·exact h2
 ·rfl
 ·rfl
def GthM (w : World) (B : Nat) (view : Int) (v : Value) (L : List (List Int × List PC)) : Prop :=
 ∃ ps : List (Value × Value), ps.length = L.length ∧ w.ownsRow B 109 7 v L.length (ps.flatMap (gc7 view)) ∧
  (∀ (i : Nat) (p : Value × Value) (x : List Int × List PC), ps[i]? = some p → L[i]? = some x → OwnI w B p.1 x.1 ∧ OwnX w B p.2 x.2) ∧
  ∀ (i j : Nat) (p q : Value × Value), i ≠ j → ps[i]? = some p → ps[j]? = some q → ∀ k, p.2.ownBlock = some k → q.2.ownBlock ≠ some k
section
variable {w w' : World} {B : Nat} {view : Int} {v : Value} {L : List (List Int × List PC)}
theorem GthM.nil_ (w : World) (B : Nat) (view : Int) : GthM w B view (.slice none 0 0) [] := ⟨[], rfl, World.ownsRow_nil _ _ _ _, fun i p x h => by simp at h, fun i j p q _ h => by simp at h⟩
theorem GthM.below (h : GthM w B view v L) (hb : Below w.heap.size w w') : GthM w' B view v L := by
 obtain ⟨ps, h0, h1, h2, h3⟩ := h
 exact ⟨ps, h0, row_below h1 hb, fun i p x hp hx => ⟨row_below (h2 i p x hp hx).1 hb, (h2 i p x hp hx).2.kept (P := fun _ => False) (Kept.of_below hb _) (fun _ _ h => h) (fun _ _ h => h)⟩, h3⟩
theorem GthM.lt (h : GthM w B view v L) : ∀ k, v.ownBlock = some k → B ≤ k ∧ k < w.heap.size := by
 obtain ⟨ps, h0, h1, h2, h3⟩ := h
 exact World.ownsRow.lt h1
theorem GthM.low {B' : Nat} (h : GthM w B view v L) (hb : B' ≤ B) : GthM w B' view v L := by
 obtain ⟨ps, h0, h1, h2, h3⟩ := h
 exact ⟨ps, h0, row_low h1 hb, fun i p x hp hx => ⟨(h2 i p x hp hx).1.low hb, (h2 i p x hp hx).2.low hb⟩, h3⟩
theorem OwnX.shape {w : World} {B : Nat} {v : Value} {M : List PC} (h : OwnX w B v M) : ∃ A c, v = .slice A M.length c := OwnR.shape h
theorem GthM.shape (h : GthM w B view v L) : ∃ A c, v = .slice A L.length c := by
 obtain ⟨ps, h0, h1, h2, h3⟩ := h
 exact own_shape h1
theorem GthM.at_ (h : GthM w B view v L) {i : Nat} {K : List Int} {M : List PC} (hi : L[i]? = some (K, M)) : ∃ g c A1 n1 c1 A2 n2 c2, v = .slice (some ⟨g, 0, none⟩) L.length c ∧ g < w.heap.size ∧ w.cell? ⟨g, i * 7, none⟩ = some (.int .i64 view) ∧ w.cell? ⟨g, i * 7 + 1, none⟩ = some (.slice A1 n1 c1) ∧ w.cell? ⟨g, i * 7 + 2, none⟩ = some (.slice A2 n2 c2) ∧ w.cell? ⟨g, i * 7 + 3, none⟩ = some (.int .i64 0) ∧ w.cell? ⟨g, i * 7 + 4, none⟩ = some (.slice none 0 0) ∧ w.cell? ⟨g, i * 7 + 5, none⟩ = some (.slice none 0 0) ∧ w.cell? ⟨g, i * 7 + 6, none⟩ = some (.slice none 0 0) ∧ (∀ j, w.frozen? ⟨g, j, none⟩ = false) ∧ OwnI w B (.slice A1 n1 c1) K ∧ OwnX w B (.slice A2 n2 c2) M := by
 obtain ⟨ps, h0, h1, h2, h3⟩ := h
 have hil := (List.getElem?_eq_some_iff.1 hi).1
 obtain ⟨p, hp⟩ : ∃ p, ps[i]? = some p := ⟨_, List.getElem?_eq_getElem (by omega)⟩
 obtain ⟨q1, q2⟩ := h2 i p _ hp hi
 obtain ⟨A1, n1, c1, e1, _⟩ := q1.formN
 obtain ⟨A2, c2, e2⟩ := q2.shape
 obtain ⟨p1, p2⟩ := p
 dsimp only at e1 e2 q1 q2
 subst e1 e2
 rcases h1.2 with ⟨rfl, e0⟩ | ⟨g, cap, cur, rfl, hb, hg, _⟩
 ·omega
 ·have hc := fun c (hc : c < 7) => (h1.cellAt (g := g) (i * 7 + c) (by omega)).trans (flatG_at (gc7_len view) ps i c hc _ hp)
  exact ⟨g, cap, A1, n1, c1, A2, _, c2, rfl, (Array.getElem?_eq_some_iff.1 hg).1, hc 0 (by decide), hc 1 (by decide), hc 2 (by decide), hc 3 (by decide), hc 4 (by decide), hc 5 (by decide), hc 6 (by decide), fun j => h1.frozenAt j, q1, q2⟩
theorem GthM.push {w8 : World} {kv v' : Value} {K : List Int} {ps : List (Value × Value)} (h0 : ps.length = L.length) (h1 : w.ownsRow B 109 7 v L.length (ps.flatMap (gc7 view)))
  (h2 : ∀ (i : Nat) (p : Value × Value) (x : List Int × List PC), ps[i]? = some p → L[i]? = some x → OwnI w B p.1 x.1 ∧ OwnX w B p.2 x.2) (h3 : ∀ (i j : Nat) (p q : Value × Value), i ≠ j → ps[i]? = some p → ps[j]? = some q → ∀ k, p.2.ownBlock = some k → q.2.ownBlock ≠ some k)
  (hk : OwnI w B kv K) (hO : w8.ownsRow B 109 7 v' (L.length + 1) (ps.flatMap (gc7 view) ++ gc7 view (kv, .slice none 0 0))) (hG : Grew w v w8 v') : GthM w8 B view v' (L ++ [(K, [])]) := by
 have kI : ∀ {u : Value} {l : List Int}, OwnI w B u l → OwnI w8 B u l := fun {u l} hu => World.ownsRow.kept hu hG.1 (row_ne hu h1 (by decide))
 have kX : ∀ {u : Value} {l : List PC}, OwnX w B u l → OwnX w8 B u l := fun {u l} hu => hu.kept (Kept.of_grown hG.1) (fun k hk e => by
  obtain ⟨cs, hc⟩ := hk
  exact own_ne_block h1 hc (by decide) e) (fun k hk e => by
  obtain ⟨xs, hx, _⟩ := hu
  rcases row_ne hx h1 (by decide) with h4 | h4
  ·rw [hk] at h4; cases h4
  ·exact h4 (hk.trans e.symm))
 refine ⟨ps ++ [(kv, .slice none 0 0)], by simp [h0], by simpa using hO, fun i p x hp hx => ?_, fun i j p q hij hp hq k hk hk' => ?_⟩
 ·rcases snoc_get hp with ⟨a1, a2⟩ | ⟨a1, rfl⟩
  ·rcases snoc_get hx with ⟨b1, b2⟩ | ⟨b1, _⟩
   ·exact ⟨kI (h2 i p x a2 b2).1, kX (h2 i p x a2 b2).2⟩
   ·omega
  ·rcases snoc_get hx with ⟨b1, _⟩ | ⟨_, rfl⟩
   ·omega
   ·exact ⟨kI hk, OwnR.nil_ _ _ _⟩
 ·rcases snoc_get hp with ⟨a1, a2⟩ | ⟨_, rfl⟩
  ·rcases snoc_get hq with ⟨b1, b2⟩ | ⟨_, rfl⟩
   ·exact h3 i j p q hij a2 b2 k hk hk'
   ·cases hk'
  ·cases hk
theorem info_chg : (Tryz.prog.info? 109).map (fun i => (i.zero, i.size, i.bytes)) = some (some (.agg #[.int .i64 0, .slice none 0 0, .slice none 0 0, .int .i64 0, .slice none 0 0, .slice none 0 0, .slice none 0 0]), 7, 136) := by kernel_rfl
theorem wpList_appG {ops : Array Oper} {rest : List Oper} {o : Oper} {a : Act} {Q : Exit → Act → World → Prop} (hgd : o.guard = none) (s x : Operand)
  (ho : o.op = .call { callee := .builtin .append, args := #[s, x], argTypes := #[104, 104] }) (hs : a.eval s = v) (h : GthM w B view v L) (g : Nat) (hx : a.eval x = .slice (some ⟨g, 0, none⟩) 1 1) (A : Option Addr) (n c : Nat) (K : List Int)
  (hy : ∀ j u, (gc7 view (.slice A n c, .slice none 0 0))[j]? = some u → w.cell? ((⟨g, 0, none⟩ : Addr).add j) = some u) (hk : OwnI w B (.slice A n c) K) (hl : L.length ≤ 1000000) (hbase : B ≤ w.heap.size)
  (hq : ∀ v' w', GthM w' B view v' (L ++ [(K, [])]) → Grew w v w' v' → wpList Tryz.prog ops Q rest (a.put o.dst v') w') : wpList Tryz.prog ops Q (o :: rest) a w := by
 obtain ⟨i, hi, hz0, hz1, hz2⟩ := info_parts info_chg
 obtain ⟨ps, h0, h1, h2, h3⟩ := h
 refine wpList_append_own_at w hgd s x 104 ho B 109 i _ 7 136 Tryz.underlying104 hi hz0 hz1 hz2 rfl (by decide) v L.length _ hs h1 ⟨g, 0, none⟩ 1 1 (gc7 view (.slice A n c, .slice none 0 0)) hx rfl hy (gc7_one view rfl rfl) (by unfold maxLen; omega) (by omega) hbase ?_
 intro v' w' e1 e2 _ e4
 have hG : Grew w v w' v' := ⟨e2, fun k hk => by
  rcases e4 with e4 | e4
  ·exact .inl (e4 ▸ hk)
  ·rw [e4] at hk
   injection hk with hk
   exact .inr (Nat.le_of_eq hk)⟩
 exact hq v' w' (GthM.push h0 h1 h2 h3 hk e1 hG) hG
theorem GthM.more {w8 : World} {g c i : Nat} {K : List Int} {M : List PC} {x : PC} {m m' : Value} (h : GthM w B view (.slice (some ⟨g, 0, none⟩) L.length c) L) (hi : L[i]? = some (K, M)) (hm : w.cell? ⟨g, i * 7 + 2, none⟩ = some m) (hO : OwnX w8 B m' (M ++ [x])) (hG : Grew w m w8 m') : w8.cell? ⟨g, i * 7 + 2, none⟩ = some m ∧ w8.frozen? ⟨g, i * 7 + 2, none⟩ = false ∧ GthM (w8.setCell ⟨g, i * 7 + 2, none⟩ m') B view (.slice (some ⟨g, 0, none⟩) L.length c) (L.set i (K, M ++ [x])) := by
 obtain ⟨ps, h0, h1, h2, h3⟩ := h
 have hil := (List.getElem?_eq_some_iff.1 hi).1
 obtain ⟨p, hp⟩ : ∃ p, ps[i]? = some p := ⟨_, List.getElem?_eq_getElem (by omega)⟩
 obtain ⟨q1, q2⟩ := h2 i p _ hp hi
 have hpm : p.2 = m := by
  have h4 := (h1.cellAt (g := g) (i * 7 + 2) (by omega)).trans (flatG_at (gc7_len view) ps i 2 (by decide) _ hp)
  rw [hm] at h4
  exact (Option.some.inj h4).symm
 have hmr : ∃ xs, w.ownsRow B 71 4 m M.length xs := by
  obtain ⟨xs, hx, _⟩ := q2
  rw [hpm] at hx
  exact ⟨xs, hx⟩
 obtain ⟨mx, hmr⟩ := hmr
 have h8 : w8.ownsRow B 109 7 (.slice (some ⟨g, 0, none⟩) L.length c) L.length (ps.flatMap (gc7 view)) := World.ownsRow.kept h1 hG.1 (row_ne h1 hmr (by decide))
 have kI : ∀ {u : Value} {l : List Int}, OwnI w B u l → OwnI w8 B u l := fun {u l} hu => World.ownsRow.kept hu hG.1 (row_ne hu hmr (by decide))
 have kX : ∀ {j : Nat} {q : Value × Value} {y : List Int × List PC}, j ≠ i → ps[j]? = some q → L[j]? = some y → OwnX w8 B q.2 y.2 := fun {j q y} hj hq hy => (h2 j q y hq hy).2.kept (Kept.of_grown hG.1) (fun k hk e => by
  obtain ⟨cs, hc⟩ := hk
  exact own_ne_block hmr hc (by decide) e) (fun k hk e => h3 j i q p hj hq hp k hk (by rw [hpm]; exact e))
 have hs : Chg (fun k => k = g) w8 (w8.setCell ⟨g, i * 7 + 2, none⟩ m') := (Chg.refl _ w8).set_ g _ m' fun _ => rfl
 have hK : Kept w8 (w8.setCell ⟨g, i * 7 + 2, none⟩ m') (fun k => k = g) := ⟨hs.os, hs.tape, hs.output, hs.size, hs.block⟩
 have sI : ∀ {u : Value} {l : List Int}, OwnI w8 B u l → OwnI (w8.setCell ⟨g, i * 7 + 2, none⟩ m') B u l := fun {u l} hu => hs.row hu fun k hk e => by
  rcases row_ne hu h8 (by decide) with h4 | h4
  ·rw [hk] at h4; cases h4
  ·exact h4 (by rw [hk, e]; rfl)
 have sX : ∀ {u : Value} {l : List PC}, OwnX w8 B u l → OwnX (w8.setCell ⟨g, i * 7 + 2, none⟩ m') B u l := fun {u l} hu => hu.kept hK (fun k hk e => by
  obtain ⟨cs, hc⟩ := hk
  exact own_ne_block h8 hc (by decide) (by rw [e]; rfl)) (fun k hk e => by
  obtain ⟨xs, hx, _⟩ := hu
  rcases row_ne hx h8 (by decide) with h4 | h4
  ·rw [hk] at h4; cases h4
  ·exact h4 (by rw [hk, e]; rfl))
 have hst := (World.ownsRow.stored h8 (i * 7 + 2) m').1
 have hfl : (ps.flatMap (gc7 view)).set (i * 7 + 2) m' = (ps.set i (p.1, m')).flatMap (gc7 view) := by
  refine List.ext_getElem? fun t => ?_
  have hl1 : (ps.flatMap (gc7 view)).length = ps.length * 7 := flatG_len (gc7_len view) ps
  have hl2 : ((ps.set i (p.1, m')).flatMap (gc7 view)).length = ps.length * 7 := by rw [flatG_len (gc7_len view), List.length_set]
  by_cases ht : t < ps.length * 7
  ·have e1 : t / 7 * 7 + t % 7 = t := by omega
   have h5 : t % 7 < 7 := by omega
   have h6 : t / 7 < ps.length := by omega
   rw [List.getElem?_set]
   by_cases hti : t / 7 = i
   ·have h7 := flatG_at (gc7_len view) (ps.set i (p.1, m')) (t / 7) (t % 7) h5 (p.1, m') (by rw [hti, List.getElem?_set, if_pos rfl, if_pos (by omega)])
    have h8' := flatG_at (gc7_len view) ps (t / 7) (t % 7) h5 p (by rw [hti]; exact hp)
    rw [e1] at h7 h8'
    rw [h7]
    by_cases h9 : i * 7 + 2 = t
    ·rw [if_pos h9, if_pos (by omega), show t % 7 = 2 by omega]
     rfl
    ·rw [if_neg h9, h8']
     have h10 : t % 7 ≠ 2 := by omega
     match hh : t % 7, h5, h10 with
     | 0, _, _ => rfl
     | 1, _, _ => rfl
     | 3, _, _ => rfl
     | 4, _, _ => rfl
     | 5, _, _ => rfl
     | 6, _, _ => rfl
   ·obtain ⟨q, hq⟩ : ∃ q, ps[t / 7]? = some q := ⟨_, List.getElem?_eq_getElem h6⟩
    have h7 := flatG_at (gc7_len view) (ps.set i (p.1, m')) (t / 7) (t % 7) h5 q (by rw [List.getElem?_set, if_neg (fun e => hti e.symm)]; exact hq)
    have h8' := flatG_at (gc7_len view) ps (t / 7) (t % 7) h5 q hq
    rw [e1] at h7 h8'
    rw [h7, h8', if_neg (by omega)]
  ·rw [List.getElem?_eq_none (by rw [List.length_set]; omega), List.getElem?_eq_none (by omega)]
 rw [hfl] at hst
 refine ⟨(World.cell?_of_block (hG.1.block g ?_ ?_)).trans hm, h8.frozenAt _, ps.set i (p.1, m'), by simp [h0], by rw [List.length_set]; exact hst, fun j q y hq hy => ?_, fun a b q r hab hq hr k hk hk' => ?_⟩
 ·exact (World.ownsRow.lt h1 g rfl).2
 ·intro e
  rcases row_ne h1 hmr (by decide) with h4 | h4
  ·cases h4
  ·exact h4 e
 ·rw [List.getElem?_set] at hq hy
  by_cases hij : i = j
  ·subst hij
   rw [if_pos rfl, if_pos (by omega)] at hq
   rw [if_pos rfl, if_pos hil] at hy
   rw [← Option.some.inj hq, ← Option.some.inj hy]
   exact ⟨sI (kI q1), sX hO⟩
  ·rw [if_neg hij] at hq hy
   exact ⟨sI (kI (h2 j q y hq hy).1), sX (kX (fun e => hij e.symm) hq hy)⟩
 ·rw [List.getElem?_set] at hq hr
  have hnew : ∀ {a : Nat} {q : Value × Value}, a ≠ i → ps[a]? = some q → ∀ k, q.2.ownBlock = some k → m'.ownBlock ≠ some k := fun {a q} ha hq k hk hk' => by
   rcases hG.2 k hk' with h4 | h4
   ·exact h3 a i q p ha hq hp k hk (by rw [hpm]; exact h4)
   ·have hal := (List.getElem?_eq_some_iff.1 hq).1
    obtain ⟨xs, hx, _⟩ := (h2 a q (L[a]'(by omega)) hq (List.getElem?_eq_getElem (by omega))).2
    have := (World.ownsRow.lt hx k hk).2
    omega
  by_cases h4 : i = a
  ·subst h4
   rw [if_pos rfl, if_pos (by omega)] at hq
   rw [if_neg hab] at hr
   rw [← Option.some.inj hq] at hk
   exact hnew (fun e => hab e.symm) hr k hk' hk
  ·rw [if_neg h4] at hq
   by_cases h5 : i = b
   ·subst h5
    rw [if_pos rfl, if_pos (by omega)] at hr
    rw [← Option.some.inj hr] at hk'
    exact hnew (fun e => h4 e.symm) hq k hk hk'
   ·rw [if_neg h5] at hr
    exact h3 a b q r hab hq hr k hk hk'
end
/-! ### the one under a key -/
theorem chg_seven (w : World) (a b c d e f h : Value) : Block (w.alloc (.cells #[a, b, c, d, e, f, h] 109)) w.heap.size 109 #[a, b, c, d, e, f, h] := Block.new w _ _
set_option maxRecDepth 100000 in
set_option maxHeartbeats 1000000 in
theorem underC_any {W : World} {view : Int} {A1 A2 Ak : Option Addr} {n1 c1 n2 c2 nk ck kb : Nat} {K J : List Int} (hK : HasI W W.heap.size A1 n1 c1 K) (hkb : W.cell? ⟨kb, 0, none⟩ = some (.slice Ak nk ck)) (hl : kb < W.heap.size) (hJ : HasI W W.heap.size Ak nk ck J) {r : Bool} (hr : Hid (decide (K = J) = r)) :
  Calls Tryz.prog 167 #[.agg #[.int .i64 view, .slice A1 n1 c1, .slice A2 n2 c2, .int .i64 0, .slice none 0 0, .slice none 0 0, .slice none 0 0], .pointer (some ⟨kb, 0, none⟩)] W fun e w' => e = .returned (.bool r) ∧ Below W.heap.size W w' := by
 have hb := below_a1 W (.cells #[.int .i64 view, .slice A1 n1 c1, .slice A2 n2 c2, .int .i64 0, .slice none 0 0, .slice none 0 0, .slice none 0 0] 109)
 have k0 := (chg_seven W (.int .i64 view) (.slice A1 n1 c1) (.slice A2 n2 c2) (.int .i64 0) (.slice none 0 0) (.slice none 0 0) (.slice none 0 0)).cell 1
 have k1 := (hb.cell (p := ⟨kb, 0, none⟩) hl).trans hkb
 have hX := equalI_any (hK.below hb (Nat.le_refl _)) (hJ.below hb (Nat.le_refl _))
 rw [hr.out] at hX
 have HX := Lib.hid hX
 clear hK hJ hX hkb
 go_enter Tryz.func167, Tryz.ntmps167
 go_wp2_with fail
 generalize W.alloc (.cells #[.int .i64 view, .slice A1 n1 c1, .slice A2 n2 c2, .int .i64 0, .slice none 0 0, .slice none 0 0, .slice none 0 0] 109) = W0 at hb k0 k1 HX ⊢
 go_wp2_with fail
 refine HX.out.mono ?_
 rintro e w1 ⟨rfl, q, rfl⟩
 go_wp2_with fail
 go_ret
 exact ⟨rfl, below_drewN hb q⟩
def AtK (L : List (List Int × List PC)) (J : List Int) (r : Int) : Prop := (∃ (i : Nat) (M : List PC), r = (i : Int) ∧ L[i]? = some (J, M)) ∨ (r = -1 ∧ J ∉ L.map (·.1))
set_option maxRecDepth 100000 in
set_option maxHeartbeats 2000000 in
theorem idxChg_any {w : World} {B : Nat} {view : Int} {v : Value} {L : List (List Int × List PC)} (h : GthM w B view v L) {Ak : Option Addr} {nk ck kb : Nat} {J : List Int} (hkb : w.cell? ⟨kb, 0, none⟩ = some (.slice Ak nk ck)) (hlb : kb < w.heap.size) (hJ : HasI w w.heap.size Ak nk ck J) (hn : L.length ≤ 1000) :
  Calls Tryz.prog 166 #[v, .func (.func 167) #[] #[.pointer (some ⟨kb, 0, none⟩)]] w fun e w' => (∃ r, e = .returned (.int .i64 r) ∧ AtK L J r) ∧ Below w.heap.size w w' := by
 have HG := Lib.hid h
 obtain ⟨A, c, rfl⟩ := h.shape
 have HJ := Lib.hid hJ
 have Hkb := Lib.hid hkb
 have hnm : L.length ≤ 9223372036854775807 := by omega
 clear h hJ hkb
 go_enter Tryz.func166, Tryz.ntmps166
 go_wp2_with fail
 go_loopw [8] (fun i wr => ∃ k : Nat, k ≤ L.length ∧ i = .int .i64 k ∧ Hid (∀ (j : Nat) (x : List Int × List PC), j < k → L[j]? = some x → x.1 ≠ J) ∧ Below w.heap.size w wr) (fun i _ => L.length - (intOf i).toNat)
 case atStart => exact ⟨0, Nat.zero_le _, rfl, Lib.hid fun j x hj => absurd hj (by omega), Below.refl _ _⟩
 case round =>
  obtain ⟨k, hk, rfl, hno, hB⟩ := hrel
  by_cases hlt : k < L.length
  ·have i0 : (0 : Int) ≤ (k : Int) := by omega
   have i1 : (k : Int) < (L.length : Int) := by omega
   obtain ⟨K, M, hKM⟩ : ∃ K M, Hid (L[k]? = some (K, M)) := ⟨_, _, Lib.hid (List.getElem?_eq_getElem hlt)⟩
   obtain ⟨g, c', A1, n1, c1, A2, n2, c2, ev, _, e0, e1, e2, e3, e4, e5, e6, _, hI, hX⟩ := (HG.out.below hB).at_ hKM.out
   injection ev with ev1 _ ev3
   subst ev1 ev3
   obtain ⟨A1', n1', c1', ek, hHI, _⟩ := hI.formN
   injection ek with ek1 ek2 ek3
   subst ek1 ek2 ek3
   have hJ' := HJ.out.below hB (Nat.le_refl _)
   obtain ⟨r, hr⟩ : ∃ r, Hid (decide (K = J) = r) := ⟨_, Lib.hid rfl⟩
   have HC := Lib.hid (underC_any (view := view) (A2 := A2) (n2 := n2) (c2 := c2) hHI ((hB.cell (p := ⟨kb, 0, none⟩) hlb).trans Hkb.out) (Nat.lt_of_lt_of_le hlb hB.size) (hJ'.more hB.size) hr)
   clear hI hX hHI hJ'
   by_cases hr1 : r = true
   ·subst hr1
    have hKJ : Hid (K = J) := Lib.hid (of_decide_eq_true hr.out)
    go_wp2_with fail
    refine HC.out.mono ?_
    rintro e w1 ⟨rfl, hb1⟩
    go_wp2_with fail
    go_ret
    exact ⟨⟨_, rfl, .inl ⟨k, M, rfl, by rw [← hKJ.out]; exact hKM.out⟩⟩, hB.trans (hb1.mono hB.size)⟩
   ·have hr2 : r = false := by simpa using hr1
    subst hr2
    have hKJ : Hid (K ≠ J) := Lib.hid (of_decide_eq_false hr.out)
    clear hr1
    go_wp2_with fail
    refine HC.out.mono ?_
    rintro e w1 ⟨rfl, hb1⟩
    go_wp2_with fail
    go_roundw
    case rel => exact ⟨k + 1, by omega, by go_num, Lib.hid fun j x hj hx => by
     by_cases hjk : j < k
     ·exact hno.out j x hjk hx
     ·obtain rfl : j = k := by omega
      rw [hKM.out] at hx
      rw [← Option.some.inj hx]
      exact hKJ.out, hB.trans (hb1.mono hB.size)⟩
    case measure => simp [intOf]; omega
  ·have hF := Lib.hid (show AtK L J (-1) from .inr ⟨rfl, fun hm => by
    obtain ⟨x, hx, e⟩ := List.mem_map.1 hm
    obtain ⟨j, hj⟩ := List.getElem?_of_mem hx
    exact hno.out j x (by have := (List.getElem?_eq_some_iff.1 hj).1; omega) hj e⟩)
   go_wp2_with fail
   go_ret
   exact ⟨⟨_, rfl, hF.out⟩, hB⟩
end Go.Proofs.YtmepdkdeanbbaaaGreat
namespace Go.Proofs.YtmepdkdeanbbaaaGreat
set_option maxRecDepth 100000
open Go.RowKit

theorem fold_one {m : Nat} (hm : m ≤ 2) {q : List Int} (h : isVal m q) : cFold m [q] = (oneC q, 0) := by
 have hc := oneC_cell hm h
 rw [foldV_is hm (by simp) (by simp) (fun v hv => by rw [List.mem_singleton.1 hv]; exact h)]
 rw [show [q].map oneC = [oneC q] from rfl, sumC_self hc.full, if_pos hc.1]
theorem cells4_at (w : World) (n : Int) (A1 : Option Addr) (n1 c1 : Nat) (A2 : Option Addr) (n2 c2 : Nat) (A3 : Option Addr) (n3 c3 : Nat) (g : Nat) (hg : g = w.heap.size) : ∀ j u, [Value.int .i64 n, .slice A1 n1 c1, .slice A2 n2 c2, .slice A3 n3 c3][j]? = some u → (w.alloc (.cells #[.int .i64 n, .slice A1 n1 c1, .slice A2 n2 c2, .slice A3 n3 c3] 71)).cell? ((⟨g, 0, none⟩ : Addr).add j) = some u := cells_at w [.int .i64 n, .slice A1 n1 c1, .slice A2 n2 c2, .slice A3 n3 c3] 71 g hg
theorem four_one' (k : Int) (A1 : Option Addr) (n1 c1 : Nat) (A2 : Option Addr) (n2 c2 : Nat) (A3 : Option Addr) (n3 c3 : Nat) : ∀ u ∈ [Value.int .i64 k, .slice A1 n1 c1, .slice A2 n2 c2, .slice A3 n3 c3], u.oneCell' = true := by
 intro u hu
 simp at hu
 rcases hu with rfl | rfl | rfl | rfl <;> rfl
set_option maxRecDepth 100000 in
set_option maxHeartbeats 4000000 in
theorem gatheredL_any {w : World} {g : Nat} {X1 X2 X3 dv vv : Value} {ds : List DAt} {vs : List CAt} {N : List Nat} {Qs : List (List Pth)} {W m : Nat} {Cs : List Cub} {cnt : Int} (h : LtM w g X1 X2 X3 dv vv ds vs N Qs W m Cs cnt) (hN : N.length ≤ 3) (view : Int) {Av Ak Af : Option Addr} {nv cv nk ck nf cf : Nat} {S : Nat → Prop} {v : List Int} {Ks : List (List Int)} {G : List Fct}
  (hV : HasI w w.heap.size Av nv cv v) (hv : LevD N v) (hK : HasL w w.heap.size Ak nk ck Ks) (hF : HasF w S Af nf cf G) (hn : nf ≤ 1000) (hsm : ∀ f ∈ G, SmallF f) (hval : m ≤ 2 ∧ ∀ f ∈ G, isVal m f.2) (hnk : nk = nf)
  (hkey : ∀ (i : Nat) (f : Fct), G[i]? = some f → fullK N Qs (Ks.getD i []) ∧ upB Qs (Ks.getD i []) v = kC Qs v f) :
  Calls Tryz.prog 104 #[.pointer (some ⟨g, 0, none⟩), .int .i64 view, .slice Av nv cv, .slice Ak nk ck, .slice Af nf cf] w fun e w' => (∃ r, e = .returned r ∧ GthM w' w.heap.size view r (gthF (kC Qs v) oneF G)) ∧ Below w.heap.size w w' := by
 subst hnk
 have HVs := Lib.hid (values_any hF hn hsm)
 have Hlen := Lib.hid hF.len
 have HM := Lib.hid h
 have HV := Lib.hid hV
 have Hv := Lib.hid hv
 have HK := Lib.hid hK
 have HN := Lib.hid hN
 have Hval := Lib.hid hval
 have Hkey := Lib.hid hkey
 have hcapk := hK.cap
 have hmf : ∀ (fn : Fn) (first cap : Array Value) (w : World), (Instr.makeFunc fn first cap).run Tryz.prog w = .ok (.func fn first cap) w := fun _ _ _ _ => rfl
 clear h hV hv hK hF hsm hN hval hkey
 go_enter Tryz.func104, Tryz.ntmps104
 go_wp2_with fail
 refine HVs.out.mono ?_
 rintro e w1 ⟨rv, rfl, hO1, hB1⟩
 have hO1' := hO1
 obtain ⟨Ar, cr, rfl, hRr⟩ := hO1.read (elOwn_ok elInt_ok)
 have hlr : (G.map Prod.snd).length = nk := by rw [List.length_map]; exact Hlen.out
 rw [hlr] at hRr ⊢
 have HRr : Hid (Row (elRow elInt 1) 1 w1 (fun b => w.heap.size ≤ b ∧ b < w1.heap.size) Ar nk cr (G.map Prod.snd)) := Lib.hid ((hRr.mv (elOwn_ok elInt_ok) (Mv.to w1 fun b hb hl => ⟨by
  rcases hb with hb | hb
  ·exact hb
  ·exact hb.1, hl⟩)).map fun us x h => elOwn_row elInt_ok (fun _ _ h => h) h)
 have HB1 := Lib.hid hB1
 clear hO1 hO1' hRr hlr hB1 HVs
 go_wp2_with fail
 go_loopw [11, 21] (fun al i wr => ∃ k : Nat, k ≤ nk ∧ i = .int .i64 k ∧ Hid (GthM wr w1.heap.size view al (gthF (kC Qs v) oneF (G.take k))) ∧ Below w1.heap.size w1 wr) (fun _ i _ => nk - (intOf i).toNat)
 case atStart => exact ⟨0, Nat.zero_le _, rfl, Lib.hid (GthM.nil_ _ _ _), Below.refl _ _⟩
 case round =>
  obtain ⟨k, hk, rfl, hO, hB⟩ := hrel
  have hBw := HB1.out.trans (hB.mono HB1.out.size)
  by_cases hlt : k < nk
  ·obtain ⟨b, o, Aq, nq, cq, q, rfl, _, hbq, gq1, hq, heq⟩ := HRr.out.at1 hlt
   have gq : wr.cell? ⟨b, o + k, none⟩ = some (.slice Aq nq cq) := (hB.cell (p := ⟨b, o + k, none⟩) hbq).trans gq1
   have i0 : (0 : Int) ≤ (k : Int) := by omega
   have i1 : (k : Int) < (nk : Int) := by omega
   obtain ⟨f, hf⟩ : ∃ f, Hid (G[k]? = some f) := by
    have h1 := heq.out
    rw [List.getElem?_map, Option.map_eq_some_iff] at h1
    obtain ⟨f, h2, _⟩ := h1
    exact ⟨f, Lib.hid h2⟩
   have hfq : f.2 = q := by
    have h1 := heq.out
    rw [List.getElem?_map, hf.out] at h1
    exact Option.some.inj h1
   have hvalq := Hval.out.2 f (List.mem_of_getElem? hf.out)
   rw [hfq] at hvalq
   have hql : q.length = m := by have := hvalq.1; omega
   have hqn : m = nq := by rw [← hql]; exact hq.len
   subst hqn
   obtain ⟨bk, ok, Bk, mk, dk, KK, rfl, hbk, gk, hKK, hKe⟩ := HK.out.at_ hlt
   have gk' : wr.cell? ⟨bk, ok + k, none⟩ = some (.slice Bk mk dk) := (hBw.cell (p := ⟨bk, ok + k, none⟩) hbk).trans gk
   obtain ⟨hfull, hup⟩ := Hkey.out k f hf.out
   rw [← hKe] at hfull hup
   have hX := upL_any (HM.out.below hBw) HN.out ((hKK.below hBw (Nat.le_refl _)).more hBw.size) ((HV.out.below hBw (Nat.le_refl _)).more hBw.size) hfull Hv.out
   rw [hup] at hX
   have HX := Lib.hid hX
   have HQ := Lib.hid hq
   have HqL := Lib.hid (show isVal m q ∧ q.length = m ∧ f.2 = q from ⟨hvalq, hql, hfq⟩)
   clear hq hKK hfull hup hX gk hvalq hql hfq
   go_wp2_with fail
   refine HX.out.mono ?_
   rintro e w5 ⟨⟨kv, rfl, hkv⟩, hB5⟩
   obtain ⟨Akv, nkv, ckv, rfl, hkI, _⟩ := hkv.formN
   have hb6 := below_a1 w5 (.cells #[.slice Akv nkv ckv] 47)
   have hbb := (Block.new w5 47 #[.slice Akv nkv ckv])
   have hkb := hbb.cell 0
   have HG6 := Lib.hid ((hO.out.below hB5).below hb6)
   have hB6 := hB5.trans (hb6.mono hB5.size)
   have HB6 := Lib.hid (hB.trans (hB6.mono hB.size))
   have hkv6 : OwnI (w5.alloc (.cells #[.slice Akv nkv ckv] 47)) w1.heap.size (.slice Akv nkv ckv) (kC Qs v f) := World.ownsRow.alloc (hkv.low hB.size) _
   have HKv := Lib.hid hkv6
   have hkI6 := hkI.below hb6 (Nat.le_refl _)
   have hlg : (gthF (kC Qs v) oneF (G.take k)).length ≤ 1000 := Nat.le_trans (gthF_len _ _ _) (Nat.le_trans (List.length_take_le k _) (by omega))
   have HI := Lib.hid (idxChg_any HG6.out hkb (hbb.lt) (hkI6.more hb6.size) hlg)
   have Hlg := Lib.hid hlg
   clear hkv hkI hO hB5 hkv6 hkI6 hlg HX
   go_wp2_with fail
   generalize w5.alloc (.cells #[.slice Akv nkv ckv] 47) = Y at hb6 hbb hkb HG6 hB6 HB6 HKv HI ⊢
   go_wp2_with fail
   refine HI.out.mono ?_
   rintro e w7 ⟨⟨r, rfl, hat⟩, hB7⟩
   have HG7 := Lib.hid (HG6.out.below hB7)
   have HB7 := Lib.hid (HB6.out.trans (hB7.mono HB6.out.size))
   have hkb7 : w7.cell? ⟨w5.heap.size, 0, none⟩ = some (.slice Akv nkv ckv) := (hB7.cell (p := ⟨w5.heap.size, 0, none⟩) hbb.lt).trans hkb
   have HKv7 := Lib.hid (row_below HKv.out hB7)
   have Hat := Lib.hid hat
   clear hat hB7 hB6 hb6 HG6 HB6 HKv HI
   obtain ⟨Lk, hLk⟩ : ∃ Lk, Hid (gthF (kC Qs v) oneF (G.take k) = Lk) := ⟨_, Lib.hid rfl⟩
   rw [hLk.out] at HG7 Hat Hlg
   have HF := Lib.hid (show (∀ (j : Nat) (M : List PC), Lk[j]? = some (kC Qs v f, M) → Lk.set j (kC Qs v f, M ++ [oneF f]) = gthF (kC Qs v) oneF (G.take (k + 1))) ∧ (kC Qs v f ∉ Lk.map (·.1) → Lk ++ [(kC Qs v f, [oneF f])] = gthF (kC Qs v) oneF (G.take (k + 1))) from
    ⟨fun j M hj => by rw [← hLk.out] at hj ⊢; exact (gthF_had hf.out hj).symm, fun hno => by rw [← hLk.out, gthF_keys] at hno; rw [← hLk.out]; exact (gthF_new hf.out hno).symm⟩)
   go_upto_if 37 with fail
   go_cut [11, 15] (fun s11 s15 wx => ∃ (j c gA n' : Nat) (M : List PC) (L' : List (List Int × List PC)), s11 = .slice (some ⟨gA, 0, none⟩) n' c ∧ s15 = .int .i64 j ∧ j < n' ∧ n' ≤ 1001 ∧ Hid (L'.length = n' ∧ GthM wx w1.heap.size view (.slice (some ⟨gA, 0, none⟩) n' c) L' ∧ L'[j]? = some (kC Qs v f, M) ∧ L'.set j (kC Qs v f, M ++ [oneF f]) = gthF (kC Qs v) oneF (G.take (k + 1)) ∧ Below w1.heap.size w1 wx))
   case first =>
    rcases Hat.out with ⟨j, M, rfl, hj⟩ | ⟨rfl, hno⟩
    ·obtain ⟨gA, cA, A1, n1, c1, A2, n2, c2, ev, _⟩ := HG7.out.at_ hj
     subst ev
     have hj0 : ¬ (j : Int) < 0 := by omega
     have hjl := (List.getElem?_eq_some_iff.1 hj).1
     have hl1 := Hlg.out
     have hEnd := Lib.hid (show Lk.length = Lk.length ∧ GthM w7 w1.heap.size view (.slice (some ⟨gA, 0, none⟩) Lk.length cA) Lk ∧ Lk[j]? = some (kC Qs v f, M) ∧ Lk.set j (kC Qs v f, M ++ [oneF f]) = gthF (kC Qs v) oneF (G.take (k + 1)) ∧ Below w1.heap.size w1 w7 from ⟨rfl, HG7.out, hj, HF.out.1 j M hj, HB7.out⟩)
     clear hj
     go_wp2_with fail
     go_meet
     exact ⟨j, cA, gA, _, M, Lk, rfl, rfl, hjl, by omega, Lib.hid ⟨rfl, hEnd.out.2⟩⟩
    ·obtain ⟨Aal, cal, eal⟩ := HG7.out.shape
     subst eal
     have hb8 := below_a1 w7 (.cells #[.int .i64 view, .slice Akv nkv ckv, .slice none 0 0, .int .i64 0, .slice none 0 0, .slice none 0 0, .slice none 0 0] 109)
     have HG8 := Lib.hid (HG7.out.below hb8)
     have HKv8 : Hid (OwnI (w7.alloc (.cells #[.int .i64 view, .slice Akv nkv ckv, .slice none 0 0, .int .i64 0, .slice none 0 0, .slice none 0 0, .slice none 0 0] 109)) w1.heap.size (.slice Akv nkv ckv) (kC Qs v f)) := Lib.hid (World.ownsRow.alloc HKv7.out _)
     have HC8 := Lib.hid (cells_at w7 (gc7 view (.slice Akv nkv ckv, .slice none 0 0)) 109 w7.heap.size rfl)
     have hl8 : Hid (Lk.length ≤ 1000000) := Lib.hid (by have := Hlg.out; omega)
     have hs8 : Hid (w1.heap.size ≤ (w7.alloc (.cells #[.int .i64 view, .slice Akv nkv ckv, .slice none 0 0, .int .i64 0, .slice none 0 0, .slice none 0 0, .slice none 0 0] 109)).heap.size) := Lib.hid (by rw [World.size_alloc]; have := HB7.out.size; omega)
     have Hno := Lib.hid hno
     have Hb8 := Lib.hid hb8
     clear hno hb8
     go_wp2_with (at_builtin; refine wpList_appG rfl _ _ rfl rfl HG8.out _ rfl Akv nkv ckv _ HC8.out HKv8.out hl8.out hs8.out ?_)
     intro v' w9 hG9 hGr
     have hlast : (Lk ++ [(kC Qs v f, ([] : List PC))])[Lk.length]? = some (kC Qs v f, []) := by simp
     obtain ⟨gA, cA, A1, n1, c1, A2, n2, c2, ev, _⟩ := hG9.at_ hlast
     subst ev
     have hlw := HG8.out.lt
     have hl1 := Hlg.out
     have hEnd := Lib.hid (show (Lk ++ [(kC Qs v f, ([] : List PC))]).length = Lk.length + 1 ∧ GthM w9 w1.heap.size view (.slice (some ⟨gA, 0, none⟩) (Lk.length + 1) cA) (Lk ++ [(kC Qs v f, ([] : List PC))]) ∧ (Lk ++ [(kC Qs v f, ([] : List PC))])[Lk.length]? = some (kC Qs v f, []) ∧ (Lk ++ [(kC Qs v f, ([] : List PC))]).set Lk.length (kC Qs v f, [] ++ [oneF f]) = gthF (kC Qs v) oneF (G.take (k + 1)) ∧ Below w1.heap.size w1 w9 from
      ⟨by simp, by have h := hG9; rw [List.length_append, List.length_singleton] at h; exact h, hlast, by rw [← HF.out.2 Hno.out]; simp, (HB7.out.trans (Hb8.out.mono HB7.out.size)).trans (hGr.below_ hs8.out fun k e => (hlw k e).1)⟩)
     rw [List.length_append, List.length_singleton]
     clear hG9 hGr hlast hlw
     go_wp2_with fail
     go_meet
     exact ⟨Lk.length, cA, gA, _, [], _, rfl, rfl, by omega, by omega, hEnd⟩
   case rest =>
    obtain ⟨j, cA, gA, n', M, L', rfl, rfl, hjn, hn', H⟩ := hcut
    obtain ⟨hL', hGc, hjL, hset, hBc⟩ := H.out
    have hqc := HQ.out.mv elInt_ok (Mv.below hBc fun b hb => hb.2)
    have hb8 := below_a1 wc (.cells #[.slice Aq m cq] 47)
    have hFo := fold_any (m : Int) (HasL.one hqc 47) (by decide)
    have hfo : cFold ((m : Nat) : Int) [q] = (oneC q, 0) := fold_one Hval.out.1 HqL.out.1
    obtain ⟨⟨n9, Su, Mi, Ma⟩, hcc⟩ : ∃ cc, Hid (oneC q = cc) := ⟨_, Lib.hid rfl⟩
    rw [hcc.out] at hfo
    rw [hfo] at hFo
    have HFo := Lib.hid hFo
    have HGc := Lib.hid (hGc.below hb8)
    have HBc := Lib.hid (hBc.trans (hb8.mono hBc.size))
    have Hset := Lib.hid (show L'[j]? = some (kC Qs v f, M) ∧ L'.set j (kC Qs v f, M ++ [oneF f]) = gthF (kC Qs v) oneF (G.take (k + 1)) ∧ L'.length = n' from ⟨hjL, hset, hL'⟩)
    clear hqc hb8 hFo hfo hGc hBc H hjL hset hL'
    go_wp2_with fail
    refine HFo.out.mono ?_
    intro e w9 hte
    obtain ⟨⟨v1, v2, v3, rfl, hOC⟩, hB9⟩ := hte
    obtain ⟨A1, n1, c1, e1, _, _⟩ := hOC.s.formN
    obtain ⟨A2, n2, c2, e2, _, _⟩ := hOC.m.formN
    obtain ⟨A3, n3, c3, e3, _, _⟩ := hOC.x.formN
    subst e1 e2 e3
    have hb10 := below_a1 w9 (.cells #[.int .i64 n9, .slice A1 n1 c1, .slice A2 n2 c2, .slice A3 n3 c3] 71)
    have hbk := Block.new w9 71 #[.int .i64 n9, .slice A1 n1 c1, .slice A2 n2 c2, .slice A3 n3 c3]
    have HG10 := Lib.hid ((HGc.out.below hB9).below hb10)
    have hB10 := HBc.out.trans ((hB9.trans (hb10.mono hB9.size)).mono HBc.out.size)
    have HB10 := Lib.hid hB10
    have HOC := Lib.hid (show OwnC (w9.alloc (.cells #[.int .i64 n9, .slice A1 n1 c1, .slice A2 n2 c2, .slice A3 n3 c3] 71)) w1.heap.size (.slice A1 n1 c1) (.slice A2 n2 c2) (.slice A3 n3 c3) Su Mi Ma from ⟨OwnI.low (hOC.s.alloc _) HBc.out.size, OwnI.low (hOC.m.alloc _) HBc.out.size, OwnI.low (hOC.x.alloc _) HBc.out.size⟩)
    clear hOC hB9 HFo HGc HBc hB10
    go_wp2_with fail
    generalize w9.alloc (.cells #[.int .i64 n9, .slice A1 n1 c1, .slice A2 n2 c2, .slice A3 n3 c3] 71) = Y at hb10 hbk HG10 HB10 HOC ⊢
    have hLn := Hset.out.2.2
    have hG0 := HG10.out
    obtain ⟨gA', cA', Bq, nq', cq', Am, nm, cm, ev, hgl, _, _, p0, _, _, _, _, _, _, hXm⟩ := hG0.at_ Hset.out.1
    injection ev with e1 e2 e3
    injection e1 with e1
    injection e1 with e1 _ _
    subst e1 e3
    have q0 := hbk.cell 0
    have q1 := hbk.cell 1
    have q2 := hbk.cell 2
    have q3 := hbk.cell 3
    have hbZ : Below Y.heap.size Y (Y.drew.alloc (.cells #[.int .i64 n9, .slice A1 n1 c1, .slice A2 n2 c2, .slice A3 n3 c3] 71)) := (below_drewN (Below.refl _ Y) 1).alloc (Nat.le_refl _) _
    have pz : (Y.alloc (.cells #[.int .i64 n9, .slice A1 n1 c1, .slice A2 n2 c2, .slice A3 n3 c3] 71)).drew.cell? ⟨gA, j * 7 + 2, none⟩ = some (.slice Am nm cm) := (hbZ.cell (p := ⟨gA, j * 7 + 2, none⟩) hgl).trans p0
    have Pz := Lib.hid ((hbZ.cell (p := ⟨gA, j * 7 + 2, none⟩) hgl).trans p0)
    have HXz := Lib.hid (hXm.kept (P := fun _ => False) (Kept.of_below hbZ _) (fun _ _ h => h) (fun _ _ h => h))
    have HGz : Hid (GthM (Y.drew.alloc (.cells #[.int .i64 n9, .slice A1 n1 c1, .slice A2 n2 c2, .slice A3 n3 c3] 71)) w1.heap.size view (.slice (some ⟨gA, 0, none⟩) L'.length cA) L') := Lib.hid (by rw [hLn]; exact hG0.below hbZ)
    have HCz := Lib.hid (cells4_at Y.drew n9 A1 n1 c1 A2 n2 c2 A3 n3 c3 Y.heap.size rfl)
    have HEz := Lib.hid ((HOC.out.below hbZ (Nat.le_refl _)).elB (n := n9) (fun k => IntB (Y.drew.alloc (.cells #[.int .i64 n9, .slice A1 n1 c1, .slice A2 n2 c2, .slice A3 n3 c3] 71)) k ∧ (Value.slice Am nm cm).ownBlock ≠ some k) fun k hk _ => ⟨hk, HXz.out.ne_int (by decide) hk⟩)
    have hMl1 : Hid ((M ++ [(n9, Su, Mi, Ma)]).length = M.length + 1) := Lib.hid (by simp)
    have hMl : Hid (M.length ≤ 1000000) := Lib.hid (by
     have h1 := Hset.out.2.1
     have h2 : (kC Qs v f, M ++ [oneF f]) ∈ gthF (kC Qs v) oneF (G.take (k + 1)) := by rw [← h1]; exact List.mem_of_getElem? (i := j) (by rw [List.getElem?_set, if_pos rfl, if_pos (by omega)])
     obtain ⟨_, h3⟩ := mem_gthF.1 h2
     have h4 := congrArg List.length h3
     have h5 : (cellsV (kC Qs v) oneF (G.take (k + 1)) (kC Qs v f)).length ≤ (G.take (k + 1)).length := by unfold cellsV; rw [List.length_map]; exact List.length_filter_le _ _
     have h6 := List.length_take_le (k + 1) G
     simp only [List.length_append, List.length_singleton] at h4
     omega)
    have hbs : Hid (w1.heap.size ≤ (Y.drew.alloc (.cells #[.int .i64 n9, .slice A1 n1 c1, .slice A2 n2 c2, .slice A3 n3 c3] 71)).heap.size) := Lib.hid (Nat.le_trans HB10.out.size hbZ.size)
    have hBZ := Lib.hid (HB10.out.trans (hbZ.mono HB10.out.size))
    have hlm := HXz.out.lt
    have hlG := hG0.lt
    have hjl0 : (0 : Int) ≤ (j : Int) := by omega
    have hjl1 : (j : Int) < (n' : Int) := by omega
    have hof : Hid (oneF f = (n9, Su, Mi, Ma)) := Lib.hid (by show oneC f.2 = _; rw [HqL.out.2.2]; exact hcc.out)
    clear hbZ hXm hG0 hb10 hgl HG10 HB10 e2
    go_region_law (refine step_appX elCell_ok rfl _ _ rfl info_cell3 Tryz.underlying107 rfl (by decide) w1.heap.size (IntB _) (.slice Am nm cm) M rfl HXz.out _ rfl [.int .i64 n9, .slice A1 n1 c1, .slice A2 n2 c2, .slice A3 n3 c3] rfl (n9, Su, Mi, Ma) HCz.out (four_one' _ _ _ _ _ _ _ _ _ _) HEz.out hMl.out hbs.out ?_; intro v' w12 hO12 hG12; have hO13 := HXz.out.app (by decide) hO12 hG12; obtain ⟨A12, c12, e12⟩ := hO13.shape; rw [hMl1.out] at e12; obtain ⟨p12, f12, hM12⟩ := HGz.out.more Hset.out.1 Pz.out hO13 hG12; subst e12)
    all_goals
     have hFin := Lib.hid (show GthM (w12.setCell ⟨gA, j * 7 + 2, none⟩ (.slice A12 (M.length + 1) c12)) w1.heap.size view (.slice (some ⟨gA, 0, none⟩) n' cA) (gthF (kC Qs v) oneF (G.take (k + 1))) ∧ Below w1.heap.size w1 (w12.setCell ⟨gA, j * 7 + 2, none⟩ (.slice A12 (M.length + 1) c12)) from
      ⟨by rw [← Hset.out.2.1, hof.out, ← hLn]; exact hM12, (hBZ.out.trans (hG12.below_ hbs.out fun q e => (hlm q e).1)).setCell (p := ⟨gA, j * 7 + 2, none⟩) (hlG gA rfl).1 _⟩)
     clear hO12 hG12 hO13 hM12 HEz HXz HGz HCz Pz pz p0 q0 q1 q2 q3 hlm hlG HOC
     go_wp2_with fail
     go_roundw
     case rel => exact ⟨k + 1, by omega, by go_num, Lib.hid hFin.out.1, hFin.out.2⟩
     case measure => simp [intOf]; omega
  ·obtain rfl : k = nk := by omega
   have hFin := Lib.hid (show GthM wr w.heap.size view u11 (gthF (kC Qs v) oneF G) from by
    have h1 := hO.out
    rw [List.take_of_length_le (by have := Hlen.out; omega)] at h1
    exact h1.low HB1.out.size)
   clear hO
   go_wp2_with fail
   go_ret
   exact ⟨⟨_, rfl, hFin.out⟩, hBw⟩
end Go.Proofs.YtmepdkdeanbbaaaGreat
namespace Go.Proofs.YtmepdkdeanbbaaaGreat
set_option maxRecDepth 100000
open Go.RowKit

theorem wpList_appXs {α : Type} {E : ElT α} (hE : E.Ok) {T TS : TypeId} {sz bytes : Nat} {z : Value} {w : World} {ops : Array Oper} {rest : List Oper} {o : Oper} {a : Act} {Q : Exit → Act → World → Prop} (hgd : o.guard = none) (s x : Operand)
  (ho : o.op = .call { callee := .builtin .append, args := #[s, x], argTypes := #[TS, TS] }) (hinfo : (Tryz.prog.info? T).map (fun i => (i.zero, i.size, i.bytes)) = some (some z, sz, bytes)) (hTS : Tryz.prog.underlying TS = some (.slice T)) (hzs : z.cells.size = sz) (hsz : 0 < sz ∧ sz ≤ 100 ∧ bytes ≤ 1000)
  (base : Nat) (S : Nat → Prop) (v : Value) (L : List α) (hs : a.eval s = v) (hown : OwnR E T sz w base S v L) (ad : Addr) (n c : Nat) (L2 : List α) (hx : a.eval x = .slice (some ad) n c) (hr : Row E sz w (fun k => S k ∧ v.ownBlock ≠ some k) (some ad) n c L2) (hone : ∀ S us y, E w S us y → us.length = sz → ∀ u ∈ us, u.oneCell' = true) (hlen : L.length + n ≤ 1000000) (hbase : base ≤ w.heap.size)
  (h : ∀ v' w', OwnR E T sz w' base S v' (L ++ L2) → Grew w v w' v' → wpList Tryz.prog ops Q rest (a.put o.dst v') w') : wpList Tryz.prog ops Q (o :: rest) a w := by
 obtain ⟨i, hi, hz0, hz1, hz2⟩ := info_parts hinfo
 obtain ⟨vs, h1, h2⟩ := hown
 obtain ⟨hl2, us, hS, hE2⟩ := hr
 have hul := hS.len
 have hcut : ∀ j, j < n → ((us.drop (j * sz)).take sz).length = sz := fun j hj => by
  have : j * sz + sz ≤ n * sz := by rw [← Nat.succ_mul]; exact Nat.mul_le_mul_right sz hj
  rw [List.length_take, List.length_drop]; omega
 have h1c : ∀ u ∈ us, u.oneCell' = true := fun u hu => by
  obtain ⟨t, ht⟩ := List.getElem?_of_mem hu
  have htl := (List.getElem?_eq_some_iff.1 ht).1
  have hj : t / sz < n := (Nat.div_lt_iff_lt_mul hsz.1).2 (by omega)
  have hm : t % sz < sz := Nat.mod_lt _ hsz.1
  refine hone _ _ _ (hE2 (t / sz) _ (List.getElem?_eq_getElem (by omega))) (hcut _ hj) u (List.mem_of_getElem? (i := t % sz) ?_)
  rw [List.getElem?_take, if_pos hm, List.getElem?_drop, Nat.mul_comm, Nat.div_add_mod, ht]
 have hcells : ∀ j u, us[j]? = some u → w.cell? (ad.add j) = some u := fun j u hu => by
  have hpos : 0 < n := by
   have h3 := (List.getElem?_eq_some_iff.1 hu).1
   rcases Nat.eq_zero_or_pos n with h4 | h4
   ·rw [h4, Nat.zero_mul] at hul; omega
   ·exact h4
  obtain ⟨b, q, e, _, _, hc⟩ := hS.has hpos
  injection e with e
  subst e
  rw [add_flat]
  exact hc j u hu
 refine wpList_append_own_at w hgd s x TS ho base T i _ sz bytes hTS hi hz0 hz1 hz2 hzs hsz.1 v L.length vs hs h1 ad n c us hx hul hcells h1c (by unfold maxLen; omega) (by have := Nat.mul_le_mul hlen hsz.2.2; omega) hbase ?_
 intro v' w' e1 e2 _ e4
 have hG : Grew w v w' v' := ⟨e2, fun k hk => by
  rcases e4 with e4 | e4
  ·exact .inl (e4 ▸ hk)
  ·rw [e4] at hk
   injection hk with hk
   exact .inr (Nat.le_of_eq hk)⟩
 have hm : Mv w (fun k => S k ∧ v.ownBlock ≠ some k) w' (fun k => S k ∧ v'.ownBlock ≠ some k) := Mv.grew hG
 have hvl := h1.1
 refine h v' w' ⟨vs ++ us, by rw [List.length_append, hl2]; exact e1, fun j y hj => hE _ _ _ _ _ _ hm ?_⟩ hG
 by_cases hlt : j < L.length
 ·rw [List.getElem?_append_left hlt] at hj
  have hle : j * sz + sz ≤ L.length * sz := by rw [← Nat.succ_mul]; exact Nat.mul_le_mul_right sz hlt
  rw [List.drop_append_of_le_length (by omega), List.take_append_of_le_length (by rw [List.length_drop]; omega)]
  exact h2 j y hj
 ·rw [List.getElem?_append_right (by omega)] at hj
  have e : j * sz = vs.length + (j - L.length) * sz := by rw [hvl, ← Nat.add_mul]; congr 1; omega
  rw [e, List.drop_append, List.drop_of_length_le (by omega), List.nil_append, Nat.add_sub_cancel_left]
  exact hE2 _ y hj
theorem elCell_one {w : World} {S : Nat → Prop} {us : List Value} {x : PC} (h : elCell w S us x) (_hl : us.length = 4) : ∀ u ∈ us, u.oneCell' = true := by
 obtain ⟨n, A1, n1, c1, A2, n2, c2, A3, n3, c3, Su, M, X, rfl, _⟩ := elCell_open h
 exact four_one' _ _ _ _ _ _ _ _ _ _
theorem OwnR.litC {w : World} {n : Int} {A1 A2 A3 : Option Addr} {n1 c1 n2 c2 n3 c3 : Nat} {Su M X : List Int} (h : elCell w (fun b => b < w.heap.size) [.int .i64 n, .slice A1 n1 c1, .slice A2 n2 c2, .slice A3 n3 c3] (n, Su, M, X)) : OwnR elCell 71 4 (w.alloc (.cells #[.int .i64 n, .slice A1 n1 c1, .slice A2 n2 c2, .slice A3 n3 c3] 71)) w.heap.size (fun b => b < w.heap.size) (.slice (some ⟨w.heap.size, 0, none⟩) 1 1) [(n, Su, M, X)] := by
 refine ⟨[.int .i64 n, .slice A1 n1 c1, .slice A2 n2 c2, .slice A3 n3 c3], ⟨rfl, .inr ⟨w.heap.size, 1, _, rfl, Nat.le_refl _, heap_alloc_new w _, Nat.le_refl _, by unfold maxLen; omega, rfl, rfl⟩⟩, fun i x hi => ?_⟩
 match i, hi with
 | 0, hi =>
  simp at hi
  subst hi
  exact elCell_ok _ _ _ _ _ _ ((Mv.alloc w _ _).trans (Mv.to _ fun b hb _ => ⟨hb, fun e => by simp [Value.ownBlock] at e; omega⟩)) h
 | i + 1, hi => simp at hi
section
variable {w : World} {g : Nat} {X1 X2 X3 dv vv : Value} {ds : List DAt} {vs : List CAt} {N : List Nat} {Qs : List (List Pth)} {W m : Nat} {Cs : List Cub} {cnt : Int}
theorem getC_all {W m : Nat} {C : Cub} (hC : Cuboid W m C) (K : List Int) : getC W C K = getK C K := by
 unfold getC
 by_cases hk : isKey W K
 ·rw [if_pos hk]
 ·rw [if_neg hk]
  rcases hg : getK C K with _ | u
  ·rfl
  ·exact absurd (hC.key _ (getK_mem hg)) hk
abbrev zCell : Array Value := #[.int .i64 0, .slice none 0 0, .slice none 0 0, .slice none 0 0]
theorem below_d1 (W1 : World) : Below W1.heap.size W1 W1.drew := below_drewN (Below.refl _ W1) 1
theorem below_da (W1 : World) (b : Obj) : Below W1.heap.size W1 (W1.alloc b).drew := ((Below.refl _ W1).alloc (Nat.le_refl _) b).trans (below_drewN (Below.refl _ _) 1)
theorem below_da' (W1 : World) (b : Obj) : Below W1.heap.size W1 (W1.drew.alloc b) := (below_d1 W1).alloc (Nat.le_refl _) b

def SumAt (r : Nat) (w1 : World) (x : PC × Int) (e : Ending) (w' : World) : Prop :=
 (∃ A1 n1 c1 A2 n2 c2 A3 n3 c3, e = .returned (.tuple #[.agg #[.int .i64 x.1.1, .slice A1 n1 c1, .slice A2 n2 c2, .slice A3 n3 c3], .int .i64 x.2]) ∧ OwnC w' w1.heap.size (.slice A1 n1 c1) (.slice A2 n2 c2) (.slice A3 n3 c3) x.1.2.1 x.1.2.2.1 x.1.2.2.2) ∧ Below w1.heap.size w1 w' ∧ Block w' r 71 zCell
theorem sum_at {w1 y : World} {r : Nat} {A : Option Addr} {n c : Nat} {L : List PC} (h : HasCs y y.heap.size A n c L) (hn : n ≤ 1000000) (hb : Below w1.heap.size w1 y) (hr : Block w1 r 71 zCell) :
  Calls Tryz.prog 106 #[.slice A n c] y (SumAt r w1 (cSum L)) := by
 refine (cellSum_any h hn).mono ?_
 rintro e w6 ⟨⟨v1, v2, v3, rfl, hO⟩, hB⟩
 obtain ⟨A1, n1, c1, rfl, _, _⟩ := hO.s.formN
 obtain ⟨A2, n2, c2, rfl, _, _⟩ := hO.m.formN
 obtain ⟨A3, n3, c3, rfl, _, _⟩ := hO.x.formN
 have hb6 := hb.trans (hB.mono hb.size)
 exact ⟨⟨_, _, _, _, _, _, _, _, _, rfl, ⟨OwnI.low hO.s hb.size, OwnI.low hO.m hb.size, OwnI.low hO.x hb.size⟩⟩, hb6, hr.below hb6 hr.lt⟩
set_option maxRecDepth 100000 in
set_option maxHeartbeats 8000000 in
theorem sumL_none (h : LtM w g X1 X2 X3 dv vv ds vs N Qs W m Cs cnt) {v : Nat} (hv : v < Cs.length) {q : Int} {A1 A3 A4 A5 : Option Addr} {ad : Addr} {n1 c1 n2 c2 n3 c3 n4 c4 n5 c5 : Nat} {K : List Int} {M : List PC} {S : Nat → Prop} (hK : HasI w w.heap.size A1 n1 c1 K) (hM : Row elCell 4 w S (some ad) n2 c2 M) (hn : n2 ≤ 1000) (hgk : getK (Cs.getD v []) K = none) :
  Calls Tryz.prog 105 #[.pointer (some ⟨g, 0, none⟩), .agg #[.int .i64 (v : Int), .slice A1 n1 c1, .slice (some ad) n2 c2, .int .i64 q, .slice A3 n3 c3, .slice A4 n4 c4, .slice A5 n5 c5]] w (TellC w (withP (Cs.getD v []) K M)) := by
 obtain ⟨Av, cv, evv, hvl, hat⟩ := h.lenV
 subst evv
 obtain ⟨⟨gv, bw⟩, hcc⟩ : ∃ cc, Hid (vs[v]? = some cc) := ⟨_, Lib.hid (List.getElem?_eq_getElem (by omega))⟩
 obtain ⟨bv, rfl, _, hbv, hcell⟩ := hat v _ hcc.out
 obtain ⟨C, hCe⟩ : ∃ C, C = Cs.getD v [] := ⟨_, rfl⟩
 have hCb := h.cbs.at_ v _ hcc.out
 dsimp only at hCb hcell
 rw [← hCe] at hCb hgk ⊢
 have hb0 := (below_a1 w (.cells #[.int .i64 (v : Int), .slice A1 n1 c1, .slice (some ad) n2 c2, .int .i64 q, .slice A3 n3 c3, .slice A4 n4 c4, .slice A5 n5 c5] 109))
 have hb1 := below_then hb0 (below_a1 (w.alloc (.cells #[.int .i64 (v : Int), .slice A1 n1 c1, .slice (some ad) n2 c2, .int .i64 q, .slice A3 n3 c3, .slice A4 n4 c4, .slice A5 n5 c5] 109)) (.cells #[.int .i64 0, .slice none 0 0, .slice none 0 0, .slice none 0 0] 71))
 have hbl := (chg_seven w (.int .i64 (v : Int)) (.slice A1 n1 c1) (.slice (some ad) n2 c2) (.int .i64 q) (.slice A3 n3 c3) (.slice A4 n4 c4) (.slice A5 n5 c5)).alloc (.cells #[.int .i64 0, .slice none 0 0, .slice none 0 0, .slice none 0 0] 71)
 have hbr := Block.new (w.alloc (.cells #[.int .i64 (v : Int), .slice A1 n1 c1, .slice (some ad) n2 c2, .int .i64 q, .slice A3 n3 c3, .slice A4 n4 c4, .slice A5 n5 c5] 109)) 71 #[.int .i64 0, .slice none 0 0, .slice none 0 0, .slice none 0 0]
 rw [World.size_alloc] at hbr
 have hM1 := h.below hb1
 have k4 := hM1.c4
 have g0 := (hb1.cell (p := ⟨bv, v, none⟩) hbv).trans hcell
 have HMr := Lib.hid (hM.mv elCell_ok ((Mv.to w (S' := fun b => S b ∧ b < w.heap.size) fun b hb hl => ⟨hb, hl⟩).trans (Mv.below hb1 fun b hb => hb.2)))
 have HSum := Lib.hid fun y (hy : Below ((w.alloc (.cells #[.int .i64 (v : Int), .slice A1 n1 c1, .slice (some ad) n2 c2, .int .i64 q, .slice A3 n3 c3, .slice A4 n4 c4, .slice A5 n5 c5] 109)).alloc (.cells #[.int .i64 0, .slice none 0 0, .slice none 0 0, .slice none 0 0] 71)).heap.size ((w.alloc (.cells #[.int .i64 (v : Int), .slice A1 n1 c1, .slice (some ad) n2 c2, .int .i64 q, .slice A3 n3 c3, .slice A4 n4 c4, .slice A5 n5 c5] 109)).alloc (.cells #[.int .i64 0, .slice none 0 0, .slice none 0 0, .slice none 0 0] 71)) y) => sum_at (HMr.out.mv elCell_ok ((Mv.to _ (S' := fun b => (S b ∧ b < w.heap.size) ∧ b < ((w.alloc (.cells #[.int .i64 (v : Int), .slice A1 n1 c1, .slice (some ad) n2 c2, .int .i64 q, .slice A3 n3 c3, .slice A4 n4 c4, .slice A5 n5 c5] 109)).alloc (.cells #[.int .i64 0, .slice none 0 0, .slice none 0 0, .slice none 0 0] 71)).heap.size) fun b hb hl => ⟨hb, hl⟩).trans (Mv.below hy fun b hb => hb.2))).hasCs (by omega) hy hbr
 have HGt : Hid (∀ y, Below ((w.alloc (.cells #[.int .i64 (v : Int), .slice A1 n1 c1, .slice (some ad) n2 c2, .int .i64 q, .slice A3 n3 c3, .slice A4 n4 c4, .slice A5 n5 c5] 109)).alloc (.cells #[.int .i64 0, .slice none 0 0, .slice none 0 0, .slice none 0 0] 71)).heap.size ((w.alloc (.cells #[.int .i64 (v : Int), .slice A1 n1 c1, .slice (some ad) n2 c2, .int .i64 q, .slice A3 n3 c3, .slice A4 n4 c4, .slice A5 n5 c5] 109)).alloc (.cells #[.int .i64 0, .slice none 0 0, .slice none 0 0, .slice none 0 0] 71)) y → Calls Tryz.prog 56 #[.pointer (some ⟨gv, 0, none⟩), .slice A1 n1 c1] y (TellG y (getC W C K))) := Lib.hid fun y hy => by
  have hy1 := hb1.trans (hy.mono hb1.size)
  exact cubGet_any (hCb.belowS hy1) ((hK.below hy1 (Nat.le_refl _)).more hy1.size)
 have HCo := Lib.hid hCb.ok
 have l1 := hbl.lt
 have l2 := Nat.lt_of_lt_of_le h.blk.lt hb1.size
 have l3 := Nat.lt_of_lt_of_le hbv hb1.size
 have i0 : (0 : Int) ≤ (v : Int) := by omega
 have i1 : (v : Int) < (Cs.length : Int) := by omega
 clear h hat hCb hK hM hcell hM1 hb0 hCe
 go_enter Tryz.func105, Tryz.ntmps105
 go_wp2_with fail
 generalize (w.alloc (.cells #[.int .i64 (v : Int), .slice A1 n1 c1, .slice (some ad) n2 c2, .int .i64 q, .slice A3 n3 c3, .slice A4 n4 c4, .slice A5 n5 c5] 109)).alloc (.cells #[.int .i64 0, .slice none 0 0, .slice none 0 0, .slice none 0 0] 71) = W1 at hb1 hbl hbr k4 g0 l1 l2 l3 HMr HSum HGt ⊢
 have k0 := hbl.cell 0
 have k1 := hbl.cell 1
 have k2 := hbl.cell 2
 have hgt := HGt.out
 rw [getC_all HCo.out, hgk] at hgt
 have HGt := Lib.hid hgt
 have hwp : withP C K M = cSum M := by unfold withP; rw [hgk]; rfl
 obtain ⟨⟨⟨q9, Sx, Mx, Xx⟩, er⟩, hZ⟩ : ∃ z, Hid (withP C K M = z) := ⟨_, Lib.hid rfl⟩
 have HZ := Lib.hid (hwp.symm.trans hZ.out)
 clear hgt hwp
 go_upto_region 1 with fail
 go_cut [6, 7] (fun s6 s7 wx => s7 = .bool false ∧ Below W1.heap.size W1 wx ∧ ∃ gB : Nat, s6 = .pointer (some ⟨gB, 0, none⟩))
 case first =>
  go_region_law (go_simp; go_at_call 56; first
   | (refine Calls.mono (HGt.out W1.drew (below_d1 W1)) ?_; intro e w5 hte; obtain ⟨rfl, hB5⟩ := hte.none_; have hC5 := (below_d1 W1).trans hB5)
   | (refine Calls.mono (HGt.out (W1.alloc (.cells zCell 71)).drew (below_da W1 _)) ?_; intro e w5 hte; obtain ⟨rfl, hB5⟩ := hte.none_; have hC5 := (below_da W1 (.cells zCell 71)).trans (hB5.mono (below_da W1 (.cells zCell 71)).size); have hZ5 : Block w5 W1.heap.size 71 zCell := ((Block.new W1 71 zCell).drewN 1).below hB5 (by rw [World.size_drew, World.size_alloc]; omega); have z0 := hZ5.cell 0; have z1 := hZ5.cell 1; have z2 := hZ5.cell 2; have z3 := hZ5.cell 3; have y0 := hZ5.free 0; have y1 := hZ5.free 1; have y2 := hZ5.free 2; have y3 := hZ5.free 3))
  all_goals
   go_wp2_with fail
   go_meet
   first
    | exact ⟨rfl, hC5.alloc hC5.size _, _, rfl⟩
    | exact ⟨rfl, below_put4 (r := W1.heap.size) hC5 (Nat.le_refl _) _ _ _ _, _, rfl⟩
 case rest =>
  obtain ⟨rfl, hC5, gB, rfl⟩ := hcut
  have l5 := Nat.lt_of_lt_of_le l1 hC5.size
  have kk2 := (hC5.cell (p := ⟨w.heap.size, 2, none⟩) l1).trans k2
  clear HGt k0 k1 k2 k4 g0
  go_wp2_with fail
  refine Calls.mono (HSum.out _ hC5) ?_
  rintro e w6 ⟨⟨E1, d1, e1, E2, d2, e2, E3, d3, e3, rfl, hO6⟩, hB6, hR6⟩
  have hB7 := hb1.trans (hB6.mono hb1.size)
  have hrl := hbr.lt
  have hz1 := hb1.size
  rw [HZ.out] at hO6 ⊢
  dsimp only at hO6 ⊢
  have r0 := hR6.cell 0
  have r1 := hR6.cell 1
  have r2 := hR6.cell 2
  have r3 := hR6.cell 3
  have f0 := hR6.free 0
  have f1 := hR6.free 1
  have f2 := hR6.free 2
  have f3 := hR6.free 3
  have hRR := Lib.hid (hR6.put4_ (.int .i64 q9) (.slice E1 d1 e1) (.slice E2 d2 e2) (.slice E3 d3 e3))
  have hRO := Lib.hid ((hO6.put4_ hrl (.int .i64 q9) (.slice E1 d1 e1) (.slice E2 d2 e2) (.slice E3 d3 e3)).low hz1)
  have hRB := Lib.hid (below_put4 (r := w.heap.size + 1) hB7 (by omega) (.int .i64 q9) (.slice E1 d1 e1) (.slice E2 d2 e2) (.slice E3 d3 e3))
  clear hO6 hB6 hR6 hB7
  go_wp2_with fail
  refine bodyPost_ret (results_block2 rfl _ _ (w.heap.size + 1) _ _ rfl hRR.out Tryz.underlying71 rfl info_cell) rfl ?_
  rw [hZ.out]
  exact ⟨⟨_, _, _, rfl, hRO.out⟩, hRB.out⟩
set_option maxRecDepth 100000 in
set_option maxHeartbeats 8000000 in
theorem sumL_some (h : LtM w g X1 X2 X3 dv vv ds vs N Qs W m Cs cnt) {v : Nat} (hv : v < Cs.length) {q : Int} {A1 A3 A4 A5 : Option Addr} {ad : Addr} {n1 c1 n2 c2 n3 c3 n4 c4 n5 c5 : Nat} {K : List Int} {M : List PC} {S : Nat → Prop} (hK : HasI w w.heap.size A1 n1 c1 K) (hM : Row elCell 4 w S (some ad) n2 c2 M) (hn : n2 ≤ 1000) {n9 : Int} {Su Mi Ma : List Int} (hgk : getK (Cs.getD v []) K = some (n9, Su, Mi, Ma)) :
  Calls Tryz.prog 105 #[.pointer (some ⟨g, 0, none⟩), .agg #[.int .i64 (v : Int), .slice A1 n1 c1, .slice (some ad) n2 c2, .int .i64 q, .slice A3 n3 c3, .slice A4 n4 c4, .slice A5 n5 c5]] w (TellC w (withP (Cs.getD v []) K M)) := by
 obtain ⟨Av, cv, evv, hvl, hat⟩ := h.lenV
 subst evv
 obtain ⟨⟨gv, bw⟩, hcc⟩ : ∃ cc, Hid (vs[v]? = some cc) := ⟨_, Lib.hid (List.getElem?_eq_getElem (by omega))⟩
 obtain ⟨bv, rfl, _, hbv, hcell⟩ := hat v _ hcc.out
 obtain ⟨C, hCe⟩ : ∃ C, C = Cs.getD v [] := ⟨_, rfl⟩
 have hCb := h.cbs.at_ v _ hcc.out
 dsimp only at hCb hcell
 rw [← hCe] at hCb hgk ⊢
 have hb0 := (below_a1 w (.cells #[.int .i64 (v : Int), .slice A1 n1 c1, .slice (some ad) n2 c2, .int .i64 q, .slice A3 n3 c3, .slice A4 n4 c4, .slice A5 n5 c5] 109))
 have hb1 := below_then hb0 (below_a1 (w.alloc (.cells #[.int .i64 (v : Int), .slice A1 n1 c1, .slice (some ad) n2 c2, .int .i64 q, .slice A3 n3 c3, .slice A4 n4 c4, .slice A5 n5 c5] 109)) (.cells #[.int .i64 0, .slice none 0 0, .slice none 0 0, .slice none 0 0] 71))
 have hbl := (chg_seven w (.int .i64 (v : Int)) (.slice A1 n1 c1) (.slice (some ad) n2 c2) (.int .i64 q) (.slice A3 n3 c3) (.slice A4 n4 c4) (.slice A5 n5 c5)).alloc (.cells #[.int .i64 0, .slice none 0 0, .slice none 0 0, .slice none 0 0] 71)
 have hbr := Block.new (w.alloc (.cells #[.int .i64 (v : Int), .slice A1 n1 c1, .slice (some ad) n2 c2, .int .i64 q, .slice A3 n3 c3, .slice A4 n4 c4, .slice A5 n5 c5] 109)) 71 #[.int .i64 0, .slice none 0 0, .slice none 0 0, .slice none 0 0]
 rw [World.size_alloc] at hbr
 have hM1 := h.below hb1
 have k4 := hM1.c4
 have g0 := (hb1.cell (p := ⟨bv, v, none⟩) hbv).trans hcell
 have HMr := Lib.hid (hM.mv elCell_ok ((Mv.to w (S' := fun b => S b ∧ b < w.heap.size) fun b hb hl => ⟨hb, hl⟩).trans (Mv.below hb1 fun b hb => hb.2)))
 have HSum := Lib.hid fun y (hy : Below ((w.alloc (.cells #[.int .i64 (v : Int), .slice A1 n1 c1, .slice (some ad) n2 c2, .int .i64 q, .slice A3 n3 c3, .slice A4 n4 c4, .slice A5 n5 c5] 109)).alloc (.cells #[.int .i64 0, .slice none 0 0, .slice none 0 0, .slice none 0 0] 71)).heap.size ((w.alloc (.cells #[.int .i64 (v : Int), .slice A1 n1 c1, .slice (some ad) n2 c2, .int .i64 q, .slice A3 n3 c3, .slice A4 n4 c4, .slice A5 n5 c5] 109)).alloc (.cells #[.int .i64 0, .slice none 0 0, .slice none 0 0, .slice none 0 0] 71)) y) => sum_at (HMr.out.mv elCell_ok ((Mv.to _ (S' := fun b => (S b ∧ b < w.heap.size) ∧ b < ((w.alloc (.cells #[.int .i64 (v : Int), .slice A1 n1 c1, .slice (some ad) n2 c2, .int .i64 q, .slice A3 n3 c3, .slice A4 n4 c4, .slice A5 n5 c5] 109)).alloc (.cells #[.int .i64 0, .slice none 0 0, .slice none 0 0, .slice none 0 0] 71)).heap.size) fun b hb hl => ⟨hb, hl⟩).trans (Mv.below hy fun b hb => hb.2))).hasCs (by omega) hy hbr
 have HGt : Hid (∀ y, Below ((w.alloc (.cells #[.int .i64 (v : Int), .slice A1 n1 c1, .slice (some ad) n2 c2, .int .i64 q, .slice A3 n3 c3, .slice A4 n4 c4, .slice A5 n5 c5] 109)).alloc (.cells #[.int .i64 0, .slice none 0 0, .slice none 0 0, .slice none 0 0] 71)).heap.size ((w.alloc (.cells #[.int .i64 (v : Int), .slice A1 n1 c1, .slice (some ad) n2 c2, .int .i64 q, .slice A3 n3 c3, .slice A4 n4 c4, .slice A5 n5 c5] 109)).alloc (.cells #[.int .i64 0, .slice none 0 0, .slice none 0 0, .slice none 0 0] 71)) y → Calls Tryz.prog 56 #[.pointer (some ⟨gv, 0, none⟩), .slice A1 n1 c1] y (TellG y (getC W C K))) := Lib.hid fun y hy => by
  have hy1 := hb1.trans (hy.mono hb1.size)
  exact cubGet_any (hCb.belowS hy1) ((hK.below hy1 (Nat.le_refl _)).more hy1.size)
 have HCo := Lib.hid hCb.ok
 have l1 := hbl.lt
 have l2 := Nat.lt_of_lt_of_le h.blk.lt hb1.size
 have l3 := Nat.lt_of_lt_of_le hbv hb1.size
 have i0 : (0 : Int) ≤ (v : Int) := by omega
 have i1 : (v : Int) < (Cs.length : Int) := by omega
 clear h hat hCb hK hM hcell hM1 hb0 hCe
 go_enter Tryz.func105, Tryz.ntmps105
 go_wp2_with fail
 generalize (w.alloc (.cells #[.int .i64 (v : Int), .slice A1 n1 c1, .slice (some ad) n2 c2, .int .i64 q, .slice A3 n3 c3, .slice A4 n4 c4, .slice A5 n5 c5] 109)).alloc (.cells #[.int .i64 0, .slice none 0 0, .slice none 0 0, .slice none 0 0] 71) = W1 at hb1 hbl hbr k4 g0 l1 l2 l3 HMr HSum HGt ⊢
 have k0 := hbl.cell 0
 have k1 := hbl.cell 1
 have k2 := hbl.cell 2
 have hgt := HGt.out
 rw [getC_all HCo.out, hgk] at hgt
 have HGt := Lib.hid hgt
 have hwp : withP C K M = cSum ((n9, Su, Mi, Ma) :: M) := by unfold withP; rw [hgk]; rfl
 obtain ⟨⟨⟨q9, Sx, Mx, Xx⟩, er⟩, hZ⟩ : ∃ z, Hid (withP C K M = z) := ⟨_, Lib.hid rfl⟩
 have HZ := Lib.hid (hwp.symm.trans hZ.out)
 clear hgt hwp
 go_upto_region 1 with fail
 go_cut [6, 7] (fun s6 s7 wx => s7 = .bool true ∧ Below W1.heap.size W1 wx ∧ ∃ (gB : Nat) (D1 : Option Addr) (m1 d1 : Nat) (D2 : Option Addr) (m2 d2 : Nat) (D3 : Option Addr) (m3 d3 : Nat), s6 = .pointer (some ⟨gB, 0, none⟩) ∧ Block wx gB 71 #[.int .i64 n9, .slice D1 m1 d1, .slice D2 m2 d2, .slice D3 m3 d3] ∧ Hid (OwnC wx W1.heap.size (.slice D1 m1 d1) (.slice D2 m2 d2) (.slice D3 m3 d3) Su Mi Ma))
 case first =>
  go_region_law (go_simp; go_at_call 56; first
   | (refine Calls.mono (HGt.out W1.drew (below_d1 W1)) ?_; intro e w5 hte; obtain ⟨⟨v1, v2, v3, rfl, hOC⟩, hB5⟩ := hte.some_; obtain ⟨D1, m1, d1, rfl, _, _⟩ := hOC.s.formN; obtain ⟨D2, m2, d2, rfl, _, _⟩ := hOC.m.formN; obtain ⟨D3, m3, d3, rfl, _, _⟩ := hOC.x.formN; have hC5 := (below_d1 W1).trans hB5)
   | (refine Calls.mono (HGt.out (W1.alloc (.cells zCell 71)).drew (below_da W1 _)) ?_; intro e w5 hte; obtain ⟨⟨v1, v2, v3, rfl, hOC⟩, hB5⟩ := hte.some_; obtain ⟨D1, m1, d1, rfl, _, _⟩ := hOC.s.formN; obtain ⟨D2, m2, d2, rfl, _, _⟩ := hOC.m.formN; obtain ⟨D3, m3, d3, rfl, _, _⟩ := hOC.x.formN; have hC5 := (below_da W1 (.cells zCell 71)).trans (hB5.mono (below_da W1 (.cells zCell 71)).size); have hZ5 : Block w5 W1.heap.size 71 zCell := ((Block.new W1 71 zCell).drewN 1).below hB5 (by rw [World.size_drew, World.size_alloc]; omega); have z0 := hZ5.cell 0; have z1 := hZ5.cell 1; have z2 := hZ5.cell 2; have z3 := hZ5.cell 3; have y0 := hZ5.free 0; have y1 := hZ5.free 1; have y2 := hZ5.free 2; have y3 := hZ5.free 3))
  all_goals
   go_wp2_with fail
   go_meet
   first
    | exact ⟨rfl, hC5.alloc hC5.size _, _, _, _, _, _, _, _, _, _, _, rfl, Block.new w5 _ _, Lib.hid ⟨hOC.s.alloc _, hOC.m.alloc _, hOC.x.alloc _⟩⟩
    | exact ⟨rfl, below_put4 (r := W1.heap.size) hC5 (Nat.le_refl _) _ _ _ _, _, _, _, _, _, _, _, _, _, _, rfl, hZ5.put4_ _ _ _ _, Lib.hid ((hOC.put4_ (r := W1.heap.size) (by rw [World.size_drew, World.size_alloc]; omega) _ _ _ _).low (by rw [World.size_drew, World.size_alloc]; omega))⟩
 case rest =>
  obtain ⟨rfl, hC5, gB, D1, m1, d1, D2, m2, d2, D3, m3, d3, rfl, hBk, hOC⟩ := hcut
  have hz1 := hb1.size
  have hsz := hC5.size
  have l5 := Nat.lt_of_lt_of_le l1 hC5.size
  have kk2 := (hC5.cell (p := ⟨w.heap.size, 2, none⟩) l1).trans k2
  have q0 := hBk.cell 0
  have q1 := hBk.cell 1
  have q2 := hBk.cell 2
  have q3 := hBk.cell 3
  have hLit := Lib.hid (OwnR.litC (hOC.out.elB (n := n9) (fun b => b < wc.heap.size) fun k hk _ => (Array.getElem?_eq_some_iff.1 hk.choose_spec).1))
  have hb8 := hC5.trans ((below_a1 wc (.cells #[.int .i64 n9, .slice D1 m1 d1, .slice D2 m2 d2, .slice D3 m3 d3] 71)).mono hsz)
  have HM8 := Lib.hid (HMr.out.mv elCell_ok ((Mv.below hb8 fun b hb => Nat.lt_of_lt_of_le hb.2 hz1).trans (Mv.to _ (S' := fun k => k < wc.heap.size ∧ (Value.slice (some ⟨wc.heap.size, 0, none⟩) 1 1).ownBlock ≠ some k) fun b hb _ => ⟨by have := hb.2; omega, fun e => by simp [Value.ownBlock] at e; have := hb.2; omega⟩)))
  have hml := HMr.out.1
  have hs8 : Hid (wc.heap.size ≤ (wc.alloc (.cells #[.int .i64 n9, .slice D1 m1 d1, .slice D2 m2 d2, .slice D3 m3 d3] 71)).heap.size) := Lib.hid (by rw [World.size_alloc]; omega)
  have hlm : Hid ([(n9, Su, Mi, Ma)].length + n2 ≤ 1000000) := Lib.hid (by simp only [List.length_singleton]; omega)
  have HB8 := Lib.hid hb8
  clear HGt k0 k1 k2 k4 g0 hb8
  go_wp2_with (at_builtin; refine wpList_appXs elCell_ok rfl _ _ rfl info_cell3 Tryz.underlying107 rfl (by decide) wc.heap.size (fun b => b < wc.heap.size) (.slice (some ⟨wc.heap.size, 0, none⟩) 1 1) [(n9, Su, Mi, Ma)] rfl hLit.out ad n2 c2 M rfl HM8.out (fun _ _ _ h hl => elCell_one h hl) hlm.out hs8.out ?_)
  intro v' w9 hO9 hG9
  obtain ⟨A9, c9, rfl, hRw⟩ := hO9.read elCell_ok
  have hb9 := HB8.out.trans (hG9.below_ HB8.out.size fun k e => by simp [Value.ownBlock] at e; omega)
  have hs9 := sum_at hRw.hasCs (by rw [List.length_cons]; omega) hb9 hbr
  rw [List.length_cons, hml] at hs9
  have HS9 := Lib.hid hs9
  clear hO9 hG9 hRw hLit HM8 HMr hs9
  go_wp2_with fail
  refine Calls.mono HS9.out ?_
  rintro e w6 ⟨⟨E1, d1, e1, E2, d2, e2, E3, d3, e3, rfl, hO6⟩, hB6, hR6⟩
  have hB7 := hb1.trans (hB6.mono hb1.size)
  have hrl := hbr.lt
  have hz1 := hb1.size
  rw [HZ.out] at hO6 ⊢
  dsimp only at hO6 ⊢
  have r0 := hR6.cell 0
  have r1 := hR6.cell 1
  have r2 := hR6.cell 2
  have r3 := hR6.cell 3
  have f0 := hR6.free 0
  have f1 := hR6.free 1
  have f2 := hR6.free 2
  have f3 := hR6.free 3
  have hRR := Lib.hid (hR6.put4_ (.int .i64 q9) (.slice E1 d1 e1) (.slice E2 d2 e2) (.slice E3 d3 e3))
  have hRO := Lib.hid ((hO6.put4_ hrl (.int .i64 q9) (.slice E1 d1 e1) (.slice E2 d2 e2) (.slice E3 d3 e3)).low hz1)
  have hRB := Lib.hid (below_put4 (r := w.heap.size + 1) hB7 (by omega) (.int .i64 q9) (.slice E1 d1 e1) (.slice E2 d2 e2) (.slice E3 d3 e3))
  clear hO6 hB6 hR6 hB7
  go_wp2_with fail
  refine bodyPost_ret (results_block2 rfl _ _ (w.heap.size + 1) _ _ rfl hRR.out Tryz.underlying71 rfl info_cell) rfl ?_
  rw [hZ.out]
  exact ⟨⟨_, _, _, rfl, hRO.out⟩, hRB.out⟩
theorem sumL_any (h : LtM w g X1 X2 X3 dv vv ds vs N Qs W m Cs cnt) {v : Nat} (hv : v < Cs.length) {q : Int} {A1 A3 A4 A5 : Option Addr} {ad : Addr} {n1 c1 n2 c2 n3 c3 n4 c4 n5 c5 : Nat} {K : List Int} {M : List PC} {S : Nat → Prop} (hK : HasI w w.heap.size A1 n1 c1 K) (hM : Row elCell 4 w S (some ad) n2 c2 M) (hn : n2 ≤ 1000) :
  Calls Tryz.prog 105 #[.pointer (some ⟨g, 0, none⟩), .agg #[.int .i64 (v : Int), .slice A1 n1 c1, .slice (some ad) n2 c2, .int .i64 q, .slice A3 n3 c3, .slice A4 n4 c4, .slice A5 n5 c5]] w (TellC w (withP (Cs.getD v []) K M)) := by
 rcases hgk : getK (Cs.getD v []) K with _ | ⟨n9, Su, Mi, Ma⟩
 ·exact sumL_none h hv hK hM hn hgk
 ·exact sumL_some h hv hK hM hn hgk
end
end Go.Proofs.YtmepdkdeanbbaaaGreat
namespace Go.Proofs.YtmepdkdeanbbaaaGreat
set_option maxRecDepth 100000
open Go.RowKit

def KdB (w : World) : Nat → Prop := fun k => ∃ cs T, (T = 3 ∨ T = 71) ∧ w.heap[k]? = some (.cells cs T (0, 0))
section
variable {w w' : World}
theorem KdB.mv (h : ∀ k cs T, (T = 3 ∨ T = 71) → k < w.heap.size → w.heap[k]? = some (.cells cs T (0, 0)) → w'.heap[k]? = w.heap[k]?) : Mv w (KdB w) w' (KdB w') := fun b hb hl => by
 obtain ⟨cs, T, hT, hc⟩ := hb
 have e := h b cs T hT hl hc
 exact ⟨e, cs, T, hT, e.trans hc⟩
theorem KdB.below (hb : Below w.heap.size w w') : Mv w (KdB w) w' (KdB w') := KdB.mv fun k _ _ _ hl _ => hb.block k hl
theorem KdB.grew {B size n : Nat} {e : TypeId} {v v' : Value} {xs : List Value} (hr : w.ownsRow B e size v n xs) (hG : Grew w v w' v') (h1 : e ≠ 3) (h2 : e ≠ 71) : Mv w (KdB w) w' (KdB w') := KdB.mv fun k cs T hT hl hc => hG.1.block k hl fun e' => own_ne_block hr hc (by rcases hT with rfl | rfl <;> assumption) e'.symm
end
def elChg : ElT Chn := fun w S us x => ∃ (A1 : Option Addr) (n1 c1 : Nat) (ad : Addr) (n2 c2 : Nat) (n : Int) (A3 : Option Addr) (n3 c3 : Nat) (A4 : Option Addr) (n4 c4 : Nat) (A5 : Option Addr) (n5 c5 : Nat),
 us = [.int .i64 (x.1.1 : Int), .slice A1 n1 c1, .slice (some ad) n2 c2, .int .i64 n, .slice A3 n3 c3, .slice A4 n4 c4, .slice A5 n5 c5] ∧ Row elInt 1 w S A1 n1 c1 x.1.2 ∧ Row elCell 4 w S (some ad) n2 c2 x.2.1 ∧ elCell w S [.int .i64 n, .slice A3 n3 c3, .slice A4 n4 c4, .slice A5 n5 c5] x.2.2
theorem elChg_ok : elChg.Ok := fun _ _ _ _ _ _ hm ⟨A1, n1, c1, ad, n2, c2, n, A3, n3, c3, A4, n4, c4, A5, n5, c5, e, h1, h2, h3⟩ => ⟨A1, n1, c1, ad, n2, c2, n, A3, n3, c3, A4, n4, c4, A5, n5, c5, e, h1.mv elInt_ok hm, h2.mv elCell_ok hm, elCell_ok _ _ _ _ _ _ hm h3⟩
abbrev OwnH (w : World) (base : Nat) (v : Value) (L : List Chn) : Prop := OwnR elChg 109 7 w base (KdB w) v L
section
variable {w w' : World} {base B : Nat} {v v' : Value} {L L' : List Chn}
theorem OwnH.nil_ (w : World) (base : Nat) : OwnH w base (.slice none 0 0) [] := OwnR.nil_ _ _ _
theorem OwnH.to_ (h : OwnR elChg 109 7 w' base (KdB w) v L) (hm : Mv w (KdB w) w' (KdB w')) : OwnH w' base v L := h.to elChg_ok fun k hk _ => by
 have hl : k < w.heap.size := by
  obtain ⟨cs, T, _, hc⟩ := hk
  exact (Array.getElem?_eq_some_iff.1 hc).1
 exact (hm k hk hl).2
theorem OwnH.below (h : OwnH w base v L) (hb : Below w.heap.size w w') : OwnH w' base v L := OwnH.to_ (OwnR.below elChg_ok h hb) (KdB.below hb)
theorem OwnH.app (h : OwnH w base v L) (h6 : OwnR elChg 109 7 w' base (KdB w) v' L') (hG : Grew w v w' v') : OwnH w' base v' L' := by
 obtain ⟨vs, h1, _⟩ := h
 exact OwnH.to_ h6 (KdB.grew h1 hG (by decide) (by decide))
theorem GthM.grew {view : Int} {r : Value} {G : List (List Int × List PC)} (hg : GthM w B view r G) (h : OwnH w base v L) (hG : Grew w v w' v') (hne : ∀ k, r.ownBlock = some k → v.ownBlock ≠ some k) : GthM w' B view r G := by
 obtain ⟨xs, hx, _⟩ := h
 obtain ⟨ps, h0, h1, h2, h3⟩ := hg
 have kI : ∀ {u : Value} {l : List Int}, OwnI w B u l → OwnI w' B u l := fun {u l} hu => World.ownsRow.kept hu hG.1 (row_ne hu hx (by decide))
 have kX : ∀ {u : Value} {l : List PC}, OwnX w B u l → OwnX w' B u l := fun {u l} hu => hu.kept (Kept.of_grown hG.1) (fun k hk e => by
  obtain ⟨cs, hc⟩ := hk
  exact own_ne_block hx hc (by decide) e) (fun k hk e => by
  obtain ⟨xs', hx', _⟩ := hu
  rcases row_ne hx' hx (by decide) with h4 | h4
  ·rw [hk] at h4; cases h4
  ·exact h4 (hk.trans e.symm))
 refine ⟨ps, h0, ?_, fun i p x hp hx => ⟨kI (h2 i p x hp hx).1, kX (h2 i p x hp hx).2⟩, h3⟩
 refine World.ownsRow.kept h1 hG.1 ?_
 rcases hr : r.ownBlock with _ | k
 ·exact .inl rfl
 ·exact .inr fun e => hne k hr e.symm
theorem elChg_made {vw : Nat} {K : List Int} {M : List PC} {n : Int} {A1 A3 A4 A5 : Option Addr} {ad : Addr} {n1 c1 n2 c2 n3 c3 n4 c4 n5 c5 B0 : Nat} {Su Mi Ma : List Int} (h : OwnH w base v L) (hK : OwnI w B (.slice A1 n1 c1) K) (hM : OwnX w B (.slice (some ad) n2 c2) M) (hC : OwnC w B0 (.slice A3 n3 c3) (.slice A4 n4 c4) (.slice A5 n5 c5) Su Mi Ma) :
  elChg w (fun k => KdB w k ∧ v.ownBlock ≠ some k) [.int .i64 (vw : Int), .slice A1 n1 c1, .slice (some ad) n2 c2, .int .i64 n, .slice A3 n3 c3, .slice A4 n4 c4, .slice A5 n5 c5] ((vw, K), (M, (n, Su, Mi, Ma))) := by
 obtain ⟨xs, hx, _⟩ := h
 have hne : ∀ k, KdB w k → v.ownBlock ≠ some k := fun k hk => by
  obtain ⟨cs, T, hT, hc⟩ := hk
  exact own_ne_block hx hc (by rcases hT with rfl | rfl <;> decide)
 have hI : ∀ k, IntB w k → KdB w k := fun k ⟨cs, hc⟩ => ⟨cs, _, .inl rfl, hc⟩
 refine ⟨A1, n1, c1, ad, n2, c2, n, A3, n3, c3, A4, n4, c4, A5, n5, c5, rfl, ?_, ?_, hC.elB _ fun k hk _ => ⟨hI k hk, hne k (hI k hk)⟩⟩
 ·have h2 : OwnR elInt 3 1 w B (fun _ => False) (.slice A1 n1 c1) K := hK.ownR
  obtain ⟨A, c, e, hr⟩ := h2.read elInt_ok
  injection e with e1 e2 e3
  subst e1 e2 e3
  refine hr.mv elInt_ok (Mv.to w fun b hb hl => ?_)
  rcases hb with hb | ⟨_, hb⟩
  ·exact hb.elim
  ·obtain ⟨cs, fr, hc⟩ := own_kind hK hb
   have hk : KdB w b := by
    rcases hK.2 with ⟨e0, _⟩ | ⟨g, cap, cur, e0, _, hg, _⟩
    ·rw [e0] at hb; cases hb
    ·rw [e0] at hb
     have e3 : g = b := by simpa [Value.ownBlock] using hb
     subst e3
     exact ⟨_, _, .inl rfl, hg⟩
   exact ⟨hk, hne b hk⟩
 ·obtain ⟨ys, hy, _⟩ := id hM
  obtain ⟨A, c, e, hr⟩ := OwnR.read elCell_ok hM
  injection e with e1 e2 e3
  subst e1 e2 e3
  refine hr.mv elCell_ok (Mv.to w fun b hb hl => ?_)
  rcases hb with hb | ⟨_, hb⟩
  ·exact ⟨hI b hb, hne b (hI b hb)⟩
  ·have hk : KdB w b := by
    rcases hy.2 with ⟨e0, _⟩ | ⟨g, cap, cur, e0, _, hg, _⟩
    ·rw [e0] at hb; cases hb
    ·rw [e0] at hb
     have e3 : g = b := by simpa [Value.ownBlock] using hb
     subst e3
     exact ⟨_, _, .inr rfl, hg⟩
   exact ⟨hk, hne b hk⟩
end
end Go.Proofs.YtmepdkdeanbbaaaGreat
namespace Go.Proofs.YtmepdkdeanbbaaaGreat
set_option maxRecDepth 100000
open Go.RowKit

def KeB (w : World) : Nat → Prop := fun k => ∃ cs T, (T = 3 ∨ T = 71 ∨ T = 109) ∧ w.heap[k]? = some (.cells cs T (0, 0))
theorem KeB.chgL {w w' : World} {g : Nat} {X1 X2 X3 dv vv : Value} {ds : List DAt} {vs : List CAt} {N : List Nat} {Qs : List (List Pth)} {W m : Nat} {Cs : List Cub} {cnt : Int} (hL : LtM w g X1 X2 X3 dv vv ds vs N Qs W m Cs cnt) (hc : Chg (footL g dv vv ds vs) w w') : Mv w (KeB w) w' (KeB w') := fun k hb hl => by
 obtain ⟨cs, T, hT, hk⟩ := hb
 have e := hc.block k hl fun hf => by
  obtain ⟨o, ho, hi⟩ := hL.kind hf
  rw [hk] at ho
  injection ho with ho
  subst ho
  rcases hT with rfl | rfl | rfl <;> simp [isLat] at hi
 exact ⟨e, cs, T, hT, e.trans hk⟩
theorem KeB.below {w w' : World} (hb : Below w.heap.size w w') : Mv w (KeB w) w' (KeB w') := fun k h hl => by
 obtain ⟨cs, T, hT, hk⟩ := h
 exact ⟨hb.block k hl, cs, T, hT, (hb.block k hl).trans hk⟩
theorem OwnH.readE {w : World} {base : Nat} {v : Value} {L : List Chn} (h : OwnH w base v L) : ∃ A c, v = .slice A L.length c ∧ Row elChg 7 w (KeB w) A L.length c L := by
 obtain ⟨A, c, e, hr⟩ := OwnR.read elChg_ok h
 obtain ⟨xs, hx, _⟩ := h
 refine ⟨A, c, e, hr.mv elChg_ok (Mv.to w fun b hb hl => ?_)⟩
 rcases hb with ⟨cs, T, hT, hc⟩ | ⟨_, hb⟩
 ·exact ⟨cs, T, by rcases hT with h | h <;> simp [h], hc⟩
 ·rcases hx.2 with ⟨e0, _⟩ | ⟨g, cap, cur, e0, _, hg, _⟩
  ·rw [e0] at hb; cases hb
  ·rw [e0] at hb
   have e3 : g = b := by simpa [Value.ownBlock] using hb
   subst e3
   exact ⟨_, _, .inr (.inr rfl), hg⟩
theorem chgs_len (Rs : List (List Pth)) (Vs : List (List Int)) (Cs : List Cub) (G : List Fct) : ∀ n, (chgs Rs Vs Cs G n).length ≤ n * G.length
 | 0 => by simp [chgs_zero]
 | n + 1 => by
  rw [chgs_succ, List.length_append, Nat.succ_mul]
  have h1 := chgs_len Rs Vs Cs G n
  have h2 := gthF_len (kC Rs (Vs.getD n [])) oneF G
  have h3 : (chgV n (Cs.getD n []) (gthF (kC Rs (Vs.getD n [])) oneF G)).length = (gthF (kC Rs (Vs.getD n [])) oneF G).length := by unfold chgV; rw [List.length_map]
  omega
theorem chgV_snoc {v : Nat} {C : Cub} {L : List (List Int × List PC)} {j : Nat} {K : List Int} {M : List PC} (h : L[j]? = some (K, M)) : (chgV v C L).take (j + 1) = (chgV v C L).take j ++ [((v, K), (M, (withP C K M).1))] :=
 takeG_step (by unfold chgV; rw [List.getElem?_map, h]; rfl)
def TellChg (w : World) (Qs : List (List Pth)) (Vs : List (List Int)) (Cs : List Cub) (cnt : Int) (G : List Fct) (e : Ending) (w' : World) : Prop :=
 ((1099511627776 < cnt + (G.length : Int) ∧ e = .returned (.tuple #[.slice none 0 0, .int .i64 14])) ∨
  (cnt + (G.length : Int) ≤ 1099511627776 ∧ ∃ (i : Nat) (x : List Int × List PC), i < Vs.length ∧ x ∈ gthF (kC Qs (Vs.getD i [])) oneF G ∧ (withP (Cs.getD i []) x.1 x.2).2 ≠ 0 ∧ e = .returned (.tuple #[.slice none 0 0, .int .i64 (withP (Cs.getD i []) x.1 x.2).2])) ∨
  (cnt + (G.length : Int) ≤ 1099511627776 ∧ (∀ i, i < Vs.length → okV (Cs.getD i []) (gthF (kC Qs (Vs.getD i [])) oneF G)) ∧ ∃ A c, e = .returned (.tuple #[.slice A (chgs Qs Vs Cs G Vs.length).length c, .int .i64 0]) ∧ Row elChg 7 w' (KeB w') A (chgs Qs Vs Cs G Vs.length).length c (chgs Qs Vs Cs G Vs.length))) ∧
 Below w.heap.size w w'
theorem OwnC.set_ {w : World} {base r : Nat} {v1 v2 v3 : Value} {S M X : List Int} (h : OwnC w base v1 v2 v3 S M X) (hr : r < base) (j : Nat) (u : Value) : OwnC (w.setCell ⟨r, j, none⟩ u) base v1 v2 v3 S M X := by
 have key : ∀ {v : Value} {l : List Int}, OwnI w base v l → OwnI (w.setCell ⟨r, j, none⟩ u) base v l := fun h => h.other (fun e => by have := (h.lt r e).1; omega) u
 exact ⟨key h.s, key h.m, key h.x⟩
end Go.Proofs.YtmepdkdeanbbaaaGreat
namespace Go.Proofs.YtmepdkdeanbbaaaGreat
set_option maxRecDepth 100000
open Go.RowKit

theorem seven_oneH (i : Int) (A1 : Option Addr) (n1 c1 : Nat) (A2 : Option Addr) (n2 c2 : Nat) (j : Int) (A3 : Option Addr) (n3 c3 : Nat) (A4 : Option Addr) (n4 c4 : Nat) (A5 : Option Addr) (n5 c5 : Nat) : ∀ u ∈ [Value.int .i64 i, .slice A1 n1 c1, .slice A2 n2 c2, .int .i64 j, .slice A3 n3 c3, .slice A4 n4 c4, .slice A5 n5 c5], u.oneCell' = true := by
 intro u hu
 simp only [List.mem_cons, List.not_mem_nil, or_false] at hu
 rcases hu with rfl | rfl | rfl | rfl | rfl | rfl | rfl <;> rfl
set_option maxRecDepth 100000 in
set_option maxHeartbeats 4000000 in
theorem changesL_any {w : World} {g : Nat} {B1 B2 B3 : Option Addr} {n1 c1 n2 c2 n3 c3 : Nat} {dv vv : Value} {ds : List DAt} {vs : List CAt} {Qs : List (List Pth)} {W m : Nat} {Cs : List Cub} {cnt : Int} {D : List PDim} {Me : List Txt} {V : List (List Int)} {R : Nat → Prop} (h : LtM w g (.slice B1 n1 c1) (.slice B2 n2 c2) (.slice B3 n3 c3) dv vv ds vs (levN D) Qs W m Cs cnt) (hS : SchR w R B1 n1 c1 B2 n2 c2 B3 n3 c3 D Me V) (hm : mayS D Me V) (hCl : Cs.length = (viewsP D V).length) (hc0 : 0 ≤ cnt) (hc1 : cnt ≤ 1099511627776) {Ak Af : Option Addr} {nk ck nf cf : Nat} {S : Nat → Prop} {Ks : List (List Int)} {G : List Fct}
  (hK : HasL w w.heap.size Ak nk ck Ks) (hF : HasF w S Af nf cf G) (hn : nf ≤ 1000) (hsm : ∀ f ∈ G, SmallF f) (hval : m ≤ 2 ∧ ∀ f ∈ G, isVal m f.2) (hnk : nk = nf)
  (hkey : ∀ (i : Nat) (f : Fct), G[i]? = some f → fullK (levN D) Qs (Ks.getD i []) ∧ ∀ v, LevD (levN D) v → upB Qs (Ks.getD i []) v = kC Qs v f) :
  Calls Tryz.prog 51 #[.pointer (some ⟨g, 0, none⟩), .slice Ak nk ck, .slice Af nf cf] w (TellChg w Qs (viewsP D V) Cs cnt G) := by
 subst hnk
 have Hlen := Lib.hid (hF.len)
 obtain ⟨Av, cv, evv, hvl, hat⟩ := h.lenV
 subst evv
 have hfew := views_few hm
 have hDl : D.length ≤ 3 := by have := hm.1.2.2.1; rw [List.length_map] at this; exact this
 have hNl : (levN D).length ≤ 3 := by unfold levN; rw [List.length_map]; exact hDl
 have hsms := mayS_small hm
 have HLev := Lib.hid (views_lev hm)
 have hsl1 := hS.d.1
 have hsl3 := hS.v.1
 have HVw := Lib.hid (views_any hS.has (by omega) (by have := hsms.v.1; omega) hsms.v.2)
 have k4 := h.c4
 have k0 := h.c0
 have k1 := h.c1
 have k2 := h.c2
 have k5 := h.c5
 have HM := Lib.hid h
 have HK := Lib.hid hK
 have HF := Lib.hid hF
 have Hsm := Lib.hid hsm
 have Hval := Lib.hid hval
 have Hkey := Lib.hid hkey
 have HN := Lib.hid hNl
 have hnk2 : nk ≤ 1000 := hn
 have hwr : IntKind.i64.wrap (cnt + (nk : Int)) = cnt + (nk : Int) := IntWalk.i64_in _ (by omega)
 have hcapk := hK.cap
 obtain ⟨nv, hnv⟩ : ∃ nv, Hid ((viewsP D V).length = nv) := ⟨_, Lib.hid rfl⟩
 rw [hnv.out] at hfew hCl
 have HCl := Lib.hid hCl
 rw [hCl] at k4
 obtain ⟨Vs, hVs⟩ : ∃ Vs, Hid (viewsP D V = Vs) := ⟨_, Lib.hid rfl⟩
 rw [hVs.out] at hnv HVw HLev ⊢
 clear h hS hm hCl hK hF hsm hval hkey hNl hsms hvl hat hsl1 hsl3 hn hDl
 by_cases hbig : 1099511627776 < cnt + (nk : Int)
 ·have hE := Lib.hid (show TellChg w Qs Vs Cs cnt G (.returned (.tuple #[.slice none 0 0, .int .i64 14])) w from ⟨.inl ⟨by rw [Hlen.out]; exact hbig, rfl⟩, Below.refl _ _⟩)
  go_enter Tryz.func51, Tryz.ntmps51
  go_wp2_with fail
  go_ret2
  exact hE.out
 ·have Hbig : Hid (cnt + (G.length : Int) ≤ 1099511627776) := Lib.hid (by rw [Hlen.out]; omega)
  go_enter Tryz.func51, Tryz.ntmps51
  go_wp2_with fail
  refine HVw.out.mono ?_
  rintro e w1 ⟨⟨cr, rfl, hcr⟩, hB1⟩
  obtain ⟨Ac, cc, rfl, hCr⟩ := hcr.form
  rw [hnv.out] at hCr ⊢
  have q4 := (HM.out.below hB1).c4
  rw [HCl.out] at q4
  have HCr := Lib.hid hCr
  have HB1 := Lib.hid hB1
  clear hcr hCr hB1 HVw
  go_wp2_with fail
  go_loopw [8, 32] (fun al i wr => ∃ k : Nat, k ≤ nv ∧ i = .int .i64 k ∧ Hid (OwnH wr w1.heap.size al (chgs Qs Vs Cs G k)) ∧ Hid (∀ i, i < k → okV (Cs.getD i []) (gthF (kC Qs (Vs.getD i [])) oneF G)) ∧ Below w1.heap.size w1 wr) (fun _ i _ => nv - (intOf i).toNat)
  case atStart => exact ⟨0, Nat.zero_le _, rfl, Lib.hid (OwnH.nil_ _ _), Lib.hid fun i hi => absurd hi (by omega), Below.refl _ _⟩
  case round =>
   obtain ⟨k, hk, rfl, hO, hOk, hB⟩ := hrel
   have hBw := HB1.out.trans (hB.mono HB1.out.size)
   by_cases hlt : k < nv
   ·have i0 : (0 : Int) ≤ (k : Int) := by omega
    have i1 : (k : Int) < (nv : Int) := by omega
    obtain ⟨bc, oc, Al, nl, cl, lv, rfl, hbc, gc, hlv, hle⟩ := HCr.out.at_ hlt
    have gl : wr.cell? ⟨bc, oc + k, none⟩ = some (.slice Al nl cl) := (hB.cell (p := ⟨bc, oc + k, none⟩) hbc).trans gc
    have hlvm : lv ∈ Vs := by
     rw [hle.out, List.getD_eq_getElem?_getD, List.getElem?_eq_getElem (by rw [hnv.out]; exact hlt)]
     exact List.getElem_mem _
    obtain ⟨Lg, hLg⟩ : ∃ Lg, Hid (gthF (kC Qs lv) oneF G = Lg) := ⟨_, Lib.hid rfl⟩
    have hg := gatheredL_any (HM.out.below hBw) HN.out (k : Int) (((hlv.below hB (Nat.le_refl _)).more hB.size)) (HLev.out lv hlvm) ((HK.out.below hBw (Nat.le_refl _)).more hBw.size) (HF.out.mv elFct_ok (Mv.belowS hBw _)) hnk2 Hsm.out Hval.out rfl fun i f hi => ⟨(Hkey.out i f hi).1, (Hkey.out i f hi).2 lv (HLev.out lv hlvm)⟩
    rw [hLg.out] at hg
    have HGa := Lib.hid hg
    have Hlv := Lib.hid (show gthF (kC Qs (Vs.getD k [])) oneF G = Lg by rw [← hle.out]; exact hLg.out)
    clear hg hlv gc hlvm
    go_wp2_with fail
    refine HGa.out.mono ?_
    rintro e w5 ⟨⟨rv, rfl, hG5⟩, hB5⟩
    obtain ⟨Ar, cr5, rfl⟩ := hG5.shape
    have hLl : Lg.length ≤ 1000 := by
     have h1 := gthF_len (kC Qs lv) oneF G
     rw [hLg.out] at h1
     have := Hlen.out
     omega
    have HO5 := Lib.hid (hO.out.below hB5)
    have HB5 := Lib.hid (hB.trans (hB5.mono hB.size))
    have hlo := HO5.out.lt
    have hlg := hG5.lt
    have hne5 : Hid (∀ q, (Value.slice Ar Lg.length cr5).ownBlock = some q → u8.ownBlock ≠ some q) := Lib.hid fun q h1 h2 => by
     have h3 := (hlg q h1).1
     have h4 := (hO.out.lt q h2).2
     omega
    have HG5 := Lib.hid hG5
    have Hk := Lib.hid (show (chgs Qs Vs Cs G k).length ≤ 7000 from Nat.le_trans (chgs_len Qs Vs Cs G k) (by rw [Hlen.out]; exact Nat.mul_le_mul (show k ≤ 7 by omega) hnk2))
    clear hG5 hO hB hBw hB5 HGa hlo hlg
    go_wp2_with fail
    go_loopw [8, 45] (fun al i2 w2 => ∃ j : Nat, j ≤ Lg.length ∧ i2 = .int .i64 j ∧ Hid (OwnH w2 w1.heap.size al (chgs Qs Vs Cs G k ++ (chgV k (Cs.getD k []) Lg).take j)) ∧ Hid (∀ x ∈ Lg.take j, (withP (Cs.getD k []) x.1 x.2).2 = 0) ∧ Hid (GthM w2 wr.heap.size k (.slice Ar Lg.length cr5) Lg) ∧ Hid (∀ q, (Value.slice Ar Lg.length cr5).ownBlock = some q → al.ownBlock ≠ some q) ∧ Below w1.heap.size w1 w2) (fun _ i2 _ => Lg.length - (intOf i2).toNat)
    case atStart => exact ⟨0, Nat.zero_le _, rfl, Lib.hid (by rw [List.take_zero, List.append_nil]; exact HO5.out), Lib.hid fun x hx => by simp at hx, HG5, hne5, HB5.out⟩
    case round =>
     obtain ⟨j, hj, rfl, hO, hIn, hG, hne, hB⟩ := hrel
     have hBw := HB1.out.trans (hB.mono HB1.out.size)
     by_cases hjl : j < Lg.length
     ·obtain ⟨⟨K, M⟩, hjx⟩ : ∃ x, Hid (Lg[j]? = some x) := ⟨_, Lib.hid (List.getElem?_eq_getElem hjl)⟩
      obtain ⟨gA, cA, A1, d1, e1, A2, d2, e2, ev, hgl, p0, p1, p2, p3, p4, p5, p6, _, hKo, hMo⟩ := hG.out.at_ hjx.out
      injection ev with ev _ ev2
      subst ev ev2
      have hM0 : M ≠ [] ∧ M.length ≤ 1000 := by
       have h1 : (K, M) ∈ gthF (kC Qs lv) oneF G := by rw [hLg.out]; exact List.mem_of_getElem? hjx.out
       obtain ⟨⟨f, hf, hfk⟩, h2⟩ := mem_gthF.1 h1
       dsimp only at h2 hfk
       refine ⟨fun h0 => ?_, ?_⟩
       ·have h3 : oneF f ∈ cellsV (kC Qs lv) oneF G K := by unfold cellsV; exact List.mem_map.2 ⟨f, List.mem_filter.2 ⟨hf, by simp [hfk]⟩, rfl⟩
        rw [← h2, h0] at h3
        cases h3
       ·have h5 : (cellsV (kC Qs lv) oneF G K).length ≤ G.length := by unfold cellsV; rw [List.length_map]; exact List.length_filter_le _ _
        rw [h2]
        have := Hlen.out
        omega
      obtain ⟨AM, cM, eM, hMr⟩ := OwnR.read elCell_ok hMo
      injection eM with eM1 eM2 eM3
      subst eM1 eM2 eM3
      obtain ⟨ad, rfl⟩ : ∃ ad, A2 = some ad := by
       rcases A2 with _ | ad
       ·exact absurd hM0.1 (fun h => h (List.eq_nil_of_length_eq_zero (by have := hMr.void rfl; have := hMr.cap; omega)))
       ·exact ⟨ad, rfl⟩
      obtain ⟨_, _, _, eK, hKi, _⟩ := hKo.formN
      injection eK with eK1 eK2 eK3
      subst eK1 eK2 eK3
      have j0 : (0 : Int) ≤ (j : Int) := by omega
      have j1 : (j : Int) < (Lg.length : Int) := by omega
      have hb8 := below_a1 wr (.cells #[.int .i64 (k : Int), .slice A1 d1 e1, .slice (some ad) M.length e2, .int .i64 0, .slice none 0 0, .slice none 0 0, .slice none 0 0] 109)
      have hbk := chg_seven wr (.int .i64 (k : Int)) (.slice A1 d1 e1) (.slice (some ad) M.length e2) (.int .i64 0) (.slice none 0 0) (.slice none 0 0) (.slice none 0 0)
      have hX := sumL_any (q := 0) (A3 := none) (n3 := 0) (c3 := 0) (A4 := none) (n4 := 0) (c4 := 0) (A5 := none) (n5 := 0) (c5 := 0) ((HM.out.below hBw).below hb8) (show k < Cs.length by rw [HCl.out]; exact hlt) ((hKi.below hb8 (Nat.le_refl _)).more hb8.size) (hMr.mv elCell_ok (Mv.belowS hb8 _)) hM0.2
      obtain ⟨⟨⟨n9, Su, Mi, Ma⟩, er⟩, hwp⟩ : ∃ z, Hid (withP (Cs.getD k []) K M = z) := ⟨_, Lib.hid rfl⟩
      rw [hwp.out] at hX
      have HX := Lib.hid hX
      have HKo := Lib.hid hKo
      have HMo := Lib.hid hMo
      have Hb8 := Lib.hid hb8
      have c0 := hbk.cell 0
      have c1' := hbk.cell 1
      have c2' := hbk.cell 2
      have c3' := hbk.cell 3
      have c4' := hbk.cell 4
      have c5' := hbk.cell 5
      have c6' := hbk.cell 6
      have hHK := HKo.out.lt
      clear hX hKi hMr hKo hMo hBw hb8
      go_wp2_with fail
      refine HX.out.mono ?_
      rintro e w9 ⟨⟨v1, v2, v3, rfl, hOC⟩, hB9⟩
      obtain ⟨E1, m1, f1, rfl, _, _⟩ := hOC.s.formN
      obtain ⟨E2, m2, f2, rfl, _, _⟩ := hOC.m.formN
      obtain ⟨E3, m3, f3, rfl, _, _⟩ := hOC.x.formN
      have hbk9 := hbk.below hB9 hbk.lt
      have hb9 := Hb8.out.trans (hB9.mono Hb8.out.size)
      have HBZ := Lib.hid ((((hb9.setCell (p := ⟨wr.heap.size, 3, none⟩) (Nat.le_refl _) (.int .i64 n9)).setCell (p := ⟨wr.heap.size, 4, none⟩) (Nat.le_refl _) (.slice E1 m1 f1)).setCell (p := ⟨wr.heap.size, 5, none⟩) (Nat.le_refl _) (.slice E2 m2 f2)).setCell (p := ⟨wr.heap.size, 6, none⟩) (Nat.le_refl _) (.slice E3 m3 f3))
      have hbZ : Block ((((w9.setCell ⟨wr.heap.size, 3, none⟩ (.int .i64 n9)).setCell ⟨wr.heap.size, 4, none⟩ (.slice E1 m1 f1)).setCell ⟨wr.heap.size, 5, none⟩ (.slice E2 m2 f2)).setCell ⟨wr.heap.size, 6, none⟩ (.slice E3 m3 f3)) wr.heap.size 109 #[.int .i64 (k : Int), .slice A1 d1 e1, .slice (some ad) M.length e2, .int .i64 n9, .slice E1 m1 f1, .slice E2 m2 f2, .slice E3 m3 f3] := (((hbk9.set_ 3 (.int .i64 n9)).set_ 4 (.slice E1 m1 f1)).set_ 5 (.slice E2 m2 f2)).set_ 6 (.slice E3 m3 f3)
      have hlt8 : wr.heap.size < (wr.alloc (.cells #[.int .i64 (k : Int), .slice A1 d1 e1, .slice (some ad) M.length e2, .int .i64 0, .slice none 0 0, .slice none 0 0, .slice none 0 0] 109)).heap.size := by rw [World.size_alloc]; omega
      have HOC := Lib.hid ((((hOC.set_ hlt8 3 (.int .i64 n9)).set_ hlt8 4 (.slice E1 m1 f1)).set_ hlt8 5 (.slice E2 m2 f2)).set_ hlt8 6 (.slice E3 m3 f3))
      have d3 := hbk9.cell 3
      have d4 := hbk9.cell 4
      have d5 := hbk9.cell 5
      have d6 := hbk9.cell 6
      have g3 := hbk9.free 3
      have g4 := hbk9.free 4
      have g5 := hbk9.free 5
      have g6 := hbk9.free 6
      clear hOC hB9 HX hb9 c0 c1' c2' c3' c4' c5' c6' hbk hbk9
      go_upto_region 13 with fail
      generalize (((w9.setCell ⟨wr.heap.size, 3, none⟩ (.int .i64 n9)).setCell ⟨wr.heap.size, 4, none⟩ (.slice E1 m1 f1)).setCell ⟨wr.heap.size, 5, none⟩ (.slice E2 m2 f2)).setCell ⟨wr.heap.size, 6, none⟩ (.slice E3 m3 f3) = Z at HBZ hbZ HOC ⊢
      have z0 := hbZ.cell 0
      have z1 := hbZ.cell 1
      have z2 := hbZ.cell 2
      have z3 := hbZ.cell 3
      have z4 := hbZ.cell 4
      have z5 := hbZ.cell 5
      have z6 := hbZ.cell 6
      by_cases her : er = 0
      ·subst her
       have hb2 := below_a1 Z (.cells #[.int .i64 (k : Int), .slice A1 d1 e1, .slice (some ad) M.length e2, .int .i64 n9, .slice E1 m1 f1, .slice E2 m2 f2, .slice E3 m3 f3] 109)
       have hBZ2 := HBZ.out.trans (hb2.mono HBZ.out.size)
       have HBZ2 := Lib.hid hBZ2
       have HO2 := Lib.hid (hO.out.below hBZ2)
       have HG2 := Lib.hid (hG.out.below hBZ2)
       have HC2 := Lib.hid (cells_at Z [.int .i64 (k : Int), .slice A1 d1 e1, .slice (some ad) M.length e2, .int .i64 n9, .slice E1 m1 f1, .slice E2 m2 f2, .slice E3 m3 f3] 109 Z.heap.size rfl)
       have HE2 := Lib.hid (elChg_made (vw := k) (n := n9) HO2.out (row_below HKo.out hBZ2) (HMo.out.kept (P := fun _ => False) (Kept.of_below hBZ2 _) (fun _ _ h => h) (fun _ _ h => h)) ((show OwnC _ _ _ _ _ _ _ _ from ⟨HOC.out.s.alloc _, HOC.out.m.alloc _, HOC.out.x.alloc _⟩)))
       have hl2 : Hid ((chgs Qs Vs Cs G k ++ (chgV k (Cs.getD k []) Lg).take j).length ≤ 1000000) := Lib.hid (by
        have h1 := Hk.out
        have h2 := List.length_take_le j (chgV k (Cs.getD k []) Lg)
        rw [List.length_append]
        omega)
       have hs2 : Hid (w1.heap.size ≤ (Z.alloc (.cells #[.int .i64 (k : Int), .slice A1 d1 e1, .slice (some ad) M.length e2, .int .i64 n9, .slice E1 m1 f1, .slice E2 m2 f2, .slice E3 m3 f3] 109)).heap.size) := Lib.hid (Nat.le_trans hB.size hBZ2.size)
       clear hb2 hBZ2
       go_wp2_with (at_builtin; refine wpList_appX elChg_ok rfl _ _ rfl info_chg Tryz.underlying104 rfl (by decide) w1.heap.size _ _ _ rfl HO2.out _ rfl [.int .i64 (k : Int), .slice A1 d1 e1, .slice (some ad) M.length e2, .int .i64 n9, .slice E1 m1 f1, .slice E2 m2 f2, .slice E3 m3 f3] rfl ((k, K), (M, (n9, Su, Mi, Ma))) HC2.out (seven_oneH _ _ _ _ _ _ _ _ _ _ _ _ _ _ _ _ _) HE2.out hl2.out hs2.out ?_)
       intro v' w12 hO12 hG12
       have hO13 := HO2.out.app hO12 hG12
       have hG13 := HG2.out.grew HO2.out hG12 hne.out
       have hlg := HG2.out.lt
       have hloo := HO2.out.lt
       have hne13 : Hid (∀ q, (Value.slice (some ⟨gA, 0, none⟩) Lg.length cr5).ownBlock = some q → v'.ownBlock ≠ some q) := Lib.hid fun q h1 h2 => by
        rcases hG12.2 q h2 with h3 | h3
        ·exact hne.out q h1 h3
        ·have := (hlg q h1).2; omega
       have hFin := Lib.hid (show OwnH w12 w1.heap.size v' (chgs Qs Vs Cs G k ++ (chgV k (Cs.getD k []) Lg).take (j + 1)) ∧ (∀ x ∈ Lg.take (j + 1), (withP (Cs.getD k []) x.1 x.2).2 = 0) ∧ Below w1.heap.size w1 w12 from
        ⟨by rw [chgV_snoc hjx.out, hwp.out]; simpa only [List.getD_eq_getElem?_getD, List.append_assoc] using hO13, fun x hx => by
         rw [takeG_step hjx.out, List.mem_append, List.mem_singleton] at hx
         rcases hx with hx | rfl
         ·exact hIn.out x hx
         ·exact congrArg Prod.snd hwp.out, (hB.trans (HBZ2.out.mono hB.size)).trans (hG12.below_ hs2.out fun q e => (hloo q e).1)⟩)
       have HG13 := Lib.hid hG13
       clear hO12 hG12 hO13 hG13 hlg hloo HO2 HG2 HC2 HE2 z0 z1 z2 z3 z4 z5 z6 d3 d4 d5 d6 g3 g4 g5 g6 p0 p1 p2 p3 p4 p5 p6
       go_wp2_with fail
       go_roundw
       case rel => exact ⟨j + 1, by omega, by go_num, Lib.hid hFin.out.1, Lib.hid hFin.out.2.1, HG13, hne13, hFin.out.2.2⟩
       case measure => simp [intOf]; omega
      ·have hFin := Lib.hid (show TellChg w Qs Vs Cs cnt G (.returned (.tuple #[.slice none 0 0, .int .i64 er])) Z from
        ⟨.inr (.inl ⟨Hbig.out, k, (K, M), by rw [hnv.out]; exact hlt, by rw [Hlv.out]; exact List.mem_of_getElem? hjx.out, by rw [hwp.out]; exact her, by rw [hwp.out]⟩), HB1.out.trans ((hB.trans (HBZ.out.mono hB.size)).mono HB1.out.size)⟩)
       clear z0 z1 z2 z3 z4 z5 z6 d3 d4 d5 d6 g3 g4 g5 g6 p0 p1 p2 p3 p4 p5 p6
       go_wp2_with fail
       go_ret2
       exact hFin.out
     ·obtain rfl : j = Lg.length := by omega
      have hFin := Lib.hid (show OwnH wr w1.heap.size u8 (chgs Qs Vs Cs G (k + 1)) ∧ (∀ i, i < k + 1 → okV (Cs.getD i []) (gthF (kC Qs (Vs.getD i [])) oneF G)) from
       ⟨by
        have h1 := hO.out
        rw [List.take_of_length_le (by unfold chgV; rw [List.length_map]; exact Nat.le_refl _)] at h1
        rw [chgs_succ, Hlv.out]
        exact h1, fun i hi => by
        by_cases hik : i = k
        ·subst hik
         rw [Hlv.out]
         intro x hx
         exact hIn.out x (by rw [List.take_length]; exact hx)
        ·exact hOk.out i (by omega)⟩)
      clear hO hIn hG hne
      go_wp2_with fail
      go_roundw
      case rel => exact ⟨k + 1, by omega, by go_num, Lib.hid hFin.out.1, Lib.hid hFin.out.2, hB⟩
      case measure => simp [intOf]; omega
   ·obtain rfl : k = nv := by omega
    obtain ⟨A, c, e, hr⟩ := hO.out.readE
    have hFin := Lib.hid (show TellChg w Qs Vs Cs cnt G (.returned (.tuple #[u8, .int .i64 0])) wr from ⟨.inr (.inr ⟨Hbig.out, by rw [hnv.out]; exact hOk.out, A, c, by rw [hnv.out, e], by rw [hnv.out]; exact hr⟩), hBw⟩)
    clear hO hr
    go_wp2_with fail
    go_ret2
    exact hFin.out
end Go.Proofs.YtmepdkdeanbbaaaGreat
namespace Go.Proofs.YtmepdkdeanbbaaaGreat
set_option maxRecDepth 100000
open Go.RowKit

theorem turn_put {W m : Nat} {C : Cub} {K : List Int} {x : PC} (hr : Ris C) (hk : ∀ e ∈ C, isKey W e.1) (hc : ∀ e ∈ C, isCell m e.2) (hx : isCell m x) {i : Nat} {key : List Int} {u : PC} (h : C[i]? = some (key, u)) :
  addK W m ((turnK C K x).take i) key (if key = K then x else u) = ((turnK C K x).take (i + 1), 0) := by
 have hm := List.mem_of_getElem? h
 have ha := turnK_ahead (k := K) (x := x) hr h
 have hn : getK ((turnK C K x).take i) key = none := getK_all fun j e hj he hk => by
  have h1 := ha e (List.mem_of_getElem? he)
  rw [hk] at h1
  exact absurd h1 (by rw [lessK_irrefl]; decide)
 rw [addK_new ⟨hk _ hm, by
  by_cases e : key = K
  ·rw [if_pos e]; exact hx
  ·rw [if_neg e]; exact hc _ hm⟩ hn, setK_last ha, turnK_at h]
end Go.Proofs.YtmepdkdeanbbaaaGreat
namespace Go.Proofs.YtmepdkdeanbbaaaGreat
set_option maxRecDepth 100000
open Go.RowKit

set_option maxRecDepth 100000 in
set_option maxHeartbeats 8000000 in
theorem replacedL_any {w : World} {g : Nat} {X3 dv vv : Value} {B1 B2 : Option Addr} {b1 b2 : Nat} {ds : List DAt} {vs : List CAt} {N : List Nat} {Qs : List (List Pth)} {W m : Nat} {Cs : List Cub} {cnt : Int} (h : LtM w g (.slice B1 W b1) (.slice B2 m b2) X3 dv vv ds vs N Qs W m Cs cnt) (hWm : 1 ≤ W ∧ W ≤ 3 ∧ 1 ≤ m ∧ m ≤ 2) {v : Nat} (hv : v < Cs.length) {q : Int} {A1 A3 A4 A5 : Option Addr} {ad : Addr} {n1 c1 n2 c2 n3 c3 n4 c4 n5 c5 : Nat} {K : List Int} {Sx Mx Xx : List Int} {S : Nat → Prop} (hK : HasI w w.heap.size A1 n1 c1 K) (hX : elCell w S [.int .i64 q, .slice A3 n3 c3, .slice A4 n4 c4, .slice A5 n5 c5] (q, Sx, Mx, Xx)) (hx : isCell m (q, Sx, Mx, Xx)) (hcl : ∀ e ∈ Cs.getD v [], isCell m e.2) :
  Calls Tryz.prog 107 #[.pointer (some ⟨g, 0, none⟩), .agg #[.int .i64 (v : Int), .slice A1 n1 c1, .slice (some ad) n2 c2, .int .i64 q, .slice A3 n3 c3, .slice A4 n4 c4, .slice A5 n5 c5]] w fun e w' => (∃ p, e = .returned p ∧ TellN w W m (turnK (Cs.getD v []) K (q, Sx, Mx, Xx)) p w') ∧ Below w.heap.size w w' := by
 obtain ⟨Av, cv, evv, hvl, hat⟩ := h.lenV
 subst evv
 obtain ⟨⟨gv, bw⟩, hcc⟩ : ∃ cc, Hid (vs[v]? = some cc) := ⟨_, Lib.hid (List.getElem?_eq_getElem (by omega))⟩
 obtain ⟨bv, rfl, _, hbv, hcell⟩ := hat v _ hcc.out
 obtain ⟨C, hCe⟩ : ∃ C, C = Cs.getD v [] := ⟨_, rfl⟩
 have hCb := h.cbs.at_ v _ hcc.out
 dsimp only at hCb hcell
 rw [← hCe] at hCb hcl ⊢
 obtain ⟨E1, E2, E3, e1, e2, e3, hE3⟩ : ∃ (E1 E2 E3 : List Int) (_ : E1 = Sx) (_ : E2 = Mx) (_ : E3 = Xx), Row elInt 1 w S A3 n3 c3 E1 ∧ Row elInt 1 w S A4 n4 c4 E2 ∧ Row elInt 1 w S A5 n5 c5 E3 := by
  obtain ⟨n, A1', n1', c1', A2', n2', c2', A3', n3', c3', Su, M, X, e, h1, h2, h3, ex⟩ := elCell_open hX
  simp only [List.cons.injEq, Value.int.injEq, Value.slice.injEq, and_true, true_and] at e
  obtain ⟨rfl, ⟨rfl, rfl, rfl⟩, ⟨rfl, rfl, rfl⟩, rfl, rfl, rfl⟩ := e
  simp only [Prod.mk.injEq] at ex
  obtain ⟨_, rfl, rfl, rfl⟩ := ex
  exact ⟨_, _, _, rfl, rfl, rfl, h1, h2, h3⟩
 subst e1 e2 e3
 have hb0 := (below_a1 w (.cells #[.int .i64 (v : Int), .slice A1 n1 c1, .slice (some ad) n2 c2, .int .i64 q, .slice A3 n3 c3, .slice A4 n4 c4, .slice A5 n5 c5] 109))
 have hbl := (chg_seven w (.int .i64 (v : Int)) (.slice A1 n1 c1) (.slice (some ad) n2 c2) (.int .i64 q) (.slice A3 n3 c3) (.slice A4 n4 c4) (.slice A5 n5 c5))
 have hM1 := h.below hb0
 have HEm := Lib.hid (emptyL_any hM1.c0 hM1.c1 hWm hM1.blk.lt)
 have HM := Lib.hid h
 have g0 := hcell
 have hcell := Lib.hid hcell
 have hcell := Lib.hid hcell
 have HK := Lib.hid hK
 have HX := Lib.hid hE3
 have HCb := Lib.hid hCb
 have Hcl := Lib.hid hcl
 have Hx := Lib.hid hx
 have i0 : (0 : Int) ≤ (v : Int) := by omega
 have i1 : (v : Int) < (Cs.length : Int) := by omega
 have hgl := h.blk.lt
 clear h hat hCb hK hX hE3 hM1 hCe hcl hx
 go_enter Tryz.func107, Tryz.ntmps107
 go_wp2_with fail
 refine HEm.out.mono ?_
 rintro e w2 ⟨⟨p, rfl, gN, bN, rfl, hN, hgN, hbN⟩, hB2⟩
 rw [World.size_alloc] at hgN hbN
 have hb2 := hb0.trans (hB2.mono hb0.size)
 have hbl2 := hbl.below hB2 hbl.lt
 have k0 := hbl2.cell 0
 have k4 := (HM.out.below hb2).c4
 have g2 := (hb2.cell (p := ⟨bv, v, none⟩) hbv).trans g0
 have HKe := Lib.hid (keys_any ((HCb.out.belowS hb2).drewN 1))
 have Hb2 := Lib.hid hb2
 have Hbl2 := Lib.hid hbl2
 have HN := Lib.hid hN
 clear hN hB2 hbl hb0 HEm g0
 obtain ⟨n, hn⟩ : ∃ n, Hid (C.length = n) := ⟨_, Lib.hid rfl⟩
 have hnm : n ≤ 68921 := by have := HCb.out.len; rw [hn.out] at this; exact this
 go_upto_region 2 with fail
 go_cut [20, 21, 22] (fun s20 s21 s22 wx => ∃ (AK : Option Addr) (cK : Nat), s20 = .slice AK n cK ∧ s21 = .int .i64 n ∧ s22 = .int .i64 0 ∧ Hid (Row elInts 1 wx (fun k => w2.heap.size ≤ k ∧ k < wx.heap.size) AK n cK (C.map (·.1))) ∧ Below w2.heap.size w2 wx)
 case first =>
  go_region_with (go_at_call 55; refine HKe.out.mono ?_; rintro e w3 ⟨vk, rfl, hO3, hB3⟩; obtain ⟨AK, cK, rfl, hRK⟩ := hO3.read elIntsO_ok; have hcap3 := hRK.cap)
  all_goals
   have hF := Lib.hid (show Row elInts 1 w3 (fun k => w2.heap.size ≤ k ∧ k < w3.heap.size) AK n cK (C.map (·.1)) ∧ Below w2.heap.size w2 w3 from ⟨by
    have h1 : Row elInts 1 w3 (fun k => w2.heap.size ≤ k ∧ k < w3.heap.size) AK (C.map (·.1)).length cK (C.map (·.1)) := (hRK.mv elIntsO_ok (Mv.to w3 fun k hk hl => ⟨by
     rcases hk with hk | hk
     ·exact hk
     ·exact hk.1, hl⟩)).map fun us x h => elIntsO_read h
    rw [List.length_map, hn.out] at h1
    exact h1, (below_d1 w2).trans hB3⟩)
   clear hRK hO3
   go_wp2_with fail
   go_meet
   exact ⟨AK, cK, by rw [← hn.out], by rw [← hn.out], rfl, Lib.hid hF.out.1, hF.out.2⟩
 case rest =>
  obtain ⟨AK, cK, rfl, rfl, rfl, HRK, hB3⟩ := hcut
  obtain ⟨w3, hw3⟩ : ∃ w3, w3 = wc := ⟨_, rfl⟩
  subst hw3
  have hb3 := Hb2.out.trans (hB3.mono Hb2.out.size)
  have Hb3 := Lib.hid hb3
  have hz2 := Hb2.out.size
  have hz3 := hB3.size
  have HN3 := Lib.hid (HN.out.belowS hB3)
  have hw1 : w.heap.size < w2.heap.size := Hbl2.out.lt
  have hbN1 : w.heap.size + 1 ≤ bN := hbN
  have hgN1 : w.heap.size + 1 ≤ gN := hgN
  have hbN2 : bN < w2.heap.size := HN.out.map.lt
  -- while only the new cuboid and what is new is written
  have HK3 : Hid (∀ y, Chg (fun k => k = bN) w3 y → (Block y w.heap.size 109 #[.int .i64 (v : Int), .slice A1 n1 c1, .slice (some ad) n2 c2, .int .i64 q, .slice A3 n3 c3, .slice A4 n4 c4, .slice A5 n5 c5] ∧ y.cell? ⟨g, 4, none⟩ = some (.slice (some ⟨bv, 0, none⟩) Cs.length cv) ∧ y.cell? ⟨bv, v, none⟩ = some (.pointer (some ⟨gv, 0, none⟩))) ∧ Cb y gv bw W m C ∧ HasI y y.heap.size A1 n1 c1 K ∧ HasC y y.heap.size A3 n3 c3 A4 n4 c4 A5 n5 c5 E1 E2 E3 ∧ Below w.heap.size w y) := Lib.hid fun y hy => by
   have hb : Below w.heap.size w y := Hb3.out.trans (hy.below (by omega) fun k hk => by omega)
   refine ⟨⟨((Hbl2.out.below hB3 hw1).chg hy (by omega)), (HM.out.below hb).c4, (hb.cell (p := ⟨bv, v, none⟩) hbv).trans hcell.out⟩, HCb.out.belowS hb, (HK.out.below hb (Nat.le_refl _)).more hb.size, ?_, hb⟩
   have hx := HX.out
   exact ⟨(hx.1.mv elInt_ok (Mv.belowS hb _)).hasI, (hx.2.1.mv elInt_ok (Mv.belowS hb _)).hasI, (hx.2.2.mv elInt_ok (Mv.belowS hb _)).hasI⟩
  clear hb3 HM HK HX HCb Hbl2 HKe HN k0 k4 g2 hbl2 hb2 hcell
  go_wp2_with fail
  go_loopw [22] (fun i wr => ∃ k : Nat, k ≤ n ∧ i = .int .i64 k ∧ Hid (Cb wr gN bN W m ((turnK C K (q, E1, E2, E3)).take k)) ∧ Chg (fun k => k = bN) w3 wr) (fun i _ => n - (intOf i).toNat)
  case atStart => exact ⟨0, Nat.zero_le _, rfl, by rw [List.take_zero]; exact HN3, Chg.refl _ _⟩
  case round =>
   obtain ⟨k, hk, rfl, hO, hB⟩ := hrel
   by_cases hlt : k < n
   ·obtain ⟨b, o, A', n', c', key, rfl, _, hbk, gk, hl, he0⟩ := (HRK.out.mv elInts_ok (Mv.chg hB fun b hb e => by omega)).at1 hlt
    have i2 : (0 : Int) ≤ (k : Int) := by omega
    have i3 : (k : Int) < (n : Int) := by omega
    obtain ⟨⟨uq, uS, uM, uX⟩, hu⟩ : ∃ u, Hid (C[k]? = some (key, u)) := by
     have h1 := he0.out
     rw [List.getElem?_map, Option.map_eq_some_iff] at h1
     obtain ⟨⟨K', u⟩, h2, rfl⟩ := h1
     exact ⟨u, Lib.hid h2⟩
    obtain ⟨⟨hbx, k4, g0⟩, hCw, hKw, hXw, hBw⟩ := HK3.out wr hB
    have k0 := hbx.cell 0
    have HTp := Lib.hid (turn_put (W := W) (m := m) (K := K) (x := (q, E1, E2, E3)) hCw.ok.ris (fun e he => hCw.ok.key e he) Hcl.out Hx.out hu.out)
    have HGt : Hid (∀ y, Below wr.heap.size wr y → Calls Tryz.prog 56 #[.pointer (some ⟨gv, 0, none⟩), .slice A' n' c'] y (TellG y (some (uq, uS, uM, uX)))) := Lib.hid fun y hy => by
     have h1 := cubGet_any (hCw.belowS hy) ((hl.hasI.below hy (Nat.le_refl _)).more hy.size)
     rw [getC_mem hCw.ok hu.out] at h1
     exact h1
    have HKey := Lib.hid hl.hasI
    have l1 := hbx.lt
    have l2 : g < wr.heap.size := Nat.lt_of_lt_of_le hgl hBw.size
    have l3 : bv < wr.heap.size := Nat.lt_of_lt_of_le hbv hBw.size
    clear hl hCw hKw hXw hbx
    go_upto_region 5 with fail
    go_cut [8] (fun s8 wx => ∃ (gB : Nat) (D1 : Option Addr) (m1 d1 : Nat) (D2 : Option Addr) (m2 d2 : Nat) (D3 : Option Addr) (m3 d3 : Nat), s8 = .pointer (some ⟨gB, 0, none⟩) ∧ wr.heap.size ≤ gB ∧ Block wx gB 71 #[.int .i64 uq, .slice D1 m1 d1, .slice D2 m2 d2, .slice D3 m3 d3] ∧ Hid (OwnC wx wr.heap.size (.slice D1 m1 d1) (.slice D2 m2 d2) (.slice D3 m3 d3) uS uM uX) ∧ Below wr.heap.size wr wx)
    case first =>
     go_region_law (go_simp; go_at_call 56; first
      | (refine Calls.mono (HGt.out wr.drew (below_d1 wr)) ?_; intro e w5 hte; obtain ⟨⟨v1, v2, v3, rfl, hOC⟩, hB5⟩ := hte.some_; obtain ⟨D1, m1, d1, rfl, _, _⟩ := hOC.s.formN; obtain ⟨D2, m2, d2, rfl, _, _⟩ := hOC.m.formN; obtain ⟨D3, m3, d3, rfl, _, _⟩ := hOC.x.formN; have hC5 := (below_d1 wr).trans hB5)
      | (refine Calls.mono (HGt.out (wr.alloc (.cells zCell 71)).drew (below_da wr _)) ?_; intro e w5 hte; obtain ⟨⟨v1, v2, v3, rfl, hOC⟩, hB5⟩ := hte.some_; obtain ⟨D1, m1, d1, rfl, _, _⟩ := hOC.s.formN; obtain ⟨D2, m2, d2, rfl, _, _⟩ := hOC.m.formN; obtain ⟨D3, m3, d3, rfl, _, _⟩ := hOC.x.formN; have hC5 := (below_da wr (.cells zCell 71)).trans (hB5.mono (below_da wr (.cells zCell 71)).size); have hZ5 : Block w5 wr.heap.size 71 zCell := ((Block.new wr 71 zCell).drewN 1).below hB5 (by rw [World.size_drew, World.size_alloc]; omega); have z0 := hZ5.cell 0; have z1 := hZ5.cell 1; have z2 := hZ5.cell 2; have z3 := hZ5.cell 3; have y0 := hZ5.free 0; have y1 := hZ5.free 1; have y2 := hZ5.free 2; have y3 := hZ5.free 3))
     all_goals
      go_wp2_with fail
      go_meet
      first
       | exact ⟨_, _, _, _, _, _, _, _, _, _, rfl, hC5.size, Block.new w5 _ _, Lib.hid ⟨hOC.s.alloc _, hOC.m.alloc _, hOC.x.alloc _⟩, hC5.alloc hC5.size _⟩
       | exact ⟨_, _, _, _, _, _, _, _, _, _, rfl, Nat.le_refl _, hZ5.put4_ _ _ _ _, Lib.hid ((hOC.put4_ (r := wr.heap.size) (by rw [World.size_drew, World.size_alloc]; omega) _ _ _ _).low (by rw [World.size_drew, World.size_alloc]; omega)), below_put4 (r := wr.heap.size) hC5 (Nat.le_refl _) _ _ _ _⟩
    case rest =>
     obtain ⟨gB, D1, m1, d1, D2, m2, d2, D3, m3, d3, rfl, hgB, hBk, hOC, hB5⟩ := hcut
     have hBc : Chg (fun k => k = bN) w3 wc := hB.trans (Chg.of_below (S := fun k => k = bN) hB5 (Nat.le_refl _)) fun _ _ h => h
     obtain ⟨⟨hbx, _, _⟩, _, hKc, _, _⟩ := HK3.out wc hBc
     have hkc := ((HKey.out.below hB5 (Nat.le_refl _)).more hB5.size)
     have HEq := Lib.hid (equalI_any hkc hKc)
     have q1 := hbx.cell 1
     have hNc := hO.out.belowS hB5
     have HNc := Lib.hid hNc
     have hwrw : w3.heap.size ≤ wr.heap.size := hB.size
     clear HGt k0 k4 g0 hKc hbx hkc hNc gk
     go_wp2_with fail
     refine HEq.out.mono ?_
     rintro e w9 ⟨rfl, kk, rfl⟩
     have hbD : Below wc.heap.size wc (wc.drewN kk) := below_drewN (Below.refl _ _) kk
     generalize wc.drewN kk = wd at hbD ⊢
     have hB6 := hB5.trans (hbD.mono hB5.size)
     have hBd : Chg (fun k => k = bN) w3 wd := hB.trans (Chg.of_below (S := fun k => k = bN) hB6 (Nat.le_refl _)) fun _ _ h => h
     have hBkd := hBk.below hbD hBk.lt
     have hNd := HNc.out.belowS hbD
     have hkd := ((HKey.out.below hB6 (Nat.le_refl _)).more hB6.size)
     have b0 := hBkd.cell 0
     have b1 := hBkd.cell 1
     have b2 := hBkd.cell 2
     have b3 := hBkd.cell 3
     clear q1 HEq HNc
     by_cases he : key = K
     ·have hde : decide (key = K) = true := decide_eq_true he
      rw [hde]
      obtain ⟨⟨hbx, _, _⟩, _, _, _, _⟩ := HK3.out wd hBd
      have x3 := hbx.cell 3
      have x4 := hbx.cell 4
      have x5 := hbx.cell 5
      have x6 := hbx.cell 6
      have y0 := hBkd.free 0
      have y1 := hBkd.free 1
      have y2 := hBkd.free 2
      have y3 := hBkd.free 3
      have hbP : Below wr.heap.size wd ((((wd.setCell ⟨gB, 0, none⟩ (.int .i64 q)).setCell ⟨gB, 1, none⟩ (.slice A3 n3 c3)).setCell ⟨gB, 2, none⟩ (.slice A4 n4 c4)).setCell ⟨gB, 3, none⟩ (.slice A5 n5 c5)) := below_put4 (r := gB) (Below.refl wr.heap.size wd) hgB (.int .i64 q) (.slice A3 n3 c3) (.slice A4 n4 c4) (.slice A5 n5 c5)
      have hBkP : Block ((((wd.setCell ⟨gB, 0, none⟩ (.int .i64 q)).setCell ⟨gB, 1, none⟩ (.slice A3 n3 c3)).setCell ⟨gB, 2, none⟩ (.slice A4 n4 c4)).setCell ⟨gB, 3, none⟩ (.slice A5 n5 c5)) gB 71 #[.int .i64 q, .slice A3 n3 c3, .slice A4 n4 c4, .slice A5 n5 c5] := hBkd.put4_ (.int .i64 q) (.slice A3 n3 c3) (.slice A4 n4 c4) (.slice A5 n5 c5)
      have hgBd := hBkd.lt
      clear hde hbx
      go_upto_region 8 with fail
      generalize (((wd.setCell ⟨gB, 0, none⟩ (.int .i64 q)).setCell ⟨gB, 1, none⟩ (.slice A3 n3 c3)).setCell ⟨gB, 2, none⟩ (.slice A4 n4 c4)).setCell ⟨gB, 3, none⟩ (.slice A5 n5 c5) = wz at hbP hBkP ⊢
      have hBz6 := hB6.trans hbP
      have hBz : Chg (fun k => k = bN) w3 wz := hB.trans (Chg.of_below (S := fun k => k = bN) hBz6 (Nat.le_refl _)) fun _ _ h => h
      have hNz := hO.out.belowS hBz6
      have hkz := ((HKey.out.below hBz6 (Nat.le_refl _)).more hBz6.size)
      obtain ⟨_, _, _, hXz, _⟩ := HK3.out wz hBz
      have f0 := hBkP.cell 0
      have f1 := hBkP.cell 1
      have f2 := hBkP.cell 2
      have f3 := hBkP.cell 3
      have HAd := Lib.hid (cubAdd_any (q := q) hNz hkz hXz)
      clear hNz hkz hXz hNd hkd hOC x3 x4 x5 x6 y0 y1 y2 y3 b0 b1 b2 b3
      go_wp2_with fail
      refine HAd.out.mono ?_
      rintro e w10 ⟨rfl, hC10, hg10⟩
      have hF := Lib.hid (show Cb w10 gN bN W m ((turnK C K (q, E1, E2, E3)).take (k + 1)) ∧ Chg (fun k => k = bN) w3 w10 from ⟨by
       have h1 := HTp.out
       rw [if_pos he] at h1
       rw [h1] at hC10
       exact hC10, hBz.trans (Chg.of_grown (S := fun k => k = bN) hg10 fun k e _ => (Option.some.inj e).symm) fun _ _ h => h⟩)
      clear hC10 hg10 HAd
      go_wp2_with fail
      go_roundw
      case rel => exact ⟨k + 1, by omega, by go_num, Lib.hid hF.out.1, hF.out.2⟩
      case measure => simp [intOf]; omega
     ·have hde : decide (key = K) = false := decide_eq_false he
      rw [hde]
      obtain ⟨_, _, _, _, _, _, _, _, _, h1, h2, h3, hXd⟩ := (show OwnC wd wr.heap.size (.slice D1 m1 d1) (.slice D2 m2 d2) (.slice D3 m3 d3) uS uM uX from ⟨row_below hOC.out.s hbD, row_below hOC.out.m hbD, row_below hOC.out.x hbD⟩).form
      injection h1 with h1 h1' h1''
      injection h2 with h2 h2' h2''
      injection h3 with h3 h3' h3''
      subst h1 h1' h1'' h2 h2' h2'' h3 h3' h3''
      have HAd := Lib.hid (cubAdd_any (q := uq) hNd hkd hXd)
      clear hNd hkd hXd hOC hde
      go_wp2_with fail
      refine HAd.out.mono ?_
      rintro e w10 ⟨rfl, hC10, hg10⟩
      have hF := Lib.hid (show Cb w10 gN bN W m ((turnK C K (q, E1, E2, E3)).take (k + 1)) ∧ Chg (fun k => k = bN) w3 w10 from ⟨by
       have h1 := HTp.out
       rw [if_neg he] at h1
       rw [h1] at hC10
       exact hC10, hBd.trans (Chg.of_grown (S := fun k => k = bN) hg10 fun k e _ => (Option.some.inj e).symm) fun _ _ h => h⟩)
      clear hC10 hg10 HAd
      go_wp2_with fail
      go_roundw
      case rel => exact ⟨k + 1, by omega, by go_num, Lib.hid hF.out.1, hF.out.2⟩
      case measure => simp [intOf]; omega
   ·obtain rfl : k = n := by omega
    have hF := Lib.hid (show (∃ p, Ending.returned (.pointer (some ⟨gN, 0, none⟩)) = .returned p ∧ TellN w W m (turnK C K (q, E1, E2, E3)) p wr) ∧ Below w.heap.size w wr from ⟨⟨_, rfl, gN, bN, rfl, by
     have h1 := hO.out
     rw [List.take_of_length_le (by unfold turnK; rw [List.length_map, hn.out]; exact Nat.le_refl _)] at h1
     exact h1, by omega, by omega⟩, (HK3.out wr hB).2.2.2.2⟩)
    clear hO
    go_wp2_with fail
    go_ret
    exact hF.out
end Go.Proofs.YtmepdkdeanbbaaaGreat
namespace Go.Proofs.YtmepdkdeanbbaaaGreat
set_option maxRecDepth 100000
open Go.RowKit

theorem own_frozen {w : World} {B size n b : Nat} {e : TypeId} {v : Value} {xs : List Value} (h : w.ownsRow B e size v n xs) (hv : v.ownBlock = some b) (j : Nat) : w.frozen? ⟨b, j, none⟩ = false := by
 rcases h.2 with ⟨e0, _⟩ | ⟨b', cap, cur, e0, _⟩
 ·rw [e0] at hv; cases hv
 ·rw [e0] at hv h
  have e3 : b' = b := by simpa [Value.ownBlock] using hv
  subst e3
  exact World.ownsRow.frozenAt h j
def PutPost (w : World) (g : Nat) (X1 X2 X3 dv vv : Value) (ds : List DAt) (vs : List CAt) (N : List Nat) (Qs : List (List Pth)) (W m : Nat) (Cs : List Cub) (cnt : Int) (e : Ending) (w' : World) : Prop :=
 e = .returned (.tuple #[]) ∧ ∃ vs', LtM w' g X1 X2 X3 dv vv ds vs' N Qs W m Cs cnt ∧ Chg (footL g dv vv ds vs) w w' ∧ ∀ k, footL g dv vv ds vs' k → footL g dv vv ds vs k ∨ w.heap.size ≤ k
set_option maxRecDepth 100000 in
set_option maxHeartbeats 8000000 in
theorem putL_any {w : World} {g : Nat} {X3 dv vv : Value} {B1 B2 : Option Addr} {b1 b2 : Nat} {ds : List DAt} {vs : List CAt} {N : List Nat} {Qs : List (List Pth)} {W m : Nat} {Cs : List Cub} {cnt : Int} (h : LtM w g (.slice B1 W b1) (.slice B2 m b2) X3 dv vv ds vs N Qs W m Cs cnt) (hWm : 1 ≤ W ∧ W ≤ 3 ∧ 1 ≤ m ∧ m ≤ 2) {v : Nat} (hv : v < Cs.length) {q : Int} {A1 A3 A4 A5 : Option Addr} {ad : Addr} {n1 c1 n2 c2 n3 c3 n4 c4 n5 c5 : Nat} {K : List Int} {M : List PC} {Sx Mx Xx : List Int} {S : Nat → Prop} (hK : HasI w w.heap.size A1 n1 c1 K) (hM : Row elCell 4 w S (some ad) n2 c2 M) (hn : n2 ≤ 1000) (hX : elCell w S [.int .i64 q, .slice A3 n3 c3, .slice A4 n4 c4, .slice A5 n5 c5] (q, Sx, Mx, Xx)) (hx : isCell m (q, Sx, Mx, Xx)) (hcl : ∀ e ∈ Cs.getD v [], isCell m e.2) (hk : isKey W K) (hMc : ∀ c ∈ M, isCell m c) (hMn : M ≠ []) (hw : withP (Cs.getD v []) K M = ((q, Sx, Mx, Xx), 0)) :
  Calls Tryz.prog 52 #[.pointer (some ⟨g, 0, none⟩), .agg #[.int .i64 (v : Int), .slice A1 n1 c1, .slice (some ad) n2 c2, .int .i64 q, .slice A3 n3 c3, .slice A4 n4 c4, .slice A5 n5 c5]] w (PutPost w g (.slice B1 W b1) (.slice B2 m b2) X3 dv vv ds vs N Qs W m (Cs.set v (setK (Cs.getD v []) K (q, Sx, Mx, Xx))) cnt) := by
 obtain ⟨Av, cv, evv, hvl, hat⟩ := h.lenV
 obtain ⟨Cz, hCz⟩ : ∃ Cz, Hid (Cs.set v (setK (Cs.getD v []) K (q, Sx, Mx, Xx)) = Cz) := ⟨_, Lib.hid rfl⟩
 rw [hCz.out]
 subst evv
 obtain ⟨⟨gv, bw⟩, hcc⟩ : ∃ cc, Hid (vs[v]? = some cc) := ⟨_, Lib.hid (List.getElem?_eq_getElem (by omega))⟩
 obtain ⟨bv, rfl, hob, hbv, hcell⟩ := hat v _ hcc.out
 have hCb := h.cbs.at_ v _ hcc.out
 dsimp only at hCb hcell
 have hb0 := (below_a1 w (.cells #[.int .i64 (v : Int), .slice A1 n1 c1, .slice (some ad) n2 c2, .int .i64 q, .slice A3 n3 c3, .slice A4 n4 c4, .slice A5 n5 c5] 109))
 have hbl := (chg_seven w (.int .i64 (v : Int)) (.slice A1 n1 c1) (.slice (some ad) n2 c2) (.int .i64 q) (.slice A3 n3 c3) (.slice A4 n4 c4) (.slice A5 n5 c5))
 have HSm := Lib.hid (cellSum_any (hM.mv elCell_ok (Mv.belowS hb0 _)).hasCs (by omega))
 obtain ⟨⟨⟨n9, Su, Mi, Ma⟩, er⟩, hcs⟩ : ∃ z, Hid (cSum M = z) := ⟨_, Lib.hid rfl⟩
 have Hadd : Hid (er = 0 → addK W m (Cs.getD v []) K (n9, Su, Mi, Ma) = (setK (Cs.getD v []) K (q, Sx, Mx, Xx), 0)) := Lib.hid fun h0 => by
  have h1 := add_whole (k := K) hcl hk hMc hMn (by rw [hcs.out]; exact h0) (by rw [hw])
  rw [hcs.out, hw] at h1
  exact h1
 have Htn : Hid (er ≠ 0 → turnK (Cs.getD v []) K (q, Sx, Mx, Xx) = setK (Cs.getD v []) K (q, Sx, Mx, Xx)) := Lib.hid fun h0 => turnK_set hCb.ok.ris (by
  rcases hg : getK (Cs.getD v []) K with _ | u
  ·exfalso
   have h1 : withP (Cs.getD v []) K M = cSum M := by unfold withP; rw [hg]; rfl
   rw [hw, hcs.out] at h1
   injection h1 with _ h1
   exact h0 h1.symm
  ·rfl)
 rw [hcs.out] at HSm
 have HM := Lib.hid h
 have g0 := Lib.hid hcell
 have HK := Lib.hid hK
 have HX := Lib.hid hX
 have HCb := Lib.hid hCb
 have Hcl := Lib.hid hcl
 have Hx := Lib.hid hx
 have Hob := Lib.hid hob
 have hgl := h.blk.lt
 have i0 : (0 : Int) ≤ (v : Int) := by omega
 have i1 : (v : Int) < (Cs.length : Int) := by omega
 have k2 := hbl.cell 2
 clear h hat hCb hK hM hX hcell hcl hx hw hMc hMn hob
 go_enter Tryz.func52, Tryz.ntmps52
 go_wp2_with fail
 refine HSm.out.mono ?_
 rintro e w3 ⟨⟨v1, v2, v3, rfl, hOC⟩, hB3⟩
 obtain ⟨E1, m1, d1, rfl, _, _⟩ := hOC.s.formN
 obtain ⟨E2, m2, d2, rfl, _, _⟩ := hOC.m.formN
 obtain ⟨E3, m3, d3, rfl, _, _⟩ := hOC.x.formN
 have hb3 := hb0.trans (hB3.mono hb0.size)
 have hb4 := hb3.trans ((below_a1 w3 (.cells #[.int .i64 n9, .slice E1 m1 d1, .slice E2 m2 d2, .slice E3 m3 d3] 71)).mono hb3.size)
 have hbx := (hbl.below hB3 hbl.lt).alloc (.cells #[.int .i64 n9, .slice E1 m1 d1, .slice E2 m2 d2, .slice E3 m3 d3] 71)
 have hbc := Block.new w3 71 #[.int .i64 n9, .slice E1 m1 d1, .slice E2 m2 d2, .slice E3 m3 d3]
 have hOc := (show OwnC (w3.alloc (.cells #[.int .i64 n9, .slice E1 m1 d1, .slice E2 m2 d2, .slice E3 m3 d3] 71)) _ _ _ _ _ _ _ from ⟨hOC.s.alloc _, hOC.m.alloc _, hOC.x.alloc _⟩)
 clear hOC hB3 HSm hb0 hbl k2 hb3
 go_upto_region 2 with fail
 generalize w3.alloc (.cells #[.int .i64 n9, .slice E1 m1 d1, .slice E2 m2 d2, .slice E3 m3 d3] 71) = Y at hb4 hbx hbc hOc ⊢
 have k0 := hbx.cell 0
 have k1 := hbx.cell 1
 have k2 := hbx.cell 2
 have k3 := hbx.cell 3
 have k4 := hbx.cell 4
 have k5 := hbx.cell 5
 have k6 := hbx.cell 6
 have q0 := hbc.cell 0
 have q1 := hbc.cell 1
 have q2 := hbc.cell 2
 have q3 := hbc.cell 3
 have v4 := (HM.out.below hb4).c4
 have g4 := (hb4.cell (p := ⟨bv, v, none⟩) hbv).trans g0.out
 have hbD : Below Y.heap.size Y (Y.drewN 1) := below_drewN (Below.refl _ Y) 1
 have hbY := hb4.trans (hbD.mono hb4.size)
 have hMD := Lib.hid (HM.out.below hbY)
 have hzY := hb4.size
 by_cases her : er = 0
 ·subst her
  obtain ⟨_, _, _, _, _, _, _, _, _, h1, h2, h3, hXd⟩ := hOc.form
  injection h1 with h1 h1' h1''
  injection h2 with h2 h2' h2''
  injection h3 with h3 h3' h3''
  subst h1 h1' h1'' h2 h2' h2'' h3 h3' h3''
  have hA := cubAdd_any (q := n9) (HCb.out.belowS hbY) ((HK.out.below hbY (Nat.le_refl _)).more hbY.size) (hXd.belowS hbD)
  rw [Hadd.out rfl] at hA
  have HA := Lib.hid hA
  clear hA hXd hOc
  go_wp2_with fail
  go_still_tail 11, (by kernel_rfl)
  change wpList _ _ _ _ _ Y.drew
  go_wp2_with fail
  refine HA.out.mono ?_
  rintro e w9 ⟨rfl, hC9, hg9⟩
  ·have hch : Chg (footC (gv, bw)) (Y.drewN 1) w9 := Chg.of_grown hg9 fun k e _ => .inr (Option.some.inj e).symm
   have hF := Lib.hid (show PutPost w g (.slice B1 W b1) (.slice B2 m b2) X3 dv (.slice (some ⟨bv, 0, none⟩) Cs.length cv) ds vs N Qs W m Cz cnt (.returned (.tuple #[])) w9 from
    ⟨rfl, vs, by rw [← hCz.out]; exact hMD.out.setC hcc.out hch hC9, (Chg.of_below (S := footL g dv (.slice (some ⟨bv, 0, none⟩) Cs.length cv) ds vs) hbY (Nat.le_refl _)).trans (hch.mono (S' := footL g dv (.slice (some ⟨bv, 0, none⟩) Cs.length cv) ds vs) fun k _ hk => .inr (.inr (.inr (.inr ⟨_, List.mem_of_getElem? hcc.out, hk⟩)))) fun _ _ h => h, fun k hk => .inl hk⟩)
   clear hC9 hg9 hch HA
   go_wp2_with fail
   refine bodyPost_end (results_none rfl _ _ _) rfl ?_
   exact hF.out
 ·have HR := Lib.hid (replacedL_any (ad := ad) (n2 := n2) (c2 := c2) hMD.out hWm hv ((HK.out.below hbY (Nat.le_refl _)).more hbY.size) (elCell_ok _ _ _ _ _ _ (Mv.belowS hbY _) HX.out) Hx.out Hcl.out)
  clear hOc
  go_wp2_with fail
  go_region_law (go_simp; go_at_call 107; refine HR.out.mono ?_; rintro e w9 ⟨⟨p, rfl, gN, bN, rfl, hN9, hgN, hbN⟩, hB9⟩; have hB9' : Below Y.heap.size Y w9 := hbD.trans (hB9.mono hbD.size); have hM9 := HM.out.below (hb4.trans (hB9'.mono hzY)); have v4' := hM9.c4; have k0' := (hB9'.cell (p := ⟨w.heap.size, 0, none⟩) hbx.lt).trans k0; have fz : w9.frozen? ⟨bv, v, none⟩ = false := own_frozen hM9.vr Hob.out v; have g4' := (hB9'.cell (p := ⟨bv, v, none⟩) (Nat.lt_of_lt_of_le hbv hzY)).trans g4)
  all_goals
   obtain ⟨hP, hf⟩ := hMD.out.putC hB9 hcc.out Hob.out (c' := (gN, bN)) hN9 (fun k hk => by rcases hk with rfl | rfl <;> assumption)
   rw [Htn.out her, hCz.out] at hP
   have hF := Lib.hid (show PutPost w g (.slice B1 W b1) (.slice B2 m b2) X3 dv (.slice (some ⟨bv, 0, none⟩) Cs.length cv) ds vs N Qs W m Cz cnt (.returned (.tuple #[])) (w9.setCell ⟨bv, v, none⟩ (ptrV gN)) from
    ⟨rfl, _, hP, ((Chg.of_below (S := footL g dv (.slice (some ⟨bv, 0, none⟩) Cs.length cv) ds vs) (hbY.trans (hB9.mono hbY.size)) (Nat.le_refl _)).set_ bv v _ fun _ => .inr (.inr (.inl Hob.out))), fun k hk => (hf k hk).imp id fun h => Nat.le_trans hbY.size h⟩)
   clear hP hf hN9 hM9
   go_wp2_with fail
   refine bodyPost_end (results_none rfl _ _ _) rfl ?_
   exact hF.out
end Go.Proofs.YtmepdkdeanbbaaaGreat
namespace Go.Proofs.YtmepdkdeanbbaaaGreat
set_option maxRecDepth 100000
open Go.RowKit

def TellRR (w : World) (m : Nat) (κ : Fct → PKey) (G : List Fct) (e : Ending) (w' : World) : Prop :=
 ((okF m κ oneF G ∧ ∃ A c L, e = .returned (.tuple #[.slice A L.length c, .int .i64 0]) ∧ IsRows m κ oneF G L ∧ Row elRw 5 w' (fun b => w.heap.size ≤ b) A L.length c L) ∨ (¬ okF m κ oneF G ∧ e = .returned (.tuple #[.slice none 0 0, .int .i64 14]))) ∧ Below w.heap.size w w'
theorem elRw_one (S : Nat → Prop) (w : World) : ∀ (us : List Value) (y : PKey × PC), elRw w S us y → us.length = 5 → ∀ u ∈ us, u.oneCell' = true := by
 intro us y h _ u hu
 obtain ⟨A0, n0, c0, n, A1, n1, c1, A2, n2, c2, A3, n3, c3, K, Su, M, X, rfl, _⟩ := elRw_open h
 simp at hu
 rcases hu with rfl | rfl | rfl | rfl | rfl <;> rfl
theorem told_key {w w' : World} {v : Value} {L : List (List Txt)} (h : OwnR elPathR 23 1 w' w.heap.size (fun b => w.heap.size ≤ b) v L) : ∃ A c, v = .slice A L.length c ∧ Row elPathR 1 w' (fun b => w.heap.size ≤ b ∧ b < w'.heap.size) A L.length c L := by
 obtain ⟨A, c, e, hr⟩ := h.read elPathR_ok
 exact ⟨A, c, e, hr.mv elPathR_ok (Mv.to w' fun b hb hl => ⟨by
  rcases hb with hb | hb
  ·exact hb
  ·exact hb.1, hl⟩)⟩
theorem Row.drop_ {α : Type} {E : ElT α} {sz n c b o : Nat} {w : World} {S : Nat → Prop} {L : List α} (h : Row E sz w S (some ⟨b, o, none⟩) n c L) {k : Nat} (hk : k ≤ n) : Row E sz w S (some ⟨b, o + k * sz, none⟩) (n - k) (c - k) (L.drop k) := by
 obtain ⟨h0, vs, h1, h2⟩ := h
 have hcap := h1.cap
 have hfit := h1.fit
 have hmul : (n - k) * sz = n * sz - k * sz := Nat.sub_mul n k sz
 refine ⟨by rw [List.length_drop, h0], vs.drop (k * sz), ⟨by rw [List.length_drop, h1.len, hmul], by omega, by omega, (fun h => by cases h), fun hn => ?_⟩, fun i y hi => ?_⟩
 ·obtain ⟨b', o', e, hb, hl, hc⟩ := h1.has (by omega)
  injection e with e
  injection e with e3 e4
  subst e3 e4
  refine ⟨b, o + k * sz, rfl, hb, hl, fun j u hu => ?_⟩
  rw [List.getElem?_drop] at hu
  rw [Nat.add_assoc]
  exact hc _ u hu
 ·rw [List.getElem?_drop] at hi
  have h3 := h2 _ y hi
  rw [List.drop_drop, show k * sz + i * sz = (k + i) * sz from (Nat.add_mul k i sz).symm]
  exact h3
theorem Row.zero_ {α : Type} {E : ElT α} {sz c : Nat} {w : World} {S : Nat → Prop} {A : Option Addr} (hc : c ≤ maxLen) (hA : A = none → c = 0) : Row E sz w S A 0 c ([] : List α) :=
 ⟨rfl, [], ⟨by simp, Nat.zero_le _, hc, hA, fun h => absurd h (by omega)⟩, fun i x h => by simp at h⟩
theorem rowK_at {y : World} {S : Nat → Prop} {b o n c : Nat} {L : Rws} (h : Row elRw 5 y S (some ⟨b, o, none⟩) n c L) {t : Nat} (ht : t < n) : ∃ A0 n0 c0 e, y.cell? ⟨b, o + t * 5, none⟩ = some (.slice A0 n0 c0) ∧ Row elPathR 1 y S A0 n0 c0 (e : PKey × PC).1 ∧ Hid (L[t]? = some e) := by
 obtain ⟨b9, o9, A0, n0, c0, x0, X1, y1, z1, X2, y2, z2, X3, y3, z3, K9, Su, M9, X9, e, _, _, k0, _, _, _, _, hK9, _, _, _, he9⟩ := h.atR ht
 injection e with e
 injection e with e3 e4
 subst e3 e4
 exact ⟨A0, n0, c0, _, k0, hK9, he9⟩
def sliceN (v : Value) : Nat := match v with | .slice _ n _ => n | _ => 0
set_option maxRecDepth 100000 in
set_option maxHeartbeats 8000000 in
theorem refRows_any {w : World} {A1 A2 A3 Af Av : Option Addr} {n1 c1 m c2 n3 c3 nf cf nv cv : Nat} {G : List Fct} {v : List Int} (hG : HasF w (fun b => b < w.heap.size) Af nf cf G) (hv : HasI w w.heap.size Av nv cv v) (hm2 : m ≤ 2) (hfit : ∀ f ∈ G, nv ≤ f.1.length ∧ isVal m f.2 ∧ ∀ p ∈ f.1, p.length ≤ 1000000) (hn : nf ≤ 1000) (hnv : nv ≤ 1000) :
  Calls Tryz.prog 20 #[schV A1 n1 c1 A2 m c2 A3 n3 c3, .slice Af nf cf, .slice Av nv cv] w (TellRR w m (kP v) G) := by
 have HGl := Lib.hid hG.len
 have HFit := Lib.hid hfit
 have hb1 := below_a1 w (.cells #[.slice A1 n1 c1, .slice A2 m c2, .slice A3 n3 c3] 26)
 have hX := Block.new w 26 #[.slice A1 n1 c1, .slice A2 m c2, .slice A3 n3 c3]
 have KG : Hid (∀ y, Below w.heap.size w y → HasF y (fun b => b < w.heap.size) Af nf cf G ∧ HasI y w.heap.size Av nv cv v) := Lib.hid fun y hy => ⟨hG.mv elFct_ok (Mv.below hy fun b hb => hb), hv.below hy (Nat.le_refl _)⟩
 obtain ⟨κ, hκ⟩ : ∃ κ, kP (β := List Int) v = κ := ⟨_, rfl⟩
 have HKe : Hid (∀ f : Fct, keyP v f.1 = κ f) := Lib.hid fun f => by rw [← hκ]; rfl
 rw [hκ]
 clear hG hv hfit hκ
 go_enter Tryz.func20, Tryz.ntmps20
 go_wp2_with fail
 obtain ⟨bx, hbx⟩ : ∃ bx, w.heap.size = bx := ⟨_, rfl⟩
 have HB1 : Hid (Below w.heap.size w (w.alloc (.cells #[.slice A1 n1 c1, .slice A2 m c2, .slice A3 n3 c3] 26))) := Lib.hid hb1
 have hz1 : w.heap.size ≤ (w.alloc (.cells #[.slice A1 n1 c1, .slice A2 m c2, .slice A3 n3 c3] 26)).heap.size := hb1.size
 clear hb1
 rw [hbx] at hX ⊢
 generalize w.alloc (.cells #[.slice A1 n1 c1, .slice A2 m c2, .slice A3 n3 c3] 26) = w1 at hX HB1 hz1 ⊢
 have KX : Hid (∀ y, Below w1.heap.size w1 y → y.cell? ⟨bx, 1, none⟩ = some (.slice A2 m c2)) := Lib.hid fun y hy => (hX.below hy hX.lt).cell 1
 have HBx := Lib.hid hbx
 clear hX hbx
 go_loopw [9, 10] (fun d i wr => ∃ k : Nat, k ≤ nf ∧ i = .int .i64 k ∧ Hid (OwnR elRw 73 5 wr w1.heap.size (fun b => w1.heap.size ≤ b) d (doneF m κ oneF G k) ∧ okT m κ G k) ∧ Below w1.heap.size w1 wr) (fun _ i _ => nf - (intOf i).toNat)
 case atStart => exact ⟨0, Nat.zero_le _, rfl, Lib.hid ⟨by rw [show doneF m κ oneF G 0 = [] from rfl]; exact OwnR.nil_ _ _ _, okT_zero⟩, Below.refl _ _⟩
 case round =>
  obtain ⟨k, hk, rfl, hO, hB⟩ := hrel
  have hBw := HB1.out.trans (hB.mono hz1)
  obtain ⟨DD, hDD⟩ : ∃ DD, Hid (doneF m κ oneF G k = DD) := ⟨_, Lib.hid rfl⟩
  have hDl : DD.length ≤ 1000 := by rw [← hDD.out]; exact Nat.le_trans doneF_len (by omega)
  have hO1 := hO.out
  rw [hDD.out] at hO1
  obtain ⟨A9, c9, e9, hdone⟩ := hO1.1.read elRw_ok
  subst e9
  obtain ⟨nd, hnd⟩ : ∃ nd, Hid (DD.length = nd) := ⟨_, Lib.hid rfl⟩
  rw [hnd.out] at hO1 hdone hDl ⊢
  have HO := Lib.hid hO1
  have KD : Hid (∀ y, Below wr.heap.size wr y → Row elRw 5 y (fun b => w1.heap.size ≤ b ∧ b < wr.heap.size) A9 nd c9 DD) := Lib.hid fun y hy => hdone.mv elRw_ok ((Mv.to wr (S' := fun b => w1.heap.size ≤ b ∧ b < wr.heap.size) fun b hb hl => ⟨by
   rcases hb with hb | hb
   ·exact hb
   ·exact hb.1, hl⟩).trans (Mv.belowS hy _))
  have hzr : w1.heap.size ≤ wr.heap.size := hB.size
  have HB := Lib.hid hB
  have HBw := Lib.hid hBw
  clear hO hO1 hdone hB hBw
  by_cases hlt : k < nf
  ·obtain ⟨hGr, hvr⟩ := KG.out wr HBw.out
   obtain ⟨b, o, P, np, cp, Q, nq, cq, p, q, rfl, _, _, gp, gq, hp, hq, he⟩ := hGr.at2 hlt
   have hf : nv ≤ p.length ∧ isVal m q ∧ ∀ x ∈ p, x.length ≤ 1000000 := HFit.out _ (List.mem_of_getElem? he.out)
   have i0 : (0 : Int) ≤ (k : Int) := by omega
   have i1 : (k : Int) < (nf : Int) := by omega
   have hpl := hp.len
   have hvl := hvr.len
   have HK := Lib.hid (refKey_any (Q := Q) (nq := nq) (cq := cq) hp (hvr.more HBw.out.size) (by have := hf.1; omega) hnv hf.2.2)
   have hkl : Hid ((keyP v p).length = nv) := Lib.hid (by rw [keyP_len (by have := hf.1; omega)]; exact hvl)
   obtain ⟨K, hK⟩ : ∃ K, Hid (κ (p, q) = K) := ⟨_, Lib.hid rfl⟩
   have hKK : Hid (keyP v p = K) := Lib.hid ((HKe.out (p, q)).trans hK.out)
   rw [hKK.out] at HK hkl
   obtain ⟨wo, rfl⟩ : ∃ wo, wo = wr := ⟨_, rfl⟩
   clear hGr hvr hp hq hf hpl hvl
   go_wp2_with fail
   refine HK.out.mono ?_
   rintro e w2 ⟨vk, rfl, hOk, hb2⟩
   obtain ⟨Ak, ck, rfl, hKr⟩ := told_key hOk
   rw [hkl.out] at hKr ⊢
   have HB2 := Lib.hid hb2
   have KK : Hid (∀ y, Below w2.heap.size w2 y → Row elPathR 1 y (fun b => wo.heap.size ≤ b ∧ b < w2.heap.size) Ak nv ck K) := Lib.hid fun y hy => hKr.mv elPathR_ok (Mv.belowS hy _)
   have hz2 : wo.heap.size ≤ w2.heap.size := hb2.size
   clear hOk hKr HK hb2 gp gq
   go_wp2_with fail
   go_loopw [12, 13] (fun h j wr => ∃ (t : Nat) (bb : Bool), t ≤ nd ∧ h = .bool bb ∧ j = .int .i64 t ∧ Below w2.heap.size w2 wr ∧ Hid (hadB DD K t bb)) (fun _ j _ => nd - (intOf j).toNat)
   case atStart => exact ⟨0, false, Nat.zero_le _, rfl, rfl, Below.refl _ _, Lib.hid hadB_zero⟩
   case round =>
    obtain ⟨t, bb, ht, rfl, rfl, hBt, hbb⟩ := hrel
    have HBt := Lib.hid hBt
    clear hBt
    by_cases hlt2 : t < nd
    ·have j0 : (0 : Int) ≤ (t : Int) := by omega
     have j1 : (t : Int) < (nd : Int) := by omega
     obtain ⟨b9, o9, A0, n0, c0, x0, X1, y1, z1, X2, y2, z2, X3, y3, z3, K9, Su, M9, X9, rfl, _, _, k0, _, _, _, _, hK9, _, _, _, he9⟩ := (KD.out wr (HB2.out.trans (HBt.out.mono hz2))).atR hlt2
     cases bb
     ·obtain ⟨x, hx⟩ : ∃ x, Hid (cmpL K9 K = x) := ⟨_, Lib.hid rfl⟩
      have HC := Lib.hid (refCmpL_any hK9 (KK.out wr HBt.out) hx)
      by_cases hx0 : x = 0
      ·subst hx0
       have HN : Hid (hadB DD K (t + 1) true) := Lib.hid (hadB_yes he9.out ((cmpL_zero _ _).1 hx.out))
       clear hK9 he9
       go_wp2_with fail
       refine HC.out.mono ?_
       rintro e w9 ⟨rfl, q9, rfl⟩
       have HB9 := Lib.hid (below_drewN HBt.out q9)
       clear HC
       go_wp2_with fail
       go_roundw
       case rel => exact ⟨t + 1, true, by omega, rfl, by go_num, HB9.out, HN⟩
       case measure => simp [intOf]; omega
      ·have hxb : ((x : Int) == 0) = false := by simpa using hx0
       have HN : Hid (hadB DD K (t + 1) false) := Lib.hid (hadB_no hbb.out he9.out fun h1 => by
        have h1 : K9 = K := h1
        rw [h1] at hx
        exact hx0 (hx.out.symm.trans (cmpL_self K)))
       clear hK9 he9 hx0
       go_wp2_with fail
       refine HC.out.mono ?_
       rintro e w9 ⟨rfl, q9, rfl⟩
       have HB9 := Lib.hid (below_drewN HBt.out q9)
       clear HC
       go_wp2_with fail
       go_roundw
       case rel => exact ⟨t + 1, false, by omega, rfl, by go_num, HB9.out, HN⟩
       case measure => simp [intOf]; omega
     ·have HN : Hid (hadB DD K (t + 1) true) := Lib.hid (hadB_stay hbb.out he9.out)
      clear hK9 he9
      go_wp2_with fail
      go_roundw
      case rel => exact ⟨t + 1, true, by omega, rfl, by go_num, HBt.out, HN⟩
      case measure => simp [intOf]; omega
    ·have hin := hbb.out
     rw [← hDD.out] at hin
     have hin := Lib.hid (hadB_all hin (by rw [hDD.out, hnd.out]; omega))
     have HB3 := Lib.hid (HB2.out.trans (HBt.out.mono hz2))
     cases bb
     ·have hnew := Lib.hid (hin.out.2 rfl)
      obtain ⟨w3, rfl⟩ : ∃ w3, w3 = wr := ⟨_, rfl⟩
      have HB3w := Lib.hid (HBw.out.trans (HB3.out.mono HBw.out.size))
      have hz3 : wo.heap.size ≤ w3.heap.size := HB3.out.size
      have hzw3 : w.heap.size ≤ w3.heap.size := HB3w.out.size
      go_wp2_with fail
      go_loopw [14, 15] (fun u j wr => ∃ t : Nat, k ≤ t ∧ t ≤ nf ∧ j = .int .i64 t ∧ Hid (OwnR elInts 47 1 wr w3.heap.size (fun b => b < w.heap.size) u (valsT κ G K k t)) ∧ Below w3.heap.size w3 wr) (fun _ j _ => nf - (intOf j).toNat)
      case atStart => exact ⟨k, Nat.le_refl _, by omega, rfl, Lib.hid (by rw [valsT_zero]; exact OwnR.nil_ _ _ _), Below.refl _ _⟩
      case round =>
       obtain ⟨t, hkt, htn, rfl, hV, hBv⟩ := hrel
       have HBv := Lib.hid hBv
       have HBvw := Lib.hid (HB3w.out.trans (hBv.mono hzw3))
       clear hBv
       by_cases hlt3 : t < nf
       ·obtain ⟨hGt, hvt⟩ := KG.out wr HBvw.out
        obtain ⟨b4, o4, P4, np4, cp4, Q4, nq4, cq4, p4, q4, e4, hb4, _, gp4, gq4, hp4, hq4, he4⟩ := hGt.at2 hlt3
        injection e4 with e4
        injection e4 with e4a e4b
        subst e4a e4b
        have hf4 : nv ≤ p4.length ∧ isVal m q4 ∧ ∀ x ∈ p4, x.length ≤ 1000000 := HFit.out _ (List.mem_of_getElem? he4.out)
        have j0 : (0 : Int) ≤ (t : Int) := by omega
        have j1 : (t : Int) < (nf : Int) := by omega
        have hpl4 := hp4.len
        have HK4 := Lib.hid (refKey_any (Q := Q4) (nq := nq4) (cq := cq4) hp4 (hvt.more HBvw.out.size) (by have := hf4.1; omega) hnv hf4.2.2)
        have hkl4 : Hid ((keyP v p4).length = nv) := Lib.hid (by rw [keyP_len (by have := hf4.1; have := hvt.len; omega)]; exact hvt.len)
        obtain ⟨K4, hK4⟩ : ∃ K4, Hid (κ (p4, q4) = K4) := ⟨_, Lib.hid rfl⟩
        have hKK4 : Hid (keyP v p4 = K4) := Lib.hid ((HKe.out (p4, q4)).trans hK4.out)
        rw [hKK4.out] at HK4 hkl4
        have KQ : Hid (∀ y, Below w.heap.size w y → y.cell? ⟨b, o + t * 2 + 1, none⟩ = some (.slice Q4 nq4 cq4) ∧ Row elInt 1 y (fun b => b < w.heap.size) Q4 nq4 cq4 q4) := Lib.hid fun y hy => by
         obtain ⟨b5, o5, P5, np5, cp5, Q5, nq5, cq5, p5, q5, e5, _, _, _, gq5, _, hq5, he5⟩ := (KG.out y hy).1.at2 hlt3
         injection e5 with e5
         injection e5 with e5a e5b
         subst e5a e5b
         have h1 := (hy.cell (p := ⟨b, o + t * 2 + 1, none⟩) hb4).trans ((HBvw.out.cell (p := ⟨b, o + t * 2 + 1, none⟩) hb4).symm.trans gq4)
         rw [gq5] at h1
         injection h1 with h1
         injection h1 with h2 h3 h4
         subst h2 h3 h4
         have h5 := he5.out
         rw [he4.out] at h5
         injection h5 with h5
         injection h5 with _ h5
         subst h5
         exact ⟨gq5, hq5⟩
        have hst := Lib.hid (valsT_step (κ := κ) (K := K) (i := k) he4.out hkt)
        have hlo := hV.out.lt
        have hlb : Hid ((valsT κ G K k t).length ≤ 1000000) := Lib.hid (Nat.le_trans valsT_len (by have := HGl.out; omega))
        have hzv : w3.heap.size ≤ wr.heap.size := HBv.out.size
        clear hGt hvt hp4 hq4 hf4 hpl4 he4
        go_wp2_with fail
        refine HK4.out.mono ?_
        rintro e w5 ⟨vk4, rfl, hOk4, hb5⟩
        obtain ⟨Ak4, ck4, rfl, hKr4⟩ := told_key hOk4
        rw [hkl4.out] at hKr4 ⊢
        have HB5 := Lib.hid (HBv.out.trans (hb5.mono hzv))
        obtain ⟨x, hx⟩ : ∃ x, Hid (cmpL K4 K = x) := ⟨_, Lib.hid rfl⟩
        have HC := Lib.hid (refCmpL_any hKr4 (KK.out w5 (HBt.out.trans ((HB5.out).mono HBt.out.size))) hx)
        have HV5 := Lib.hid (hV.out.below elInts_ok hb5)
        clear hOk4 hKr4 HK4 hb5 hV gp4 gq4
        by_cases hx0 : x = 0
        ·subst hx0
         have hkk : K4 = K := (cmpL_zero _ _).1 hx.out
         have hst2 : Hid (valsT κ G K k (t + 1) = valsT κ G K k t ++ [q4]) := Lib.hid (by rw [hst.out, if_pos (by rw [hK4.out, hkk])])
         clear hkk
         go_wp2_with fail
         refine HC.out.mono ?_
         rintro e w6 ⟨rfl, q6, rfl⟩
         have HB6 := Lib.hid (below_drewN HB5.out q6)
         obtain ⟨gq6, hq6⟩ := KQ.out (w5.drewN q6) (HB3w.out.trans (HB6.out.mono hzw3))
         have HO6 := Lib.hid ((HV5.out.drewN elInts_ok q6).alloc elInts_ok (.cells #[.slice Q4 nq4 cq4] 47))
         have HE6 : Hid (elInts ((w5.drewN q6).alloc (.cells #[.slice Q4 nq4 cq4] 47)) (fun b => b < w.heap.size ∧ u14.ownBlock ≠ some b) [.slice Q4 nq4 cq4] q4) := Lib.hid ⟨Q4, nq4, cq4, rfl, hq6.mv elInt_ok ((Mv.alloc (w5.drewN q6) _ _).trans (Mv.to _ fun b hb _ => ⟨hb, fun e => by have := (hlo b e).1; omega⟩))⟩
         have hB7 := HB6.out.trans ((below_a1 (w5.drewN q6) (.cells #[.slice Q4 nq4 cq4] 47)).mono HB6.out.size)
         have hbs : w3.heap.size ≤ ((w5.drewN q6).alloc (.cells #[.slice Q4 nq4 cq4] 47)).heap.size := hB7.size
         clear hq6 HC
         go_wp2_with (at_builtin; refine wpList_appX elInts_ok rfl _ _ rfl info_rowI Tryz.underlying24 rfl (by decide) w3.heap.size _ u14 _ rfl HO6.out _ rfl [.slice Q4 nq4 cq4] rfl q4 (cell_sl1 (w5.drewN q6) Q4 nq4 cq4 47 _ rfl) (sl1_one Q4 nq4 cq4) HE6.out hlb.out hbs ?_)
         intro v8 w8 hO8 hG8
         have hF := Lib.hid (show OwnR elInts 47 1 w8 w3.heap.size (fun b => b < w.heap.size) v8 (valsT κ G K k (t + 1)) ∧ Below w3.heap.size w3 w8 from ⟨by rw [hst2.out]; exact hO8, hB7.trans (hG8.below_ hbs fun j e => (hlo j e).1)⟩)
         clear hO8 hG8 hB7
         go_wp2_with fail
         go_roundw
         case rel => exact ⟨t + 1, by omega, by omega, by go_num, Lib.hid hF.out.1, hF.out.2⟩
         case measure => simp [intOf]; omega
        ·have hxb : ((x : Int) == 0) = false := by simpa using hx0
         have hst2 : Hid (valsT κ G K k (t + 1) = valsT κ G K k t) := Lib.hid (by
          rw [hst.out, if_neg]
          rw [hK4.out]
          intro h1
          rw [h1] at hx
          exact hx0 (hx.out.symm.trans (cmpL_self K)))
         clear hx0
         go_wp2_with fail
         refine HC.out.mono ?_
         rintro e w6 ⟨rfl, q6, rfl⟩
         have HO6 := Lib.hid (HV5.out.drewN elInts_ok q6)
         have HB6 := Lib.hid (below_drewN HB5.out q6)
         clear HC
         go_wp2_with fail
         go_roundw
         case rel => exact ⟨t + 1, by omega, by omega, by go_num, Lib.hid (by rw [hst2.out]; exact HO6.out), HB6.out⟩
         case measure => simp [intOf]; omega
       ·have htG : G.length ≤ t := by have := HGl.out; omega
        obtain ⟨Au, cu, eu, hVr⟩ := hV.out.read elInts_ok
        subst eu
        have hvl : (valsT κ G K k t).length ≤ 1000 := Nat.le_trans valsT_len (by have := HGl.out; omega)
        have hfold := fold_new hm2 (fun f hf => (HFit.out f hf).2.1) (by have := HGl.out; omega) htG he.out hK.out hnew.out
        have HFo := refFold_any (m : Int) hVr.hasL hvl
        rw [hfold] at HFo
        obtain ⟨nu, hnu⟩ : ∃ nu, (valsT κ G K k t).length = nu := ⟨_, rfl⟩
        rw [hnu] at HFo ⊢
        obtain ⟨⟨sq, sS, sM, sX⟩, hsum⟩ : ∃ z : PC, Hid (sumC m (cellsV κ oneF G K) = z) := ⟨_, Lib.hid rfl⟩
        have HBw2 := Lib.hid (HB2.out.trans (HBt.out.mono hz2))
        have HBo := Lib.hid (HB3.out.trans (HBv.out.mono hz3))
        have HB1r := Lib.hid (HB.out.trans (HBo.out.mono hzr))
        have xm := KX.out wr HB1r.out
        rw [hsum.out] at HFo
        clear hVr hV hvl hfold hnu
        by_cases hmay : cMay (sumC m (cellsV κ oneF G K))
        ·rw [hsum.out] at hmay
         rw [if_pos hmay] at HFo
         have HFo := Lib.hid HFo
         have hnk : κ (p, q) ∉ fstK κ (G.take k) [] := by rw [hK.out]; exact hnew.out
         have hdn := doneF_new (m := m) (c := oneF) he.out hnk
         rw [hK.out, hsum.out, hDD.out] at hdn
         have hokn : okT m κ G (k + 1) := okT_new HO.out.2 he.out (by rw [hK.out, hsum.out]; exact hmay)
         have HDn := Lib.hid (And.intro hdn hokn)
         clear hmay hnk hdn hokn
         go_wp2_with fail
         refine HFo.out.mono ?_
         rintro e w5 ⟨⟨v1, v2, v3, rfl, hOC⟩, hb5⟩
         obtain ⟨B1, d1, rfl, hR1⟩ := hOC.s.row
         obtain ⟨B2, d2, rfl, hR2⟩ := hOC.m.row
         obtain ⟨B3, d3, rfl, hR3⟩ := hOC.x.row
         obtain ⟨m1, hm1⟩ : ∃ m1, sS.length = m1 := ⟨_, rfl⟩
         obtain ⟨m2, hm2'⟩ : ∃ m2, sM.length = m2 := ⟨_, rfl⟩
         obtain ⟨m3, hm3⟩ : ∃ m3, sX.length = m3 := ⟨_, rfl⟩
         rw [hm1] at hR1 ⊢
         rw [hm2'] at hR2 ⊢
         rw [hm3] at hR3 ⊢
         have hX5 := Block.new w5 71 #[.int .i64 sq, .slice B1 m1 d1, .slice B2 m2 d2, .slice B3 m3 d3]
         have hb6 := below_a1 w5 (.cells #[.int .i64 sq, .slice B1 m1 d1, .slice B2 m2 d2, .slice B3 m3 d3] 71)
         have hb7 := below_a1 (w5.alloc (.cells #[.int .i64 sq, .slice B1 m1 d1, .slice B2 m2 d2, .slice B3 m3 d3] 71)) (.cells #[.slice Ak nv ck, .int .i64 sq, .slice B1 m1 d1, .slice B2 m2 d2, .slice B3 m3 d3] 73)
         have hb57 := below_then hb6 hb7
         have hbr7 := below_then hb5 hb57
         have hzr5 := hbr7.size
         have HBo7 := Lib.hid (HBo.out.trans (hbr7.mono HBo.out.size))
         have HB17 := Lib.hid (HB1r.out.trans (hbr7.mono HB1r.out.size))
         have hlo := HO.out.1.lt
         have hwo3 := HBo.out.size
         have HO7 := Lib.hid (HO.out.1.below elRw_ok HBo7.out)
         have hKz := KK.out _ ((HBt.out.trans (HBv.out.mono HBt.out.size)).trans (hbr7.mono (HBt.out.trans (HBv.out.mono HBt.out.size)).size))
         have hcell : ∀ b, wr.heap.size ≤ b → w1.heap.size ≤ b ∧ (Value.slice A9 nd c9).ownBlock ≠ some b := fun b hb => ⟨by omega, fun e => by have := (hlo b e).2; omega⟩
         have HE7 := Lib.hid (elRw_mk (n := sq) (hKz.mv elPathR_ok (Mv.to _ (S' := fun b => w1.heap.size ≤ b ∧ (Value.slice A9 nd c9).ownBlock ≠ some b) fun b hb _ => ⟨by have := hb.1; omega, fun e => by have := (hlo b e).2; have := hb.1; omega⟩)) (hR1.mv elInt_ok ((Mv.belowS hb57 _).trans (Mv.to _ fun b hb _ => hcell b hb.1))) (hR2.mv elInt_ok ((Mv.belowS hb57 _).trans (Mv.to _ fun b hb _ => hcell b hb.1))) (hR3.mv elInt_ok ((Mv.belowS hb57 _).trans (Mv.to _ fun b hb _ => hcell b hb.1))))
         have x0 : (w5.alloc (.cells #[.int .i64 sq, .slice B1 m1 d1, .slice B2 m2 d2, .slice B3 m3 d3] 71)).cell? ⟨w5.heap.size, 0, none⟩ = some (.int .i64 sq) := hX5.cell 0
         have x1 : (w5.alloc (.cells #[.int .i64 sq, .slice B1 m1 d1, .slice B2 m2 d2, .slice B3 m3 d3] 71)).cell? ⟨w5.heap.size, 1, none⟩ = some (.slice B1 m1 d1) := hX5.cell 1
         have x2 : (w5.alloc (.cells #[.int .i64 sq, .slice B1 m1 d1, .slice B2 m2 d2, .slice B3 m3 d3] 71)).cell? ⟨w5.heap.size, 2, none⟩ = some (.slice B2 m2 d2) := hX5.cell 2
         have x3 : (w5.alloc (.cells #[.int .i64 sq, .slice B1 m1 d1, .slice B2 m2 d2, .slice B3 m3 d3] 71)).cell? ⟨w5.heap.size, 3, none⟩ = some (.slice B3 m3 d3) := hX5.cell 3
         have hbs : w1.heap.size ≤ ((w5.alloc (.cells #[.int .i64 sq, .slice B1 m1 d1, .slice B2 m2 d2, .slice B3 m3 d3] 71)).alloc (.cells #[.slice Ak nv ck, .int .i64 sq, .slice B1 m1 d1, .slice B2 m2 d2, .slice B3 m3 d3] 73)).heap.size := HB17.out.size
         have hlb : Hid (DD.length ≤ 1000000) := Lib.hid (by rw [hnd.out]; omega)
         have HC7 := Lib.hid (cells_at (w5.alloc (.cells #[.int .i64 sq, .slice B1 m1 d1, .slice B2 m2 d2, .slice B3 m3 d3] 71)) [.slice Ak nv ck, .int .i64 sq, .slice B1 m1 d1, .slice B2 m2 d2, .slice B3 m3 d3] 73 (w5.heap.size + 1) (by rw [World.size_alloc]))
         clear hOC hb5 hR1 hR2 hR3 hX5 hb6 hb7 hb57 hbr7 hKz hcell HFo hm1 hm2' hm3 xm
         go_wp2_with (at_builtin; refine wpList_appX elRw_ok rfl _ _ rfl info_rowS Tryz.underlying43 rfl (by decide) w1.heap.size _ (.slice A9 nd c9) _ rfl HO7.out _ rfl [.slice Ak nv ck, .int .i64 sq, .slice B1 m1 d1, .slice B2 m2 d2, .slice B3 m3 d3] rfl (K, sq, sS, sM, sX) HC7.out (five_one _ _ _ _ _ _ _ _ _ _ _ _ _) HE7.out hlb.out hbs ?_)
         intro v8 w8 hO8 hG8
         have hF := Lib.hid (show (OwnR elRw 73 5 w8 w1.heap.size (fun b => w1.heap.size ≤ b) v8 (doneF m κ oneF G (k + 1)) ∧ okT m κ G (k + 1)) ∧ Below w1.heap.size w1 w8 from ⟨⟨by rw [HDn.out.1]; exact hO8, HDn.out.2⟩, HB17.out.trans (hG8.below_ hbs fun j e => (hlo j e).1)⟩)
         clear hO8 hG8 x0 x1 x2 x3
         go_wp2_with fail
         go_roundw
         case rel => exact ⟨k + 1, by omega, by go_num, Lib.hid hF.out.1, hF.out.2⟩
         case measure => simp [intOf]; omega
        ·rw [hsum.out] at hmay
         rw [if_neg hmay] at HFo
         have HFo := Lib.hid HFo
         have HNo : Hid (¬ okF m κ oneF G) := Lib.hid fun h => hmay (by rw [← hsum.out, ← hK.out]; exact h _ (List.mem_of_getElem? he.out))
         clear hmay
         go_wp2_with fail
         refine HFo.out.mono ?_
         rintro e w5 ⟨⟨v1, v2, v3, rfl, hOC⟩, hb5⟩
         obtain ⟨B1, m1, d1, rfl, _, _⟩ := hOC.s.formN
         obtain ⟨B2, m2, d2, rfl, _, _⟩ := hOC.m.formN
         obtain ⟨B3, m3, d3, rfl, _, _⟩ := hOC.x.formN
         have HB5 := Lib.hid (HB1r.out.trans (hb5.mono HB1r.out.size))
         have HBe := Lib.hid (HB1.out.trans ((HB5.out.trans ((below_a1 w5 (.cells #[.int .i64 zeroC.1, .slice B1 m1 d1, .slice B2 m2 d2, .slice B3 m3 d3] 71)).mono HB5.out.size)).mono hz1))
         clear hOC hb5 HFo xm
         go_wp2_with fail
         go_ret2
         exact ⟨.inr ⟨HNo.out, rfl⟩, HBe.out⟩
     ·have hmem := hin.out.1 rfl
      rw [← hK.out] at hmem
      have h1 := doneF_had (m := m) (c := oneF) he.out hmem
      have hF := Lib.hid (show OwnR elRw 73 5 wr w1.heap.size (fun b => w1.heap.size ≤ b) (.slice A9 nd c9) (doneF m κ oneF G (k + 1)) ∧ okT m κ G (k + 1) from ⟨by
       rw [h1, hDD.out]
       exact HO.out.1.below elRw_ok HB3.out, okT_had HO.out.2 he.out hmem⟩)
      have HB4 := Lib.hid (HB.out.trans (HB3.out.mono hzr))
      clear hmem h1
      go_wp2_with fail
      go_roundw
      case rel => exact ⟨k + 1, by omega, by go_num, hF, HB4.out⟩
      case measure => simp [intOf]; omega
  ·have hkG : G.length = k := by have := HGl.out; omega
   have HOK := Lib.hid (okT_all HO.out.2 (by omega))
   have hDDl : DD = doneF m κ oneF G G.length := by rw [hkG, hDD.out]
   have HDD := Lib.hid hDDl
   have HSel0 := Lib.hid (Sel.begin (all := DD) (by rw [hDDl]; exact doneF_one m κ oneF G _))
   obtain ⟨wo, rfl⟩ : ∃ wo, wo = wr := ⟨_, rfl⟩
   have hD0 := Lib.hid ((KD.out wo (Below.refl _ _)).mv elRw_ok (Mv.to wo (S' := fun b => w.heap.size ≤ b ∧ (Value.slice none 0 0).ownBlock ≠ some b) fun b hb _ => ⟨by have := hb.1; omega, fun e => by cases e⟩))
   have hzwo : w.heap.size ≤ wo.heap.size := HBw.out.size
   clear hkG hDDl
   go_wp2_with fail
   go_loopw [8, 9] (fun u d wr => ∃ (A : Option Addr) (n c : Nat) (Lo Ld : Rws), d = .slice A n c ∧ Hid (OwnR elRw 73 5 wr wo.heap.size (fun b => w.heap.size ≤ b) u Lo ∧ Row elRw 5 wr (fun b => w.heap.size ≤ b ∧ u.ownBlock ≠ some b) A n c Ld ∧ Sel DD Lo Ld) ∧ n ≤ nd ∧ Below wo.heap.size wo wr) (fun _ d _ => sliceN d)
   case atStart => exact ⟨A9, nd, c9, [], DD, rfl, Lib.hid ⟨OwnR.nil_ _ _ _, hD0.out, HSel0.out⟩, Nat.le_refl _, Below.refl _ _⟩
   case round =>
    obtain ⟨A, n, c, Lo, Ld, rfl, HS, hnn, hBs⟩ := hrel
    have HBs := Lib.hid hBs
    have hLd := HS.out.2.1.len
    have hperm := HS.out.2.2.perm.length_eq
    rw [List.length_append, hnd.out] at hperm
    have hLo : Hid (Lo.length ≤ 1000) := Lib.hid (by omega)
    have HLdn := Lib.hid hLd
    have hnc := HS.out.2.1.cap
    have hcm := HS.out.2.1.capMax
    have hcf := Lib.hid HS.out.2.1.fit
    clear hBs hperm hLd
    by_cases hn0 : 0 < n
    ·obtain ⟨b, o, _, _, rfl, _, _, _, _, _, _⟩ := HS.out.2.1.at_ hn0
     obtain ⟨wx, rfl⟩ : ∃ wx, wx = wr := ⟨_, rfl⟩
     have hn0' : (0 : Int) < (n : Int) := by omega
     go_wp2_with fail
     go_loopw [19, 20] (fun l j wi => ∃ a t : Nat, l = .int .i64 a ∧ j = .int .i64 t ∧ 1 ≤ t ∧ t ≤ n ∧ a < n ∧ Hid (LeastAt Ld t a) ∧ Below wx.heap.size wx wi) (fun _ j _ => n - (intOf j).toNat)
     case atStart => exact ⟨0, 1, rfl, rfl, Nat.le_refl _, hn0, hn0, Lib.hid leastAt_one, Below.refl _ _⟩
     case round =>
      obtain ⟨a, t, rfl, rfl, ht1, htn, han, hle, hBi⟩ := hrel
      have HBi := Lib.hid hBi
      have HRi := Lib.hid (HS.out.2.1.mv elRw_ok (Mv.belowS hBi _))
      clear hBi
      have a0 : (0 : Int) ≤ (a : Int) := by omega
      have a1 : (a : Int) < (n : Int) := by omega
      by_cases hlt2 : t < n
      ·obtain ⟨At, nt, ct, et, gt, hKt, het⟩ := rowK_at HRi.out hlt2
       obtain ⟨Aa, na, ca, ea, ga, hKa, hea⟩ := rowK_at HRi.out han
       have j0 : (0 : Int) ≤ (t : Int) := by omega
       have j1 : (t : Int) < (n : Int) := by omega
       obtain ⟨x, hx⟩ : ∃ x, Hid (cmpL et.1 ea.1 = x) := ⟨_, Lib.hid rfl⟩
       have HC := Lib.hid (fun q => refCmpL_any (hKt.mv elPathR_ok (Mv.drewN wr q _)) (hKa.mv elPathR_ok (Mv.drewN wr q _)) hx)
       by_cases hx0 : x < 0
       ·have hxd : decide (x < 0) = true := decide_eq_true hx0
        have HL := Lib.hid (leastAt_less hle.out het.out hea.out (by unfold lessL; rw [hx.out]; exact hx0))
        clear hKt hKa het hea
        go_wp2_with fail
        go_quiet ((go_at_call 35; exact Calls.quiet_of (HC.out _)))
        have HB9 := Lib.hid (below_drewN HBi.out nq)
        go_wp2_with fail
        go_roundw
        case rel => exact ⟨t, t + 1, rfl, by go_num, by omega, by omega, by omega, HL, HB9.out⟩
        case measure => simp [intOf]; omega
       ·have hxd : decide (x < 0) = false := decide_eq_false hx0
        have HL := Lib.hid (leastAt_not hle.out het.out hea.out (by unfold lessL; rw [hx.out]; exact hx0))
        clear hKt hKa het hea
        go_wp2_with fail
        go_quiet ((go_at_call 35; exact Calls.quiet_of (HC.out _)))
        have HB9 := Lib.hid (below_drewN HBi.out nq)
        go_wp2_with fail
        go_roundw
        case rel => exact ⟨a, t + 1, rfl, by go_num, by omega, by omega, han, HL, HB9.out⟩
        case measure => simp [intOf]; omega
      ·have htn' : t = n := by omega
       subst htn'
       obtain ⟨b9, o9, A0, n0, c0, x0, X1, y1, z1, X2, y2, z2, X3, y3, z3, K9, Su, M9, X9, e9, _, _, k0, k1, k2, k3, k4, hK9, hS9, hM9, hX9, he9⟩ := HRi.out.atR han
       injection e9 with e9
       injection e9 with e9a e9b
       subst e9a e9b
       have hmin : ∀ e ∈ Ld, ¬ lessL e.1 K9 := leastAt_all (by rw [HLdn.out]; exact hle.out) he9.out
       have HSel := Lib.hid (HS.out.2.2.step he9.out hmin)
       have hlo := HS.out.1.lt
       have hzx : wo.heap.size ≤ wx.heap.size := HBs.out.size
       have HBw9 := Lib.hid (HBs.out.trans (HBi.out.mono hzx))
       have HO7 := Lib.hid (HS.out.1.below elRw_ok (HBi.out.trans ((below_a1 wr (.cells #[.slice A0 n0 c0, .int .i64 x0, .slice X1 y1 z1, .slice X2 y2 z2, .slice X3 y3 z3] 73)).mono HBi.out.size)))
       have HE7 := Lib.hid (elRw_ok _ _ _ _ _ _ (Mv.alloc wr (.cells #[.slice A0 n0 c0, .int .i64 x0, .slice X1 y1 z1, .slice X2 y2 z2, .slice X3 y3 z3] 73) _) (elRw_mk (n := x0) hK9 hS9 hM9 hX9))
       have HC7 := Lib.hid (cells_at wr [.slice A0 n0 c0, .int .i64 x0, .slice X1 y1 z1, .slice X2 y2 z2, .slice X3 y3 z3] 73 wr.heap.size rfl)
       have hb7 := HBw9.out.trans ((below_a1 wr (.cells #[.slice A0 n0 c0, .int .i64 x0, .slice X1 y1 z1, .slice X2 y2 z2, .slice X3 y3 z3] 73)).mono HBw9.out.size)
       have HB7 := Lib.hid hb7
       have hbs : wo.heap.size ≤ (wr.alloc (.cells #[.slice A0 n0 c0, .int .i64 x0, .slice X1 y1 z1, .slice X2 y2 z2, .slice X3 y3 z3] 73)).heap.size := hb7.size
       have hlb : Hid (Lo.length ≤ 1000000) := Lib.hid (by have := hLo.out; omega)
       have hA1 : (0 : Nat) + a ≤ 1000000 := by omega
       have HA1 : Hid (([] : Rws).length + a ≤ 1000000) := Lib.hid (by simp; omega)
       have HA2 : Hid ((Ld.take a).length + (t - (a + 1)) ≤ 1000000) := Lib.hid (by rw [List.length_take]; omega)
       have a2 : (a : Int) + 1 ≤ (t : Int) := by omega
       have a3 : (a : Int) ≤ (c : Int) := by omega
       clear hb7 hK9 hS9 hM9 hX9 he9 hmin
       go_wp2_with (at_builtin; refine wpList_appX elRw_ok rfl _ _ rfl info_rowS Tryz.underlying43 rfl (by decide) wo.heap.size _ _ _ rfl HO7.out _ rfl [.slice A0 n0 c0, .int .i64 x0, .slice X1 y1 z1, .slice X2 y2 z2, .slice X3 y3 z3] rfl (K9, x0, Su, M9, X9) HC7.out (five_one _ _ _ _ _ _ _ _ _ _ _ _ _) HE7.out hlb.out hbs ?_)
       intro v8 w8 hO8 hG8
       have HR8 := Lib.hid (HRi.out.mv elRw_ok ((Mv.alloc wr (.cells #[.slice A0 n0 c0, .int .i64 x0, .slice X1 y1 z1, .slice X2 y2 z2, .slice X3 y3 z3] 73) _).trans ((Mv.grew hG8).trans (Mv.to w8 (S' := fun b => (w.heap.size ≤ b ∧ v8.ownBlock ≠ some b) ∧ b < w8.heap.size) fun b hb hl => ⟨hb, hl⟩))))
       have HB8 := Lib.hid (HB7.out.trans (hG8.below_ hbs fun j e => (hlo j e).1))
       have HO8 := Lib.hid hO8
       have hlo8 := hO8.lt
       have HD8 := Lib.hid ((HR8.out.take_ (k := a) (by omega)).mv elRw_ok (Mv.to w8 (S' := fun b => (w.heap.size ≤ b ∧ v8.ownBlock ≠ some b) ∧ (Value.slice none 0 0).ownBlock ≠ some b) fun b hb _ => ⟨hb.1, fun e => by cases e⟩))
       have hzo : w.heap.size ≤ w8.heap.size := Nat.le_trans hzwo HB8.out.size
       have hEND : ∀ v w', OwnR elRw 73 5 w' w8.heap.size (fun b => w.heap.size ≤ b ∧ v8.ownBlock ≠ some b) v (Ld.take a ++ Ld.drop (a + 1)) → Below w8.heap.size w8 w' → ∃ A n' c', v = .slice A n' c' ∧ OwnR elRw 73 5 w' wo.heap.size (fun b => w.heap.size ≤ b) v8 (Lo ++ [(K9, x0, Su, M9, X9)]) ∧ Row elRw 5 w' (fun b => w.heap.size ≤ b ∧ v8.ownBlock ≠ some b) A n' c' (Ld.take a ++ Ld.drop (a + 1)) ∧ n' < t ∧ Below wo.heap.size wo w' := fun v w' hO hb => by
        obtain ⟨A, c', e, hr⟩ := hO.read elRw_ok
        refine ⟨A, _, c', e, HO8.out.below elRw_ok hb, hr.mv elRw_ok (Mv.to w' fun b hb' _ => ?_), ?_, HB8.out.trans (hb.mono HB8.out.size)⟩
        ·rcases hb' with hb' | ⟨h1, h2⟩
         ·exact hb'
         ·exact ⟨by omega, fun e' => by have := (hlo8 b e').2; omega⟩
        ·have h1 := HLdn.out
         rw [List.length_append, List.length_take, List.length_drop]
         omega
       clear hO8 hG8 k0 k1 k2 k3 k4
       by_cases hca : c = a + 1
       ·subst hca
        have HT8 := Lib.hid (show Row elRw 5 w8 (fun b => (w.heap.size ≤ b ∧ v8.ownBlock ≠ some b) ∧ b < w8.heap.size) (some ⟨b, o, none⟩) 0 0 (Ld.drop (a + 1)) from (by rw [List.drop_eq_nil_of_le (show Ld.length ≤ a + 1 by have := HLdn.out; omega)]; exact Row.zero_ (by omega) (fun h => by cases h)))
        go_wp2_with (at_builtin; refine wpList_appXs elRw_ok rfl _ _ rfl info_rowS Tryz.underlying43 rfl (by decide) w8.heap.size (fun b => w.heap.size ≤ b ∧ v8.ownBlock ≠ some b) (.slice none 0 0) [] rfl (OwnR.nil_ _ _ _) ⟨b, o, none⟩ a (a + 1) (Ld.take a) rfl HD8.out (fun S us y => elRw_one S _ us y) HA1.out (Nat.le_refl _) ?_)
        intro v9 w9 hO9 hG9
        have hb9 : Below w8.heap.size w8 w9 := hG9.below_ (Nat.le_refl _) (fun j e => by cases e)
        have hlo9 := hO9.lt
        have HO9 := Lib.hid (show OwnR elRw 73 5 w9 w8.heap.size (fun b => w.heap.size ≤ b ∧ v8.ownBlock ≠ some b) v9 (Ld.take a) from hO9)
        have HT9 := Lib.hid (HT8.out.mv elRw_ok ((Mv.belowS hb9 _).trans (Mv.to w9 (S' := fun b => (w.heap.size ≤ b ∧ v8.ownBlock ≠ some b) ∧ v9.ownBlock ≠ some b) fun b hb _ => ⟨hb.1, fun e => by have := (hlo9 b e).1; have := hb.2; omega⟩)))
        obtain ⟨A9', c9', e9'⟩ := hO9.shape
        rw [show (Ld.take a).length = a by rw [List.length_take]; have := HLdn.out; omega] at e9'
        subst e9'
        have HB9 := Lib.hid hb9
        clear hO9 hG9 hb9
        go_wp2_with (at_builtin; refine wpList_appXs elRw_ok rfl _ _ rfl info_rowS Tryz.underlying43 rfl (by decide) w8.heap.size (fun b => w.heap.size ≤ b ∧ v8.ownBlock ≠ some b) (.slice A9' a c9') (Ld.take a) rfl HO9.out ⟨b, o, none⟩ 0 0 (Ld.drop (a + 1)) rfl HT9.out (fun S us y => elRw_one S _ us y) (Nat.le_trans (Nat.add_le_add_left (Nat.zero_le _) _) HA2.out) HB9.out.size ?_)
        intro v10 w10 hO10 hG10
        have hb10 : Below w8.heap.size w8 w10 := HB9.out.trans (hG10.below_ HB9.out.size (fun j e => (hlo9 j e).1))
        have HEnd := Lib.hid (hEND v10 w10 hO10 hb10)
        clear hO10 hG10 hb10
        obtain ⟨A10, n10, c10, rfl⟩ : ∃ A n c, v10 = .slice A n c := by
         obtain ⟨A, n, c, e, _⟩ := HEnd.out
         exact ⟨A, n, c, e⟩
        go_wp2_with fail
        go_roundw
        case rel =>
         obtain ⟨A, n', c', e, h1, h2, h3, h4⟩ := HEnd.out
         injection e with e1 e2 e3
         subst e1 e2 e3
         exact ⟨_, _, _, _, _, rfl, Lib.hid ⟨h1, h2, HSel.out⟩, by omega, h4⟩
        case measure =>
         obtain ⟨A, n', c', e, h1, h2, h3, h4⟩ := HEnd.out
         injection e with e1 e2 e3
         subst e1 e2 e3
         simp only [sliceN]
         omega
       ·have hca2 : ¬ c = a + 1 := hca
        have HT8 := Lib.hid (show Row elRw 5 w8 (fun b => (w.heap.size ≤ b ∧ v8.ownBlock ≠ some b) ∧ b < w8.heap.size) (some ⟨b, o + (a + 1) * 5, none⟩) (t - (a + 1)) (c - (a + 1)) (Ld.drop (a + 1)) from HR8.out.drop_ (by omega))
        go_wp2_with (at_builtin; refine wpList_appXs elRw_ok rfl _ _ rfl info_rowS Tryz.underlying43 rfl (by decide) w8.heap.size (fun b => w.heap.size ≤ b ∧ v8.ownBlock ≠ some b) (.slice none 0 0) [] rfl (OwnR.nil_ _ _ _) ⟨b, o, none⟩ a c (Ld.take a) rfl HD8.out (fun S us y => elRw_one S _ us y) HA1.out (Nat.le_refl _) ?_)
        intro v9 w9 hO9 hG9
        have hb9 : Below w8.heap.size w8 w9 := hG9.below_ (Nat.le_refl _) (fun j e => by cases e)
        have hlo9 := hO9.lt
        have HO9 := Lib.hid (show OwnR elRw 73 5 w9 w8.heap.size (fun b => w.heap.size ≤ b ∧ v8.ownBlock ≠ some b) v9 (Ld.take a) from hO9)
        have HT9 := Lib.hid (HT8.out.mv elRw_ok ((Mv.belowS hb9 _).trans (Mv.to w9 (S' := fun b => (w.heap.size ≤ b ∧ v8.ownBlock ≠ some b) ∧ v9.ownBlock ≠ some b) fun b hb _ => ⟨hb.1, fun e => by have := (hlo9 b e).1; have := hb.2; omega⟩)))
        obtain ⟨A9', c9', e9'⟩ := hO9.shape
        rw [show (Ld.take a).length = a by rw [List.length_take]; have := HLdn.out; omega] at e9'
        subst e9'
        have HB9 := Lib.hid hb9
        clear hO9 hG9 hb9
        go_wp2_with (at_builtin; refine wpList_appXs elRw_ok rfl _ _ rfl info_rowS Tryz.underlying43 rfl (by decide) w8.heap.size (fun b => w.heap.size ≤ b ∧ v8.ownBlock ≠ some b) (.slice A9' a c9') (Ld.take a) rfl HO9.out ⟨b, o + (a + 1) * 5, none⟩ (t - (a + 1)) (c - (a + 1)) (Ld.drop (a + 1)) rfl HT9.out (fun S us y => elRw_one S _ us y) HA2.out HB9.out.size ?_)
        intro v10 w10 hO10 hG10
        have hb10 : Below w8.heap.size w8 w10 := HB9.out.trans (hG10.below_ HB9.out.size (fun j e => (hlo9 j e).1))
        have HEnd := Lib.hid (hEND v10 w10 hO10 hb10)
        clear hO10 hG10 hb10
        obtain ⟨A10, n10, c10, rfl⟩ : ∃ A n c, v10 = .slice A n c := by
         obtain ⟨A, n, c, e, _⟩ := HEnd.out
         exact ⟨A, n, c, e⟩
        go_wp2_with fail
        go_roundw
        case rel =>
         obtain ⟨A, n', c', e, h1, h2, h3, h4⟩ := HEnd.out
         injection e with e1 e2 e3
         subst e1 e2 e3
         exact ⟨_, _, _, _, _, rfl, Lib.hid ⟨h1, h2, HSel.out⟩, by omega, h4⟩
        case measure =>
         obtain ⟨A, n', c', e, h1, h2, h3, h4⟩ := HEnd.out
         injection e with e1 e2 e3
         subst e1 e2 e3
         simp only [sliceN]
         omega
    ·obtain rfl : Ld = [] := List.eq_nil_of_length_eq_zero (by have := HLdn.out; omega)
     have hsel := HS.out.2.2
     rw [HDD.out] at hsel
     have HRw := Lib.hid (doneF_rows hsel)
     obtain ⟨A5, c5, e5, hr5⟩ := HS.out.1.read elRw_ok
     subst e5
     have HR5 := Lib.hid (show Row elRw 5 wr (fun b => w.heap.size ≤ b) A5 Lo.length c5 Lo from hr5.mv elRw_ok (Mv.to wr fun b hb _ => by
      rcases hb with hb | hb
      ·exact hb
      ·omega))
     have HBe := Lib.hid (HBw.out.trans (HBs.out.mono hzwo))
     have hn0' : ¬ (0 : Int) < (n : Int) := by omega
     clear hr5 hsel
     go_wp2_with fail
     go_ret2
     exact ⟨.inl ⟨HOK.out, A5, c5, Lo, rfl, HRw.out, HR5.out⟩, HBe.out⟩
end Go.Proofs.YtmepdkdeanbbaaaGreat
namespace Go.Proofs.YtmepdkdeanbbaaaGreat
set_option maxRecDepth 100000
open Go.RowKit

theorem rowAll_at {y : World} {S : Nat → Prop} {A : Option Addr} {n c : Nat} {L : Rws} (h : Row elRw 5 y S A n c L) {t : Nat} (ht : t < n) : ∃ b o A0 n0 c0 q A1 n1 c1 A2 n2 c2 A3 n3 c3 e, A = some ⟨b, o, none⟩ ∧ S b ∧ b < y.heap.size ∧ y.cell? ⟨b, o + t * 5, none⟩ = some (.slice A0 n0 c0) ∧ y.cell? ⟨b, o + t * 5 + 1, none⟩ = some (.int .i64 q) ∧ y.cell? ⟨b, o + t * 5 + 2, none⟩ = some (.slice A1 n1 c1) ∧ y.cell? ⟨b, o + t * 5 + 3, none⟩ = some (.slice A2 n2 c2) ∧ y.cell? ⟨b, o + t * 5 + 4, none⟩ = some (.slice A3 n3 c3) ∧ Row elPathR 1 y S A0 n0 c0 (e : PKey × PC).1 ∧ q = e.2.1 ∧ HasC y y.heap.size A1 n1 c1 A2 n2 c2 A3 n3 c3 e.2.2.1 e.2.2.2.1 e.2.2.2.2 ∧ Hid (L[t]? = some e) := by
 obtain ⟨b9, o9, A0, n0, c0, x0, X1, y1, z1, X2, y2, z2, X3, y3, z3, K9, Su, M9, X9, e, hS, hl, k0, k1, k2, k3, k4, hK9, hSu, hM, hX, he9⟩ := h.atR ht
 exact ⟨b9, o9, A0, n0, c0, x0, X1, y1, z1, X2, y2, z2, X3, y3, z3, _, e, hS, hl, k0, k1, k2, k3, k4, hK9, rfl, ⟨hSu.hasI, hM.hasI, hX.hasI⟩, he9⟩
set_option maxRecDepth 100000 in
set_option maxHeartbeats 4000000 in
theorem refSameRows_yes {w : World} {S S' : Nat → Prop} {A A' : Option Addr} {n c n' c' : Nat} {L : Rws} (h : Row elRw 5 w S A n c L) (h' : Row elRw 5 w S' A' n' c' L) :
  Calls Tryz.prog 21 #[.slice A n c, .slice A' n' c'] w fun e w' => e = .returned (.bool true) ∧ Below w.heap.size w w' := by
 obtain rfl : n = n' := by have h1 := h.len; have h2 := h'.len; omega
 have KA := Lib.hid (fun (y : World) (hy : Below w.heap.size w y) => And.intro (h.mv elRw_ok (Mv.belowS hy S)) (h'.mv elRw_ok (Mv.belowS hy S')))
 have hnm := h.lenMax
 have hnn : ((n : Int) != (n : Int)) = false := by simp
 clear h h'
 go_enter Tryz.func21, Tryz.ntmps21
 go_wp2_with fail
 go_loopw [5, 6] (fun i _ wr => ∃ k : Nat, k ≤ n ∧ i = .int .i64 k ∧ Below w.heap.size w wr) (fun i _ _ => n - (intOf i).toNat)
 case atStart => exact ⟨0, Nat.zero_le _, rfl, Below.refl _ _⟩
 case round =>
  obtain ⟨k, hk, rfl, hB⟩ := hrel
  have HB := Lib.hid hB
  clear hB
  by_cases hlt : k < n
  ·have i0 : (0 : Int) ≤ (k : Int) := by omega
   have i1 : (k : Int) < (n : Int) := by omega
   obtain ⟨b, o, A0, n0, c0, q, A1, n1, c1, A2, n2, c2, A3, n3, c3, e, rfl, _, hb, g0, g1, g2, g3, g4, hK, rfl, hC, he⟩ := rowAll_at (KA.out wr HB.out).1 hlt
   obtain ⟨b', o', B0, m0, d0, q', B1, m1, d1, B2, m2, d2, B3, m3, d3, e', rfl, _, hb', f0, f1, f2, f3, f4, hK', rfl, hC', he'⟩ := rowAll_at (KA.out wr HB.out).2 hlt
   obtain rfl : e = e' := by have h1 := he.out; rw [he'.out] at h1; exact (Option.some.inj h1).symm
   obtain ⟨Ke, ce, Su, M, X⟩ := e
   obtain rfl : n0 = m0 := by have h1 := hK.len; have h2 := hK'.len; omega
   have hn0 : ((n0 : Int) != (n0 : Int)) = false := by simp
   have KG : Hid (∀ y, Below wr.heap.size wr y → (y.cell? ⟨b, o + k * 5, none⟩ = some (.slice A0 n0 c0) ∧ y.cell? ⟨b, o + k * 5 + 1, none⟩ = some (.int .i64 ce) ∧ y.cell? ⟨b, o + k * 5 + 2, none⟩ = some (.slice A1 n1 c1) ∧ y.cell? ⟨b, o + k * 5 + 3, none⟩ = some (.slice A2 n2 c2) ∧ y.cell? ⟨b, o + k * 5 + 4, none⟩ = some (.slice A3 n3 c3)) ∧ y.cell? ⟨b', o' + k * 5, none⟩ = some (.slice B0 n0 d0) ∧ y.cell? ⟨b', o' + k * 5 + 1, none⟩ = some (.int .i64 ce) ∧ y.cell? ⟨b', o' + k * 5 + 2, none⟩ = some (.slice B1 m1 d1) ∧ y.cell? ⟨b', o' + k * 5 + 3, none⟩ = some (.slice B2 m2 d2) ∧ y.cell? ⟨b', o' + k * 5 + 4, none⟩ = some (.slice B3 m3 d3)) := Lib.hid fun y hy =>
    ⟨⟨(hy.cell (p := ⟨b, o + k * 5, none⟩) hb).trans g0, (hy.cell (p := ⟨b, o + k * 5 + 1, none⟩) hb).trans g1, (hy.cell (p := ⟨b, o + k * 5 + 2, none⟩) hb).trans g2, (hy.cell (p := ⟨b, o + k * 5 + 3, none⟩) hb).trans g3, (hy.cell (p := ⟨b, o + k * 5 + 4, none⟩) hb).trans g4⟩, (hy.cell (p := ⟨b', o' + k * 5, none⟩) hb').trans f0, (hy.cell (p := ⟨b', o' + k * 5 + 1, none⟩) hb').trans f1, (hy.cell (p := ⟨b', o' + k * 5 + 2, none⟩) hb').trans f2, (hy.cell (p := ⟨b', o' + k * 5 + 3, none⟩) hb').trans f3, (hy.cell (p := ⟨b', o' + k * 5 + 4, none⟩) hb').trans f4⟩
   have HS := Lib.hid fun (y : Bel wr) => y.calls fun W hW => refSame_any (n := ce) (n' := ce) (hC.belowS hW) (hC'.belowS hW) (r := true) (by simp)
   have HC := Lib.hid (fun (W : World) (hW : Below wr.heap.size wr W) => toB (refCmpL_any (hK.mv elPathR_ok (Mv.belowS hW S)) (hK'.mv elPathR_ok (Mv.belowS hW S')) (Lib.hid (cmpL_self Ke))))
   clear g0 g1 g2 g3 g4 f0 f1 f2 f3 f4 hK hK' hC hC' he he' hb hb'
   have g1 : ∀ y : Bel wr, y.w.cell? ⟨b, o + k * 5 + 1, none⟩ = some (.int .i64 ce) := fun y => (KG.out y.w y.b).1.2.1
   have g2 : ∀ y : Bel wr, y.w.cell? ⟨b, o + k * 5 + 2, none⟩ = some (.slice A1 n1 c1) := fun y => (KG.out y.w y.b).1.2.2.1
   have g3 : ∀ y : Bel wr, y.w.cell? ⟨b, o + k * 5 + 3, none⟩ = some (.slice A2 n2 c2) := fun y => (KG.out y.w y.b).1.2.2.2.1
   have g4 : ∀ y : Bel wr, y.w.cell? ⟨b, o + k * 5 + 4, none⟩ = some (.slice A3 n3 c3) := fun y => (KG.out y.w y.b).1.2.2.2.2
   have f1 : ∀ y : Bel wr, y.w.cell? ⟨b', o' + k * 5 + 1, none⟩ = some (.int .i64 ce) := fun y => (KG.out y.w y.b).2.2.1
   have f2 : ∀ y : Bel wr, y.w.cell? ⟨b', o' + k * 5 + 2, none⟩ = some (.slice B1 m1 d1) := fun y => (KG.out y.w y.b).2.2.2.1
   have f3 : ∀ y : Bel wr, y.w.cell? ⟨b', o' + k * 5 + 3, none⟩ = some (.slice B2 m2 d2) := fun y => (KG.out y.w y.b).2.2.2.2.1
   have f4 : ∀ y : Bel wr, y.w.cell? ⟨b', o' + k * 5 + 4, none⟩ = some (.slice B3 m3 d3) := fun y => (KG.out y.w y.b).2.2.2.2.2
   go_wp2_with fail
   refine wp_region_below (by kernel_rfl) (by kernel_rfl) ?_
   repeat (go_big_quiet_step (first | (go_at_call 36; exact HS.out _)))
   refine wpQuiet_nil ?_
   rintro w5 ⟨⟨w5', hb5⟩, e5⟩
   obtain rfl : w5 = w5' := e5
   have HB5 := Lib.hid hb5
   clear g1 g2 g3 g4 f1 f2 f3 f4 hb5 HS
   have g0 : ∀ y : Bel w5, y.w.cell? ⟨b, o + k * 5, none⟩ = some (.slice A0 n0 c0) := fun y => (KG.out y.w (below_then HB5.out y.b)).1.1
   have f0 : ∀ y : Bel w5, y.w.cell? ⟨b', o' + k * 5, none⟩ = some (.slice B0 n0 d0) := fun y => (KG.out y.w (below_then HB5.out y.b)).2.1
   have HC5 := Lib.hid fun (y : Bel w5) => y.calls fun W hW => HC.out W (below_then HB5.out hW)
   go_wp2_with fail
   refine wp_region_below (by kernel_rfl) (by kernel_rfl) ?_
   repeat (go_big_quiet_step (first | (go_at_call 35; exact HC5.out _)))
   refine wpQuiet_nil ?_
   rintro w6 ⟨⟨w6', hb6⟩, e6⟩
   obtain rfl : w6 = w6' := e6
   have HB6 := Lib.hid (below_then HB.out (below_then HB5.out hb6))
   clear g0 f0 hb6 HC5 HC
   go_wp2_with fail
   go_roundw
   case rel => exact ⟨k + 1, by omega, by go_num, HB6.out⟩
   case measure => simp [intOf]; omega
  ·go_wp2_with fail
   go_ret
   exact ⟨rfl, HB.out⟩
end Go.Proofs.YtmepdkdeanbbaaaGreat
