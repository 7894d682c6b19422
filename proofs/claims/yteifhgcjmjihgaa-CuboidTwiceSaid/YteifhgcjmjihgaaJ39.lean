/- CubH, CubI, CubJ, CubL, CubG2 -/
import Derived.Test.YteifhgcjmjihgaaJ1
import Derived.Test.YteifhgcjmjihgaaJ2
import Derived.Test.YteifhgcjmjihgaaJ38
import Derived.Shelf.SlSortCmp.NoneTotal
namespace Go.Proofs.Yteifhgcjmjihgaa
set_option maxRecDepth 100000
open Go.RowKit Go.Maps Go.Sort Go.Shelf
attribute [local go_sem] Oper.semAt_some

set_option maxRecDepth 100000 in
set_option maxHeartbeats 2000000 in
theorem collect_in (n : Nat) (hn : 4 ≤ n) (g : Nat) (lb : Array Value) (eg : ∀ args w, (callFunc g args).run Try.prog w = .ok (.enter g args) w) (S Sp : List (List Int) → Prop) (N : Nat) (hN : N ≤ 1000000) (w : World)
    (hseq : SeqStopsK Fence.wide (n - 1 - 1) Try.prog g lb (fun k => #[kv3 k]) KeepsWalks S Sp N w) :
    CallsIn Fence.wide n Try.prog 60 #[.func (.func g) #[] lb] w fun e w' => ∃ (v : Value) (A : List (List Int)), e = .returned v ∧ S A ∧ w'.ownsRow w.heap.size 57 3 v A.length (A.flatMap kc3) ∧ Below w.heap.size w w' := by
  have h1 : 1 ≤ n := by omega
  refine callsIn_of_wp Try.func60 rfl trivial ?_ rfl
  simp only [Try.ntmps60, List.size_toArray, List.length_cons, List.length_nil, Nat.reduceAdd, Nat.reduceSub, Array.replicate_succ, Array.replicate_zero, List.push_toArray, List.append_toArray, List.nil_append, List.cons_append]
  have hA := appendSeq_in (n - 1) (by omega) g lb eg S Sp N hN w hseq
  have hfn : Fence.wide.fn 70 := trivial
  gi_wp2_with (gi_at_call 70; refine hA.mono ?_; rintro e w' ⟨v, A, rfl, hS, hrow, hb⟩)
  go_ret
  exact ⟨v, A, rfl, hS, hrow, hb⟩
/-- All keys are collected, in some order. -/
theorem collect_any {Wd : Nat} (hW : Wd ≤ 3) {Bm b : Nat} {F : Lit → Option Value} {J : List (List Int)} {w : World} (hm : w.cell? ⟨Bm, 0, none⟩ = some (.map (some b))) (hown : MJ Wd w b F J) (hJ : J.length ≤ 1000000) :
    Calls Try.prog 60 #[.func (.func 62) #[] #[.pointer (some ⟨Bm, 0, none⟩)]] w fun e w' => ∃ (v : Value) (A : List (List Int)), e = .returned v ∧ A.Perm J ∧ w'.ownsRow w.heap.size 57 3 v A.length (A.flatMap kc3) ∧ Below w.heap.size w w' := by
  refine (callsIn_wide (n := 10)).1 ?_
  exact collect_in 10 (by decide) _ _ (enters_of Try.func62 (by kernel_rfl) rfl) _ _ J.length hJ w (keys_stops hW 8 (by decide) Bm b w hm hown)

/-! ### sorted -/
theorem flat3_at (d : List (Int × Int × Int)) (i c : Nat) (hc : c < 3) (x : Int × Int × Int) (hx : d[i]? = some x) : (d.flatMap enc3)[i * 3 + c]? = (enc3 x)[c]? := by
  induction d generalizing i with
  | nil => simp at hx
  | cons a d ih =>
    rw [List.flatMap_cons]
    cases i with
    | zero =>
      simp at hx
      subst hx
      rw [Nat.zero_mul, Nat.zero_add, List.getElem?_append_left (by simpa [enc3] using hc)]
    | succ i =>
      rw [List.getElem?_append_right (by simp [enc3]; omega)]
      have e : (i + 1) * 3 + c - (enc3 a).length = i * 3 + c := by simp [enc3]; omega
      rw [e]
      exact ih i (by simpa using hx)
theorem flat3_len (d : List (Int × Int × Int)) : (d.flatMap enc3).length = d.length * 3 := by
  induction d with
  | nil => rfl
  | cons a d ih => rw [List.flatMap_cons, List.length_append, ih]; simp [enc3]; omega
theorem flatK_is (d : Array (Int × Int × Int)) : flatK enc3 3 d = (d.toList.flatMap enc3).toArray := by
  refine ext_get! (by rw [size_flatK]; show d.size * 3 = (List.flatMap enc3 d.toList).length; rw [flat3_len, Array.length_toList]) fun t ht => ?_
  rw [size_flatK] at ht
  rw [get_flatK _ _ _ t ht]
  have h1 : t / 3 < d.size := by omega
  have h2 : t % 3 < 3 := Nat.mod_lt _ (by decide)
  have hx : d.toList[t / 3]? = some d[t / 3] := by rw [Array.getElem?_toList, Array.getElem?_eq_getElem h1]
  have h3 := flat3_at d.toList (t / 3) (t % 3) h2 _ hx
  rw [show t / 3 * 3 + t % 3 = t from by omega] at h3
  have h4 : t < (d.toList.flatMap enc3).length := by rw [flat3_len]; simpa using ht
  rw [List.getElem?_eq_getElem h4] at h3
  rw [getElem!_pos d _ h1, getElem!_pos (d.toList.flatMap enc3).toArray t (by simpa using h4)]
  have h5 : t % 3 < (enc3 d[t / 3]).length := by simpa [enc3] using h2
  rw [List.getElem?_eq_getElem h5] at h3
  rw [getElem!_pos (enc3 d[t / 3]) _ h5]
  simp only [List.getElem_toArray]
  exact (Option.some.inj h3).symm
theorem kc3_flat (A : List (List Int)) : A.flatMap kc3 = (A.map pad3).flatMap enc3 := by
  rw [List.flatMap_map]
  rfl
/-- A key as an element. -/
def elK : ElT (List Int) := fun _ _ us k => us = kc3 k
theorem elK_ok : elK.Ok := fun _ _ _ _ _ _ _ h => h
theorem below_sorted {B blk m : Nat} {w0 w : World} {d : Array (Int × Int × Int)} {os : Array Obj} (hb : Below B w0 w) (hB : B ≤ blk) (hlt : blk < w.heap.size) : Below B w0 (sortWorldK enc3 3 w blk 0 m d os) := by
  refine ⟨hb.os, hb.tape, hb.output, ?_, fun k hk => ?_⟩
  · show w0.heap.size ≤ (grow (putRowK enc3 3 (Sort.ahead w m) blk 0 d) os).heap.size
    rw [size_grow]
    have h1 : (putRowK enc3 3 (Sort.ahead w m) blk 0 d).heap.size = w.heap.size := by simp [putRowK, putRow, mapBlock, Sort.ahead]
    have := hb.size
    omega
  · show (grow (putRowK enc3 3 (Sort.ahead w m) blk 0 d) os).heap[k]? = _
    have h2 : k < w.heap.size := by omega
    rw [heap_grow_old _ _ (by simpa [putRowK, putRow, mapBlock, Sort.ahead] using h2)]
    have h3 : blk ≠ k := by omega
    simp only [putRowK, putRow, mapBlock, Sort.ahead, Array.getElem?_modify, if_neg h3]
    exact hb.block k hk
set_option maxRecDepth 100000 in
set_option maxHeartbeats 2000000 in
/-- slices.SortFunc of all keys. -/
theorem sortFunc_any {Wd : Nat} (hW : Wd ≤ 3) {C : Cub} {A : List (List Int)} {v : Value} {base : Nat} {w : World} (hC : Ris C) (hK : ∀ e ∈ C, isKey Wd e.1) (hp : A.Perm (C.map (·.1))) (hl : C.length ≤ 1000000) (hr : w.ownsRow base 57 3 v A.length (A.flatMap kc3)) :
    Calls Try.prog 61 #[v, .func (.func 43) #[] #[]] w fun e w' => e = .returned (.tuple #[]) ∧ (∃ AA c, v = .slice AA C.length c ∧ Row elK 3 w' (fun b => base ≤ b) AA C.length c (C.map (·.1))) ∧ Below base w w' := by
  have hlen : A.length = C.length := by have := hp.length_eq; simpa using this
  rcases hr.2 with ⟨rfl, h0⟩ | ⟨g, cap, cur, rfl, hbg, hgg, hnc, hcm, hcs, ht⟩
  · have hc0 : C.length = 0 := by omega
    obtain rfl : C = [] := List.eq_nil_of_length_eq_zero hc0
    refine (AnyF.slices_SortFunc_none (P := Try.prog) (ρ := Try.sortK_ren) { Try.sortK with } none 0 _ w).mono ?_
    rintro e w' ⟨rfl, rfl⟩
    exact ⟨rfl, ⟨none, 0, rfl, Row.none_ _ _⟩, Below.refl _ _⟩
  · have hd : (A.map pad3).toArray.size = A.length := by simp
    have hfl : flatK enc3 3 (A.map pad3).toArray = (A.flatMap kc3).toArray := by rw [flatK_is, kc3_flat]
    have hgl : g < w.heap.size := (Array.getElem?_eq_some_iff.1 hgg).1
    have hH : HoldsK enc3 3 w g 0 (A.map pad3).toArray := by
      unfold HoldsK
      rw [hfl]
      intro j hj
      have hj' : j < (A.flatMap kc3).length := by simpa using hj
      have h1 := hr.cells (g := g) rfl j _ (List.getElem?_eq_getElem hj')
      rw [add_flat] at h1
      refine ⟨?_, ?_⟩
      · rw [h1, getElem!_pos (A.flatMap kc3).toArray j hj]
        simp
      · rw [Nat.zero_add]
        exact World.ownsRow.frozenAt hr j
    have eg : ∀ args w, (callFunc 43 args).run Try.prog w = .ok (.enter 43 args) w := enters_of Try.func43 (by kernel_rfl) rfl
    have hlt3 : ltOf cf3 = lt3 := by
      funext x y
      unfold ltOf cf3 lt3
      rcases hh : lessK (tup3 x) (tup3 y) with _ | _
      · rw [decide_eq_false_iff_not, cmpK_less, hh]; simp
      · rw [decide_eq_true_iff, cmpK_less, hh]
    have hcon := AnyQ.slices_SortFunc Try.sortK 3 Try.isAgg57 Try.sizeOf57 enc3 (fun _ => rfl) (fun x v hv => by simp [enc3] at hv; rcases hv with rfl | rfl | rfl <;> rfl) cf3 (by rw [hlt3]; exact swo3) 43 #[] g 0 cap (A.map pad3).toArray w eg (fun _ _ _ _ x y => keyCmp3 x y _) hH hgl (by rw [hd]; omega)
    change Calls Try.prog 61 _ _ _ at hcon
    rw [hd] at hcon
    refine hcon.mono ?_
    rintro e w' ⟨rfl, d', m, os, h1, h2, rfl⟩
    refine ⟨rfl, ⟨some ⟨g, 0, none⟩, cap, by rw [hlen], ?_⟩, below_sorted (Below.refl _ _) hbg hgl⟩
    have hds : d'.toList = (C.map (·.1)).map pad3 := by
      refine sort_keys hC hK hW hp (d := (A.map pad3).toArray) (by simp) (by rw [hd]; exact h1) ?_
      rw [hd, ← hlt3]
      exact h2
    have hsz : d'.size = (A.map pad3).toArray.size := by
      rw [← Array.length_toList, hds]
      simp
      omega
    have hH' := holdsK_sortWorldK_c enc3 3 w g 0 (A.map pad3).toArray d' m os hH hgl hsz
    unfold HoldsK at hH'
    rw [flatK_is, hds, ← kc3_flat] at hH'
    have hvl : ((C.map (·.1)).flatMap kc3).length = C.length * 3 := by rw [kc3_len]; simp
    refine ⟨by simp, (C.map (·.1)).flatMap kc3, ⟨hvl, by omega, hcm, (fun h => by cases h), fun _ => ⟨g, 0, rfl, hbg, ?_, fun j u hu => ?_⟩⟩, fun i k hi => ?_⟩
    · have := (below_sorted (m := m) (d := d') (os := os) (Below.refl g w) (Nat.le_refl _) hgl).size
      omega
    · have hj := (List.getElem?_eq_some_iff.1 hu).1
      have := (hH' j (by simpa using hj)).1
      rw [this, getElem!_pos _ j (by simpa using hj)]
      rw [List.getElem?_eq_getElem hj] at hu
      simpa using hu
    · show ((List.drop (i * 3) _).take 3) = kc3 k
      apply List.ext_getElem?
      intro c
      rw [List.getElem?_take]
      split
      · rename_i hc
        rw [List.getElem?_drop, kc3_flat]
        rw [flat3_at _ i c hc (pad3 k) (by rw [List.getElem?_map, hi]; rfl)]
        rfl
      · rename_i hc
        rw [List.getElem?_eq_none (by simp [kc3]; omega)]
end Go.Proofs.Yteifhgcjmjihgaa
namespace Go.Proofs.Yteifhgcjmjihgaa
set_option maxRecDepth 100000
open Go.RowKit Go.Maps

/-! ### how many cells there can be -/
theorem nodup_lenN {A : List Nat} {N : Nat} (h : A.Nodup) (hs : ∀ k ∈ A, k < N) : A.length ≤ N := by
  have key : ∀ (A J : List Nat), A.Nodup → (∀ k ∈ A, k ∈ J) → A.length ≤ J.length := by
    intro A
    induction A with
    | nil => intro J _ _; simp
    | cons a A ih =>
      intro J h hs
      obtain ⟨h1, h2⟩ := List.nodup_cons.1 h
      have ha := hs a (by simp)
      have h3 := ih (J.erase a) h2 (fun k hk => (List.mem_erase_of_ne (fun e => h1 (by rw [← e]; exact hk))).2 (hs k (by simp [hk])))
      rw [List.length_erase_of_mem ha] at h3
      have h4 := List.length_pos_of_mem ha
      simp
      omega
  have := key A (List.range N) h (fun k hk => List.mem_range.2 (hs k hk))
  simpa using this
def numK (k : List Int) : Nat := (k.getD 0 0).toNat * 1681 + (k.getD 1 0).toNat * 41 + (k.getD 2 0).toNat
theorem numK_lt {W : Nat} {k : List Int} (h : isKey W k) : numK k < 68921 := by
  have h0 := code_at h 0
  have h1 := code_at h 1
  have h2 := code_at h 2
  unfold numK
  omega
theorem numK_inj {W : Nat} {k j : List Int} (hk : isKey W k) (hj : isKey W j) (hW : W ≤ 3) (e : numK k = numK j) : k = j := by
  have h0 := code_at hk 0
  have h1 := code_at hk 1
  have h2 := code_at hk 2
  have g0 := code_at hj 0
  have g1 := code_at hj 1
  have g2 := code_at hj 2
  unfold numK at e
  refine pad3_inj (hk.1.trans hj.1.symm) (by rw [hk.1]; exact hW) ?_
  unfold pad3
  have e0 : k.getD 0 0 = j.getD 0 0 := by omega
  have e1 : k.getD 1 0 = j.getD 1 0 := by omega
  have e2 : k.getD 2 0 = j.getD 2 0 := by omega
  rw [e0, e1, e2]
theorem keys_len {W : Nat} {J : List (List Int)} (hn : J.Nodup) (hk : ∀ k ∈ J, isKey W k) (hW : W ≤ 3) : J.length ≤ 68921 := by
  have h1 : (J.map numK).Nodup := by
    unfold List.Nodup at hn ⊢
    rw [List.pairwise_map]
    exact List.Pairwise.imp_of_mem (fun {a b} ha hb hne e => hne (numK_inj (hk a ha) (hk b hb) hW e)) hn
  have h2 := nodup_lenN (N := 68921) h1 (fun x hx => by
    obtain ⟨k, hk', rfl⟩ := List.mem_map.1 hx
    exact numK_lt (hk k hk'))
  simpa using h2

/-! ### cells under their keys -/
theorem MapJ.perm {K : TypeId} {kv : List Int → Value} {W b : Nat} {w : World} {F : Lit → Option Value} {J J' : List (List Int)} (h : MapJ K kv W w b F J) (hp : J.Perm J') : MapJ K kv W w b F J' :=
  ⟨hp.length_eq ▸ h.map, hp.nodup_iff.1 h.nodup, fun k hk => h.key k (hp.mem_iff.2 hk), fun k kl hk e => (h.has k kl hk e).trans hp.mem_iff, h.back⟩
/-- Block b is a map of the cells C, as they are kept, under their keys of W codes. -/
def MapK (W : Nat) (w : World) (b : Nat) (C : Cub) : Prop := ∃ F, MJ W w b F (C.map (·.1)) ∧ ∀ k kl, isKey W k → keyOf Try.prog 57 (kv3 k) = some kl → F kl = (getK C k).map keptV
section
variable {w w' : World} {W b : Nat} {C : Cub}
theorem MapK.lt (h : MapK W w b C) : b < w.heap.size := by obtain ⟨F, h1, _⟩ := h; exact h1.lt
theorem MapK.same (h : MapK W w b C) (hb : w'.heap[b]? = w.heap[b]?) : MapK W w' b C := by
  obtain ⟨F, h1, h2⟩ := h
  exact ⟨F, h1.same hb, h2⟩
theorem MapK.below {D : Nat} (h : MapK W w b C) (hb : Below D w w') (hD : b < D) : MapK W w' b C := h.same (hb.block b hD)
theorem MapK.kept {row : Option Nat} (h : MapK W w b C) (hg : w.grownBy w' row) (hne : some b ≠ row) : MapK W w' b C := h.same (hg.block b h.lt hne)
theorem MapK.alloc (h : MapK W w b C) (o : Obj) : MapK W (w.alloc o) b C := h.below (below_a1 w o) h.lt
theorem MapK.drewN (h : MapK W w b C) (k : Nat) : MapK W (w.drewN k) b C := h.same rfl
theorem MapK.made (w : World) : MapK W (w.alloc (.map #[] 0)) w.heap.size [] := ⟨_, MapJ.made w, fun _ _ _ _ => rfl⟩
theorem MapK.is_map (h : MapK W w b C) : ∃ es clock, w.heap[b]? = some (.map es clock) := by
  obtain ⟨F, h1, _⟩ := h
  exact h1.map.is_map
theorem setK_keys (hC : Ris C) (k : List Int) (x : PC) : (putJ (C.map (·.1)) k).Perm ((setK C k x).map (·.1)) := by
  refine (List.perm_ext_iff_of_nodup (putJ_nodup (keys_nodup hC)) (keys_nodup (setK_ris hC k x))).2 fun j => ?_
  rw [mem_putJ]
  have e1 : ∀ (D : Cub), j ∈ D.map (·.1) ↔ getK D j ≠ none := fun D => by
    rw [Ne, getK_none]
    exact Classical.not_not.symm
  rw [e1, e1, getK_setK]
  by_cases h : j = k
  · simp [h]
  · simp [h]
/-- 'x, ok := m[k]', 'm[k]'. -/
theorem MapK.look {t : TypeId} {z : Value} (h : MapK W w b C) (hW : W ≤ 3) (ht : Try.prog.underlying t = some (.map 57 63)) (hz : (zeroValue 63).run Try.prog w = .ok z w) {k : List Int} (hk : isKey W k) :
    (Instr.lookup t (.map (some b)) (kv3 k) true).run Try.prog w = .ok (.tuple #[((getK C k).map keptV).getD z, .bool (getK C k).isSome]) w ∧ (Instr.lookup t (.map (some b)) (kv3 k) false).run Try.prog w = .ok (((getK C k).map keptV).getD z) w := by
  obtain ⟨F, h1, h2⟩ := h
  have T := keyT3 hW
  obtain ⟨kl, hkl⟩ := T.is k hk
  have r1 := h1.map.look T.law ht hz hkl
  have r2 := h1.map.get T.law ht hz hkl
  rw [h2 k kl hk hkl] at r1 r2
  exact ⟨by rw [r1]; simp, r2⟩
/-- 'm[k] = x'. -/
theorem MapK.store {t : TypeId} {x : PC} (h : MapK W w b C) (hW : W ≤ 3) (ht : Try.prog.underlying t = some (.map 57 63)) (hC : Ris C) (hm : C.length ≤ 1000000) {k : List Int} (hk : isKey W k) :
    ∃ w', (Instr.mapUpdate t (.map (some b)) (kv3 k) (keptV x)).run Try.prog w = .ok () w' ∧ MapK W w' b (setK C k x) ∧ w.grownBy w' (some b) := by
  obtain ⟨F, h1, h2⟩ := h
  have T := keyT3 hW
  obtain ⟨kl, hkl⟩ := T.is k hk
  obtain ⟨w', r1, r2, r3⟩ := h1.store T ht (v := keptV x) (by rw [List.length_map]; unfold maxLen; omega) hk hkl
  refine ⟨w', r1, ⟨_, r2.perm (setK_keys hC k x), fun j jl hj ej => ?_⟩, r3⟩
  rw [getK_setK]
  by_cases hjk : j = k
  · subst hjk
    rw [hkl] at ej
    injection ej with ej
    subst ej
    rw [if_pos rfl, putF_same]
    rfl
  · rw [if_neg hjk, putF_other (fun e2 : jl = kl => hjk (T.one hj hk (e2 ▸ ej) hkl))]
    exact h2 j jl hj ej
/-- 'len(m)'. -/
theorem MapK.len {t e : TypeId} (h : MapK W w b C) (ht : Try.prog.underlying t = some (.map 57 e)) (ty : TypeId) : (Builtin.len_ #[t] ty #[.map (some b)]).run Try.prog w = .ok (.int .i64 C.length) w := by
  obtain ⟨F, h1, _⟩ := h
  rw [h1.map.len ht ty, List.length_map]
end

/-! ### a cuboid -/
/-- Block g is a cuboid of width W and m measures, whose cells C lie in the map of block b. -/
structure Cb (w : World) (g b W m : Nat) (C : Cub) : Prop where
  blk : Block w g 55 #[.int .i64 (W : Int), .int .i64 (m : Int), .map (some b)]
  map : MapK W w b C
  ok : Cuboid W m C
  w1 : 1 ≤ W
  w3 : W ≤ 3
  m1 : 1 ≤ m
  m2 : m ≤ 2
section
variable {w w' : World} {g b W m : Nat} {C : Cub}
theorem Cb.len (h : Cb w g b W m C) : C.length ≤ 68921 := by
  have := keys_len (J := C.map (·.1)) (keys_nodup h.ok.ris) (fun k hk => by
    obtain ⟨e, he, rfl⟩ := List.mem_map.1 hk
    exact h.ok.key e he) h.w3
  simpa using this
theorem Cb.ne (h : Cb w g b W m C) : g ≠ b := fun e => by
  obtain ⟨es, clock, hm⟩ := h.map.is_map
  have h1 : w.heap[g]? = _ := h.blk
  rw [e, hm] at h1
  cases h1
theorem Cb.below {D : Nat} (h : Cb w g b W m C) (hb : Below D w w') (hg : g < D) (hD : b < D) : Cb w' g b W m C := ⟨h.blk.below hb hg, h.map.below hb hD, h.ok, h.w1, h.w3, h.m1, h.m2⟩
theorem Cb.belowS (h : Cb w g b W m C) (hb : Below w.heap.size w w') : Cb w' g b W m C := h.below hb h.blk.lt h.map.lt
theorem Cb.kept {row : Option Nat} (h : Cb w g b W m C) (hr : w.grownBy w' row) (hg : row ≠ some g) (hb : row ≠ some b) : Cb w' g b W m C := ⟨h.blk.grown hr hg, h.map.kept hr (fun e => hb e.symm), h.ok, h.w1, h.w3, h.m1, h.m2⟩
theorem Cb.alloc (h : Cb w g b W m C) (o : Obj) : Cb (w.alloc o) g b W m C := h.belowS (below_a1 w o)
theorem Cb.drewN (h : Cb w g b W m C) (k : Nat) : Cb (w.drewN k) g b W m C := ⟨h.blk.drewN k, h.map.drewN k, h.ok, h.w1, h.w3, h.m1, h.m2⟩
theorem Cb.c0 (h : Cb w g b W m C) : w.cell? ⟨g, 0, none⟩ = some (.int .i64 (W : Int)) := h.blk.cell 0
theorem Cb.c1 (h : Cb w g b W m C) : w.cell? ⟨g, 1, none⟩ = some (.int .i64 (m : Int)) := h.blk.cell 1
theorem Cb.c2 (h : Cb w g b W m C) : w.cell? ⟨g, 2, none⟩ = some (.map (some b)) := h.blk.cell 2
/-- A cell more, in the map. -/
theorem Cb.put {x : PC} {k : List Int} (h : Cb w g b W m C) (hg : w.grownBy w' (some b)) (hm : MapK W w' b (setK C k x)) (hk : isKey W k) (hx : isCell m x) : Cb w' g b W m (setK C k x) :=
  ⟨h.blk.grown hg (fun e => h.ne (Option.some.inj e).symm), hm, h.ok.set_ hk hx, h.w1, h.w3, h.m1, h.m2⟩
end

/-! ### how many, and the keys -/
theorem cubLen_any {w : World} {g b W m : Nat} {C : Cub} (h : Cb w g b W m C) : Calls Try.prog 20 #[.pointer (some ⟨g, 0, none⟩)] w fun e w' => e = .returned (.int .i64 (C.length : Int)) ∧ w = w' := by
  have c2 := h.c2
  have hL := fun ty => h.map.len (t := 53) Try.underlying53 ty
  clear h
  go_enter Try.func20, Try.ntmps20
  go_wp2
  go_ret
  exact ⟨rfl, rfl⟩
theorem mapsKeys_any (mb : Option Nat) (w : World) :
    Calls Try.prog 42 #[.map mb] w fun e w' => e = .returned (.func (.func 62) #[] #[.pointer (some ⟨w.heap.size, 0, none⟩)]) ∧ w' = w.alloc (.cells #[.map mb] 53) := (callsIn_wide (n := 3)).1 (mapsKeys_in 3 mb w)
set_option maxRecDepth 100000 in
set_option maxHeartbeats 1000000 in
theorem sortedFunc_any {Bm b W m : Nat} {C : Cub} {w : World} (hm : w.cell? ⟨Bm, 0, none⟩ = some (.map (some b))) (hmap : MapK W w b C) (hok : Cuboid W m C) (hW : W ≤ 3) (hl : C.length ≤ 1000000) :
    Calls Try.prog 41 #[.func (.func 62) #[] #[.pointer (some ⟨Bm, 0, none⟩)], .func (.func 43) #[] #[]] w fun e w' => (∃ A c, e = .returned (.slice A C.length c) ∧ Row elK 3 w' (fun b => w.heap.size ≤ b) A C.length c (C.map (·.1))) ∧ Below w.heap.size w w' := by
  obtain ⟨F, h1, _⟩ := hmap
  have hc := collect_any hW hm h1 (by rw [List.length_map]; exact hl)
  go_enter Try.func41, Try.ntmps41
  go_wp2_with fail
  refine hc.mono ?_
  rintro e w1 ⟨v, A, rfl, hp, hrow, hb⟩
  have hs := Lib.hid (sortFunc_any hW hok.ris hok.key hp hl hrow)
  clear hc hp hrow h1 hok
  go_wp2_with fail
  refine hs.out.mono ?_
  rintro e w2 ⟨rfl, ⟨AA, c, rfl, hR⟩, hb2⟩
  have hF := Lib.hid (And.intro hR (hb.trans hb2))
  clear hs hR hb hb2
  go_wp2_with fail
  go_ret
  exact ⟨⟨AA, c, rfl, hF.out.1⟩, hF.out.2⟩
set_option maxRecDepth 100000 in
set_option maxHeartbeats 1000000 in
theorem sorted_any {w : World} {g b W m : Nat} {C : Cub} (h : Cb w g b W m C) : Calls Try.prog 23 #[.pointer (some ⟨g, 0, none⟩)] w fun e w' => (∃ A c, e = .returned (.slice A C.length c) ∧ Row elK 3 w' (fun b => w.heap.size ≤ b) A C.length c (C.map (·.1))) ∧ Below w.heap.size w w' := by
  have c2 := h.c2
  have hb1 := below_a1 w (.cells #[.map (some b)] 53)
  have hS := Lib.hid (sortedFunc_any (Bm := w.heap.size) (w := w.alloc (.cells #[.map (some b)] 53)) ((Block.new w _ #[.map (some b)]).cell 0) (h.map.alloc _) h.ok h.w3 (by have := h.len; omega))
  clear h
  go_enter Try.func23, Try.ntmps23
  go_wp2_with fail
  refine (mapsKeys_any _ _).mono ?_
  rintro e w1 ⟨rfl, rfl⟩
  go_wp2_with fail
  refine hS.out.mono ?_
  rintro e w2 ⟨⟨A, c, rfl, hR⟩, hb2⟩
  have hF := Lib.hid (And.intro (hR.mv elK_ok (Mv.to w2 (S' := fun b => w.heap.size ≤ b) fun b hb _ => by rw [World.size_alloc] at hb; omega)) (below_then hb1 hb2))
  clear hS hR hb1 hb2
  go_wp2_with fail
  go_ret
  exact ⟨⟨A, c, rfl, hF.out.1⟩, hF.out.2⟩
end Go.Proofs.Yteifhgcjmjihgaa
namespace Go.Proofs.Yteifhgcjmjihgaa
set_option maxRecDepth 100000
open Go.RowKit Go.Maps

theorem info_cub : (Try.prog.info? 55).map (·.size) = some 3 := by kernel_rfl
theorem info_keyS : (Try.prog.info? 57).map (·.size) = some 3 := by kernel_rfl
theorem new_no {a b : Int} (h : ¬ (1 ≤ a ∧ a ≤ 3 ∧ 1 ≤ b ∧ b ≤ 2)) (w : World) : Calls Try.prog 11 #[.int .i64 a, .int .i64 b] w fun e w' => e = .returned (.pointer none) ∧ w = w' := by
  by_cases h1 : a < 1
  · go_enter Try.func11, Try.ntmps11
    go_wp2
    go_ret
    exact ⟨rfl, rfl⟩
  · by_cases h2 : 3 < a
    · go_enter Try.func11, Try.ntmps11
      go_wp2
      go_ret
      exact ⟨rfl, rfl⟩
    · by_cases h3 : b < 1
      · go_enter Try.func11, Try.ntmps11
        go_wp2
        go_ret
        exact ⟨rfl, rfl⟩
      · have h4 : 2 < b := by omega
        clear h
        go_enter Try.func11, Try.ntmps11
        go_wp2
        go_ret
        exact ⟨rfl, rfl⟩
set_option maxRecDepth 100000 in
/-- What a call tells that tells a new cuboid. -/
def TellN (w : World) (W m : Nat) (C : Cub) (v : Value) (w' : World) : Prop := ∃ g b, v = .pointer (some ⟨g, 0, none⟩) ∧ Cb w' g b W m C ∧ w.heap.size ≤ g ∧ w.heap.size ≤ b
set_option maxRecDepth 100000 in
theorem new_yes {W m : Nat} (h1 : 1 ≤ W) (h2 : W ≤ 3) (h3 : 1 ≤ m) (h4 : m ≤ 2) (w : World) : Calls Try.prog 11 #[.int .i64 (W : Int), .int .i64 (m : Int)] w fun e w' => (∃ v, e = .returned v ∧ TellN w W m [] v w') ∧ Below w.heap.size w w' := by
  have i1 : ¬ (W : Int) < 1 := by omega
  have i2 : ¬ 3 < (W : Int) := by omega
  have i3 : ¬ (m : Int) < 1 := by omega
  have i4 : ¬ 2 < (m : Int) := by omega
  have hmk : (Instr.makeMap 53 none).run Try.prog w = .ok (.map (some w.heap.size)) (w.alloc (.map #[] 0)) := run_makeMap _ w
  have hF := Lib.hid (show TellN w W m [] (.pointer (some ⟨w.heap.size + 1, 0, none⟩)) ((w.alloc (.map #[] 0)).alloc (.cells #[.int .i64 (W : Int), .int .i64 (m : Int), .map (some w.heap.size)] 55)) from
    ⟨_, _, rfl, ⟨by have := Block.new (w.alloc (.map #[] 0)) 55 #[.int .i64 (W : Int), .int .i64 (m : Int), .map (some w.heap.size)]; rwa [World.size_alloc] at this, (MapK.made w).alloc _, Cuboid.nil_ _ _, h1, h2, h3, h4⟩, by omega, by omega⟩)
  have hB := Lib.hid (below_a2 w (.map #[] 0) (.cells #[.int .i64 (W : Int), .int .i64 (m : Int), .map (some w.heap.size)] 55))
  clear h1 h2 h3 h4
  go_enter Try.func11, Try.ntmps11
  go_wp2
  go_ret
  exact ⟨⟨_, rfl, hF.out⟩, hB.out⟩

/-! ### keyOf -/
set_option maxRecDepth 100000 in
set_option maxHeartbeats 1000000 in
theorem keyOf_no {w : World} {g : Nat} {W n c : Nat} {A : Option Addr} {L : List Int} (hc : w.cell? ⟨g, 0, none⟩ = some (.int .i64 (W : Int))) (h : HasI w w.heap.size A n c L) (hk : ¬ isKey W L) :
    Calls Try.prog 25 #[.pointer (some ⟨g, 0, none⟩), .slice A n c] w fun e w' => e = .returned (.tuple #[.agg #[.int .i64 0, .int .i64 0, .int .i64 0], .bool false]) ∧ Below w.heap.size w w' := by
  have hgl : g < w.heap.size := World.block_lt_of_cell? w _ hc
  have hb1 := below_a1 w (.cells #[.int .i64 0, .int .i64 0, .int .i64 0] 57)
  have hc1 := (hb1.cell (p := ⟨g, 0, none⟩) hgl).trans hc
  have hR := Block.new w 57 #[.int .i64 0, .int .i64 0, .int .i64 0]
  have h1 := h.belowS hb1
  have hl := h.len
  have hcon := Lib.hid (containsC_any h1)
  rw [isKey_iff] at hk
  clear h h1 hc
  by_cases hw : (n : Int) = (W : Int)
  · have hx : L.any badC = true := by
      rcases hh : L.any badC with _ | _
      · exact absurd ⟨by omega, hh⟩ hk
      · rfl
    have HX := Lib.hid hx
    have hne : ((n : Int) != (W : Int)) = false := by simp [hw]
    clear hx hk hw
    go_enter Try.func25, Try.ntmps25
    go_wp2_with fail
    generalize w.alloc (.cells #[.int .i64 0, .int .i64 0, .int .i64 0] 57) = w1 at hb1 hc1 hR hcon ⊢
    have r0 : w1.cell? ⟨w.heap.size, 0, none⟩ = some (.int .i64 0) := hR.cell 0
    have r1 : w1.cell? ⟨w.heap.size, 1, none⟩ = some (.int .i64 0) := hR.cell 1
    have r2 : w1.cell? ⟨w.heap.size, 2, none⟩ = some (.int .i64 0) := hR.cell 2
    have f0 := hR.free 0
    have f1 := hR.free 1
    have f2 := hR.free 2
    have HR := Lib.hid (hR.put3_ (.int .i64 0) (.int .i64 0) (.int .i64 0))
    have HB := Lib.hid (below_put3 hb1 (Nat.le_refl _) (.int .i64 0) (.int .i64 0) (.int .i64 0))
    clear hR hb1
    refine hcon.out.mono ?_
    rintro e v ⟨rfl, rfl⟩
    rw [HX.out]
    go_wp2_with fail
    refine bodyPost_ret (results_block2 rfl _ _ w.heap.size _ _ rfl HR.out Try.underlying57 rfl info_keyS) rfl ?_
    exact ⟨rfl, HB.out⟩
  · have hne : ((n : Int) != (W : Int)) = true := by simpa using hw
    have HR := Lib.hid hR
    have HB := Lib.hid hb1
    clear hk hw hR hb1
    go_enter Try.func25, Try.ntmps25
    go_wp2_with fail
    refine bodyPost_ret (results_block2 rfl _ _ w.heap.size _ _ rfl HR.out Try.underlying57 rfl info_keyS) rfl ?_
    exact ⟨rfl, HB.out⟩
theorem kc3_splice (l : List Int) : splice [.int .i64 0, .int .i64 0, .int .i64 0] 0 ((l.take 3).map i64v) = kc3 l := by
  match l with
  | [] => rfl
  | [_] => rfl
  | [_, _] => rfl
  | _ :: _ :: _ :: _ => rfl
theorem kv3_is (k : List Int) : kv3 k = .agg (kc3 k).toArray := rfl
set_option maxRecDepth 100000 in
set_option maxHeartbeats 1000000 in
theorem keyOf_yes {w : World} {g : Nat} {W n c : Nat} {A : Option Addr} {L : List Int} (hc : w.cell? ⟨g, 0, none⟩ = some (.int .i64 (W : Int))) (h : HasI w w.heap.size A n c L) (hk : isKey W L) :
    Calls Try.prog 25 #[.pointer (some ⟨g, 0, none⟩), .slice A n c] w fun e w' => e = .returned (.tuple #[kv3 L, .bool true]) ∧ Below w.heap.size w w' := by
  obtain ⟨x, y, z, hxyz⟩ : ∃ x y z, Hid (L.getD 0 0 = x ∧ L.getD 1 0 = y ∧ L.getD 2 0 = z) := ⟨_, _, _, Lib.hid ⟨rfl, rfl, rfl⟩⟩
  have ek : Hid (kv3 L = .agg #[.int .i64 x, .int .i64 y, .int .i64 z]) := Lib.hid (by unfold kv3; rw [hxyz.out.1, hxyz.out.2.1, hxyz.out.2.2])
  have ec : Hid (kc3 L = [.int .i64 x, .int .i64 y, .int .i64 z]) := Lib.hid (by unfold kc3; rw [hxyz.out.1, hxyz.out.2.1, hxyz.out.2.2])
  have hgl : g < w.heap.size := World.block_lt_of_cell? w _ hc
  have hl := h.len
  have hb1 := below_a1 w (.cells #[.int .i64 0, .int .i64 0, .int .i64 0] 57)
  have hc1 := (hb1.cell (p := ⟨g, 0, none⟩) hgl).trans hc
  have hR := Block.new w 57 #[.int .i64 0, .int .i64 0, .int .i64 0]
  have h1 := h.belowS hb1
  have hcon := Lib.hid (containsC_any h1)
  rw [isKey_iff] at hk
  have HX := Lib.hid hk.2
  have hnW : (n : Int) = (W : Int) := by omega
  have hne : ((n : Int) != (W : Int)) = false := by simp [hnW]
  obtain ⟨cs, hcs⟩ : ∃ cs, Hid ((L.take 3).map i64v = cs) := ⟨_, Lib.hid rfl⟩
  have hn : Hid (cs.length = Nat.min n 3) := Lib.hid (by rw [← hcs.out, List.length_map, List.length_take, h.len, Nat.min_comm])
  have hsp : Hid (splice [.int .i64 0, .int .i64 0, .int .i64 0] 0 cs = [.int .i64 x, .int .i64 y, .int .i64 z]) := Lib.hid (by rw [← hcs.out, kc3_splice, ec.out])
  have hfit : Hid (0 + cs.length ≤ ([.int .i64 0, .int .i64 0, .int .i64 0] : List Value).length) := Lib.hid (by rw [hn.out]; have := Nat.min_le_right n 3; simp; exact this)
  have hone : Hid (∀ v ∈ cs, v.oneCell' = true) := Lib.hid (by rw [← hcs.out]; exact i64v_one _)
  have HH := Lib.hid h1
  clear h h1 hc hk hnW
  go_enter Try.func25, Try.ntmps25
  go_wp2_with fail
  generalize w.alloc (.cells #[.int .i64 0, .int .i64 0, .int .i64 0] 57) = w1 at hb1 hc1 hR hcon HH ⊢
  refine hcon.out.mono ?_
  rintro e v ⟨rfl, rfl⟩
  rw [HX.out]
  have hbx := below_a1 w1 (.cells #[.int .i64 0, .int .i64 0, .int .i64 0] 57)
  have hb2 := below_then hb1 hbx
  have hG : (w1.alloc (.cells #[.int .i64 0, .int .i64 0, .int .i64 0] 57)).heap[w1.heap.size]? = some (.cells ([.int .i64 0, .int .i64 0, .int .i64 0] : List Value).toArray 57 (0, 0)) := Block.new w1 57 #[.int .i64 0, .int .i64 0, .int .i64 0]
  have hR2 := hR.alloc (.cells #[.int .i64 0, .int .i64 0, .int .i64 0] 57)
  have hwl := hR.lt
  have hpos : Hid (0 < cs.length → ∃ ad, A = some ad ∧ ∀ j v, cs[j]? = some v → (w1.alloc (.cells #[.int .i64 0, .int .i64 0, .int .i64 0] 57)).cell? (ad.add j) = some v) := Lib.hid fun h0 => by
    have hl : 0 < (L.map i64v).length := by
      rw [← hcs.out] at h0
      simp at h0 ⊢
      omega
    obtain ⟨b, o, e, _, hc⟩ := (HH.out.belowS hbx).has hl
    refine ⟨_, e, fun j v hv => ?_⟩
    rw [add_flat]
    refine hc j v ?_
    rw [← hcs.out, List.map_take, List.getElem?_take] at hv
    split at hv
    · exact hv
    · cases hv
  have HGG := Lib.hid hG
  clear hbx hb1 hR hcon HH hG
  go_wp2_with (refine wpList_copy_splice (o := ⟨some 21, _, _, _, _, _⟩) rfl _ _ 33 33 rfl 3 Try.underlying33 info_intK _ A 3 3 n c rfl rfl w1.heap.size 0 [.int .i64 0, .int .i64 0, .int .i64 0] 57 HGG.out cs hn.out (fun h0 => ⟨rfl, hpos.out h0⟩) hfit.out hone.out w1.heap.size _ (Below.refl _ _) (Nat.le_refl _) ?_)
  intro w2 HG2 hB2
  have hG2 : Block w2 w1.heap.size 57 #[.int .i64 x, .int .i64 y, .int .i64 z] := by
    have := HG2.out
    rw [hsp.out] at this
    exact this
  have hR3 := hR2.below hB2 hwl
  have hbe := hb2.trans (hB2.mono (by omega))
  have a0 : w2.cell? ⟨w1.heap.size, 0, none⟩ = some (.int .i64 x) := hG2.cell 0
  have a1 : w2.cell? ⟨w1.heap.size, 1, none⟩ = some (.int .i64 y) := hG2.cell 1
  have a2 : w2.cell? ⟨w1.heap.size, 2, none⟩ = some (.int .i64 z) := hG2.cell 2
  have r0 : w2.cell? ⟨w.heap.size, 0, none⟩ = some (.int .i64 0) := hR3.cell 0
  have r1 : w2.cell? ⟨w.heap.size, 1, none⟩ = some (.int .i64 0) := hR3.cell 1
  have r2 : w2.cell? ⟨w.heap.size, 2, none⟩ = some (.int .i64 0) := hR3.cell 2
  have f0 := hR3.free 0
  have f1 := hR3.free 1
  have f2 := hR3.free 2
  have HR := Lib.hid (hR3.put3_ (.int .i64 x) (.int .i64 y) (.int .i64 z))
  have HB := Lib.hid (below_put3 hbe (Nat.le_refl _) (.int .i64 x) (.int .i64 y) (.int .i64 z))
  clear HG2 hG2 hR2 hR3 hbe hB2 hb2 hn hsp hfit hone hpos
  go_wp2_with fail
  refine bodyPost_ret (results_block2 rfl _ _ w.heap.size _ _ rfl HR.out Try.underlying57 rfl info_keyS) rfl ?_
  exact ⟨by rw [ek.out]; rfl, HB.out⟩
end Go.Proofs.Yteifhgcjmjihgaa
namespace Go.Proofs.Yteifhgcjmjihgaa
set_option maxRecDepth 100000
open Go.RowKit Go.Maps

theorem kept_zero (w : World) : (zeroValue 63).run Try.prog w = .ok (.agg #[.int .i64 0, .int .i64 0, .int .i64 0, .int .i64 0, .int .i64 0, .int .i64 0, .int .i64 0]) w := Try.zeroValue63 w
theorem kv3_letters (k : List Int) : ∃ x y z, Hid (kv3 k = .agg #[.int .i64 x, .int .i64 y, .int .i64 z]) := ⟨_, _, _, Lib.hid rfl⟩
theorem kept_letters (x : PC) : ∃ n a b c d e f, Hid (keptV x = .agg #[.int .i64 n, .int .i64 a, .int .i64 b, .int .i64 c, .int .i64 d, .int .i64 e, .int .i64 f]) ∧ Hid (n = x.1) ∧ Hid (∀ m, isCell m x → [a, b].take m = x.2.1 ∧ [c, d].take m = x.2.2.1 ∧ [e, f].take m = x.2.2.2) := by
  refine ⟨_, _, _, _, _, _, _, Lib.hid rfl, Lib.hid rfl, Lib.hid fun m h => ?_⟩
  obtain ⟨⟨h1, h2, h3, _⟩, _, h4⟩ := h
  exact ⟨two_take h4 (by omega), two_take (by omega) (by omega), two_take (by omega) (by omega)⟩
set_option maxRecDepth 100000 in
set_option maxHeartbeats 2000000 in
theorem at_no {w : World} {g b W m : Nat} {C : Cub} {k : List Int} (h : Cb w g b W m C) (hk : isKey W k) (hn : getK C k = none) :
    Calls Try.prog 26 #[.pointer (some ⟨g, 0, none⟩), kv3 k] w fun e w' => e = .returned (.tuple #[.agg #[.int .i64 0, .slice none 0 0, .slice none 0 0, .slice none 0 0], .bool false]) ∧ Below w.heap.size w w' := by
  obtain ⟨x, y9, z, hxyz⟩ := kv3_letters k
  have hb2 := below_a2 w (.cells #[.int .i64 x, .int .i64 y9, .int .i64 z] 57) (.cells #[.int .i64 0, .slice none 0 0, .slice none 0 0, .slice none 0 0] 42)
  have h2 := h.belowS hb2
  have hB1 := (Block.new w 57 #[.int .i64 x, .int .i64 y9, .int .i64 z]).alloc (.cells #[.int .i64 0, .slice none 0 0, .slice none 0 0, .slice none 0 0] 42)
  have hB2 := Block.new (w.alloc (.cells #[.int .i64 x, .int .i64 y9, .int .i64 z] 57)) 42 #[.int .i64 0, .slice none 0 0, .slice none 0 0, .slice none 0 0]
  rw [World.size_alloc] at hB2
  rw [hxyz.out]
  go_enter Try.func26, Try.ntmps26
  go_wp2_with fail
  generalize (w.alloc (.cells #[.int .i64 x, .int .i64 y9, .int .i64 z] 57)).alloc (.cells #[.int .i64 0, .slice none 0 0, .slice none 0 0, .slice none 0 0] 42) = W2 at hb2 h2 hB1 hB2 ⊢
  have K : ∀ y : World, Below W2.heap.size W2 y → y.cell? ⟨g, 2, none⟩ = some (.map (some b)) ∧ y.cell? ⟨w.heap.size, 0, none⟩ = some (.int .i64 x) ∧ y.cell? ⟨w.heap.size, 1, none⟩ = some (.int .i64 y9) ∧ y.cell? ⟨w.heap.size, 2, none⟩ = some (.int .i64 z) ∧
      (Instr.lookup 53 (.map (some b)) (.agg #[.int .i64 x, .int .i64 y9, .int .i64 z]) true).run Try.prog y = .ok (.tuple #[.agg #[.int .i64 0, .int .i64 0, .int .i64 0, .int .i64 0, .int .i64 0, .int .i64 0, .int .i64 0], .bool false]) y := fun y hy => by
    have hB := hB1.below hy hB1.lt
    have hLk := ((h2.belowS hy).map.look h2.w3 (t := 53) Try.underlying53 (kept_zero _) hk).1
    rw [hn, hxyz.out] at hLk
    exact ⟨(h2.belowS hy).c2, hB.cell 0, hB.cell 1, hB.cell 2, hLk⟩
  obtain ⟨p0, p1, p2, p3, p4⟩ := K _ (Below.refl _ W2)
  obtain ⟨q0, q1, q2, q3, q4⟩ := K W2.drew (below_drewN (Below.refl _ W2) 1)
  obtain ⟨o0, o1, o2, o3, o4⟩ := K _ (below_a1 W2 (.cells #[.int .i64 0, .int .i64 0, .int .i64 0, .int .i64 0, .int .i64 0, .int .i64 0, .int .i64 0] 63))
  obtain ⟨s0, s1, s2, s3, s4⟩ := K (W2.alloc (.cells #[.int .i64 0, .int .i64 0, .int .i64 0, .int .i64 0, .int .i64 0, .int .i64 0, .int .i64 0] 63)).drew (below_drewN (below_a1 W2 (.cells #[.int .i64 0, .int .i64 0, .int .i64 0, .int .i64 0, .int .i64 0, .int .i64 0, .int .i64 0] 63)) 1)
  clear K
  have hb3 := below_drewN (below_then hb2 (below_a1 W2 (.cells #[.int .i64 0, .int .i64 0, .int .i64 0, .int .i64 0, .int .i64 0, .int .i64 0, .int .i64 0] 63))) 1
  have hR := (hB2.alloc (.cells #[.int .i64 0, .int .i64 0, .int .i64 0, .int .i64 0, .int .i64 0, .int .i64 0, .int .i64 0] 63)).drewN 1
  clear h h2 hB1 hB2 hb2
  go_region
  all_goals
    have hR : Block (W2.alloc (.cells #[.int .i64 0, .int .i64 0, .int .i64 0, .int .i64 0, .int .i64 0, .int .i64 0, .int .i64 0] 63)).drew (w.heap.size + 1) 42 #[.int .i64 0, .slice none 0 0, .slice none 0 0, .slice none 0 0] := hR
    have hb3 : Below w.heap.size w (W2.alloc (.cells #[.int .i64 0, .int .i64 0, .int .i64 0, .int .i64 0, .int .i64 0, .int .i64 0, .int .i64 0] 63)).drew := hb3
    generalize (W2.alloc (.cells #[.int .i64 0, .int .i64 0, .int .i64 0, .int .i64 0, .int .i64 0, .int .i64 0, .int .i64 0] 63)).drew = W3 at hR hb3 ⊢
    have r0 : W3.cell? ⟨w.heap.size + 1, 0, none⟩ = some (.int .i64 0) := hR.cell 0
    have r1 : W3.cell? ⟨w.heap.size + 1, 1, none⟩ = some (.slice none 0 0) := hR.cell 1
    have r2 : W3.cell? ⟨w.heap.size + 1, 2, none⟩ = some (.slice none 0 0) := hR.cell 2
    have r3 : W3.cell? ⟨w.heap.size + 1, 3, none⟩ = some (.slice none 0 0) := hR.cell 3
    have f0 := hR.free 0
    have f1 := hR.free 1
    have f2 := hR.free 2
    have f3 := hR.free 3
    have HR := Lib.hid (hR.put4_ (.int .i64 0) (.slice none 0 0) (.slice none 0 0) (.slice none 0 0))
    have HB := Lib.hid (below_put4 (r := w.heap.size + 1) hb3 (Nat.le_succ _) (.int .i64 0) (.slice none 0 0) (.slice none 0 0) (.slice none 0 0))
    clear hR hb3 p0 p1 p2 p3 p4 q0 q1 q2 q3 q4 s0 s1 s2 s3 s4
    go_wp2_with fail
    refine bodyPost_ret (results_block2 rfl _ _ (w.heap.size + 1) _ _ rfl HR.out Try.underlying42 rfl info_cell) rfl ?_
    exact ⟨rfl, HB.out⟩
set_option maxRecDepth 100000 in
set_option maxHeartbeats 2000000 in
theorem at_yes {w : World} {g b W m : Nat} {C : Cub} {k : List Int} {u : PC} (h : Cb w g b W m C) (hk : isKey W k) (hn : getK C k = some u) :
    Calls Try.prog 26 #[.pointer (some ⟨g, 0, none⟩), kv3 k] w fun e w' => (∃ v1 v2 v3, e = .returned (.tuple #[.agg #[.int .i64 u.1, v1, v2, v3], .bool true]) ∧ OwnC w' w.heap.size v1 v2 v3 u.2.1 u.2.2.1 u.2.2.2) ∧ Below w.heap.size w w' := by
  obtain ⟨n, l1, l2, l3, l4, l5, l6, hu, hn1, hl⟩ := kept_letters u
  have HL := Lib.hid (hl.out m (h.ok.cell _ (getK_mem hn)))
  have m1 := h.m1
  have m2 := h.m2
  have hgl := h.blk.lt
  obtain ⟨x, y9, z, hxyz⟩ := kv3_letters k
  have hb2 := below_a2 w (.cells #[.int .i64 x, .int .i64 y9, .int .i64 z] 57) (.cells #[.int .i64 0, .slice none 0 0, .slice none 0 0, .slice none 0 0] 42)
  have h2 := h.belowS hb2
  have hB1 := (Block.new w 57 #[.int .i64 x, .int .i64 y9, .int .i64 z]).alloc (.cells #[.int .i64 0, .slice none 0 0, .slice none 0 0, .slice none 0 0] 42)
  have hB2 := Block.new (w.alloc (.cells #[.int .i64 x, .int .i64 y9, .int .i64 z] 57)) 42 #[.int .i64 0, .slice none 0 0, .slice none 0 0, .slice none 0 0]
  rw [World.size_alloc] at hB2
  rw [hxyz.out]
  go_enter Try.func26, Try.ntmps26
  go_wp2_with fail
  generalize (w.alloc (.cells #[.int .i64 x, .int .i64 y9, .int .i64 z] 57)).alloc (.cells #[.int .i64 0, .slice none 0 0, .slice none 0 0, .slice none 0 0] 42) = W2 at hb2 h2 hB1 hB2 ⊢
  have K : ∀ y : World, Below W2.heap.size W2 y → y.cell? ⟨g, 2, none⟩ = some (.map (some b)) ∧ y.cell? ⟨w.heap.size, 0, none⟩ = some (.int .i64 x) ∧ y.cell? ⟨w.heap.size, 1, none⟩ = some (.int .i64 y9) ∧ y.cell? ⟨w.heap.size, 2, none⟩ = some (.int .i64 z) ∧
      (Instr.lookup 53 (.map (some b)) (.agg #[.int .i64 x, .int .i64 y9, .int .i64 z]) true).run Try.prog y = .ok (.tuple #[.agg #[.int .i64 n, .int .i64 l1, .int .i64 l2, .int .i64 l3, .int .i64 l4, .int .i64 l5, .int .i64 l6], .bool true]) y := fun y hy => by
    have hB := hB1.below hy hB1.lt
    have hLk := ((h2.belowS hy).map.look h2.w3 (t := 53) Try.underlying53 (kept_zero _) hk).1
    rw [hn, hxyz.out] at hLk
    simp only [Option.map_some, Option.getD_some, Option.isSome_some, hu.out] at hLk
    exact ⟨(h2.belowS hy).c2, hB.cell 0, hB.cell 1, hB.cell 2, hLk⟩
  obtain ⟨p0, p1, p2, p3, p4⟩ := K _ (Below.refl _ W2)
  obtain ⟨q0, q1, q2, q3, q4⟩ := K W2.drew (below_drewN (Below.refl _ W2) 1)
  obtain ⟨o0, o1, o2, o3, o4⟩ := K _ (below_a1 W2 (.cells #[.int .i64 0, .int .i64 0, .int .i64 0, .int .i64 0, .int .i64 0, .int .i64 0, .int .i64 0] 63))
  obtain ⟨s0, s1, s2, s3, s4⟩ := K (W2.alloc (.cells #[.int .i64 0, .int .i64 0, .int .i64 0, .int .i64 0, .int .i64 0, .int .i64 0, .int .i64 0] 63)).drew (below_drewN (below_a1 W2 (.cells #[.int .i64 0, .int .i64 0, .int .i64 0, .int .i64 0, .int .i64 0, .int .i64 0, .int .i64 0] 63)) 1)
  clear K
  have hb3 := below_drewN (below_then hb2 (below_a1 W2 (.cells #[.int .i64 n, .int .i64 l1, .int .i64 l2, .int .i64 l3, .int .i64 l4, .int .i64 l5, .int .i64 l6] 63))) 1
  have hR := (hB2.alloc (.cells #[.int .i64 n, .int .i64 l1, .int .i64 l2, .int .i64 l3, .int .i64 l4, .int .i64 l5, .int .i64 l6] 63)).drewN 1
  have hc1 := (h2.alloc (.cells #[.int .i64 n, .int .i64 l1, .int .i64 l2, .int .i64 l3, .int .i64 l4, .int .i64 l5, .int .i64 l6] 63)).drewN 1
  have hX := (Block.new W2 63 #[.int .i64 n, .int .i64 l1, .int .i64 l2, .int .i64 l3, .int .i64 l4, .int .i64 l5, .int .i64 l6]).drewN 1
  have hlt := hB2.lt
  clear h h2 hB1 hB2 hb2 hn
  go_region
  all_goals
    have hR : Block (W2.alloc (.cells #[.int .i64 n, .int .i64 l1, .int .i64 l2, .int .i64 l3, .int .i64 l4, .int .i64 l5, .int .i64 l6] 63)).drew (w.heap.size + 1) 42 #[.int .i64 0, .slice none 0 0, .slice none 0 0, .slice none 0 0] := hR
    have hX : Block (W2.alloc (.cells #[.int .i64 n, .int .i64 l1, .int .i64 l2, .int .i64 l3, .int .i64 l4, .int .i64 l5, .int .i64 l6] 63)).drew W2.heap.size 63 #[.int .i64 n, .int .i64 l1, .int .i64 l2, .int .i64 l3, .int .i64 l4, .int .i64 l5, .int .i64 l6] := hX
    have hc1 : Cb (W2.alloc (.cells #[.int .i64 n, .int .i64 l1, .int .i64 l2, .int .i64 l3, .int .i64 l4, .int .i64 l5, .int .i64 l6] 63)).drew g b W m C := hc1
    have hb3 : Below w.heap.size w (W2.alloc (.cells #[.int .i64 n, .int .i64 l1, .int .i64 l2, .int .i64 l3, .int .i64 l4, .int .i64 l5, .int .i64 l6] 63)).drew := hb3
    generalize (W2.alloc (.cells #[.int .i64 n, .int .i64 l1, .int .i64 l2, .int .i64 l3, .int .i64 l4, .int .i64 l5, .int .i64 l6] 63)).drew = W3 at hR hX hc1 hb3 ⊢
    have x0 : W3.cell? ⟨W2.heap.size, 0, none⟩ = some (.int .i64 n) := hX.cell 0
    have x1 : W3.cell? ⟨W2.heap.size, 1, none⟩ = some (.int .i64 l1) := hX.cell 1
    have x2 : W3.cell? ⟨W2.heap.size, 2, none⟩ = some (.int .i64 l2) := hX.cell 2
    have x3 : W3.cell? ⟨W2.heap.size, 3, none⟩ = some (.int .i64 l3) := hX.cell 3
    have x4 : W3.cell? ⟨W2.heap.size, 4, none⟩ = some (.int .i64 l4) := hX.cell 4
    have x5 : W3.cell? ⟨W2.heap.size, 5, none⟩ = some (.int .i64 l5) := hX.cell 5
    have x6 : W3.cell? ⟨W2.heap.size, 6, none⟩ = some (.int .i64 l6) := hX.cell 6
    have c1 := hc1.c1
    have hXl := hX.lt
    have hRl := hR.lt
    have K : Hid (∀ y, Below W3.heap.size W3 y → y.cell? ⟨W2.heap.size, 0, none⟩ = some (.int .i64 n) ∧ y.cell? ⟨W2.heap.size, 1, none⟩ = some (.int .i64 l1) ∧ y.cell? ⟨W2.heap.size, 2, none⟩ = some (.int .i64 l2) ∧ y.cell? ⟨W2.heap.size, 3, none⟩ = some (.int .i64 l3) ∧ y.cell? ⟨W2.heap.size, 4, none⟩ = some (.int .i64 l4) ∧ y.cell? ⟨W2.heap.size, 5, none⟩ = some (.int .i64 l5) ∧ y.cell? ⟨W2.heap.size, 6, none⟩ = some (.int .i64 l6) ∧ y.cell? ⟨g, 1, none⟩ = some (.int .i64 (m : Int))) := Lib.hid fun y hy => by
      have hY := hX.below hy hXl
      exact ⟨hY.cell 0, hY.cell 1, hY.cell 2, hY.cell 3, hY.cell 4, hY.cell 5, hY.cell 6, (hc1.belowS hy).c1⟩
    have hg9 : W2.heap.size ≠ w.heap.size + 1 := by omega
    have hg8 : g ≠ w.heap.size + 1 := by omega
    have K2 : Hid (∀ y a b c d, Below W3.heap.size W3 y → (put4 y (w.heap.size + 1) a b c d).cell? ⟨W2.heap.size, 0, none⟩ = some (.int .i64 n) ∧ (put4 y (w.heap.size + 1) a b c d).cell? ⟨W2.heap.size, 1, none⟩ = some (.int .i64 l1) ∧ (put4 y (w.heap.size + 1) a b c d).cell? ⟨W2.heap.size, 2, none⟩ = some (.int .i64 l2) ∧ (put4 y (w.heap.size + 1) a b c d).cell? ⟨W2.heap.size, 3, none⟩ = some (.int .i64 l3) ∧ (put4 y (w.heap.size + 1) a b c d).cell? ⟨W2.heap.size, 4, none⟩ = some (.int .i64 l4) ∧ (put4 y (w.heap.size + 1) a b c d).cell? ⟨W2.heap.size, 5, none⟩ = some (.int .i64 l5) ∧ (put4 y (w.heap.size + 1) a b c d).cell? ⟨W2.heap.size, 6, none⟩ = some (.int .i64 l6) ∧ (put4 y (w.heap.size + 1) a b c d).cell? ⟨g, 1, none⟩ = some (.int .i64 (m : Int))) := Lib.hid fun y a b c d hy => by
      have hY := hX.below hy hXl
      have hZ := (((hY.elsewhere (w.heap.size + 1) 0 a hg9.symm).elsewhere (w.heap.size + 1) 1 b hg9.symm).elsewhere (w.heap.size + 1) 2 c hg9.symm).elsewhere (w.heap.size + 1) 3 d hg9.symm
      have hV := (((((hc1.belowS hy).blk.elsewhere (w.heap.size + 1) 0 a hg8.symm).elsewhere (w.heap.size + 1) 1 b hg8.symm).elsewhere (w.heap.size + 1) 2 c hg8.symm).elsewhere (w.heap.size + 1) 3 d hg8.symm)
      exact ⟨hZ.cell 0, hZ.cell 1, hZ.cell 2, hZ.cell 3, hZ.cell 4, hZ.cell 5, hZ.cell 6, hV.cell 1⟩
    have HR1 : Hid (∀ y, Below W3.heap.size W3 y → Block y (w.heap.size + 1) 42 #[.int .i64 0, .slice none 0 0, .slice none 0 0, .slice none 0 0]) := Lib.hid fun y hy => hR.below hy hRl
    have hfu := Lib.hid (full_any (n := n) (a := l1) (b := l2) (c := l3) (d := l4) (e := l5) (f := l6) (w := W3.drew) (show 0 < m by omega) m2)
    have HC := Lib.hid (hc1.belowS (w' := W3.drew) (below_drewN (Below.refl _ W3) 1))
    clear hX hc1 hR p0 p1 p2 p3 p4 q0 q1 q2 q3 q4 s0 s1 s2 s3 s4
    go_wp2_with fail
    go_region_held3 (fun w' => w'.cell? ⟨W2.heap.size, 0, none⟩ = some (.int .i64 n) ∧ w'.cell? ⟨W2.heap.size, 1, none⟩ = some (.int .i64 l1) ∧ w'.cell? ⟨W2.heap.size, 2, none⟩ = some (.int .i64 l2) ∧ w'.cell? ⟨W2.heap.size, 3, none⟩ = some (.int .i64 l3) ∧ w'.cell? ⟨W2.heap.size, 4, none⟩ = some (.int .i64 l4) ∧ w'.cell? ⟨W2.heap.size, 5, none⟩ = some (.int .i64 l5) ∧ w'.cell? ⟨W2.heap.size, 6, none⟩ = some (.int .i64 l6) ∧ w'.cell? ⟨g, 1, none⟩ = some (.int .i64 (m : Int)))
      (first
        | go_keep
        | exact K.out _ hBB1
        | exact K2.out _ _ _ _ _ hBB1)
      (first
        | (go_at_call 35; refine hfu.out.mono ?_; rintro e w1 ⟨v1, v2, v3, rfl, hO, hB1⟩; have hBB1 : Below W3.heap.size W3 w1 := ((below_drewN (Below.refl _ W3) 1).trans hB1); obtain ⟨A1, n1, c1', A2, n2, c2', A3, n3, c3', rfl, rfl, rfl, _⟩ := hO.form; have hr1 := HR1.out _ hBB1; have d0 : w1.cell? ⟨w.heap.size + 1, 0, none⟩ = some (.int .i64 0) := hr1.cell 0; have d1 : w1.cell? ⟨w.heap.size + 1, 1, none⟩ = some (.slice none 0 0) := hr1.cell 1; have d2 : w1.cell? ⟨w.heap.size + 1, 2, none⟩ = some (.slice none 0 0) := hr1.cell 2; have d3 : w1.cell? ⟨w.heap.size + 1, 3, none⟩ = some (.slice none 0 0) := hr1.cell 3; have f0 := hr1.free 0; have f1 := hr1.free 1; have f2 := hr1.free 2; have f3 := hr1.free 3))
    have hr1 := HR1.out _ hBB1
    have hO' : OwnC w1 W3.heap.size (.slice A1 n1 c1') (.slice A2 n2 c2') (.slice A3 n3 c3') ([l1, l2].take m) ([l3, l4].take m) ([l5, l6].take m) := hO
    rw [HL.out.1, HL.out.2.1, HL.out.2.2] at hO'
    have hR := Lib.hid (hr1.put4_ (.int .i64 n) (.slice A1 n1 c1') (.slice A2 n2 c2') (.slice A3 n3 c3'))
    have hF := Lib.hid (OwnC.put4_ (r := w.heap.size + 1) hO' hRl (.int .i64 n) (.slice A1 n1 c1') (.slice A2 n2 c2') (.slice A3 n3 c3'))
    have hG := Lib.hid (below_put4 (r := w.heap.size + 1) (below_then hb3 hBB1) (Nat.le_succ _) (.int .i64 n) (.slice A1 n1 c1') (.slice A2 n2 c2') (.slice A3 n3 c3'))
    have hs3 := hb3.size
    clear hO hO' hB1 hBB1 hr1 d0 d1 d2 d3 f0 f1 f2 f3 K K2 HR1 HC hfu c1 x0 x1 x2 x3 x4 x5 x6
    go_wp2_with fail
    refine bodyPost_ret (results_block2 rfl _ _ (w.heap.size + 1) _ _ rfl hR.out Try.underlying42 rfl info_cell) rfl ?_
    exact ⟨⟨_, _, _, by rw [hn1.out]; rfl, ⟨hF.out.s.low hs3, hF.out.m.low hs3, hF.out.x.low hs3⟩⟩, hG.out⟩
end Go.Proofs.Yteifhgcjmjihgaa
namespace Go.Proofs.Yteifhgcjmjihgaa
set_option maxRecDepth 100000
open Go.RowKit Go.Maps

/-- What a call tells that tells a cell, or none. -/
def TellG (w : World) (r : Option PC) (e : Ending) (w' : World) : Prop :=
  (match r with
    | none => e = .returned (.tuple #[.agg #[.int .i64 0, .slice none 0 0, .slice none 0 0, .slice none 0 0], .bool false])
    | some u => ∃ v1 v2 v3, e = .returned (.tuple #[.agg #[.int .i64 u.1, v1, v2, v3], .bool true]) ∧ OwnC w' w.heap.size v1 v2 v3 u.2.1 u.2.2.1 u.2.2.2) ∧ Below w.heap.size w w'
/-- What Get tells. -/
def getC (W : Nat) (C : Cub) (L : List Int) : Option PC := if isKey W L then getK C L else none
set_option maxRecDepth 100000 in
set_option maxHeartbeats 2000000 in
theorem get_any {w : World} {g b W m n c : Nat} {C : Cub} {A : Option Addr} {L : List Int} (h : Cb w g b W m C) (hL : HasI w w.heap.size A n c L) :
    Calls Try.prog 19 #[.pointer (some ⟨g, 0, none⟩), .slice A n c] w (TellG w (getC W C L)) := by
  have hb1 := below_a1 w (.cells #[.int .i64 0, .slice none 0 0, .slice none 0 0, .slice none 0 0] 42)
  have hR := Block.new w 42 #[.int .i64 0, .slice none 0 0, .slice none 0 0, .slice none 0 0]
  have h1 := h.belowS hb1
  have hL1 := hL.belowS hb1
  have hgl := h.blk.lt
  have hW3 := h.w3
  clear hL h
  by_cases hk : isKey W L
  · have hcon := Lib.hid (keyOf_yes h1.c0 hL1 hk)
    obtain ⟨x, y, z, hxyz⟩ := kv3_letters L
    go_enter Try.func19, Try.ntmps19
    go_wp2_with fail
    generalize w.alloc (.cells #[.int .i64 0, .slice none 0 0, .slice none 0 0, .slice none 0 0] 42) = w1 at hb1 h1 hL1 hcon hR ⊢
    refine hcon.out.mono ?_
    rintro e w2 ⟨rfl, hb2⟩
    have hbx := below_then hb2 (below_a1 w2 (.cells #[.int .i64 x, .int .i64 y, .int .i64 z] 57))
    have hb3 := below_then hb1 hbx
    have h3 := h1.belowS hbx
    have hR3 := hR.below hbx hR.lt
    rw [hxyz.out]
    clear hL1 h1 hb1 hbx hb2 hcon hR
    go_wp2_with fail
    generalize w2.alloc (.cells #[.int .i64 x, .int .i64 y, .int .i64 z] 57) = w3 at hb3 h3 hR3 ⊢
    have hRl := hR3.lt
    rcases hu : getK C L with _ | u
    · have HV := Lib.hid (show getC W C L = none by unfold getC; rw [if_pos hk, hu])
      have hat := at_no h3 hk hu
      rw [hxyz.out] at hat
      refine hat.mono ?_
      rintro e w4 ⟨rfl, hb4⟩
      have hR4 := hR3.below hb4 hRl
      have hb := below_then hb3 hb4
      have r0 : w4.cell? ⟨w.heap.size, 0, none⟩ = some (.int .i64 0) := hR4.cell 0
      have r1 : w4.cell? ⟨w.heap.size, 1, none⟩ = some (.slice none 0 0) := hR4.cell 1
      have r2 : w4.cell? ⟨w.heap.size, 2, none⟩ = some (.slice none 0 0) := hR4.cell 2
      have r3 : w4.cell? ⟨w.heap.size, 3, none⟩ = some (.slice none 0 0) := hR4.cell 3
      have f0 := hR4.free 0
      have f1 := hR4.free 1
      have f2 := hR4.free 2
      have f3 := hR4.free 3
      have HR := Lib.hid (hR4.put4_ (.int .i64 0) (.slice none 0 0) (.slice none 0 0) (.slice none 0 0))
      have HB := Lib.hid (below_put4 (r := w.heap.size) hb (Nat.le_refl _) (.int .i64 0) (.slice none 0 0) (.slice none 0 0) (.slice none 0 0))
      clear hR4 hb hb4 hR3 h3 hat hu
      go_wp2_with fail
      refine bodyPost_ret (results_block2 rfl _ _ w.heap.size _ _ rfl HR.out Try.underlying42 rfl info_cell) rfl ?_
      rw [HV.out]
      exact ⟨rfl, HB.out⟩
    · have HV := Lib.hid (show getC W C L = some u by unfold getC; rw [if_pos hk, hu])
      have hat := at_yes h3 hk hu
      rw [hxyz.out] at hat
      refine hat.mono ?_
      rintro e w4 ⟨⟨v1, v2, v3, rfl, hO⟩, hb4⟩
      obtain ⟨A1, n1, c1, A2, n2, c2, A3, n3, c3, rfl, rfl, rfl, _⟩ := hO.form
      have hR4 := hR3.below hb4 hRl
      have hb := below_then hb3 hb4
      have r0 : w4.cell? ⟨w.heap.size, 0, none⟩ = some (.int .i64 0) := hR4.cell 0
      have r1 : w4.cell? ⟨w.heap.size, 1, none⟩ = some (.slice none 0 0) := hR4.cell 1
      have r2 : w4.cell? ⟨w.heap.size, 2, none⟩ = some (.slice none 0 0) := hR4.cell 2
      have r3 : w4.cell? ⟨w.heap.size, 3, none⟩ = some (.slice none 0 0) := hR4.cell 3
      have f0 := hR4.free 0
      have f1 := hR4.free 1
      have f2 := hR4.free 2
      have f3 := hR4.free 3
      obtain ⟨q, hq⟩ : ∃ q, Hid (u.1 = q) := ⟨_, Lib.hid rfl⟩
      rw [hq.out]
      have HR := Lib.hid (hR4.put4_ (.int .i64 q) (.slice A1 n1 c1) (.slice A2 n2 c2) (.slice A3 n3 c3))
      have HB := Lib.hid (below_put4 (r := w.heap.size) hb (Nat.le_refl _) (.int .i64 q) (.slice A1 n1 c1) (.slice A2 n2 c2) (.slice A3 n3 c3))
      have HO := Lib.hid (OwnC.put4_ (r := w.heap.size) hO hRl (.int .i64 q) (.slice A1 n1 c1) (.slice A2 n2 c2) (.slice A3 n3 c3))
      have hz := hb3.size
      clear hR4 hb hb4 hR3 h3 hat hu hO
      go_wp2_with fail
      refine bodyPost_ret (results_block2 rfl _ _ w.heap.size _ _ rfl HR.out Try.underlying42 rfl info_cell) rfl ?_
      rw [HV.out]
      exact ⟨⟨_, _, _, by rw [hq.out]; rfl, HO.out.low hz⟩, HB.out⟩
  · have hcon := Lib.hid (keyOf_no h1.c0 hL1 hk)
    have HV := Lib.hid (show getC W C L = none by unfold getC; rw [if_neg hk])
    go_enter Try.func19, Try.ntmps19
    go_wp2_with fail
    generalize w.alloc (.cells #[.int .i64 0, .slice none 0 0, .slice none 0 0, .slice none 0 0] 42) = w1 at hb1 h1 hL1 hcon hR ⊢
    refine hcon.out.mono ?_
    rintro e w2 ⟨rfl, hb2⟩
    have hbx := below_then hb2 (below_a1 w2 (.cells #[.int .i64 0, .int .i64 0, .int .i64 0] 57))
    have hb := below_then hb1 hbx
    have hR4 := hR.below hbx hR.lt
    have HX := Lib.hid (And.intro hR4 hb)
    clear hL1 h1 hb1 hbx hb2 hcon hR hR4 hb hk
    have r0 : (w2.alloc (.cells #[.int .i64 0, .int .i64 0, .int .i64 0] 57)).cell? ⟨w.heap.size, 0, none⟩ = some (.int .i64 0) := HX.out.1.cell 0
    have r1 : (w2.alloc (.cells #[.int .i64 0, .int .i64 0, .int .i64 0] 57)).cell? ⟨w.heap.size, 1, none⟩ = some (.slice none 0 0) := HX.out.1.cell 1
    have r2 : (w2.alloc (.cells #[.int .i64 0, .int .i64 0, .int .i64 0] 57)).cell? ⟨w.heap.size, 2, none⟩ = some (.slice none 0 0) := HX.out.1.cell 2
    have r3 : (w2.alloc (.cells #[.int .i64 0, .int .i64 0, .int .i64 0] 57)).cell? ⟨w.heap.size, 3, none⟩ = some (.slice none 0 0) := HX.out.1.cell 3
    have f0 := HX.out.1.free 0
    have f1 := HX.out.1.free 1
    have f2 := HX.out.1.free 2
    have f3 := HX.out.1.free 3
    have HR := Lib.hid (HX.out.1.put4_ (.int .i64 0) (.slice none 0 0) (.slice none 0 0) (.slice none 0 0))
    have HB := Lib.hid (below_put4 (r := w.heap.size) HX.out.2 (Nat.le_refl _) (.int .i64 0) (.slice none 0 0) (.slice none 0 0) (.slice none 0 0))
    go_wp2_with fail
    refine bodyPost_ret (results_block2 rfl _ _ w.heap.size _ _ rfl HR.out Try.underlying42 rfl info_cell) rfl ?_
    rw [HV.out]
    exact ⟨rfl, HB.out⟩
end Go.Proofs.Yteifhgcjmjihgaa
