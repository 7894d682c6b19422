/- SchemaT, SchemaA -/
import Derived.Test.YtmcccpbpijnbmaaDoorJ1
import Derived.Test.YtmcccpbpijnbmaaDoorJ3
import Derived.Test.YtmcccpbpijnbmaaDoorJ12
import Derived.Test.YtmcccpbpijnbmaaDoorJ13
import Derived.Laws.CopyOwn
namespace Go.Proofs.YtmcccpbpijnbmaaDoor
set_option maxRecDepth 100000
open Go.RowKit Go.Maps

theorem strK_law : Keyed Tryd.prog 9 := string_keyed Tryd.underlying9
theorem strV_inj {a b : Txt} (h : strV a = strV b) : a = b := by
 simp only [strV, Value.string.injEq, ByteArray.mk.injEq] at h
 simpa using h
theorem nodup_map {α β : Type} {f : α → β} (hf : ∀ a b, f a = f b → a = b) {l : List α} : (l.map f).Nodup ↔ l.Nodup := by
 unfold List.Nodup
 rw [List.pairwise_map]
 constructor
 ·exact fun h => h.imp fun hne e => hne (by rw [e])
 ·exact fun h => h.imp fun hne e => hne (hf _ _ e)
theorem makeSet_s (w : World) : (Instr.makeMap 116 none).run Tryd.prog w = .ok (.map (some w.heap.size)) (w.alloc (.map #[] 0)) := run_makeMap _ w
theorem take_mapV {l : List Txt} {k : Nat} {x : Txt} (hk : k < l.length) (e : x = l.getD k []) : (l.take k).map strV ++ [strV x] = (l.take (k + 1)).map strV := by
 rw [List.take_succ_eq_append_getElem hk, List.map_append, e, List.getD_eq_getElem?_getD, List.getElem?_eq_getElem hk]
 rfl
set_option maxRecDepth 100000 in
set_option maxHeartbeats 1000000 in
theorem twiceT_any {A : Option Addr} {n c : Nat} {L : List Txt} {w : World} (h : HasT w w.heap.size A n c L) (hn : n ≤ 1000) (hm : ∀ s ∈ L, s.length ≤ maxLen) :
  Calls Tryd.prog 64 #[.slice A n c] w fun e w' => e = .returned (.bool (decide (¬ L.Nodup))) ∧ Below w.heap.size w w' := by
 have HL := Lib.hid h.len
 have HM := Lib.hid hm
 have hmk := makeSet_s
 clear hm
 go_enter Tryd.func64, Tryd.ntmps64
 go_wp2_with fail
 have hK0 := HasK.made w 9
 have hb0 := below_a1 w (.map #[] 0)
 clear hmk
 generalize w.alloc (.map #[] 0) = w1 at hK0 hb0 ⊢
 go_loopw [9] (fun i wr => ∃ k : Nat, k ≤ n ∧ i = .int .i64 k ∧ HasK wr 9 w.heap.size ((L.take k).map strV) ∧ Below w.heap.size w wr) (fun i _ => n - (intOf i).toNat)
 case atStart => exact ⟨0, Nat.zero_le _, rfl, hK0, hb0⟩
 case round =>
  obtain ⟨k, hk, rfl, hK, hB⟩ := hrel
  by_cases hlt : k < n
  ·obtain ⟨b, o, x, rfl, hb, hc, ex⟩ := (h.below hB (Nat.le_refl _)).at_ hlt
   have i0 : (0 : Int) ≤ (k : Int) := by omega
   have i1 : (k : Int) < (n : Int) := by omega
   have hx : (⟨x.toArray⟩ : ByteArray).size ≤ maxLen := by
    have h1 : x ∈ L := by rw [ex.out, List.getD_eq_getElem?_getD, List.getElem?_eq_getElem (by have := HL.out; omega)]; exact List.getElem_mem _
    have := HM.out x h1
    show x.toArray.size ≤ maxLen
    simpa using this
   obtain ⟨w2, hrun, hK2, hg2⟩ := hK.store strK_law Tryd.underlying116 (WideMaps.keyOf_string_mk Tryd.underlying9 hx) (by rw [List.length_map]; exact Nat.le_trans (List.length_take_le k _) (by omega))
   have hK2 : HasK w2 9 w.heap.size ((L.take k).map strV ++ [strV x]) := hK2
   rw [take_mapV (by have := HL.out; omega) ex.out] at hK2
   have HK2 := Lib.hid hK2
   have HB2 := Lib.hid (hB.grown hg2 hB.size (fun j hj => by cases hj; exact Nat.le_refl _))
   clear hK hK2 hg2 hB hx
   go_wp2_with fail
   go_roundw
   case rel => exact ⟨k + 1, by omega, by go_num, HK2.out, HB2.out⟩
   case measure => simp [intOf]; omega
  ·have e : L.take k = L := List.take_of_length_le (by have := HL.out; omega)
   rw [e] at hK
   obtain ⟨N, m, Dm, hown, hsz, hle, hnd⟩ := hK.count strK_law
   rw [nodup_map fun _ _ => strV_inj, List.length_map, HL.out] at hnd
   rw [List.length_map, HL.out] at hle
   clear e hK
   by_cases hno : L.Nodup
   ·obtain rfl : m = n := hnd.2 hno
    have H : Hid (decide (¬ L.Nodup) = false) := Lib.hid (by simpa using hno)
    have hs : Hid (Maps.size Dm = m) := Lib.hid hsz
    clear hnd hno hsz
    go_wp2_with (at_len; refine wpList_len_own _ rfl _ 116 rfl 9 117 Tryd.underlying116 (unitElem (H := Unit)) w.heap.size N Dm rfl hown ?_; rw [hs.out])
    go_ret
    exact ⟨bool_of H.out.symm, hB⟩
   ·have hlt2 : m < n := by
     have : m ≠ n := fun e => hno (hnd.1 e)
     omega
    have H : Hid (decide (¬ L.Nodup) = true) := Lib.hid (by simpa using hno)
    have hs : Hid (Maps.size Dm = m) := Lib.hid hsz
    have hlt3 : (m : Int) < (n : Int) := by omega
    clear hnd hno hsz
    go_wp2_with (at_len; refine wpList_len_own _ rfl _ 116 rfl 9 117 Tryd.underlying116 (unitElem (H := Unit)) w.heap.size N Dm rfl hown ?_; rw [hs.out])
    go_ret
    exact ⟨bool_of H.out.symm, hB⟩
end Go.Proofs.YtmcccpbpijnbmaaDoor
namespace Go.Proofs.YtmcccpbpijnbmaaDoor
set_option maxRecDepth 100000
open Go.RowKit Go.Maps

abbrev T3 := Int × Int × Int
def acs (t : T3) : List Value := [.int .i64 t.1, .int .i64 t.2.1, .int .i64 t.2.2]
def arrV (t : T3) : Value := .agg #[.int .i64 t.1, .int .i64 t.2.1, .int .i64 t.2.2]
def fix3 (v : List Int) : T3 := (v.getD 0 0, v.getD 1 0, v.getD 2 0)
theorem fix3_splice (l : List Int) : splice [.int .i64 0, .int .i64 0, .int .i64 0] 0 ((l.take 3).map i64v) = acs (fix3 l) := by
 match l with
 | [] => rfl
 | [a] => rfl
 | [a, b] => rfl
 | a :: b :: c :: r => rfl
theorem info_int1 : (Tryd.prog.info? 3).map (·.size) = some 1 := by kernel_rfl
theorem info_arr : (Tryd.prog.info? 98).map (·.size) = some 3 := by kernel_rfl
set_option maxRecDepth 100000 in
set_option maxHeartbeats 1000000 in
theorem fixed_is {A : Option Addr} {n c : Nat} {l : List Int} {w : World} (h : HasI w w.heap.size A n c l) {x y z : Int} (hx : Hid (fix3 l = (x, y, z))) :
  Calls Tryd.prog 65 #[.slice A n c] w fun e w' => e = .returned (.agg #[.int .i64 x, .int .i64 y, .int .i64 z]) ∧ Below w.heap.size w w' := by
 have hb2 := below_a2 w (.cells #[.int .i64 0, .int .i64 0, .int .i64 0] 98) (.cells #[.int .i64 0, .int .i64 0, .int .i64 0] 98)
 have h1 := h.belowS hb2
 have hG : ((w.alloc (.cells #[.int .i64 0, .int .i64 0, .int .i64 0] 98)).alloc (.cells #[.int .i64 0, .int .i64 0, .int .i64 0] 98)).heap[w.heap.size + 1]? = some (.cells ([.int .i64 0, .int .i64 0, .int .i64 0] : List Value).toArray 98 (0, 0)) := by
  have := Block.new (w.alloc (.cells #[.int .i64 0, .int .i64 0, .int .i64 0] 98)) 98 #[.int .i64 0, .int .i64 0, .int .i64 0]
  rw [World.size_alloc] at this
  exact this
 have hR := (Block.new w 98 #[.int .i64 0, .int .i64 0, .int .i64 0]).alloc (.cells #[.int .i64 0, .int .i64 0, .int .i64 0] 98)
 obtain ⟨cs, hcs⟩ : ∃ cs, Hid ((l.take 3).map i64v = cs) := ⟨_, Lib.hid rfl⟩
 have hn : Hid (cs.length = Nat.min n 3) := Lib.hid (by rw [← hcs.out, List.length_map, List.length_take, h.len, Nat.min_comm])
 have hsp : Hid (splice [.int .i64 0, .int .i64 0, .int .i64 0] 0 cs = [.int .i64 x, .int .i64 y, .int .i64 z]) := Lib.hid (by rw [← hcs.out, fix3_splice, hx.out]; rfl)
 have hfit : Hid (0 + cs.length ≤ ([.int .i64 0, .int .i64 0, .int .i64 0] : List Value).length) := Lib.hid (by rw [hn.out]; have := Nat.min_le_right n 3; simp; exact this)
 have hone : Hid (∀ v ∈ cs, v.oneCell' = true) := Lib.hid (by rw [← hcs.out]; exact i64v_one _)
 have hpos : Hid (0 < cs.length → ∃ ad, A = some ad ∧ ∀ j v, cs[j]? = some v → ((w.alloc (.cells #[.int .i64 0, .int .i64 0, .int .i64 0] 98)).alloc (.cells #[.int .i64 0, .int .i64 0, .int .i64 0] 98)).cell? (ad.add j) = some v) := Lib.hid fun h0 => by
  have hl : 0 < (l.map i64v).length := by
   rw [← hcs.out] at h0
   simp at h0 ⊢
   omega
  obtain ⟨b, o, e, _, hc⟩ := h1.has hl
  refine ⟨_, e, fun j v hv => ?_⟩
  rw [add_flat]
  refine hc j v ?_
  rw [← hcs.out, List.map_take, List.getElem?_take] at hv
  split at hv
  ·exact hv
  ·cases hv
 have hgs : w.heap.size < ((w.alloc (.cells #[.int .i64 0, .int .i64 0, .int .i64 0] 98)).alloc (.cells #[.int .i64 0, .int .i64 0, .int .i64 0] 98)).heap.size := by simp; omega
 clear h h1 hcs hx
 go_enter Tryd.func65, Tryd.ntmps65
 go_wp2_with (refine wpList_copy_splice (o := ⟨some 6, _, _, _, _, _⟩) rfl _ _ 29 29 rfl 3 Tryd.underlying29 info_int1 _ A 3 3 n c rfl rfl (w.heap.size + 1) 0 [.int .i64 0, .int .i64 0, .int .i64 0] 98 hG cs hn.out (fun h0 => ⟨rfl, hpos.out h0⟩) hfit.out hone.out (w.heap.size + 1) _ (Below.refl _ _) (Nat.le_refl _) ?_)
 intro w2 HG2 hB2
 have hG2 : Block w2 (w.heap.size + 1) 98 #[.int .i64 x, .int .i64 y, .int .i64 z] := by
  have := HG2.out
  rw [hsp.out] at this
  exact this
 have hR2 := hR.below hB2 (Nat.lt_succ_self _)
 have hbe := hb2.trans (hB2.mono (Nat.le_succ _))
 have a0 : w2.cell? ⟨w.heap.size + 1, 0, none⟩ = some (.int .i64 x) := hG2.cell 0
 have a1 : w2.cell? ⟨w.heap.size + 1, 1, none⟩ = some (.int .i64 y) := hG2.cell 1
 have a2 : w2.cell? ⟨w.heap.size + 1, 2, none⟩ = some (.int .i64 z) := hG2.cell 2
 have r0 : w2.cell? ⟨w.heap.size, 0, none⟩ = some (.int .i64 0) := hR2.cell 0
 have r1 : w2.cell? ⟨w.heap.size, 1, none⟩ = some (.int .i64 0) := hR2.cell 1
 have r2 : w2.cell? ⟨w.heap.size, 2, none⟩ = some (.int .i64 0) := hR2.cell 2
 have f0 := hR2.free 0
 have f1 := hR2.free 1
 have f2 := hR2.free 2
 have HR := Lib.hid (hR2.put3_ (.int .i64 x) (.int .i64 y) (.int .i64 z))
 have HB := Lib.hid (below_put3 hbe (Nat.le_refl _) (.int .i64 x) (.int .i64 y) (.int .i64 z))
 clear HG2 hG2 hR2 hbe hB2 hb2 hG hR hn hsp hfit hone hpos hgs
 go_wp2_with fail
 refine bodyPost_ret (results_block1 rfl _ _ w.heap.size _ _ rfl HR.out Tryd.underlying98 rfl info_arr) rfl ?_
 exact ⟨rfl, HB.out⟩

/-! ### Rows of them -/
structure HasA (w : World) (B : Nat) (A : Option Addr) (n c : Nat) (L : List T3) : Prop where
 len : L.length = n
 cap : n ≤ c
 fit : c ≤ maxLen
 void : A = none → c = 0
 has : ∀ i, i < n → ∃ b o, A = some ⟨b, o, none⟩ ∧ b < B ∧ w.cell? ⟨b, o + i * 3, none⟩ = some (.int .i64 (L.getD i (0, 0, 0)).1) ∧ w.cell? ⟨b, o + i * 3 + 1, none⟩ = some (.int .i64 (L.getD i (0, 0, 0)).2.1) ∧ w.cell? ⟨b, o + i * 3 + 2, none⟩ = some (.int .i64 (L.getD i (0, 0, 0)).2.2)
theorem acs_get {L : List T3} {i : Nat} (h : i < L.length) : (L.flatMap acs)[i * 3]? = some (.int .i64 (L.getD i (0, 0, 0)).1) ∧ (L.flatMap acs)[i * 3 + 1]? = some (.int .i64 (L.getD i (0, 0, 0)).2.1) ∧ (L.flatMap acs)[i * 3 + 2]? = some (.int .i64 (L.getD i (0, 0, 0)).2.2) := by
 induction L generalizing i with
 | nil => simp at h
 | cons e r ih =>
  cases i with
  | zero => simp [List.flatMap_cons, acs]
  | succ i =>
   have := ih (i := i) (by simpa using h)
   rw [show (i + 1) * 3 = i * 3 + 1 + 1 + 1 by omega]
   simpa [List.flatMap_cons, acs] using this
def OwnA (w : World) (base : Nat) (v : Value) (L : List T3) : Prop := w.ownsRow base 98 3 v L.length (L.flatMap acs)
section
variable {w w' : World} {base : Nat} {v : Value} {L : List T3}
theorem OwnA.below (h : OwnA w base v L) (hb : Below w.heap.size w w') : OwnA w' base v L := row_below h hb
theorem OwnA.alloc (h : OwnA w base v L) (o : Obj) : OwnA (w.alloc o) base v L := World.ownsRow.alloc h o
theorem OwnA.lt (h : OwnA w base v L) : ∀ k, v.ownBlock = some k → base ≤ k ∧ k < w.heap.size := World.ownsRow.lt h
theorem OwnA.form (h : OwnA w base v L) : ∃ A c, v = .slice A L.length c ∧ HasA w w.heap.size A L.length c L := by
 rcases h.2 with ⟨rfl, h0⟩ | ⟨g, cap, cur, rfl, hb, hg, hnc, hcm, hcs, ht⟩
 ·have hl : L = [] := List.eq_nil_of_length_eq_zero h0
  subst hl
  exact ⟨none, 0, rfl, rfl, Nat.le_refl _, Nat.zero_le _, fun _ => rfl, fun i h => absurd h (by simp)⟩
 ·refine ⟨_, cap, rfl, rfl, hnc, hcm, (fun h => by cases h), fun i hi => ?_⟩
  have hc := World.ownsRow.cells h (g := g) rfl
  obtain ⟨h1, h2, h3⟩ := acs_get hi
  have e1 := hc _ _ h1
  have e2 := hc _ _ h2
  have e3 := hc _ _ h3
  rw [add_flat] at e1 e2 e3
  rw [← Nat.add_assoc] at e2 e3
  exact ⟨g, 0, rfl, (Array.getElem?_eq_some_iff.1 hg).1, e1, e2, e3⟩
theorem OwnA.lit (w : World) (t : T3) (g : Nat) (hg : g = w.heap.size) (base : Nat) (hb : base ≤ g) : OwnA (w.alloc (.cells #[.int .i64 t.1, .int .i64 t.2.1, .int .i64 t.2.2] 98)) base (.slice (some ⟨g, 0, none⟩) 1 1) [t] := by
 subst hg
 exact ⟨rfl, .inr ⟨w.heap.size, 1, #[.int .i64 t.1, .int .i64 t.2.1, .int .i64 t.2.2], rfl, hb, heap_alloc_new w _, Nat.le_refl _, by decide, rfl, rfl⟩⟩
end
section
variable {w w' : World} {B B' n c : Nat} {A : Option Addr} {L : List T3}
theorem HasA.below {C : Nat} (h : HasA w B A n c L) (hb : Below C w w') (hC : B ≤ C) : HasA w' B A n c L :=
 ⟨h.len, h.cap, h.fit, h.void, fun i hi => by
  obtain ⟨b, o, h1, h2, h3, h4, h5⟩ := h.has i hi
  exact ⟨b, o, h1, h2, (hb.cell (p := ⟨b, o + i * 3, none⟩) (Nat.lt_of_lt_of_le h2 hC)).trans h3, (hb.cell (p := ⟨b, o + i * 3 + 1, none⟩) (Nat.lt_of_lt_of_le h2 hC)).trans h4, (hb.cell (p := ⟨b, o + i * 3 + 2, none⟩) (Nat.lt_of_lt_of_le h2 hC)).trans h5⟩⟩
theorem HasA.at_ (h : HasA w B A n c L) {k : Nat} (hk : k < n) : ∃ b o x y z, A = some ⟨b, o, none⟩ ∧ b < B ∧ w.cell? ⟨b, o + k * 3, none⟩ = some (.int .i64 x) ∧ w.cell? ⟨b, o + k * 3 + 1, none⟩ = some (.int .i64 y) ∧ w.cell? ⟨b, o + k * 3 + 2, none⟩ = some (.int .i64 z) ∧ Hid (L.getD k (0, 0, 0) = (x, y, z)) := by
 obtain ⟨b, o, h1, h2, h3, h4, h5⟩ := h.has k hk
 exact ⟨b, o, _, _, _, h1, h2, h3, h4, h5, Lib.hid rfl⟩
end
theorem info_arr3 : (Tryd.prog.info? 98).map (fun i => (i.zero, i.size, i.bytes)) = some (some (.agg #[.int .i64 0, .int .i64 0, .int .i64 0]), 3, 24) := by kernel_rfl
theorem acs_one (t : T3) : ∀ u ∈ acs t, u.oneCell' = true := by
 intro u hu
 simp [acs] at hu
 rcases hu with rfl | rfl | rfl <;> rfl
theorem cell_arr (w : World) (t : T3) (e : TypeId) (g : Nat) (hg : g = w.heap.size) : ∀ j u, (acs t)[j]? = some u → (w.alloc (.cells #[.int .i64 t.1, .int .i64 t.2.1, .int .i64 t.2.2] e)).cell? ((⟨g, 0, none⟩ : Addr).add j) = some u := by
 intro j u hj
 subst hg
 rw [add_flat, Nat.zero_add, cell_new]
 simpa [acs] using hj
theorem wpList_appA {w : World} {ops : Array Oper} {rest : List Oper} {o : Oper} {a : Act} {Q : Exit → Act → World → Prop} (hgd : o.guard = none) (s x : Operand)
  (ho : o.op = .call { callee := .builtin .append, args := #[s, x], argTypes := #[101, 101] })
  (base : Nat) (v : Value) (L : List T3) (hs : a.eval s = v) (hown : OwnA w base v L) (g : Nat) (hx : a.eval x = .slice (some ⟨g, 0, none⟩) 1 1) (t : T3)
  (hy : ∀ j u, (acs t)[j]? = some u → w.cell? ((⟨g, 0, none⟩ : Addr).add j) = some u) (hl : L.length ≤ 1000) (hbase : base ≤ w.heap.size)
  (h : ∀ v' w', OwnA w' base v' (L ++ [t]) → Grew w v w' v' → wpList Tryd.prog ops Q rest (a.put o.dst v') w') : wpList Tryd.prog ops Q (o :: rest) a w := by
 obtain ⟨i, hi, hz0, hz1, hz2⟩ := info_parts info_arr3
 refine wpList_append_own_at w hgd s x 101 ho base 98 i _ 3 24 Tryd.underlying101 hi hz0 hz1 hz2 rfl (by decide) v L.length (L.flatMap acs) hs hown ⟨g, 0, none⟩ 1 1 (acs t) hx rfl hy (acs_one t) (by unfold maxLen; omega) (by omega) hbase ?_
 intro v' w' h1 h2 _ h4
 refine h v' w' (by unfold OwnA; simpa using h1) ⟨h2, fun k hk => ?_⟩
 rcases h4 with h4 | h4
 ·exact .inl (h4 ▸ hk)
 ·rw [h4] at hk
  injection hk with hk
  exact .inr (Nat.le_of_eq hk)

/-! ### None of them twice -/
theorem k3_type : Tryd.prog.keyTypeAt 4 98 = true := by kernel_rfl
theorem k3_law : Keyed Tryd.prog 98 := Keyed.of_law (deep_law_laid set_laid (m := 4) (by decide) (of_decide_eq_true (by kernel_rfl)) k3_type (by kernel_rfl))
theorem k3_is {x y z : Int} (hx : (Lit.int .i64 x).wf = true) (hy : (Lit.int .i64 y).wf = true) (hz : (Lit.int .i64 z).wf = true) : ∃ kl, keyOf Tryd.prog 98 (.agg #[.int .i64 x, .int .i64 y, .int .i64 z]) = some kl := by
 have h1 : Tryd.prog.keyType 98 = true := by kernel_rfl
 have h3 : Tryd.prog.cellsOf 98 = 3 := by kernel_rfl
 have h4 : Tryd.prog.cellsOf 3 = 1 := by kernel_rfl
 have hf : (Value.agg #[.int .i64 x, .int .i64 y, .int .i64 z]).formed Tryd.prog 98 = true := by
  simp [Value.formed, Tryd.underlying98, h3]
 unfold keyOf
 rw [Tryd.underlying98, h1, hf]
 simp only [Bool.and_self, if_true]
 have hl : ∃ ls, Tryd.prog.keyLits (Tryd.prog.types.size + 1) 98 (Value.agg #[.int .i64 x, .int .i64 y, .int .i64 z]).cells.toList = some ls := by
  have h2 : 0 < Tryd.prog.types.size := of_decide_eq_true (by kernel_rfl)
  obtain ⟨d, hd⟩ : ∃ d, Tryd.prog.types.size + 1 = d + 2 := ⟨Tryd.prog.types.size - 1, by omega⟩
  rw [hd]
  clear hd h2 h1 hf
  have hr : List.range 3 = [0, 1, 2] := by decide
  simp [Program.keyLits, Tryd.underlying98, Tryd.underlying3, Value.cells, h3, h4, hr, hx, hy, hz]
 obtain ⟨ls, hl⟩ := hl
 rw [hl]
 exact ⟨_, rfl⟩
theorem makeSet_3 (w : World) : (Instr.makeMap 118 none).run Tryd.prog w = .ok (.map (some w.heap.size)) (w.alloc (.map #[] 0)) := run_makeMap _ w
theorem arrV_inj {a b : T3} (h : arrV a = arrV b) : a = b := by
 obtain ⟨a1, a2, a3⟩ := a
 obtain ⟨b1, b2, b3⟩ := b
 simp only [arrV, Value.agg.injEq, Array.mk.injEq, List.cons.injEq, Value.int.injEq, and_true, true_and] at h
 obtain ⟨h1, h2, h3⟩ := h
 rw [h1, h2, h3]
theorem take_map3 {l : List T3} {k : Nat} {t : T3} (hk : k < l.length) (e : l.getD k (0, 0, 0) = t) : (l.take k).map arrV ++ [arrV t] = (l.take (k + 1)).map arrV := by
 rw [List.take_succ_eq_append_getElem hk, List.map_append, ← e, List.getD_eq_getElem?_getD, List.getElem?_eq_getElem hk]
 rfl
def Wf3 (t : T3) : Prop := (Lit.int .i64 t.1).wf = true ∧ (Lit.int .i64 t.2.1).wf = true ∧ (Lit.int .i64 t.2.2).wf = true
set_option maxRecDepth 100000 in
set_option maxHeartbeats 1000000 in
theorem twice3_any {A : Option Addr} {n c : Nat} {L : List T3} {w : World} (h : HasA w w.heap.size A n c L) (hn : n ≤ 1000) (hm : ∀ t ∈ L, Wf3 t) :
  Calls Tryd.prog 67 #[.slice A n c] w fun e w' => e = .returned (.bool (decide (¬ L.Nodup))) ∧ Below w.heap.size w w' := by
 have HL := Lib.hid h.len
 have HM := Lib.hid hm
 have hmk := makeSet_3
 clear hm
 go_enter Tryd.func67, Tryd.ntmps67
 go_wp2_with fail
 have hK0 := HasK.made w 98
 have hb0 := below_a1 w (.map #[] 0)
 clear hmk
 generalize w.alloc (.map #[] 0) = w1 at hK0 hb0 ⊢
 go_loopw [9] (fun i wr => ∃ k : Nat, k ≤ n ∧ i = .int .i64 k ∧ HasK wr 98 w.heap.size ((L.take k).map arrV) ∧ Below w.heap.size w wr) (fun i _ => n - (intOf i).toNat)
 case atStart => exact ⟨0, Nat.zero_le _, rfl, hK0, hb0⟩
 case round =>
  obtain ⟨k, hk, rfl, hK, hB⟩ := hrel
  by_cases hlt : k < n
  ·obtain ⟨b, o, x, y, z, rfl, hb, g0, g1, g2, ex⟩ := (h.below hB (Nat.le_refl _)).at_ hlt
   have i0 : (0 : Int) ≤ (k : Int) := by omega
   have i1 : (k : Int) < (n : Int) := by omega
   obtain ⟨kl, hkl⟩ : ∃ kl, keyOf Tryd.prog 98 (.agg #[.int .i64 x, .int .i64 y, .int .i64 z]) = some kl := by
    have h1 : L.getD k (0, 0, 0) ∈ L := by rw [List.getD_eq_getElem?_getD, List.getElem?_eq_getElem (by have := HL.out; omega)]; exact List.getElem_mem _
    have h2 := HM.out _ h1
    rw [ex.out] at h2
    exact k3_is h2.1 h2.2.1 h2.2.2
   obtain ⟨w2, hrun, hK2, hg2⟩ := (hK.alloc (.cells #[.int .i64 x, .int .i64 y, .int .i64 z] 98)).store k3_law Tryd.underlying118 hkl (by rw [List.length_map]; exact Nat.le_trans (List.length_take_le k _) (by omega))
   have hK2 : HasK w2 98 w.heap.size ((L.take k).map arrV ++ [arrV (x, y, z)]) := hK2
   rw [take_map3 (by have := HL.out; omega) ex.out] at hK2
   have HK2 := Lib.hid hK2
   have hz := hB.size
   have hB1 := hB.alloc hz (.cells #[.int .i64 x, .int .i64 y, .int .i64 z] 98)
   have HB2 := Lib.hid (hB1.grown hg2 hB1.size (fun j hj => by cases hj; exact Nat.le_refl _))
   clear hK hK2 hg2 hB hB1 hkl
   go_wp2_with fail
   go_roundw
   case rel => exact ⟨k + 1, by omega, by go_num, HK2.out, HB2.out⟩
   case measure => simp [intOf]; omega
  ·have e : L.take k = L := List.take_of_length_le (by have := HL.out; omega)
   rw [e] at hK
   obtain ⟨N, m, Dm, hown, hsz, hle, hnd⟩ := hK.count k3_law
   rw [nodup_map fun _ _ => arrV_inj, List.length_map, HL.out] at hnd
   rw [List.length_map, HL.out] at hle
   clear e hK
   by_cases hno : L.Nodup
   ·obtain rfl : m = n := hnd.2 hno
    have H : Hid (decide (¬ L.Nodup) = false) := Lib.hid (by simpa using hno)
    have hs : Hid (Maps.size Dm = m) := Lib.hid hsz
    clear hnd hno hsz
    go_wp2_with (at_len; refine wpList_len_own _ rfl _ 118 rfl 98 117 Tryd.underlying118 (unitElem (H := Unit)) w.heap.size N Dm rfl hown ?_; rw [hs.out])
    go_ret
    exact ⟨bool_of H.out.symm, hB⟩
   ·have hlt2 : m < n := by
     have : m ≠ n := fun e => hno (hnd.1 e)
     omega
    have H : Hid (decide (¬ L.Nodup) = true) := Lib.hid (by simpa using hno)
    have hs : Hid (Maps.size Dm = m) := Lib.hid hsz
    have hlt3 : (m : Int) < (n : Int) := by omega
    clear hnd hno hsz
    go_wp2_with (at_len; refine wpList_len_own _ rfl _ 118 rfl 98 117 Tryd.underlying118 (unitElem (H := Unit)) w.heap.size N Dm rfl hown ?_; rw [hs.out])
    go_ret
    exact ⟨bool_of H.out.symm, hB⟩
end Go.Proofs.YtmcccpbpijnbmaaDoor
