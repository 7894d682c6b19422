/- DictC, DictP, DictQ, DictA, DictF, DictY -/
import Derived.Test.YtmepdkdeanbbaaaGreatJ2
import Derived.Test.YtmepdkdeanbbaaaGreatJ3
import Derived.Test.YtmepdkdeanbbaaaGreatJ10
import Derived.Test.YtmepdkdeanbbaaaGreatJ13
import Derived.Test.YtmepdkdeanbbaaaGreatJ19
import Derived.Test.YtmepdkdeanbbaaaGreatJ41
import Derived.BigQuiet
import Derived.Deep.QuietTactic
import Derived.Deep.RegionHeld3
import Derived.Deep.RegionLaw
import Derived.Lib.SliceRun
import Derived.Shelf.SlMaps.Clone
namespace Go.Proofs.YtmepdkdeanbbaaaGreat
set_option maxRecDepth 100000
open Go.RowKit

theorem info_path : (Tryz.prog.info? 168).map (fun i => (i.zero, i.size, i.bytes)) = some (some (.agg #[.int .i64 0, .string ByteArray.empty]), 2, 24) := by kernel_rfl
theorem OwnE.alloc {w : World} {base : Nat} {v : Value} {E : List (Nat × Txt)} (h : OwnE w base v E) (o : Obj) : OwnE (w.alloc o) base v E := World.ownsRow.alloc h o
theorem step_appE {w : World} {ops : Array Oper} {o : Oper} {a : Act} {Q : Exit → Act → World → Prop} {K : Act → World → Prop} {F : Prop} (hgd : o.guard = none) (s x : Operand)
  (ho : o.op = .call { callee := .builtin .append, args := #[s, x], argTypes := #[158, 158] })
  (base : Nat) (v : Value) (L : List (Nat × Txt)) (hs : a.eval s = v) (hown : OwnE w base v L) (g : Nat) (hx : a.eval x = .slice (some ⟨g, 0, none⟩) 1 1) (k : Nat) (t : Txt)
  (hy : ∀ j u, (pcs (k, t))[j]? = some u → w.cell? ((⟨g, 0, none⟩ : Addr).add j) = some u) (hl : L.length ≤ 1000) (hbase : base ≤ w.heap.size)
  (h : ∀ v' w', OwnE w' base v' (L ++ [(k, t)]) → Grew w v w' v' → K (a.put o.dst v') w') :
  if Region.wanted o (yielded ops a.tmps) = true then Oper.wp Tryz.prog o a w K Q else F := by
 have hw : Region.wanted o (yielded ops a.tmps) = true := by simp [Region.wanted, hgd]
 rw [if_pos hw]
 obtain ⟨i, hi, hz0, hz1, hz2⟩ := info_parts info_path
 obtain ⟨v', w', hrun, h2, h3, _, h5⟩ := run_append_own_at (P := Tryz.prog) w base 158 o.type 168 i _ 2 24 Tryz.underlying158 hi hz0 hz1 hz2 rfl (by decide) v L.length (L.flatMap pcs) hown ⟨g, 0, none⟩ 1 1 (pcs (k, t)) rfl hy
  (fun u hu => by simp [pcs] at hu; rcases hu with rfl | rfl <;> rfl) (by unfold maxLen; omega) (by omega) hbase
 unfold Oper.wp execOp
 simp only [ho, resolve, invoke, builtin, Sem.run_bind, Sem.run_pure, Result.andThen_ok, List.map_toArray, List.map_cons, List.map_nil, hs, hx, hrun]
 refine h v' w' (by unfold OwnE; simpa using h2) ⟨h3, fun q hq => ?_⟩
 rcases h5 with h5 | h5
 ·exact .inl (h5 ▸ hq)
 ·rw [h5] at hq
  injection hq with hq
  exact .inr (Nat.le_of_eq hq)
theorem cell_pair (w : World) (k : Nat) (t : Txt) (e : TypeId) (g : Nat) (hg : g = w.heap.size) : ∀ j u, (pcs (k, t))[j]? = some u → (w.alloc (.cells #[.int .i64 (k : Int), .string ⟨t.toArray⟩] e)).cell? ((⟨g, 0, none⟩ : Addr).add j) = some u := by
 intro j u hj
 subst hg
 rw [add_flat, Nat.zero_add, cell_new]
 simpa [pcs, strV] using hj

theorem len_raw {w : World} {g : Nat} {A : Option Addr} {m c : Nat} (h1 : w.cell? ⟨g, 1, none⟩ = some (.slice A m c)) (_hm : m ≤ 1000) :
  Calls Tryz.prog 120 #[.pointer (some ⟨g, 0, none⟩)] w fun e w' => e = .returned (.int .i64 (m : Nat)) ∧ w = w' := by
 go_enter Tryz.func120, Tryz.ntmps120
 go_wp2
 go_ret
 exact ⟨rfl, rfl⟩
theorem cloneS_any (s : ByteArray) (w : World) (hs : s.size ≤ 281474976710656) :
  Calls Tryz.prog 88 #[.string s] w fun e w' => e = .returned (.string s) ∧ Below w.heap.size w w' := by
 have h := Tryz.stringslite_Clone s w hs
 go_enter Tryz.func88, Tryz.ntmps88
 go_wp2_with fail
 refine h.mono ?_
 rintro e w' ⟨rfl, hB⟩
 go_wp2_with fail
 go_ret
 exact ⟨rfl, hB⟩

set_option maxRecDepth 100000 in
set_option maxHeartbeats 2000000 in
theorem come_any {w : World} {base g : Nat} {pv : Value} {bm n : Nat} {Q : List Pth} (h : Dc w base g pv bm n Q) {a : Nat} {s : Txt} (ha : a ≤ Q.length) (hs : nameP s) (hnew : pth Q a ++ [s] ∉ Q) (hg : Good n (Q ++ [pth Q a ++ [s]])) :
  Calls Tryz.prog 163 #[.pointer (some ⟨g, 0, none⟩), .agg #[.int .i64 (a : Int), .string ⟨s.toArray⟩]] w fun e w' => ∃ pv', e = .returned (.int .i64 ((Q.length + 1 : Nat) : Int)) ∧ Dc w' base g pv' bm n (Q ++ [pth Q a ++ [s]]) ∧
   Chg (foot g pv bm) w w' ∧ (∀ k, pv'.ownBlock = some k → pv.ownBlock = some k ∨ w.heap.size ≤ k) := by
 obtain ⟨A, cap, rfl, hEr⟩ := h.form
 clear hEr
 have hgl := h.block.lt
 have hbl := h.map.lt
 have hgb := h.gb
 have hmb := h.mb
 have hQ := h.good.size
 have hne : (a, s) ∉ ents Q := fun hm => hnew ((h.good.mem_ents ha).1 hm)
 have hE2 := Lib.hid (h.good.mayC_ents (s := s) ha)
 have hsz : (⟨s.toArray⟩ : ByteArray).size ≤ 281474976710656 := by
  have := hs.2.1
  show s.toArray.size ≤ _
  simp; omega
 have hsm : s.length ≤ maxLen := by have := hs.2.1; unfold maxLen; omega
 have hw1 := below_a1 w (.cells #[.int .i64 (a : Int), .string ⟨s.toArray⟩] 168)
 have hcl := cloneS_any ⟨s.toArray⟩ (w.alloc (.cells #[.int .i64 (a : Int), .string ⟨s.toArray⟩] 168)) hsz
 have hbx := Block.new w 168 #[.int .i64 (a : Int), .string ⟨s.toArray⟩]
 go_enter Tryz.func163, Tryz.ntmps163
 go_wp2_with fail
 refine hcl.mono ?_
 rintro e w2 ⟨rfl, hB2⟩
 have hx2 := hbx.below hB2 (by simp)
 have hf2 := hx2.free 1
 have k2 : w2.cell? ⟨w.heap.size, 1, none⟩ = some (.string ⟨s.toArray⟩) := hx2.cell 1
 have hx3 := hx2.set_ 1 (.string ⟨s.toArray⟩)
 have hw3 : Below w.heap.size w (w2.setCell ⟨w.heap.size, 1, none⟩ (.string ⟨s.toArray⟩)) := (below_then hw1 hB2).setCell (p := ⟨w.heap.size, 1, none⟩) (Nat.le_refl _) _
 clear hcl hbx hB2 hx2 hw1
 go_wp2_with fail
 obtain ⟨w3, he3⟩ : ∃ w3, w3 = w2.setCell ⟨w.heap.size, 1, none⟩ (.string ⟨s.toArray⟩) := ⟨_, rfl⟩
 rw [← he3] at hx3 hw3 ⊢
 clear he3 hf2 k2
 have hD := h.below hw3
 have hs3 := hw3.size
 have c1 := hD.c1
 have k0 : w3.cell? ⟨w.heap.size, 0, none⟩ = some (.int .i64 (a : Int)) := hx3.cell 0
 have k1 : w3.cell? ⟨w.heap.size, 1, none⟩ = some (.string ⟨s.toArray⟩) := hx3.cell 1
 have hff := hD.block.free 1
 have hO1 : OwnE (w3.drew.alloc (.cells #[.int .i64 (a : Int), .string ⟨s.toArray⟩] 168)) base (.slice A Q.length cap) (ents Q) := OwnE.alloc (w := w3.drew) hD.row _
 have hpr := cell_pair w3.drew a s 168 w3.heap.size rfl
 have hbs : base ≤ (w3.drew.alloc (.cells #[.int .i64 (a : Int), .string ⟨s.toArray⟩] 168)).heap.size := by simp; omega
 have hel : (ents Q).length ≤ 1000 := by rw [ents_len]; omega
 have hbr := hD.block
 have hrg := hD.row_g
 have HO1 := Lib.hid hO1
 have Hpr := Lib.hid hpr
 have Hbs := Lib.hid hbs
 have Hel := Lib.hid hel
 have HB := Lib.hid (show Block (w3.drew.alloc (.cells #[.int .i64 (a : Int), .string ⟨s.toArray⟩] 168)) g 160 _ from Block.alloc (w := w3.drew) hbr _)
 have c1a : (w3.alloc (.cells #[.int .i64 (a : Int), .string ⟨s.toArray⟩] 168)).drew.cell? ⟨g, 1, none⟩ = some (.slice A Q.length cap) := HB.out.cell 1
 clear hO1 hpr hbs hel hbr
 have HL2 : Hid ((ents Q ++ [(a, s)]).length = Q.length + 1) := Lib.hid (by simp [ents_len])
 have hch0 : Chg (foot g (.slice A Q.length cap) bm) w (w3.drew.alloc (.cells #[.int .i64 (a : Int), .string ⟨s.toArray⟩] 168)) := Chg.alloc (b := w3.drew) ((Chg.of_below hw3 (Nat.le_refl _)).drewN 1) _
 have hM0 : HasM (w3.drew.alloc (.cells #[.int .i64 (a : Int), .string ⟨s.toArray⟩] 168)) bm (ents Q) := HasM.alloc (w := w3.drew) hD.map _
 have hx0 : Block (w3.drew.alloc (.cells #[.int .i64 (a : Int), .string ⟨s.toArray⟩] 168)) w.heap.size 168 _ := Block.alloc (w := w3.drew) hx3 _
 have hrb := h.row_bm
 have hgm := h.g_bm
 have hown := fun k hk => World.ownsRow.lt h.row k hk
 have Hh := Lib.hid (show Chg (foot g (.slice A Q.length cap) bm) w _ ∧ HasM _ bm (ents Q) ∧ Block _ w.heap.size 168 _ ∧ (Value.slice A Q.length cap).ownBlock ≠ some bm ∧ g ≠ bm ∧ (∀ k, (Value.slice A Q.length cap).ownBlock = some k → base ≤ k ∧ k < w.heap.size) from ⟨hch0, hM0, hx0, hrb, hgm, hown⟩)
 have Hg := Lib.hid hg
 have Hne := Lib.hid hne
 clear hch0 hM0 hx0 hrb hgm hown hg hne hnew hs
 go_region_law (refine step_appE rfl _ _ rfl base _ (ents Q) rfl HO1.out _ rfl a s Hpr.out Hel.out Hbs.out ?_; intro v2 w4 hO2 hG2; obtain ⟨A2, cap2, e2, hE2r⟩ := hO2.form; rw [HL2.out] at e2; subst e2; have hB4 := HB.out.grown hG2.1 hrg; have f4 := hB4.free 1; have c4 : w4.cell? ⟨g, 1, none⟩ = some (.slice A Q.length cap) := hB4.cell 1; clear hE2r)
 all_goals
  obtain ⟨hch, hM, hx, hrb, hgm, hown⟩ := Hh.out
  have hO5 : OwnE (w4.setCell ⟨g, 1, none⟩ (.slice A2 (Q.length + 1) cap2)) base (.slice A2 (Q.length + 1) cap2) (ents Q ++ [(a, s)]) := ownsRow_setCell_other hO2 (a := ⟨g, 1, none⟩) (fun e => by
   rcases hG2.2 g e with h1 | h1
   ·exact hrg h1
   ·simp at h1; omega) _
  have hown5 : ∀ k, (Value.slice A2 (Q.length + 1) cap2).ownBlock = some k → (Value.slice A Q.length cap).ownBlock = some k ∨ w.heap.size ≤ k := fun k hk => (hG2.2 k hk).imp id (fun h1 => by simp at h1; omega)
  have hB5 := hB4.set_ 1 (.slice A2 (Q.length + 1) cap2)
  have hM5 : HasM (w4.setCell ⟨g, 1, none⟩ (.slice A2 (Q.length + 1) cap2)) bm (ents Q) := (hM.kept hG2.1 (fun e => hrb e.symm)).same (by simp [World.setCell, Array.getElem?_modify, hgm])
  have hx5 := (hx.grown hG2.1 (fun e => by have := (hown _ e).2; omega)).elsewhere g 1 (.slice A2 (Q.length + 1) cap2) (by omega)
  have hch5 := (hch.trans (S' := foot g (.slice A Q.length cap) bm) (Chg.of_grown hG2.1 (fun k hk _ => .inr (.inl hk))) (fun _ _ h => h)).set_ g 1 (.slice A2 (Q.length + 1) cap2) (fun _ => .inl rfl)
  clear hM hx hch hO2 hG2 hB4 f4 c4
  generalize w4.setCell ⟨g, 1, none⟩ (.slice A2 (Q.length + 1) cap2) = w5 at hO5 hB5 hM5 hx5 hch5 ⊢
  obtain ⟨w6, hrun0, hM6, hG6⟩ := (show HasM w5.drew bm (ents Q) from hM5).store (a := a) (s := s) (by omega) hsm Hel.out Hne.out
  have hrun : (Instr.mapUpdate 157 (.map (some bm)) (.agg #[.int .i64 (a : Int), .string ⟨s.toArray⟩]) (.int .i64 ((Q.length : Int) + 1))).run Tryz.prog w5.drew = .ok () w6 := by
   rw [ents_len] at hrun0
   simpa [keyV, strV] using hrun0
  have hB6 := hB5.grown (w' := w6) (show w5.grownBy w6 (some bm) from ⟨hG6.os, hG6.tape, hG6.output, hG6.size, hG6.block⟩) (fun e => by injection e with e; omega)
  have hD6 := Lib.hid (show Dc w6 base g (.slice A2 (Q.length + 1) cap2) bm n (Q ++ [pth Q a ++ [s]]) from ⟨hB6, by rw [hE2.out]; exact World.ownsRow.kept hO5 (show w5.grownBy w6 (some bm) from ⟨hG6.os, hG6.tape, hG6.output, hG6.size, hG6.block⟩) (.inr (fun e => by
    rcases hown5 _ e with h1 | h1
    ·exact hrb h1
    ·omega)), by rw [hE2.out]; exact hM6, hgb, hmb, Hg.out⟩)
  have hch6 := Lib.hid (hch5.trans (S' := foot g (.slice A Q.length cap) bm) (c := w6) (Chg.of_grown (show w5.grownBy w6 (some bm) from ⟨hG6.os, hG6.tape, hG6.output, hG6.size, hG6.block⟩) (fun k hk _ => .inr (.inr (Option.some.inj hk).symm))) (fun _ _ h => h))
  have Hown5 := Lib.hid hown5
  have d1 : w5.cell? ⟨g, 1, none⟩ = some (.slice A2 (Q.length + 1) cap2) := hB5.cell 1
  have d2 : w5.cell? ⟨g, 2, none⟩ = some (.map (some bm)) := hB5.cell 2
  have d3 : w5.cell? ⟨w.heap.size, 0, none⟩ = some (.int .i64 (a : Int)) := hx5.cell 0
  have d4 : w5.cell? ⟨w.heap.size, 1, none⟩ = some (.string ⟨s.toArray⟩) := hx5.cell 1
  have d5 : w6.cell? ⟨g, 1, none⟩ = some (.slice A2 (Q.length + 1) cap2) := hB6.cell 1
  clear hrun0 hM6 hG6 hB6 hch5 hown5 hO5 hB5 hM5 hx5 hrb hgm hown
  go_wp2_with fail
  go_region_with (go_at_call 120; refine (len_raw (w := w5.drew) (A := A2) (m := Q.length + 1) (c := cap2) d1 (by omega)).mono ?_; rintro e w' ⟨rfl, rfl⟩)
  all_goals
   go_wp2_with fail
   refine (len_raw (w := w6) d5 (by omega)).mono ?_
   rintro e w' ⟨rfl, rfl⟩
   go_wp2_with fail
   go_ret
   exact ⟨_, by first | rfl | simp, hD6.out, hch6.out, Hown5.out⟩
end Go.Proofs.YtmepdkdeanbbaaaGreat
namespace Go.Proofs.YtmepdkdeanbbaaaGreat
set_option maxRecDepth 100000
open Go.RowKit

theorem makeMap_any (w : World) : (Instr.makeMap 157 none).run Tryz.prog w = .ok (.map (some w.heap.size)) (w.alloc (.map #[] 0)) := run_makeMap _ w
theorem block_sec (w : World) (o : Obj) (e : TypeId) (cs : Array Value) (g : Nat) (hg : g = w.heap.size + 1) : Block ((w.alloc o).alloc (.cells cs e)) g e cs := by
 subst hg
 have := Block.new (w.alloc o) e cs
 simpa using this
theorem new_dict (w : World) {n : Nat} (hn : 1 ≤ n ∧ n ≤ 3) {g : Nat} (hg : g = w.heap.size + 1) : Dc ((w.alloc (.map #[] 0)).alloc (.cells #[.int .i64 (n : Int), .slice none 0 0, .map (some w.heap.size)] 160)) w.heap.size g (.slice none 0 0) w.heap.size n [] :=
 ⟨block_sec _ _ _ _ _ hg, OwnE.nil_ _ _, (HasM.made w).alloc _, by omega, Nat.le_refl _, good_nil hn⟩
theorem new_any (w : World) {n : Nat} (hn : 1 ≤ n ∧ n ≤ 3) :
  Calls Tryz.prog 43 #[.int .i64 (n : Int)] w fun e w' => e = .returned (.pointer (some ⟨w.heap.size + 1, 0, none⟩)) ∧ Dc w' w.heap.size (w.heap.size + 1) (.slice none 0 0) w.heap.size n [] ∧ Below w.heap.size w w' := by
 have hmm := makeMap_any
 have h1 : ¬ (n : Int) < 1 := by omega
 have h2 : ¬ (3 : Int) < (n : Int) := by omega
 have H := fun g (hg : g = w.heap.size + 1) => Lib.hid (new_dict w hn hg)
 clear hn
 go_enter Tryz.func43, Tryz.ntmps43
 go_wp2
 go_ret
 exact ⟨by first | rfl | simp, (H _ rfl).out, below_a2 _ _ _⟩
def upA (Q : List Pth) (c k : Int) : Nat × Nat :=
 if 0 ≤ c ∧ c ≤ (Q.length : Int) then if 0 ≤ k ∧ k ≤ ((pth Q c.toNat).length : Int) then (fnd Q ((pth Q c.toNat).take k.toNat), 0) else (0, 1) else (0, 33)
theorem up_two {a b a' b' : Nat} (h : (a, b) = (a', b')) : Ending.returned (.tuple #[.int .i64 (a : Int), .int .i64 (b : Int)]) = .returned (.tuple #[.int .i64 (a' : Int), .int .i64 (b' : Int)]) := by
 injection h with h1 h2
 rw [h1, h2]
set_option maxRecDepth 100000 in
set_option maxHeartbeats 1000000 in
theorem dup_any {w : World} {base g : Nat} {pv : Value} {bm n : Nat} {Q : List Pth} (h : Dc w base g pv bm n Q) (c k : Int) {x e : Nat} (hx : Hid (upA Q c k = (x, e))) :
  Calls Tryz.prog 218 #[.pointer (some ⟨g, 0, none⟩), .int .i64 c, .int .i64 k] w fun y w' => y = .returned (.tuple #[.int .i64 (x : Int), .int .i64 (e : Int)]) ∧ Below w.heap.size w w' := by
 by_cases hc : 0 ≤ c ∧ c ≤ (Q.length : Int)
 ·obtain ⟨m, rfl⟩ : ∃ m : Nat, c = (m : Int) := ⟨c.toNat, by omega⟩
  obtain ⟨q, hq⟩ : ∃ q, Hid (pth Q m = q) := ⟨_, Lib.hid rfl⟩
  have hm : m ≤ Q.length := by omega
  have hh := Lib.hid (decide_eq_true hc)
  have hA : upA Q (m : Int) k = if 0 ≤ k ∧ k ≤ (q.length : Int) then (fnd Q (q.take k.toNat), 0) else (0, 1) := by
   unfold upA; rw [if_pos hc]; simp only [Int.toNat_natCast, hq.out]
  rw [hA] at hx
  have hl := line_any h m hm hq
  clear hc hA
  by_cases hk : 0 ≤ k
  ·by_cases hk2 : k ≤ (q.length : Int)
   ·obtain ⟨i, rfl⟩ : ∃ i : Nat, k = (i : Int) := ⟨k.toNat, by omega⟩
    have hi : i ≤ q.length := by omega
    have Hx : Hid ((fnd Q (q.take i), 0) = (x, e)) := Lib.hid (by have := hx.out; rw [if_pos ⟨hk, hk2⟩] at this; simpa using this)
    clear hx hk
    go_enter Tryz.func218, Tryz.ntmps218
    go_wp2_with fail
    refine (has_any h _ hh).mono ?_
    rintro y w' ⟨rfl, rfl⟩
    go_wp2_with fail
    refine hl.mono ?_
    rintro y w' ⟨v, rfl, hO, hB⟩
    obtain ⟨A, n', c', rfl, hI, _⟩ := hO.formN
    have hn' : n' = q.length + 1 := by rw [← hI.len, cds_len]
    have hin : i < n' := by omega
    obtain ⟨b, o, y, rfl, hb, hcell, hy⟩ := hI.at_ hin
    rw [cds_get (by omega)] at hy
    have Hn := Lib.hid hn'
    have hge : ¬ (n' : Int) ≤ (i : Int) := by omega
    have hcap := hI.cap
    have hcm := hI.capMax
    clear hO hn' hl hI hk2 hi
    go_wp2_with fail
    go_ret2
    exact ⟨by rw [hy.out]; exact up_two Hx.out, hB⟩
   ·have Hx : Hid ((0, 1) = (x, e)) := Lib.hid (by have := hx.out; rwa [if_neg (fun h => hk2 h.2)] at this)
    clear hx
    go_enter Tryz.func218, Tryz.ntmps218
    go_wp2_with fail
    refine (has_any h _ hh).mono ?_
    rintro y w' ⟨rfl, rfl⟩
    go_wp2_with fail
    refine hl.mono ?_
    rintro y w' ⟨v, rfl, hO, hB⟩
    obtain ⟨A, n', c', rfl, hI, _⟩ := hO.formN
    have hn' : n' = q.length + 1 := by rw [← hI.len, cds_len]
    have hge : (n' : Int) ≤ k := by omega
    have hcap := hI.cap
    have hcm := hI.capMax
    clear hO hn' hl hI hk2
    go_wp2_with fail
    go_ret2
    exact ⟨up_two Hx.out, hB⟩
  ·have Hx : Hid ((0, 1) = (x, e)) := Lib.hid (by have := hx.out; rwa [if_neg (fun h => hk h.1)] at this)
   clear hx
   go_enter Tryz.func218, Tryz.ntmps218
   go_wp2_with fail
   refine (has_any h _ hh).mono ?_
   rintro y w' ⟨rfl, rfl⟩
   go_wp2_with fail
   refine hl.mono ?_
   rintro y w' ⟨v, rfl, hO, hB⟩
   obtain ⟨A, n', c', rfl, hI, _⟩ := hO.formN
   clear hO hl hI
   go_wp2_with fail
   go_ret2
   exact ⟨up_two Hx.out, hB⟩
 ·have Hx : Hid ((0, 33) = (x, e)) := Lib.hid (by have := hx.out; unfold upA at this; rwa [if_neg hc] at this)
  have hh := Lib.hid (decide_eq_false hc)
  clear hx hc
  go_enter Tryz.func218, Tryz.ntmps218
  go_wp2_with fail
  refine (has_any h _ hh).mono ?_
  rintro y w' ⟨rfl, rfl⟩
  go_wp2_with fail
  go_ret2
  exact ⟨up_two Hx.out, Below.refl _ _⟩

theorem Good.ent_at {n : Nat} {Q : List Pth} (h : Good n Q) {q : Pth} (hq : q ∈ Q) {k : Nat} (hk : k < q.length) : ∃ i a, fnd Q (q.take (k + 1)) = i + 1 ∧ i < Q.length ∧ (ents Q)[i]? = some (a, q.getD k []) := by
 have hm := h.take_mem hq (k := k + 1) (by omega) hk
 have hp := fnd_pos.2 hm
 have hle := fnd_le (L := Q) (x := q.take (k + 1))
 have e1 : fnd Q (q.take (k + 1)) = (fnd Q (q.take (k + 1)) - 1) + 1 := by omega
 have e2 := ents_get (fnd_get hm)
 rw [last_take hk] at e2
 exact ⟨_, _, e1, by omega, e2⟩

set_option maxRecDepth 100000 in
set_option maxHeartbeats 1000000 in
theorem dictPath_any {w : World} {base g : Nat} {pv : Value} {bm n : Nat} {Q : List Pth} (h : Dc w base g pv bm n Q) (m : Nat) (hm : m ≤ Q.length) {q : Pth} (hq : Hid (pth Q m = q)) :
  Calls Tryz.prog 112 #[.pointer (some ⟨g, 0, none⟩), .int .i64 (m : Int)] w fun y w' => ∃ v, y = .returned (.tuple #[v, .int .i64 0]) ∧ OwnT w' w.heap.size v q ∧ Below w.heap.size w w' := by
 have hh : Hid (decide (0 ≤ (m : Int) ∧ (m : Int) ≤ (Q.length : Int)) = true) := Lib.hid (decide_eq_true (by omega))
 have hl := line_any h m hm hq
 have hqm : Hid (q = [] ∨ q ∈ Q) := Lib.hid (by
  rw [← hq.out]
  rcases Nat.eq_zero_or_pos m with h0 | h0
  ·left; rw [h0]; rfl
  ·right; exact pth_mem h0 hm)
 have hql : Hid (q.length ≤ 3) := Lib.hid (by have := h.good.pth_len (c := m); have := h.good.lv.2; rw [hq.out] at *; omega)
 have hgood := Lib.hid h.good
 have hlt := h.block.lt
 obtain ⟨A, cap, rfl, hE⟩ := h.form
 have hE' := Lib.hid hE
 have hcap := hE.cap
 have hQl := h.good.size
 have K : Hid (∀ y, Below w.heap.size w y → y.cell? ⟨g, 1, none⟩ = some (.slice A Q.length cap)) := Lib.hid fun y hy => (hy.cell (p := ⟨g, 1, none⟩) hlt).trans h.c1
 clear hE hm hq
 go_enter Tryz.func112, Tryz.ntmps112
 go_wp2_with fail
 refine (has_any h _ hh).mono ?_
 rintro y w' ⟨rfl, rfl⟩
 go_wp2_with fail
 refine hl.mono ?_
 rintro y w1 ⟨v, rfl, hO, hB⟩
 obtain ⟨g2, c', rfl, hg1, hg2, hcap', hcm', hcell⟩ := hO.formP (by rw [cds_len]; omega)
 rw [cds_len] at hcap' hcell
 have e0 := cds_len Q q (q.length + 1)
 rw [e0]
 clear e0
 have hcell2 := Lib.hid hcell
 obtain ⟨m2, hm2⟩ : ∃ m2, Hid (q.length = m2) := ⟨_, Lib.hid rfl⟩
 rw [hm2.out] at hcap' ⊢
 have hb2 : (m2 : Int) + 1 ≤ (c' : Int) := by omega
 have hb3 : (1 : Int) ≤ (c' : Int) := by omega
 have hb4 : (1 : Int) ≤ (m2 : Int) + 1 := by omega
 have Hb := Lib.hid hB
 have hs1 := hB.size
 clear hO hl hB hcell
 by_cases hcp : c' = 1
 ·obtain rfl : m2 = 0 := by omega
  have hq0 : Hid (q = []) := Lib.hid (List.eq_nil_of_length_eq_zero hm2.out)
  subst hcp
  clear hqm hql hgood K
  go_wp2_with fail
  go_loopw [6, 18] (fun v i wr => v = .slice none 0 0 ∧ i = .int .i64 0 ∧ wr = w1) (fun _ _ _ => 0)
  case atStart => exact ⟨rfl, rfl, rfl⟩
  case round =>
   obtain ⟨rfl, rfl, rfl⟩ := hrel
   go_wp2_with fail
   go_ret2
   exact ⟨_, rfl, by rw [hq0.out]; exact OwnT.nil_ _ _, Hb.out⟩
 ·go_wp2_with fail
  go_loopw [6, 18] (fun v i wr => ∃ k : Nat, k ≤ m2 ∧ i = .int .i64 k ∧ OwnT wr w1.heap.size v (q.take k) ∧ Below w1.heap.size w1 wr) (fun _ i _ => m2 - (intOf i).toNat)
  case atStart => exact ⟨0, Nat.zero_le _, rfl, OwnT.nil_ _ _, Below.refl _ _⟩
  case round =>
   obtain ⟨k, hk, rfl, hO, hB1⟩ := hrel
   have hBw := Hb.out.trans (hB1.mono hs1)
   by_cases hlt2 : k < m2
   ·have hc0 := (hB1.cell (p := ⟨g2, k + 1, none⟩) hg2).trans (hcell2.out (k + 1) (by have := hm2.out; omega))
    rw [cds_get (by have := hm2.out; omega)] at hc0
    have hqQ : q ∈ Q := by
     rcases hqm.out with e | e
     ·have := hm2.out; rw [e] at this; simp at this; omega
     ·exact e
    obtain ⟨i, a, e1, e2, e3⟩ := hgood.out.ent_at hqQ (k := k) (by have := hm2.out; omega)
    rw [e1] at hc0
    have hc1 : wr.cell? ⟨g2, 1 + k, none⟩ = some (.int .i64 ((i : Int) + 1)) := by rw [Nat.add_comm]; simpa using hc0
    obtain ⟨b2, o2, rfl, hb2', _, hc2⟩ := (hE'.out.below hBw).has i a _ e3
    obtain ⟨s, hs⟩ : ∃ s, Hid (s = q.getD k []) := ⟨_, Lib.hid rfl⟩
    have hc3 : wr.cell? ⟨b2, o2 + i * 2 + 1, none⟩ = some (.string ⟨s.toArray⟩) := by rw [hs.out]; exact hc2
    have c1 := K.out wr hBw
    have HT := Lib.hid (takeT_snoc (L := q) (k := k) (by have := hm2.out; omega) hs.out)
    have hz := hB1.size
    have hlb : Hid ((q.take k).length ≤ 1000000) := Lib.hid (Nat.le_trans (List.length_take_le k _) (by have := hm2.out; have := hql.out; omega))
    have hlo := fun g e => (hO.lt g e).1
    have hO1 := hO.alloc (.cells #[.string ⟨s.toArray⟩] 9)
    have hkk : (i : Int) + 1 - 1 = (i : Int) := by omega
    have hii : (0 : Int) ≤ (i : Int) := by omega
    clear e1 e3 hc2 hc0
    go_wp2_with (at_builtin; refine wpList_appT rfl _ _ rfl w1.heap.size _ _ rfl hO1 _ rfl s (cell_litT _ _ _ _ (by simp)) hlb.out (by rw [World.size_alloc]; omega) ?_)
    intro v' w2 hO2 hG2
    have hB2 := Lib.hid ((hB1.alloc hz (.cells #[.string ⟨s.toArray⟩] 9)).trans (hG2.below_ (by rw [World.size_alloc]; omega) hlo))
    rw [HT.out] at hO2
    have hO3 := Lib.hid hO2
    clear hO hO1 hO2 hG2 hlo hB1 hBw
    go_wp2_with fail
    go_roundw
    case rel => exact ⟨k + 1, by omega, by go_num, hO3.out, hB2.out⟩
    case measure => simp [intOf]; omega
   ·have hke : Hid (q.take k = q) := Lib.hid (List.take_of_length_le (by have := hm2.out; omega))
    rw [hke.out] at hO
    go_wp2_with fail
    go_ret2
    exact ⟨_, rfl, hO.low hs1, hBw⟩
end Go.Proofs.YtmepdkdeanbbaaaGreat
namespace Go.Proofs.YtmepdkdeanbbaaaGreat
set_option maxRecDepth 100000
open Go.RowKit

theorem wpList_make_roomI {P : Program} (w : World) {ops : Array Oper} {rest : List Oper} {o : Oper} {a : Act} {Q : Exit → Act → World → Prop}
  (hg : o.guard = none) (l c : Operand) (t : TypeId) (hop : o.op = Op.makeSlice t l c)
  (e : TypeId) (i : TypeInfo) (z : Value) (h1 : P.underlying t = some (.slice e)) (h2 : P.info? e = some i) (h3 : i.zero = some z) (h4 : i.size = 1) (h5 : i.bytes = 8)
  (N C : Int) (n k : Nat) (hl : a.eval l = .int .i64 N) (hc : a.eval c = .int .i64 C) (hN : N = n) (hC : C = k) (hnk : n ≤ k) (hk : k ≤ 1000000)
  (hK : wpList P ops Q rest (a.put o.dst (.slice (some ⟨w.heap.size, 0, none⟩) n k)) (w.alloc (.cells (madeCells z.cells k).toList.toArray e))) :
  wpList P ops Q (o :: rest) a w := by
 subst hN hC
 refine wpList_plain hg fun K hK' => ?_
 have hrun := run_make (P := P) w t e i z h1 h2 h3 .i64 .i64 n k (by omega) (by omega) (by rw [h5]; omega) (by omega)
 rw [h4, Nat.mul_one, Int.toNat_natCast, Int.toNat_natCast] at hrun
 unfold Oper.wp
 simp [execOp, hop, hl, hc, hrun, Result.andThen]
 exact hK' _ _ (by simpa using hK)
theorem made_row (w : World) (k : Nat) (hk : k ≤ 1000000) : OwnI (w.alloc (.cells (madeCells #[.int .i64 0] k).toList.toArray 3)) w.heap.size (.slice (some ⟨w.heap.size, 0, none⟩) 0 k) [] := by
 refine World.ownsRow_made w _ k (Nat.le_refl _) (by unfold maxLen; omega) ?_
 simp [size_madeCells]
theorem Good.look_known {n : Nat} {Q : List Pth} (h : Good n Q) {p : Pth} {k : Nat} (hk : k < p.length) (hm : p.take k = [] ∨ p.take k ∈ Q) {s : Txt} (hs : s = p.getD k []) {a : Nat} (ha : fnd Q (p.take k) = a) :
  a ≤ Q.length ∧ fnd (ents Q) (a, s) = fnd Q (p.take (k + 1)) ∧ decide ((a, s) ∈ ents Q) = decide (p.take (k + 1) ∈ Q) := by
 have hle : a ≤ Q.length := by rw [← ha]; exact fnd_le
 have e : pth Q a = p.take k := by
  rcases hm with e | e
  ·rw [← ha, e, h.fnd_nil]; rfl
  ·rw [← ha]; exact pth_fnd e
 have e2 : pth Q a ++ [s] = p.take (k + 1) := by
  rw [e, hs]
  exact takeT_snoc hk rfl
 refine ⟨hle, by rw [h.fnd_ents hle, e2], ?_⟩
 have := h.mem_ents (s := s) hle
 rw [e2] at this
 exact decide_eq_decide.2 this

set_option maxRecDepth 100000 in
set_option maxHeartbeats 2000000 in
theorem known_any {w : World} {base g : Nat} {pv : Value} {bm n : Nat} {Q : List Pth} (h : Dc w base g pv bm n Q) {A : Option Addr} {m c : Nat} {p : Pth} (hp : HasT w w.heap.size A m c p) (hmay : mayP p) :
  Calls Tryz.prog 162 #[.pointer (some ⟨g, 0, none⟩), .slice A m c] w fun e w' => ∃ v k, e = .returned v ∧ Known Q p k ∧ OwnI w' w.heap.size v (cds Q p (k + 1)) ∧ Below w.heap.size w w' := by
 obtain ⟨i0, hi, hz0, hz1, hz2⟩ := info_parts info_int
 have hgood := Lib.hid h.good
 have hm3 : m ≤ 3 := by rw [← hp.len]; exact hmay.1
 have Hpl := Lib.hid hp.len
 have Hmay := Lib.hid hmay
 have hD := Lib.hid h
 have hgl := h.block.lt
 have K : Hid (∀ y, Below w.heap.size w y → y.cell? ⟨g, 2, none⟩ = some (.map (some bm)) ∧ HasM y bm (ents Q)) := Lib.hid fun y hy => ⟨(hy.cell (p := ⟨g, 2, none⟩) hgl).trans h.c2, (h.below hy).map⟩
 have H1 := fun (W : World) (hW : W = w.alloc (.cells (madeCells #[.int .i64 0] (m + 1)).toList.toArray 3)) => Lib.hid (show OwnI W w.heap.size (.slice (some ⟨w.heap.size, 0, none⟩) 0 (m + 1)) [] ∧ Below w.heap.size w W from by subst hW; exact ⟨made_row w (m + 1) (by omega), below_a1 _ _⟩)
 clear hmay h
 go_enter Tryz.func162, Tryz.ntmps162
 go_wp2_with (first
  | (at_make; refine wpList_make_roomI _ rfl _ _ 47 rfl 3 i0 (.int .i64 0) Tryz.underlying47 hi hz0 hz1 hz2 0 ((m : Int) + 1) 0 (m + 1) rfl rfl rfl (by omega) (by omega) (by omega) ?_)
  | (at_builtin; refine wpList_appI rfl _ _ rfl w.heap.size _ _ rfl ((H1 _ rfl).out.1.alloc _) _ rfl 0 (cell_lit _ _ _ _ (by simp)) (by simp) (by simp; omega) ?_)
  | fail)
 intro v0 w1 hO0 hG0
 have hB1 : Below w.heap.size w w1 := ((H1 _ rfl).out.2.alloc (by simp) _).trans (hG0.below_ (by simp; omega) (fun k hk => by cases hk; exact Nat.le_refl _))
 have hO1 : OwnI w1 w.heap.size v0 (cds Q p (0 + 1)) := by rw [Nat.zero_add, cds_one hgood.out]; simpa using hO0
 clear hO0 hG0 H1
 go_wp2_with fail
 go_loopw [5, 18] (fun v i wr => ∃ k : Nat, k ≤ m ∧ i = .int .i64 k ∧ OwnI wr w.heap.size v (cds Q p (k + 1)) ∧ Below w.heap.size w wr ∧ Hid (∀ j, j < k → p.take (j + 1) ∈ Q)) (fun _ i _ => m - (intOf i).toNat)
 case atStart => exact ⟨0, Nat.zero_le _, rfl, hO1, hB1, Lib.hid (fun j hj => by omega)⟩
 case round =>
  obtain ⟨k, hk, rfl, hO, hB, hall⟩ := hrel
  by_cases hlt : k < m
  ·obtain ⟨b, o, s, rfl, hb, hc, es⟩ := (hp.below hB (Nat.le_refl _)).at_ hlt
   obtain ⟨a, ha⟩ : ∃ a, Hid (fnd Q (p.take k) = a) := ⟨_, Lib.hid rfl⟩
   obtain ⟨hal, hlk1, hlk2⟩ := hgood.out.look_known (p := p) (k := k) (by have := Hpl.out; omega) (by
    cases k with
    | zero => left; rfl
    | succ k => right; exact hall.out k (by omega)) es.out ha.out
   have hQ40 := hgood.out.size
   have hsl : s.length ≤ maxLen := by
    have h1 := (Hmay.out.2 s (by rw [es.out, List.getD_eq_getElem?_getD, List.getElem?_eq_getElem (by have := Hpl.out; omega)]; exact List.getElem_mem _)).2.1
    unfold maxLen; omega
   obtain ⟨c2, hM⟩ := K.out wr hB
   have hrun0 := fun q => (hM.drewN q).look (a := a) (s := s) (by omega) hsl
   rw [hlk1, hlk2] at hrun0
   obtain ⟨g2, cap2, rfl, hg1, hg2, hcap', hcm', hcell⟩ := hO.formP (by rw [cds_len]; omega)
   have hlo := fun g e => (hO.lt g e).1
   have hck := hcell k (by rw [cds_len]; omega)
   rw [cds_get (by omega), ha.out] at hck
   have hHid := Lib.hid hO
   rw [cds_len] at hcap'
   have e0 := cds_len Q p (k + 1)
   rw [e0] at hHid
   simp only [e0]
   clear e0 hcell hO hM hlk1 hlk2 hsl
   have hsz := hB.size
   have hki : (0 : Int) ≤ (k : Int) := by omega
   have hkl : (k : Int) < (k : Int) + 1 := by omega
   have hkk : IntKind.i64.wrap ((k : Int) + 1 - 1) = (k : Int) := by rw [show (k : Int) + 1 - 1 = (k : Int) by omega]; exact IntWalk.i64_in _ (by omega)
   by_cases hyes : p.take (k + 1) ∈ Q
   ·have hrun : ∀ q, (Instr.lookup 157 (.map (some bm)) (.agg #[.int .i64 (a : Int), .string ⟨s.toArray⟩]) true).run Tryz.prog (wr.drewN q) = .ok (.tuple #[.int .i64 (fnd Q (p.take (k + 1)) : Nat), .bool true]) (wr.drewN q) := fun q => by
     have := hrun0 q
     rwa [decide_eq_true hyes] at this
    obtain ⟨d, hd⟩ : ∃ d, Hid (fnd Q (p.take (k + 1)) = d) := ⟨_, Lib.hid rfl⟩
    rw [hd.out] at hrun
    have hall2 : Hid (∀ j, j < k + 1 → p.take (j + 1) ∈ Q) := Lib.hid fun j hj => by
     rcases Nat.lt_or_ge j k with h1 | h1
     ·exact hall.out j h1
     ·obtain rfl : j = k := by omega
      exact hyes
    clear hyes hrun0
    go_wp2_with fail
    go_quiet (fail)
    have hO1 := (hHid.out.drewN nq).alloc (.cells #[.int .i64 (d : Int)] 3)
    have hJ := Lib.hid (cds_succ Q p (k + 1))
    rw [hd.out] at hJ
    have hll : Hid ((cds Q p (k + 1)).length ≤ 1000000) := Lib.hid (by rw [cds_len]; omega)
    go_wp2_with (at_builtin; refine wpList_appI rfl _ _ rfl w.heap.size _ _ rfl hO1 _ rfl d (cell_lit _ _ _ _ (by simp)) hll.out (by rw [World.size_alloc]; exact Nat.le_succ_of_le hsz) ?_)
    intro v2 w2 hO2 hG2
    have hB2 := Lib.hid (((below_drewN hB nq).alloc hsz (.cells #[.int .i64 (d : Int)] 3)).trans (hG2.below_ (by rw [World.size_alloc]; exact Nat.le_succ_of_le hsz) hlo))
    rw [← hJ.out] at hO2
    have hO3 := Lib.hid hO2
    clear hO1 hO2 hG2 hlo hB hkk
    go_wp2_with fail
    go_roundw
    case rel => exact ⟨k + 1, by omega, by go_num, hO3.out, hB2.out, hall2⟩
    case measure => simp [intOf]; omega
   ·have hrun : ∀ q, (Instr.lookup 157 (.map (some bm)) (.agg #[.int .i64 (a : Int), .string ⟨s.toArray⟩]) true).run Tryz.prog (wr.drewN q) = .ok (.tuple #[.int .i64 (fnd Q (p.take (k + 1)) : Nat), .bool false]) (wr.drewN q) := fun q => by
     have := hrun0 q
     rwa [decide_eq_false hyes] at this
    have hkn : Hid (Known Q p k) := Lib.hid ⟨by have := Hpl.out; omega, hall.out, .inr hyes⟩
    clear hyes hrun0
    go_wp2_with fail
    go_quiet (fail)
    go_wp2_with fail
    go_ret
    exact ⟨_, k, rfl, hkn.out, hHid.out.drewN _, below_drewN hB _⟩
  ·have hkn : Hid (Known Q p k) := Lib.hid ⟨by have := Hpl.out; omega, hall.out, .inl (by have := Hpl.out; omega)⟩
   go_wp2_with fail
   go_ret
   exact ⟨_, k, rfl, hkn.out, hO, hB⟩

end Go.Proofs.YtmepdkdeanbbaaaGreat
namespace Go.Proofs.YtmepdkdeanbbaaaGreat
set_option maxRecDepth 100000
open Go.RowKit

section
variable {w w' : World} {base g : Nat} {pv : Value} {bm n : Nat} {Q : List Pth}
theorem Dc.foot_row (h : Dc w base g pv bm n Q) {B e size m : Nat} {v : Value} {xs : List Value} (hr : w.ownsRow B e size v m xs) (h1 : e ≠ 160) (h2 : e ≠ 168) : ∀ k, v.ownBlock = some k → ¬ foot g pv bm k := by
 intro k hk hf
 rcases hr.2 with ⟨rfl, _⟩ | ⟨g', cap, cur, rfl, _, hg, _⟩
 ·cases hk
 ·simp only [Value.ownBlock, Option.some.injEq] at hk
  subst hk
  rcases hf with rfl | hf | rfl
  ·have hb : w.heap[g']? = some (.cells _ _ _) := h.block
   rw [hg] at hb
   simp only [Option.some.injEq, Obj.cells.injEq] at hb
   exact h1 hb.2.1
  ·rcases h.row.2 with ⟨rfl, _⟩ | ⟨g2, cap2, cur2, rfl, _, hg2, _⟩
   ·cases hf
   ·simp only [Value.ownBlock, Option.some.injEq] at hf
    subst hf
    rw [hg] at hg2
    simp only [Option.some.injEq, Obj.cells.injEq] at hg2
    exact h2 hg2.2.1
  ·obtain ⟨es, clock, he⟩ := h.map.is_map
   rw [hg] at he
   cases he
theorem Dc.grown_row (h : Dc w base g pv bm n Q) {B e size m : Nat} {v : Value} {xs : List Value} (hr : w.ownsRow B e size v m xs) (h1 : e ≠ 160) (h2 : e ≠ 168) (hg : w.grownBy w' v.ownBlock) : Dc w' base g pv bm n Q :=
 h.chg (S := fun k => v.ownBlock = some k) (Chg.of_grown hg fun _ hk _ => hk) fun k hk hs => h.foot_row hr h1 h2 k hs hk
theorem HasT.chg {S : Nat → Prop} {B m c : Nat} {A : Option Addr} {l : List Txt} (h : HasT w B A m c l) (hB : B ≤ w.heap.size) (hc : Chg S w w') (hS : ∀ ad, A = some ad → ¬ S ad.block) : HasT w' B A m c l :=
 ⟨h.len, h.cap, h.fit, h.void, fun hn => by
  obtain ⟨b, o, e, hb, hcell⟩ := h.has hn
  exact ⟨b, o, e, hb, fun j u hu => (World.cell?_of_block (hc.block b (by omega) (hS _ e))).trans (hcell j u hu)⟩⟩
end
def TellI (w : World) (B : Nat) (v : Value) (l : List Int) : Prop :=
 (v = .slice none 0 0 ∧ l = []) ∨ ∃ g c x, v = .slice (some ⟨g, 1, none⟩) l.length c ∧ OwnI w B (.slice (some ⟨g, 0, none⟩) (l.length + 1) (c + 1)) (x :: l)
theorem TellI.read {w : World} {B : Nat} {v : Value} {l : List Int} (h : TellI w B v l) : ∃ A m c, v = .slice A m c ∧ HasI w w.heap.size A m c l ∧ ∀ ad, A = some ad → B ≤ ad.block := by
 rcases h with ⟨rfl, rfl⟩ | ⟨g, c, x, rfl, hO⟩
 ·exact ⟨none, 0, 0, rfl, ⟨rfl, Nat.le_refl _, Nat.zero_le _, fun _ => rfl, Has.nil_⟩, fun _ h => by cases h⟩
 ·obtain ⟨A', n', c', e, hI, hb⟩ := hO.formN
  injection e with e1 e2 e3
  subst e1 e2 e3
  refine ⟨_, _, _, rfl, ?_, fun ad had => by injection had with had; subst had; exact hb ⟨g, 0, none⟩ rfl⟩
  have hcap := hI.cap
  have hl := hI.len
  refine ⟨rfl, by simp at hl; omega, by have := hI.fit; omega, (fun h => by cases h), fun hn => ?_⟩
  obtain ⟨b, o, e, hb2, hc⟩ := hI.has (by simp)
  injection e with e
  injection e with e1 e2 e3
  subst e1 e2
  refine ⟨g, 1, rfl, hb2, fun j u hu => ?_⟩
  have := hc (j + 1) u (by simpa using hu)
  rwa [Nat.zero_add, Nat.add_comm] at this

theorem Good.take_code {n : Nat} {Q : List Pth} (h : Good n Q) {p : Pth} {k : Nat} (hk : k < p.length) (hm : p.take k = [] ∨ p.take k ∈ Q) {a : Nat} (ha : fnd Q (p.take k) = a) : a ≤ Q.length ∧ pth Q a ++ [p.getD k []] = p.take (k + 1) := by
 refine ⟨by rw [← ha]; exact fnd_le, ?_⟩
 have e : pth Q a = p.take k := by
  rcases hm with e | e
  ·rw [← ha, e, h.fnd_nil]; rfl
  ·rw [← ha]; exact pth_fnd e
 rw [e]
 exact takeT_snoc hk rfl
theorem TellI.of {w : World} {B B' : Nat} {g c : Nat} {l : List Int} {m : Nat} (h : OwnI w B (.slice (some ⟨g, 0, none⟩) (m + 1) c) l) (hB : B' ≤ B) (hc : 1 < c) : TellI w B' (.slice (some ⟨g, 1, none⟩) m (c - 1)) (l.drop 1) := by
 have hl := h.len_
 rcases l with _ | ⟨x, r⟩
 ·simp at hl
 ·have e : r.length = m := by simpa using hl
  subst e
  refine .inr ⟨g, c - 1, x, rfl, ?_⟩
  rw [show c - 1 + 1 = c by omega]
  exact h.low hB

def AddPost (w : World) (base g : Nat) (pv : Value) (bm n : Nat) (Q : List Pth) (p : Pth) (y : Ending) (w' : World) : Prop :=
 ∃ v pv', y = .returned (.tuple #[v, .int .i64 ((addE n Q p : Nat) : Int)]) ∧ TellI w' w.heap.size v (addC n Q p) ∧ Dc w' base g pv' bm n (addQ n Q p) ∧ Chg (foot g pv bm) w w' ∧ ∀ k, pv'.ownBlock = some k → pv.ownBlock = some k ∨ w.heap.size ≤ k

set_option maxRecDepth 100000 in
set_option maxHeartbeats 2000000 in
theorem add_any {w : World} {base g : Nat} {pv : Value} {bm n : Nat} {Q : List Pth} (h : Dc w base g pv bm n Q) {A : Option Addr} {m c : Nat} {p : Pth} (hp : HasT w w.heap.size A m c p) (hfar : 0 < m → ∀ ad, A = some ad → ¬ foot g pv bm ad.block) :
  Calls Tryz.prog 103 #[.pointer (some ⟨g, 0, none⟩), .slice A m c] w (AddPost w base g pv bm n Q p) := by
 have hpl := hp.len
 have hc0 := h.c0
 by_cases hmn : m = n
 ·subst hmn
  by_cases hm : mayP p
  ·have hmb := Lib.hid (decide_eq_true hm)
   have hmy := may_any hp
   rw [hmb.out] at hmy
   have hnn : ((m : Int) != (m : Int)) = false := by simp
   have hD := Lib.hid h
   have Hm := Lib.hid hm
   have hm1 := h.good.lv.1
   have hm3 := h.good.lv.2
   have hQ40 := h.good.size
   have hbase : base ≤ w.heap.size := Nat.le_trans h.gb (Nat.le_of_lt h.block.lt)
   have Hpl := Lib.hid hpl
   have Hfar := Lib.hid (hfar (by omega))
   obtain ⟨b, o, _, rfl, hb, _, _⟩ := hp.at_ (k := 0) (by omega)
   have hP := Lib.hid hp
   have hcap := hp.cap
   have hcm := hp.capMax
   clear hm h hp hpl hfar hc0
   go_enter Tryz.func103, Tryz.ntmps103
   have c0 := hD.out.c0
   go_wp2_with fail
   refine hmy.mono ?_
   rintro y w1 ⟨rfl, hB1⟩
   clear hmy
   go_wp2_with fail
   refine (known_any (hD.out.below hB1) (hP.out.belowS hB1) Hm.out).mono ?_
   rintro y w2 ⟨v, k, rfl, hk, hO, hB2⟩
   have hB := hB1.trans (hB2.mono hB1.size)
   have hO := hO.low hB1.size
   have hkm : k ≤ m := by have := hk.1; have := Hpl.out; omega
   have HK := Lib.hid hk
   have hlack := hD.out.good.lack_drop hk.1 hk.2.1 hk.2.2
   have hlackl : (lackP Q p).length = m - k := by rw [hlack, List.length_drop, pres_len, Hpl.out]
   have hD2 := Lib.hid (hD.out.below hB)
   have hch2 : Hid (Chg (foot g pv bm) w w2) := Lib.hid (Chg.of_below hB (Nat.le_refl _))
   have hs2 := hB.size
   have HO := Lib.hid hO
   obtain ⟨g2, cap2, rfl, hg1, hg2, hcap', hcm', hcell⟩ := hO.formP (by rw [cds_len]; omega)
   rw [cds_len] at hcap'
   have e0 := cds_len Q p (k + 1)
   rw [e0] at HO ⊢
   have hk0 : (0 : Int) ≤ (k : Int) := by omega
   have hk1 : (k : Int) ≤ (m : Int) := by omega
   have hk2 : (m : Int) ≤ (c : Int) := by omega
   have hk3 : (k : Int) ≤ (c : Int) := by omega
   have hkk : (k : Int) + 1 - 1 = (k : Int) := by omega
   clear e0 hcell hO hk hB hB1 hB2 hmb
   by_cases h40 : Q.length + (m - k) ≤ 40
   ·obtain ⟨e1, e2, e3⟩ := add_ok (n := m) (Q := Q) (p := p) ⟨Hpl.out, Hm.out⟩ (by rw [hlackl]; exact h40)
    rw [hlack, ← grown_all HK.out.1, Hpl.out] at e1 e2
    rw [← cds_drop, Hpl.out] at e2
    have H1 := Lib.hid e1
    have H2 := Lib.hid e2
    have H3 := Lib.hid e3
    have h40' : ¬ (40 : Int) < (Q.length : Int) + ((m - k : Nat) : Int) := by omega
    have H40 := Lib.hid h40
    clear e1 e2 e3 hlack hlackl h40
    by_cases hcp : c = k
    ·obtain rfl : k = m := by omega
     subst hcp
     have h40'' : ¬ (40 : Int) < (Q.length : Int) := by have := H40.out; omega
     clear h40'
     have hge := hD2.out.good.lv.1
     have hc21 : ¬ cap2 = 1 := by omega
     have hx1 : (1 : Int) ≤ (c : Int) + 1 := by omega
     have hx2 : (c : Int) + 1 ≤ (cap2 : Int) := by omega
     have hx3 : (1 : Int) ≤ (cap2 : Int) := by omega
     have hT := Lib.hid (TellI.of HO.out (Nat.le_refl _) (by omega))
     have HQ : Hid (grown Q p c (c - c) = Q) := Lib.hid (by rw [Nat.sub_self, grown_zero])
     rw [HQ.out] at H1 H2
     go_wp2_with fail
     refine (len_any hD2.out).mono ?_
     rintro y w' ⟨rfl, rfl⟩
     go_wp2_with fail
     go_loopw [6, 38] (fun v i wr => v = .slice (some ⟨g2, 0, none⟩) (c + 1) cap2 ∧ i = .int .i64 0 ∧ wr = w2) (fun _ _ _ => 0)
     case atStart => exact ⟨rfl, rfl, rfl⟩
     case round =>
      obtain ⟨rfl, rfl, rfl⟩ := hrel
      go_wp2_with fail
      go_ret2
      exact ⟨_, pv, by rw [H3.out]; rfl, by rw [H2.out]; exact hT.out, by rw [H1.out]; exact hD2.out, hch2.out, fun k hk => .inl hk⟩
    ·go_wp2_with fail
     refine (len_any hD2.out).mono ?_
     rintro y w' ⟨rfl, rfl⟩
     go_wp2_with fail
     go_loopw [6, 38] (fun v i wr => ∃ (j : Nat) (pv' : Value), j ≤ m - k ∧ i = .int .i64 j ∧ OwnI wr w.heap.size v (cds (grown Q p k j) p (k + j + 1)) ∧ Dc wr base g pv' bm m (grown Q p k j) ∧ Chg (foot g pv bm) w wr ∧ Hid (∀ k, pv'.ownBlock = some k → pv.ownBlock = some k ∨ w.heap.size ≤ k)) (fun _ i _ => m - (intOf i).toNat)
     case atStart => exact ⟨0, pv, Nat.zero_le _, rfl, by rw [grown_zero]; exact HO.out, by rw [grown_zero]; exact hD2.out, hch2.out, Lib.hid (fun k hk => .inl hk)⟩
     case round =>
      obtain ⟨j, pv', hj, rfl, hO, hDj, hch, hown⟩ := hrel
      by_cases hlt : j < m - k
      ·have hkj : k + j < p.length := by have := Hpl.out; omega
       have hgj := grown_good hD.out.good Hm.out.2 (Nat.le_of_eq Hpl.out) HK.out (by rw [Hpl.out]; exact H40.out) (j := j) (by have := Hpl.out; omega)
       have hgj1 := grown_good hD.out.good Hm.out.2 (Nat.le_of_eq Hpl.out) HK.out (by rw [Hpl.out]; exact H40.out) (j := j + 1) (by omega)
       obtain ⟨s, hs⟩ : ∃ s, Hid (s = p.getD (k + j) []) := ⟨_, Lib.hid rfl⟩
       obtain ⟨a, ha⟩ : ∃ a, Hid (fnd (grown Q p k j) (p.take (k + j)) = a) := ⟨_, Lib.hid rfl⟩
       obtain ⟨hal, htk⟩ := hgj.take_code (p := p) (k := k + j) hkj (by
        rcases Nat.eq_zero_or_pos (k + j) with h0 | h0
        ·left; rw [h0]; rfl
        ·right
         obtain ⟨i, hi⟩ : ∃ i, k + j = i + 1 := ⟨k + j - 1, by omega⟩
         rw [hi]
         exact grown_mem HK.out (by omega) (by omega)) ha.out
       rw [← hs.out] at htk
       have hsn : nameP s := Hm.out.2 s (by rw [hs.out, List.getD_eq_getElem?_getD, List.getElem?_eq_getElem hkj]; exact List.getElem_mem _)
       have hnew : pth (grown Q p k j) a ++ [s] ∉ grown Q p k j := by rw [htk]; exact grown_new HK.out (by omega) hkj hD.out.good
       rw [grown_succ hkj, ← htk] at hgj1
       have hcome := come_any hDj hal hsn hnew hgj1
       rw [htk, ← grown_succ hkj, grown_len (by omega)] at hcome
       have hcd := Lib.hid (grown_cds hD.out.good HK.out hkj)
       have hpw := (hP.out.chg (Nat.le_refl _) hch Hfar.out).has
       obtain ⟨b', o', eb, _, hcl⟩ := hpw (by simp; omega)
       injection eb with eb
       injection eb with eb1 eb2 _
       subst eb1 eb2
       have hcs : wr.cell? ⟨b, o + k + j, none⟩ = some (.string ⟨s.toArray⟩) := by
        rw [Nat.add_assoc, hs.out]
        exact hcl (k + j) _ (by simp [strV, List.getElem?_map, List.getD_eq_getElem?_getD, List.getElem?_eq_getElem hkj])
       obtain ⟨r, hr⟩ : ∃ r, Hid (k + j = r) := ⟨_, Lib.hid rfl⟩
       have hfr := hDj.foot_row hO (by decide) (by decide)
       obtain ⟨g3, cap3, rfl, hg31, hg32, hcap3, hcm3, hcell3⟩ := hO.formP (by rw [cds_len]; omega)
       have hck := hcell3 (k + j) (by rw [cds_len]; omega)
       rw [cds_get (by omega), ha.out, hr.out] at hck
       rw [cds_len, hr.out] at hcap3
       have e0 := cds_len (grown Q p k j) p (k + j + 1)
       rw [hr.out] at hO e0 hcd
       rw [e0] at hO
       simp only [hr.out]
       rw [e0]
       have HOj := Lib.hid hO
       have hrr : (r : Int) + 1 - 1 = (r : Int) := by omega
       have hr0 : (0 : Int) ≤ (r : Int) := by omega
       have hjj : ((j : Nat) : Int) < ((m - k : Nat) : Int) := by omega
       have hsz := hch.size
       have Hch := Lib.hid hch
       obtain ⟨d, hd⟩ : ∃ d, Hid (Q.length + j + 1 = d) := ⟨_, Lib.hid rfl⟩
       rw [hd.out] at hcome hcd
       have hcome2 := Lib.hid hcome
       have Hlt := Lib.hid hlt
       have hr40 : Hid (r ≤ 100) := Lib.hid (by rw [← hr.out]; omega)
       clear hpw hcl hsn hnew htk hgj hgj1 hcome hO hDj hch hkj hcell3 e0 hal
       go_wp2_with fail
       refine hcome2.out.mono ?_
       rintro y w3 ⟨pv3, rfl, hD3, hch3, hown3⟩
       have hO3 := hch3.row HOj.out hfr
       have hO4 : OwnI (w3.alloc (.cells #[.int .i64 (d : Int)] 3)) w.heap.size (.slice (some ⟨g3, 0, none⟩) (r + 1) cap3) (cds (grown Q p k j) p (r + 1)) := World.ownsRow.alloc hO3 _
       have hD4 := hD3.below (below_a1 w3 (.cells #[.int .i64 (d : Int)] 3))
       have hsz3 := Nat.le_trans hsz hch3.size
       have hll : Hid ((cds (grown Q p k j) p (r + 1)).length ≤ 1000000) := Lib.hid (by rw [cds_len]; have := hr40.out; omega)
       have hch4 : Chg (foot g pv bm) w (w3.alloc (.cells #[.int .i64 (d : Int)] 3)) := (Hch.out.trans hch3 (fun k hk hf => by
        rcases hf with hf | hf | hf
        ·exact .inl hf
        ·rcases hown.out k hf with h1 | h1
         ·exact .inr (.inl h1)
         ·omega
        ·exact .inr (.inr hf))).alloc _
       have hown4 : Hid (∀ k, pv3.ownBlock = some k → pv.ownBlock = some k ∨ w.heap.size ≤ k) := Lib.hid fun k hk => by
        rcases hown3 k hk with h1 | h1
        ·exact hown.out k h1
        ·exact .inr (Nat.le_trans hsz h1)
       have HD4 := Lib.hid hD4
       have Hch4 := Lib.hid hch4
       clear hO3 hD3 hch3 hown3 hD4 hch4 hcome2
       go_wp2_with (at_builtin; refine wpList_appI rfl _ _ rfl w.heap.size _ _ rfl hO4 _ rfl d (cell_lit _ _ _ _ (by simp)) hll.out (by rw [World.size_alloc]; omega) ?_)
       intro v4 w4 hO5 hG5
       have hD5 := Lib.hid (HD4.out.grown_row hO4 (by decide) (by decide) hG5.1)
       have hch5 := Lib.hid (Hch4.out.trans (S' := fun k => (Value.slice (some ⟨g3, 0, none⟩) (r + 1) cap3).ownBlock = some k) (c := w4) (Chg.of_grown hG5.1 fun k hk _ => hk) (fun k hk hs => by
        have := (World.ownsRow.lt HOj.out k hs).1
        omega))
       have hO6 : Hid (OwnI w4 w.heap.size v4 (cds (grown Q p k (j + 1)) p (k + (j + 1) + 1))) := Lib.hid (by rw [hcd.out]; exact hO5)
       clear hO4 hO5 hG5
       go_wp2_with fail
       go_roundw
       case rel => exact ⟨j + 1, pv3, by have := Hlt.out; omega, by go_num, hO6.out, hD5.out, hch5.out, hown4⟩
       case measure => have := Hlt.out; simp [intOf]; omega
      ·obtain rfl : j = m - k := by omega
       have hkj : k + (m - k) + 1 = m + 1 := by omega
       rw [hkj] at hO
       obtain ⟨g3, cap3, rfl, hg31, hg32, hcap3, hcm3, _⟩ := hO.formP (by rw [cds_len]; omega)
       rw [cds_len] at hcap3
       have e0 := cds_len (grown Q p k (m - k)) p (m + 1)
       rw [e0] at hO ⊢
       have hT := Lib.hid (TellI.of hO (Nat.le_refl _) (by omega))
       rw [← H2.out] at hT
       have hx1 : (1 : Int) ≤ (m : Int) + 1 := by omega
       have hx2 : (m : Int) + 1 ≤ (cap3 : Int) := by omega
       have hx3 : (1 : Int) ≤ (cap3 : Int) := by omega
       have hc31 : ¬ cap3 = 1 := by omega
       rw [← H1.out] at hDj
       have hF := Lib.hid (show Dc wr base g pv' bm m (addQ m Q p) ∧ Chg (foot g pv bm) w wr ∧ _ from ⟨hDj, hch, hown.out⟩)
       clear e0 hO hDj hch hown hkj hlt hj
       go_wp2_with fail
       go_ret2
       exact ⟨_, pv', by rw [H3.out]; rfl, hT.out, hF.out.1, hF.out.2.1, hF.out.2.2⟩
   ·obtain ⟨e1, e2, e3⟩ := add_full (n := m) (Q := Q) (p := p) ⟨Hpl.out, Hm.out⟩ (by rw [hlackl]; omega)
    have H1 := Lib.hid e1
    have H2 := Lib.hid e2
    have H3 := Lib.hid e3
    have h40' : (40 : Int) < (Q.length : Int) + ((m - k : Nat) : Int) := by omega
    have hcp : ¬ c = k := by omega
    clear e1 e2 e3 hlack hlackl h40
    go_wp2_with fail
    refine (len_any hD2.out).mono ?_
    rintro y w' ⟨rfl, rfl⟩
    go_wp2_with fail
    go_ret2
    exact ⟨_, pv, by rw [H3.out]; rfl, by rw [H2.out]; exact .inl ⟨rfl, rfl⟩, by rw [H1.out]; exact hD2.out, hch2.out, fun k hk => .inl hk⟩
  ·obtain ⟨e1, e2, e3⟩ := add_name (n := m) (Q := Q) (p := p) (fun a => hm a.2)
   have H1 := Lib.hid e1
   have H2 := Lib.hid e2
   have H3 := Lib.hid e3
   have hmb := Lib.hid (decide_eq_false hm)
   have hmy := may_any hp
   rw [hmb.out] at hmy
   have hnn : ((m : Int) != (m : Int)) = false := by simp
   have hD := Lib.hid h
   clear hm e1 e2 e3 h
   go_enter Tryz.func103, Tryz.ntmps103
   go_wp2_with fail
   refine hmy.mono ?_
   rintro y w1 ⟨rfl, hB1⟩
   go_wp2_with fail
   go_ret2
   exact ⟨_, pv, by rw [H3.out]; rfl, by rw [H2.out]; exact .inl ⟨rfl, rfl⟩, by rw [H1.out]; exact hD.out.below hB1, Chg.of_below hB1 (Nat.le_refl _), fun k hk => .inl hk⟩
 ·obtain ⟨e1, e2, e3⟩ := add_name (n := n) (Q := Q) (p := p) (fun a => hmn (by rw [← hpl]; exact a.1))
  have H1 := Lib.hid e1
  have H2 := Lib.hid e2
  have H3 := Lib.hid e3
  have hnn : ((m : Int) != (n : Int)) = true := by simp; omega
  have hD := Lib.hid h
  clear e1 e2 e3 h hmn
  go_enter Tryz.func103, Tryz.ntmps103
  go_wp2_with fail
  go_ret2
  exact ⟨_, pv, by rw [H3.out]; rfl, by rw [H2.out]; exact .inl ⟨rfl, rfl⟩, by rw [H1.out]; exact hD.out, Chg.refl _ _, fun k hk => .inl hk⟩
end Go.Proofs.YtmepdkdeanbbaaaGreat
namespace Go.Proofs.YtmepdkdeanbbaaaGreat
set_option maxRecDepth 100000
open Go.RowKit

end Go.Proofs.YtmepdkdeanbbaaaGreat
namespace Go.Proofs.YtmepdkdeanbbaaaGreat
set_option maxRecDepth 100000
open Go.RowKit

theorem OwnE.empty (w : World) : OwnE (w.alloc (.cells #[] 168)) w.heap.size (.slice (some ⟨w.heap.size, 0, none⟩) 0 0) [] :=
 ⟨rfl, .inr ⟨w.heap.size, 0, #[], rfl, Nat.le_refl _, heap_alloc_new w _, Nat.le_refl _, Nat.zero_le _, rfl, rfl⟩⟩
set_option maxRecDepth 100000 in
theorem cloneE_any {w : World} {base : Nat} {A : Option Addr} {m c : Nat} {E : List (Nat × Txt)} (h : OwnE w base (.slice A m c) E) (hm : m ≤ 1000) :
  Calls Tryz.prog 101 #[.slice A m c] w fun e w' => ∃ A' c', e = .returned (.slice A' m c') ∧ OwnE w' w.heap.size (.slice A' m c') E ∧ Below w.heap.size w w' := by
 obtain ⟨i0, hi, hz0, hz1, hz2⟩ := info_parts info_path
 have hform := h.2
 rcases hform with ⟨e, h0⟩ | ⟨g, cap, cur, e, hb, hg, hnc, hcm, _⟩
 ·injection e with e1 e2 e3
  subst e1 e2 e3
  obtain rfl : E = [] := List.eq_nil_of_length_eq_zero h0
  have q : ∀ W, (binOp .eql 158 (.slice none 0 0) (.slice none 0 0)).run Tryz.prog W = .ok (.bool true) W := fun W => Lib.run_eql_slice_nil W _ _ none 0 0 0 0 Tryz.underlying158
  go_enter Tryz.func101, Tryz.ntmps101
  go_wp2
  go_ret
  exact ⟨none, 0, rfl, OwnE.nil_ _ _, Below.refl _ _⟩
 ·injection e with e1 e2 e3
  subst e1 e3
  have q : ∀ W, (binOp .eql 158 (.slice (some ⟨g, 0, none⟩) m c) (.slice none 0 0)).run Tryz.prog W = .ok (.bool false) W := fun W => Lib.run_eql_slice_nil W _ _ (some ⟨g, 0, none⟩) m c 0 0 Tryz.underlying158
  have hcells := Lib.hid (World.ownsRow.cells (World.ownsRow.alloc h (.cells #[] 168)) (g := g) rfl)
  have hEm : E.length = m := e2.symm
  have HE := Lib.hid hEm
  clear hg hEm e2
  go_enter Tryz.func101, Tryz.ntmps101
  go_wp2_with (at_builtin; refine wpList_append_own_at _ rfl _ _ 158 rfl w.heap.size 168 i0 _ 2 24 Tryz.underlying158 hi hz0 hz1 hz2 rfl (by decide) _ 0 [] rfl (OwnE.empty w) ⟨g, 0, none⟩ m c (E.flatMap pcs) rfl (by rw [pcs_len, HE.out]) hcells.out (pcs_one E) (by unfold maxLen; omega) (by omega) (by simp) ?_)
  intro v2 w2 hO hG hnil _
  have hO2 : OwnE w2 w.heap.size v2 E := by unfold OwnE; rw [HE.out]; simpa using hO
  have hB2 : Below w.heap.size w w2 := ⟨hG.os, hG.tape, hG.output, Nat.le_trans (by simp) hG.size, fun k hk => (hG.block k (by simp; omega) (fun e => by simp [Value.ownBlock] at e; omega)).trans (Below.heap_alloc w _ k hk)⟩
  obtain ⟨A2, c2, rfl, _⟩ := hO2.form
  have hF := Lib.hid (show OwnE w2 w.heap.size (.slice A2 m c2) E ∧ Below w.heap.size w w2 from ⟨by have := hO2; rwa [HE.out] at this, hB2⟩)
  rw [HE.out]
  clear hO hG hnil hO2 hB2
  go_wp2
  go_ret
  exact ⟨A2, c2, rfl, hF.out.1, hF.out.2⟩
set_option maxRecDepth 100000 in
set_option maxHeartbeats 1000000 in
theorem cloneM_any {w : World} {b : Nat} {E : List (Nat × Txt)} (h : HasM w b E) :
  Calls Tryz.prog 102 #[.map (some b)] w fun e w' => e = .returned (.map (some w.heap.size)) ∧ HasM w' w.heap.size E ∧ Below w.heap.size w w' := by
 obtain ⟨n, D, ⟨es, clock, hb, F, hs, hD⟩, hn, hlook⟩ := h
 have hq := fun w => run_eql_map_nil_sl (P := Tryz.prog) w 157 _ _ (some b) Tryz.underlying157
 have hF := Lib.hid (show HasM (w.alloc (.map es clock)) w.heap.size E ∧ Below w.heap.size w (w.alloc (.map es clock)) from ⟨⟨n, D, ⟨es, clock, (MapKept.heap_alloc w _).1, F, hs, hD⟩, hn, hlook⟩, below_a1 w _⟩)
 clear F hs hD hlook
 go_enter Tryz.func102, Tryz.ntmps102
 go_wp2
 rw [run_callFunc_extern Tryz.func161 (by kernel_rfl) (by kernel_rfl) (by kernel_rfl) (e := Extern.MapsClone.clone) (by kernel_rfl), run_maps_clone_sl w 157 hb]
 simp only [Result.andThen]
 rw [Oper.upon_value]
 go_wp2
 rw [run_typeAssert_map_sl _ 157 20 _ _ _ Tryz.underlying157]
 simp only [Result.andThen]
 rw [Oper.upon_value]
 go_wp2
 go_ret
 exact ⟨rfl, hF.out.1, hF.out.2⟩
set_option maxRecDepth 100000 in
set_option maxHeartbeats 2000000 in
theorem copy_any {w : World} {base g : Nat} {pv : Value} {bm n : Nat} {Q : List Pth} (h : Dc w base g pv bm n Q) :
  Calls Tryz.prog 48 #[.pointer (some ⟨g, 0, none⟩)] w fun e w' => ∃ g' pv' bm', e = .returned (.pointer (some ⟨g', 0, none⟩)) ∧ Dc w' w.heap.size g' pv' bm' n Q ∧ Below w.heap.size w w' := by
 have hgl := h.block.lt
 have hQ := h.good.size
 have HH := Lib.hid h
 have K : Hid (∀ y, Below w.heap.size w y → y.cell? ⟨g, 0, none⟩ = some (.int .i64 (n : Int)) ∧ y.cell? ⟨g, 1, none⟩ = some pv ∧ y.cell? ⟨g, 2, none⟩ = some (.map (some bm))) := Lib.hid fun y hy => ⟨(h.below hy).c0, (h.below hy).c1, (h.below hy).c2⟩
 obtain ⟨A, cap, rfl, _⟩ := h.form
 have c0 := h.c0
 have c1 := h.c1
 have c2 := h.c2
 have hrow : OwnE w.drew base (.slice A Q.length cap) (ents Q) := h.row
 have hcl := cloneE_any hrow (by omega)
 clear h
 go_enter Tryz.func48, Tryz.ntmps48
 go_wp2_with fail
 go_region_held3 (fun w' => w'.cell? ⟨g, 0, none⟩ = some (.int .i64 (n : Int)) ∧ w'.cell? ⟨g, 1, none⟩ = some (.slice A Q.length cap) ∧ w'.cell? ⟨g, 2, none⟩ = some (.map (some bm)))
  (first
   | go_keep
   | exact K.out _ hBB2
   | exact K.out _ hBB1)
  (first
   | (go_at_call 101; refine hcl.mono ?_; rintro e w1 ⟨A1, cap1, rfl, hO1, hB1⟩; have hBB1 : Below w.heap.size w w1 := ((below_drewN (Below.refl _ w) 1).trans hB1); have hM1 := (HH.out.below hBB1).map)
   | (go_at_call 102; refine (cloneM_any hM1).mono ?_; rintro e w2 ⟨rfl, hM2, hB2⟩; have hBB2 := hBB1.trans (hB2.mono hBB1.size)))
 have hs1 := hBB1.size
 have hs2 := hBB2.size
 have hF := Lib.hid (show Dc (w2.alloc (.cells #[.int .i64 (n : Int), .slice A1 Q.length cap1, .map (some w1.heap.size)] 160)) w.heap.size w2.heap.size (.slice A1 Q.length cap1) w1.heap.size n Q ∧ Below w.heap.size w (w2.alloc (.cells #[.int .i64 (n : Int), .slice A1 Q.length cap1, .map (some w1.heap.size)] 160)) from
  ⟨⟨Block.new w2 _ _, OwnE.alloc (w := w2) (OwnE.low (OwnE.below hO1 hB2) (Nat.le_refl _)) _, hM2.alloc _, hs2, hs1, HH.out.good⟩, hBB2.alloc hs2 _⟩)
 clear hO1 hB1 hB2 hM1 hM2 hBB1 hBB2
 go_wp2_with fail
 go_ret
 exact ⟨_, _, _, rfl, hF.out.1, hF.out.2⟩
end Go.Proofs.YtmepdkdeanbbaaaGreat
