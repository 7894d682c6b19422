/- Layer 7: a path that comes. -/
import Derived.Test.YtccdjjpkcahgfaaDictO
import Derived.Test.YtccdjjpkcahgfaaLay
import Derived.Test.YtccdjjpkcahgfaaNamesU
import Derived.BigQuiet
import Derived.Deep.QuietTactic
import Derived.Deep.RegionLaw
namespace Go.Proofs.Ytccdjjpkcahgfaa
open Go.RowKit

theorem info_path : (Try.prog.info? 77).map (fun i => (i.zero, i.size, i.bytes)) = some (some (.agg #[.int .i64 0, .string ByteArray.empty]), 2, 24) := by kernel_rfl
theorem OwnE.alloc {w : World} {base : Nat} {v : Value} {E : List (Nat × Txt)} (h : OwnE w base v E) (o : Obj) : OwnE (w.alloc o) base v E := World.ownsRow.alloc h o
/-- One pair more, inside a region that draws its order. -/
theorem step_appE {w : World} {ops : Array Oper} {o : Oper} {a : Act} {Q : Exit → Act → World → Prop} {K : Act → World → Prop} {F : Prop} (hgd : o.guard = none) (s x : Operand)
    (ho : o.op = .call { callee := .builtin .append, args := #[s, x], argTypes := #[67, 67] })
    (base : Nat) (v : Value) (L : List (Nat × Txt)) (hs : a.eval s = v) (hown : OwnE w base v L) (g : Nat) (hx : a.eval x = .slice (some ⟨g, 0, none⟩) 1 1) (k : Nat) (t : Txt)
    (hy : ∀ j u, (pcs (k, t))[j]? = some u → w.cell? ((⟨g, 0, none⟩ : Addr).add j) = some u) (hl : L.length ≤ 1000) (hbase : base ≤ w.heap.size)
    (h : ∀ v' w', OwnE w' base v' (L ++ [(k, t)]) → Grew w v w' v' → K (a.put o.dst v') w') :
    if Region.wanted o (yielded ops a.tmps) = true then Oper.wp Try.prog o a w K Q else F := by
  have hw : Region.wanted o (yielded ops a.tmps) = true := by simp [Region.wanted, hgd]
  rw [if_pos hw]
  obtain ⟨i, hi, hz0, hz1, hz2⟩ := info_parts info_path
  obtain ⟨v', w', hrun, h2, h3, _, h5⟩ := run_append_own_at (P := Try.prog) w base 67 o.type 77 i _ 2 24 Try.underlying67 hi hz0 hz1 hz2 rfl (by decide) v L.length (L.flatMap pcs) hown ⟨g, 0, none⟩ 1 1 (pcs (k, t)) rfl hy
    (fun u hu => by simp [pcs] at hu; rcases hu with rfl | rfl <;> rfl) (by unfold maxLen; omega) (by omega) hbase
  unfold Oper.wp execOp
  simp only [ho, resolve, invoke, builtin, Sem.run_bind, Sem.run_pure, Result.andThen_ok, List.map_toArray, List.map_cons, List.map_nil, hs, hx, hrun]
  refine h v' w' (by unfold OwnE; simpa using h2) ⟨h3, fun q hq => ?_⟩
  rcases h5 with h5 | h5
  · exact .inl (h5 ▸ hq)
  · rw [h5] at hq
    injection hq with hq
    exact .inr (Nat.le_of_eq hq)
theorem cell_pair (w : World) (k : Nat) (t : Txt) (e : TypeId) (g : Nat) (hg : g = w.heap.size) : ∀ j u, (pcs (k, t))[j]? = some u → (w.alloc (.cells #[.int .i64 (k : Int), .string ⟨t.toArray⟩] e)).cell? ((⟨g, 0, none⟩ : Addr).add j) = some u := by
  intro j u hj
  subst hg
  rw [add_flat, Nat.zero_add, cell_new]
  simpa [pcs, strV] using hj

/-- Len, whatever else the dictionary holds. -/
theorem len_raw {w : World} {g : Nat} {A : Option Addr} {m c : Nat} (h1 : w.cell? ⟨g, 1, none⟩ = some (.slice A m c)) (_hm : m ≤ 1000) :
    Calls Try.prog 26 #[.pointer (some ⟨g, 0, none⟩)] w fun e w' => e = .returned (.int .i64 (m : Nat)) ∧ w = w' := by
  go_enter Try.func26, Try.ntmps26
  go_wp2
  go_ret
  exact ⟨rfl, rfl⟩
/-- strings.Clone. -/
theorem cloneS_any (s : ByteArray) (w : World) (hs : s.size ≤ 281474976710656) :
    Calls Try.prog 63 #[.string s] w fun e w' => e = .returned (.string s) ∧ Below w.heap.size w w' := by
  have h := Try.stringslite_Clone s w hs
  go_enter Try.func63, Try.ntmps63
  go_wp2_with fail
  refine h.mono ?_
  rintro e w' ⟨rfl, hB⟩
  go_wp2_with fail
  go_ret
  exact ⟨rfl, hB⟩

set_option maxRecDepth 100000 in
set_option maxHeartbeats 2000000 in
theorem come_any {w : World} {base g : Nat} {pv : Value} {bm n : Nat} {Q : List Pth} (h : Dc w base g pv bm n Q) {a : Nat} {s : Txt} (ha : a ≤ Q.length) (hs : nameP s) (hnew : pth Q a ++ [s] ∉ Q) (hg : Good n (Q ++ [pth Q a ++ [s]])) :
    Calls Try.prog 50 #[.pointer (some ⟨g, 0, none⟩), .agg #[.int .i64 (a : Int), .string ⟨s.toArray⟩]] w fun e w' => ∃ pv', e = .returned (.int .i64 ((Q.length + 1 : Nat) : Int)) ∧ Dc w' base g pv' bm n (Q ++ [pth Q a ++ [s]]) ∧
      Chg (foot g pv bm) w w' ∧ (∀ k, pv'.ownBlock = some k → pv.ownBlock = some k ∨ w.heap.size ≤ k) := by
  obtain ⟨A, cap, rfl, hEr⟩ := h.form
  clear hEr
  have hgl := h.block.lt
  have hbl := h.map.lt
  have hgb := h.gb
  have hmb := h.mb
  have hQ := h.good.size
  have hne : (a, s) ∉ ents Q := fun hm => hnew ((h.good.mem_ents ha).1 hm)
  have hE2 := Lib.hid (h.good.mayC_ents (s := s) ha)
  have hsz : (⟨s.toArray⟩ : ByteArray).size ≤ 281474976710656 := by
    have := hs.2.1
    show s.toArray.size ≤ _
    simp; omega
  have hsm : s.length ≤ maxLen := by have := hs.2.1; unfold maxLen; omega
  have hw1 := below_a1 w (.cells #[.int .i64 (a : Int), .string ⟨s.toArray⟩] 77)
  have hcl := cloneS_any ⟨s.toArray⟩ (w.alloc (.cells #[.int .i64 (a : Int), .string ⟨s.toArray⟩] 77)) hsz
  have hbx := Block.new w 77 #[.int .i64 (a : Int), .string ⟨s.toArray⟩]
  go_enter Try.func50, Try.ntmps50
  go_wp2_with fail
  refine hcl.mono ?_
  rintro e w2 ⟨rfl, hB2⟩
  have hx2 := hbx.below hB2 (by simp)
  have hf2 := hx2.free 1
  have k2 : w2.cell? ⟨w.heap.size, 1, none⟩ = some (.string ⟨s.toArray⟩) := hx2.cell 1
  have hx3 := hx2.set_ 1 (.string ⟨s.toArray⟩)
  have hw3 : Below w.heap.size w (w2.setCell ⟨w.heap.size, 1, none⟩ (.string ⟨s.toArray⟩)) := (below_then hw1 hB2).setCell (p := ⟨w.heap.size, 1, none⟩) (Nat.le_refl _) _
  clear hcl hbx hB2 hx2 hw1
  go_wp2_with fail
  obtain ⟨w3, he3⟩ : ∃ w3, w3 = w2.setCell ⟨w.heap.size, 1, none⟩ (.string ⟨s.toArray⟩) := ⟨_, rfl⟩
  rw [← he3] at hx3 hw3 ⊢
  clear he3 hf2 k2
  have hD := h.below hw3
  have hs3 := hw3.size
  have c1 := hD.c1
  have k0 : w3.cell? ⟨w.heap.size, 0, none⟩ = some (.int .i64 (a : Int)) := hx3.cell 0
  have k1 : w3.cell? ⟨w.heap.size, 1, none⟩ = some (.string ⟨s.toArray⟩) := hx3.cell 1
  have hff := hD.block.free 1
  have hO1 : OwnE (w3.drew.alloc (.cells #[.int .i64 (a : Int), .string ⟨s.toArray⟩] 77)) base (.slice A Q.length cap) (ents Q) := OwnE.alloc (w := w3.drew) hD.row _
  have hpr := cell_pair w3.drew a s 77 w3.heap.size rfl
  have hbs : base ≤ (w3.drew.alloc (.cells #[.int .i64 (a : Int), .string ⟨s.toArray⟩] 77)).heap.size := by simp; omega
  have hel : (ents Q).length ≤ 1000 := by rw [ents_len]; omega
  have hbr := hD.block
  have hrg := hD.row_g
  have HO1 := Lib.hid hO1
  have Hpr := Lib.hid hpr
  have Hbs := Lib.hid hbs
  have Hel := Lib.hid hel
  have HB := Lib.hid (show Block (w3.drew.alloc (.cells #[.int .i64 (a : Int), .string ⟨s.toArray⟩] 77)) g 69 _ from Block.alloc (w := w3.drew) hbr _)
  have c1a : (w3.alloc (.cells #[.int .i64 (a : Int), .string ⟨s.toArray⟩] 77)).drew.cell? ⟨g, 1, none⟩ = some (.slice A Q.length cap) := HB.out.cell 1
  clear hO1 hpr hbs hel hbr
  have HL2 : Hid ((ents Q ++ [(a, s)]).length = Q.length + 1) := Lib.hid (by simp [ents_len])
  have hch0 : Chg (foot g (.slice A Q.length cap) bm) w (w3.drew.alloc (.cells #[.int .i64 (a : Int), .string ⟨s.toArray⟩] 77)) := Chg.alloc (b := w3.drew) ((Chg.of_below hw3 (Nat.le_refl _)).drewN 1) _
  have hM0 : HasM (w3.drew.alloc (.cells #[.int .i64 (a : Int), .string ⟨s.toArray⟩] 77)) bm (ents Q) := HasM.alloc (w := w3.drew) hD.map _
  have hx0 : Block (w3.drew.alloc (.cells #[.int .i64 (a : Int), .string ⟨s.toArray⟩] 77)) w.heap.size 77 _ := Block.alloc (w := w3.drew) hx3 _
  have hrb := h.row_bm
  have hgm := h.g_bm
  have hown := fun k hk => World.ownsRow.lt h.row k hk
  have Hh := Lib.hid (show Chg (foot g (.slice A Q.length cap) bm) w _ ∧ HasM _ bm (ents Q) ∧ Block _ w.heap.size 77 _ ∧ (Value.slice A Q.length cap).ownBlock ≠ some bm ∧ g ≠ bm ∧ (∀ k, (Value.slice A Q.length cap).ownBlock = some k → base ≤ k ∧ k < w.heap.size) from ⟨hch0, hM0, hx0, hrb, hgm, hown⟩)
  have Hg := Lib.hid hg
  have Hne := Lib.hid hne
  clear hch0 hM0 hx0 hrb hgm hown hg hne hnew hs
  go_region_law (refine step_appE rfl _ _ rfl base _ (ents Q) rfl HO1.out _ rfl a s Hpr.out Hel.out Hbs.out ?_; intro v2 w4 hO2 hG2; obtain ⟨A2, cap2, e2, hE2r⟩ := hO2.form; rw [HL2.out] at e2; subst e2; have hB4 := HB.out.grown hG2.1 hrg; have f4 := hB4.free 1; have c4 : w4.cell? ⟨g, 1, none⟩ = some (.slice A Q.length cap) := hB4.cell 1; clear hE2r)
  all_goals
    obtain ⟨hch, hM, hx, hrb, hgm, hown⟩ := Hh.out
    have hO5 : OwnE (w4.setCell ⟨g, 1, none⟩ (.slice A2 (Q.length + 1) cap2)) base (.slice A2 (Q.length + 1) cap2) (ents Q ++ [(a, s)]) := ownsRow_setCell_other hO2 (a := ⟨g, 1, none⟩) (fun e => by
      rcases hG2.2 g e with h1 | h1
      · exact hrg h1
      · simp at h1; omega) _
    have hown5 : ∀ k, (Value.slice A2 (Q.length + 1) cap2).ownBlock = some k → (Value.slice A Q.length cap).ownBlock = some k ∨ w.heap.size ≤ k := fun k hk => (hG2.2 k hk).imp id (fun h1 => by simp at h1; omega)
    have hB5 := hB4.set_ 1 (.slice A2 (Q.length + 1) cap2)
    have hM5 : HasM (w4.setCell ⟨g, 1, none⟩ (.slice A2 (Q.length + 1) cap2)) bm (ents Q) := (hM.kept hG2.1 (fun e => hrb e.symm)).same (by simp [World.setCell, Array.getElem?_modify, hgm])
    have hx5 := (hx.grown hG2.1 (fun e => by have := (hown _ e).2; omega)).elsewhere g 1 (.slice A2 (Q.length + 1) cap2) (by omega)
    have hch5 := (hch.trans (S' := foot g (.slice A Q.length cap) bm) (Chg.of_grown hG2.1 (fun k hk _ => .inr (.inl hk))) (fun _ _ h => h)).set_ g 1 (.slice A2 (Q.length + 1) cap2) (fun _ => .inl rfl)
    clear hM hx hch hO2 hG2 hB4 f4 c4
    generalize w4.setCell ⟨g, 1, none⟩ (.slice A2 (Q.length + 1) cap2) = w5 at hO5 hB5 hM5 hx5 hch5 ⊢
    obtain ⟨w6, hrun0, hM6, hG6⟩ := (show HasM w5.drew bm (ents Q) from hM5).store (a := a) (s := s) (by omega) hsm Hel.out Hne.out
    have hrun : (Instr.mapUpdate 66 (.map (some bm)) (.agg #[.int .i64 (a : Int), .string ⟨s.toArray⟩]) (.int .i64 ((Q.length : Int) + 1))).run Try.prog w5.drew = .ok () w6 := by
      rw [ents_len] at hrun0
      simpa [keyV, strV] using hrun0
    have hB6 := hB5.grown (w' := w6) (show w5.grownBy w6 (some bm) from ⟨hG6.os, hG6.tape, hG6.output, hG6.size, hG6.block⟩) (fun e => by injection e with e; omega)
    have hD6 := Lib.hid (show Dc w6 base g (.slice A2 (Q.length + 1) cap2) bm n (Q ++ [pth Q a ++ [s]]) from ⟨hB6, by rw [hE2.out]; exact World.ownsRow.kept hO5 (show w5.grownBy w6 (some bm) from ⟨hG6.os, hG6.tape, hG6.output, hG6.size, hG6.block⟩) (.inr (fun e => by
        rcases hown5 _ e with h1 | h1
        · exact hrb h1
        · omega)), by rw [hE2.out]; exact hM6, hgb, hmb, Hg.out⟩)
    have hch6 := Lib.hid (hch5.trans (S' := foot g (.slice A Q.length cap) bm) (c := w6) (Chg.of_grown (show w5.grownBy w6 (some bm) from ⟨hG6.os, hG6.tape, hG6.output, hG6.size, hG6.block⟩) (fun k hk _ => .inr (.inr (Option.some.inj hk).symm))) (fun _ _ h => h))
    have Hown5 := Lib.hid hown5
    have d1 : w5.cell? ⟨g, 1, none⟩ = some (.slice A2 (Q.length + 1) cap2) := hB5.cell 1
    have d2 : w5.cell? ⟨g, 2, none⟩ = some (.map (some bm)) := hB5.cell 2
    have d3 : w5.cell? ⟨w.heap.size, 0, none⟩ = some (.int .i64 (a : Int)) := hx5.cell 0
    have d4 : w5.cell? ⟨w.heap.size, 1, none⟩ = some (.string ⟨s.toArray⟩) := hx5.cell 1
    have d5 : w6.cell? ⟨g, 1, none⟩ = some (.slice A2 (Q.length + 1) cap2) := hB6.cell 1
    clear hrun0 hM6 hG6 hB6 hch5 hown5 hO5 hB5 hM5 hx5 hrb hgm hown
    go_wp2_with fail
    go_region_with (go_at_call 26; refine (len_raw (w := w5.drew) (A := A2) (m := Q.length + 1) (c := cap2) d1 (by omega)).mono ?_; rintro e w' ⟨rfl, rfl⟩)
    all_goals
      go_wp2_with fail
      refine (len_raw (w := w6) d5 (by omega)).mono ?_
      rintro e w' ⟨rfl, rfl⟩
      go_wp2_with fail
      go_ret
      exact ⟨_, by first | rfl | simp, hD6.out, hch6.out, Hown5.out⟩
end Go.Proofs.Ytccdjjpkcahgfaa
