/- Facts, Qrys -/
import Derived.Test.YtmcccpbpijnbmaaDoorJ10
import Derived.Test.YtmcccpbpijnbmaaDoorJ12
import Derived.Test.YtmcccpbpijnbmaaDoorJ16
namespace Go.Proofs.YtmcccpbpijnbmaaDoor
set_option maxRecDepth 100000
open Go.RowKit

theorem elPath_ok : (elRow elText 1).Ok := elRow_ok elText_ok
theorem elPaths_ok : (elRow (elRow elText 1) 1).Ok := elRow_ok elPath_ok
theorem elPathO_ok : (elOwn elText 9 1).Ok := elOwn_ok elText_ok
theorem info_rowT : (Tryd.prog.info? 41).map (fun i => (i.zero, i.size, i.bytes)) = some (some (.slice none 0 0), 1, 24) := by kernel_rfl
/-! ### Facts that came in -/
theorem cells_paths : Tryd.prog.cellsOf 55 = 1 := by kernel_rfl
end Go.Proofs.YtmcccpbpijnbmaaDoor
namespace Go.Proofs.YtmcccpbpijnbmaaDoor
set_option maxRecDepth 100000
open Go.RowKit

abbrev elMem : ElT (List (List Txt)) := elRow (elRow elText 1) 1
abbrev elFil : ElT Fil := elPair elInt 1 (elPair elInt 1 elMem)
theorem elFil_ok : elFil.Ok := elPair_ok elInt_ok (elPair_ok elInt_ok elPaths_ok)
theorem elFil_open {w : World} {S : Nat → Prop} {us : List Value} {f : Fil} (h : elFil w S us f) : ∃ A n c, us = [.int .i64 f.1, .int .i64 f.2.1, .slice A n c] ∧ Row (elRow elText 1) 1 w S A n c f.2.2 := by
 obtain ⟨h1, h2, A, n, c, h3, h4⟩ := h
 have h1 : us.take 1 = [.int .i64 f.1] := h1
 have h2 : (us.drop 1).take 1 = [.int .i64 f.2.1] := h2
 refine ⟨A, n, c, ?_, h4⟩
 have e := List.take_append_drop 1 us
 have e2 := List.take_append_drop 1 (us.drop 1)
 rw [← e, ← e2, h1, h2, h3]
 rfl
theorem elFil_mk {w : World} {S : Nat → Prop} {d v : Int} {A : Option Addr} {n c : Nat} {M : List (List Txt)} (h : Row (elRow elText 1) 1 w S A n c M) : elFil w S [.int .i64 d, .int .i64 v, .slice A n c] (d, v, M) := ⟨rfl, rfl, A, n, c, rfl, h⟩
theorem Row.atF {w : World} {S : Nat → Prop} {A : Option Addr} {n c : Nat} {L : List Fil} (h : Row elFil 3 w S A n c L) {k : Nat} (hk : k < n) : ∃ b o d v A' n' c' M, A = some ⟨b, o, none⟩ ∧ S b ∧ b < w.heap.size ∧
  w.cell? ⟨b, o + k * 3, none⟩ = some (.int .i64 d) ∧ w.cell? ⟨b, o + k * 3 + 1, none⟩ = some (.int .i64 v) ∧ w.cell? ⟨b, o + k * 3 + 2, none⟩ = some (.slice A' n' c') ∧ Row (elRow elText 1) 1 w S A' n' c' M ∧ Hid (L[k]? = some (d, v, M)) := by
 obtain ⟨b, o, us, x, e, hb, hl, _, hc, hx, hL⟩ := h.at_ hk
 obtain ⟨A', n', c', rfl, hM⟩ := elFil_open hx
 exact ⟨b, o, x.1, x.2.1, A', n', c', x.2.2, e, hb, hl, hc 0 _ rfl, hc 1 _ rfl, hc 2 _ rfl, hM, hL⟩
abbrev qryV (A1 : Option Addr) (n1 c1 : Nat) (A2 : Option Addr) (n2 c2 : Nat) : Value := .agg #[.slice A1 n1 c1, .slice A2 n2 c2]
structure HasQ (w : World) (S : Nat → Prop) (A1 : Option Addr) (n1 c1 : Nat) (A2 : Option Addr) (n2 c2 : Nat) (q : Qry) : Prop where
 g : Row elInt 1 w S A1 n1 c1 q.1
 f : Row elFil 3 w S A2 n2 c2 q.2
theorem HasQ.mv {w w' : World} {S S' : Nat → Prop} {A1 A2 : Option Addr} {n1 c1 n2 c2 : Nat} {q : Qry} (h : HasQ w S A1 n1 c1 A2 n2 c2 q) (m : Mv w S w' S') : HasQ w' S' A1 n1 c1 A2 n2 c2 q := ⟨h.g.mv elInt_ok m, h.f.mv elFil_ok m⟩
theorem HasQ.belowS {w w' : World} {S : Nat → Prop} {A1 A2 : Option Addr} {n1 c1 n2 c2 : Nat} {q : Qry} (h : HasQ w S A1 n1 c1 A2 n2 c2 q) (hb : Below w.heap.size w w') : HasQ w' S A1 n1 c1 A2 n2 c2 q := h.mv (Mv.belowS hb S)

/-! ### what came in -/
theorem cells_filter : Tryd.prog.cellsOf 57 = 3 := by kernel_rfl
theorem cells_query : Tryd.prog.cellsOf 32 = 2 := by kernel_rfl
theorem cells_filters : Tryd.prog.cellsOf 30 = 1 := by kernel_rfl
def isI64 (x : Int) : Prop := -9223372036854775808 ≤ x ∧ x ≤ 9223372036854775807
def FilIn (f : Fil) : Prop := isI64 f.1 ∧ isI64 f.2.1 ∧ ∀ p ∈ f.2.2, ∀ s ∈ p, s.length ≤ maxLen
def QryIn (q : Qry) : Prop := (∀ x ∈ q.1, isI64 x) ∧ ∀ f ∈ q.2, FilIn f
theorem fil_of {w : World} {cs : List Value} (h : RC Tryd.prog w 57 cs) : ∃ f, elFil w (fun b => b < w.heap.size) cs f ∧ FilIn f := by
 have hl := h.len Tryd.underlying57
 rw [cells_filter] at hl
 have f1 := h.field Tryd.underlying57 0 _ rfl
 have f2 := h.field Tryd.underlying57 1 _ rfl
 have f3 := h.field Tryd.underlying57 2 _ rfl
 obtain ⟨d, h1, k1⟩ := RC.elInt (S := fun b => b < w.heap.size) Tryd.underlying3 f1
 obtain ⟨v, h2, k2⟩ := RC.elInt (S := fun b => b < w.heap.size) Tryd.underlying3 f2
 obtain ⟨M, h3, k3⟩ := RC.elRow (E := elRow elText 1) (G := fun p => ∀ s ∈ p, s.length ≤ maxLen) Tryd.underlying55 cells_strings (by decide)
  (fun cs h => RC.elRow (E := elText) (G := fun s => s.length ≤ maxLen) Tryd.underlying41 cells_string (by decide) (fun cs h => RC.elText Tryd.underlying9 h) h) f3
 refine ⟨(d, v, M), ⟨?_, ?_, ?_⟩, k1, k2, k3⟩
 ·have h1 : elInt w (fun b => b < w.heap.size) ((cs.drop 0).take (Tryd.prog.cellsOf 3)) d := h1
  rw [cells_int1] at h1
  exact h1
 ·have h2 : elInt w (fun b => b < w.heap.size) ((cs.drop 1).take (Tryd.prog.cellsOf 3)) v := h2
  rw [cells_int1] at h2
  exact h2
 ·have h3 : elMem w (fun b => b < w.heap.size) ((cs.drop 2).take (Tryd.prog.cellsOf 55)) M := h3
  rw [cells_paths, List.take_of_length_le (by simp; omega)] at h3
  rw [List.drop_drop]
  exact h3
theorem query_of {w : World} {cs : List Value} (h : RC Tryd.prog w 32 cs) : ∃ (A1 : Option Addr) (n1 c1 : Nat) (A2 : Option Addr) (n2 c2 : Nat) (q : Qry), cs = [.slice A1 n1 c1, .slice A2 n2 c2] ∧ HasQ w (fun b => b < w.heap.size) A1 n1 c1 A2 n2 c2 q ∧ QryIn q := by
 have hl := h.len Tryd.underlying32
 rw [cells_query] at hl
 have f1 := h.field Tryd.underlying32 0 _ rfl
 have f2 := h.field Tryd.underlying32 1 _ rfl
 obtain ⟨A1, n1, c1, e1⟩ := f1.slice_shape Tryd.underlying29
 obtain ⟨A2, n2, c2, e2⟩ := f2.slice_shape Tryd.underlying30
 rw [e1] at f1
 rw [e2] at f2
 obtain ⟨G, h1, k1⟩ := f1.row (E := elInt) (G := isI64) Tryd.underlying29 cells_int1 (by decide) fun _ h => RC.elInt Tryd.underlying3 h
 obtain ⟨L, h2, k2⟩ := f2.row (E := elFil) (G := FilIn) Tryd.underlying30 cells_filter (by decide) fun _ h => fil_of h
 have e1 : (cs.drop 0).take (Tryd.prog.cellsOf 29) = [.slice A1 n1 c1] := e1
 have e2 : (cs.drop 1).take (Tryd.prog.cellsOf 30) = [.slice A2 n2 c2] := e2
 rw [cells_ints] at e1
 rw [cells_filters] at e2
 match cs, hl with
 | [u0, u1], _ =>
  simp at e1 e2
  subst e1 e2
  exact ⟨A1, n1, c1, A2, n2, c2, (G, L), rfl, ⟨h1, h2⟩, k1, k2⟩
end Go.Proofs.YtmcccpbpijnbmaaDoor
