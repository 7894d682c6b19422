/- What is asked of a reader: the elements of the second argument. -/
import Derived.Test.YteiamhhhiagmpaaRows
import Derived.Test.YteiamhhhiagmpaaReads
import Derived.Test.YteiamhhhiagmpaaWireRefRd
namespace Go.Proofs.Yteiamhhhiagmpaa
open Go.RowKit

theorem cells_ask : Try.prog.cellsOf 39 = 4 := by kernel_rfl
theorem cells_bool : Try.prog.cellsOf 4 = 1 := by kernel_rfl
theorem cells_int : Try.prog.cellsOf 3 = 1 := by kernel_rfl
/-- One that is asked: its four cells. -/
def AskIs (w : World) (b o k : Nat) (x y : Bool) (lo hi : Int) : Prop :=
  w.cell? ⟨b, o + k * 4, none⟩ = some (.bool x) ∧ w.cell? ⟨b, o + k * 4 + 1, none⟩ = some (.bool y) ∧ w.cell? ⟨b, o + k * 4 + 2, none⟩ = some (.int .i64 lo) ∧ w.cell? ⟨b, o + k * 4 + 3, none⟩ = some (.int .i64 hi)
theorem asks_of {w : World} {a : Option Addr} {n c : Nat} (h : RC Try.prog w 32 [.slice a n c]) (hn : 0 < n) :
    ∃ b o, a = some ⟨b, o, none⟩ ∧ b < w.heap.size ∧ n ≤ c ∧ c ≤ maxLen ∧ ∀ k, k < n → ∃ x y lo hi, AskIs w b o k x y lo hi := by
  obtain ⟨b, o, rfl, hb, hnc, hcm, hi⟩ := h.rows Try.underlying32 (by rw [cells_ask]; decide) hn
  refine ⟨b, o, rfl, hb, hnc, hcm, fun k hk => ?_⟩
  obtain ⟨cs, hl, hc, hr⟩ := hi k hk
  rw [cells_ask] at hl hc
  obtain ⟨x, hx⟩ := RC.bool Try.underlying4 (hr.field Try.underlying39 0 _ rfl)
  obtain ⟨y, hy⟩ := RC.bool Try.underlying4 (hr.field Try.underlying39 1 _ rfl)
  obtain ⟨lo, hlo, _⟩ := RC.int Try.underlying3 (hr.field Try.underlying39 2 _ rfl)
  obtain ⟨hi, hhi, _⟩ := RC.int Try.underlying3 (hr.field Try.underlying39 3 _ rfl)
  have hx : (cs.drop 0).take (Try.prog.cellsOf 4) = [.bool x] := hx
  have hy : (cs.drop 1).take (Try.prog.cellsOf 4) = [.bool y] := hy
  have hlo : (cs.drop 2).take (Try.prog.cellsOf 3) = [.int .i64 lo] := hlo
  have hhi : (cs.drop 3).take (Try.prog.cellsOf 3) = [.int .i64 hi] := hhi
  rw [cells_bool] at hx hy
  rw [cells_int] at hlo hhi
  match cs, hl with
  | [u0, u1, u2, u3], _ =>
    simp at hx hy hlo hhi
    subst hx hy hlo hhi
    exact ⟨x, y, lo, hi, hc 0 (by decide), hc 1 (by decide), hc 2 (by decide), hc 3 (by decide)⟩
theorem AskIs.below {w w' : World} {b o k B : Nat} {x y : Bool} {lo hi : Int} (h : AskIs w b o k x y lo hi) (hb : Below B w w') (hB : b < B) : AskIs w' b o k x y lo hi := by
  have e (i : Nat) : w'.cell? ⟨b, i, none⟩ = w.cell? ⟨b, i, none⟩ := hb.cell (p := ⟨b, i, none⟩) hB
  unfold AskIs at h ⊢
  simp only [e]
  exact h
theorem Rd.grown2 {T : TypeId} {w w' : World} {g : Nat} {A : Option Addr} {n c : Nat} {l : List UInt8} {p e : Nat} {row : Option Nat} (h : Rd T w g A n c l p e) (hg : w.grownBy w' row) (hr : row ≠ some g) (hh : HasB w' g A n c l) : Rd T w' g A n c l p e :=
  ⟨h.block.grown hg hr, hh, h.at_le, h.err_le⟩
/-- The two readers of the same bytes, side by side. -/
structure Two (w0 w : World) (g gx : Nat) (A A' : Option Addr) (n c c' : Nat) (l : List UInt8) (p e px ex : Nat) : Prop where
  r : Rd 52 w g A' n c' l p e
  x : Rd 37 w gx A n c l px ex
  below : Below w0.heap.size w0 w
  old : HasB w0 w0.heap.size A n c l
  le : w0.heap.size ≤ g
  lt : g < gx
section
variable {w0 w w' : World} {g gx : Nat} {A A' : Option Addr} {n c c' : Nat} {l : List UInt8} {p e px ex p' e' : Nat}
theorem Two.drewN (h : Two w0 w g gx A A' n c c' l p e px ex) (k : Nat) : Two w0 (w.drewN k) g gx A A' n c c' l p e px ex :=
  ⟨h.r.drewN k, h.x.drewN k, below_drewN h.below k, h.old, h.le, h.lt⟩
theorem Two.stepR (h : Two w0 w g gx A A' n c c' l p e px ex) (hr : Rd 52 w' g A' n c' l p' e') (hg : w.grownBy w' (some g)) : Two w0 w' g gx A A' n c c' l p' e' px ex := by
  have hb : Below w0.heap.size w0 w' := h.below.grown hg h.below.size (fun j hj => by injection hj with hj; subst hj; exact h.le)
  exact ⟨hr, h.x.grown2 hg (fun e => by injection e with e; have := h.lt; omega) ((h.old.below hb (Nat.le_refl _)).more (Nat.le_trans h.le (Nat.le_of_lt h.lt))), hb, h.old, h.le, h.lt⟩
theorem Two.stepX (h : Two w0 w g gx A A' n c c' l p e px ex) (hx : Rd 37 w' gx A n c l p' e') (hg : w.grownBy w' (some gx)) : Two w0 w' g gx A A' n c c' l p e p' e' :=
  ⟨h.r.grown hg (fun j hj => by injection hj with hj; subst hj; exact h.lt), hx, h.below.grown hg h.below.size (fun j hj => by injection hj with hj; subst hj; exact Nat.le_trans h.le (Nat.le_of_lt h.lt)), h.old, h.le, h.lt⟩
end
end Go.Proofs.Yteiamhhhiagmpaa
