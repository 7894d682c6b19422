/- Layer 7: what a reading leaves of the others. -/
import Derived.Test.YtccdjjpkcahgfaaDictD
import Derived.Test.YtccdjjpkcahgfaaWireNew
import Derived.Deep.QuietTactic
namespace Go.Proofs.Ytccdjjpkcahgfaa
open Go.RowKit

theorem Off.below {gr base B : Nat} {w w' : World} (h : Off gr base w w') (hB : B ≤ w.heap.size) (h1 : B ≤ gr) (h2 : B ≤ base) : Below B w w' := Chg.below h hB fun k hk => by rcases hk with hk | hk <;> omega
theorem Rd.off {T : TypeId} {w w' : World} {g gx base : Nat} {A : Option Addr} {n c : Nat} {l : List UInt8} {p e : Nat} (h : Rd T w gx A n c l p e) (ho : Off g base w w') (hg : gx ≠ g) (hb : gx < base) (hh : HasB w' gx A n c l) : Rd T w' gx A n c l p e :=
  ⟨(ho.block gx h.lt (by omega)).trans h.block, hh, h.at_le, h.err_le⟩
theorem Dc.off {w w' : World} {base g : Nat} {pv : Value} {bm n : Nat} {Q : List Pth} {gx : Nat} (h : Dc w base g pv bm n Q) (ho : Off gx w.heap.size w w') (hx : gx < base) : Dc w' base g pv bm n Q :=
  h.chg ho fun k hk hs => by have := h.foot_base hk; omega
end Go.Proofs.Ytccdjjpkcahgfaa
