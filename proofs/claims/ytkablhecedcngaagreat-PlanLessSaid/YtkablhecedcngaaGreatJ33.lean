/- NamesS -/
import Derived.Test.YtkablhecedcngaaGreatJ2
import Derived.Test.YtkablhecedcngaaGreatJ12
import Derived.Shelf.Strings.Split
namespace Go.Proofs.YtkablhecedcngaaGreat
set_option maxRecDepth 100000
set_option maxHeartbeats 8000000
open Go.RowKit
/-! ### Plain -/
/-! ### The program's -/
theorem Zn.cellsOf (w:World) (P:List ByteArray) (N:Nat) (e:TypeId) (h:P.length≤N) (hN:N≤1000000) :
  Zn (w.alloc (.cells (Lib.cellsOf P N) e)) (w.alloc (.cells (Lib.cellsOf P N) e)).heap.size (some ⟨w.heap.size,0,none⟩) P.length N (P.map (·.data.toList)):=by
 refine ⟨by simp,h,by unfold maxLen; omega,(fun h=>by cases h),fun _=>⟨w.heap.size,0,rfl,by simp,fun j u hu=>?_⟩⟩
 rw [List.map_map,List.getElem?_map] at hu;rw [Nat.zero_add,Zk,Lib.cellsOf,List.getElem?_toArray]
 rcases hj:P[j]? with _ | x
 ·rw [hj] at hu; cases hu
 ·rw [hj] at hu
  have hlt:j<P.length:=by
   rcases Nat.lt_or_ge j P.length with h | h
   ·exact h
   ·rw [List.getElem?_eq_none h] at hj; cases hj
  rw [List.getElem?_append_left (by simpa using hlt),List.getElem?_map,hj]
  simpa [Xp] using hu
end Go.Proofs.YtkablhecedcngaaGreat
