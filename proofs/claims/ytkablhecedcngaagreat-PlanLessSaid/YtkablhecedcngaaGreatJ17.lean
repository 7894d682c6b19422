/- IntsRev -/
import Derived.Test.YtkablhecedcngaaGreatJ2
import Derived.Test.YtkablhecedcngaaGreatJ3
namespace Go.Proofs.YtkablhecedcngaaGreat
set_option maxRecDepth 100000
set_option maxHeartbeats 8000000
open Go.RowKit
theorem J7 {w:World}{base g c:Nat}{l:List Int} (h:Yf w base (.slice (some ⟨g,0,none⟩) l.length c) l) (hl:l.length≤1000000) :
  Calls Tryz.prog 161 #[.slice (some ⟨g,0,none⟩) l.length c] w fun e w'=>e=.returned (.tuple #[])∧Yf w' base (.slice (some ⟨g,0,none⟩) l.length c) l.reverse∧w.grownBy w' (some g):=by
 refine (Tryz.slices_Reverse_int_cells g 0 l.length c l w (Nat.le_refl _) (by omega) (fun j hj=>?_) (fun j hj=>?_)).mono ?_
 ·rw [Nat.zero_add]; exact h.Jr j hj
 ·rw [Nat.zero_add]; exact h.free j
 ·rintro e w' ⟨rfl,q,rfl⟩
  refine ⟨rfl,?_,?_⟩
  ·have h2:=Lh l.reverse 0 l (w.drewN q) (by simp) (h.drewN q)
   rw [List.take_length];simpa using h2
  ·have h3:=Pt g ((l.take l.length).reverse.map (Value.int .i64)) 0 (w.drewN q)
   exact ⟨h3.os,h3.tape,h3.output,h3.size,h3.block⟩
end Go.Proofs.YtkablhecedcngaaGreat
