/- IntsRev -/
import Derived.Test.YtmepdkdeanbbaaaGreatJ3
import Derived.Test.YtmepdkdeanbbaaaGreatJ4
namespace Go.Proofs.YtmepdkdeanbbaaaGreat
set_option maxRecDepth 100000
set_option maxHeartbeats 8000000
open Go.RowKit
theorem Ej{w:World}{base g c:Nat}{l:List Int}(h:Yi w base (.slice (some ⟨g,0,none⟩) l.length c) l)(hl:l.length<=1000000):
  Calls Tryz.prog 232 #[.slice (some ⟨g,0,none⟩) l.length c] w λe w'=>e=.returned (.tuple #[])/\Yi w' base (.slice (some ⟨g,0,none⟩) l.length c) l.reverse/\w.grownBy w' (some g):=by
 refine(Tryz.slices_Reverse_int_cells g 0 l.length c l w (Nat.le_refl _) (by omega) (λj hj=>?_) (λj hj=>?_)).mono ?_
 ·rw[Nat.zero_add];exact h.Yb8 j hj
 ·rw[Nat.zero_add];exact h.free j
 ·rintro e w' ⟨rfl,q,rfl⟩
  refine⟨rfl,?_,?_⟩
  ·have h2:=J1 l.reverse 0 l (w.drewN q) (by simp) (h.drewN q)
   rw[List.take_length];simpa using h2
  ·have h3:=Ny g ((l.take l.length).reverse.map (Value.int .i64)) 0 (w.drewN q)
   exact⟨h3.os,h3.tape,h3.output,h3.size,h3.block⟩
end Go.Proofs.YtmepdkdeanbbaaaGreat
