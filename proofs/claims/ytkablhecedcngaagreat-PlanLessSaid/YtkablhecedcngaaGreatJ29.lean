/- PutR -/
import Derived.Test.YtkablhecedcngaaGreatJ24
namespace Go.Proofs.YtkablhecedcngaaGreat
set_option maxRecDepth 100000
set_option maxHeartbeats 8000000
open Go.RowKit
theorem Ys.cellAt {α:Type}{E:ElT α}{w:World}{base g n cap j:Nat}{S:Nat→Prop}{T:TypeId}{L:List α} (h:Ys E T 1 w base S (.slice (some ⟨g,0,none⟩) n cap) L) (hj:j<L.length) :
  ∃ u,w.cell? ⟨g,j,none⟩=some u∧w.frozen? ⟨g,j,none⟩=false:=by
 obtain ⟨vs,h1,_⟩:=h
 have hn:L.length=n:=by
  rcases h1.2 with ⟨h3,_⟩ | ⟨g',cap',cur,h3,_⟩
  ·cases h3
  ·injection h3 with _ h3 _
   exact h3.symm
 have hl:=h1.1
 have hc:=World.ownsRow.cells h1 (g:=g) rfl j vs[j] (List.getElem?_eq_getElem (by omega))
 rw [Yt,Nat.zero_add] at hc;rw [hn] at h1;exact ⟨_,hc,World.ownsRow.frozenAt h1 j⟩
end Go.Proofs.YtkablhecedcngaaGreat
