/- BatchA -/
import Derived.Test.YtmepdkdeanbbaaaGreatJ22
namespace Go.Proofs.YtmepdkdeanbbaaaGreat
set_option maxRecDepth 100000
set_option maxHeartbeats 8000000
open Go.RowKit
open Go.Lib (hid)
variable {S:Nat->Prop}{w:World}
theorem Yrv{A:Option Addr}{n c:Nat}{l:List Int}(h:Row Yy 1 w S A n c l)(hn:n<=1000000):
  Calls Tryz.prog 217 #[.slice A n c] w (Told Yy 3 1 w l):=by
 have hr:=h.Uy
 clear h;go_enter Tryz.func217,Tryz.ntmps217;go_wp2_with (at_builtin;refine Ov rfl _ _ rfl w.heap.size _ [] rfl (Yi.Zj w _) _ A n c _ rfl hr (by simp;omega) (Nat.le_refl _) ?_)
 intro v' w' hO hG
 have hbel:=hid (hG.Yw (Nat.le_refl _) (λk hk=>by cases hk))
 have hO':=hid (Yi.Bc (S:=λk=>w.heap.size<=k) hO)
 clear hO hG;go_wp2_with fail;go_ret;exact⟨v',rfl,hO'.out,hbel.out⟩
theorem Ypc(w:World)(y:Value)(t:TypeId):∀j u,[y][j]?=some u->(w.alloc (.cells #[y] t)).cell? ((⟨w.heap.size,0,none⟩:Addr).add j)=some u:=by
 intro j u hj
 match j,hj with
 |0,hj=>simp at hj;subst hj;simp[Yu,Zq]
 |j+1,hj=>simp at hj
theorem Ypi{α:Type}{L:List α}{k:Nat}{x:α}(h:L[k]?=some x):L.take k++[x]=L.take (k+1):=by
 rw[List.take_add_one,h];rfl
theorem Ymq{α:Type}{E:ElT α}{T:TypeId}{sz:Nat}{v:Value}{L:List α}(h:Vl E T sz w S [v] L):∀u∈[v],u.oneCell'=true:=by
 intro u hu;rw[List.mem_singleton.1 hu];obtain⟨A,n,c,e⟩:=Ybs h;injection e with e _
 rw[e];rfl
end Go.Proofs.YtmepdkdeanbbaaaGreat
