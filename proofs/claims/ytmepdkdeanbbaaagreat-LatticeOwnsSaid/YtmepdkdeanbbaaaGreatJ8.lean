/- SchemaI -/
import Derived.Test.YtmepdkdeanbbaaaGreatJ4
import Derived.StillTailTactics
namespace Go.Proofs.YtmepdkdeanbbaaaGreat
set_option maxRecDepth 100000
set_option maxHeartbeats 8000000
open Go.RowKit
open List renaming take_succ_eq_append_getElem→aa,getElem?_eq_getElem→ae,take_of_length_le→af
open Go.Lib (hid)
variable {L L':List Int}{B B' c c' k n n':Nat}{x:Int}{A A':Option Addr}{w:World}
theorem L1(hk:k<L.length)(hk':k<L'.length)(h:L.take k=L'.take k)(e:x=L.getD k 0)(e':x=L'.getD k 0):L.take (k+1)=L'.take (k+1):=by
 rw[aa hk,aa hk',h];simp only[List.getD_eq_getElem?_getD,ae hk,ae hk',Option.getD_some]at e e';rw[<-e,<-e']
theorem neI{x':Int}(h:¬x=x')(e:x=L.getD k 0)(e':x'=L'.getD k 0):decide (L=L')=false:=by
 rw[decide_eq_false_iff_not];rintro rfl;exact h (e.trans e'.symm)
theorem eqI(h:L.take k=L'.take k)(hk:n<=k)(h1:L.length=n)(h2:L'.length=n):decide (L=L')=true:=by
 rw[af (by omega),af (by omega)]at h
 rw[h,decide_eq_true rfl]
theorem Mh(hr:Y2 w B A n c L)(hr':Y2 w B' A' n' c' L'):
  Calls Tryz.prog 132 #[.slice A n c,.slice A' n' c'] w λe w'=>e=.returned (.bool (decide (L=L')))/\∃k,w'=w.drewN k:=by
 have hn:=hr.Ym
 have hll:=hr.len
 have hll':=hr'.len
 by_cases h:n=n'
 ·subst h
  have hne:((n:Int) != (n:Int))=false:=by simp
  have HL:=hid hll
  have HL':=hid hll'
  clear hll hll';go_enter Tryz.func132,Tryz.ntmps132;go_wp2;clear hne;go_loopw [5] (λi wr=>∃k q:Nat,k<=n/\i=.int .i64 k/\wr=w.drewN q/\Hid (L.take k=L'.take k)) (λi _=>n-(intOf i).toNat)
  case atStart=>exact⟨0,0,Nat.zero_le _,rfl,rfl,rfl⟩
  case round=>
   obtain⟨k,q,hk,rfl,rfl,ht⟩:=hrel
   by_cases hlt:k<n
   ·obtain⟨b,o,x,rfl,hb,hc,ex⟩:=hr.at_ hlt
    obtain⟨b',o',x',rfl,hb',hc',ex'⟩:=hr'.at_ hlt
    by_cases hxx:x=x'
    ·subst hxx
     have hxn:(x != x)=false:=by simp
     have H:=hid (L1 (by have:=HL.out;omega) (by have:=HL'.out;omega) ht.out ex.out ex'.out)
     go_wp2;go_quiet (fail);go_wp2;go_roundw
     case rel=>exact⟨k+1,q+nq,by omega,by go_num,rfl,H⟩
     case measure=>simp[intOf];omega
    ·have hxn:(x != x')=true:=by simp[hxx]
     have H:=hid (neI hxx ex.out ex'.out)
     clear hxx;go_wp2;go_quiet (fail);go_wp2;go_ret;exact⟨Yd H.out.symm,q+nq,World.drewN_drewN _ _ _⟩
   ·have H:=hid (eqI ht.out (Nat.not_lt.1 hlt) HL.out HL'.out)
    go_wp2;go_ret;exact⟨Yd H.out.symm,q,rfl⟩
 ·have H:Hid (decide (L=L')=false):=hid (by rw[decide_eq_false_iff_not];intro e;subst e;omega)
  have hne:((n:Int) != (n':Int))=true:=by simp;omega
  clear hll hll';go_enter Tryz.func132,Tryz.ntmps132;go_wp2;go_ret;exact⟨Yd H.out.symm,0,rfl⟩
theorem Bw(hr:Y2 w B A n c L)(hr':Y2 w B' A' n' c' L'):
  Calls Tryz.prog 168 #[.slice A n c,.slice A' n' c'] w λe w'=>e=.returned (.bool (decide (L=L')))/\∃k,w'=w.drewN k:=by
 have hn:=hr.Ym
 have hll:=hr.len
 have hll':=hr'.len
 by_cases h:n=n'
 ·subst h
  have hne:((n:Int) != (n:Int))=false:=by simp
  have HL:=hid hll
  have HL':=hid hll'
  clear hll hll';go_enter Tryz.func168,Tryz.ntmps168;go_wp2;clear hne;go_loopw [13] (λi wr=>∃k q:Nat,k<=n/\i=.int .i64 k/\wr=w.drewN q/\Hid (L.take k=L'.take k)) (λi _=>n-(intOf i).toNat)
  case atStart=>exact⟨0,0,Nat.zero_le _,rfl,rfl,rfl⟩
  case round=>
   obtain⟨k,q,hk,rfl,rfl,ht⟩:=hrel
   by_cases hlt:k<n
   ·obtain⟨b,o,x,rfl,hb,hc,ex⟩:=hr.at_ hlt
    obtain⟨b',o',x',rfl,hb',hc',ex'⟩:=hr'.at_ hlt
    by_cases hxx:x=x'
    ·subst hxx
     have hxn:(x != x)=false:=by simp
     have H:=hid (L1 (by have:=HL.out;omega) (by have:=HL'.out;omega) ht.out ex.out ex'.out)
     go_wp2;go_quiet (fail);go_wp2;go_roundw
     case rel=>exact⟨k+1,q+nq,by omega,by go_num,rfl,H⟩
     case measure=>simp[intOf];omega
    ·have hxn:(x != x')=true:=by simp[hxx]
     have H:=hid (neI hxx ex.out ex'.out)
     clear hxx;go_wp2;go_quiet (fail);go_wp2;go_ret;exact⟨Yd H.out.symm,q+nq,World.drewN_drewN _ _ _⟩
   ·have H:=hid (eqI ht.out (Nat.not_lt.1 hlt) HL.out HL'.out)
    go_wp2;go_ret;exact⟨Yd H.out.symm,q,rfl⟩
 ·have H:Hid (decide (L=L')=false):=hid (by rw[decide_eq_false_iff_not];intro e;subst e;omega)
  have hne:((n:Int) != (n':Int))=true:=by simp;omega
  clear hll hll';go_enter Tryz.func168,Tryz.ntmps168;go_wp2;go_ret;exact⟨Yd H.out.symm,0,rfl⟩
/-! ### What covers what -/
end Go.Proofs.YtmepdkdeanbbaaaGreat
