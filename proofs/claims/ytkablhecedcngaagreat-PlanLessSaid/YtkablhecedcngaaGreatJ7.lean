/- SchemaI -/
import Derived.Test.YtkablhecedcngaaGreatJ3
import Derived.StillTailTactics
namespace Go.Proofs.YtkablhecedcngaaGreat
set_option maxRecDepth 100000
set_option maxHeartbeats 8000000
open Go.RowKit
open Go.Lib (hid)
variable {L L' v:List Int}{B B' c c' k n n':Nat}{x x':Int}{A A':Option Addr}{w:World}
theorem Dg (hk:k<L.length) (hk' : k<L'.length) (h:L.take k=L'.take k) (e:x=L.getD k 0) (e' : x=L'.getD k 0):L.take (k+1)=L'.take (k+1):=by
 rw [List.take_succ_eq_append_getElem hk,List.take_succ_eq_append_getElem hk',h];simp only [List.getD_eq_getElem?_getD,List.getElem?_eq_getElem hk,List.getElem?_eq_getElem hk',Option.getD_some] at e e';rw [← e,← e']
theorem neI (h:¬ x=x') (e:x=L.getD k 0) (e' : x'=L'.getD k 0):decide (L=L')=false:=by
 rw [decide_eq_false_iff_not];rintro rfl;exact h (e.trans e'.symm)
theorem eqI (h:L.take k=L'.take k) (hk:n≤k) (h1:L.length=n) (h2:L'.length=n):decide (L=L')=true:=by
 rw [List.take_of_length_le (by omega),List.take_of_length_le (by omega)] at h
 rw [h,decide_eq_true rfl]
theorem K5 (hr:Yx w B A n c L) (hr' : Yx w B' A' n' c' L') :
  Calls Tryz.prog 11 #[.slice A n c,.slice A' n' c'] w fun e w'=>e=.returned (.bool (decide (L=L')))∧∃ k,w'=w.drewN k:=by
 have hn:=hr.Yn
 have hll:=hr.len
 have hll':=hr'.len
 by_cases h:n=n'
 ·subst h
  have hne:((n:Int) != (n:Int))=false:=by simp
  have HL:=hid hll
  have HL':=hid hll'
  clear hll hll';go_enter Tryz.func11,Tryz.ntmps11;go_wp2;clear hne;go_loopw [5] (fun i wr=>∃ k q:Nat,k≤n∧i=.int .i64 k∧wr=w.drewN q∧Hid (L.take k=L'.take k)) (fun i _=>n - (intOf i).toNat)
  case atStart=>exact ⟨0,0,Nat.zero_le _,rfl,rfl,rfl⟩
  case round =>
   obtain ⟨k,q,hk,rfl,rfl,ht⟩:=hrel
   by_cases hlt:k<n
   ·obtain ⟨b,o,x,rfl,hb,hc,ex⟩:=hr.at_ hlt
    obtain ⟨b',o',x',rfl,hb',hc',ex'⟩:=hr'.at_ hlt
    by_cases hxx:x=x'
    ·subst hxx
     have hxn:(x != x)=false:=by simp
     have H:=hid (Dg (by have:=HL.out; omega) (by have:=HL'.out; omega) ht.out ex.out ex'.out)
     go_wp2;go_quiet (fail);go_wp2;go_roundw
     case rel=>exact ⟨k+1,q+nq,by omega,by go_num,rfl,H⟩
     case measure=>simp [intOf]; omega
    ·have hxn:(x != x')=true:=by simp [hxx]
     have H:=hid (neI hxx ex.out ex'.out)
     clear hxx;go_wp2;go_quiet (fail);go_wp2;go_ret;exact ⟨Yd H.out.symm,q+nq,World.drewN_drewN _ _ _⟩
   ·have H:=hid (eqI ht.out (Nat.not_lt.1 hlt) HL.out HL'.out)
    go_wp2;go_ret;exact ⟨Yd H.out.symm,q,rfl⟩
 ·have H:Hid (decide (L=L')=false):=hid (by rw [decide_eq_false_iff_not]; intro e; subst e; omega)
  have hne:((n:Int) != (n' : Int))=true:=by simp; omega
  clear hll hll';go_enter Tryz.func11,Tryz.ntmps11;go_wp2;go_ret;exact ⟨Yd H.out.symm,0,rfl⟩
theorem Ft (hr:Yx w B A n c L) (hr' : Yx w B' A' n' c' L') :
  Calls Tryz.prog 109 #[.slice A n c,.slice A' n' c'] w fun e w'=>e=.returned (.bool (decide (L=L')))∧∃ k,w'=w.drewN k:=by
 have hn:=hr.Yn
 have hll:=hr.len
 have hll':=hr'.len
 by_cases h:n=n'
 ·subst h
  have hne:((n:Int) != (n:Int))=false:=by simp
  have HL:=hid hll
  have HL':=hid hll'
  clear hll hll';go_enter Tryz.func109,Tryz.ntmps109;go_wp2;clear hne;go_loopw [13] (fun i wr=>∃ k q:Nat,k≤n∧i=.int .i64 k∧wr=w.drewN q∧Hid (L.take k=L'.take k)) (fun i _=>n - (intOf i).toNat)
  case atStart=>exact ⟨0,0,Nat.zero_le _,rfl,rfl,rfl⟩
  case round =>
   obtain ⟨k,q,hk,rfl,rfl,ht⟩:=hrel
   by_cases hlt:k<n
   ·obtain ⟨b,o,x,rfl,hb,hc,ex⟩:=hr.at_ hlt
    obtain ⟨b',o',x',rfl,hb',hc',ex'⟩:=hr'.at_ hlt
    by_cases hxx:x=x'
    ·subst hxx
     have hxn:(x != x)=false:=by simp
     have H:=hid (Dg (by have:=HL.out; omega) (by have:=HL'.out; omega) ht.out ex.out ex'.out)
     go_wp2;go_quiet (fail);go_wp2;go_roundw
     case rel=>exact ⟨k+1,q+nq,by omega,by go_num,rfl,H⟩
     case measure=>simp [intOf]; omega
    ·have hxn:(x != x')=true:=by simp [hxx]
     have H:=hid (neI hxx ex.out ex'.out)
     clear hxx;go_wp2;go_quiet (fail);go_wp2;go_ret;exact ⟨Yd H.out.symm,q+nq,World.drewN_drewN _ _ _⟩
   ·have H:=hid (eqI ht.out (Nat.not_lt.1 hlt) HL.out HL'.out)
    go_wp2;go_ret;exact ⟨Yd H.out.symm,q,rfl⟩
 ·have H:Hid (decide (L=L')=false):=hid (by rw [decide_eq_false_iff_not]; intro e; subst e; omega)
  have hne:((n:Int) != (n' : Int))=true:=by simp; omega
  clear hll hll';go_enter Tryz.func109,Tryz.ntmps109;go_wp2;go_ret;exact ⟨Yd H.out.symm,0,rfl⟩
/-! ### What covers what -/
theorem Ycu {w:List Int} (h:∀ j,j<k→w.getD j 0≤v.getD j 0) (hx:¬ x<x') (e:x=v.getD k 0) (e' : x'=w.getD k 0):∀ j,j<k+1→w.getD j 0≤v.getD j 0:=fun j hj=>by
 by_cases hjk:j<k
 ·exact h j hjk
 ·obtain rfl:j=k:=by omega
  rw [← e,← e']; omega
theorem Ymm {w:List Int} (hk:k<v.length) (hx:x<x') (e:x=v.getD k 0) (e' : x'=w.getD k 0):decide (Xh v w)=false:=by
 rw [decide_eq_false_iff_not];intro h
 have:=h.2 k hk
 omega
theorem Yhx {w:List Int} (h:∀ j,j<k→w.getD j 0≤v.getD j 0) (hk:n≤k) (h1:v.length=n) (h2:w.length=n):decide (Xh v w)=true:=by
 rw [decide_eq_true_eq];exact ⟨h1.trans h2.symm,fun i hi=>h i (by omega)⟩
theorem Yhw {w:List Int} (h:v.length≠w.length):decide (Xh v w)=false:=by
 rw [decide_eq_false_iff_not];intro h';exact h h'.1
theorem Yfu (hr:Yx w B A n c L) (hr' : Yx w B' A' n' c' L') :
  Calls Tryz.prog 19 #[.slice A n c,.slice A' n' c'] w fun e w'=>e=.returned (.bool (decide (Xh L L')))∧∃ k,w'=w.drewN k:=by
 have hn:=hr.Yn
 have hll:=hr.len
 have hll':=hr'.len
 by_cases h:n=n'
 ·subst h
  have hne:((n:Int) != (n:Int))=false:=by simp
  have HL:=hid hll
  have HL':=hid hll'
  clear hll hll';go_enter Tryz.func19,Tryz.ntmps19;go_wp2;clear hne;go_loopw [13] (fun i wr=>∃ k q:Nat,k≤n∧i=.int .i64 k∧wr=w.drewN q∧Hid (∀ j,j<k→L'.getD j 0≤L.getD j 0)) (fun i _=>n - (intOf i).toNat)
  case atStart=>exact ⟨0,0,Nat.zero_le _,rfl,rfl,hid fun j hj=>absurd hj (by omega)⟩
  case round =>
   obtain ⟨k,q,hk,rfl,rfl,ht⟩:=hrel
   by_cases hlt:k<n
   ·obtain ⟨b,o,x,rfl,hb,hc,ex⟩:=hr.at_ hlt
    obtain ⟨b',o',x',rfl,hb',hc',ex'⟩:=hr'.at_ hlt
    by_cases hxx:x<x'
    ·have H:=hid (Ymm (by have:=HL.out; omega) hxx ex.out ex'.out)
     go_wp2;go_quiet (fail);go_wp2;go_ret;exact ⟨Yd H.out.symm,q+nq,World.drewN_drewN _ _ _⟩
    ·have H:=hid (Ycu ht.out hxx ex.out ex'.out)
     go_wp2;go_quiet (fail);go_wp2;go_roundw
     case rel=>exact ⟨k+1,q+nq,by omega,by go_num,rfl,H⟩
     case measure=>simp [intOf]; omega
   ·have H:=hid (Yhx ht.out (Nat.not_lt.1 hlt) HL.out HL'.out)
    go_wp2;go_ret;exact ⟨Yd H.out.symm,q,rfl⟩
 ·have H:=hid (Yhw (v:=L) (w:=L') (by omega))
  have hne:((n:Int) != (n' : Int))=true:=by simp; omega
  clear hll hll';go_enter Tryz.func19,Tryz.ntmps19;go_wp2;go_ret;exact ⟨Yd H.out.symm,0,rfl⟩
theorem D0 (hr:Yx w B A n c L) (hr' : Yx w B' A' n' c' L') :
  Calls Tryz.prog 23 #[.slice A n c,.slice A' n' c'] w fun e w'=>e=.returned (.bool (decide (Xh L L')))∧∃ k,w'=w.drewN k:=by
 have hn:=hr.Yn
 have hll:=hr.len
 have hll':=hr'.len
 by_cases h:n=n'
 ·subst h
  have hne:((n:Int) != (n:Int))=false:=by simp
  have HL:=hid hll
  have HL':=hid hll'
  clear hll hll';go_enter Tryz.func23,Tryz.ntmps23;go_wp2;clear hne;go_loopw [5] (fun i wr=>∃ k q:Nat,k≤n∧i=.int .i64 k∧wr=w.drewN q∧Hid (∀ j,j<k→L'.getD j 0≤L.getD j 0)) (fun i _=>n - (intOf i).toNat)
  case atStart=>exact ⟨0,0,Nat.zero_le _,rfl,rfl,hid fun j hj=>absurd hj (by omega)⟩
  case round =>
   obtain ⟨k,q,hk,rfl,rfl,ht⟩:=hrel
   by_cases hlt:k<n
   ·obtain ⟨b,o,x,rfl,hb,hc,ex⟩:=hr.at_ hlt
    obtain ⟨b',o',x',rfl,hb',hc',ex'⟩:=hr'.at_ hlt
    by_cases hxx:x<x'
    ·have H:=hid (Ymm (by have:=HL.out; omega) hxx ex.out ex'.out)
     go_wp2;go_quiet (fail);go_wp2;go_ret;exact ⟨Yd H.out.symm,q+nq,World.drewN_drewN _ _ _⟩
    ·have H:=hid (Ycu ht.out hxx ex.out ex'.out)
     go_wp2;go_quiet (fail);go_wp2;go_roundw
     case rel=>exact ⟨k+1,q+nq,by omega,by go_num,rfl,H⟩
     case measure=>simp [intOf]; omega
   ·have H:=hid (Yhx ht.out (Nat.not_lt.1 hlt) HL.out HL'.out)
    go_wp2;go_ret;exact ⟨Yd H.out.symm,q,rfl⟩
 ·have H:=hid (Yhw (v:=L) (w:=L') (by omega))
  have hne:((n:Int) != (n' : Int))=true:=by simp; omega
  clear hll hll';go_enter Tryz.func23,Tryz.ntmps23;go_wp2;go_ret;exact ⟨Yd H.out.symm,0,rfl⟩
end Go.Proofs.YtkablhecedcngaaGreat
