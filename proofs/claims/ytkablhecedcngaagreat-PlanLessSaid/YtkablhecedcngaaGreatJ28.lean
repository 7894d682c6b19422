/- CubB -/
import Derived.Test.YtkablhecedcngaaGreatJ20
namespace Go.Proofs.YtkablhecedcngaaGreat
set_option maxRecDepth 100000
set_option maxHeartbeats 8000000
open Go.RowKit
open Go.Lib (hid)
variable {L L':List Int}{A:Option Addr}{B c n:Nat}{w:World}
/-! ### codes -/
def Sb (n:Int):Bool:=decide (n<0∨40<n)
theorem Er (n:Int) (w:World):Calls Tryz.prog 144 #[.int .i64 n] w fun e w'=>e=.returned (.bool (Sb n))∧w=w':=by
 by_cases h:n<0
 ·have H:=hid (show Sb n=true by unfold Sb; simp [h])
  go_enter Tryz.func144,Tryz.ntmps144;go_wp2;go_ret;exact ⟨Yd H.out.symm,rfl⟩
 ·by_cases h2:40<n
  ·have H:=hid (show Sb n=true by unfold Sb; simp [h2])
   go_enter Tryz.func144,Tryz.ntmps144;go_wp2;go_ret;exact ⟨Yd H.out.symm,rfl⟩
  ·have H:=hid (show Sb n=false by unfold Sb; simp; omega)
   go_enter Tryz.func144,Tryz.ntmps144;go_wp2;go_ret;exact ⟨Yd H.out.symm,rfl⟩
def Yt3 (L:List Int) (n:Nat) (r:Int):Prop:=(0≤r∧∃ k:Nat,k<n∧Sb (L.getD k 0)=true)∨(r=-1∧∀ k,k<n→Sb (L.getD k 0)=false)
theorem Yf6 (h:Yx w B A n c L) :
  Calls Tryz.prog 157 #[.slice A n c,.func (.func 144) #[] #[]] w fun e w'=>(∃ r:Int,e=.returned (.int .i64 r)∧Yt3 L n r)∧w=w':=by
 have hn:=h.Yn
 go_enter Tryz.func157,Tryz.ntmps157;go_wp2;go_loop [8] (fun i=>∃ k:Nat,k≤n∧i=.int .i64 k∧Hid (∀ j,j<k→Sb (L.getD j 0)=false)) (fun i=>n - (intOf i).toNat)
 case atStart=>exact ⟨0,Nat.zero_le _,rfl,hid fun j hj=>absurd hj (by omega)⟩
 case round =>
  obtain ⟨k,hk,rfl,hJ⟩:=hrel
  by_cases hlt:k<n
  ·obtain ⟨b,o,x,rfl,hb,hc,ex⟩:=h.at_ hlt
   have i0:(0:Int)≤(k:Int):=by omega
   have i1:(k:Int)<(n:Int):=by omega
   rcases hbx:Sb x with _ | _
   ·have H:Hid (∀ j,j<k+1→Sb (L.getD j 0)=false):=hid fun j hj=>by
     by_cases h:j<k
     ·exact hJ.out j h
     ·obtain rfl:j=k:=by omega
      rw [← ex.out]; exact hbx
    have HB:=hid hbx
    clear hbx;go_wp2_with fail;refine (Er x w).mono ?_;rintro e v ⟨rfl,rfl⟩;rw [HB.out];go_wp2_with fail;go_round
    case rel=>exact ⟨k+1,by omega,by go_num,H⟩
    case measure=>simp [intOf]; omega
   ·have H:Hid (Sb (L.getD k 0)=true):=hid (by rw [← ex.out]; exact hbx)
    have HB:=hid hbx
    clear hbx;go_wp2_with fail;refine (Er x w).mono ?_;rintro e v ⟨rfl,rfl⟩;rw [HB.out];go_wp2_with fail;go_ret;exact ⟨⟨_,rfl,.inl ⟨i0,k,hlt,H.out⟩⟩,rfl⟩
  ·obtain rfl:k=n:=by omega
   go_wp2_with fail;go_ret;exact ⟨⟨_,rfl,.inr ⟨rfl,hJ.out⟩⟩,rfl⟩
theorem Yhq : L.any Sb=true↔∃ k,k<L.length∧Sb (L.getD k 0)=true:=by
 rw [List.any_eq_true];constructor
 ·rintro ⟨x,hx,hb⟩
  obtain ⟨k,hk,rfl⟩:=List.mem_iff_getElem.1 hx;exact ⟨k,hk,by rw [List.getD_eq_getElem?_getD,List.getElem?_eq_getElem hk]; exact hb⟩
 ·rintro ⟨k,hk,hb⟩
  rw [List.getD_eq_getElem?_getD,List.getElem?_eq_getElem hk] at hb;exact ⟨_,List.getElem_mem hk,hb⟩
theorem O7 (h:Yx w B A n c L) :
  Calls Tryz.prog 143 #[.slice A n c,.func (.func 144) #[] #[]] w fun e w'=>e=.returned (.bool (L.any Sb))∧w=w':=by
 have hl:=hid h.len
 have hi:=Yf6 h
 clear h;go_enter Tryz.func143,Tryz.ntmps143;go_wp2_with fail;refine hi.mono ?_;rintro e w' ⟨⟨r,rfl,hr⟩,rfl⟩
 rcases hr with ⟨h0,k,hk,hb⟩ | ⟨rfl,hb⟩
 ·have H:Hid (L.any Sb=true):=hid (Yhq.2 ⟨k,by rw [hl.out]; exact hk,hb⟩)
  clear hb hi;go_wp2_with fail;go_ret;exact ⟨Yd H.out.symm,rfl⟩
 ·have H:Hid (L.any Sb=false):=hid (by
   rw [Bool.eq_false_iff];intro hx;obtain ⟨k,hk,hb'⟩:=Yhq.1 hx;rw [hb k (by rw [← hl.out]; exact hk)] at hb'
   cases hb')
  clear hb hi;go_wp2_with fail;go_ret;exact ⟨Yd H.out.symm,rfl⟩
theorem Bc {W:Nat}{k:List Int} : isKey W k↔k.length=W∧k.any Sb=false:=by
 unfold isKey;rw [Bool.eq_false_iff,Ne,List.any_eq_true];refine and_congr_right fun _=>⟨fun h ⟨x,hx,hb⟩=>?_,fun h c hc=>?_⟩
 ·have:=h x hx
  simp [Sb] at hb;omega
 ·have:¬ Sb c=true:=fun hb=>h ⟨c,hc,hb⟩
  simp [Sb] at this;omega
/-! ### the order -/
def Kb (a b:Int):Int:=if a<b then -1 else if b<a then 1 else 0
theorem Ec (a:Int) (w:World):Calls Tryz.prog 187 #[.int .i64 a] w fun e w'=>e=.returned (.bool false)∧w=w':=by
 go_enter Tryz.func187,Tryz.ntmps187;go_wp2;go_ret;exact ⟨rfl,rfl⟩
theorem Qk (a b:Int) (w:World):Calls Tryz.prog 176 #[.int .i64 a,.int .i64 b] w fun e w'=>e=.returned (.int .i64 (Kb a b))∧w=w':=by
 have h1:=Ec a w
 have h2:=Ec b w
 by_cases hab:a<b
 ·have H:=hid (show Kb a b=-1 by unfold Kb; rw [if_pos hab])
  go_enter Tryz.func176,Tryz.ntmps176;go_wp2_with fail;refine h1.mono ?_;rintro e v ⟨rfl,rfl⟩;go_wp2_with fail;refine h2.mono ?_;rintro e v ⟨rfl,rfl⟩;go_wp2_with fail;go_ret;exact ⟨Vi H.out.symm,rfl⟩
 ·by_cases hba:b<a
  ·have H:=hid (show Kb a b=1 by unfold Kb; rw [if_neg hab,if_pos hba])
   go_enter Tryz.func176,Tryz.ntmps176;go_wp2_with fail;refine h1.mono ?_;rintro e v ⟨rfl,rfl⟩;go_wp2_with fail;refine h2.mono ?_;rintro e v ⟨rfl,rfl⟩;go_wp2_with fail;go_ret;exact ⟨Vi H.out.symm,rfl⟩
  ·have H:=hid (show Kb a b=0 by unfold Kb; rw [if_neg hab,if_neg hba])
   go_enter Tryz.func176,Tryz.ntmps176;go_wp2_with fail;refine h1.mono ?_;rintro e v ⟨rfl,rfl⟩;go_wp2_with fail;refine h2.mono ?_;rintro e v ⟨rfl,rfl⟩;go_wp2_with fail;go_ret;exact ⟨Vi H.out.symm,rfl⟩
theorem Yjc {k:Nat}{x y:Int} (h:Qi L L'=Qi (L.drop k) (L'.drop k)) (hk:k<L.length) (hk' : k<L'.length) (ex:x=L.getD k 0) (ey:y=L'.getD k 0):Qi L L'=if x<y then -1 else if y<x then 1 else Qi (L.drop (k+1)) (L'.drop (k+1)):=by
 rw [h,List.drop_eq_getElem_cons hk,List.drop_eq_getElem_cons hk',Yjd];rw [ex,ey,List.getD_eq_getElem?_getD,List.getElem?_eq_getElem hk,List.getD_eq_getElem?_getD,List.getElem?_eq_getElem hk'];rfl
theorem Yat {A':Option Addr}{c' B':Nat} (hr:Yx w B A n c L) (hr' : Yx w B' A' n c' L') :
  Calls Tryz.prog 171 #[.slice A n c,.slice A' n c'] w fun e w'=>e=.returned (.int .i64 (Qi L L'))∧w=w':=by
 have hn:=hr.Yn
 have HL:=hid hr.len
 have HL':=hid hr'.len
 go_enter Tryz.func171,Tryz.ntmps171;go_wp2;go_loop [11] (fun i=>∃ k:Nat,k≤n∧i=.int .i64 k∧Hid (Qi L L'=Qi (L.drop k) (L'.drop k))) (fun i=>n - (intOf i).toNat)
 case atStart=>exact ⟨0,Nat.zero_le _,rfl,hid rfl⟩
 case round =>
  obtain ⟨k,hk,rfl,ht⟩:=hrel
  by_cases hlt:k<n
  ·obtain ⟨b,o,x,rfl,hb,hc,ex⟩:=hr.at_ hlt
   obtain ⟨b',o',y,rfl,hb',hc',ey⟩:=hr'.at_ hlt
   have HS:=hid (Yjc ht.out (by have:=HL.out; omega) (by have:=HL'.out; omega) ex.out ey.out)
   clear ht ex ey
   by_cases h1:x<y
   ·have H:Hid (Qi L L'=-1):=hid (by rw [HS.out,if_pos h1])
    have HC:Hid (Kb x y=-1):=hid (by unfold Kb; rw [if_pos h1])
    clear h1;go_wp2_with fail;refine (Qk x y w).mono ?_;rintro e v ⟨rfl,rfl⟩;rw [HC.out];go_wp2_with fail;go_ret;exact ⟨Vi H.out.symm,rfl⟩
   ·by_cases h2:y<x
    ·have H:Hid (Qi L L'=1):=hid (by rw [HS.out,if_neg h1,if_pos h2])
     have HC:Hid (Kb x y=1):=hid (by unfold Kb; rw [if_neg h1,if_pos h2])
     clear h1 h2;go_wp2_with fail;refine (Qk x y w).mono ?_;rintro e v ⟨rfl,rfl⟩;rw [HC.out];go_wp2_with fail;go_ret;exact ⟨Vi H.out.symm,rfl⟩
    ·have H:Hid (Qi L L'=Qi (L.drop (k+1)) (L'.drop (k+1))):=hid (by rw [HS.out,if_neg h1,if_neg h2])
     have HC:Hid (Kb x y=0):=hid (by unfold Kb; rw [if_neg h1,if_neg h2])
     clear h1 h2;go_wp2_with fail;refine (Qk x y w).mono ?_;rintro e v ⟨rfl,rfl⟩;rw [HC.out];go_wp2_with fail;go_round
     case rel=>exact ⟨k+1,by omega,by go_num,H⟩
     case measure=>simp [intOf]; omega
  ·obtain rfl:k=n:=by omega
   have H:Hid (Qi L L'=0):=hid (by
    have h1:=HL.out; have h2:=HL'.out
    rw [ht.out,List.drop_of_length_le (by omega),List.drop_of_length_le (by omega)]
    rfl)
   go_wp2;go_ret;exact ⟨Vi H.out.symm,rfl⟩
end Go.Proofs.YtkablhecedcngaaGreat
