/- NamesC, CellQ, NamesD, NamesU, CubRA, Ywy, Key3, MapR, SchemaT, CubT -/
import Derived.Test.YtmepdkdeanbbaaaGreatJ8
import Derived.Test.YtmepdkdeanbbaaaGreatJ12
import Derived.Test.YtmepdkdeanbbaaaGreatJ15
import Derived.Sort.Walk0
namespace Go.Proofs.YtmepdkdeanbbaaaGreat
set_option maxRecDepth 100000
set_option maxHeartbeats 8000000
open Go.RowKit
open Proofs.Tryz renaming prog→aa,ntmps244→ai,func244→ak,ntmps220→ar,func220→au,underlying277→ax,ntmps254→bj,ntmps208→bn,func254→bo,func208→bp,underlying23→cj,underlying9→cn,ntmps222→db,ntmps221→dc,ntmps210→dd,ntmps206→df,func222→dh,func221→di,func210→dj,func206→dm
open List renaming getD_eq_getElem?_getD→ae,getElem?_eq_getElem→ag,take_succ_eq_append_getElem→ao,pairwise_map→aq,take_of_length_le→av,drop_of_length_le→aw,mem_map→ay,length_map→bg,map_map→br,drop_eq_nil_iff→bs,map_congr_left→ch,getElem_mem→cw,map_append→cz,map_cons→dg,map_id→dn
open Bool renaming eq_false_iff→af,eq_iff_iff→da
open World renaming drewN_drewN→aj
open Nat renaming zero_le→an,le_refl→bz
open And renaming intro→az
open Go.Lib (hid)
variable {L L':List Txt}{B B' W c c' k n n':Nat}{w:World}{x y:Txt}{A A':Option Addr}{I K:TypeId}
theorem Kb(hk:k<L.length)(hk':k<L'.length)(h:L.take k=L'.take k)(e:x=L.getD k [])(e':x=L'.getD k []):L.take (k+1)=L'.take (k+1):=by
 rw[ao hk,ao hk',h];simp only[ae,ag hk,ag hk',Option.getD_some]at e e';rw[<-e,<-e']
theorem neT{x':Txt}(h:¬x=x')(e:x=L.getD k [])(e':x'=L'.getD k []):decide (L=L')=false:=by
 rw[decide_eq_false_iff_not];rintro rfl;exact h (e.trans e'.symm)
theorem eqT(h:L.take k=L'.take k)(hk:n<=k)(h1:L.length=n)(h2:L'.length=n):decide (L=L')=true:=by
 rw[av (by omega),av (by omega)]at h
 rw[h,decide_eq_true rfl]
theorem Ymp(hr:Zx w B A n c L)(hr':Zx w B' A' n' c' L'):
  Calls aa 206 #[.slice A n c,.slice A' n' c'] w λe w'=>e=.returned (.bool (decide (L=L')))/\∃k,w'=w.drewN k:=by
 have hn:=hr.Ym
 have hll:=hr.len
 have hll':=hr'.len
 by_cases h:n=n'
 ·subst h
  have hne:((n:Int) != (n:Int))=false:=by simp
  have HL:=hid hll
  have HL':=hid hll'
  clear hll hll';go_enter dm,df;go_wp2;clear hne;go_loopw [5] (λi wr=>∃k q:Nat,k<=n/\i=.int .i64 k/\wr=w.drewN q/\Hid (L.take k=L'.take k)) (λi _=>n-(intOf i).toNat)
  case atStart=>exact⟨0,0,an _,rfl,rfl,rfl⟩
  case round=>
   obtain⟨k,q,hk,rfl,rfl,ht⟩:=hrel
   by_cases hlt:k<n
   ·obtain⟨b,o,x,rfl,hb,hc,ex⟩:=hr.at_ hlt
    obtain⟨b',o',x',rfl,hb',hc',ex'⟩:=hr'.at_ hlt
    by_cases hxx:x=x'
    ·subst hxx
     have hxn:(x==x)=true:=by simp
     have H:=hid (Kb (by have:=HL.out;omega) (by have:=HL'.out;omega) ht.out ex.out ex'.out)
     go_wp2;go_quiet (fail);go_wp2;go_roundw
     case rel=>exact⟨k+1,q+nq,by omega,by go_num,rfl,H⟩
     case measure=>simp[intOf];omega
    ·have hxn:(x==x')=false:=by simp[hxx]
     have H:=hid (neT hxx ex.out ex'.out)
     clear hxx;go_wp2;go_quiet (fail);go_wp2;go_ret;exact⟨Yd H.out.symm,q+nq,aj _ _ _⟩
   ·have H:=hid (eqT ht.out (Nat.not_lt.1 hlt) HL.out HL'.out)
    go_wp2;go_ret;exact⟨Yd H.out.symm,q,rfl⟩
 ·have H:Hid (decide (L=L')=false):=hid (by rw[decide_eq_false_iff_not];intro e;subst e;omega)
  have hne:((n:Int) != (n':Int))=true:=by simp;omega
  clear hll hll';go_enter dm,df;go_wp2;go_ret;exact⟨Yd H.out.symm,0,rfl⟩
def leS(a b:Int):Int:=min a b
def grS(a b:Int):Int:=max a b
theorem Bb(a b:Int)(w:World):Calls aa 221 #[.int .i64 a,.int .i64 b] w λe w'=>e=.returned (.int .i64 (leS a b))/\w=w':=by
 by_cases h:b<a
 ·have H:=hid (show leS a b=b by unfold leS;omega)
  go_enter di,dc;go_wp2;go_ret;exact⟨X8 H.out.symm,rfl⟩
 ·have H:=hid (show leS a b=a by unfold leS;omega)
  go_enter di,dc;go_wp2;go_ret;exact⟨X8 H.out.symm,rfl⟩
theorem Fi(a b:Int)(w:World):Calls aa 222 #[.int .i64 a,.int .i64 b] w λe w'=>e=.returned (.int .i64 (grS a b))/\w=w':=by
 by_cases h:a<b
 ·have H:=hid (show grS a b=b by unfold grS;omega)
  go_enter dh,db;go_wp2;go_ret;exact⟨X8 H.out.symm,rfl⟩
 ·have H:=hid (show grS a b=a by unfold grS;omega)
  go_enter dh,db;go_wp2;go_ret;exact⟨X8 H.out.symm,rfl⟩
def inB(n m:Int):Bool:=decide (-m<=n/\n<=m)
theorem Dh(n m:Int)(w:World)(h0:0<=m)(h1:m<=9223372036854775807):Calls aa 254 #[.int .i64 n,.int .i64 m] w λe w'=>e=.returned (.bool (inB n m))/\w=w':=by
 by_cases h: -m<=n
 ·by_cases h2:n<=m
  ·have H:=hid (show inB n m=true by unfold inB;simp[h,h2])
   go_enter bo,bj;go_wp2;go_ret;exact⟨Yd H.out.symm,rfl⟩
  ·have H:=hid (show inB n m=false by unfold inB;simp[h2])
   go_enter bo,bj;go_wp2;go_ret;exact⟨Yd H.out.symm,rfl⟩
 ·have H:=hid (show inB n m=false by unfold inB;simp[h])
  go_enter bo,bj;go_wp2;go_ret;exact⟨Yd H.out.symm,rfl⟩
theorem Nq(n:Int)(w:World):Calls aa 253 #[.int .i64 n] w λe w'=>e=.returned (.bool (inB n 2305843009213693952))/\w=w':=by
 go_enter Tryz.func253,Tryz.ntmps253;go_wp2_with fail;refine(Dh n 2305843009213693952 w (by decide) (by decide)).mono ?_
 rintro e w' ⟨rfl,rfl⟩;go_wp2_with fail;go_ret;exact⟨rfl,rfl⟩
def Yo2(n s lo hi:Int):Bool:=decide (W7 n s lo hi)
theorem Yck(x:Int):inB x 2305843009213693952=decide (inV x):=rfl
theorem Yr5(x:Int):inB x 4611686018427387904=decide (inS x):=rfl
theorem Yni(n s lo hi:Int)(w:World):Calls aa 244 #[.int .i64 n,.int .i64 s,.int .i64 lo,.int .i64 hi] w λe w'=>e=.returned (.bool (Yo2 n s lo hi))/\w=w':=by
 obtain⟨r,hr⟩: ∃r,Yo2 n s lo hi=r:=⟨_,rfl⟩
 have hr2:r=true↔W7 n s lo hi:=by rw[<-hr];unfold Yo2;simp
 rw[hr];clear hr;obtain⟨b1,hb1⟩: ∃b,inB s 2305843009213693952=b:=⟨_,rfl⟩;obtain⟨b2,hb2⟩: ∃b,inB lo 2305843009213693952=b:=⟨_,rfl⟩;obtain⟨b3,hb3⟩: ∃b,inB hi 2305843009213693952=b:=⟨_,rfl⟩;obtain⟨b4,hb4⟩: ∃b,inB s 4611686018427387904=b:=⟨_,rfl⟩
 have k1:b1=true↔inV s:=by rw[<-hb1,Yck];simp
 have k2:b2=true↔inV lo:=by rw[<-hb2,Yck];simp
 have k3:b3=true↔inV hi:=by rw[<-hb3,Yck];simp
 have k4:b4=true↔inS s:=by rw[<-hb4,Yr5];simp
 have K:=hid (az k1 (az k2 (az k3 k4)))
 have R:=hid hr2
 have H1:=hid hb1
 have H2:=hid hb2
 have H3:=hid hb3
 have H4:=hid hb4
 clear hb1 hb2 hb3 hb4 k1 k2 k3 k4 hr2
 have i1:∀w,Calls aa 253 #[.int .i64 s] w λe w'=>e=.returned (.bool b1)/\w=w':=λw=>by have:=Nq s w;rwa [H1.out]at this
 have i2:∀w,Calls aa 253 #[.int .i64 lo] w λe w'=>e=.returned (.bool b2)/\w=w':=λw=>by have:=Nq lo w;rwa [H2.out]at this
 have i3:∀w,Calls aa 253 #[.int .i64 hi] w λe w'=>e=.returned (.bool b3)/\w=w':=λw=>by have:=Nq hi w;rwa [H3.out]at this
 have i4:∀w,Calls aa 254 #[.int .i64 s,.int .i64 4611686018427387904] w λe w'=>e=.returned (.bool b4)/\w=w':=λw=>by have:=Dh s 4611686018427387904 w (by decide) (by decide);rwa [H4.out]at this
 have I1:=hid i1
 have I2:=hid i2
 have I3:=hid i3
 have I4:=hid i4
 clear i1 i2 i3 i4 H1 H2 H3 H4
 by_cases h0:n=0
 ·subst h0
  by_cases h1:s=0/\lo=0/\hi=0
  ·obtain⟨rfl,rfl,rfl⟩:=h1
   have Z:Hid (r=true):=hid (R.out.2 (.inl ⟨rfl,rfl,rfl,rfl⟩))
   go_enter ak,ai;go_wp2;go_ret;exact⟨Yd Z.out.symm,rfl⟩
  ·have Z:Hid (r=false):=hid (by
    rw[af];intro h
    rcases R.out.1 h with⟨_,h2⟩|⟨h2,_⟩
    ·exact h1 h2
    ·exact h2 rfl)
   by_cases e1:s=0
   ·subst e1
    by_cases e2:lo=0
    ·subst e2
     have e3:((hi:Int)==0)=false:=by simp;intro h;exact h1 ⟨rfl,rfl,h⟩
     clear h1;go_enter ak,ai;go_wp2;go_ret;exact⟨Yd Z.out.symm,rfl⟩
    ·have e3:((lo:Int)==0)=false:=by simpa using e2
     clear h1;go_enter ak,ai;go_wp2;go_ret;exact⟨Yd Z.out.symm,rfl⟩
   ·have e3:((s:Int)==0)=false:=by simpa using e1
    clear h1;go_enter ak,ai;go_wp2;go_ret;exact⟨Yd Z.out.symm,rfl⟩
 ·by_cases h1:n=1
  ·subst h1
   clear h0
   by_cases e1:lo=hi
   ·subst e1
    by_cases e2:lo=s
    ·subst e2
     have Z:Hid (r=b1):=hid (by
      rw[da,R.out,K.out.1];unfold W7 S8 inV inS;omega)
     have e4:((lo:Int)==lo)=true:=by simp
     go_enter ak,ai;go_wp2_with fail;refine(I1.out _).mono ?_;rintro e w' ⟨rfl,rfl⟩;go_wp2_with fail;go_ret;exact⟨Yd Z.out.symm,rfl⟩
    ·have Z:Hid (r=false):=hid (by
      rw[af];intro h
      have:=R.out.1 h
      unfold W7 S8 at this;omega)
     have e3:((lo:Int)==s)=false:=by simpa using e2
     have e4:((lo:Int)==lo)=true:=by simp
     go_enter ak,ai;go_wp2_with fail;go_ret;exact⟨Yd Z.out.symm,rfl⟩
   ·have Z:Hid (r=false):=hid (by
     rw[af];intro h
     have:=R.out.1 h
     unfold W7 S8 at this;omega)
    have e3:((lo:Int)==hi)=false:=by simpa using e1
    go_enter ak,ai;go_wp2_with fail;go_ret;exact⟨Yd Z.out.symm,rfl⟩
  ·have e0:((n:Int)==0)=false:=by simpa using h0
   have e1:((n:Int)==1)=false:=by simpa using h1
   have Q:Hid (r=true↔lo<=hi/\b2=true/\b3=true/\b4=true):=hid (by
    obtain⟨_,k2,k3,k4⟩:=K.out;rw[R.out,k2,k3,k4];unfold W7 S8 inV inS;omega)
   clear R K h0 h1
   by_cases e2:lo<=hi
   ·cases b2
    ·have Z:Hid (r=false):=hid (by rw[af];intro h;cases (Q.out.1 h).2.1)
     go_enter ak,ai;go_wp2_with fail;refine(I2.out _).mono ?_;rintro e w' ⟨rfl,rfl⟩;go_wp2_with fail;go_ret;exact⟨Yd Z.out.symm,rfl⟩
    ·cases b3
     ·have Z:Hid (r=false):=hid (by rw[af];intro h;cases (Q.out.1 h).2.2.1)
      go_enter ak,ai;go_wp2_with fail;refine(I2.out _).mono ?_;rintro e w' ⟨rfl,rfl⟩;go_wp2_with fail;refine(I3.out _).mono ?_;rintro e w' ⟨rfl,rfl⟩;go_wp2_with fail;go_ret;exact⟨Yd Z.out.symm,rfl⟩
     ·have Z:Hid (r=b4):=hid (by rw[da,Q.out];exact⟨λh=>h.2.2.2,λh=>⟨e2,rfl,rfl,h⟩⟩)
      go_enter ak,ai;go_wp2_with fail;refine(I2.out _).mono ?_;rintro e w' ⟨rfl,rfl⟩;go_wp2_with fail;refine(I3.out _).mono ?_;rintro e w' ⟨rfl,rfl⟩;go_wp2_with fail;refine(I4.out _).mono ?_;rintro e w' ⟨rfl,rfl⟩;go_wp2_with fail;go_ret;exact⟨Yd Z.out.symm,rfl⟩
   ·have Z:Hid (r=false):=hid (by rw[af];intro h;exact e2 (Q.out.1 h).1)
    go_enter ak,ai;go_wp2_with fail;go_ret;exact⟨Yd Z.out.symm,rfl⟩
theorem Yt7(n s lo hi:Int):Yo2 n s lo hi=true↔W7 n s lo hi:=by unfold Yo2;simp
theorem Fk{n:Int}{A1 A2 A3:Option Addr}{n1 c1 n2 c2 n3 c3:Nat}{S M X:List Int}(h:Wi w w.heap.size A1 n1 c1 A2 n2 c2 A3 n3 c3 S M X){r:Bool}(hr:r=true↔Zo (n,S,M,X)):
  Calls aa 220 #[S6 n A1 n1 c1 A2 n2 c2 A3 n3 c3] w λe w'=>e=.returned (.bool r)/\Below w.heap.size w w':=by
 have R:=hid (hr.trans (Sg n S M X))
 have l1:=h.s.len
 have l2:=h.m.len
 have l3:=h.x.len
 have m1:=h.s.Ym
 have m2:=h.m.Ym
 have m3:=h.x.Ym
 have LL:=hid (az l1 (az l2 l3))
 have hbx:=hid (Yb w (.cells #[.int .i64 n,.slice A1 n1 c1,.slice A2 n2 c2,.slice A3 n3 c3] 71))
 clear hr
 by_cases h1:n1<=2
 ·by_cases h2:n2=n1
  ·by_cases h3:n3=n1
   ·by_cases h4:0<=n
    ·by_cases h5:n<=1099511627776
     ·subst h2 h3
      clear l1 l2 l3;go_enter au,ar;go_wp2_with fail
      have hB:=Block.new w 71 #[.int .i64 n,.slice A1 n3 c1,.slice A2 n3 c2,.slice A3 n3 c3]
      have hC:=h.below hbx.out (bz _)
      generalize w.alloc (.cells #[.int .i64 n,.slice A1 n3 c1,.slice A2 n3 c2,.slice A3 n3 c3] 71)=w1 at hbx hB hC⊢
      have g0:w1.cell? ⟨w.heap.size,0,none⟩=some (.int .i64 n):=hB.cell 0
      have g1:w1.cell? ⟨w.heap.size,1,none⟩=some (.slice A1 n3 c1):=hB.cell 1
      have g2:w1.cell? ⟨w.heap.size,2,none⟩=some (.slice A2 n3 c2):=hB.cell 2
      have g3:w1.cell? ⟨w.heap.size,3,none⟩=some (.slice A3 n3 c3):=hB.cell 3
      clear hB h;go_loopw [33] (λi wr=>∃k q:Nat,k<=n3/\i=.int .i64 k/\wr=w1.drewN q/\Hid (∀i,i<k->W7 n (S.getD i 0) (M.getD i 0) (X.getD i 0))) (λi _=>n3-(intOf i).toNat)
      case atStart=>exact⟨0,0,an _,rfl,rfl,hid λi hi=>absurd hi (by omega)⟩
      case round=>
       obtain⟨k,q,hk,rfl,rfl,hP⟩:=hrel
       by_cases hlt:k<n3
       ·obtain⟨b1,o1,s,rfl,_,cs,es⟩:=hC.s.at_ hlt
        obtain⟨b2,o2,lo,rfl,_,cm,em⟩:=hC.m.at_ hlt;obtain⟨b3,o3,hi,rfl,_,cx,ex⟩:=hC.x.at_ hlt
        have i0:(0:Int)<=(k:Int):=by omega
        have i1:(k:Int)<(n3:Int):=by omega
        obtain⟨b,hb⟩: ∃b,Yo2 n s lo hi=b:=⟨_,rfl⟩
        have hbP:Hid (b=true↔W7 n (S.getD k 0) (M.getD k 0) (X.getD k 0)):=hid (by rw[<-hb,Yt7,es.out,em.out,ex.out])
        have HM:Hid (∀w,Calls aa 244 #[.int .i64 n,.int .i64 s,.int .i64 lo,.int .i64 hi] w λe w'=>e=.returned (.bool b)/\w=w'):=hid λw=>by have:=Yni n s lo hi w;rwa [hb]at this
        clear hb
        cases b
        ·have Z:Hid (r=false):=hid (by
          rw[af];intro h
          have h1:=(R.out.1 h).2.2.2.2.2 k (by have:=LL.out;omega)
          cases hbP.out.2 h1)
         go_wp2_with fail;go_quiet ((go_at_call 244;exact X0 HM.out _));go_wp2_with fail;go_ret;exact⟨Yd Z.out.symm,below_drewN (below_drewN hbx.out _) _⟩
        ·have hP2:Hid (∀i,i<k+1->W7 n (S.getD i 0) (M.getD i 0) (X.getD i 0)):=hid λi hi=>by
          by_cases h:i<k
          ·exact hP.out i h
          ·obtain rfl:i=k:=by omega
           exact hbP.out.1 rfl
         go_wp2_with fail;go_quiet ((go_at_call 244;exact X0 HM.out _));go_wp2_with fail;go_roundw
         case rel=>exact⟨k+1,_,by omega,by go_num,by first|rfl|rw[aj],hP2⟩
         case measure=>simp[intOf];omega
       ·have Z:Hid (r=true):=hid (R.out.2 (by
         obtain⟨a1,a2,a3⟩:=LL.out;refine⟨by omega,by omega,by omega,h4,h5,λi hi=>hP.out i (by omega)⟩))
        go_wp2_with fail;go_ret;exact⟨Yd Z.out.symm,below_drewN hbx.out _⟩
     ·have Z:Hid (r=false):=hid (by rw[af];intro h;exact h5 (R.out.1 h).2.2.2.2.1)
      subst h2 h3;clear l1 l2 l3;go_enter au,ar;go_wp2_with fail;go_ret;exact⟨Yd Z.out.symm,hbx.out⟩
    ·have Z:Hid (r=false):=hid (by rw[af];intro h;exact h4 (R.out.1 h).2.2.2.1)
     subst h2 h3;clear l1 l2 l3;go_enter au,ar;go_wp2_with fail;go_ret;exact⟨Yd Z.out.symm,hbx.out⟩
   ·have Z:Hid (r=false):=hid (by rw[af];intro h;have:=(R.out.1 h).2.2.1;have:=LL.out;omega)
    have e3:((n3:Int) != (n1:Int))=true:=by simp;omega
    subst h2;clear l1 l2 l3 h3;go_enter au,ar;go_wp2_with fail;go_ret;exact⟨Yd Z.out.symm,hbx.out⟩
  ·have Z:Hid (r=false):=hid (by rw[af];intro h;have:=(R.out.1 h).2.1;have:=LL.out;omega)
   have e3:((n2:Int) != (n1:Int))=true:=by simp;omega
   clear l1 l2 l3 h2;go_enter au,ar;go_wp2_with fail;go_ret;exact⟨Yd Z.out.symm,hbx.out⟩
 ·have Z:Hid (r=false):=hid (by rw[af];intro h;have:=(R.out.1 h).1;have:=LL.out;omega)
  have e3:(2:Int)<(n1:Int):=by omega
  clear l1 l2 l3 h1;go_enter au,ar;go_wp2_with fail;go_ret;exact⟨Yd Z.out.symm,hbx.out⟩
theorem Ye7(h:x<y):Op.bytesLess x y=true:=by rw[Go.Proofs.bytesLess_eq,decide_eq_true h]
theorem E4(h:¬x<y):Op.bytesLess x y=false:=by rw[Go.Proofs.bytesLess_eq,decide_eq_false h]
def Gu(x y:Txt):Int:=if x<y then -1 else if y<x then 1 else 0
theorem G1(x:Txt)(w:World):Calls aa 243 #[.string ⟨x.toArray⟩] w λe w'=>e=.returned (.bool false)/\w=w':=by
 have h:(x==x)=true:=by simp
 go_enter Tryz.func243,Tryz.ntmps243;go_wp2;go_ret;exact⟨rfl,rfl⟩
theorem Nt(x y:Txt)(w:World):Calls aa 208 #[.string ⟨x.toArray⟩,.string ⟨y.toArray⟩] w λe w'=>e=.returned (.int .i64 (Gu x y))/\w=w':=by
 by_cases h1:x<y
 ·have H:Hid (Gu x y=-1):=hid (by unfold Gu;rw[if_pos h1])
  have g1:=Ye7 h1
  clear h1;go_enter bp,bn;go_wp2_with (go_at_call 243;refine(G1 _ _).mono ?_;rintro e v ⟨rfl,rfl⟩);go_ret;exact⟨X8 H.out.symm,rfl⟩
 ·by_cases h2:y<x
  ·have H:Hid (Gu x y=1):=hid (by unfold Gu;rw[if_neg h1,if_pos h2])
   have g1:=E4 h1
   have g2:(x==y)=false:=by rw[beq_eq_false_iff_ne];rintro rfl;exact Vx _ h2
   clear h1 h2;go_enter bp,bn;go_wp2_with (go_at_call 243;refine(G1 _ _).mono ?_;rintro e v ⟨rfl,rfl⟩);go_ret;exact⟨X8 H.out.symm,rfl⟩
  ·obtain rfl:=Hw h1 h2
   have H:Hid (Gu x x=0):=hid (by unfold Gu;rw[if_neg h1,if_neg h1])
   have g1:=E4 h1
   have g2:(x==x)=true:=by simp
   clear h1 h2;go_enter bp,bn;go_wp2_with (go_at_call 243;refine(G1 _ _).mono ?_;rintro e v ⟨rfl,rfl⟩);go_ret;exact⟨X8 H.out.symm,rfl⟩
/-! ### Where two lists part -/
theorem K8(hk:k<L.length)(e:x=L.getD k []):L.drop k=x::L.drop (k+1):=by
 rw[List.drop_eq_getElem_cons hk,e,ae,ag hk];rfl
theorem Ylf(hk:k<L.length)(hk':k<L'.length)(ht:L.take k=L'.take k)(e:x=L.getD k [])(e':y=L'.getD k [])(h:x<y):X4 L L'=-1:=by
 rw[Lb k L L' (by omega) (by omega) ht,K8 hk e,K8 hk' e',X4,if_pos h]
theorem Ylj(hk:k<L.length)(hk':k<L'.length)(ht:L.take k=L'.take k)(e:x=L.getD k [])(e':y=L'.getD k [])(h:y<x):X4 L L'=1:=by
 rw[Lb k L L' (by omega) (by omega) ht,K8 hk e,K8 hk' e',X4,if_neg (Ybb h),if_pos h]
theorem Ml(hk:k<=L.length)(hk':k<=L'.length)(ht:L.take k=L'.take k)(h:L.length=k∨L'.length=k):X4 L L'=if L.length<L'.length then -1 else if L'.length<L.length then 1 else 0:=by
 rw[Lb k L L' hk hk' ht]
 by_cases h1:L.length=k
 ·rw[aw (by omega:L.length<=k)]
  by_cases h2:L'.length=k
  ·rw[aw (by omega:L'.length<=k),if_neg (by omega),if_neg (by omega)];rfl
  ·rw[if_pos (by omega)]
   rcases hd:L'.drop k with _|⟨b,q⟩
   ·rw[bs]at hd;omega
   ·rfl
 ·rw[aw (by omega:L'.length<=k),if_neg (by omega),if_pos (by omega)]
  rcases hd:L.drop k with _|⟨b,q⟩
  ·rw[bs]at hd;omega
  ·rfl
theorem Yeo(hr:Zx w B A n c L)(hr':Zx w B' A' n' c' L'):
  Calls aa 145 #[.slice A n c,.slice A' n' c'] w λe w'=>e=.returned (.int .i64 (X4 L L'))/\w=w':=by
 have hn:=hr.Ym
 have hn':=hr'.Ym
 have HL:=hid hr.len
 have HL':=hid hr'.len
 go_enter Tryz.func145,Tryz.ntmps145;go_wp2;go_loop [11] (λi=>∃k:Nat,k<=n/\k<=n'∧i=.int .i64 k/\Hid (L.take k=L'.take k)) (λi=>n-(intOf i).toNat)
 case atStart=>exact⟨0,an _,an _,rfl,hid rfl⟩
 case round=>
  obtain⟨k,hk,hk',rfl,ht⟩:=hrel
  by_cases hlt:k<n
  ·obtain⟨b,o,x,rfl,hb,hc,ex⟩:=hr.at_ hlt
   by_cases hlt':k<n'
   ·obtain⟨b',o',y,rfl,hb',hc',ey⟩:=hr'.at_ hlt'
    by_cases h1:x<y
    ·have H:=hid (Ylf (by have:=HL.out;omega) (by have:=HL'.out;omega) ht.out ex.out ey.out h1)
     have HC:Hid (Gu x y=-1):=hid (by unfold Gu;rw[if_pos h1])
     clear h1;go_wp2_with fail;refine(Nt x y w).mono ?_;rintro e v ⟨rfl,rfl⟩;rw[HC.out];go_wp2_with fail;go_ret;exact⟨X8 H.out.symm,rfl⟩
    ·by_cases h2:y<x
     ·have H:=hid (Ylj (by have:=HL.out;omega) (by have:=HL'.out;omega) ht.out ex.out ey.out h2)
      have HC:Hid (Gu x y=1):=hid (by unfold Gu;rw[if_neg h1,if_pos h2])
      clear h1 h2;go_wp2_with fail;refine(Nt x y w).mono ?_;rintro e v ⟨rfl,rfl⟩;rw[HC.out];go_wp2_with fail;go_ret;exact⟨X8 H.out.symm,rfl⟩
     ·obtain rfl:=Hw h1 h2
      have H:=hid (Kb (by have:=HL.out;omega) (by have:=HL'.out;omega) ht.out ex.out ey.out)
      have HC:Hid (Gu x x=0):=hid (by unfold Gu;rw[if_neg h1,if_neg h1])
      clear h1 h2;go_wp2_with fail;refine(Nt x x w).mono ?_;rintro e v ⟨rfl,rfl⟩;rw[HC.out];go_wp2_with fail;go_round
      case rel=>exact⟨k+1,by omega,by omega,by go_num,H⟩
      case measure=>simp[intOf];omega
   ·have H:Hid (X4 L L'=1):=hid (by
     have h1:=HL.out;have h2:=HL'.out
     rw[Ml (k:=k) (by omega) (by omega) ht.out (by omega),if_neg (by omega),if_pos (by omega)])
    go_wp2;go_ret;exact⟨X8 H.out.symm,rfl⟩
  ·by_cases hlt':n<n'
   ·have H:Hid (X4 L L'=-1):=hid (by
     have h1:=HL.out;have h2:=HL'.out
     rw[Ml (k:=k) (by omega) (by omega) ht.out (by omega),if_pos (by omega)])
    go_wp2;go_ret;exact⟨X8 H.out.symm,rfl⟩
   ·have H:Hid (X4 L L'=0):=hid (by
     have h1:=HL.out;have h2:=HL'.out
     rw[Ml (k:=k) (by omega) (by omega) ht.out (by omega),if_neg (by omega),if_neg (by omega)])
    go_wp2;go_ret;exact⟨X8 H.out.symm,rfl⟩
theorem Yqj(hr:Zx w B A n c L)(hr':Zx w B' A' n' c' L'):
  Calls aa 80 #[.slice A n c,.slice A' n' c'] w λe w'=>e=.returned (.int .i64 (X4 L L'))/\w=w':=by
 go_enter Tryz.func80,Tryz.ntmps80;go_wp2_with fail;refine(Yeo hr hr').mono ?_;rintro e v ⟨rfl,rfl⟩;go_wp2_with fail;go_ret;exact⟨rfl,rfl⟩
theorem Yiy(hr:Zx w B A n c L)(hr':Zx w B' A' n' c' L'):
  Calls aa 81 #[.slice A n c,.slice A' n' c'] w λe w'=>e=.returned (.int .i64 (X4 L L'))/\∃k,w'=w.drewN k:=by
 have hn:=hr.Ym
 have hn':=hr'.Ym
 have HL:=hid hr.len
 have HL':=hid hr'.len
 go_enter Tryz.func81,Tryz.ntmps81;go_wp2;go_loopw [5] (λi wr=>∃k q:Nat,k<=n/\k<=n'∧i=.int .i64 k/\wr=w.drewN q/\Hid (L.take k=L'.take k)) (λi _=>n-(intOf i).toNat)
 case atStart=>exact⟨0,0,an _,an _,rfl,rfl,hid rfl⟩
 case round=>
  obtain⟨k,q,hk,hk',rfl,rfl,ht⟩:=hrel
  by_cases hlt:k<n
  ·by_cases hlt':k<n'
   ·obtain⟨b,o,x,rfl,hb,hc,ex⟩:=hr.at_ hlt
    obtain⟨b',o',y,rfl,hb',hc',ey⟩:=hr'.at_ hlt'
    by_cases h1:x<y
    ·have H:=hid (Ylf (by have:=HL.out;omega) (by have:=HL'.out;omega) ht.out ex.out ey.out h1)
     have g1:=Ye7 h1
     clear h1;go_wp2;go_quiet (fail);go_wp2;go_ret;exact⟨X8 H.out.symm,q+nq,aj _ _ _⟩
    ·by_cases h2:y<x
     ·have H:=hid (Ylj (by have:=HL.out;omega) (by have:=HL'.out;omega) ht.out ex.out ey.out h2)
      have g1:=E4 h1
      have g2:(x==y)=false:=by rw[beq_eq_false_iff_ne];rintro rfl;exact Vx _ h2
      clear h1 h2;go_wp2;go_quiet (fail);obtain⟨na,hna⟩: ∃na,na=nq:=⟨_,rfl⟩;go_wp2;go_quiet (fail);go_wp2;go_ret;exact⟨X8 H.out.symm,_,by first|exact aj _ _ _|(rw[aj,aj])⟩
     ·obtain rfl:=Hw h1 h2
      have H:=hid (Kb (by have:=HL.out;omega) (by have:=HL'.out;omega) ht.out ex.out ey.out)
      have g1:=E4 h1
      have g2:(x==x)=true:=by simp
      clear h1 h2;go_wp2;go_quiet (fail);go_wp2;go_quiet (fail);go_wp2;go_roundw
      case rel=>exact⟨k+1,_,by omega,by omega,by go_num,rfl,H⟩
      case measure=>simp[intOf];omega
   ·have H:Hid (X4 L L'=1):=hid (by
     have h1:=HL.out;have h2:=HL'.out
     rw[Ml (k:=k) (by omega) (by omega) ht.out (by omega),if_neg (by omega),if_pos (by omega)])
    have g1:¬(n:Int)<(n':Int):=by omega
    go_wp2;go_ret;exact⟨X8 H.out.symm,q,rfl⟩
  ·by_cases hlt':n<n'
   ·have H:Hid (X4 L L'=-1):=hid (by
     have h1:=HL.out;have h2:=HL'.out
     rw[Ml (k:=k) (by omega) (by omega) ht.out (by omega),if_pos (by omega)])
    go_wp2;go_ret;exact⟨X8 H.out.symm,q,rfl⟩
   ·have H:Hid (X4 L L'=0):=hid (by
     have h1:=HL.out;have h2:=HL'.out
     rw[Ml (k:=k) (by omega) (by omega) ht.out (by omega),if_neg (by omega),if_neg (by omega)])
    go_wp2;go_ret;exact⟨X8 H.out.symm,q,rfl⟩
theorem Yef{w:World}{ops:Array Oper}{rest:List Oper}{o:Oper}{a:Act}{Q:Exit->Act->World->Prop}(hgd:o.guard=none)(s x:Operand)
  (ho:o.op=.call {callee:=.builtin .append,args:=#[s,x],argTypes:=#[23,23]})
  (base:Nat) (v:Value) (l:List Txt) (hs:a.eval s=v) (hown:Xj w base v l) (B:Nat) (A:Option Addr) (m c:Nat) (news:List Txt) (hx:a.eval x=.slice A m c) (hr:Zx w B A m c news) (hbytes:(l.length+m)*16<=140737488355328) (hbase:base<=w.heap.size)
  (h:∀v' w',Xj w' base v' (l++news)->Zl w v w' v'→wpList aa ops Q rest (a.put o.dst v') w'):wpList aa ops Q (o::rest) a w:=by
 obtain⟨i,hi,hz0,hz1,hz2⟩:=info_parts Fj
 have hml:=hr.len
 have hmap:(l++news).map Wa=l.map Wa++news.map Wa:=cz
 have key:∃v' w',(Builtin.append_ #[23,23] o.type #[v,.slice A m c]).run aa w=.ok v' w'∧Xj w' base v' (l++news)/\Zl w v w' v':=by
  rcases A with _|ad
  ·obtain rfl:=hr.void rfl
   have hc:=hr.cap
   obtain rfl:m=0:=by omega
   obtain rfl:news=[]:=List.eq_nil_of_length_eq_zero hml;exact⟨v,w,run_append_owned_none (P:=aa) (w:=w) base 23 o.type 9 i 1 cj hi v l.length (l.map Wa) hown,by rw[List.append_nil];exact hown,Zl.refl w v⟩
  ·have hcells:∀j u,(news.map Wa)[j]?=some u->w.cell? (ad.add j)=some u:=by
    intro j u hu
    have hj:j<(news.map Wa).length:=by
     rcases Nat.lt_or_ge j (news.map Wa).length with h1|h1
     ·exact h1
     ·rw[List.getElem?_eq_none h1]at hu;cases hu
    obtain⟨b,o',e',_,hc⟩:=hr.has (by omega)
    injection e' with e'
    subst e';rw[Yu];exact hc j u hu
   obtain⟨v',w',h1,h2,h3,_,h5⟩:=run_append_own_at (P:=aa) w base 23 o.type 9 i _ 1 16 cj hi hz0 hz1 hz2 rfl (by decide) v l.length (l.map Wa) hown ad m c (news.map Wa) (by simp[hml]) hcells (Ypw news) (by unfold maxLen;omega) (by omega) hbase
   refine⟨v',w',h1,by unfold Xj;rw[hmap,List.length_append,hml];exact h2,h3,λk hk=>?_⟩
   rcases h5 with h5|h5
   ·exact .inl (h5▸hk)
   ·rw[h5]at hk
    injection hk with hk
    exact .inr (Nat.le_of_eq hk)
 obtain⟨v',w',hrun,h2,h3⟩:=key;refine wpList_plain hgd λK hK=>?_
 unfold Oper.wp execOp;simp only[ho,resolve,invoke,builtin,Sem.run_bind,Sem.run_pure,Result.andThen_ok,List.map_toArray,dg,List.map_nil,hs,hx,hrun];exact hK _ _ (h v' w' h2 h3)
theorem Mq(w:World)(y:Value)(t:TypeId)(g:Nat)(hg:g=w.heap.size):(w.alloc (.cells #[y] t)).cell? ⟨g,0,none⟩=some y:=by
 subst hg;rw[Zq];rfl
theorem Ou(h:k<L.length){x:Txt}(hx:x=L.getD k []):L.take k++[x]=L.take (k+1):=by
 rw[List.take_add_one,hx,ae,ag h];rfl
section
structure Rq (w:World) (r W m:Nat) (S:Nat->Prop) (A:Option Addr) (n c:Nat) (C:Cub):Prop where
 blk:Block w r 137 #[.int .i64 W,.int .i64 m,.slice A n c]
 row:Row Lh 5 w S A n c C
section
variable {w w' : World}{r W m n c:Nat}{S:Nat->Prop}{A:Option Addr}{C:Cub}
theorem Rq.c0(h:Rq w r W m S A n c C):w.cell? ⟨r,0,none⟩=some (.int .i64 W):=h.blk.cell 0
theorem Rq.c1(h:Rq w r W m S A n c C):w.cell? ⟨r,1,none⟩=some (.int .i64 m):=h.blk.cell 1
theorem Rq.c2(h:Rq w r W m S A n c C):w.cell? ⟨r,2,none⟩=some (.slice A n c):=h.blk.cell 2
theorem Rq.Yc(h:Rq w r W m S A n c C)(hb:Below w.heap.size w w'):Rq w' r W m S A n c C:=⟨h.blk.below hb h.blk.lt,h.row.mv Xe (Mv.Yc hb S)⟩
end
theorem Yiv{r:Nat}{L:List Int}(hc:w.cell? ⟨r,0,none⟩=some (.int .i64 W))(h:Y2 w B A n c L):
  Calls aa 210 #[.pointer (some ⟨r,0,none⟩),.slice A n c] w λe w'=>e=.returned (.bool (decide (isKey W L)))/\∃k,w'=w.drewN k:=by
 have hn:=h.Ym
 have hll:=hid h.len
 by_cases hW:n=W
 ·subst hW
  have hne:((n:Int) != (n:Int))=false:=by simp
  go_enter dj,dd;go_wp2;clear hne;go_loopw [5] (λi wr=>∃k:Nat,k<=n/\i=.int .i64 k/\wr=w/\Hid (∀j,j<k->0<=L.getD j 0/\L.getD j 0<=40)) (λi _=>n-(intOf i).toNat)
  case atStart=>exact⟨0,an _,rfl,rfl,hid (λj hj=>absurd hj (by omega))⟩
  case round=>
   obtain⟨k,hk,rfl,rfl,ht⟩:=hrel
   by_cases hlt:k<n
   ·obtain⟨b,o,x,rfl,hb,hcx,ex⟩:=h.at_ hlt
    have hno:¬(0<=x/\x<=40)->Hid (decide (isKey n L)=false):=λhx=>hid (decide_eq_false λhk=>hx (by
     have h1:=hk.2 x (by
      rw[ex.out,ae,ag (by rw[hll.out];exact hlt)]
      exact cw _)
     exact h1))
    by_cases h0:x<0
    ·have hd:decide (x<0)=true:=decide_eq_true h0
     have H:=hno (by omega)
     clear hno;go_wp2;go_ret;exact⟨Yd H.out.symm,0,rfl⟩
    ·have hd:decide (x<0)=false:=decide_eq_false h0
     by_cases h40:40<x
     ·have hd2:decide (40<x)=true:=decide_eq_true h40
      have H:=hno (by omega)
      clear hno;go_wp2;go_ret;exact⟨Yd H.out.symm,0,rfl⟩
     ·have hd2:decide (40<x)=false:=decide_eq_false h40
      have H:Hid (∀j,j<k+1->0<=L.getD j 0/\L.getD j 0<=40):=hid λj hj=>by
       by_cases hjk:j<k
       ·exact ht.out j hjk
       ·obtain rfl:j=k:=by omega
        rw[<-ex.out];omega
      clear hno;go_wp2;go_roundw
      case rel=>exact⟨k+1,by omega,by go_num,trivial,H⟩
      case measure=>simp[intOf];omega
   ·have H:Hid (decide (isKey n L)=true):=hid (decide_eq_true ⟨hll.out,λc hc=>by
     obtain⟨i,hi,rfl⟩:=List.getElem_of_mem hc
     have h1:=ht.out i (by have:=hll.out;omega)
     rwa [ae,ag hi]at h1⟩)
    go_wp2;go_ret;exact⟨Yd H.out.symm,0,rfl⟩
 ·have H:Hid (decide (isKey W L)=false):=hid (decide_eq_false λhk=>hW (by have h1:=hk.1;have h2:=hll.out;omega))
  have hne:((n:Int) != (W:Int))=true:=by simp;omega
  go_enter dj,dd;go_wp2;go_ret;exact⟨Yd H.out.symm,0,rfl⟩
/-! ### Less -/
theorem Yp4{L L':List Int}: ∀{k:Nat},L.take k=L'.take k->k<L.length->k<L'.length->L.getD k 0≠L'.getD k 0->Ze L L'=decide (L.getD k 0<L'.getD k 0):=by
 induction L generalizing L' with
 |nil=>intro k _ h;simp at h
 |cons a L ih=>
  intro k h1 h2 h3 h4
  match L',k with
  |[],_=>simp at h3
  |b::L',0=>
   rw[Ze];simp at h4;rw[if_neg h4];simp
  |b::L',k+1=>
   simp at h1 h2 h3 h4⊢;rw[Ze,if_pos h1.1,ih h1.2 h2 h3 (by simpa using h4)]
   simp
theorem Ymk{L L':List Int}(h:L.take (min L.length L'.length)=L'.take (min L.length L'.length)):Ze L L'=decide (L.length<L'.length):=by
 induction L generalizing L' with
 |nil=>cases L' <;> simp[Ze]
 |cons a L ih=>
  match L' with
  |[]=>simp[Ze]
  |b::L'=>
   simp only[List.length_cons]at h;rw[show min (L.length+1) (L'.length+1)=min L.length L'.length+1 by omega]at h
   simp at h;rw[Ze,if_pos h.1,ih h.2];simp
theorem Yej{L L':List Int}(hr:Y2 w B A n c L)(hr':Y2 w B' A' n' c' L'):
  Calls aa 139 #[.slice A n c,.slice A' n' c'] w λe w'=>e=.returned (.bool (Ze L L'))/\∃k,w'=w.drewN k:=by
 have hn:=hr.Ym
 have hn':=hr'.Ym
 have HL:=hid hr.len
 have HL':=hid hr'.len
 go_enter Tryz.func139,Tryz.ntmps139;go_wp2;go_loopw [5] (λi wr=>∃k q:Nat,k<=n/\k<=n'∧i=.int .i64 k/\wr=w.drewN q/\Hid (L.take k=L'.take k)) (λi _=>n-(intOf i).toNat)
 case atStart=>exact⟨0,0,an _,an _,rfl,rfl,rfl⟩
 case round=>
  obtain⟨k,q,hk,hk',rfl,rfl,ht⟩:=hrel
  have hend:¬(k<n/\k<n')->Hid (Ze L L'=decide (n<n')):=λhx=>hid (by
   have h1:=HL.out
   have h2:=HL'.out
   have hm:min L.length L'.length=k:=by omega
   rw[Ymk (by rw[hm];exact ht.out),h1,h2])
  by_cases hlt:k<n
  ·have hd:decide ((k:Int)<(n:Int))=true:=decide_eq_true (by omega)
   by_cases hlt':k<n'
   ·have hd':decide ((k:Int)<(n':Int))=true:=decide_eq_true (by omega)
    obtain⟨b,o,x,rfl,hb,hcx,ex⟩:=hr.at_ hlt;obtain⟨b',o',x',rfl,hb',hcx',ex'⟩:=hr'.at_ hlt';clear hend
    by_cases hxx:x=x'
    ·subst hxx
     have hxn:(x != x)=false:=by simp
     have H:=hid (L1 (by have:=HL.out;omega) (by have:=HL'.out;omega) ht.out ex.out ex'.out)
     go_wp2;go_quiet (fail);go_wp2;go_roundw
     case rel=>exact⟨k+1,q+nq,by omega,by omega,by go_num,rfl,H⟩
     case measure=>simp[intOf];omega
    ·have hxn:(x != x')=true:=by simp[hxx]
     have H:Hid (Ze L L'=decide (x<x')):=hid (by
      have h1:=HL.out
      have h2:=HL'.out
      rw[Yp4 ht.out (by omega) (by omega) (by rw[<-ex.out,<-ex'.out];exact hxx),<-ex.out,<-ex'.out])
     clear hxx;go_wp2;go_quiet (fail);go_wp2;go_quiet (fail);go_wp2;go_ret;exact⟨Yd H.out.symm,_,by rw[aj,aj]⟩
   ·have hd':decide ((k:Int)<(n':Int))=false:=decide_eq_false (by omega)
    have H:=hend (by omega)
    clear hend;go_wp2;go_ret;exact⟨Yd H.out.symm,q,rfl⟩
  ·have hd:decide ((k:Int)<(n:Int))=false:=decide_eq_false (by omega)
   have H:=hend (by omega)
   clear hend;go_wp2;go_ret;exact⟨Yd H.out.symm,q,rfl⟩
end
section
open Go.RowKit Go.Maps
structure Ev (K:TypeId) (kv:List Int->Value) (W:Nat):Prop where
 law:Keyed aa K
 is:∀k,isKey W k->∃kl,keyOf aa K (kv k)=some kl
 inj:∀k j,isKey W k->isKey W j->kv k=kv j->k=j
theorem Ev.one{K:TypeId}{kv:List Int->Value}{W:Nat}(h:Ev K kv W){k j:List Int}{kl:Lit}(hk:isKey W k)(hj:isKey W j)(e:keyOf aa K (kv k)=some kl)(e':keyOf aa K (kv j)=some kl):k=j:=h.inj k j hk hj (h.law.inj e e')
def Ywp(w:World)(S:Nat->Prop):Option PC->Option Value->Prop
 |none,none=>True
 |some x,some v=>∃us,v=.agg us.toArray/\M2 w S us x
 |_,_=>False
def Ywy(K:TypeId)(kv:List Int->Value)(W:Nat)(w:World)(S:Nat->Prop)(b:Nat)(C:Cub):Prop:=
 ∃F,Se w K b C.length F/\(∀k kl,isKey W k->keyOf aa K (kv k)=some kl->Ywp w S (Za C k) (F kl))/\∀kl v,F kl=some v->∃k,isKey W k/\keyOf aa K (kv k)=some kl
section
variable {w w' : World}{S S' : Nat->Prop}{K:TypeId}{kv:List Int->Value}{W b:Nat}{C:Cub}
end
end
section
open Go.RowKit Go.Maps
def kv3(k:List Int):Value:=.agg #[.int .i64 (k.getD 0 0),.int .i64 (k.getD 1 0),.int .i64 (k.getD 2 0)]
theorem Ys8{a b:List Int}(h:a.length=b.length)(h3:a.length<=3)(e:kv3 a=kv3 b):a=b:=by
 simp only[kv3,Value.agg.injEq,Array.mk.injEq,List.cons.injEq,Value.int.injEq,and_true,true_and]at e;obtain⟨h1,h2,h4⟩:=e;exact Yey h h3 (by unfold Sc;rw[h1,h2,h4])
theorem Yd6{x:Int}(h:0<=x/\x<=40):(Lit.int .i64 x).wf=true:=by
 have h1:IntKind.i64.min=-9223372036854775808:=rfl
 have h2:IntKind.i64.max=9223372036854775807:=rfl
 simp only[Lit.wf,Bool.and_eq_true,decide_eq_true_eq];omega
theorem Uk{k:List Int}(h:isKey W k)(i:Nat):0<=k.getD i 0/\k.getD i 0<=40:=by
 rw[ae]
 rcases hi:k[i]? with _|c
 ·simp
 ·exact h.2 c (List.mem_of_getElem? hi)
theorem Yuc(hu:aa.underlying K=some (.array 3 I))(hI:aa.underlying I=some (.int .i64))(h1:aa.keyType K=true)(h3:aa.cellsOf K=3)(h4:aa.cellsOf I=1)(h2:0<aa.types.size)
  {x y z:Int}(hx:(Lit.int .i64 x).wf=true) (hy:(Lit.int .i64 y).wf=true) (hz:(Lit.int .i64 z).wf=true):∃kl,keyOf aa K (.agg #[.int .i64 x,.int .i64 y,.int .i64 z])=some kl:=by
 have hf:(Value.agg #[.int .i64 x,.int .i64 y,.int .i64 z]).formed aa K=true:=by
  simp[Value.formed,hu,h3]
 unfold keyOf;rw[hu,h1,hf];simp only[Bool.and_self,if_true]
 have hl:∃ls,aa.keyLits (aa.types.size+1) K (Value.agg #[.int .i64 x,.int .i64 y,.int .i64 z]).cells.toList=some ls:=by
  obtain⟨d,hd⟩: ∃d,aa.types.size+1=d+2:=⟨aa.types.size-1,by omega⟩
  rw[hd];clear hd h2 h1 hf
  have hr:List.range 3=[0,1,2]:=by decide
  simp[Program.keyLits,hu,hI,Value.cells,h3,h4,hr,hx,hy,hz]
 obtain⟨ls,hl⟩:=hl;rw[hl];exact⟨_,rfl⟩
theorem Ywd(law:Keyed aa K)(hu:aa.underlying K=some (.array 3 I))(hI:aa.underlying I=some (.int .i64))(h1:aa.keyType K=true)(h3:aa.cellsOf K=3)(h4:aa.cellsOf I=1)(h2:0<aa.types.size){W:Nat}(hW:W<=3):Ev K kv3 W where
 law:=law
 is k hk:=Yuc hu hI h1 h3 h4 h2 (Yd6 (Uk hk 0)) (Yd6 (Uk hk 1)) (Yd6 (Uk hk 2))
 inj k j hk hj e:=Ys8 (hk.1.trans hj.1.symm) (by rw[hk.1];exact hW) e
end
section
open Go.RowKit Go.Maps
/-! ### plain: keys in order -/
theorem Ah(A:List (List Int))(k:List Int):Za (A.map λa=>(a,Yl)) k=if k∈A then some Yl else none:=by
 induction A with
 |nil=>simp[Za]
 |cons a A ih=>
  rw[dg,Za,ih]
  by_cases h:a=k
  ·subst h
   simp
  ·rw[if_neg h]
   by_cases h2:k∈A
   ·rw[if_pos h2,if_pos (List.mem_cons_of_mem _ h2)]
   ·rw[if_neg h2,if_neg (λhm=>(List.mem_cons.1 hm).elim (λe=>h e.symm) h2)]
theorem Yg4{C:Cub}(h:Ris C):(C.map (·.1)).Pairwise λa b=>Ze a b=true:=aq.2 h
theorem O8{C:Cub}(h:Ris C):(C.map (·.1)).Nodup:=(Yg4 h).imp λhl=>W9 hl
theorem keys_eq{A:List (List Int)}{C:Cub}(hC:Ris C)(hp:A.Perm (C.map (·.1)))(hs:A.Pairwise λa b=>Ze b a=false):A=C.map (·.1):=by
 have hn:A.Nodup:=hp.nodup_iff.2 (O8 hC)
 have hA:A.Pairwise λa b=>Ze a b=true:=by
  refine(List.pairwise_and_iff.2 ⟨hs,hn⟩).imp λ{a b} ⟨h1,h2⟩=>?_
  rcases Q7 a b with h|h|h
  ·exact h
  ·exact absurd h h2
  ·rw[h1]at h;cases h
 have e:=Yl2 (C:=A.map λa=>(a,Yl)) (D:=(C.map (·.1)).map λa=>(a,Yl)) (aq.2 hA) (aq.2 (Yg4 hC)) λk=>by
  rw[Ah,Ah]
  by_cases h:k∈A
  ·rw[if_pos h,if_pos (hp.mem_iff.1 h)]
  ·rw[if_neg h,if_neg (λh'=>h (hp.mem_iff.2 h'))]
 have e2:=congrArg (List.map (·.1)) e
 simpa[br,Function.comp_def]using e2
/-! ### a range -/
structure Yxo (K:TypeId) (kv:List Int->Value) (W:Nat) (C:Cub) (left:Lit->Bool) (acc:List (List Int)):Prop where
 nodup:acc.Nodup
 key:∀k∈acc,isKey W k
 mem:∀k kl,isKey W k->keyOf aa K (kv k)=some kl->(k∈acc↔(Za C k).isSome/\left kl=false)
def Yuj(K:TypeId)(kv:List Int->Value)(W:Nat)(w:World)(S:Nat->Prop)(b r:Nat)(C:Cub)(acc:List (List Int))(cnt:Nat):Prop:=
 ∃D F left,w.ranges aa K Et b r C.length D left cnt/\Se w K b C.length F/\(∀kl v,(∀zd,D.atKey kl zd=.held v)->F kl=some v)/\(∀k kl,isKey W k->keyOf aa K (kv k)=some kl->Ywp w S (Za C k) (F kl))∧
  (∀kl v,F kl=some v->∃k,isKey W k/\keyOf aa K (kv k)=some kl)/\Yxo K kv W C left acc
section
variable {w w' : World}{S S' : Nat->Prop}{K:TypeId}{kv:List Int->Value}{W b r cnt:Nat}{C:Cub}{acc:List (List Int)}
theorem Yuj.map(h:Yuj K kv W w S b r C acc cnt):Ywy K kv W w S b C:=by
 obtain⟨D,F,left,_,h2,_,h4,h5,_⟩:=h;exact⟨F,h2,h4,h5⟩
theorem Yuj.left(h:Yuj K kv W w S b r C acc cnt):w.rangeLeft b r=cnt:=by obtain⟨D,F,left,h1,_⟩:=h;exact h1.left_eq
end
section
variable (w:World) {S:Nat->Prop}{K:TypeId}{kv:List Int->Value}{W b r cnt:Nat}{C:Cub}{acc:List (List Int)}{ops:Array Oper}{rest:List Oper}{o:Oper}{a:Act}{Q:Exit->Act->World->Prop}
end
end
section
open Go.RowKit Go.Maps
theorem Ye6:Keyed aa 9:=string_keyed cn
theorem Yq0{a b:Txt}(h:Wa a=Wa b):a=b:=by
 simp only[Wa,Value.string.injEq,ByteArray.mk.injEq]at h;simpa using h
theorem Ya3{α β:Type}{f:α->β}(hf:∀a b,f a=f b->a=b){l:List α}:(l.map f).Nodup↔l.Nodup:=by
 unfold List.Nodup;rw[aq];constructor
 ·exact λh=>h.imp λhne e=>hne (by rw[e])
 ·exact λh=>h.imp λhne e=>hne (hf _ _ e)
theorem Yoa(w:World):(Instr.makeMap 277 none).run aa w=.ok (.map (some w.heap.size)) (w.alloc (.map #[] 0)):=run_makeMap _ w
theorem Yov{l:List Txt}(hk:k<l.length)(e:x=l.getD k []):(l.take k).map Wa++[Wa x]=(l.take (k+1)).map Wa:=by
 rw[ao hk,cz,e,ae,ag hk];rfl
theorem Yjo(h:Zx w w.heap.size A n c L)(hn:n<=1000)(hm:∀s∈L,s.length<=maxLen):
  Calls aa 155 #[.slice A n c] w λe w'=>e=.returned (.bool (decide (¬L.Nodup)))/\Below w.heap.size w w':=by
 have HL:=hid h.len
 have HM:=hid hm
 have hmk:=Yoa
 clear hm;go_enter Tryz.func155,Tryz.ntmps155;go_wp2_with fail
 have hK0:=P1.made w 9
 have hb0:=Yb w (.map #[] 0)
 clear hmk;generalize w.alloc (.map #[] 0)=w1 at hK0 hb0⊢;go_loopw [9] (λi wr=>∃k:Nat,k<=n/\i=.int .i64 k/\P1 wr 9 w.heap.size ((L.take k).map Wa)/\Below w.heap.size w wr) (λi _=>n-(intOf i).toNat)
 case atStart=>exact⟨0,an _,rfl,hK0,hb0⟩
 case round=>
  obtain⟨k,hk,rfl,hK,hB⟩:=hrel
  by_cases hlt:k<n
  ·obtain⟨b,o,x,rfl,hb,hc,ex⟩:=(h.below hB (bz _)).at_ hlt
   have i0:(0:Int)<=(k:Int):=by omega
   have i1:(k:Int)<(n:Int):=by omega
   have hx:(⟨x.toArray⟩:ByteArray).size<=maxLen:=by
    have h1:x∈L:=by rw[ex.out,ae,ag (by have:=HL.out;omega)];exact cw _
    have:=HM.out x h1
    show x.toArray.size<=maxLen
    simpa using this
   obtain⟨w2,hrun,hK2,hg2⟩:=hK.store Ye6 ax (WideMaps.keyOf_string_mk cn hx) (by rw[bg];exact Nat.le_trans (List.length_take_le k _) (by omega))
   have hK2:P1 w2 9 w.heap.size ((L.take k).map Wa++[Wa x]):=hK2
   rw[Yov (by have:=HL.out;omega) ex.out]at hK2
   have HK2:=hid hK2
   have HB2:=hid (hB.grown hg2 hB.size (λj hj=>by cases hj;exact bz _))
   clear hK hK2 hg2 hB hx;go_wp2_with fail;go_roundw
   case rel=>exact⟨k+1,by omega,by go_num,HK2.out,HB2.out⟩
   case measure=>simp[intOf];omega
  ·have e:L.take k=L:=av (by have:=HL.out;omega)
   rw[e]at hK;obtain⟨N,m,Dm,hown,hsz,hle,hnd⟩:=hK.count Ye6;rw[Ya3 λ_ _=>Yq0,bg,HL.out]at hnd
   rw[bg,HL.out]at hle;clear e hK
   by_cases hno:L.Nodup
   ·obtain rfl:m=n:=hnd.2 hno
    have H:Hid (decide (¬L.Nodup)=false):=hid (by simpa using hno)
    have hs:Hid (Maps.size Dm=m):=hid hsz
    clear hnd hno hsz;go_wp2_with (at_len;refine wpList_len_own _ rfl _ 277 rfl 9 278 ax (unitElem (H:=Unit)) w.heap.size N Dm rfl hown ?_;rw[hs.out]);go_ret;exact⟨Yd H.out.symm,hB⟩
   ·have hlt2:m<n:=by
     have:m≠n:=λe=>hno (hnd.1 e)
     omega
    have H:Hid (decide (¬L.Nodup)=true):=hid (by simpa using hno)
    have hs:Hid (Maps.size Dm=m):=hid hsz
    have hlt3:(m:Int)<(n:Int):=by omega
    clear hnd hno hsz;go_wp2_with (at_len;refine wpList_len_own _ rfl _ 277 rfl 9 278 ax (unitElem (H:=Unit)) w.heap.size N Dm rfl hown ?_;rw[hs.out]);go_ret;exact⟨Yd H.out.symm,hB⟩
end
section
open Go.Sort
theorem Yd4{a b c:List Int}(h1:Ze a b=false)(h2:Ze b c=false):Ze a c=false:=by
 rcases h:Ze a c with _|_
 ·rfl
 ·exfalso
  rcases Q7 a b with h3|h3|h3
  ·rw[h1]at h3;cases h3
  ·subst h3
   rw[h]at h2
   cases h2
  ·have h4:=Vb h3 h
   rw[h2]at h4
   cases h4
def lt3(x y:Int×Int×Int):Bool:=Ze (Nh x) (Nh y)
theorem Yxv:SWO lt3:=⟨λ_=>Vi _,λ_ _ _ h1 h2=>Vb h1 h2,λ_ _ _ h1 h2=>Yd4 h1 h2⟩
section
variable {α:Type} [Inhabited α] {lt:α->α->Bool}{d d' : Array α}
theorem Fo(h:PermIn 0 d.size d d'):d'.toList.Perm d.toList:=by
 obtain⟨h1,_,h3⟩:=h
 have e1:d.extract 0 d.size=d:=by simp
 have e2:d'.extract 0 d.size=d':=by rw[<-h1];simp
 rw[e1,e2]at h3;exact h3
theorem Ln(hs:d'.size=d.size)(h:SortedIn lt 0 d.size d'):d'.toList.Pairwise λa b=>lt b a=false:=by
 rw[List.pairwise_iff_getElem];intro i j hi hj hij
 have hi':i<d'.size:=by simpa using hi
 have hj':j<d'.size:=by simpa using hj
 have:=h i j (an _) hij (by omega)
 rw[getElem!_pos d' i hi',getElem!_pos d' j hj']at this;simpa using this
end
theorem Ymf{C:Cub}{A:List (List Int)}(hC:Ris C)(hW:∀e∈C,isKey W e.1)(h3:W<=3)(hp:A.Perm (C.map (·.1))){d d':Array (Int×Int×Int)}(hd:d.toList=A.map Sc)(h1:PermIn 0 d.size d d')(h2:SortedIn lt3 0 d.size d'):d'.toList=(C.map (·.1)).map Sc:=by
 have hA:∀k∈A,k.length=W:=λk hk=>by
  obtain⟨e,he,rfl⟩:=ay.1 (hp.mem_iff.1 hk);exact(hW e he).1
 have q1:=Fo h1
 rw[hd]at q1
 have q2:=Ln h1.1 h2
 have back:∀k∈A,(Nh (Sc k)).take W=k:=λk hk=>by
  have e:=hA k hk
  rw[<-e];exact G8 (by omega)
 have e1:(d'.toList.map λt=>(Nh t).take W).map Sc=d'.toList:=by
  rw[br]
  conv=>rhs;rw[<-dn d'.toList]
  apply ch;intro t ht;obtain⟨k,hk,rfl⟩:=ay.1 (q1.mem_iff.1 ht);simp[back k hk]
 have p1:(d'.toList.map λt=>(Nh t).take W).Perm A:=by
  have:=q1.map λt=>(Nh t).take W
  rw[br]at this
  have e2:A.map ((λt=>(Nh t).take W) ∘ Sc)=A:=by
   conv=>rhs;rw[<-dn A]
   exact ch λk hk=>back k hk
  rw[e2]at this;exact this
 have s1:(d'.toList.map λt=>(Nh t).take W).Pairwise λa b=>Ze b a=false:=by
  rw[aq];refine List.Pairwise.imp_of_mem (λ{a b} ha hb hl=>?_) q2
  obtain⟨k,hk,rfl⟩:=ay.1 (q1.mem_iff.1 ha);obtain⟨j,hj,rfl⟩:=ay.1 (q1.mem_iff.1 hb);rw[back k hk,back j hj]
  have e3:=Ynx (a:=j) (b:=k) ((hA j hj).trans (hA k hk).symm) (by rw[hA j hj];exact h3)
  rw[<-e3];exact hl
 rw[<-e1,keys_eq hC (p1.trans hp) s1]
end
end Go.Proofs.YtmepdkdeanbbaaaGreat
