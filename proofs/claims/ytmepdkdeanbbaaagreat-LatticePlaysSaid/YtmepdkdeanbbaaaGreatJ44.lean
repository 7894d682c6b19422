/- DictB, DictX, DictU, LatU, LatV, LatW, LatX, LatY, LatZ, LtD, LtT, LuD, LuK, LuU -/
import Derived.Test.YtmepdkdeanbbaaaGreatJ14
import Derived.Test.YtmepdkdeanbbaaaGreatJ31
import Derived.Test.YtmepdkdeanbbaaaGreatJ40
namespace Go.Proofs.YtmepdkdeanbbaaaGreat
set_option maxRecDepth 100000
set_option maxHeartbeats 8000000
open Go.RowKit
open List renaming getD_eq_getElem?_getD→aa,getElem?_eq_getElem→ae,getElem?_eq_some_iff→af,mem_map→ag,take_of_length_le→ai,getD_cons_succ→aj,getElem?_map→ak,mem_of_getElem?→an,length_cons→ao,length_take→aq,length_append→ar,mem_append→au,length_map→av,mem_cons→aw,append_assoc→ax,length→ay,take_add_one→az,map_map→bg,map_cons→bn,mem_of_mem_take→bo,mem_cons_of_mem→bp,getElem?_of_mem→br,mem_filter→bs,mem_singleton→bz,getElem?_take→ch,not_mem_nil→cn,append_eq_nil_iff→cw,map_append→da,take_append_drop→db,map_congr_left→dc,nodup_nil→dg,mem_range→dh,pairwise_iff_getElem→di,map_nil→dm,length_filter_le→dn,flatMap_append→dp,nodup_append→dt,getElem?_set→du,filter_congr→dw,mem_flatMap→dx,nil_append→dy,drop_left→dz,map_id→ee,range→ez
open Int renaming toNat_natCast→bj
open Nat renaming le_refl→cj,le_trans→cz,add_sub_cancel→dq,zero_le→ei
open Prod renaming ext→dd,fst→fb
open Option renaming map_some→df,map_eq_some_iff→dj
open Go.Lib (hid)
variable {i j m n:Nat}{L:Rws}{K:Zd}{N:List Nat}{G:List Fct}{e:Zd × PC}{Q:List Pth}{C:Cub}{k:List Int}{Qs Rs:List (List Pth)}{p q:Pth}{Cs:List Cub}{x:PC}{f:Fct}
section
def Off(gr base:Nat)(w w':World):Prop:=Chg (λk=>k=gr∨base<=k) w w'
section
variable {gr base:Nat}{w a b:World}
theorem Off.size(h:Off gr base w a):w.heap.size<=a.heap.size:=Chg.size h
end
end
theorem Ytn(h:q.length=j+1):q.getLastD []=q.getD j []:=by
 have:=Ya0 (q:=q) (k:=j) (by omega)
 rwa [ai (by omega)]at this
theorem Ys8(h:q.length=j+1):q.dropLast=q.take j:=by
 rw[List.dropLast_eq_take,h,dq]
theorem Yhj{w:World}{base r:Nat}{Lv:Value}(h:Rf w base r n Lv Q){A:Option Addr}{m c:Nat}{l:List UInt8}(hb:Xl w w.heap.size A m c l)(hm:m<=100000):
  Calls Tryz.prog 83 #[.pointer (some ⟨r,0,none⟩),.slice A m c] w λe w'=>∃v,e=.returned v/\Zc w' w.heap.size 5 v (l++U5 Q)/\Below w.heap.size w w':=by
 obtain⟨A2,cap,rfl,hT⟩:=h.row.form
 have hc1:=h.c1
 have hcap:=hT.cap
 have hQ:=h.good.size
 have hrl:=h.block.lt
 have hgood:=hid h.good
 have hz:=Tz (n:=(Q.length:Int)) (by omega) (by omega)
 have hten:=hid (U3 hz)
 have HL:=hid hb.len
 have K:Hid (∀y,Below w.heap.size w y->y.cell? ⟨r,1,none⟩=some (.slice A2 Q.length cap)/\Rf y base r n (.slice A2 Q.length cap) Q/\Yur y A2 Q.length cap Q):=hid λy hy=>⟨(hy.cell (p:=⟨r,1,none⟩) hrl).trans hc1,h.below hy,by
  obtain⟨A3,c3,e,h3⟩:=(h.below hy).row.form;injection e with e1 e2 e3
  subst e1 e3;exact h3⟩
 have hp:=Uf hb (Q.length:Int) (by omega) (by omega) (by omega)
 clear hz hT h;go_enter Tryz.func83,Tryz.ntmps83;go_wp2_with fail;refine hp.mono ?_;rintro e w1 ⟨v1,rfl,hO1,hB1⟩
 have HO1:=hid hO1
 clear hp hO1;go_wp2_with fail;go_loopw [5,6] (λv i wr=>∃k:Nat,k<=Q.length/\i=.int .i64 k/\Zc wr w.heap.size 5 v (l++enc (zig (Q.length:Int))++((Xa Q).take k).flatMap Vn)/\Below w.heap.size w wr/\Hid ((((Xa Q).take k).flatMap Vn).length<=32*k)) (λ_ i _=>Q.length-(intOf i).toNat)
 case atStart=>exact⟨0,ei _,rfl,by simpa using HO1.out,hB1,hid (by simp)⟩
 case round=>
  obtain⟨k,hk,rfl,hO,hB,hle⟩:=hrel;obtain⟨c1,hRf,hTs⟩:=K.out wr hB
  by_cases hlt:k<Q.length
  ·obtain⟨q,hq⟩: ∃q,Hid (Q[k]?=some q):=⟨_,hid (ae hlt)⟩
   obtain⟨b,o,A',n',c',rfl,hb1,hc0,hTq⟩:=hTs.has k q hq.out
   have hqm:=an hq.out
   obtain⟨j,rfl⟩: ∃j,n'=j+1:=⟨n'-1,by have:=(hgood.out.one q hqm).1;have:=hTq.len;omega⟩
   obtain⟨b2,o2,s,rfl,hb2,hcs,hs⟩:=hTq.at_ (k:=j) (by omega)
   obtain⟨a,ha⟩: ∃a,Hid (fnd Q (q.take j)=a):=⟨_,hid rfl⟩
   have hent:Hid ((Xa Q)[k]?=some (a,s)):=hid (by rw[Rj hq.out,Ys8 hTq.len,ha.out,Ytn hTq.len,hs.out])
   obtain⟨ha40,hs12⟩:=hgood.out.Ydt hent.out
   have hcapq:=hTq.cap
   have hf:=Qj hRf (hTq.Qt j (by omega)) ha
   have hft:=hid (Mb Vn hent.out)
   have hel:=hid (Be (e:=(a,s)) (by omega) hs12)
   have Hle2:Hid ((((Xa Q).take (k+1)).flatMap Vn).length<=32*(k+1)):=hid (by rw[hft.out,ar];have:=hle.out;have:=hel.out;omega)
   have Hll:Hid ((l++enc (zig (Q.length:Int))++((Xa Q).take k).flatMap Vn).length<=200000):=hid (by
    simp only[ar]
    have h1:=hle.out;have h2:=hten.out;have h3:=HL.out
    omega)
   obtain⟨A3,n3,c3,rfl,hv3,_⟩:=hO.Yr
   have hn3:n3<=200000:=by rw[<-hv3.len];exact Hll.out
   have hk0:(0:Int)<=(k:Int):=by omega
   have hk1:(k:Int)<(Q.length:Int):=by omega
   have hj5:j<=3:=by have h1:=(hgood.out.one q hqm).2;have h2:=hgood.out.lv.2;have:=hTq.len;omega
   have hj1:(j:Int)+1-1=(j:Int):=by omega
   have hj2:(0:Int)<=(j:Int):=by omega
   have hj3:(j:Int)<=(c':Int):=by omega
   have hj4:(j:Int)<(j:Int)+1:=by omega
   have HS:Hid (s.length<=12):=hid hs12
   have Hbs:=hB.size
   have hcs2:wr.cell? ⟨b2,o2+j,none⟩=some (.string ⟨s.toArray⟩):=hcs
   have hbl:Hid (b2<wr.heap.size):=hid hb2
   have Hv3:=hid hv3
   clear hqm hTs hTq hRf hcs hle hO hv3 hlt;go_wp2_with fail;refine hf.mono ?_;rintro e w2 ⟨rfl,jj,rfl⟩;go_wp2_with fail;refine(Uf (w:=wr.drewN jj) (Hv3.out.drewN jj) (a:Int) (by omega) (by omega) (by omega)).mono ?_
   rintro e w3 ⟨v4,rfl,hO4,hB4⟩
   have hB4':Below wr.heap.size wr w3:=(below_drewN (Below.refl _ wr) jj).trans hB4
   have hcs3:=(hB4'.cell (p:=⟨b2,o2+j,none⟩) hbl.out).trans hcs2
   have h10:=U3 (Tz (n:=(a:Int)) (by omega) (by omega))
   obtain⟨A4,n4,c4,rfl,hv4,_⟩:=hO4.Yr
   have hn4:n4+s.length+10<=1000000000:=by
    have h1:=hv4.len
    have h2:=Hll.out
    have h3:=HS.out
    rw[ar]at h1;omega
   have Hv4:=hid hv4
   have hbs3:=cz Hbs hB4'.size
   have hB5:=hB.trans (hB4'.mono Hbs)
   clear hO4 hB4 hv4 h10 hB;go_wp2_with fail;refine(Dk Hv4.out s hn4).mono ?_;rintro e w5 ⟨v6,rfl,hO6,hB6⟩
   have hF:=hid (show Zc w5 w.heap.size 5 v6 (l++enc (zig (Q.length:Int))++((Xa Q).take (k+1)).flatMap Vn)/\Below w.heap.size w w5 from⟨by
    rw[hft.out]
    have:=hO6.low hbs3
    simpa only[Vn,ax]using this,hB5.trans (hB6.mono hbs3)⟩)
   clear hO6 hB6 hB5;go_wp2_with fail;go_roundw
   case rel=>exact⟨k+1,by omega,by go_num,hF.out.1,hF.out.2,Hle2⟩
   case measure=>simp[intOf];omega
  ·have hke:Hid (((Xa Q).take k).flatMap Vn=(Xa Q).flatMap Vn):=hid (by rw[ai (by rw[Sd];omega)])
   go_wp2_with fail;go_ret;exact⟨_,rfl,by rw[hke.out,ax]at hO;exact hO,hB⟩
section
section
variable {n:Nat}{Q:List Pth}
theorem Good.up_(h:Good n Q){k:Nat}{q:Pth}(hq:Q[k]?=some q):fnd Q q.dropLast<=k/\pth (Q.take k) (fnd Q q.dropLast)=q.dropLast:=by
 rcases h.up k q hq with e|e
 ·rw[e,h.Oa]
  exact⟨ei _,rfl⟩
 ·have h1:fnd (Q.take k++Q.drop k) q.dropLast=fnd (Q.take k) q.dropLast:=Kx e
  rw[db]at h1;rw[h1];exact⟨cz Rk (List.length_take_le _ _),Qd e⟩
theorem Yq7(hg:Good n Q)(hw:Whole n Q){k:Nat}{q:Pth}(hq:Q[k]?=some q):Ypr n (Q.take k)=0∨Ypr n (Q.take k)=fnd Q q.dropLast:=by
 have hkl:=(af.1 hq).1
 have hlen:(Q.take k).length=k:=by simp;omega
 unfold Ypr
 split
 ·rename_i h1
  rcases k with _|j
  ·left;simp
  ·right
   rw[hlen]at h1⊢
   have h2:Q[j]?=some (pth (Q.take (j+1)) (j+1)):=by
    have:=Jn (Q:=Q.take (j+1)) (c:=j+1) (by omega) (by omega)
    rw[dq,ch,if_pos (by omega)]at this
    exact this
   obtain⟨q',h3,h4⟩:=hw j _ h2 h1;rw[hq]at h3;obtain rfl:=Option.some.inj h3;rw[h4,Mp hg.nodup h2]
 ·left;rfl
theorem Yqd{F R:List UInt8}{m:Nat}{hi:Int}(hm:(m:Int)<=hi)(hb:m<=1000):lk (F++(enc (zig (m:Int))++R)) F.length 0 0 hi=((m:Int),(enc (zig (m:Int))).length,0):=by
 have hd:(F++(enc (zig (m:Int))++R)).drop F.length=enc (zig (m:Int))++R:=dz
 obtain⟨g1,g2,g3⟩:=Ywf (n:=(m:Int)) (by omega) (by omega) R
 rw[Yv3 (by rw[hd];exact g3) (by rw[hd,g1];omega),hd,g1,g2]
theorem Yvb{F R:List UInt8}{s:Txt}(hs:s.length<=12):tx (F++(enc (zig (s.length:Int))++(s++R))) F.length 0 12=(s,F.length+(enc (zig (s.length:Int))).length+s.length,0):=by
 have h1:=Yqd (F:=F) (R:=s++R) (m:=s.length) (hi:=12) (by omega) (by omega)
 have hd:(F++(enc (zig (s.length:Int))++(s++R))).drop (F.length+(enc (zig (s.length:Int))).length)=s++R:=by
  rw[<-ax,<-ar,dz]
 rw[Yv6 h1 (by simp),hd,bj,List.take_left]
theorem Yv9(hg:Good n Q)(hw:Whole n Q)(F R:List UInt8):∀{k:Nat},k<=Q.length->rdN n (F++(U5 Q++R)) ([],F.length+(enc (zig (Q.length:Int))).length,0) k=(Q.take k,(F++(enc (zig (Q.length:Int))++((Xa Q).take k).flatMap Vn)).length,0):=by
 intro k
 induction k with
 |zero=>intro _;simp[rdN]
 |succ k ih=>
  intro hk;obtain⟨q,hq⟩: ∃q,Q[k]?=some q:=⟨_,ae (by omega)⟩
  have hqm:=an hq
  have hne:q≠[]:=λe=>by have:=(hg.one q hqm).1;rw[e]at this;simp at this
  have hent:=Rj hq
  obtain⟨hak,hpt⟩:=hg.up_ hq
  have hdue:=Yq7 hg hw hq
  obtain⟨ha40,hs12⟩:=hg.Ydt hent
  have hsl:=E7 hne
  have hnm:Z6 (q.getLastD []):=hg.nam q hqm _ (by
   have h1:q.getLastD []∈q.dropLast++[q.getLastD []]:=by simp
   rwa [hsl]at h1)
  generalize fnd Q q.dropLast=a at *;generalize q.getLastD []=s at *
  have hft:=Mb Vn hent
  have hsplit:F++(U5 Q++R)=F++(enc (zig (Q.length:Int))++((Xa Q).take k).flatMap Vn)++(enc (zig (a:Int))++(enc (zig (s.length:Int))++(s++(((Xa Q).drop (k+1)).flatMap Vn++R)))):=by
   have h1:(Xa Q).flatMap Vn=((Xa Q).take (k+1)).flatMap Vn++((Xa Q).drop (k+1)).flatMap Vn:=by
    rw[<-dp,db]
   unfold U5;rw[h1,hft];simp only[Vn,ax]
  have hlen:(Q.take k).length=k:=by simp;omega
  show rdS n (F++(U5 Q++R)) (rdN n (F++(U5 Q++R)) _ k)=_
  rw[ih (by omega)]
  have h1:lk (F++(U5 Q++R)) (F++(enc (zig (Q.length:Int))++((Xa Q).take k).flatMap Vn)).length 0 0 (Q.take k).length=((a:Int),(enc (zig (a:Int))).length,0):=by
   rw[hsplit];exact Yqd (by rw[hlen];omega) (by omega)
  have h2:tx (F++(U5 Q++R)) ((F++(enc (zig (Q.length:Int))++((Xa Q).take k).flatMap Vn)).length+(enc (zig (a:Int))).length) 0 12=(s,(F++(enc (zig (Q.length:Int))++((Xa Q).take k).flatMap Vn)).length+(enc (zig (a:Int))).length+(enc (zig (s.length:Int))).length+s.length,0):=by
   rw[hsplit,<-ar,<-ax _ (enc (zig (a:Int))) _];exact Yvb hs12
  have hmay:Yr8 n (Q.take k) a s:=by
   refine⟨hnm,?_,?_,hdue⟩
   ·rw[hpt,List.length_dropLast]
    have:=hg.one q hqm
    omega
   ·rw[hpt,hsl]
    intro hm;obtain⟨j,hj⟩:=br hm;rw[ch]at hj
    split at hj
    ·have e1:=Mp hg.nodup hj
     have e2:=Mp hg.nodup hq
     omega
    ·cases hj
  rw[Yvh h1 h2,if_pos hmay,hpt,hsl,az,hq,hft];refine dd rfl (dd ?_ rfl);simp only[Vn,ar];omega
theorem Yhi(hg:Good n Q):1<=(U5 Q).length/\(U5 Q).length<=2000:=by
 have h1:∀{k:Nat},k<=Q.length->(((Xa Q).take k).flatMap Vn).length<=32*k:=by
  intro k
  induction k with
  |zero=>intro _;simp
  |succ k ih=>
   intro hk;obtain⟨a,s,hent⟩: ∃a s,(Xa Q)[k]?=some (a,s):=⟨_,_,Rj (ae (show k<Q.length by omega))⟩
   obtain⟨ha40,hs12⟩:=hg.Ydt hent
   have h2:=ih (by omega)
   have h3:=Be (e:=(a,s)) (by omega) hs12
   rw[Mb Vn hent,ar];omega
 have h2:=h1 (cj Q.length)
 rw[ai (by rw[Sd];exact cj _)]at h2
 have h3:=hg.size
 have h4:=Yk9 (zig (Q.length:Int))
 have h5:=U3 (Tz (n:=(Q.length:Int)) (by omega) (by omega))
 unfold U5;rw[ar];omega
end
end
section
def Yd7(m:Nat)(Qs:List (List Pth))(B:Cub):List UInt8:=Qs.flatMap U5++Ylx m B
def Oi:List Nat->List (List Pth)->Prop
 |n::N,Q::Qs=>Whole n Q/\Oi N Qs
 |_,_=>True
theorem D5:∀{N:List Nat}{Qs:List (List Pth)}(P:List Pth),Xw N Qs->Oi N Qs->Oi N (Vi N Qs P)
 |_::_,_::_,_::P,⟨g,g'⟩,⟨h,h'⟩=>⟨Whole.add g h,D5 P g' h'⟩
 |[],[],_,_,h=>h
 |_::_,_::_,[],_,h=>h
 |[],_::_,_,h,_=>h.elim
 |_::_,[],_,h,_=>h.elim
def Pj:List Nat->List (List Pth)->List Int->Prop
 |n::N,Q::Qs,c::k=>(0<c/\c<=(Q.length:Int)/\(pth Q c.toNat).length=n)/\Pj N Qs k
 |[],[],[]=>True
 |_,_,_=>False
def Ywv(D:List Yk)(M:List Txt)(V:List (List Int))(Qs:List (List Pth))(B:Cub):Prop:=
 (∀e∈B,Pj (Yj D) Qs e.1)/\(∀v∈Yg D V,okF M.length (λe:List Int×PC=>Vo v (Z2 Qs e.1)) (λe=>e.2) B)/\Y4 (B.map λe=>e.2.1)<=1099511627776
theorem Hr:∀{D:List Yk}{Qs:List (List Pth)}{P:List Pth},Xw (Yj D) Qs->Xy Qs (Yn D) P->P.map ay=Yj D->(∀p∈P,p≠[])->Pj (Yj D) Qs (Xk Qs (Yn D) P)
 |[],[],[],_,_,_,_=>trivial
 |d::D,Q::Qs,p::P,⟨g,g'⟩,⟨h,h'⟩,hl,hn=>by
  simp only[Yj,bn,List.cons.injEq]at hl
  have hp:p.take ((d.2.length:Int)).toNat=p:=ai (by rw[bj,hl.1];exact cj _)
  refine⟨?_,Hr g' h' hl.2 λq hq=>hn q (bp _ hq)⟩
  have hm:p∈Q:=by
   have h1:p.take ((d.2.length:Int)).toNat=[]∨p.take ((d.2.length:Int)).toNat∈Q:=h
   rw[hp]at h1;exact h1.resolve_left (hn p (by simp))
  show 0<((fnd Q (p.take ((d.2.length:Int)).toNat):Nat):Int)/\_/\_
  rw[hp,bj,Qd hm]
  have h1:=Vf.2 hm
  have h2:=Rk (L:=Q) (x:=p)
  exact⟨by omega,by omega,hl.1⟩
 |[],[],_::_,_,h,_,_=>h.elim
 |[],_::_,_,h,_,_,_=>h.elim
 |_::_,[],_,h,_,_,_=>h.elim
 |_::_,_::_,[],_,h,_,_=>h.elim
theorem Ty:∀{D:List Yk}{P:List Pth},P.map ay=Yj D->Vo (Yn D) P=P
 |[],[],_=>rfl
 |d::D,p::P,h=>by
  simp only[Yj,bn,List.cons.injEq]at h
  have hp:p.take ((d.2.length:Int)).toNat=p:=ai (by rw[bj,h.1];exact cj _)
  show p.take ((d.2.length:Int)).toNat::Vo (Yn D) P=_
  rw[hp,Ty h.2]
 |[],_::_,h=>by simp[Yj]at h
 |_::_,[],h=>by simp[Yj]at h
theorem Yld{D:List Yk}{P:List Pth}(hD:∀d∈D,Zm d.2 3)(h:P.map ay=Yj D):∀p∈P,p≠[]:=by
 intro p hp e
 have h1:p.length∈P.map ay:=ag.2 ⟨p,hp,rfl⟩
 rw[h]at h1;obtain⟨d,hd,hl⟩:=ag.1 h1
 have h2:=(hD d hd).1
 rw[e]at hl;simp at hl;rw[hl]at h2;simp at h2
section
variable {D:List Yk}{M:List Txt}{V:List (List Int)}{E:List Hld}{Qs:List (List Pth)}{B:Cub}
theorem X4.base(h:X4 D M V E Qs){e:Hld}(he:e∈E):Z2 Qs (kC Qs (Yn D) e)=e.1:=by
 have h1:Z2 Qs (Xk Qs (Yn D) e.1)=Vo (Yn D) e.1:=Ov h.good.Pa (h.has _ (by simp[Yg]) e he)
 rw[Ty (h.lev e he)]at h1;exact h1
theorem X4.chk(h:X4 D M V E Qs)(hB:Wq M.length (kC Qs (Yn D)) Zj E B):Ywv D M V Qs B:=by
 refine⟨λe he=>?_,λv _ e he=>?_,?_⟩
 ·obtain⟨⟨f,hf,hk⟩,_⟩:=(hB.all e).1 he
  rw[<-hk];exact Hr h.good (h.has _ (by simp[Yg]) f hf) (h.lev f hf) (Yld h.may.1.1 (h.lev f hf))
 ·have hs:=Wq.sum (g:=λk=>Vo v (Z2 Qs k)) (k:=Vo v (Z2 Qs e.1)) h.cell hB ⟨e,he,rfl⟩
  obtain⟨⟨f,hf,hk⟩,_⟩:=(hB.all e).1 he
  have hc:Yf (λf=>Vo v (Z2 Qs (kC Qs (Yn D) f))) Zj E=Yf (kP v) Zj E:=by
   funext k
   unfold Yf
   congr 1
   refine dw λf hf=>?_
   show decide (Vo v (Z2 Qs (kC Qs (Yn D) f))=k)=decide (Vo v f.1=k)
   rw[h.base hf]
  show Zn (Yp _ (Yf (λe:List Int×PC=>Vo v (Z2 Qs e.1)) (λe=>e.2) B (Vo v (Z2 Qs e.1))))
  rw[hs,hc,<-hk,h.base hf];exact h.ok v (by assumption) f hf
 ·have hc:=h.cnt
  by_cases hn:B=[]
  ·subst hn
   decide
  ·obtain⟨e,he⟩:=List.exists_mem_of_ne_nil _ hn
   have hs:=Wq.sum (g:=λ_=>()) (k:=()) h.cell hB ⟨e,he,rfl⟩
   have h1:∀{α:Type}(c:α->PC) (κ:α->Unit) (L:List α),(Yp M.length (Yf κ c L ())).1=Y4 (L.map λa=>(c a).1):=λc κ L=>by
    have h2:(L.filter λf=>decide (κ f=()))=L:=List.filter_eq_self.2 λa _=>by simp
    unfold Yf;rw[h2];unfold Yp;rw[bg];rfl
   have h3:=congrArg fb hs
   rw[h1,h1]at h3;rw[h3];exact hc
end
end
section
def Yvm:Nat->List (List Int)
 |0=>[[]]
 |n+1=>(ez 40).flatMap λi=>(Yvm n).map λk=>((i+1:Nat):Int)::k
theorem Ysf:∀{N:List Nat}{Qs:List (List Pth)}{k:List Int},Xw N Qs->Pj N Qs k->k∈Yvm N.length
 |[],[],[],_,_=>by simp[Yvm]
 |n::N,Q::Qs,c::k,⟨g,g'⟩,⟨h,h'⟩=>by
  have hs:=g.size
  refine dx.2 ⟨c.toNat-1,dh.2 (by omega),ag.2 ⟨k,Ysf g' h',?_⟩⟩
  congr 1
  omega
 |[],[],_::_,_,h=>h.elim
 |[],_::_,_,h,_=>h.elim
 |_::_,[],_,h,_=>h.elim
 |_::_,_::_,[],_,h=>h.elim
theorem Cd:∀{N:List Nat}{Qs:List (List Pth)}{k:List Int},Xw N Qs->Pj N Qs k->isKey N.length k
 |[],[],[],_,_=>⟨rfl,λc h=>by simp at h⟩
 |n::N,Q::Qs,c::k,⟨g,g'⟩,⟨h,h'⟩=>by
  have hs:=g.size
  obtain⟨h1,h2⟩:=Cd g' h';refine⟨by simp[h1],λx hx=>?_⟩
  rcases aw.1 hx with rfl|hx
  ·omega
  ·exact h2 x hx
 |[],[],_::_,_,h=>h.elim
 |[],_::_,_,h,_=>h.elim
 |_::_,[],_,h,_=>h.elim
 |_::_,_::_,[],_,h=>h.elim
section
variable {D:List Yk}{M:List Txt}{V:List (List Int)}{E:List Hld}{Qs:List (List Pth)}{B:Cub}
theorem X4.Bo(h:X4 D M V E Qs)(hB:Wq M.length (kC Qs (Yn D)) Zj E B):Xv D.length M.length B:=by
 have hk:=(h.chk hB).1
 refine⟨hB.ris,λe he=>?_,λe he=>?_⟩
 ·have h1:=Cd h.good (hk e he)
  rwa [show(Yj D).length=D.length by simp[Yj]]at h1
 ·obtain⟨_,hv⟩:=(hB.all e).1 he
  obtain⟨⟨f,hf,e1⟩,_⟩:=(hB.all e).1 he
  have h1:=h.ok (Yn D) (by simp[Yg]) f hf
  have h2:Yf (kC Qs (Yn D)) Zj E (kC Qs (Yn D) f)=Yf (kP (Yn D)) Zj E (kP (Yn D) f):=by
   unfold Yf
   congr 1
   refine dw λg hg=>?_
   have h3:=Uz h.good.Pa (h.has (Yn D) (by simp[Yg])) g hg f hf
   exact decide_eq_decide.2 h3
  rw[hv,<-e1,h2]
  have hfull:∀x∈Yf (kP (Yn D)) Zj E (kP (Yn D) f),Full M.length x:=Uw h.cell _
  have hne:Yf (kP (Yn D)) Zj E (kP (Yn D) f)≠[]:=Wl.2 ⟨f,hf,rfl⟩
  have h4:=S7 hfull hne
  exact⟨h1,h4.1,h4.2.2.1⟩
end
end
section
theorem Ed{N:List Nat}: ∀{F:List Fct}{Qs:List (List Pth)},Xw N Qs->Oi N Qs->Oi N (Zi N Qs F).1
 |[],_,_,h=>h
 |f::F,Qs,g,h=>by
  rw[Zi]
  split
  ·exact h
  ·exact Ed (Md f.1 g) (D5 f.1 g h)
theorem Yfw{D:List Yk}{M:List Txt}{V:List (List Int)}(h:Wk D M V):∀n∈Yj D,1<=n/\n<=3:=λn hn=>by
 obtain⟨d,hd,rfl⟩:=ag.1 hn;exact⟨(h.1.1 d hd).1,(h.1.1 d hd).2.1⟩
section
variable {D:List Yk}{M:List Txt}{V:List (List Int)}{E:List Hld}{G:List Fct}{Qs:List (List Pth)}
theorem Ydl(hg:Xw (Yj D) Qs)(h:Oi (Yj D) Qs)(G:List Fct):Oi (Yj D) (Y8 D M V E Qs G).1.2:=by
 unfold Y8
 split
 ·exact h
 split
 ·exact h
 split
 ·exact h
 split
 ·exact h
 ·exact Ed hg h
theorem Bv:∀D:List Yk,Oi (Yj D) (D.map λ_=>[])
 |[]=>trivial
 |_::D=>⟨Yn5 _,Bv D⟩
end
end
section
/-! ### keys,place by place -/
theorem Qy:∀{Qs:List (List Pth)}{v:List Int}{P:List Pth},v.length=Qs.length->P.length=Qs.length->(Xk Qs v P).length=Qs.length
 |[],[],[],_,_=>rfl
 |Q::Qs,n::v,p::P,h,h'=>by
  simp only[Xk,ao]at h h'⊢;rw[Qy (by omega) (by omega)]
 |[],_::_,_,h,_=>by simp at h
 |[],[],_::_,_,h=>by simp at h
 |_::_,[],_,h,_=>by simp at h
 |_::_,_::_,[],_,h=>by simp at h
theorem Nh:∀{Qs:List (List Pth)}{v:List Int}{P:List Pth}{i:Nat},i<Qs.length->v.length=Qs.length->P.length=Qs.length->(Xk Qs v P).getD i 0=((fnd (Qs.getD i []) ((P.getD i []).take (v.getD i 0).toNat):Nat):Int)
 |Q::Qs,n::v,p::P,0,_,_,_=>rfl
 |Q::Qs,n::v,p::P,i+1,h,h1,h2=>by
  simp only[Xk,ao,aj]at h h1 h2⊢;exact Nh (by omega) (by omega) (by omega)
 |[],_,_,_,h,_,_=>by simp at h
 |_::_,[],_,_,_,h,_=>by simp at h
 |_::_,_::_,[],_,_,_,h=>by simp at h
theorem O2:∀{Qs:List (List Pth)}{k:List Int},k.length=Qs.length->(Z2 Qs k).length=Qs.length
 |[],[],_=>rfl
 |Q::Qs,c::k,h=>by
  simp only[Z2,ao]at h⊢;rw[O2 (by omega)]
 |[],_::_,h=>by simp at h
 |_::_,[],h=>by simp at h
theorem Ls:∀{Qs:List (List Pth)}{k:List Int}{i:Nat},i<Qs.length->k.length=Qs.length->(Z2 Qs k).getD i []=pth (Qs.getD i []) (k.getD i 0).toNat
 |Q::Qs,c::k,0,_,_=>rfl
 |Q::Qs,c::k,i+1,h,h'=>by
  simp only[Z2,ao,aj]at h h'⊢;exact Ls (by omega) (by omega)
 |[],_,_,h,_=>by simp at h
 |_::_,[],_,_,h=>by simp at h
theorem Xw.len:∀{N:List Nat}{Qs:List (List Pth)},Xw N Qs->Qs.length=N.length
 |[],[],_=>rfl
 |n::N,Q::Qs,h=>by simp[Xw.len h.2]
 |[],_::_,h=>h.elim
 |_::_,[],h=>h.elim
theorem Xw.get:∀{N:List Nat}{Qs:List (List Pth)}{i:Nat},Xw N Qs->i<N.length->Good (N.getD i 0) (Qs.getD i [])
 |n::N,Q::Qs,0,h,_=>h.1
 |n::N,Q::Qs,i+1,h,hi=>by
  simp only[ao,aj]at hi⊢;exact Xw.get h.2 (by omega)
 |[],_,_,_,hi=>by simp at hi
 |_::_,[],_,h,_=>h.elim
theorem Xw.of:∀{N:List Nat}{Qs:List (List Pth)},Qs.length=N.length->(∀i,i<N.length->Good (N.getD i 0) (Qs.getD i []))->Xw N Qs
 |[],[],_,_=>trivial
 |n::N,Q::Qs,hl,h=>⟨h 0 (by simp),Xw.of (by simpa using hl) λi hi=>by
  have:=h (i+1) (by simpa using hi)
  simpa only[aj]using this⟩
 |[],_::_,hl,_=>by simp at hl
 |_::_,[],hl,_=>by simp at hl
theorem M3:∀{N:List Nat}{Qs:List (List Pth)}{k:List Int},Pj N Qs k->Qs.length=N.length/\k.length=N.length
 |[],[],[],_=>⟨rfl,rfl⟩
 |n::N,Q::Qs,c::k,h=>by
  have:=M3 h.2
  simp[this.1,this.2]
 |[],_::_,_,h=>h.elim
 |[],[],_::_,h=>h.elim
 |_::_,[],_,h=>h.elim
 |_::_,_::_,[],h=>h.elim
theorem Ycn:∀{N:List Nat}{Qs:List (List Pth)}{k:List Int}{i:Nat},Pj N Qs k->i<N.length->0<k.getD i 0/\k.getD i 0<=((Qs.getD i []).length:Int)/\(pth (Qs.getD i []) (k.getD i 0).toNat).length=N.getD i 0
 |n::N,Q::Qs,c::k,0,h,_=>h.1
 |n::N,Q::Qs,c::k,i+1,h,hi=>by
  simp only[ao,aj]at hi⊢;exact Ycn h.2 (by omega)
 |[],_,_,_,_,hi=>by simp at hi
 |_::_,[],_,_,h,_=>h.elim
 |_::_,_::_,[],_,h,_=>h.elim
theorem Of.len:∀{N:List Nat}{v:List Int},Of N v->v.length=N.length
 |[],[],_=>rfl
 |n::N,x::v,h=>by simp[Of.len h.2.2]
 |[],_::_,h=>h.elim
 |_::_,[],h=>h.elim
theorem Of.get:∀{N:List Nat}{v:List Int}{i:Nat},Of N v->i<N.length->0<=v.getD i 0/\v.getD i 0<=((N.getD i 0:Nat):Int)
 |n::N,x::v,0,h,_=>⟨h.1,h.2.1⟩
 |n::N,x::v,i+1,h,hi=>by
  simp only[ao,aj]at hi⊢;exact Of.get h.2.2 (by omega)
 |[],_,_,_,hi=>by simp at hi
 |_::_,[],_,h,_=>h.elim
def upB(Qs:List (List Pth))(k v:List Int):List Int:=Xk Qs v (Z2 Qs k)
theorem Ytz{D:List Yk}{Qs:List (List Pth)}{v:List Int}{P:List Pth}(hg:Xw (Yj D) Qs)(hP:Xy Qs (Yn D) P)(hl:P.map ay=Yj D):upB Qs (Xk Qs (Yn D) P) v=Xk Qs v P:=by
 unfold upB;rw[Ov hg.Pa hP,Ty hl]
theorem Yt7{N:List Nat}{Qs:List (List Pth)}{k v:List Int}(hk:Pj N Qs k)(hv:Of N v):(upB Qs k v).length=N.length:=by
 have h1:=M3 hk
 have h2:=hv.len
 unfold upB;rw[Qy (by omega) (by rw[O2 (by omega)]),h1.1]
theorem Yub{N:List Nat}{Qs:List (List Pth)}{k v:List Int}(hk:Pj N Qs k)(hv:Of N v){i:Nat}(hi:i<N.length):(upB Qs k v).getD i 0=((fnd (Qs.getD i []) ((pth (Qs.getD i []) (k.getD i 0).toNat).take (v.getD i 0).toNat):Nat):Int):=by
 have h1:=M3 hk
 have h2:=hv.len
 unfold upB;rw[Nh (by omega) (by omega) (by rw[O2 (by omega)]),Ls (by omega) (by omega)]
/-! ### what comes under each key -/
section
variable {α K:Type} [DecidableEq K] {κ:α->K}{c:α->PC}{G:List α}
theorem Z8{i:Nat}{f:α}(h:G[i]?=some f):G.take (i+1)=G.take i++[f]:=by rw[az,h];rfl
theorem R5{i:Nat}{f:α}(h:G[i]?=some f)(k:K):Yf κ c (G.take (i+1)) k=if κ f=k then Yf κ c (G.take i) k++[c f]else Yf κ c (G.take i) k:=by
 rw[Z8 h,Tw];unfold Yf
 by_cases hk:κ f=k
 ·simp[hk]
 ·simp[hk]
def Ws(κ:α->K)(c:α->PC)(G:List α):List (K×List PC):=(Vx κ G []).map λk=>(k,Yf κ c G k)
theorem Ycl(κ:α->K)(c:α->PC)(G:List α):(Ws κ c G).map (·.1)=Vx κ G []:=by
 unfold Ws;rw[bg];exact ee _
theorem Yp9{i:Nat}{f:α}(h:G[i]?=some f){j:Nat}{M:List PC}(hj:(Ws κ c (G.take i))[j]?=some (κ f,M)):Ws κ c (G.take (i+1))=(Ws κ c (G.take i)).set j (κ f,M++[c f]):=by
 unfold Ws at hj⊢;rw[ak,dj]at hj;obtain⟨k,hk,e⟩:=hj;obtain⟨rfl,rfl⟩:=Prod.mk.inj e
 have hn:=Oh κ (G.take i) [] dg
 rw[Mg h,if_pos (an hk)];refine List.ext_getElem? λq=>?_
 rw[ak,du,av,ak]
 by_cases hq:j=q
 ·subst hq
  rw[if_pos rfl,if_pos (af.1 hk).1,hk];simp only[df,R5 h,if_pos]
 ·rw[if_neg hq]
  rcases hx:(Vx κ (G.take i) [])[q]? with _|x
  ·rfl
  ·have hne:¬κ f=x:=λe=>hq (Yaw hn hk (by rw[hx,e]))
   simp only[df,R5 h,if_neg hne]
theorem Yp1{i:Nat}{f:α}(h:G[i]?=some f)(hn:κ f∉Vx κ (G.take i) []):Ws κ c (G.take (i+1))=Ws κ c (G.take i)++[(κ f,[c f])]:=by
 unfold Ws;rw[Mg h,if_neg hn,da]
 have h0:Yf κ c (G.take i) (κ f)=[]:=by
  by_cases h':Yf κ c (G.take i) (κ f)=[]
  ·exact h'
  ·obtain⟨g,hg,e⟩:=Wl.1 h'
   exact absurd ((Sj κ _ [] _).2 (.inr ⟨g,hg,e⟩)) hn
 congr 1
 ·refine dc λx hx=>?_
  have hne:¬κ f=x:=λe=>hn (e▸hx)
  rw[R5 h,if_neg hne]
 ·simp only[bn,dm,R5 h,if_pos,h0,dy]
theorem U8{x:K×List PC}:x∈Ws κ c G↔(∃f∈G,κ f=x.1)/\x.2=Yf κ c G x.1:=by
 unfold Ws;rw[ag];constructor
 ·rintro⟨k,hk,rfl⟩
  rcases(Sj κ G [] k).1 hk with h|h
  ·simp at h
  ·exact⟨h,rfl⟩
 ·rintro⟨h,e⟩
  exact⟨x.1,(Sj κ G [] _).2 (.inr h),by rw[<-e]⟩
theorem Ct(κ:α->K)(c:α->PC)(G:List α):(Ws κ c G).length<=G.length:=by
 unfold Ws;rw[av];simpa using E9 κ G []
end
/-! ### what a cell is with the cells that Yvf -/
def Xf(C:Cub)(k:List Int)(M:List PC):PC×Int:=Um ((Za C k).toList++M)
abbrev Chn:=(Nat×List Int)×(List PC×PC)
def M7(v:Nat)(C:Cub)(L:List (List Int×List PC)):List Chn:=L.map λx=>((v,x.1),(x.2,(Xf C x.1 x.2).1))
def okV(C:Cub)(L:List (List Int×List PC)):Prop:=∀x∈L,(Xf C x.1 x.2).2=0
def E5(Cs:List Cub)(x:Chn):List Cub:=Cs.set x.1.1 (Wm (Cs.getD x.1.1 []) x.1.2 x.2.2)
def Vu(Cs:List Cub)(L:List Chn):List Cub:=L.foldl E5 Cs
theorem Yg7(Cs:List Cub)(x:Chn):(E5 Cs x).length=Cs.length:=by unfold E5;rw[List.length_set]
theorem Ybf(L:List Chn):∀Cs:List Cub,(Vu Cs L).length=Cs.length:=by
 induction L with
 |nil=>exact λ_=>rfl
 |cons x L ih=>exact λCs=>(ih (E5 Cs x)).trans (Yg7 Cs x)
theorem Yjn{L:List Chn}{x:Chn}(h:L[i]?=some x):Vu Cs (L.take (i+1))=E5 (Vu Cs (L.take i)) x:=by
 unfold Vu;rw[Z8 h,List.foldl_append];rfl
theorem Ybr{x:Chn}(hx:x.1.1<Cs.length)(v:Nat):(E5 Cs x).getD v []=if x.1.1=v then Wm (Cs.getD v []) x.1.2 x.2.2 else Cs.getD v []:=by
 unfold E5;rw[aa,du]
 by_cases h:x.1.1=v
 ·rw[if_pos h,if_pos h,if_pos (h▸hx),h];rfl
 ·rw[if_neg h,if_neg h,aa]
theorem J1{n:Nat}(Wh:Nat->List Int->PC)(v:Nat)(k:List Int):∀(L:List Chn) (Cs:List Cub),Cs.length=n->(∀x∈L,x.1.1<n/\x.2.2=Wh x.1.1 x.1.2)->Za ((Vu Cs L).getD v []) k=if ∃x∈L,x.1=(v,k)then some (Wh v k)else Za (Cs.getD v []) k
 |[],Cs,_,_=>by simp[Vu]
 |x::L,Cs,hn,hL=>by
  show Za ((Vu (E5 Cs x) L).getD v []) k=_
  rw[J1 Wh v k L (E5 Cs x) (by rw[Yg7,hn]) λy hy=>hL y (bp _ hy),Ybr (by rw[hn];exact(hL x (by simp)).1)]
  by_cases h:∃y∈L,y.1=(v,k)
  ·obtain⟨y,hy,e⟩:=h
   rw[if_pos ⟨y,hy,e⟩,if_pos ⟨y,bp _ hy,e⟩]
  ·rw[if_neg h]
   by_cases hx:x.1=(v,k)
   ·rw[if_pos (show x.1.1=v by rw[hx]),Uq,if_pos (show k=x.1.2 by rw[hx]),if_pos ⟨x,by simp,hx⟩,(hL x (by simp)).2,hx]
   ·have hn': ¬∃y∈x::L,y.1=(v,k):=by
     rintro⟨y,hy,e⟩
     rcases aw.1 hy with rfl|hy
     ·exact hx e
     ·exact h ⟨y,hy,e⟩
    rw[if_neg hn']
    by_cases h1:x.1.1=v
    ·rw[if_pos h1,Uq,if_neg λe=>hx (dd h1 e.symm)]
    ·rw[if_neg h1]
theorem Ybw:∀(L:List Chn) (Cs:List Cub),(∀v,Ris (Cs.getD v []))->∀v,Ris ((Vu Cs L).getD v [])
 |[],Cs,h,v=>h v
 |x::L,Cs,h,v=>Ybw L (E5 Cs x) (λq=>by
  by_cases hx:x.1.1<Cs.length
  ·rw[Ybr hx]
   split
   ·exact Db (h q) _ _
   ·exact h q
  ·have e:E5 Cs x=Cs:=List.set_eq_of_length_le (by omega)
   rw[e];exact h q) v
end
section
theorem Lw{Rs:List (List Pth)}{v:List Int}(G:List Fct)(k:List Int):Yf (kC Rs v) Zj (G.map Zy) k=Yf (kC Rs v) Zb G k:=by
 unfold Yf;rw[List.filter_map,bg];rfl
theorem Dr:∀{N:List Nat}{Qs:List (List Pth)}{v:List Int}{P:List Pth},Xw N Qs->Xy Qs v P->isKey N.length (Xk Qs v P)
 |[],[],[],[],_,_=>⟨rfl,λc h=>by simp[Xk]at h⟩
 |n::N,Q::Qs,x::v,p::P,hg,hp=>by
  obtain⟨h1,h2⟩:=Dr hg.2 hp.2;refine⟨by simp only[Xk,ao,h1],λc hc=>?_⟩
  simp only[Xk,aw]at hc
  rcases hc with rfl|hc
  ·have:=@Rk _ _ Q (p.take x.toNat)
   have:=hg.1.size
   omega
  ·exact h2 c hc
 |[],_::_,_,_,h,_=>h.elim
 |_::_,[],_,_,h,_=>h.elim
 |[],[],_::_,_,_,h=>h.elim
 |[],[],[],_::_,_,h=>h.elim
 |_::_,_::_,[],_,_,h=>h.elim
 |_::_,_::_,_::_,[],_,h=>h.elim
structure Wo (D:List Yk) (M:List Txt) (V:List (List Int)) (E:List Hld) (Qs:List (List Pth)) (Cs:List Cub):Prop where
 len:Cs.length=(Yg D V).length
 at_:∀i v,(Yg D V)[i]?=some v->Wq M.length (kC Qs v) Zj E (Cs.getD i [])
def Sh(Rs:List (List Pth))(Vs:List (List Int))(Cs:List Cub)(G:List Fct)(n:Nat):List Chn:=(ez n).flatMap λi=>M7 i (Cs.getD i []) (Ws (kC Rs (Vs.getD i [])) Zb G)
theorem Ymm(Rs:List (List Pth))(Vs:List (List Int))(Cs:List Cub)(G:List Fct):Sh Rs Vs Cs G 0=[]:=rfl
theorem Gw(Rs:List (List Pth))(Vs:List (List Int))(Cs:List Cub)(G:List Fct)(n:Nat):Sh Rs Vs Cs G (n+1)=Sh Rs Vs Cs G n++M7 n (Cs.getD n []) (Ws (kC Rs (Vs.getD n [])) Zb G):=by
 unfold Sh;rw[List.range_succ,dp];simp
theorem Qu{Rs:List (List Pth)}{Vs:List (List Int)}{Cs:List Cub}{G:List Fct}{n:Nat}{x:Chn}:x∈Sh Rs Vs Cs G n↔x.1.1<n/\(∃g∈G,kC Rs (Vs.getD x.1.1 []) g=x.1.2)/\x.2.1=Yf (kC Rs (Vs.getD x.1.1 [])) Zb G x.1.2/\x.2.2=(Xf (Cs.getD x.1.1 []) x.1.2 x.2.1).1:=by
 unfold Sh M7;rw[dx];constructor
 ·rintro⟨i,hi,hx⟩
  obtain⟨y,hy,rfl⟩:=ag.1 hx;obtain⟨h1,h2⟩:=U8.1 hy;exact⟨dh.1 hi,h1,h2,rfl⟩
 ·rintro⟨h1,h2,h3,h4⟩
  refine⟨x.1.1,dh.2 h1,ag.2 ⟨(x.1.2,x.2.1),U8.2 ⟨h2,h3⟩,?_⟩⟩;rw[<-h4]
theorem Yep(Rs:List (List Pth))(Vs:List (List Int))(Cs:List Cub)(G:List Fct):∀n,((Sh Rs Vs Cs G n).map (·.1)).Nodup
 |0=>dg
 |n+1=>by
  rw[Gw,da];refine dt.2 ⟨Yep Rs Vs Cs G n,?_,?_⟩
  ·have e:(M7 n (Cs.getD n []) (Ws (kC Rs (Vs.getD n [])) Zb G)).map (·.1)=(Vx (kC Rs (Vs.getD n [])) G []).map λk=>(n,k):=by
    rw[<-Ycl (kC Rs (Vs.getD n [])) Zb G];unfold M7;rw[bg,bg];rfl
   rw[e];exact List.Pairwise.map _ (λa b h e=>h (Prod.mk.inj e).2) (Oh _ G [] dg)
  ·intro a ha b hb e
   subst e;obtain⟨x,hx,rfl⟩:=ag.1 ha;obtain⟨y,hy,e⟩:=ag.1 hb
   have h1:=(Qu.1 hx).1
   unfold M7 at hy;obtain⟨z,_,rfl⟩:=ag.1 hy
   have:=congrArg fb e
   simp at this;omega
section
variable {D:List Yk}{M:List Txt}{V:List (List Int)}{E:List Hld}{Qs Rs:List (List Pth)}{Cs:List Cub}{G:List Fct}
theorem Wo.begin(D:List Yk)(M:List Txt)(V:List (List Int))(Qs:List (List Pth)):Wo D M V [] Qs ((Yg D V).map λ_=>[]):=
 ⟨by rw[av],λi v hi=>by
  rw[aa,ak,hi];exact⟨List.Pairwise.nil,λx=>by simp⟩⟩
theorem Wo.grown(h:Wo D M V E Qs Cs)(hL:X4 D M V E Qs)(hg:Vh Qs Rs)(h0:Pn Rs):Wo D M V E Rs Cs:=
 ⟨h.len,λi v hi=>(h.at_ i v hi).grown hg h0 (hL.has v (an hi))⟩
theorem Yt2{v:List Int}{C:Cub}(hE:∀e∈E,Yu M.length e.2)(hG:∀f∈G,Yu M.length (Zb f))(hg:Pn Rs)(hPE:∀e∈E,Xy Rs v e.1)(hPG:∀f∈G,Xy Rs v f.1)(hC:Wq M.length (kC Rs v) Zj E C)(hok:okF M.length (kP v) Zj E)(hcell:∀e∈C,Yu M.length e.2):
  okV C (Ws (kC Rs v) Zb G)↔okF M.length (kP v) Zj (E++G.map Zy):=by
 have hG': ∀f∈G.map Zy,Yu M.length (Zj f):=λf hf=>by
  obtain⟨g,hgm,rfl⟩:=ag.1 hf;exact hG g hgm
 have hP': ∀f∈E++G.map Zy,Xy Rs v f.1:=λf hf=>by
  rcases au.1 hf with hf|hf
  ·exact hPE f hf
  ·obtain⟨g,hgm,rfl⟩:=ag.1 hf
   exact hPG g hgm
 rw[<-Ybx (Uz (β:=PC) hg hP'),Yqo hE hG' hC ((Ybx (Uz (β:=PC) hg hPE)).2 hok)]
 have key:∀g∈G,((Xf C (kC Rs v g) (Yf (kC Rs v) Zb G (kC Rs v g))).2=0↔Zn (Yp M.length ((Za C (kC Rs v g)).toList++Yf (kC Rs v) Zb G (kC Rs v g)))):=λg hgm=>by
  unfold Xf;rw[Ou (m:=M.length)]
  ·split
   ·rename_i h;exact⟨λ_=>h,λ_=>rfl⟩
   ·rename_i h;exact⟨λh'=>by simp at h',λh'=>absurd h' h⟩
  ·intro c hc
   rcases au.1 hc with hc|hc
   ·rcases hq:Za C (kC Rs v g)with _|y
    ·rw[hq]at hc;simp at hc
    ·rw[hq]at hc
     simp at hc;subst hc;exact hcell _ (Xe hq)
   ·unfold Yf at hc
    obtain⟨f,hf,rfl⟩:=ag.1 hc;exact hG f (bs.1 hf).1
  ·intro e
   have:=(cw.1 e).2
   exact Wl.2 ⟨g,hgm,rfl⟩ this
 constructor
 ·intro h f hf
  obtain⟨g,hgm,rfl⟩:=ag.1 hf;rw[Lw];exact(key g hgm).1 (h (kC Rs v g,_) (U8.2 ⟨⟨g,hgm,rfl⟩,rfl⟩))
 ·intro h x hx
  obtain⟨⟨g,hgm,e⟩,e2⟩:=U8.1 hx
  have h1:=h (Zy g) (ag.2 ⟨g,hgm,rfl⟩)
  rw[Lw]at h1;rw[e2,<-e];exact(key g hgm).2 h1
theorem Wo.put(hE:∀e∈E,Yu M.length e.2)(hG:∀f∈G,Yu M.length (Zb f))(h:Wo D M V E Rs Cs)(hris:∀i,Ris (Cs.getD i []))(hcell:∀i,∀e∈Cs.getD i [],Yu M.length e.2)
  (hok:∀i v,(Yg D V)[i]?=some v->okV (Cs.getD i []) (Ws (kC Rs v) Zb G)):Wo D M V (E++G.map Zy) Rs (Vu Cs (Sh Rs (Yg D V) Cs G (Yg D V).length)):=by
 refine⟨by rw[Ybf];exact h.len,λi v hi=>?_⟩
 have hil:=(af.1 hi).1
 have hv:(Yg D V).getD i []=v:=by rw[aa,hi];rfl
 refine Wq.more (C:=Cs.getD i []) hE (λf hf=>?_) (h.at_ i v hi) (Ybw _ _ hris i) λk=>?_
 ·obtain⟨g,hgm,rfl⟩:=ag.1 hf
  exact hG g hgm
 ·rw[J1 (n:=(Yg D V).length) (λv k=>(Xf (Cs.getD v []) k (Yf (kC Rs ((Yg D V).getD v [])) Zb G k)).1) i k _ Cs h.len (λx hx=>by
   obtain⟨h1,_,h3,h4⟩:=Qu.1 hx;exact⟨h1,by rw[h4,h3]⟩)]
  rw[Lw]
  have hiff:(∃x∈Sh Rs (Yg D V) Cs G (Yg D V).length,x.1=(i,k))↔∃g∈G,kC Rs v g=k:=by
   constructor
   ·rintro⟨x,hx,e⟩
    obtain⟨_,h2,_⟩:=Qu.1 hx;rw[e,hv]at h2;exact h2
   ·rintro hg
    exact⟨((i,k),(Yf (kC Rs v) Zb G k,(Xf (Cs.getD i []) k (Yf (kC Rs v) Zb G k)).1)),Qu.2 ⟨hil,by rw[hv];exact hg,by rw[hv],rfl⟩,rfl⟩
  have hiff2:(∃g∈G.map Zy,kC Rs v g=k)↔∃g∈G,kC Rs v g=k:=by
   constructor
   ·rintro⟨f,hf,e⟩
    obtain⟨g,hgm,rfl⟩:=ag.1 hf;exact⟨g,hgm,e⟩
   ·rintro⟨g,hgm,e⟩
    exact⟨Zy g,ag.2 ⟨g,hgm,rfl⟩,e⟩
  by_cases hk:∃g∈G,kC Rs v g=k
  ·rw[if_pos (hiff.2 hk),if_pos (hiff2.2 hk),hv]
   have h2:=hok i v hi (k,Yf (kC Rs v) Zb G k) (U8.2 ⟨hk,rfl⟩)
   unfold Xf at h2⊢
   have hcs:∀c∈(Za (Cs.getD i []) k).toList++Yf (kC Rs v) Zb G k,Yu M.length c:=λc hc=>by
    rcases au.1 hc with hc|hc
    ·rcases hq:Za (Cs.getD i []) k with _|y
     ·rw[hq]at hc;simp at hc
     ·rw[hq]at hc
      simp at hc;subst hc;exact hcell i _ (Xe hq)
    ·unfold Yf at hc
     obtain⟨f,hf,rfl⟩:=ag.1 hc;exact hG f (bs.1 hf).1
   rw[(Ot hcs (λe=>Wl.2 hk (cw.1 e).2) h2).1]
  ·rw[if_neg λh'=>hk (hiff.1 h'),if_neg λh'=>hk (hiff2.1 h')]
end
/-! ### one change is put -/
theorem Yds{y:PC}{L:List PC}(hy:Yu m y)(hL:∀c∈L,Yu m c)(hn:L≠[]):Yp m [y,Yp m L]=Yp m (y::L):=by
 have hF:∀c∈L,Full m c:=Cn hL
 have hY:∀c∈[y],Full m c:=λc hc=>by rw[bz.1 hc];exact hy.full
 have hs:Full m (Yp m L):=S7 hF hn
 rw[show Yp m [y,Yp m L]=Yp m [Yp m L,y]from J3 (List.Perm.swap _ _ _) (λc hc=>by
  simp at hc
  rcases hc with rfl|rfl
  ·exact hy.full
  ·exact hs) (by simp),Gi hF hY hn]
 exact J3 List.perm_append_comm (λc hc=>by
  rcases au.1 hc with hc|hc
  ·exact hF c hc
  ·exact hY c hc) (by simp)
theorem Yox{W:Nat}{L:List PC}(hc:∀e∈C,Yu m e.2)(hk:isKey W k)(hL:∀c∈L,Yu m c)(hn:L≠[])(h0:(Um L).2=0)(hw:(Xf C k L).2=0):R4 W m C k (Um L).1=(Wm C k (Xf C k L).1,0):=by
 obtain⟨e1,i1⟩:=Ot hL hn h0;rw[e1];unfold Xf at hw⊢
 rcases hq:Za C k with _|y
 ·rw[Q3 ⟨hk,i1⟩ hq]
  show _=(Wm C k (Um ([]++L)).1,0)
  rw[dy,e1]
 ·rw[hq]at hw
  have hy:=hc _ (Xe hq)
  have hyL:∀c∈y::L,Yu m c:=λc h=>by
   rcases aw.1 h with rfl|h
   ·exact hy
   ·exact hL c h
  have hw':(Um (y::L)).2=0:=hw
  obtain⟨e2,i2⟩:=Ot hyL (by simp) hw'
  have hm:Zs y (Yp m L)=(Yp m (y::L),0):=by
   rw[Ea hy i1,Yds hy hL hn,if_pos i2.1]
  rw[Mu ⟨hk,i1⟩ hq (by rw[hm]),hm]
  show _=(Wm C k (Um (y::L)).1,0)
  rw[e2]
theorem Ybz:∀{C:Cub}{k:List Int}{x:PC},(∀e∈C,Ze e.1 k=true)->Wm C k x=C++[(k,x)]
 |[],_,_,_=>rfl
 |e::C,k,x,h=>by
  have h1:=h e (by simp)
  rw[Wm,if_neg (W6 h1),if_neg (by rw[Fe h1];simp),Ybz λy hy=>h y (bp _ hy)]
  rfl
def Tj(C:Cub)(k:List Int)(x:PC):Cub:=C.map λe=>if e.1=k then (k,x)else e
theorem Ycf:∀{C:Cub}{k:List Int}{x:PC},Ris C->(Za C k).isSome->Tj C k x=Wm C k x
 |[],_,_,_,h=>by simp[Za]at h
 |e::C,k,x,hr,h=>by
  obtain⟨r1,r2⟩:=List.pairwise_cons.1 hr;unfold Tj;rw[bn,Wm]
  by_cases he:e.1=k
  ·rw[if_pos he,if_pos he]
   congr 1
   conv=>rhs;rw[<-ee C]
   refine dc λy hy=>?_
   rw[if_neg λey=>W6 (r1 y hy) (he.trans ey.symm)]
   rfl
  ·rw[Za,if_neg he]at h
   obtain⟨y,hy⟩:=Option.isSome_iff_exists.1 h
   have hl:Ze e.1 k=true:=r1 _ (Xe hy)
   rw[if_neg he,if_neg he,if_neg (by rw[Fe hl];simp)]
   congr 1
   exact Ycf r2 h
theorem Yqi{e:List Int×PC}(h:C[i]?=some e):(Tj C k x).take (i+1)=(Tj C k x).take i++[(e.1,if e.1=k then x else e.2)]:=by
 have h1:(Tj C k x)[i]?=some (e.1,if e.1=k then x else e.2):=by
  unfold Tj;rw[ak,h]
  show some _=some _
  by_cases he:e.1=k
  ·show some (if e.1=k then (k,x)else e)=_
   rw[if_pos he,if_pos he,he]
  ·show some (if e.1=k then (k,x)else e)=_
   rw[if_neg he,if_neg he]
 exact Z8 h1
theorem Yfa(hr:Ris C){i:Nat}{e:List Int×PC}(h:C[i]?=some e):∀y∈(Tj C k x).take i,Ze y.1 e.1=true:=by
 intro y hy;obtain⟨j,hj⟩:=br hy
 have hji:j<i:=by
  have:=(af.1 hj).1
  rw[aq]at this;omega
 rw[ch,if_pos hji]at hj;unfold Tj at hj;rw[ak,dj]at hj;obtain⟨z,hz,rfl⟩:=hj
 have hl:Ze z.1 e.1=true:=by
  have:=di.1 hr j i (af.1 hz).1 (af.1 h).1 hji
  rwa [(af.1 hz).2,(af.1 h).2]at this
 by_cases hk:z.1=k
 ·rw[if_pos hk,<-hk];exact hl
 ·rw[if_neg hk];exact hl
end
section
def Rr(N:List Nat):List Int:=N.map fun(n:Nat)=>(n:Int)
theorem Ykn(D:List Yk):Yn D=Rr (Yj D):=by
 unfold Yn Rr Yj;rw[bg];rfl
theorem B6:∀N:List Nat,Of N (Rr N)
 |[]=>trivial
 |n::N=>⟨Int.natCast_nonneg n,Int.le_refl _,B6 N⟩
theorem Cq(N:List Nat):(Rr N).length=N.length:=by unfold Rr;rw[av]
theorem Ypd(N:List Nat){j:Nat}(hj:j<N.length):(Rr N).getD j 0=((N.getD j 0:Nat):Int):=by
 unfold Rr;rw[aa,ak,ae hj,aa,ae hj];rfl
theorem Pv{α:Type}{L:List α}{k:Nat}(x:α)(h:k<L.length):L.take (k+1)=L.take k++[L.getD k x]:=by
 rw[az,ae h,aa,ae h];rfl
theorem Sf:∀{N:List Nat}{Qs:List (List Pth)}{P:List Pth},Qs.length=N.length->P.length=N.length->(Vi N Qs P).length=N.length
 |[],[],[],_,_=>rfl
 |n::N,Q::Qs,p::P,h,h'=>by
  simp only[Vi,ao]at h h'⊢;rw[Sf (by omega) (by omega)]
 |[],_::_,_,h,_=>by simp at h
 |[],[],_::_,_,h=>by simp at h
 |_::_,[],_,h,_=>by simp at h
 |_::_,_::_,[],_,h=>by simp at h
abbrev Ru(N:List Nat)(Qs:List (List Pth))(P:List Pth)(j:Nat):Nat:=Qm (N.getD j 0) (Qs.getD j []) (P.getD j [])
abbrev C5(N:List Nat)(Qs:List (List Pth))(P:List Pth)(j:Nat):List Pth:=Vt (N.getD j 0) (Qs.getD j []) (P.getD j [])
theorem Df:∀{N:List Nat}{Qs:List (List Pth)}{P:List Pth}{j:Nat},j<N.length->Qs.length=N.length->P.length=N.length->(Vi N Qs P).getD j []=C5 N Qs P j
 |n::N,Q::Qs,p::P,0,_,_,_=>rfl
 |n::N,Q::Qs,p::P,j+1,hj,h,h'=>by
  simp only[Vi,ao,aj]at hj h h'⊢;rw[Df (by omega) (by omega) (by omega)]
  simp only[C5,aj]
 |[],_,_,_,hj,_,_=>by simp at hj
 |_::_,[],_,_,_,h,_=>by simp at h
 |_::_,_::_,[],_,_,_,h=>by simp at h
theorem Gh:∀{N:List Nat}{Qs:List (List Pth)}{P:List Pth},Qs.length=N.length->P.length=N.length->(∀i,i<N.length->Ru N Qs P i=0)->Nx N Qs P=0
 |[],[],[],_,_,_=>rfl
 |n::N,Q::Qs,p::P,h,h',ha=>by
  rw[Nx,if_neg (λh0=>h0 (ha 0 (by simp)))]
  exact Gh (by simpa using h) (by simpa using h') λi hi=>by
   have:=ha (i+1) (by simpa using hi)
   simpa only[Ru,aj]using this
 |[],_::_,_,h,_,_=>by simp at h
 |[],[],_::_,_,h,_=>by simp at h
 |_::_,[],_,h,_,_=>by simp at h
 |_::_,_::_,[],_,h,_=>by simp at h
theorem Ydx:∀{N:List Nat}{Qs:List (List Pth)}{P:List Pth}{j:Nat},j<N.length->Qs.length=N.length->P.length=N.length->(∀i,i<j->Ru N Qs P i=0)->Ru N Qs P j≠0->Nx N Qs P=Ru N Qs P j
 |n::N,Q::Qs,p::P,0,_,_,_,_,he=>by
  have he':Qm n Q p≠0:=he
  rw[Nx,if_pos he'];rfl
 |n::N,Q::Qs,p::P,j+1,hj,h,h',ha,he=>by
  rw[Nx,if_neg (λh0=>h0 (ha 0 (by simp)))]
  have e:Ru (n::N) (Q::Qs) (p::P) (j+1)=Ru N Qs P j:=by simp only[Ru,aj]
  rw[e]at he⊢;exact Ydx (by simpa using hj) (by simpa using h) (by simpa using h') (λi hi=>by
   have:=ha (i+1) (by omega)
   simpa only[Ru,aj]using this) he
 |[],_,_,_,hj,_,_,_,_=>by simp at hj
 |_::_,[],_,_,_,h,_,_,_=>by simp at h
 |_::_,_::_,[],_,_,_,h,_,_=>by simp at h
def Qh(N:List Nat)(Qs:List (List Pth))(P:List Pth)(j:Nat):List (List Pth):=(Vi N Qs P).take j++Qs.drop j
section
variable {N:List Nat}{Qs:List (List Pth)}{P:List Pth}
theorem Cv:Qh N Qs P 0=Qs:=by simp[Qh]
theorem Ybu(h:Qs.length=N.length)(h':P.length=N.length):Qh N Qs P N.length=Vi N Qs P:=by
 unfold Qh;rw[ai (by rw[Sf h h'];exact cj _),List.drop_of_length_le (by omega),List.append_nil]
theorem Yb1(h:Qs.length=N.length)(h':P.length=N.length){j:Nat}(hj:j<N.length):(Qh N Qs P j).getD j []=Qs.getD j []:=by
 unfold Qh;rw[aa,List.getElem?_append_right (by rw[aq,Sf h h'];omega),aq,Sf h h',List.getElem?_drop,aa]
 congr 2
 omega
theorem Cf(h:Qs.length=N.length)(h':P.length=N.length){j:Nat}(hj:j<N.length):(Qh N Qs P j).set j (C5 N Qs P j)=Qh N Qs P (j+1):=by
 unfold Qh
 have hl:((Vi N Qs P).take j).length=j:=by rw[aq,Sf h h'];omega
 rw[List.set_append_right _ _ (by omega),hl,Nat.sub_self,List.drop_eq_getElem_cons (by omega),List.set_cons_zero,Pv [] (by rw[Sf h h'];exact hj),Df hj h h',ax]
 rfl
end
theorem Ylf(h:Qm n Q p=0):Pc n Q p:=Classical.byContradiction λh'=>by
 unfold Qm at h;rw[if_neg h']at h
 split at h <;> cases h
theorem Ynd(h:Qm n Q p=0)(hn:1<=n):(Kv n Q p).length=n/\(Kv n Q p).getD (n-1) 0=((fnd (Vt n Q p) p:Nat):Int):=by
 have ho:=Ylf h
 have hl:=ho.1.1
 obtain⟨e1,e2,_⟩:=Hc ho.1 ho.2;rw[e1,e2];refine⟨by rw[av,Vj,hl],?_⟩
 rw[aa,ak,Ug (by omega),show n-1+1=n by omega,ai (by omega)]
 rfl
theorem Yuy{P:List Pth}(h:Qs.length=N.length)(h':P.length=N.length){j:Nat}(hj:j<N.length)(hl:(P.getD j []).length=N.getD j 0):(Xk (Vi N Qs P) (Rr N) P).take j++[((fnd (C5 N Qs P j) (P.getD j []):Nat):Int)]=(Xk (Vi N Qs P) (Rr N) P).take (j+1):=by
 have hal:=Sf h h'
 have hkl:(Xk (Vi N Qs P) (Rr N) P).length=N.length:=by rw[Qy (by rw[Cq];omega) (by omega),hal]
 have hg:=Nh (Qs:=Vi N Qs P) (v:=Rr N) (P:=P) (i:=j) (by omega) (by rw[Cq];omega) (by omega)
 rw[Df hj h h',Ypd N hj,bj,ai (by omega)]at hg
 rw[az,ae (by omega)]
 rw[aa,ae (by omega)]at hg
 rw[<-hg];rfl
theorem J7(N:List Nat):∀(F F':List Fct) (Qs:List (List Pth)),Zi N Qs (F++F')=if (Zi N Qs F).2≠0 then Zi N Qs F else Zi N (Zi N Qs F).1 F'
 |[],F',Qs=>by simp[Zi]
 |f::F,F',Qs=>by
  rw[List.cons_append,Zi,Zi]
  by_cases h:Nx N Qs f.1≠0
  ·rw[if_pos h,if_pos h,if_pos h]
  ·rw[if_neg h,if_neg h,J7 N F F']
theorem Pq(h:G[i]?=some f)(h0:Zi N Qs (G.take i)=(Rs,0)):Zi N Qs (G.take (i+1))=if Nx N Rs f.1≠0 then (Rs,Nx N Rs f.1)else (Vi N Rs f.1,0):=by
 rw[Z8 h,J7,h0,if_neg (by simp),Zi,Zi]
theorem Du(h:(Zi N Qs (G.take i)).2≠0):Zi N Qs G=Zi N Qs (G.take i):=by
 conv=>lhs;rw[<-db i G]
 rw[J7,if_pos h]
def V1(N:List Nat)(Rs:List (List Pth))(G:List Fct):List (List Int):=G.map λf=>Xk Rs (Rr N) f.1
theorem Yfk{Ts:List (List Pth)}(hg:Vh Rs Ts)(h0:Pn Ts)(h:∀f∈G,Xy Rs (Rr N) f.1):V1 N Ts G=V1 N Rs G:=by
 unfold V1;exact dc λf hf=>Ln hg h0 (h f hf)
theorem Yir(h:G[i]?=some f):V1 N Rs (G.take i)++[Xk Rs (Rr N) f.1]=V1 N Rs (G.take (i+1)):=by
 unfold V1;rw[Z8 h,da];rfl
end
section
theorem Yjl{α:Type}{L:List α}(h:L.Nodup){i:Nat}{a:α}(hi:L[i]?=some a):a∉L.take i:=by
 have h1:(L.take (i+1)).Nodup:=h.sublist (List.take_sublist _ _)
 rw[Z8 hi,dt]at h1;intro hm;exact h1.2.2 a hm a (bz.2 rfl) rfl
section
variable {Rs:List (List Pth)}{Vs:List (List Int)}{Cs:List Cub}{G:List Fct}{n W m i:Nat}{x:Chn}
structure Fits (W m n:Nat) (Cs:List Cub) (G:List Fct) (x:Chn):Prop where
 view:x.1.1<n
 key:isKey W x.1.2
 more:∀c∈x.2.1,Yu m c
 some_:x.2.1≠[]
 few:x.2.1.length<=G.length
 whole:Yu m x.2.2
 sum:Xf (Cs.getD x.1.1 []) x.1.2 x.2.1=(x.2.2,0)
theorem Yp4(hl:Cs.length=n)(hC:∀v,v<n->Xv W m (Cs.getD v []))(hok:∀v,v<n->okV (Cs.getD v []) (Ws (kC Rs (Vs.getD v [])) Zb G))(hG:∀f∈G,Yu m (Zb f))(hkey:∀v,v<n->∀f∈G,isKey W (kC Rs (Vs.getD v []) f))(hx:(Sh Rs Vs Cs G n)[i]?=some x):
  Fits W m n (Vu Cs ((Sh Rs Vs Cs G n).take i)) G x:=by
 have hm:=an hx
 obtain⟨h1,⟨f,hf,hfk⟩,h3,h4⟩:=Qu.1 hm
 have hM:∀c∈x.2.1,Yu m c:=λc hc=>by
  rw[h3]at hc;unfold Yf at hc;obtain⟨f',hf',rfl⟩:=ag.1 hc;exact hG f' (bs.1 hf').1
 have hne:x.2.1≠[]:=λh0=>by
  have h5:Zb f∈Yf (kC Rs (Vs.getD x.1.1 [])) Zb G x.1.2:=by unfold Yf;exact ag.2 ⟨f,bs.2 ⟨hf,decide_eq_true hfk⟩,rfl⟩
  rw[<-h3,h0]at h5
  cases h5
 have h5:(Xf (Cs.getD x.1.1 []) x.1.2 x.2.1).2=0:=hok x.1.1 h1 (x.1.2,x.2.1) (U8.2 ⟨⟨f,hf,hfk⟩,h3⟩)
 have hall:∀c∈(Za (Cs.getD x.1.1 []) x.1.2).toList++x.2.1,Yu m c:=λc hc=>by
  rcases au.1 hc with hc|hc
  ·rcases hq:Za (Cs.getD x.1.1 []) x.1.2 with _|y
   ·rw[hq]at hc;simp at hc
   ·rw[hq]at hc
    simp at hc;subst hc;exact(hC x.1.1 h1).cell _ (Xe hq)
  ·exact hM c hc
 obtain⟨e1,i1⟩:=Ot hall (λh0=>hne (cw.1 h0).2) h5
 have hg:=J1 (n:=n) (λv k=>(Xf (Cs.getD v []) k (Yf (kC Rs (Vs.getD v [])) Zb G k)).1) x.1.1 x.1.2 ((Sh Rs Vs Cs G n).take i) Cs hl (λy hy=>by
  obtain⟨a1,_,a3,a4⟩:=Qu.1 (bo hy);exact⟨a1,by rw[a4,a3]⟩)
 have hno:¬∃y∈(Sh Rs Vs Cs G n).take i,y.1=(x.1.1,x.1.2):=by
  rintro⟨y,hy,e⟩
  have h6:=Yjl (Yep Rs Vs Cs G n) (i:=i) (a:=x.1) (by rw[ak,hx];rfl)
  refine h6 ?_;rw[<-List.map_take];exact ag.2 ⟨y,hy,e⟩
 rw[if_neg hno]at hg;refine⟨h1,by rw[<-hfk];exact hkey x.1.1 h1 f hf,hM,hne,?_,?_,?_⟩
 ·rw[h3];unfold Yf;rw[av];exact dn _ _
 ·rw[h4]
  show Yu m (Um _).1
  rw[e1];exact i1
 ·have e2:Xf ((Vu Cs ((Sh Rs Vs Cs G n).take i)).getD x.1.1 []) x.1.2 x.2.1=Xf (Cs.getD x.1.1 []) x.1.2 x.2.1:=by unfold Xf;rw[hg]
  rw[e2,h4];exact dd rfl h5
end
end
def LxD:List Yk:=[([100],[[108],[109]])]
def LxM:List Txt:=[[118]]
def LxV:List (List Int):=[[1]]
def LxF:List Fct:=[([[[97],[120]]],[5]),([[[97],[121]]],[7]),([[[98],[120]]],[1])]
def LxR:Rws:=[([[[97]]],(2,[12],[5],[7])),([[[98]]],(1,[1],[1],[1]))]
theorem Yih:Wk LxD LxM LxV:=by decide +kernel
theorem K7:Yg LxD LxV=[[2],[1]]:=by decide +kernel
theorem Yfx:(Y8 LxD LxM LxV [] (LxD.map λ_=>[]) LxF).2=0/\(Y8 LxD LxM LxV [] (LxD.map λ_=>[]) LxF).1.1=LxF.map Zy:=by decide +kernel
theorem Yvg:Qx (LxF.map Zy)=3:=by decide +kernel
theorem Ytk(h:Xr 1 (kP [1]) Zj (LxF.map Zy) L):L=LxR:=by
 refine h.one ⟨by unfold Cj Xb;decide +kernel,λx=>⟨λhx=>?_,?_⟩⟩
 ·simp only[LxR,aw,cn,or_false]at hx
  rcases hx with rfl|rfl <;> decide +kernel
 ·rintro⟨⟨f,hf,hk⟩,hc⟩
  obtain⟨k,c⟩:=x;simp only at hk hc;subst hk;subst hc;simp only[LxF,bn,dm,aw,cn,or_false]at hf
  rcases hf with rfl|rfl|rfl <;> decide +kernel
def LxB:Rws:=[([[[97],[120]]],(1,[5],[5],[5])),([[[97],[121]]],(1,[7],[7],[7])),([[[98],[120]]],(1,[1],[1],[1]))]
theorem Ytb:Xr 1 (kP [2]) Zj (LxF.map Zy) LxB:=by
 refine⟨by unfold Cj Xb;decide +kernel,λx=>⟨λhx=>?_,?_⟩⟩
 ·simp only[LxB,aw,cn,or_false]at hx
  rcases hx with rfl|rfl|rfl <;> decide +kernel
 ·rintro⟨⟨f,hf,hk⟩,hc⟩
  obtain⟨k,c⟩:=x;simp only at hk hc;subst hk;subst hc;simp only[LxF,bn,dm,aw,cn,or_false]at hf
  rcases hf with rfl|rfl|rfl <;> decide +kernel
section
def V8(κ:Fct->Zd)(G:List Fct)(K:Zd)(i t:Nat):List (List Int):=(((G.take t).drop i).filter λf=>decide (κ f=K)).map (·.2)
section
variable {κ:Fct->Zd}{G:List Fct}{K:Zd}{i t m:Nat}
theorem Yib:V8 κ G K i i=[]:=by
 unfold V8;rw[List.drop_eq_nil_of_le (by rw[aq];omega)]
 rfl
theorem Yh9{g:Fct}(h:G[t]?=some g)(hi:i<=t):V8 κ G K i (t+1)=if κ g=K then V8 κ G K i t++[g.2]else V8 κ G K i t:=by
 have hl:=(af.1 h).1
 unfold V8;rw[Z8 h,List.drop_append_of_le_length (by rw[aq];omega),List.filter_append,da]
 by_cases hk:κ g=K
 ·rw[if_pos hk,List.filter_cons_of_pos (by simpa using hk)]
  rfl
 ·rw[if_neg hk,List.filter_cons_of_neg (by simpa using hk)]
  simp
theorem Gp:(V8 κ G K i t).length<=G.length:=by
 unfold V8;rw[av];refine cz (dn _ _) ?_;rw[List.length_drop,aq];omega
theorem Ynp(ht:G.length<=t):(V8 κ G K i t).map W5=Yf κ Zb (G.drop i) K:=by
 unfold V8 Yf;rw[ai ht,bg];rfl
def okT(m:Nat)(κ:Fct->Zd)(G:List Fct)(i:Nat):Prop:=∀f∈G.take i,Zn (Yp m (Yf κ Zb G (κ f)))
theorem Ypm:okT m κ G 0:=λf hf=>by simp at hf
theorem Yuc{f:Fct}(h:okT m κ G i)(hf:G[i]?=some f)(hh:κ f∈Vx κ (G.take i) []):okT m κ G (i+1):=λg hg=>by
 rw[Z8 hf]at hg
 rcases au.1 hg with hg|hg
 ·exact h g hg
 ·rw[bz.1 hg]
  rcases(Sj κ _ [] _).1 hh with h1|⟨g',hg',e⟩
  ·simp at h1
  ·rw[<-e]
   exact h g' hg'
theorem Ytl{f:Fct}(h:okT m κ G i)(hf:G[i]?=some f)(hh:Zn (Yp m (Yf κ Zb G (κ f)))):okT m κ G (i+1):=λg hg=>by
 rw[Z8 hf]at hg
 rcases au.1 hg with hg|hg
 ·exact h g hg
 ·rw[bz.1 hg]
  exact hh
theorem Ysp(h:okT m κ G i)(hi:G.length<=i):okF m κ Zb G:=λf hf=>h f (by rw[ai hi];exact hf)
theorem Yq8(hm:m<=2)(hG:∀f∈G,isVal m f.2)(hn:G.length<=1000)(ht:G.length<=t){f:Fct}(hf:G[i]?=some f)(hk:κ f=K)(hnew:K∉Vx κ (G.take i) []):Vb m (V8 κ G K i t)=if Zn (Yp m (Yf κ Zb G K))then (Yp m (Yf κ Zb G K),0)else (Yl,14):=by
 have h1:(V8 κ G K i t).map W5=Yf κ Zb G K:=(Ynp ht).trans (Yer hnew)
 rw[Yet hm (cz Gp hn) ?_ ?_,h1]
 ·intro h0
  rw[h0]at h1;exact Wl.2 ⟨f,an hf,hk⟩ h1.symm
 ·intro v hv
  unfold V8 at hv;obtain⟨g,hg,rfl⟩:=ag.1 hv;exact hG g (bo (List.mem_of_mem_drop (bs.1 hg).1))
theorem Yoi{k:Zd}:(∃t:Nat,∃e:Zd×PC,(V7 m κ Zb G i)[t]?=some e/\e.1=k)↔k∈Vx κ (G.take i) []:=by
 rw[<-Dd m κ Zb G i,ag];constructor
 ·rintro⟨t,e,h,rfl⟩
  exact⟨e,an h,rfl⟩
 ·rintro⟨e,h,rfl⟩
  obtain⟨t,ht⟩:=br h;exact⟨t,e,ht,rfl⟩
theorem Ylq:(V7 m κ Zb G i).length<=i:=by
 have h1:=congrArg ay (Dd m κ Zb G i)
 rw[av]at h1;rw[h1];refine cz (E9 κ _ []) ?_;rw[aq];simp;omega
end
def Yqk(L:Rws)(K:Zd)(j:Nat):Prop:=∃t e,t<j/\L[t]?=some e/\e.1=K
theorem Ymw: ¬Yqk L K 0:=fun⟨t,e,h,_⟩=>by omega
theorem Gd(h:L[j]?=some e):Yqk L K (j+1)↔Yqk L K j∨e.1=K:=by
 constructor
 ·rintro⟨t,x,ht,hx,hk⟩
  by_cases hj:t=j
  ·subst hj
   rw[h]at hx;injection hx with hx
   subst hx;exact .inr hk
  ·exact .inl ⟨t,x,by omega,hx,hk⟩
 ·rintro(⟨t,x,ht,hx,hk⟩|hk)
  ·exact⟨t,x,by omega,hx,hk⟩
  ·exact⟨j,e,by omega,h,hk⟩
theorem Ypf(hj:L.length<=j):Yqk L K j↔∃t:Nat,∃e:Zd×PC,L[t]?=some e/\e.1=K:=by
 constructor
 ·rintro⟨t,e,_,h,k⟩
  exact⟨t,e,h,k⟩
 ·rintro⟨t,e,h,k⟩
  exact⟨t,e,by have:=(af.1 h).1;omega,h,k⟩
def B9(L:Rws)(K:Zd)(j:Nat)(b:Bool):Prop:=b=true↔Yqk L K j
theorem Yl0:B9 L K 0 false:=⟨λh=>(nomatch h),λh=>absurd h Ymw⟩
theorem Yq0(h:L[j]?=some e)(hk:e.1=K):B9 L K (j+1) true:=⟨λ_=>(Gd h).2 (.inr hk),λ_=>rfl⟩
theorem Ysz(hb:B9 L K j false)(h:L[j]?=some e)(hk:e.1≠K):B9 L K (j+1) false:=⟨λh=>(nomatch h),λh1=>((Gd h).1 h1).elim (λh2=>hb.2 h2) λh2=>absurd h2 hk⟩
theorem Ylz(hb:B9 L K j true)(h:L[j]?=some e):B9 L K (j+1) true:=⟨λ_=>(Gd h).2 (.inl (hb.1 rfl)),λ_=>rfl⟩
theorem Yrf{κ:Fct->Zd}{b:Bool}(hb:B9 (V7 m κ Zb G i) K j b)(hj:(V7 m κ Zb G i).length<=j):(b=true->K∈Vx κ (G.take i) [])/\(b=false->K∉Vx κ (G.take i) []):=by
 have h1:b=true↔K∈Vx κ (G.take i) []:=hb.trans ((Ypf hj).trans Yoi)
 refine⟨h1.1,λh h2=>?_⟩
 rw[h1.2 h2]at h
 cases h
end
section
def R6(Qs:List (List Pth))(D:List Yk)(L:Rws):List (List Int×PC):=L.map λx=>(Xk Qs (Yn D) x.1,x.2)
section
variable {D:List Yk}{M:List Txt}{V:List (List Int)}{E:List Hld}{Qs:List (List Pth)}{L:Rws}{B:Cub}
theorem Kn(h:X4 D M V E Qs)(hR:Xr M.length (kP (Yn D)) Zj E L){x:Zd×PC}(hx:x∈L):∃f∈E,x.1=f.1/\x.2=Yp M.length (Yf (kC Qs (Yn D)) Zj E (kC Qs (Yn D) f)):=by
 obtain⟨⟨f,hf,e⟩,hs⟩:=(hR.all x).1 hx
 have e1:kP (Yn D) f=f.1:=Ty (h.lev f hf)
 refine⟨f,hf,by rw[<-e,e1],?_⟩
 rw[Ve (Uz h.good.Pa (h.has _ (by simp[Yg]))) hf,hs,e]
theorem Ce(h:X4 D M V E Qs)(hR:Xr M.length (kP (Yn D)) Zj E L){x y:Zd×PC}(hx:x∈L)(hy:y∈L)(he:Xk Qs (Yn D) x.1=Xk Qs (Yn D) y.1):x=y:=by
 obtain⟨f,hf,e1,e2⟩:=Kn h hR hx;obtain⟨g,hg,e3,e4⟩:=Kn h hR hy;rw[e1,e3]at he
 have hk:kC Qs (Yn D) f=kC Qs (Yn D) g:=he
 have h1:=(Uz h.good.Pa (h.has (Yn D) (by simp[Yg])) f hf g hg).1 hk
 have e5:kP (Yn D) f=f.1:=Ty (h.lev f hf)
 have e6:kP (Yn D) g=g.1:=Ty (h.lev g hg)
 refine dd ?_ ?_
 ·rw[e1,e3,<-e5,<-e6];exact h1
 ·rw[e2,e4,hk]
theorem Ykk(h:X4 D M V E Qs)(hB:Wq M.length (kC Qs (Yn D)) Zj E B)(hR:Xr M.length (kP (Yn D)) Zj E L){x:Zd×PC}(hx:x∈L):(Xk Qs (Yn D) x.1,x.2)∈B:=by
 obtain⟨f,hf,e1,e2⟩:=Kn h hR hx
 have hk:Xk Qs (Yn D) x.1=kC Qs (Yn D) f:=by rw[e1];rfl
 exact(hB.all _).2 ⟨⟨f,hf,hk.symm⟩,by rw[e2];show _=Yp M.length (Yf _ _ _ (Xk Qs (Yn D) x.1));rw[hk]⟩
theorem Ybh(hR:Cj L){k:Nat}{y:Zd×PC}(hk:L[k]?=some y):y∉L.take k:=λhm=>by
 obtain⟨i,hi⟩:=br hm
 have hil:=(af.1 hi).1
 rw[aq]at hil;rw[ch,if_pos (by omega)]at hi
 obtain⟨h1,h2⟩:=af.1 hi;obtain⟨h3,h4⟩:=af.1 hk
 have:=di.1 hR i k h1 h3 (by omega)
 rw[h2,h4]at this;unfold Xb at this;rw[Rh]at this;exact absurd this (by decide)
theorem Ygb(h:X4 D M V E Qs)(hB:Wq M.length (kC Qs (Yn D)) Zj E B)(hR:Xr M.length (kP (Yn D)) Zj E L):∀k,k<=L.length->∀x,x∈S2 D.length M.length (R6 Qs D L) k↔∃y∈L.take k,x=(Xk Qs (Yn D) y.1,y.2)
 |0,_,x=>by simp[S2]
 |k+1,hk,x=>by
  have ih:=Ygb h hB hR k (by omega)
  obtain⟨y,hy⟩: ∃y,L[k]?=some y:=⟨_,ae (by omega)⟩
  have hyL:=an hy
  have hin:=Ykk h hB hR hyL
  have hc:=h.Bo hB
  have hris:=(V3 (w:=D.length) (m:=M.length) (D:=R6 Qs D L) k).ris
  have hno:Za (S2 D.length M.length (R6 Qs D L) k) (Xk Qs (Yn D) y.1)=none:=Tn.2 λhm=>by
   obtain⟨e,he,e1⟩:=ag.1 hm;obtain⟨z,hz,rfl⟩:=(ih e).1 he;obtain rfl:=Ce h hR (bo hz) hyL e1;exact Ybh hR.ris hy hz
  rw[Bj (k:=Xk Qs (Yn D) y.1) (x:=y.2) (by unfold R6;rw[ak,hy];rfl),Q3 ⟨hc.key _ hin,hc.cell _ hin⟩ hno,az,hy]
  constructor
  ·intro hx
   rcases Ja hx with rfl|hx
   ·exact⟨y,by simp,rfl⟩
   ·obtain⟨z,hz,e⟩:=(ih x).1 hx
    exact⟨z,List.mem_append_left _ hz,e⟩
  ·rintro⟨z,hz,rfl⟩
   rcases au.1 hz with hz1|hz1
   ·have h1:=(ih _).2 ⟨z,hz1,rfl⟩
    refine Xe ?_;rw[Uq,if_neg (λe=>?_)]
    ·exact Uv hris h1
    ·have e9:=Ce h hR (bo hz1) hyL e
     exact Ybh hR.ris hy (e9▸hz1)
   ·have e:z=y:=by simpa using hz1
    subst e;exact Xe (by rw[Uq,if_pos rfl])
theorem Yrz(h:X4 D M V E Qs)(hB:Wq M.length (kC Qs (Yn D)) Zj E B)(hR:Xr M.length (kP (Yn D)) Zj E L):S2 D.length M.length (R6 Qs D L) L.length=B:=by
 have hris:=(V3 (w:=D.length) (m:=M.length) (D:=R6 Qs D L) L.length).ris
 have hm:∀x,x∈S2 D.length M.length (R6 Qs D L) L.length↔x∈B:=λx=>by
  rw[Ygb h hB hR _ (cj _),List.take_length];constructor
  ·rintro⟨y,hy,rfl⟩
   exact Ykk h hB hR hy
  ·intro hx
   obtain⟨⟨f,hf,e1⟩,e2⟩:=(hB.all x).1 hx
   have e5:kP (Yn D) f=f.1:=Ty (h.lev f hf)
   refine⟨(kP (Yn D) f,Yp M.length (Yf (kP (Yn D)) Zj E (kP (Yn D) f))),(hR.all _).2 ⟨⟨f,hf,rfl⟩,rfl⟩,dd ?_ ?_⟩
   ·show x.1=Xk Qs (Yn D) (kP (Yn D) f)
    rw[e5,<-e1];rfl
   ·show x.2=Yp M.length (Yf (kP (Yn D)) Zj E (kP (Yn D) f))
    rw[e2,<-e1,Ve (Uz h.good.Pa (h.has _ (by simp[Yg]))) hf]
 refine Ykx hris hB.ris λk=>?_
 rcases hg:Za B k with _|x
 ·refine Tn.2 λhk=>?_
  obtain⟨e,he,rfl⟩:=ag.1 hk;exact Tn.1 hg (ag.2 ⟨e,(hm e).1 he,rfl⟩)
 ·exact Uv hris ((hm _).2 (Xe hg))
theorem Xy.get:∀{Qs:List (List Pth)}{v:List Int}{P:List Pth}{i:Nat},Xy Qs v P->i<Qs.length->(P.getD i []).take (v.getD i 0).toNat=[]∨(P.getD i []).take (v.getD i 0).toNat∈Qs.getD i []
 |Q::Qs,n::v,p::P,0,h,_=>h.1
 |Q::Qs,n::v,p::P,i+1,h,hi=>by
  have:=Xy.get (i:=i) h.2 (by simpa using hi)
  simpa only[aj]using this
theorem Ynl(h:X4 D M V E Qs)(hR:Xr M.length (kP (Yn D)) Zj E L){x:Zd×PC}(hx:x∈L):x.1.length=D.length/\(Xk Qs (Yn D) x.1).length=D.length/\∀i,i<D.length->∃c:Nat,Yes (Qs.getD i []) (x.1.getD i [])=(c,0)/\(Xk Qs (Yn D) x.1).getD i 0=(c:Int):=by
 obtain⟨f,hf,e1,_⟩:=Kn h hR hx;rw[e1]
 have hl:=h.lev f hf
 have hlen:f.1.length=D.length:=by have:=congrArg ay hl;simpa[Yj]using this
 have hq:Qs.length=D.length:=by have:=h.good.len;simpa[Yj]using this
 have hN:(Yj D).length=D.length:=by simp[Yj]
 refine⟨hlen,?_,λi hi=>?_⟩
 ·rw[Qy (by rw[Tp,hq]) (by rw[hlen,hq]),hq]
 have hg:=h.good.get (i:=i) (by rw[hN];exact hi)
 have hb:=Hj hi
 have hpl:(f.1.getD i []).length=(D.getD i Wn).2.length:=by
  have h1:(f.1.map ay)[i]?=(Yj D)[i]?:=by rw[hl]
  unfold Yj at h1;rw[ak,ak,ae (by omega),ae (by omega)]at h1
  simp only[df,Option.some.injEq]at h1;rw[aa,ae (by omega),aa,ae (by omega)]
  exact h1
 have hnl:(Yj D).getD i 0=(D.getD i Wn).2.length:=by
  unfold Yj;rw[aa,ak,ae hi,aa,ae hi];rfl
 have ht:(f.1.getD i []).take ((Yn D).getD i 0).toNat=f.1.getD i []:=ai (by rw[hb,hpl];omega)
 have hh:=Xy.get (h.has (Yn D) (by simp[Yg]) f hf) (by omega:i<Qs.length)
 rw[ht]at hh
 have h1:=hg.lv
 rw[hnl]at h1 hg
 have hne:f.1.getD i []≠[]:=λe=>by
  rw[e]at hpl
  have h9:(0:Nat)=(D.getD i Wn).2.length:=hpl
  omega
 have hin:f.1.getD i []∈Qs.getD i []:=hh.resolve_left hne
 refine⟨fnd (Qs.getD i []) (f.1.getD i []),?_,?_⟩
 ·unfold Yes
  rw[if_pos (show Un _ from⟨by rw[hpl];exact h1.2,hg.nam _ hin⟩),if_neg hne,if_pos hin]
 ·rw[Nh (by omega) (by rw[Tp,hq]) (by omega),ht]
end
end
end Go.Proofs.YtmepdkdeanbbaaaGreat
