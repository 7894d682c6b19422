/- SchemaC, SchemaV, SchemaW, SchemaR, SchemaS -/
import Derived.Test.YtmepdkdeanbbaaaGreatJ20
import Derived.Test.YtmepdkdeanbbaaaGreatJ21
import Derived.Test.YtmepdkdeanbbaaaGreatJ24
namespace Go.Proofs.YtmepdkdeanbbaaaGreat
set_option maxRecDepth 100000
set_option maxHeartbeats 8000000
open Go.RowKit
open List renaming getD_eq_getElem?_getD→aa,getElem?_eq_getElem→ae,take_succ_eq_append_getElem→ag,take_of_length_le→ai,getElem_mem→ak,getElem?_append_left→ao,length_take_le→ar,getElem?_append_right→au,pairwise_iff_getElem→av,getElem?_eq_some_iff→aw,mem_singleton→ax,mem_cons→bg,mem_iff_getElem→bn,getElem?_range→bo,getElem?_map→bp,nodup_cons→br,mem_append→bs,mem_map→cj,range→da
open Nat renaming le_refl→af,zero_le→aq,le_trans→bj,le_of_eq→cz
open Proofs.Tryz renaming prog→aj,underlying24→ay,ntmps94→bz,ntmps42→ch,func94→cn,func42→cw
open World renaming size_alloc→an
open Bool renaming not_eq_true→az
open Go.Lib (hid)
variable {D:List Yk}{V:List (List Int)}{c c1 c2 c3 k n n1 n2 n3:Nat}{w:World}{L M:List Txt}{l v:List Int}{x:Txt}{A A1 A2 A3:Option Addr}
section
open Go.RowKit Go.Maps
theorem Yvb(hk:k<D.length)(he:D.getD k Wp=(x,L))(h:¬Zn L 3):decide (Nf D)=false:=by
 rw[decide_eq_false_iff_not];intro hm;refine h (hm.1 (x,L) ?_);rw[<-he,aa,ae hk];exact ak hk
theorem Yli(hk:k<D.length)(he:D.getD k Wp=(x,L))(h:Zn L 3)(ht:∀d∈D.take k,Zn d.2 3):∀d∈D.take (k+1),Zn d.2 3:=by
 rw[ag hk];intro d hd
 rcases bs.1 hd with hd|hd
 ·exact ht d hd
 ·rw[ax]at hd
  have e:D[k]=(x,L):=by rw[<-he,aa,ae hk];rfl
  rw[hd,e];exact h
theorem Yvt(hk:D.length<=k)(ht:∀d∈D.take k,Zn d.2 3):decide (Zn (D.map (·.1)) 3)=decide (Nf D):=by
 rw[ai hk]at ht
 by_cases h:Zn (D.map (·.1)) 3
 ·rw[decide_eq_true h,decide_eq_true (show Nf D from⟨ht,h⟩)]
 ·rw[decide_eq_false h,decide_eq_false (λhm:Nf D=>h hm.2)]
theorem Dn(hk:k<D.length)(he:D.getD k Wp=(x,L)):(D.map (·.1)).take k++[x]=(D.map (·.1)).take (k+1):=by
 have hk2:k<(D.map (·.1)).length:=by simpa using hk
 rw[ag hk2]
 congr 2
 have e:D[k]=(x,L):=by rw[<-he,aa,ae hk];rfl
 rw[List.getElem_map,e]
theorem Yvp(hf:L5 D)(hk:k<D.length)(he:D.getD k Wp=(x,L)):∀s∈L,s.length<=maxLen:=by
 have h1:(x,L)∈D:=by
  rw[<-he,aa,ae hk];exact ak hk
 exact(hf _ h1).2
theorem Yo4(hf:L5 D):∀s∈D.map (·.1),s.length<=maxLen:=by
 intro s hs;obtain⟨d,hd,rfl⟩:=cj.1 hs;exact(hf d hd).1
theorem Ygw(h:Wg w w.heap.size A n c D)(hf:L5 D)(hn:n<=1000):
  Calls aj 92 #[.slice A n c] w λe w'=>e=.returned (.bool (decide (Nf D)))/\Below w.heap.size w w':=by
 have HL:=hid h.len
 have HF:=hid hf
 clear hf;go_enter Tryz.func92,Tryz.ntmps92;go_wp2;go_loopw [3,8] (λv i wr=>∃k:Nat,k<=n/\i=.int .i64 k/\Xj wr w.heap.size v ((D.map (·.1)).take k)/\Below w.heap.size w wr/\Hid (∀d∈D.take k,Zn d.2 3)) (λ_ i _=>n-(intOf i).toNat)
 case atStart=>exact⟨0,aq _,rfl,Xj.Zj w _,Below.refl _ _,hid (by simp)⟩
 case round=>
  obtain⟨k,hk,rfl,hO,hB,ht⟩:=hrel
  by_cases hlt:k<n
  ·obtain⟨b,o,x,A',n',c',L,rfl,hb,g0,g1,hT,he⟩:=(h.below hB (af _)).at_ hlt
   have i0:(0:Int)<=(k:Int):=by omega
   have i1:(k:Int)<(n:Int):=by omega
   have hz:=hB.size
   have hlb:Hid (((D.map (·.1)).take k).length<=1000000):=hid (bj (ar k _) (by omega))
   have hba:=Yb wr (.cells #[.string ⟨x.toArray⟩,.slice A' n' c'] 75)
   have hT1:=(hT.more hz).Yc hba
   have hB1:=hB.trans (hba.mono hz)
   have hO1:=hO.alloc (.cells #[.string ⟨x.toArray⟩,.slice A' n' c'] 75)
   have hS:=Block.new wr 75 #[.string ⟨x.toArray⟩,.slice A' n' c']
   have HN:=hid (show Calls aj 93 #[.slice A' n' c',.int .i64 3] _ _ from Oh (m:=3) hT1 (Yvp HF.out (by have:=HL.out;omega) he.out) (af _))
   clear hT hT1 hO hB
   by_cases ha:Zn L 3
   ·rw[decide_eq_true ha]at HN
    have H:=hid (Yli (by have:=HL.out;omega) he.out ha ht.out)
    have HH:=hid (Dn (by have:=HL.out;omega) he.out)
    clear ha;go_wp2_with fail;generalize wr.alloc (.cells #[.string ⟨x.toArray⟩,.slice A' n' c'] 75)=w2 at hB1 hO1 HN hS⊢;clear hba;refine HN.out.mono ?_;rintro e w3 ⟨rfl,hb3⟩
    have hO3:=hO1.below hb3 (af _)
    have hB3:=hB1.trans (hb3.mono hB1.size)
    have hS3:=hS.below hb3 hS.lt
    have d0:w3.cell? ⟨wr.heap.size,0,none⟩=some (.string ⟨x.toArray⟩):=hS3.cell 0
    have d1:w3.cell? ⟨wr.heap.size,1,none⟩=some (.slice A' n' c'):=hS3.cell 1
    have hlo:=λg e=>(hO3.lt g e).1
    have hO4:=hO3.alloc (.cells #[.string ⟨x.toArray⟩] 9)
    have hz3:=hB3.size
    clear hO1 hB1 HN hb3 hS hS3;go_wp2_with (at_builtin;refine Qk rfl _ _ rfl w.heap.size _ _ rfl hO4 _ rfl x (Gh _ _ _ _ (by simp)) hlb.out (by rw[an];omega) ?_)
    intro v' w5 hO5 hG5
    have hB5:=hid ((hB3.alloc hz3 (.cells #[.string ⟨x.toArray⟩] 9)).trans (hG5.Yw (by rw[an];omega) hlo))
    rw[HH.out]at hO5
    have hO6:=hid hO5
    clear hO3 hO4 hO5 hG5 hlo hB3 d0 d1;go_wp2_with fail;go_roundw
    case rel=>exact⟨k+1,by omega,by go_num,hO6.out,hB5.out,H⟩
    case measure=>simp[intOf];omega
   ·rw[decide_eq_false ha]at HN
    have H:=hid (Yvb (by have:=HL.out;omega) he.out ha)
    clear ha;go_wp2_with fail;refine HN.out.mono ?_;rintro e w3 ⟨rfl,hb3⟩
    have hB3:=hid (hB1.trans (hb3.mono hB1.size))
    clear hO1 hB1 HN hb3;go_wp2_with fail;go_ret;exact⟨Yd H.out.symm,hB3.out⟩
  ·have e:(D.map (·.1)).take k=D.map (·.1):=ai (by have:=HL.out;simp;omega)
   rw[e]at hO
   have H:=hid (Yvt (by have:=HL.out;omega) ht.out)
   obtain⟨A',n',c',rfl,hT,_⟩:=hO.Yr
   have HN:=hid (show Calls aj 93 #[.slice A' n' c',.int .i64 3] _ _ from Oh (m:=3) hT (Yo4 HF.out) (af _))
   rw[H.out]at HN;clear hO hT e H;go_wp2_with fail;refine HN.out.mono ?_;rintro e w3 ⟨rfl,hb3⟩
   have hB3:=hid (hB.trans (hb3.mono hB.size))
   clear HN hb3 hB;go_wp2_with fail;go_ret;exact⟨rfl,hB3.out⟩
/-! ### The views -/
theorem Yep{α β:Type}{f:α->β}{l:List α}(hf:∀a∈l,∀b∈l,f a=f b->a=b):(l.map f).Nodup↔l.Nodup:=by
 unfold List.Nodup;rw[List.pairwise_map,av,av];constructor
 ·exact λh i j hi hj hij e=>h i j hi hj hij (by rw[e])
 ·exact λh i j hi hj hij e=>h i j hi hj hij (hf _ (ak hi) _ (ak hj) e)
theorem Yp5{w:List Int}(h:v.length=w.length)(h3:v.length<=3)(e:Ox v=Ox w):v=w:=by
 simp only[Ox,Prod.mk.injEq]at e;obtain⟨e0,e1,e2⟩:=e;refine Ysp h λi hi=>?_
 match i,hi with
 |0,_=>exact e0
 |1,_=>exact e1
 |2,_=>exact e2
 |(i+3),hi=>omega
theorem Ymr(h3:D.length<=3)(hc:∀v∈V,Z5 D v):((Yg D V).map Ox).Nodup↔(Yg D V).Nodup:=by
 have hl:∀v∈Yg D V,v.length=D.length:=by
  intro v hv
  rcases bg.1 hv with rfl|hv
  ·exact Tt D
  ·exact(hc v hv).1
 exact Yep λa ha b hb e=>Yp5 ((hl a ha).trans (hl b hb).symm) (by rw[hl a ha];exact h3) e
theorem Ytl(h:6<V.length):decide (N7 D V)=false:=by
 rw[decide_eq_false_iff_not];intro h';have:=h'.1;omega
theorem Ywn(hk:k<V.length)(he:l=V.getD k [])(h:¬Z5 D l):decide (N7 D V)=false:=by
 rw[decide_eq_false_iff_not];intro hm;refine h (hm.2.1 l ?_);rw[he,aa,ae hk];exact ak hk
theorem Ylx(hk:k<V.length)(he:l=V.getD k [])(h:Z5 D l)(ht:∀v∈V.take k,Z5 D v):∀v∈V.take (k+1),Z5 D v:=by
 rw[ag hk];intro d hd
 rcases bs.1 hd with hd|hd
 ·exact ht d hd
 ·rw[ax]at hd
  have e:V[k]=l:=by rw[he,aa,ae hk];rfl
  rw[hd,e];exact h
def Rp(D:List Yk)(V:List (List Int))(k:Nat):List T3:=Ox (Yn D)::(V.take k).map Ox
theorem Ycw(hk:k<=6):(Rp D V k).length<=1000:=by
 have:=ar k V
 simp[Rp];omega
theorem Yv3(h3:D.length<=3)(h6:¬6<V.length)(hk:V.length<=k)(ht:∀v∈V.take k,Z5 D v):(!decide (¬(Rp D V k).Nodup))=decide (N7 D V):=by
 unfold Rp;rw[ai hk]at ht⊢
 have e:(Ox (Yn D)::V.map Ox).Nodup↔(Yg D V).Nodup:=Ymr h3 ht
 by_cases hn:(Yg D V).Nodup
 ·have h1:N7 D V:=⟨by omega,ht,hn⟩
  rw[decide_eq_true h1,decide_eq_false (show ¬¬(Ox (Yn D)::V.map Ox).Nodup from λh=>h (e.2 hn))]
  rfl
 ·have h1:¬N7 D V:=λh=>hn h.2.2
  rw[decide_eq_false h1,decide_eq_true (show ¬(Ox (Yn D)::V.map Ox).Nodup from λh=>hn (e.1 h))]
  rfl
theorem Ys2(hk:k<V.length)(he:l=V.getD k []):Rp D V k++[Ox l]=Rp D V (k+1):=by
 unfold Rp;rw[ag hk,he,aa,ae hk,List.map_append];rfl
theorem Yug(hl:∀v,Z5 D v->Wf3 (Ox v))(ht:∀v∈V.take k,Z5 D v):∀t∈Rp D V k,Wf3 t:=λt ht'=>by
 rcases bg.1 ht' with rfl|ht'
 ·exact hl _ (Fy D)
 ·obtain⟨v,hv,rfl⟩:=cj.1 ht'
  exact hl _ (ht v hv)
theorem Wg.levels{B:Nat}(h:Wg w B A n c D):∀d∈D,d.2.length<=maxLen:=by
 intro d hd;obtain⟨i,hi,rfl⟩:=bn.1 hd;obtain⟨b,o,A',n',c',_,_,_,_,hT⟩:=h.has i (by rw[<-h.len];exact hi)
 rw[aa,ae hi]at hT
 have h1:=hT.len
 have h2:=hT.cap
 have h3:=hT.fit
 show(D[i]).2.length<=maxLen
 have h4:(D[i]).2.length=n':=h1
 omega
theorem Ywr{x:Int}(h0:0<=x)(h1:x<=((maxLen:Nat):Int)):(Lit.int .i64 x).wf=true:=by
 have e1:IntKind.i64.min=-9223372036854775808:=rfl
 have e2:IntKind.i64.max=9223372036854775807:=rfl
 unfold maxLen at h1;simp only[Lit.wf,Bool.and_eq_true,decide_eq_true_eq];omega
theorem Ymz(hl:∀d∈D,d.2.length<=maxLen)(h:Z5 D v):Wf3 (Ox v):=by
 have key:∀i,(Lit.int .i64 (v.getD i 0)).wf=true:=λi=>by
  by_cases hi:i<v.length
  ·obtain⟨h0,h1⟩:=h.2 i hi
   refine Ywr h0 (Int.le_trans h1 ?_)
   have hi2:i<D.length:=by rw[<-h.1];exact hi
   have:(D.getD i Wp).2.length<=maxLen:=hl _ (by rw[aa,ae hi2];exact ak hi2)
   omega
  ·rw[aa,List.getElem?_eq_none (by omega)]
   rfl
 exact⟨key 0,key 1,key 2⟩
theorem Ydc(h:Pg w w.heap.size A1 n1 c1 A2 n2 c2 A3 n3 c3 D M V)(h3:D.length<=3):
  Calls aj 94 #[Sy A1 n1 c1 A2 n2 c2 A3 n3 c3] w λe w'=>e=.returned (.bool (decide (N7 D V)))/\Below w.heap.size w w':=by
 have HD:=hid h.d.len
 have HV:=hid h.v.len
 have H3:=hid h3
 have hlev:=hid h.d.levels
 have hb0:=Yb w (.cells #[.slice A1 n1 c1,.slice A2 n2 c2,.slice A3 n3 c3] 26)
 have h1:=h.Yc hb0
 have hS:=Block.new w 26 #[.slice A1 n1 c1,.slice A2 n2 c2,.slice A3 n3 c3]
 clear h h3
 by_cases h6:(6:Int)<(n3:Int)
 ·have H:=hid (Ytl (D:=D) (V:=V) (by rw[HV.out];omega))
  go_enter cn,bz;go_wp2;go_ret;exact⟨Yd H.out.symm,hb0⟩
 ·have H6:Hid (n3<=6):=hid (by omega)
  have hn1:Hid (n1<=1000):=hid (by have:=HD.out;have:=H3.out;omega)
  go_enter cn,bz;go_wp2_with fail;generalize w.alloc (.cells #[.slice A1 n1 c1,.slice A2 n2 c2,.slice A3 n3 c3] 26)=w1 at hb0 h1 hS⊢;refine(Yfk h1.d hn1.out).mono ?_;rintro e w2 ⟨⟨v,rfl,hO⟩,hb2⟩;obtain⟨Ab,nb,cb,rfl,hI,_⟩:=hO.Yr;obtain⟨x,y,z,hxyz⟩: ∃x y z,Hid (Ox (Yn D)=(x,y,z)):=⟨_,_,_,hid rfl⟩;clear hO;go_wp2_with fail;refine(Yg1 hI hxyz).mono ?_;rintro e w3 ⟨rfl,hb3⟩
  have hb4:=Ya hb2 hb3
  have hO4:=Ng.lit w3 (x,y,z) w3.heap.size rfl w1.heap.size hb4.size
  have hb5:=Ya hb4 (Yb w3 (.cells #[.int .i64 x,.int .i64 y,.int .i64 z] 177))
  have hO5:Ng (w3.alloc (.cells #[.int .i64 x,.int .i64 y,.int .i64 z] 177)) w1.heap.size (.slice (some ⟨w3.heap.size,0,none⟩) 1 1) (Rp D V 0):=by
   have e:Rp D V 0=[(x,y,z)]:=by rw[<-hxyz.out];simp[Rp]
   rw[e];exact hO4
  have hS5:=hS.below hb5 hS.lt
  have s5:(w3.alloc (.cells #[.int .i64 x,.int .i64 y,.int .i64 z] 177)).cell? ⟨w.heap.size,2,none⟩=some (.slice A3 n3 c3):=hS5.cell 2
  clear hO4 hI hb2 hb3 hb4;go_wp2_with fail;generalize w3.alloc (.cells #[.int .i64 x,.int .i64 y,.int .i64 z] 177)=w4 at hb5 hO5 hS5 s5⊢;clear hS5 s5;go_loopw [3,17] (λv i wr=>∃k:Nat,k<=n3/\i=.int .i64 k/\Ng wr w1.heap.size v (Rp D V k)/\Below w1.heap.size w1 wr/\Hid (∀v∈V.take k,Z5 D v)) (λ_ i _=>n3-(intOf i).toNat)
  case atStart=>exact⟨0,aq _,rfl,hO5,hb5,hid (by simp)⟩
  case round=>
   obtain⟨k,hk,rfl,hO,hB,ht⟩:=hrel;clear hO5 hb5
   have hSr:=hS.below hB hS.lt
   by_cases hlt:k<n3
   ·obtain⟨b,o,A',n',c',l,rfl,hb,g0,hl,he⟩:=(h1.v.below hB (af _)).at_ hlt
    have i0:(0:Int)<=(k:Int):=by omega
    have i1:(k:Int)<(n3:Int):=by omega
    have s0:wr.cell? ⟨w.heap.size,0,none⟩=some (.slice A1 n1 c1):=hSr.cell 0
    have s1:wr.cell? ⟨w.heap.size,1,none⟩=some (.slice A2 n2 c2):=hSr.cell 1
    have s2:wr.cell? ⟨w.heap.size,2,none⟩=some (.slice (some ⟨b,o,none⟩) n3 c3):=hSr.cell 2
    have hlr:=hl.more hB.size
    have HC:=hid (Yky (A2:=A2) (n2:=n2) (c2:=c2) (A3:=some ⟨b,o,none⟩) (n3:=n3) (c3:=c3) (h1.d.Yc hB) hlr)
    clear hl
    by_cases hc:Z5 D l
    ·rw[decide_eq_true hc]at HC
     have H:=hid (Ylx (by have:=HV.out;omega) he.out hc ht.out)
     have HF:=hid (Ys2 (D:=D) (by have:=HV.out;omega) he.out)
     have hlb:Hid ((Rp D V k).length<=1000):=hid (Ycw (by have:=H6.out;omega))
     clear hc;go_wp2_with fail;refine HC.out.mono ?_;rintro e w5 ⟨rfl,hb5⟩
     have hl5:=hlr.Yc hb5
     have hB5:=hB.trans (hb5.mono hB.size)
     have hO5:=hO.below hb5
     obtain⟨x2,y2,z2,hx2⟩: ∃x y z,Hid (Ox l=(x,y,z)):=⟨_,_,_,hid rfl⟩;clear HC s0 s1 s2 hlr hO hB hSr g0;go_wp2_with fail;refine(Yg1 hl5 hx2).mono ?_;rintro e w6 ⟨rfl,hb6⟩
     have hB6:=hB5.trans (hb6.mono hB5.size)
     have hO6:=(hO5.below hb6).alloc (.cells #[.int .i64 x2,.int .i64 y2,.int .i64 z2] 177)
     have hcell:=hid (Yp3 w6 (x2,y2,z2) 177 w6.heap.size rfl)
     have hz6:=hB6.size
     have hlo:=λg e=>(hO5.lt g e).1
     clear hl5 hb5 hb6 hO5 hB5;go_wp2_with (at_builtin;refine Yf5 rfl _ _ rfl w1.heap.size _ _ rfl hO6 _ rfl (x2,y2,z2) hcell.out hlb.out (by rw[an];omega) ?_)
     intro v' w7 hO7 hG7
     have hB7:=hid ((hB6.alloc hz6 (.cells #[.int .i64 x2,.int .i64 y2,.int .i64 z2] 177)).trans (hG7.Yw (by rw[an];omega) hlo))
     rw[<-hx2.out,HF.out]at hO7
     have hO8:=hid hO7
     clear hO6 hO7 hG7 hlo hB6 hcell;go_wp2_with fail;go_roundw
     case rel=>exact⟨k+1,by omega,by go_num,hO8.out,hB7.out,H⟩
     case measure=>simp[intOf];omega
    ·rw[decide_eq_false hc]at HC
     have H:=hid (Ywn (by have:=HV.out;omega) he.out hc)
     clear hc;go_wp2_with fail;refine HC.out.mono ?_;rintro e w5 ⟨rfl,hb5⟩
     have hB5:=hid (Ya hb0 (hB.trans (hb5.mono hB.size)))
     clear HC hb5 hB hO;go_wp2_with fail;go_ret;exact⟨Yd H.out.symm,hB5.out⟩
   ·have H:=hid (Yv3 (D:=D) (V:=V) (k:=k) H3.out (by have:=HV.out;omega) (by have:=HV.out;omega) ht.out)
    obtain⟨A',c',rfl,hA⟩:=hO.form
    have HT:=hid (Yie hA (Ycw (by have:=H6.out;omega)) (Yug (λv=>Ymz hlev.out) ht.out))
    obtain⟨N,hN⟩: ∃N,(Rp D V k).length=N:=⟨_,rfl⟩;obtain⟨q,hq⟩: ∃q,decide (¬(Rp D V k).Nodup)=q:=⟨_,rfl⟩;rw[hN,hq]at HT;rw[hq]at H;rw[hN];clear hO hA hN hq;go_wp2_with fail;refine HT.out.mono ?_;rintro e w5 ⟨rfl,hb5⟩
    have hB5:=hid (Ya hb0 (hB.trans (hb5.mono hB.size)))
    clear HT hb5 hB;go_wp2_with fail;go_ret;exact⟨Ye2 H.out,hB5.out⟩
end
section
open Go.RowKit Go.Maps
theorem Ywj{D:List Yk}{M:List Txt}{V:List (List Int)}(h:¬Nf D):decide (Wk D M V)=false:=by
 rw[decide_eq_false_iff_not];exact λh'=>h h'.1
theorem Ywu{D:List Yk}{M:List Txt}{V:List (List Int)}(h:¬Zn M 2):decide (Wk D M V)=false:=by
 rw[decide_eq_false_iff_not];exact λh'=>h h'.2.1
theorem Yw6{D:List Yk}{M:List Txt}{V:List (List Int)}(h:Nf D)(h':Zn M 2):decide (N7 D V)=decide (Wk D M V):=by
 by_cases hv:N7 D V
 ·rw[decide_eq_true hv,decide_eq_true (show Wk D M V from⟨h,h',hv⟩)]
 ·rw[decide_eq_false hv,decide_eq_false (show ¬Wk D M V from λh=>hv h.2.2)]
theorem Ys5{D:List Yk}(h:Nf D):D.length<=3:=by have:=h.2.2.1;simpa using this
theorem Qo{A1 A2 A3:Option Addr}{n1 c1 n2 c2 n3 c3:Nat}{D:List Yk}{M:List Txt}{V:List (List Int)}{w:World}(h:Pg w w.heap.size A1 n1 c1 A2 n2 c2 A3 n3 c3 D M V)(hf:L5 D)(hm:∀s∈M,s.length<=maxLen)(hn1:n1<=1000):
  Calls aj 42 #[Sy A1 n1 c1 A2 n2 c2 A3 n3 c3] w λe w'=>e=.returned (.bool (decide (Wk D M V)))/\Below w.heap.size w w':=by
 have hb0:=Yb w (.cells #[.slice A1 n1 c1,.slice A2 n2 c2,.slice A3 n3 c3] 26)
 have h1:=h.Yc hb0
 have hS:=Block.new w 26 #[.slice A1 n1 c1,.slice A2 n2 c2,.slice A3 n3 c3]
 have HD:=hid (Ygw h1.d hf hn1)
 have HM:=hid hm
 clear h hm
 by_cases hd:Nf D
 ·rw[decide_eq_true hd]at HD
  have HX:=hid hd
  clear hd;go_enter cw,ch;go_wp2_with fail;generalize w.alloc (.cells #[.slice A1 n1 c1,.slice A2 n2 c2,.slice A3 n3 c3] 26)=w1 at hb0 h1 hS HD⊢;refine HD.out.mono ?_;rintro e w2 ⟨rfl,hb2⟩
  have h2:=h1.Yc hb2
  have hS2:=hS.below hb2 hS.lt
  have hb3:=Ya hb0 hb2
  have s1:w2.cell? ⟨w.heap.size,1,none⟩=some (.slice A2 n2 c2):=hS2.cell 1
  have HN:=hid (show Calls aj 93 #[.slice A2 n2 c2,.int .i64 2] _ _ from Oh (m:=2) h2.m HM.out (by decide))
  clear HD hb2 hb0 h1 hS
  by_cases ha:Zn M 2
  ·rw[decide_eq_true ha]at HN
   have HA:=hid ha
   clear ha;go_wp2_with fail;refine HN.out.mono ?_;rintro e w3 ⟨rfl,hb4⟩
   have h3:=h2.Yc hb4
   have hS3:=hS2.below hb4 hS2.lt
   have hb5:=Ya hb3 hb4
   have s0:w3.cell? ⟨w.heap.size,0,none⟩=some (.slice A1 n1 c1):=hS3.cell 0
   have s4:w3.cell? ⟨w.heap.size,1,none⟩=some (.slice A2 n2 c2):=hS3.cell 1
   have s2:w3.cell? ⟨w.heap.size,2,none⟩=some (.slice A3 n3 c3):=hS3.cell 2
   have HV:=hid (Ydc h3 (Ys5 HX.out))
   have H:=hid (Yw6 (V:=V) HX.out HA.out)
   rw[H.out]at HV;clear s1 HN hb4 hb3 h2 hS2 H;go_wp2_with fail;refine HV.out.mono ?_;rintro e w4 ⟨rfl,hb6⟩
   have hb7:=Ya hb5 hb6
   clear s0 s4 s2 HV hb6;go_wp2_with fail;go_ret;exact⟨rfl,hb7⟩
  ·rw[decide_eq_false ha]at HN
   have H:=hid (Ywu (D:=D) (V:=V) ha)
   clear ha;go_wp2_with fail;refine HN.out.mono ?_;rintro e w3 ⟨rfl,hb4⟩
   have hb5:=Ya hb3 hb4
   clear s1 HN hb4;go_wp2_with fail;go_ret;exact⟨Yd H.out.symm,hb5⟩
 ·rw[decide_eq_false hd]at HD
  have H:=hid (Ywj (M:=M) (V:=V) hd)
  clear hd;go_enter cw,ch;go_wp2_with fail;refine HD.out.mono ?_;rintro e w2 ⟨rfl,hb2⟩
  have hb3:=Ya hb0 hb2
  clear HD;go_wp2_with fail;go_ret;exact⟨Yd H.out.symm,hb3⟩
/-! ### Rows of rows of the call's own -/
def We(w:World)(base:Nat)(v:Value)(Q:List (List Int)):Prop:=
 ∃vs:List Value,w.ownsRow base 47 1 v Q.length vs/\∀(i:Nat) (q:List Int),Q[i]?=some q->∃x,vs[i]?=some x/\Yi w base x q
section
variable {w w' : World}{base:Nat}{v:Value}{Q:List (List Int)}
theorem We.Zj(w:World)(base:Nat):We w base (.slice none 0 0) []:=⟨[],World.ownsRow_nil w base _ 1,λi q h=>by simp at h⟩
theorem We.low{base':Nat}(h:We w base v Q)(hb:base'<=base):We w base' v Q:=by
 obtain⟨vs,h1,h2⟩:=h;exact⟨vs,Vu h1 hb,λi q hi=>by obtain⟨x,e,hx⟩:=h2 i q hi;exact⟨x,e,hx.low hb⟩⟩
theorem We.lt(h:We w base v Q):∀k,v.ownBlock=some k->base<=k/\k<w.heap.size:=by
 obtain⟨vs,h1,_⟩:=h;exact World.ownsRow.lt h1
theorem We.below(h:We w base v Q)(hb:Below w.heap.size w w'):We w' base v Q:=by
 obtain⟨vs,h1,h2⟩:=h;exact⟨vs,Xi h1 hb,λi q hi=>by obtain⟨x,e,hx⟩:=h2 i q hi;exact⟨x,e,Yi.below hx hb (af _)⟩⟩
theorem We.alloc(h:We w base v Q)(o:Obj):We (w.alloc o) base v Q:=h.below (Yb w o)
theorem We.form(h:We w base v Q):∃A c,v=.slice A Q.length c/\Tg w w.heap.size A Q.length c Q:=by
 obtain⟨vs,h1,h2⟩:=h
 rcases h1.2 with⟨rfl,h0⟩|⟨g,cap,cur,rfl,hb,hg,hnc,hcm,hcs,ht⟩
 ·rw[h0]
  exact⟨none,0,rfl,h0,af _,aq _,λ_=>rfl,λi h=>absurd h (by omega)⟩
 ·refine⟨_,cap,rfl,rfl,hnc,hcm,(λh=>by cases h),λi hi=>?_⟩
  obtain⟨x,e,hx⟩:=h2 i _ (ae hi);obtain⟨A',c',rfl,hT,_⟩:=hx.form
  have hc:=World.ownsRow.cells h1 (g:=g) rfl i _ e
  rw[Yu]at hc;refine⟨g,0,A',_,c',rfl,(Array.getElem?_eq_some_iff.1 hg).1,hc,?_⟩;rw[aa,ae hi];exact hT
theorem We.D4(h:We w base v Q){B:Nat}{x:Value}{q:List Int}(hx:Yi w B x q)(hg:w.grownBy w' v.ownBlock):Yi w' B x q:=by
 obtain⟨vs,h1,_⟩:=h;exact World.ownsRow.kept hx hg (V3 hx h1 (by decide))
end
section
variable {w:World}{ops:Array Oper}{rest:List Oper}{o:Oper}{a:Act}{K:Exit->Act->World->Prop}
theorem Ku(hgd:o.guard=none)(s x:Operand)
  (ho:o.op=.call {callee:=.builtin .append,args:=#[s,x],argTypes:=#[24,24]})
  (base:Nat) (v:Value) (Q:List (List Int)) (hs:a.eval s=v) (hown:We w base v Q) (g:Nat) (hx:a.eval x=.slice (some ⟨g,0,none⟩) 1 1) (y:Value) (q:List Int) (hy:w.cell? ⟨g,0,none⟩=some y) (hyo:Yi w base y q) (hl:Q.length<=1000000) (hbase:base<=w.heap.size)
  (h:∀v' w',We w' base v' (Q++[q])->Zl w v w' v'→wpList aj ops K rest (a.put o.dst v') w'):wpList aj ops K (o::rest) a w:=by
 obtain⟨i,hi,hz0,hz1,hz2⟩:=info_parts Fe
 have hown0:=hown
 obtain⟨vs,h1,h2⟩:=hown
 have hvl:vs.length=Q.length:=by have:=h1.1;omega
 have hone:y.oneCell'=true:=by obtain⟨A',c',rfl,_⟩:=hyo.form;rfl
 refine wpList_append_own_at w hgd s x 24 ho base 47 i _ 1 24 ay hi hz0 hz1 hz2 rfl (by decide) v Q.length vs hs h1 ⟨g,0,none⟩ 1 1 [y] hx rfl (λj u hj=>?_) (λu hu=>?_) (by unfold maxLen;omega) (by omega) hbase ?_
 ·match j,hj with
  |0,hj=>simp at hj;subst hj;rw[Yu];exact hy
  |(j+1),hj=>simp at hj
 ·simp at hu;subst hu;exact hone
 ·intro v' w' e1 e2 _ e4
  refine h v' w' ⟨vs++[y],by simpa using e1,λi q' hi=>?_⟩ ⟨e2,λk hk=>?_⟩
  ·by_cases hlt:i<Q.length
   ·rw[ao hlt]at hi
    obtain⟨x',e,hx'⟩:=h2 i q' hi;exact⟨x',by rw[ao (by omega)];exact e,hown0.D4 hx' e2⟩
   ·have hie:i=Q.length:=by
     have:=(aw.1 hi).1
     simp at this;omega
    subst hie;simp at hi;subst hi;exact⟨y,by rw[au (by omega),hvl];simp,hown0.D4 hyo e2⟩
  ·rcases e4 with e4|e4
   ·exact .inl (e4▸hk)
   ·rw[e4]at hk
    injection hk with hk
    exact .inr (cz hk)
end
theorem We.lit{base:Nat}{x:Value}{q:List Int}(h:Yi w base x q)(g:Nat)(hg:g=w.heap.size)(hb:base<=g):We (w.alloc (.cells #[x] 47)) base (.slice (some ⟨g,0,none⟩) 1 1) [q]:=by
 subst hg;refine⟨[x],⟨rfl,.inr ⟨w.heap.size,1,#[x],rfl,hb,heap_alloc_new w _,af _,by decide,rfl,rfl⟩⟩,λi q' hi=>?_⟩
 match i,hi with
 |0,hi=>simp at hi;subst hi;exact⟨x,rfl,h.alloc _⟩
 |(i+1),hi=>simp at hi
def Yvx(w:World)(Q:List (List Int))(e:Ending)(w':World):Prop:=(∃v,e=.returned v/\We w' w.heap.size v Q)/\Below w.heap.size w w'
theorem Bl(hk:k<V.length)(he:l=V.getD k []):Yg D (V.take k)++[l]=Yg D (V.take (k+1)):=by
 unfold Yg;rw[ag hk,he,aa,ae hk];rfl
theorem Ym4(hk:k<=1000):(Yg D (V.take k)).length<=1000000:=by
 have:=ar k V
 simp[Yg];omega
theorem Ybx(h:Pg w w.heap.size A1 n1 c1 A2 n2 c2 A3 n3 c3 D M V)(hn1:n1<=1000)(hn3:n3<=1000)(hV:∀l∈V,l.length<=1000):
  Calls aj 44 #[Sy A1 n1 c1 A2 n2 c2 A3 n3 c3] w (Yvx w (Yg D V)):=by
 have HV:=hid h.v.len
 have HVL:=hid hV
 have hb0:=Yb w (.cells #[.slice A1 n1 c1,.slice A2 n2 c2,.slice A3 n3 c3] 26)
 have h1:=h.Yc hb0
 have hS:=Block.new w 26 #[.slice A1 n1 c1,.slice A2 n2 c2,.slice A3 n3 c3]
 clear h hV;go_enter Tryz.func44,Tryz.ntmps44;go_wp2_with fail;generalize w.alloc (.cells #[.slice A1 n1 c1,.slice A2 n2 c2,.slice A3 n3 c3] 26)=w1 at hb0 h1 hS⊢;refine(Yfk h1.d hn1).mono ?_;rintro e w2 ⟨⟨v,rfl,hO⟩,hb2⟩
 have hO4:=We.lit hO w2.heap.size rfl hb2.size
 have hb4:=Ya hb2 (Yb w2 (.cells #[v] 47))
 have hS4:=hS.below hb4 hS.lt
 have s4:(w2.alloc (.cells #[v] 47)).cell? ⟨w.heap.size,2,none⟩=some (.slice A3 n3 c3):=hS4.cell 2
 have hv:Hid (v.oneCell'=true):=hid (by obtain⟨A',c',rfl,_⟩:=hO.form;rfl)
 have hO4:We (w2.alloc (.cells #[v] 47)) w1.heap.size (.slice (some ⟨w2.heap.size,0,none⟩) 1 1) (Yg D (V.take 0)):=by simpa[Yg]using hO4
 clear hO hb2;obtain⟨Ab,nb,cb,rfl⟩: ∃A n c,v=.slice A n c:=by
  obtain⟨vs,h1,h2⟩:=hO4;obtain⟨x,e,hx⟩:=h2 0 (Yn D) rfl
  have e2:=h1.cells (g:=w2.heap.size) rfl 0 x e
  rw[Yu,Zq]at e2;obtain⟨A',c',rfl,_⟩:=hx.form
  have e3:v=.slice A' (Yn D).length c':=by simpa using e2
  exact⟨_,_,_,e3⟩
 go_wp2_with fail;generalize w2.alloc (.cells #[.slice Ab nb cb] 47)=w4 at hb4 hO4 hS4 s4⊢;clear hS4 hS hv;go_loopw [3,12] (λv i wr=>∃k:Nat,k<=n3/\i=.int .i64 k/\We wr w1.heap.size v (Yg D (V.take k))/\Below w1.heap.size w1 wr) (λ_ i _=>n3-(intOf i).toNat)
 case atStart=>exact⟨0,aq _,rfl,hO4,hb4⟩
 case round=>
  obtain⟨k,hk,rfl,hO,hB⟩:=hrel;clear hO4 hb4 s4
  by_cases hlt:k<n3
  ·obtain⟨b,o,A',n',c',l,rfl,hb,g0,hl,he⟩:=(h1.v.below hB (af _)).at_ hlt
   have i0:(0:Int)<=(k:Int):=by omega
   have i1:(k:Int)<(n3:Int):=by omega
   have hlr:=hl.more hB.size
   have hn':n'<=1000000:=by
    have h2:l∈V:=by rw[he.out,aa,ae (by have:=HV.out;omega)];exact ak _
    have:=HVL.out l h2
    have:=hl.len
    omega
   have HC:=hid (Tn hlr hn')
   have HF:=hid (Bl (D:=D) (by have:=HV.out;omega) he.out)
   have hlb:=hid (Ym4 (D:=D) (V:=V) (k:=k) (by omega))
   clear hl hlr hn';go_wp2_with fail;refine HC.out.mono ?_;rintro e w5 ⟨⟨y,rfl,hy⟩,hb5⟩
   have hz:=hB.size
   have hB5:=hB.trans (hb5.mono hz)
   have hO5:=hO.below hb5
   have hy5:=hy.low hz
   obtain⟨Ay,ny,cy,rfl,_⟩:=hy.Yr
   have hO6:=hO5.alloc (.cells #[.slice Ay ny cy] 47)
   have hy6:=hy5.alloc (.cells #[.slice Ay ny cy] 47)
   have hlo:=λg e=>(hO5.lt g e).1
   have hz5:=hB5.size
   clear HC hO hB hb5 hO5 hy hy5 g0;go_wp2_with (at_builtin;refine Ku rfl _ _ rfl w1.heap.size _ _ rfl hO6 _ rfl _ l (Gh _ _ _ _ rfl) hy6 hlb.out (by rw[an];omega) ?_)
   intro v' w7 hO7 hG7
   have hB7:=hid ((hB5.alloc hz5 (.cells #[.slice Ay ny cy] 47)).trans (hG7.Yw (by rw[an];omega) hlo))
   rw[HF.out]at hO7
   have hO8:=hid hO7
   clear hO6 hy6 hO7 hG7 hlo hB5;go_wp2_with fail;go_roundw
   case rel=>exact⟨k+1,by omega,by go_num,hO8.out,hB7.out⟩
   case measure=>simp[intOf];omega
  ·have e:V.take k=V:=ai (by have:=HV.out;omega)
   rw[e]at hO
   have HO:=hid (hO.low hb0.size)
   have HB:=hid (Ya hb0 hB)
   clear hO hB e;go_wp2_with fail;go_ret;exact⟨⟨_,rfl,HO.out⟩,HB.out⟩
end
section
open Go.RowKit Go.Maps
theorem toB{P:Program}{f:FuncId}{args:Array Value}{v:Value}(h:Calls P f args w λe w'=>e=.returned v/\∃k,w'=w.drewN k):Calls P f args w λe w'=>e=.returned v/\Below w.heap.size w w':=
 h.mono λ_ _ ⟨he,k,hk⟩=>⟨he,hk▸below_drewN (Below.refl _ _) k⟩
theorem Yxi(hk:k<D.length)(he:D.getD k Wp=(x,L))(h:¬Zn L 3):decide (Wk D M V)=false:=by
 have h1:=Yvb hk he h
 rw[decide_eq_false_iff_not]at h1⊢;exact λh'=>h1 h'.1
theorem Yxf(h:¬Zn (D.map (·.1)) 3∨¬Zn M 2∨6<V.length):decide (Wk D M V)=false:=by
 rw[decide_eq_false_iff_not];intro h'
 rcases h with h|h|h
 ·exact h h'.1.2
 ·exact h h'.2.1
 ·have:=h'.2.2.1;omega
theorem Ywq(hk:k<V.length)(he:l=V.getD k [])(h:¬Z5 D l∨l=Yn D∨∃j,j<k/\V.getD j []=l):decide (Wk D M V)=false:=by
 have e:V[k]=l:=by rw[he,aa,ae hk];rfl
 rw[decide_eq_false_iff_not];intro h';obtain⟨_,hc,hn⟩:=h'.2.2
 rcases h with h|h|⟨j,hj,h⟩
 ·exact h (e▸hc _ (ak hk))
 ·have:=(br.1 hn).1
  exact this (by rw[<-h,<-e];exact ak hk)
 ·have:=av.1 (br.1 hn).2 j k (by omega) hk hj
  refine this ?_;rw[e,<-h,aa,ae (show j<V.length by omega)]
  rfl
theorem Yt0(hk:k<V.length)(he:l=V.getD k [])(hn:(Yg D (V.take k)).Nodup)(hb:¬l=Yn D)(hj:∀j,j<k→¬V.getD j []=l):(Yg D (V.take (k+1))).Nodup:=by
 rw[<-Bl hk he];refine List.nodup_append.2 ⟨hn,by simp,λa ha b hbm=>?_⟩
 rw[ax]at hbm;rw[hbm]
 rcases bg.1 ha with rfl|ha
 ·exact λe=>hb e.symm
 ·obtain⟨j,hjt,e⟩:=bn.1 ha
  rw[List.length_take]at hjt;rw[List.getElem_take]at e;intro e2;refine hj j (by omega) ?_
  rw[aa,ae (show j<V.length by omega)]
  exact e.trans e2
theorem Yvf(hk:V.length<=k)(h6:¬6<V.length)(hd:∀d∈D,Zn d.2 3)(h1:Zn (D.map (·.1)) 3)(h2:Zn M 2)(hc:∀v∈V.take k,Z5 D v)(hn:(Yg D (V.take k)).Nodup):decide (Wk D M V)=true:=by
 rw[ai hk]at hc hn;rw[decide_eq_true_eq];exact⟨⟨hd,h1⟩,h2,by omega,hc,hn⟩
theorem Ysx(hk:D.length<=k)(ht:∀d∈D.take k,Zn d.2 3):∀d∈D,Zn d.2 3:=by rwa [ai hk]at ht
theorem Nw(h:Pg w w.heap.size A1 n1 c1 A2 n2 c2 A3 n3 c3 D M V)(hn1:n1<=1000)(hn3:n3<=1000):
  Calls aj 70 #[Sy A1 n1 c1 A2 n2 c2 A3 n3 c3] w λe w'=>e=.returned (.bool (decide (Wk D M V)))/\Below w.heap.size w w':=by
 have HL:=hid h.d.len
 have HV:=hid h.v.len
 have hb0:=Yb w (.cells #[.slice A1 n1 c1,.slice A2 n2 c2,.slice A3 n3 c3] 26)
 have h1:=h.Yc hb0
 have hS:=Block.new w 26 #[.slice A1 n1 c1,.slice A2 n2 c2,.slice A3 n3 c3]
 clear h;go_enter Tryz.func70,Tryz.ntmps70;go_wp2_with fail;generalize w.alloc (.cells #[.slice A1 n1 c1,.slice A2 n2 c2,.slice A3 n3 c3] 26)=w1 at hb0 h1 hS⊢;go_loopw [3,4] (λv i wr=>∃k:Nat,k<=n1/\i=.int .i64 k/\Xj wr w1.heap.size v ((D.map (·.1)).take k)/\Below w1.heap.size w1 wr/\Hid (∀d∈D.take k,Zn d.2 3)) (λ_ i _=>n1-(intOf i).toNat)
 case atStart=>exact⟨0,aq _,rfl,Xj.Zj w1 _,Below.refl _ _,hid (by simp)⟩
 case round=>
  obtain⟨k,hk,rfl,hO,hB,ht⟩:=hrel
  have s0:wr.cell? ⟨w.heap.size,0,none⟩=some (.slice A1 n1 c1):=(hS.below hB hS.lt).cell 0
  by_cases hlt:k<n1
  ·obtain⟨b,o,x,A',n',c',L,rfl,hb,g0,g1,hT,he⟩:=(h1.d.below hB (af _)).at_ hlt
   have i0:(0:Int)<=(k:Int):=by omega
   have i1:(k:Int)<(n1:Int):=by omega
   have hz:=hB.size
   have hlb:Hid (((D.map (·.1)).take k).length<=1000000):=hid (bj (ar k _) (by omega))
   have HH:=hid (Dn (by have:=HL.out;omega) he.out)
   have hlo:=λg e=>(hO.lt g e).1
   have hO1:=hO.alloc (.cells #[.string ⟨x.toArray⟩] 9)
   go_wp2_with (at_builtin;refine Qk rfl _ _ rfl w1.heap.size _ _ rfl hO1 _ rfl x (Gh _ _ _ _ (by simp)) hlb.out (by rw[an];omega) ?_)
   intro v' w2 hO2 hG2
   have hbx:=(Yb wr (.cells #[.string ⟨x.toArray⟩] 9)).mono hz |>.trans (hG2.Yw (by rw[an];omega) hlo)
   have hB2:=hB.trans hbx
   have e0:w2.cell? ⟨w.heap.size,0,none⟩=some (.slice (some ⟨b,o,none⟩) n1 c1):=(hS.below hB2 hS.lt).cell 0
   have e1:w2.cell? ⟨b,o+k*2+1,none⟩=some (.slice A' n' c'):=(hbx.cell (p:=⟨b,o+k*2+1,none⟩) hb).trans g1
   have hT2:=hT.below hbx (af _)
   have HA:=hid (show Calls aj 130 #[.slice A' n' c',.int .i64 3] _ _ from Hy (m:=3) hT2 (af _))
   rw[HH.out]at hO2;clear hO hO1 hG2 hlo hB hbx hT hT2 s0 g0 g1
   by_cases ha:Zn L 3
   ·rw[decide_eq_true ha]at HA
    have H:=hid (Yli (by have:=HL.out;omega) he.out ha ht.out)
    clear ha;go_wp2_with fail;refine HA.out.mono ?_;rintro e w3 ⟨rfl,q,rfl⟩
    have hO3:=hid (hO2.drewN q)
    have hB3:=hid (below_drewN hB2 q)
    clear HA hO2 hB2 e0 e1;go_wp2_with fail;go_roundw
    case rel=>exact⟨k+1,by omega,by go_num,hO3.out,hB3.out,H⟩
    case measure=>simp[intOf];omega
   ·rw[decide_eq_false ha]at HA
    have H:=hid (Yxi (M:=M) (V:=V) (by have:=HL.out;omega) he.out ha)
    clear ha;go_wp2_with fail;refine HA.out.mono ?_;rintro e w3 ⟨rfl,q,rfl⟩
    have hB3:=hid (Ya hb0 (below_drewN hB2 q))
    clear HA hO2 hB2 e0 e1;go_wp2_with fail;go_ret;exact⟨Yd H.out.symm,hB3.out⟩
  ·have e:(D.map (·.1)).take k=D.map (·.1):=ai (by have:=HL.out;simp;omega)
   rw[e]at hO
   have HD:=hid (Ysx (by have:=HL.out;omega) ht.out)
   obtain⟨A',n',c',rfl,hT,_⟩:=hO.Yr
   have HA:=hid (show Calls aj 130 #[.slice A' n' c',.int .i64 3] _ _ from Hy (m:=3) hT (af _))
   obtain⟨one,h_one⟩: ∃q,Hid (decide (Zn (D.map (·.1)) 3)=q):=⟨_,hid rfl⟩
   rw[h_one.out]at HA;clear hO hT e ht;go_wp2_with fail;refine HA.out.mono ?_;rintro e w3 ⟨rfl,q,rfl⟩
   have hB3:=below_drewN hB q
   have hS3:=hS.below hB3 hS.lt
   have s1:(wr.drewN q).cell? ⟨w.heap.size,1,none⟩=some (.slice A2 n2 c2):=hS3.cell 1
   have HA2:=hid (show Calls aj 130 #[.slice A2 n2 c2,.int .i64 2] _ _ from Hy (m:=2) (h1.m.below hB3 (af _)) (by decide))
   obtain⟨two,h_two⟩: ∃q,Hid (decide (Zn M 2)=q):=⟨_,hid rfl⟩;rw[h_two.out]at HA2;clear HA s0;go_wp2_with fail;refine HA2.out.mono ?_;rintro e w4 ⟨rfl,q2,rfl⟩
   have hB4:=below_drewN (below_drewN hB q) q2
   have hS4:=hS.below hB4 hS.lt
   have t0:((wr.drewN q).drewN q2).cell? ⟨w.heap.size,0,none⟩=some (.slice A1 n1 c1):=hS4.cell 0
   have t1:((wr.drewN q).drewN q2).cell? ⟨w.heap.size,1,none⟩=some (.slice A2 n2 c2):=hS4.cell 1
   have t2:((wr.drewN q).drewN q2).cell? ⟨w.heap.size,2,none⟩=some (.slice A3 n3 c3):=hS4.cell 2
   clear HA2 hB3 hS3 s1 hB;generalize (wr.drewN q).drewN q2=w4 at hB4 hS4 t0 t1 t2⊢
   by_cases hall:(one=true/\two=true)/\¬(6:Int)<(n3:Int)
   ·obtain⟨⟨rfl,rfl⟩,h6⟩:=hall
    have HB:=hid (N0 (A2:=A2) (n2:=n2) (c2:=c2) (A3:=A3) (n3:=n3) (c3:=c3) ((h1.d.below hB4 (af _)).more hB4.size) hn1)
    have H6:Hid (n3<=6):=hid (by omega)
    go_wp2_with fail;clear t0 t1 t2;refine HB.out.mono ?_;rintro e w5 ⟨⟨v,rfl,hO⟩,hb5⟩;obtain⟨Ab,nb,cb,rfl,hI,_⟩:=hO.Yr
    have hB5:=hB4.trans (hb5.mono hB4.size)
    clear hO HB hB4 hb5 hS4;go_wp2_with fail;go_loopw [9] (λi wr=>∃k:Nat,k<=n3/\i=.int .i64 k/\Below w5.heap.size w5 wr/\Hid (∀v∈V.take k,Z5 D v)/\Hid ((Yg D (V.take k)).Nodup)) (λi _=>n3-(intOf i).toNat)
    case atStart=>exact⟨0,aq _,rfl,Below.refl _ _,hid (by simp),hid (by simp[Yg])⟩
    case round=>
     obtain⟨k2,hk2,rfl,hC,hcs,hnd⟩:=hrel;obtain⟨wo,rfl⟩: ∃wo,wo=wr:=⟨_,rfl⟩
     have hB6:=hB5.trans (hC.mono hB5.size)
     have hS6:=hS.below hB6 hS.lt
     have t0:wo.cell? ⟨w.heap.size,0,none⟩=some (.slice A1 n1 c1):=hS6.cell 0
     have t1:wo.cell? ⟨w.heap.size,1,none⟩=some (.slice A2 n2 c2):=hS6.cell 1
     have t2:wo.cell? ⟨w.heap.size,2,none⟩=some (.slice A3 n3 c3):=hS6.cell 2
     by_cases hlt2:k2<n3
     ·obtain⟨b,o,A',n',c',l,rfl,hb,g0,hl,he⟩:=(h1.v.below hB6 (af _)).at_ hlt2
      have i0:(0:Int)<=(k2:Int):=by omega
      have i1:(k2:Int)<(n3:Int):=by omega
      have HW:=hid (show ∀W,Below w5.heap.size w5 W->(W.cell? ⟨w.heap.size,0,none⟩=some (.slice A1 n1 c1)/\W.cell? ⟨w.heap.size,1,none⟩=some (.slice A2 n2 c2)/\W.cell? ⟨w.heap.size,2,none⟩=some (.slice (some ⟨b,o,none⟩) n3 c3))/\W.cell? ⟨b,o+k2,none⟩=some (.slice A' n' c')/\Y2 W W.heap.size A' n' c' l/\Y2 W W.heap.size Ab nb cb (Yn D)/\Wg W W.heap.size A1 n1 c1 D/\Tg W W.heap.size (some ⟨b,o,none⟩) n3 c3 V from λW hW=>by
       have hBW:=hB5.trans (hW.mono hB5.size)
       have hSW:=hS.below hBW hS.lt
       have hlW:=(h1.v.below hBW (af _)).more hBW.size
       obtain⟨b9,o9,A9,n9,c9,l9,e9,_,g9,hl9,he9⟩:=(h1.v.below hBW (af _)).at_ hlt2;obtain⟨rfl,rfl⟩:b=b9/\o=o9:=by simpa using e9
       have hw0:W.cell? ⟨b,o+k2,none⟩=some (.slice A' n' c'):=((hBW.cell (p:=⟨b,o+k2,none⟩) hb).trans (hB6.cell (p:=⟨b,o+k2,none⟩) hb).symm).trans g0
       have e2:Value.slice A9 n9 c9=.slice A' n' c':=Option.some.inj (g9.symm.trans hw0)
       injection e2 with e3 e4 e5
       subst e3 e4 e5;obtain rfl:l=l9:=he.out.trans he9.out.symm;exact⟨⟨hSW.cell 0,hSW.cell 1,hSW.cell 2⟩,hw0,hl9.more hBW.size,(hI.below hW (af _)).more hW.size,(h1.d.below hBW (af _)).more hBW.size,hlW⟩)
      have HCo:=hid fun(y:Bel wo)=>y.calls λW hw=>Ya0 (A2:=A2) (n2:=n2) (c2:=c2) (A3:=some ⟨b,o,none⟩) (n3:=n3) (c3:=c3) (HW.out W (hC.trans (hw.mono hC.size))).2.2.2.2.1 (HW.out W (hC.trans (hw.mono hC.size))).2.2.1
      have k0:∀y:Bel wo,y.w.cell? ⟨w.heap.size,0,none⟩=some (.slice A1 n1 c1):=λy=>y.cell t0
      have k1:∀y:Bel wo,y.w.cell? ⟨w.heap.size,1,none⟩=some (.slice A2 n2 c2):=λy=>y.cell t1
      have k3:∀y:Bel wo,y.w.cell? ⟨w.heap.size,2,none⟩=some (.slice (some ⟨b,o,none⟩) n3 c3):=λy=>y.cell t2
      have k4:∀y:Bel wo,y.w.cell? ⟨b,o+k2,none⟩=some (.slice A' n' c'):=λy=>y.cell g0
      obtain⟨cb1,hcb⟩: ∃q,Hid (decide (Z5 D l)=q):=⟨_,hid rfl⟩;rw[hcb.out]at HCo;clear hl hS6 hB6;go_wp2_with fail;refine Xl (by kernel_rfl) (by kernel_rfl) ?_
      repeat (go_big_quiet_step ((go_at_call 131;exact HCo.out _)))
      refine wpQuiet_nil ?_;rintro _ ⟨y7,rfl⟩
      have hb7:=y7.b
      generalize y7.w=w7 at hb7⊢
      have hC7:=hC.trans (hb7.mono hC.size)
      obtain⟨⟨_,_,u2⟩,u3,u4,u5,_⟩:=HW.out w7 hC7
      have HSa:=hid (Mh u4 u5)
      obtain⟨sb1,hsb⟩: ∃q,Hid (decide (l=Yn D)=q):=⟨_,hid rfl⟩;rw[hsb.out]at HSa;clear HCo k0 k1 k3 k4 t0 t1 t2 g0 hb7 hC u4 u5;go_wp2_with fail;refine HSa.out.mono ?_;rintro e w8 ⟨rfl,q3,rfl⟩
      have hC8:=below_drewN hC7 q3
      clear HSa u2 u3 hC7
      by_cases hgo:cb1=true/\sb1=false
      ·obtain⟨rfl,rfl⟩:=hgo
       have HX:=hid (of_decide_eq_true hcb.out)
       have HY:=hid (of_decide_eq_false hsb.out)
       have H:=hid (Ylx (by have:=HV.out;omega) he.out HX.out hcs.out)
       go_wp2_with fail;go_loopw [12] (λi wr=>∃j:Nat,j<=k2/\i=.int .i64 j/\Below w5.heap.size w5 wr/\Hid (∀t,t<j→¬V.getD t []=l)) (λi _=>k2-(intOf i).toNat)
       case atStart=>exact⟨0,aq _,rfl,hC8,hid λt ht=>absurd ht (by omega)⟩
       case round=>
        obtain⟨j,hj,rfl,hC,hne⟩:=hrel;clear hC8
        by_cases hjk:j<k2
        ·obtain⟨⟨_,_,u2⟩,u3,u4,_,_,u6⟩:=HW.out wr hC
         obtain⟨b9,o9,A9,n9,c9,l9,e9,_,g9,hl9,he9⟩:=u6.at_ (show j<n3 by omega)
         obtain⟨rfl,rfl⟩:b=b9/\o=o9:=by simpa using e9
         have j0:(0:Int)<=(j:Int):=by omega
         have j1:(j:Int)<(n3:Int):=by omega
         have j2:(j:Int)<(k2:Int):=by omega
         have HS2:=hid fun(y:Bel wr)=>y.calls λW hw=>toB (Mh (hl9.below hw (af _)) (u4.below hw (af _)))
         have k3:∀y:Bel wr,y.w.cell? ⟨w.heap.size,2,none⟩=some (.slice (some ⟨b,o,none⟩) n3 c3):=λy=>y.cell u2
         have k4:∀y:Bel wr,y.w.cell? ⟨b,o+k2,none⟩=some (.slice A' n' c'):=λy=>y.cell u3
         have k5:∀y:Bel wr,y.w.cell? ⟨b,o+j,none⟩=some (.slice A9 n9 c9):=λy=>y.cell g9
         clear u2 u3 u4 u6 e9 g9 hl9
         by_cases hll:l9=l
         ·have HZ:=hid (Ywq (D:=D) (M:=M) (by have:=HV.out;omega) he.out (.inr (.inr ⟨j,hjk,he9.out.symm.trans hll⟩)))
          rw[decide_eq_true hll]at HS2;clear hll;go_wp2_with fail;refine Xl (by kernel_rfl) (by kernel_rfl) ?_
          repeat (go_big_quiet_step ((go_at_call 132;exact HS2.out _)))
          refine wpQuiet_nil ?_;rintro _ ⟨⟨w9,hb9⟩,rfl⟩
          have HB9:=hid (Ya hb0 (hB5.trans ((hC.trans (hb9.mono hC.size)).mono hB5.size)))
          clear HS2 k3 k4 k5 hb9;go_wp2_with fail;go_ret;exact⟨Yd HZ.out.symm,HB9.out⟩
         ·have HN:Hid (∀t,t<j+1→¬V.getD t []=l):=hid λt ht=>by
           by_cases h:t<j
           ·exact hne.out t h
           ·obtain rfl:t=j:=by omega
            rw[<-he9.out];exact hll
          rw[decide_eq_false hll]at HS2;clear hll;go_wp2_with fail;refine Xl (by kernel_rfl) (by kernel_rfl) ?_
          repeat (go_big_quiet_step ((go_at_call 132;exact HS2.out _)))
          refine wpQuiet_nil ?_;rintro _ ⟨⟨w9,hb9⟩,rfl⟩
          have HB9:=hid (hC.trans (hb9.mono hC.size))
          clear HS2 k3 k4 k5 hb9;go_wp2_with fail;go_roundw
          case rel=>exact⟨j+1,by omega,by go_num,HB9.out,HN⟩
          case measure=>simp[intOf];omega
        ·obtain rfl:j=k2:=by omega
         have HN:=hid (Yt0 (D:=D) (by have:=HV.out;omega) he.out hnd.out HY.out hne.out)
         have HC:=hid hC
         clear hC;go_wp2_with fail;go_roundw
         case rel=>exact⟨j+1,by omega,by go_num,HC.out,H,HN⟩
         case measure=>simp[intOf];omega
      ·have HZ:Hid (decide (Wk D M V)=false):=hid (Ywq (by have:=HV.out;omega) he.out (by
        by_cases h:cb1=true
        ·right;left
         have:sb1=true:=by
          rcases Bool.eq_false_or_eq_true sb1 with h2|h2
          ·exact h2
          ·exact absurd ⟨h,h2⟩ hgo
         exact of_decide_eq_true (hsb.out.trans this)
        ·left
         rw[az]at h;exact of_decide_eq_false (hcb.out.trans h)))
       have HB9:=hid (Ya hb0 (hB5.trans (hC8.mono hB5.size)))
       cases cb1
       ·go_wp2_with fail
        go_ret;exact⟨Yd HZ.out.symm,HB9.out⟩
       ·cases sb1
        ·exact absurd ⟨rfl,rfl⟩ hgo
        ·clear hgo
         go_wp2_with fail;go_ret;exact⟨Yd HZ.out.symm,HB9.out⟩
     ·have HZ:=hid (Yvf (M:=M) (k:=k2) (by have:=HV.out;omega) (by have:=HV.out;have:=H6.out;omega) HD.out (of_decide_eq_true h_one.out) (of_decide_eq_true h_two.out) hcs.out hnd.out)
      have HB9:=hid (Ya hb0 hB6)
      clear hS6 hB6;go_wp2_with fail;go_ret;exact⟨Yd HZ.out.symm,HB9.out⟩
   ·have HZ:Hid (decide (Wk D M V)=false):=hid (Yxf (by
     by_cases h1:one=true
     ·by_cases h2:two=true
      ·right;right
       have:(6:Int)<(n3:Int):=by
        rcases Int.lt_or_le 6 (n3:Int)with h|h
        ·exact h
        ·exact absurd ⟨⟨h1,h2⟩,by omega⟩ hall
       rw[HV.out];omega
      ·right;left
       rw[az]at h2;exact of_decide_eq_false (h_two.out.trans h2)
     ·left
      rw[az]at h1;exact of_decide_eq_false (h_one.out.trans h1)))
    have HB9:=hid (Ya hb0 hB4)
    cases one
    ·clear hall
     go_wp2_with fail;go_ret;exact⟨Yd HZ.out.symm,HB9.out⟩
    ·cases two
     ·clear hall
      go_wp2_with fail;go_ret;exact⟨Yd HZ.out.symm,HB9.out⟩
     ·have h6:(6:Int)<(n3:Int):=by
       rcases Int.lt_or_le 6 (n3:Int)with h|h
       ·exact h
       ·exact absurd ⟨⟨rfl,rfl⟩,by omega⟩ hall
      clear hall;go_wp2_with fail;go_ret;exact⟨Yd HZ.out.symm,HB9.out⟩
end
section
open Go.RowKit Go.Maps
theorem Yd8{w:World}{ops:Array Oper}{rest:List Oper}{o:Oper}{a:Act}{Q:Exit->Act->World->Prop}(hgd:o.guard=none)(s x:Operand)
  (ho:o.op=.call {callee:=.builtin .append,args:=#[s,x],argTypes:=#[24,24]})
  (base C:Nat) (v:Value) (L:List (List Int)) (hs:a.eval s=v) (hown:Yaw w base C 47 v L) (A:Option Addr) (m c:Nat) (V:List (List Int)) (hx:a.eval x=.slice A m c)
  (hl:Tg w C A m c V) (hlen:L.length+m<=1000000) (hbase:base<=w.heap.size) (hC:C<=base)
  (h:∀v' w',Yaw w' base C 47 v' (L++V)->Zl w v w' v'→(∀k,v.ownBlock=some k->base<=k)->wpList aj ops Q rest (a.put o.dst v') w'):wpList aj ops Q (o::rest) a w:=by
 obtain⟨i,hi,hz0,hz1,hz2⟩:=info_parts Fe
 have hown0:=hown
 obtain⟨xs,hr,hxs⟩:=hown
 have hlo:=λk e=>(hr.lt k e).1
 have hml:=hl.len
 rcases A with _|ad
 ·obtain rfl:=hl.void rfl
  have hc:=hl.cap
  obtain rfl:m=0:=by omega
  obtain rfl:V=[]:=List.eq_nil_of_length_eq_zero hml;refine wpList_plain hgd λK' hK=>?_
  have hrun:=run_append_owned_none (P:=aj) (w:=w) base 24 o.type 47 i 1 ay hi v L.length xs hr
  unfold Oper.wp execOp;simp only[ho,resolve,invoke,builtin,Sem.run_bind,Sem.run_pure,Result.andThen_ok,List.map_toArray,List.map_cons,List.map_nil,hs,hx,hrun];exact hK _ _ (h v w (by rw[List.append_nil];exact hown0) (Zl.refl w v) hlo)
 ·have key:∀j,∃u:Value,j<m->(w.cell? (ad.add j)=some u/\u.oneCell'=true/\∃A' n' c',u=.slice A' n' c'∧Y2 w C A' n' c' (V.getD j [])):=λj=>by
   by_cases hj:j<m
   ·obtain⟨b,o,A',n',c',e,_,hcell,hh⟩:=hl.has j hj
    injection e with e
    subst e;exact⟨_,λ_=>⟨by rw[Yu];exact hcell,rfl,A',n',c',rfl,hh⟩⟩
   ·exact⟨undef,λh=>absurd h hj⟩
  obtain⟨g,hg⟩:=Classical.axiomOfChoice key
  have hget:∀j u,((da m).map g)[j]?=some u->j<m/\u=g j:=λj u hj=>by
   have hjm:j<m:=by have:=(aw.1 hj).1;simpa using this
   rw[bp,bo hjm]at hj;exact⟨hjm,(Option.some.inj hj).symm⟩
  refine wpList_append_own_at w hgd s x 24 ho base 47 i _ 1 24 ay hi hz0 hz1 hz2 rfl (by decide) v L.length xs hs hr ad m c ((da m).map g) hx (by simp) (λj u hj=>?_) (λu hu=>?_) (by unfold maxLen;omega) (by omega) hbase ?_
  ·obtain⟨hjm,rfl⟩:=hget j u hj
   exact(hg j hjm).1
  ·obtain⟨j,hj⟩:=List.getElem?_of_mem hu
   obtain⟨hjm,rfl⟩:=hget j u hj;exact(hg j hjm).2.1
  ·intro v' w' h1 h2 _ h4
   have hk:∀b o,b<C->w'.cell? ⟨b,o,none⟩=w.cell? ⟨b,o,none⟩:=λb o hb=>World.cell?_of_block (h2.block b (by omega) (λe=>by have:=hlo _ e.symm;omega))
   refine h v' w' ⟨_,by rw[List.length_append,hml];exact h1,λj l hj=>?_⟩ ⟨h2,λk hk=>?_⟩ hlo
   ·have hxl:xs.length=L.length:=by rw[hr.1,Nat.mul_one]
    by_cases hlt:j<L.length
    ·rw[ao hlt]at hj
     obtain⟨A',n',c',e,hh⟩:=hxs j l hj;exact⟨A',n',c',by rw[ao (by omega)];exact e,hh.V0 hk⟩
    ·rw[au (by omega)]at hj
     have hjm:j-L.length<m:=by have:=(aw.1 hj).1;omega
     obtain⟨_,_,A',n',c',e,hh⟩:=hg _ hjm;rw[aa,hj]at hh;refine⟨A',n',c',?_,hh.V0 hk⟩;rw[au (by omega),hxl,bp,bo hjm,<-e]
     rfl
   ·rcases h4 with h4|h4
    ·exact .inl (h4▸hk)
    ·rw[h4]at hk
     injection hk with hk
     exact .inr (cz hk)
theorem Yaw.lit{C:Nat}(h:Y2 w C A n c l)(g:Nat)(hg:g=w.heap.size){base:Nat}(hb:base<=g)(hC:C<=w.heap.size):Yaw (w.alloc (.cells #[.slice A n c] 47)) base C 47 (.slice (some ⟨g,0,none⟩) 1 1) [l]:=by
 subst hg;refine⟨[.slice A n c],⟨rfl,.inr ⟨w.heap.size,1,#[.slice A n c],rfl,hb,heap_alloc_new w _,af _,by decide,rfl,rfl⟩⟩,λi q' hi=>?_⟩
 match i,hi with
 |0,hi=>simp at hi;subst hi;exact⟨A,n,c,rfl,h.alloc hC _⟩
 |(i+1),hi=>simp at hi
def Yw5(w:World)(Q:List (List Int))(e:Ending)(w':World):Prop:=(∃A c,e=.returned (.slice A Q.length c)/\Tg w' w'.heap.size A Q.length c Q)/\Below w.heap.size w w'
theorem P8(h:Pg w w.heap.size A1 n1 c1 A2 n2 c2 A3 n3 c3 D M V)(hn1:n1<=1000)(hn3:n3<=1000):
  Calls aj 18 #[Sy A1 n1 c1 A2 n2 c2 A3 n3 c3] w (Yw5 w (Yg D V)):=by
 have hb0:=Yb w (.cells #[.slice A1 n1 c1,.slice A2 n2 c2,.slice A3 n3 c3] 26)
 have h1:=h.Yc hb0
 have hS:=Block.new w 26 #[.slice A1 n1 c1,.slice A2 n2 c2,.slice A3 n3 c3]
 clear h;go_enter Tryz.func18,Tryz.ntmps18;go_wp2_with fail;generalize w.alloc (.cells #[.slice A1 n1 c1,.slice A2 n2 c2,.slice A3 n3 c3] 26)=w1 at hb0 h1 hS⊢;refine(N0 h1.d hn1).mono ?_;rintro e w2 ⟨⟨v,rfl,hO⟩,hb2⟩;obtain⟨Ab,nb,cb,rfl,hI,_⟩:=hO.Yr
 have hO3:=Yaw.lit hI w2.heap.size rfl (af _) (af _)
 have hb3:=Ya hb2 (Yb w2 (.cells #[.slice Ab nb cb] 47))
 have hS3:=hS.below hb3 hS.lt
 have s2:(w2.alloc (.cells #[.slice Ab nb cb] 47)).cell? ⟨w.heap.size,2,none⟩=some (.slice A3 n3 c3):=hS3.cell 2
 have hV3:=(h1.v.below hb3 (af _)).more hb2.size
 have hl:([Yn D]:List (List Int)).length+n3<=1000000:=by simp;omega
 have hlo:=λg e=>(hO3.ltB g e).1
 have hz:w2.heap.size<=(w2.alloc (.cells #[.slice Ab nb cb] 47)).heap.size:=by simp
 have Hl:=hid hl
 have hz2:w1.heap.size<=w2.heap.size:=hb2.size
 clear hO hI hb2 hl hS3;go_wp2_with (at_builtin;refine Yd8 rfl _ _ rfl w2.heap.size w2.heap.size _ [Yn D] rfl hO3 A3 n3 c3 V rfl hV3 Hl.out hz (af _) ?_)
 intro v' w5 hO5 hG5 _
 have hB5:=hid (Ya hb0 (hb3.trans ((hG5.Yw hz hlo).mono hz2)))
 obtain⟨A5,c5,rfl,hL⟩:=Yaw.read hO5 (bj hz hG5.1.size)
 have HL:=hid hL
 clear hO3 hO5 hG5 hL hlo hb3;go_wp2_with fail;go_ret;exact⟨⟨A5,c5,rfl,HL.out⟩,hB5.out⟩
end
end Go.Proofs.YtmepdkdeanbbaaaGreat
