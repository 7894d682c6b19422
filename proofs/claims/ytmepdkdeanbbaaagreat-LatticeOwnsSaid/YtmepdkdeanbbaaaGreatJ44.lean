/- BatchD, BatchE, BatchF, BatchR, BatchH -/
import Derived.Test.YtmepdkdeanbbaaaGreatJ30
import Derived.Test.YtmepdkdeanbbaaaGreatJ32
import Derived.Test.YtmepdkdeanbbaaaGreatJ38
namespace Go.Proofs.YtmepdkdeanbbaaaGreat
set_option maxRecDepth 100000
set_option maxHeartbeats 8000000
open Go.RowKit
open List renaming getD_eq_getElem?_getD→aa,take_of_length_le→af,mem_of_getElem?→ag,take_add_one→ao
open Proofs.Tryz renaming prog→ae,ntmps141→aj,ntmps75→ak,func141→an,func75→aq,ntmps97→ar,func97→au,ntmps99→aw,func99→ax
open Nat renaming zero_le→ai,le_refl→av
open Go.Lib (hid)
variable {D:List Yk}{p:List (List Txt)}{w:World}{S:Nat->Prop}{c c1 c2 d1 d2 d3 k m m1 m2 m3 n n1 n2:Nat}{L:List Fct}{q:List Int}{M l x:List Txt}{V:List (List Int)}{A A1 A2 B1 B2 B3:Option Addr}{ok:Fct->Prop}{y:Txt}
theorem Tg.one{l:List Int}(h:Row Yy 1 w S A n c l)(T:TypeId):Tg (w.alloc (.cells #[.slice A n c] T)) (w.alloc (.cells #[.slice A n c] T)).heap.size (some ⟨w.heap.size,0,none⟩) 1 1 [l]:=
 ⟨rfl,av _,by unfold maxLen;omega,(λh=>by cases h),λi hi=>by
  obtain rfl:i=0:=by omega
  exact⟨w.heap.size,0,A,n,c,rfl,by simp,by rw[Zq];rfl,(h.mv Yh (Mv.alloc w (.cells #[.slice A n c] T) S)).Uy⟩⟩
theorem Yf9{l:List Int}(m:Int)(h:Row Yy 1 w S A n c l){r:Bool}(hr:r=true↔0<=m/\m<=2/\isVal m l):
  Calls ae 160 #[.int .i64 m,.slice A n c] w λe w'=>e=.returned (.bool r)/\Below w.heap.size w w':=by
 have HF:=hid (Yeu m (Tg.one h 47) (by decide))
 have hb0:=Yb w (.cells #[.slice A n c] 47)
 obtain⟨⟨x,e⟩,hxe⟩: ∃x,Hid (Vf m [l]=x):=⟨_,hid rfl⟩;rw[hxe.out]at HF
 have hv:=Yki m l
 rw[hxe.out]at hv
 have he:(e==0)=r:=by
  rw[Bool.eq_iff_iff,hr,<-hv];simp
 have HE:=hid he
 clear h hr hv he;go_enter Tryz.func160,Tryz.ntmps160;go_wp2_with fail;generalize w.alloc (.cells #[.slice A n c] 47)=W at HF hb0⊢;refine HF.out.mono ?_;rintro e' w2 hT;obtain⟨A1,n1,c1,A2,n2,c2,A3,n3,c3,rfl,_,hb2⟩:=hT.toH.of (n:=x.1) (S:=x.2.1) (M:=x.2.2.1) (X:=x.2.2.2) rfl
 have hb3:=Ya hb0 hb2
 have hb4:=hid (Ya hb3 (Yb w2 (.cells #[.int .i64 x.1,.slice A1 n1 c1,.slice A2 n2 c2,.slice A3 n3 c3] 71)))
 clear HF hb0 hb2 hb3 hT;go_wp2_with fail;go_ret;exact⟨by rw[<-HE.out];rfl,hb4.out⟩
/-! ### amiss -/
def Lf(ok:Fct->Prop)[DecidablePred ok](L:List Fct)(k:Nat):Nat:=if ∃f∈L.take k,¬ok f then 12 else 0
theorem Yjf(ok:Fct->Prop)[DecidablePred ok](L:List Fct):Lf ok L 0=0:=by unfold Lf;rw[if_neg];rintro⟨f,hf,_⟩;simp at hf
theorem Yor[DecidablePred ok]{L:List Fct}{k:Nat}{f:Fct}(h:L[k]?=some f)(ho:ok f):Lf ok L (k+1)=Lf ok L k:=by
 unfold Lf;rw[ao,h]
 congr 1
 simp[ho]
theorem Yq2[DecidablePred ok]{L:List Fct}{k:Nat}{f:Fct}(h:L[k]?=some f)(ho:¬ok f):Lf ok L (k+1)=12:=by
 unfold Lf;rw[ao,h,if_pos];exact⟨f,by simp,ho⟩
theorem Ym6[DecidablePred ok]{L:List Fct}{k least:Nat}(hk:L.length<=k)(h:¬(L.length<least∨8<L.length)):Uw L least ok=Lf ok L k:=by
 unfold Uw Lf;rw[if_neg h,af hk]
theorem Ynb(h:S0 w S A n c L)(least:Nat)(fid:Nat)(lb:Array Value)(ok:Fct->Prop)[DecidablePred ok]
  (eg:∀args W,(callFunc fid args).run ae W=.ok (.enter fid args) W)
  (HF:∀p q,(p,q)∈L->∀W S' A1 n1 c1 A2 n2 c2,Below w.heap.size w W->Row (Z0 Y7 1) 1 W S' A1 n1 c1 p->Row Yy 1 W S' A2 n2 c2 q→
   Calls ae fid (#[.agg #[.slice A1 n1 c1,.slice A2 n2 c2]]++lb) W λe w'=>e=.returned (.bool (decide (ok (p,q))))/\Below W.heap.size W w'):
  Calls ae 97 #[.slice A n c,.int .i64 least,.func (.func fid) #[] lb] w λe w'=>e=.returned (.int .i64 (Uw L least ok:Nat))/\Below w.heap.size w w':=by
 have hlm:=h.Ym
 have hll:=hid h.len
 have HFF:=hid HF
 have HS:∀b,(S b/\b<w.heap.size)->b<w.heap.size:=λb hb=>hb.2
 have h1:S0 w (λb=>S b/\b<w.heap.size) A n c L:=h.mv Y3 (Mv.to w λb hb hl=>⟨hb,hl⟩)
 clear h HF
 by_cases h0:n<least
 ·have H:Hid (Uw L least ok=13):=hid (Oa (.inl (by have:=hll.out;omega)))
  have hd:decide (n<least)=true:=decide_eq_true h0
  go_enter au,ar;go_wp2_with fail;go_ret;exact⟨by rw[H.out];rfl,Below.refl _ _⟩
 ·by_cases h8:8<n
  ·have H:Hid (Uw L least ok=13):=hid (Oa (.inr (by have:=hll.out;omega)))
   have hd:decide (n<least)=false:=decide_eq_false h0
   go_enter au,ar;go_wp2_with fail;go_ret;exact⟨by rw[H.out];rfl,Below.refl _ _⟩
  ·have hd:decide (n<least)=false:=decide_eq_false h0
   have HN:Hid (¬(L.length<least∨8<L.length)):=hid (by have:=hll.out;omega)
   go_enter au,ar;go_wp2_with fail;go_loopw [6,20] (λx i wr=>∃k:Nat,k<=n/\i=.int .i64 k/\x=.int .i64 (Lf ok L k:Nat)/\Below w.heap.size w wr) (λ_ i _=>n-(intOf i).toNat)
   case atStart=>exact⟨0,ai _,rfl,by rw[Yjf];rfl,Below.refl _ _⟩
   case round=>
    obtain⟨k,hk,rfl,rfl,hB⟩:=hrel
    by_cases hlt:k<n
    ·obtain⟨b,o,A1,n1,c1,A2,n2,c2,p,q,rfl,_,_,g0,g1,hp,hq,he⟩:=(h1.mv Y3 (Mv.below hB HS)).at2 hlt
     have i0:(0:Int)<=(k:Int):=by omega
     have i1:(k:Int)<(n:Int):=by omega
     have hbx:=Yb wr (.cells #[.slice A1 n1 c1,.slice A2 n2 c2] 83)
     have hbl:=Block.new wr 83 #[.slice A1 n1 c1,.slice A2 n2 c2]
     have hB1:=hB.trans (hbx.mono hB.size)
     have hp1:=hp.mv Ww (Mv.alloc wr (.cells #[.slice A1 n1 c1,.slice A2 n2 c2] 83) _)
     have hq1:=hq.mv Yh (Mv.alloc wr (.cells #[.slice A1 n1 c1,.slice A2 n2 c2] 83) _)
     have HC:=hid (HFF.out p q (ag he.out) _ _ A1 n1 c1 A2 n2 c2 hB1 hp1 hq1)
     clear hp hq hp1 hq1 hB hbx;go_wp2_with fail;generalize wr.alloc (.cells #[.slice A1 n1 c1,.slice A2 n2 c2] 83)=W at hB1 hbl HC⊢
     have k0:W.cell? ⟨wr.heap.size,0,none⟩=some (.slice A1 n1 c1):=hbl.cell 0
     have k1:W.cell? ⟨wr.heap.size,1,none⟩=some (.slice A2 n2 c2):=hbl.cell 1
     clear g0 g1 hbl
     by_cases ho:ok (p,q)
     ·rw[decide_eq_true ho]at HC
      have HM:=hid (Yor he.out ho)
      clear ho;go_wp2_with fail;refine HC.out.mono ?_;rintro e w2 ⟨rfl,hb2⟩
      have hB2:=hB1.trans (hb2.mono hB1.size)
      clear hB1 hb2 HC k0 k1;go_wp2_with fail;go_roundw
      case rel=>exact⟨k+1,by omega,by go_num,by rw[HM.out],hB2⟩
      case measure=>simp[intOf];omega
     ·rw[decide_eq_false ho]at HC
      have HM:=hid (Yq2 he.out ho)
      clear ho;go_wp2_with fail;refine HC.out.mono ?_;rintro e w2 ⟨rfl,hb2⟩
      have hB2:=hB1.trans (hb2.mono hB1.size)
      clear hB1 hb2 HC k0 k1;go_wp2_with fail;go_roundw
      case rel=>exact⟨k+1,by omega,by go_num,by rw[HM.out];rfl,hB2⟩
      case measure=>simp[intOf];omega
    ·have HM:=hid (Ym6 (k:=k) (ok:=ok) (by have:=hll.out;omega) HN.out)
     go_wp2_with fail;go_ret;exact⟨by rw[HM.out];rfl,hB⟩
theorem Cj:U2 (p,q)↔(p.length<=3/\∀x∈p,Un x)/\(0<=(q.length:Int)/\(q.length:Int)<=2/\isVal (q.length:Int) q):=by
 unfold U2 isVal;constructor
 ·rintro⟨h1,h2,h3,h4⟩
  exact⟨⟨h1,h2⟩,by omega,by have h3:q.length<=2:=h3;omega,rfl,h4⟩
 ·rintro⟨⟨h1,h2⟩,h3,h4,h5,h6⟩
  exact⟨h1,h2,by show q.length<=2;omega,h6⟩
theorem Lp{α:Type}{L:List α}{x:α}{P:α->Prop}(hx:L[k]?=some x)(h:P x)(ht:∀y∈L.take k,P y):∀y∈L.take (k+1),P y:=by
 intro y hy;rw[ao,hx]at hy
 rcases List.mem_append.1 hy with hy|hy
 ·exact ht y hy
 ·simp at hy;subst hy;exact h
def Ba(D:List Yk)(p:List (List Txt))(k:Nat):Prop:=∀i,i<k->(p.getD i []).length=(D.getD i Wp).2.length/\Un (p.getD i [])
theorem Yre(hD:D.length<=3):Ue D m (p,q)↔p.length=D.length/\Ba D p D.length/\0<=(m:Int)/\(m:Int)<=2/\isVal (m:Int) q:=by
 unfold Ue;rw[Cj];unfold Ba isVal;constructor
 ·rintro⟨⟨⟨h1,h2⟩,h3,h4,h5,h6⟩,h7,h8,h9⟩
  have h8:q.length=m:=h8
  have h7:p.length=D.length:=h7
  refine⟨h7,λi hi=>⟨h9 i hi,h2 _ ?_⟩,by omega,by omega,by omega,h6⟩
  rw[aa,List.getElem?_eq_getElem (by omega)]
  exact List.getElem_mem _
 ·rintro⟨h1,h2,h3,h4,h5,h6⟩
  refine⟨⟨⟨by omega,λx hx=>?_⟩,by omega,by omega,rfl,h6⟩,h1,by show q.length=m;omega,λi hi=>(h2 i hi).1⟩
  obtain⟨i,hi⟩:=List.getElem?_of_mem hx
  have hil:=(List.getElem?_eq_some_iff.1 hi).1
  have:=(h2 i (by omega)).2
  rwa [aa,hi]at this
theorem Ykh(hx:p[k]?=some x)(hd:D.getD k Wp=(y,l))(h:Ba D p k)(h1:x.length=l.length)(h2:Un x):Ba D p (k+1):=by
 intro i hi
 by_cases h:i<k
 ·exact ‹Ba D p k› i h
 ·obtain rfl:i=k:=by omega
  rw[aa,hx,hd];exact⟨h1,h2⟩
theorem Yb0(hk:k<n)(hx:p[k]?=some x)(hd:D.getD k Wp=(y,l))(h:¬(x.length=l.length/\Un x)):¬Ba D p n:=by
 intro hs
 have:=hs k hk
 rw[aa,hx,hd]at this;exact h this
theorem Yi2
  (hs:Pg w w.heap.size B1 m1 d1 B2 m2 d2 B3 m3 d3 D M V) (hD:m1<=3) (hp:Row (Z0 Y7 1) 1 w S A1 n1 c1 p) (hq:Row Yy 1 w S A2 n2 c2 q):
  Calls ae 99 #[Sy B1 m1 d1 B2 m2 d2 B3 m3 d3,.agg #[.slice A1 n1 c1,.slice A2 n2 c2]] w λe w'=>e=.returned (.bool (decide (Ue D M.length (p,q))))/\Below w.heap.size w w':=by
 have hl1:=hp.Ym
 have hl2:=hq.Ym
 have HL1:=hid hp.len
 have HLD:=hid hs.d.len
 have HLM:=hid hs.m.len
 have hlm:=hs.m.Ym
 have hb00:=Yb w (.cells #[.slice B1 m1 d1,.slice B2 m2 d2,.slice B3 m3 d3] 26)
 have hb0:=Ya hb00 (Yb (w.alloc (.cells #[.slice B1 m1 d1,.slice B2 m2 d2,.slice B3 m3 d3] 26)) (.cells #[.slice A1 n1 c1,.slice A2 n2 c2] 83))
 have hbs:=(Block.new w 26 #[.slice B1 m1 d1,.slice B2 m2 d2,.slice B3 m3 d3]).alloc (.cells #[.slice A1 n1 c1,.slice A2 n2 c2] 83)
 have hbl:=Block.new (w.alloc (.cells #[.slice B1 m1 d1,.slice B2 m2 d2,.slice B3 m3 d3] 26)) 83 #[.slice A1 n1 c1,.slice A2 n2 c2]
 rw[show(w.alloc (.cells #[.slice B1 m1 d1,.slice B2 m2 d2,.slice B3 m3 d3] 26)).heap.size=w.heap.size+1 by simp]at hbl
 have hp0:=hp.mv Ww (Mv.Yc hb0 S)
 have hq0:=hq.mv Yh (Mv.Yc hb0 S)
 have hd0:=hs.d.Yc hb0
 clear hp hq hs hb00
 have HI:=hid (Yre (m:=M.length) (p:=p) (q:=q) (show D.length<=3 by have:=HLD.out;omega))
 by_cases hne:n1=m1
 ·subst hne
  have he0:((n1:Int) != (n1:Int))=false:=by simp
  go_enter ax,aw;go_wp2_with fail;generalize (w.alloc (.cells #[.slice B1 n1 d1,.slice B2 m2 d2,.slice B3 m3 d3] 26)).alloc (.cells #[.slice A1 n1 c1,.slice A2 n2 c2] 83)=W at hb0 hbl hbs hp0 hq0 hd0⊢;clear he0
  have hp1:Row (Z0 Y7 1) 1 W (λb=>S b/\b<W.heap.size) A1 n1 c1 p:=hp0.mv Ww (Mv.to W λb hb hl=>⟨hb,hl⟩)
  have hq1:Row Yy 1 W (λb=>S b/\b<W.heap.size) A2 n2 c2 q:=hq0.mv Yh (Mv.to W λb hb hl=>⟨hb,hl⟩)
  have HS:∀b,(S b/\b<W.heap.size)->b<W.heap.size:=λb hb=>hb.2
  have HBL:=hid hbl
  have HBS:=hid hbs
  clear hp0 hq0 hbl hbs;go_loopw [17] (λi wr=>∃k:Nat,k<=n1/\i=.int .i64 k/\Ba D p k/\Below W.heap.size W wr) (λi _=>n1-(intOf i).toNat)
  case atStart=>exact⟨0,ai _,rfl,(λi hi=>absurd hi (by omega)),Below.refl _ _⟩
  case round=>
   obtain⟨k,hk,rfl,hall,hB⟩:=hrel
   have HA:=hid hall
   clear hall
   by_cases hlt:k<n1
   ·obtain⟨b,o,A',n',c',x,rfl,_,_,g0,hx,he⟩:=(hp1.mv Ww (Mv.below hB HS)).at1 hlt
    obtain⟨b2,o2,y,A4,n4,c4,l,rfl,_,g1,g2,hl,hde⟩:=(hd0.below hB (av _)).at_ hlt
    have i0:(0:Int)<=(k:Int):=by omega
    have i1:(k:Int)<(n1:Int):=by omega
    have s1:wr.cell? ⟨w.heap.size,0,none⟩=some (.slice (some ⟨b2,o2,none⟩) n1 d1):=(HBS.out.below hB HBS.out.lt).cell 0
    have hT:=hx.Eu
    have hlx:=hx.len
    have hll:=hl.len
    have hn4:=hl.Ym
    have hn':=hx.Ym
    clear hx hl
    by_cases hle:n'=n4
    ·subst hle
     by_cases hm:Un x
     ·have HM:=hid hm
      have HN:=hid (Ykh he.out hde.out HA.out (by omega) hm)
      clear hm hlx hll;go_wp2_with fail;refine(Yur hT HM.out).mono ?_;rintro e w2 ⟨rfl,hb2⟩
      have hB2:=hB.trans (hb2.mono hB.size)
      clear hB hb2 hT g0 g1 g2 s1;go_wp2_with fail;go_roundw
      case rel=>exact⟨k+1,by omega,by go_num,HN.out,hB2⟩
      case measure=>simp[intOf];omega
     ·have HM:=hid hm
      have H:Hid (decide (Ue D M.length (p,q))=false):=hid (by
       rw[decide_eq_false_iff_not,HI.out];intro h;exact Yb0 (by have:=HLD.out;omega) he.out hde.out (λh=>hm h.2) h.2.1)
      clear hm hlx hll;go_wp2_with fail;refine(Yv0 hT HM.out).mono ?_;rintro e w2 ⟨rfl,hb2⟩
      have hB2:=hb0.trans ((hB.trans (hb2.mono hB.size)).mono hb0.size)
      clear hB hb2 hT g0 g1 g2 s1;go_wp2_with fail;go_ret;exact⟨by rw[H.out];rfl,hB2⟩
    ·have H:Hid (decide (Ue D M.length (p,q))=false):=hid (by
      rw[decide_eq_false_iff_not,HI.out];intro h;exact Yb0 (by have:=HLD.out;omega) he.out hde.out (λh=>hle (by have:=h.1;omega)) h.2.1)
     have hle1:((n':Int) != (n4:Int))=true:=by simp;omega
     have hB2:=hb0.trans (hB.mono hb0.size)
     clear hlx hll hle;go_wp2_with fail;go_ret;exact⟨by rw[H.out];rfl,hB2⟩
   ·have k1:wr.cell? ⟨w.heap.size+1,1,none⟩=some (.slice A2 n2 c2):=(HBL.out.below hB HBL.out.lt).cell 1
    have s1:wr.cell? ⟨w.heap.size,1,none⟩=some (.slice B2 m2 d2):=(HBS.out.below hB HBS.out.lt).cell 1
    have HC:=hid (Yf9 (m:=(m2:Int)) (r:=decide (Ue D M.length (p,q))) (hq1.mv Yh (Mv.below hB HS)) (by
     rw[decide_eq_true_iff,HI.out]
     have h1:=HL1.out
     have h2:=HLM.out
     have h3:=HLD.out
     have h4:=HA.out
     rw[show k=D.length by omega]at h4
     rw[h2];exact⟨λh=>h.2.2,λh=>⟨by omega,h4,h⟩⟩))
    go_wp2_with fail;refine HC.out.mono ?_;rintro e w2 ⟨rfl,hb2⟩
    have hB2:=hb0.trans ((hB.trans (hb2.mono hB.size)).mono hb0.size)
    clear hB hb2 k1 s1 HC;go_wp2_with fail;go_ret;exact⟨rfl,hB2⟩
 ·have H:Hid (decide (Ue D M.length (p,q))=false):=hid (by
   rw[decide_eq_false_iff_not,HI.out];intro h
   have h1:=HL1.out
   have h3:=HLD.out
   exact hne (by have:=h.1;omega))
  have hne1:((n1:Int) != (m1:Int))=true:=by simp;omega
  have hlm1:=hd0.Ym
  clear hne;go_enter ax,aw;go_wp2_with fail;go_ret;exact⟨by rw[H.out];rfl,hb0⟩
theorem Yrf{g:Nat}
  (hs:Pg w w.heap.size B1 m1 d1 B2 m2 d2 B3 m3 d3 D M V) (hbs:Block w g 26 #[.slice B1 m1 d1,.slice B2 m2 d2,.slice B3 m3 d3]) (hD:m1<=3) (hp:Row (Z0 Y7 1) 1 w S A1 n1 c1 p) (hq:Row Yy 1 w S A2 n2 c2 q):
  Calls ae 98 #[.agg #[.slice A1 n1 c1,.slice A2 n2 c2],.pointer (some ⟨g,0,none⟩)] w λe w'=>e=.returned (.bool (decide (Ue D M.length (p,q))))/\Below w.heap.size w w':=by
 have hb0:=Yb w (.cells #[.slice A1 n1 c1,.slice A2 n2 c2] 83)
 have hbl:=Block.new w 83 #[.slice A1 n1 c1,.slice A2 n2 c2]
 have hbs1:=hbs.below hb0 hbs.lt
 have HC:=hid (Yi2 (hs.Yc hb0) hD (hp.mv Ww (Mv.Yc hb0 S)) (hq.mv Yh (Mv.Yc hb0 S)))
 clear hs hp hq hbs;obtain⟨W,hW⟩: ∃W,Hid (w.alloc (.cells #[.slice A1 n1 c1,.slice A2 n2 c2] 83)=W):=⟨_,hid rfl⟩;rw[hW.out]at hb0 hbl hbs1 HC
 have k0:W.cell? ⟨w.heap.size,0,none⟩=some (.slice A1 n1 c1):=hbl.cell 0
 have k1:W.cell? ⟨w.heap.size,1,none⟩=some (.slice A2 n2 c2):=hbl.cell 1
 have s0:W.cell? ⟨g,0,none⟩=some (.slice B1 m1 d1):=hbs1.cell 0
 have s1:W.cell? ⟨g,1,none⟩=some (.slice B2 m2 d2):=hbs1.cell 1
 have s2:W.cell? ⟨g,2,none⟩=some (.slice B3 m3 d3):=hbs1.cell 2
 rw[<-hW.out]at k0 k1 s0 s1 s2;go_enter Tryz.func98,Tryz.ntmps98;go_wp2_with fail;rw[hW.out];refine HC.out.mono ?_;rintro e w2 ⟨rfl,hb2⟩
 have hB:=Ya hb0 hb2
 clear HC hb2 k0 k1 s0 s1 s2;go_wp2_with fail;go_ret;exact⟨rfl,hB⟩
theorem Ygx(h:¬Wk D M V):Wf D M V L=11:=by unfold Wf;rw[if_neg h]
theorem Ya5(h:Wk D M V):Wf D M V L=Uw L 1 (Ue D M.length):=by unfold Wf;rw[if_pos h]
theorem Ydp
  (hs:Pg w w.heap.size B1 m1 d1 B2 m2 d2 B3 m3 d3 D M V) (hf:L5 D) (hm:∀s∈M,s.length<=maxLen) (hn1:m1<=1000) (h:S0 w S A n c L):
  Calls ae 46 #[Sy B1 m1 d1 B2 m2 d2 B3 m3 d3,.slice A n c] w λe w'=>e=.returned (.int .i64 (Wf D M V L:Nat))/\Below w.heap.size w w':=by
 have hb0:=Yb w (.cells #[.slice B1 m1 d1,.slice B2 m2 d2,.slice B3 m3 d3] 26)
 have hbl:=Block.new w 26 #[.slice B1 m1 d1,.slice B2 m2 d2,.slice B3 m3 d3]
 have hs1:=hs.Yc hb0
 have h1:=h.mv Y3 (Mv.Yc hb0 S)
 have HC:=hid (Qo hs1 hf hm hn1)
 have HD:=hid hs.d.len
 clear hs h hf hm;go_enter Tryz.func46,Tryz.ntmps46;go_wp2_with fail;generalize w.alloc (.cells #[.slice B1 m1 d1,.slice B2 m2 d2,.slice B3 m3 d3] 26)=W at hb0 hbl hs1 h1 HC⊢
 have s0:W.cell? ⟨w.heap.size,0,none⟩=some (.slice B1 m1 d1):=hbl.cell 0
 have s1:W.cell? ⟨w.heap.size,1,none⟩=some (.slice B2 m2 d2):=hbl.cell 1
 have s2:W.cell? ⟨w.heap.size,2,none⟩=some (.slice B3 m3 d3):=hbl.cell 2
 by_cases hm:Wk D M V
 ·rw[decide_eq_true hm]at HC
  have HX:=hid (Ya5 (L:=L) hm)
  have hD3:m1<=3:=by have:=Ys5 hm.1;have:=HD.out;omega
  clear hm;go_wp2_with fail;refine HC.out.mono ?_;rintro e w2 ⟨rfl,hb2⟩
  have hs2:=hs1.Yc hb2
  have hbl2:=hbl.below hb2 hbl.lt
  have h2:=h1.mv Y3 (Mv.Yc hb2 S)
  have hB:=Ya hb0 hb2
  have HA:=hid (Ynb h2 1 98 #[.pointer (some ⟨w.heap.size,0,none⟩)] (Ue D M.length) (λ_ _=>rfl) (λp q hpq W' S' A1 n1 c1 A2 n2 c2 hW hp hq=>Yrf (hs2.Yc hW) (hbl2.below hW hbl2.lt) hD3 hp hq))
  clear HC hb2 hs1 hbl h1 s0 s1 s2 hs2 hbl2 h2 hb0;go_wp2_with fail;refine HA.out.mono ?_;rintro e w3 ⟨rfl,hb3⟩
  have hB3:=Ya hB hb3
  clear HA hb3 hB;go_wp2_with fail;go_ret;exact⟨by rw[HX.out];rfl,hB3⟩
 ·rw[decide_eq_false hm]at HC
  have HX:=hid (Ygx (L:=L) hm)
  clear hm;go_wp2_with fail;refine HC.out.mono ?_;rintro e w2 ⟨rfl,hb2⟩
  have hB:=Ya hb0 hb2
  clear HC hb2 hs1 hbl h1 s0 s1 s2 hb0;go_wp2_with fail;go_ret;exact⟨by rw[HX.out];rfl,hB⟩
theorem Ydw(hp:Row (Z0 Y7 1) 1 w S A1 n1 c1 p)(hq:Row Yy 1 w S A2 n2 c2 q):
  Calls ae 141 #[.agg #[.slice A1 n1 c1,.slice A2 n2 c2]] w λe w'=>e=.returned (.bool (decide (U2 (p,q))))/\Below w.heap.size w w':=by
 have hl1:=hp.Ym
 have hl2:=hq.Ym
 have HL1:=hid hp.len
 have HL2:=hid hq.len
 have hb0:=Yb w (.cells #[.slice A1 n1 c1,.slice A2 n2 c2] 83)
 have hbl:=Block.new w 83 #[.slice A1 n1 c1,.slice A2 n2 c2]
 have hp0:=hp.mv Ww (Mv.Yc hb0 S)
 have hq0:=(hq.mv Yh (Mv.Yc hb0 S)).Uy
 have HI:Hid (U2 (p,q)↔(p.length<=3/\∀x∈p,Un x)/\(n2:Int)<=2/\isVal (n2:Int) q):=hid (by
  rw[Cj,HL2.out];constructor
  ·rintro⟨h1,h2,h3⟩;exact⟨h1,h3⟩
  ·rintro⟨h1,h2⟩;exact⟨h1,by omega,h2⟩)
 clear hp hq
 by_cases hv:isVal (n2:Int) q
 ·have HV:=hid (Qp (n2:Int) (r:=true) hq0 (by simp[hv]))
  have HVV:=hid hv
  clear hv
  by_cases h2:(2:Int)<(n2:Int)
  ·have H:Hid (decide (U2 (p,q))=false):=hid (by
    rw[decide_eq_false_iff_not,HI.out];intro h
    have:=h.2.1;omega)
   go_enter an,aj;go_wp2_with fail;generalize w.alloc (.cells #[.slice A1 n1 c1,.slice A2 n2 c2] 83)=W at hb0 hbl hp0 hq0 HV⊢
   have k1:W.cell? ⟨w.heap.size,1,none⟩=some (.slice A2 n2 c2):=hbl.cell 1
   go_wp2_with fail;refine HV.out.mono ?_;rintro e w2 ⟨rfl,rfl⟩;go_wp2_with fail;go_ret;exact⟨by rw[H.out];rfl,hb0⟩
  ·by_cases h3:(3:Int)<(n1:Int)
   ·have H:Hid (decide (U2 (p,q))=false):=hid (by
     rw[decide_eq_false_iff_not,HI.out];intro h
     have:=h.1.1;have:=HL1.out;omega)
    go_enter an,aj;go_wp2_with fail;generalize w.alloc (.cells #[.slice A1 n1 c1,.slice A2 n2 c2] 83)=W at hb0 hbl hp0 hq0 HV⊢
    have k0:W.cell? ⟨w.heap.size,0,none⟩=some (.slice A1 n1 c1):=hbl.cell 0
    have k1:W.cell? ⟨w.heap.size,1,none⟩=some (.slice A2 n2 c2):=hbl.cell 1
    go_wp2_with fail;refine HV.out.mono ?_;rintro e w2 ⟨rfl,rfl⟩;go_wp2_with fail;go_ret;exact⟨by rw[H.out];rfl,hb0⟩
   ·go_enter an,aj
    go_wp2_with fail;generalize w.alloc (.cells #[.slice A1 n1 c1,.slice A2 n2 c2] 83)=W at hb0 hbl hp0 hq0 HV⊢
    have k0:W.cell? ⟨w.heap.size,0,none⟩=some (.slice A1 n1 c1):=hbl.cell 0
    have k1:W.cell? ⟨w.heap.size,1,none⟩=some (.slice A2 n2 c2):=hbl.cell 1
    go_wp2_with fail;refine HV.out.mono ?_;rintro e w2 ⟨rfl,rfl⟩;go_wp2_with fail;clear k1;go_loop [4] (λi=>∃k:Nat,k<=n1/\i=.int .i64 k/\Hid (∀x∈p.take k,Un x)) (λi=>n1-(intOf i).toNat)
    case atStart=>exact⟨0,ai _,rfl,hid (λx hx=>by simp at hx)⟩
    case round=>
     obtain⟨k,hk,rfl,HA⟩:=hrel
     by_cases hlt:k<n1
     ·obtain⟨b,o,A',n',c',x,rfl,_,_,g0,hx,he⟩:=hp0.at1 hlt
      have i0:(0:Int)<=(k:Int):=by omega
      have i1:(k:Int)<(n1:Int):=by omega
      have hT:=hx.Eu
      clear hx
      by_cases hm:Un x
      ·have HM:=hid hm
       have HN:=hid (Lp he.out hm HA.out)
       clear hm;go_wp2_with fail;refine(Yij hT HM.out).mono ?_;rintro e w2 ⟨rfl,rfl⟩;go_wp2_with fail;go_round
       case rel=>exact⟨k+1,by omega,by go_num,HN⟩
       case measure=>simp[intOf];omega
      ·have HM:=hid hm
       have H:Hid (decide (U2 (p,q))=false):=hid (by
        rw[decide_eq_false_iff_not,HI.out];intro h;exact hm (h.1.2 x (ag he.out)))
       clear hm;go_wp2_with fail;refine(Yn6 hT HM.out).mono ?_;rintro e w2 ⟨rfl,rfl⟩;go_wp2_with fail;go_ret;exact⟨by rw[H.out];rfl,hb0⟩
     ·have H:Hid (decide (U2 (p,q))=true):=hid (by
       have h3:=HA.out
       rw[af (by have:=HL1.out;omega)]at h3
       rw[decide_eq_true_iff,HI.out];exact⟨⟨by have:=HL1.out;omega,h3⟩,by omega,HVV.out⟩)
      go_wp2_with fail;go_ret;exact⟨by rw[H.out];rfl,hb0⟩
 ·have HV:=hid (Qp (n2:Int) (r:=false) hq0 (by simp[hv]))
  have H:Hid (decide (U2 (p,q))=false):=hid (by
   rw[decide_eq_false_iff_not,HI.out];intro h;exact hv h.2.2)
  go_enter an,aj;go_wp2_with fail;generalize w.alloc (.cells #[.slice A1 n1 c1,.slice A2 n2 c2] 83)=W at hb0 hbl hp0 hq0 HV⊢
  have k1:W.cell? ⟨w.heap.size,1,none⟩=some (.slice A2 n2 c2):=hbl.cell 1
  go_wp2_with fail;refine HV.out.mono ?_;rintro e w2 ⟨rfl,rfl⟩;go_wp2_with fail;go_ret;exact⟨by rw[H.out];rfl,hb0⟩
def Ynv(D:List Yk)(p:List (List Txt))(k:Nat):Prop:=∀i,i<k->(p.getD i []).length=(D.getD i Wp).2.length
theorem Yn1(hx:p[k]?=some x)(hd:D.getD k Wp=(y,l))(h:Ynv D p k)(h1:x.length=l.length):Ynv D p (k+1):=by
 intro i hi
 by_cases h:i<k
 ·exact ‹Ynv D p k› i h
 ·obtain rfl:i=k:=by omega
  rw[aa,hx,hd];exact h1
theorem Yr2(hk:k<n)(hx:p[k]?=some x)(hd:D.getD k Wp=(y,l))(h:¬x.length=l.length):¬Ynv D p n:=by
 intro hs
 have:=hs k hk
 rw[aa,hx,hd]at this;exact h this
theorem K1:Ue D m (p,q)↔U2 (p,q)/\p.length=D.length/\q.length=m/\Ynv D p D.length:=Iff.rfl
theorem Mu[DecidablePred ok](h:¬(L.length<m∨8<L.length)){k:Nat}{f:Fct}(hf:L[k]?=some f)(ho:¬ok f):Uw L m ok=12:=Ynu h ⟨f,ag hf,ho⟩
theorem Yhz
  (hs:Pg w w.heap.size B1 m1 d1 B2 m2 d2 B3 m3 d3 D M V) (hn1:m1<=1000) (hn3:m3<=1000) (h:S0 w S A n c L):
  Calls ae 75 #[Sy B1 m1 d1 B2 m2 d2 B3 m3 d3,.slice A n c] w λe w'=>e=.returned (.int .i64 (Wf D M V L:Nat))/\Below w.heap.size w w':=by
 have hlm:=h.Ym
 have hb0:=Yb w (.cells #[.slice B1 m1 d1,.slice B2 m2 d2,.slice B3 m3 d3] 26)
 have hbl:=Block.new w 26 #[.slice B1 m1 d1,.slice B2 m2 d2,.slice B3 m3 d3]
 have hs1:=hs.Yc hb0
 have h1:=h.mv Y3 (Mv.Yc hb0 S)
 have HC:=hid (Nw hs1 hn1 hn3)
 have HD:=hid hs.d.len
 have HM:=hid hs.m.len
 have HL:=hid h.len
 have hlm1:=hs.d.Ym
 have hlm2:=hs.m.Ym
 clear hs h
 by_cases hm:Wk D M V
 ·rw[decide_eq_true hm]at HC
  have HX:=hid (Ya5 (L:=L) hm)
  clear hm
  by_cases h0:n<1
  ·have H:Hid (Uw L 1 (Ue D M.length)=13):=hid (Oa (.inl (by have:=HL.out;omega)))
   have hd:decide ((n:Int)<1)=true:=decide_eq_true (by omega)
   go_enter aq,ak;go_wp2_with fail;generalize w.alloc (.cells #[.slice B1 m1 d1,.slice B2 m2 d2,.slice B3 m3 d3] 26)=W at hb0 hbl hs1 h1 HC⊢;refine HC.out.mono ?_;rintro e w2 ⟨rfl,hb2⟩
   have hB:=Ya hb0 hb2
   go_wp2_with fail;go_ret;exact⟨by rw[HX.out,H.out];rfl,hB⟩
  ·have hd:decide ((n:Int)<1)=false:=decide_eq_false (by omega)
   by_cases h8:(8:Int)<(n:Int)
   ·have H:Hid (Uw L 1 (Ue D M.length)=13):=hid (Oa (.inr (by have:=HL.out;omega)))
    go_enter aq,ak;go_wp2_with fail;generalize w.alloc (.cells #[.slice B1 m1 d1,.slice B2 m2 d2,.slice B3 m3 d3] 26)=W at hb0 hbl hs1 h1 HC⊢;refine HC.out.mono ?_;rintro e w2 ⟨rfl,hb2⟩
    have hB:=Ya hb0 hb2
    go_wp2_with fail;go_ret;exact⟨by rw[HX.out,H.out];rfl,hB⟩
   ·have HN:Hid (¬(L.length<1∨8<L.length)):=hid (by have:=HL.out;omega)
    go_enter aq,ak;go_wp2_with fail;generalize w.alloc (.cells #[.slice B1 m1 d1,.slice B2 m2 d2,.slice B3 m3 d3] 26)=W at hb0 hbl hs1 h1 HC⊢;refine HC.out.mono ?_;rintro e w2 ⟨rfl,hb2⟩
    have HBL:=hid (hbl.below hb2 hbl.lt)
    have hd2:=(hs1.Yc hb2).d
    have h2:S0 w2 (λb=>S b/\b<w2.heap.size) A n c L:=h1.mv Y3 (λb hb hl=>⟨hb2.block b hl,hb,Nat.lt_of_lt_of_le hl hb2.size⟩)
    have HS:∀b,(S b/\b<w2.heap.size)->b<w2.heap.size:=λb hb=>hb.2
    have hbw:=Ya hb0 hb2
    clear hs1 h1 hbl hb0 hb2 HC;go_wp2_with fail;clear hd;go_loopw [6] (λi wr=>∃k:Nat,k<=n/\i=.int .i64 k/\Below w2.heap.size w2 wr/\Hid (∀f∈L.take k,Ue D M.length f)) (λi _=>n-(intOf i).toNat)
    case atStart=>exact⟨0,ai _,rfl,Below.refl _ _,hid (λf hf=>by simp at hf)⟩
    case round=>
     obtain⟨k,hk,rfl,hB,HA⟩:=hrel
     by_cases hlt:k<n
     ·obtain⟨b,o,A1,n1,c1,A2,n2,c2,p,q,rfl,_,_,g0,g1,hp,hq,he⟩:=(h2.mv Y3 (Mv.below hB HS)).at2 hlt
      have i0:(0:Int)<=(k:Int):=by omega
      have i1:(k:Int)<(n:Int):=by omega
      have hbx:=Yb wr (.cells #[.slice A1 n1 c1,.slice A2 n2 c2] 83)
      have hbf:=Block.new wr 83 #[.slice A1 n1 c1,.slice A2 n2 c2]
      have hB1:=hB.trans (hbx.mono hB.size)
      have hp1:=hp.mv Ww (Mv.alloc wr (.cells #[.slice A1 n1 c1,.slice A2 n2 c2] 83) _)
      have hq1:=hq.mv Yh (Mv.alloc wr (.cells #[.slice A1 n1 c1,.slice A2 n2 c2] 83) _)
      have HC:=hid (Ydw hp1 hq1)
      have HL1:=hid hp.len
      have HL2:=hid hq.len
      have hlm3:=hp.Ym
      have hlm4:=hq.Ym
      clear hp hq hq1 hB hbx;go_wp2_with fail;generalize wr.alloc (.cells #[.slice A1 n1 c1,.slice A2 n2 c2] 83)=W1 at hB1 hbf hp1 HC⊢
      have k0:W1.cell? ⟨wr.heap.size,0,none⟩=some (.slice A1 n1 c1):=hbf.cell 0
      have k1:W1.cell? ⟨wr.heap.size,1,none⟩=some (.slice A2 n2 c2):=hbf.cell 1
      clear g0 g1
      by_cases ho:U2 (p,q)
      ·rw[decide_eq_true ho]at HC
       have HO:=hid ho
       clear ho;go_wp2_with fail;refine HC.out.mono ?_;rintro e w4 ⟨rfl,hb4⟩
       have hB4:=hB1.trans (hb4.mono hB1.size)
       have HF4:=hid (hbf.below hb4 hbf.lt)
       have HS4:=hid (HBL.out.below hB4 HBL.out.lt)
       have f0:w4.cell? ⟨wr.heap.size,0,none⟩=some (.slice A1 n1 c1):=HF4.out.cell 0
       have f1:w4.cell? ⟨wr.heap.size,1,none⟩=some (.slice A2 n2 c2):=HF4.out.cell 1
       have s0:w4.cell? ⟨w.heap.size,0,none⟩=some (.slice B1 m1 d1):=HS4.out.cell 0
       have s1:w4.cell? ⟨w.heap.size,1,none⟩=some (.slice B2 m2 d2):=HS4.out.cell 1
       have hp4:=hp1.mv Ww (Mv.Yc hb4 _)
       have hd4:=hd2.below hB4 (av _)
       clear hb4 hB1 k0 k1 hp1 HC hbf
       by_cases hn1m:n1=m1
       ·subst hn1m
        have he1:((n1:Int) != (n1:Int))=false:=by simp
        by_cases hn2m:n2=m2
        ·subst hn2m
         have he2:((n2:Int) != (n2:Int))=false:=by simp
         go_wp2_with fail;clear he1 he2 f1 s1;obtain⟨wo,rfl⟩: ∃wo,wo=wr:=⟨_,rfl⟩;go_loopw [8] (λj wr=>∃m t:Nat,m<=n1/\j=.int .i64 m/\wr=w4.drewN t/\Hid (Ynv D p m)) (λj _=>n1-(intOf j).toNat)
         case atStart=>exact⟨0,0,ai _,rfl,rfl,hid (λi hi=>absurd hi (by omega))⟩
         case round=>
          obtain⟨m,t,hm,rfl,hwr,HV⟩:=hrel
          have hp5:Row (Z0 Y7 1) 1 wr (λb=>S b/\b<w2.heap.size) A1 n1 c1 p:=by rw[hwr];exact hp4.mv Ww (Mv.drewN w4 t _)
          have hd5:Wg wr w2.heap.size B1 n1 d1 D:=by rw[hwr];exact hd4.drewN t
          have e0:wr.cell? ⟨wo.heap.size,0,none⟩=some (.slice A1 n1 c1):=by rw[hwr];exact f0
          have e1:wr.cell? ⟨w.heap.size,0,none⟩=some (.slice B1 n1 d1):=by rw[hwr];exact s0
          have HWI:=hid hwr
          clear hwr f0 s0
          by_cases hlm:m<n1
          ·obtain⟨d,u,C1,r1,t1,x,rfl,_,_,j0,hx,hxe⟩:=hp5.at1 hlm
           obtain⟨b2,o2,y,A4,n4,c4,l,rfl,_,_,g2,hl,hde⟩:=hd5.at_ hlm
           have i2:(0:Int)<=(m:Int):=by omega
           have i3:(m:Int)<(n1:Int):=by omega
           have hxl:=hx.len
           have hll:=hl.len
           have hxm:=hx.Ym
           have hlm':=hl.Ym
           clear hx hl hp5 hd5
           by_cases hle:r1=n4
           ·subst hle
            have HT:=hid (Yn1 hxe.out hde.out HV.out (by omega))
            have he3:((r1:Int) != (r1:Int))=false:=by simp
            clear hxl hll;go_wp2_with fail;go_quiet (fail);go_wp2_with fail;go_roundw
            case rel=>exact⟨m+1,t+nq,by omega,by go_num,by rw[HWI.out,World.drewN_drewN],HT⟩
            case measure=>simp[intOf];omega
           ·have he3:((r1:Int) != (n4:Int))=true:=by simp;omega
            have H:Hid (Uw L 1 (Ue D M.length)=12):=hid (Mu HN.out he.out (by
             rw[K1];intro h;exact Yr2 (by have:=HD.out;omega) hxe.out hde.out (by omega) h.2.2.2))
            have hF:=hid (Ya hbw (below_drewN hB4 t))
            clear hxl hll hle;go_wp2_with fail;go_quiet (fail);go_wp2_with fail;go_ret;exact⟨by rw[HX.out,H.out];rfl,by rw[HWI.out];exact below_drewN hF.out _⟩
          ·have HT:=hid (Lp (P:=Ue D M.length) he.out (by
            rw[K1]
            have h1:=HL1.out
            have h2:=HL2.out
            have h3:=HD.out
            have h4:=HM.out
            have h5:=HV.out
            rw[show m=D.length by omega]at h5
            exact⟨HO.out,by omega,by omega,h5⟩) HA.out)
           have hF:=hid (below_drewN hB4 t)
           clear hp5 hd5;go_wp2_with fail;go_roundw
           case rel=>exact⟨k+1,by omega,by go_num,by rw[HWI.out];exact hF.out,HT⟩
           case measure=>simp[intOf];omega
        ·have he2:((n2:Int) != (m2:Int))=true:=by simp;omega
         have H:Hid (Uw L 1 (Ue D M.length)=12):=hid (Mu HN.out he.out (by
          rw[K1];intro h
          have h2:=HL2.out
          have h4:=HM.out
          have h5:=h.2.2.1
          omega))
         have hF:=hid (Ya hbw hB4)
         clear hn2m;go_wp2_with fail;go_ret;exact⟨by rw[HX.out,H.out];rfl,hF.out⟩
       ·have he1:((n1:Int) != (m1:Int))=true:=by simp;omega
        have H:Hid (Uw L 1 (Ue D M.length)=12):=hid (Mu HN.out he.out (by
         rw[K1];intro h
         have h2:=HL1.out
         have h4:=HD.out
         have h5:=h.2.1
         omega))
        have hF:=hid (Ya hbw hB4)
        clear hn1m;go_wp2_with fail;go_ret;exact⟨by rw[HX.out,H.out];rfl,hF.out⟩
      ·rw[decide_eq_false ho]at HC
       have H:Hid (Uw L 1 (Ue D M.length)=12):=hid (Mu HN.out he.out (λh=>ho h.1))
       clear ho;go_wp2_with fail;refine HC.out.mono ?_;rintro e w4 ⟨rfl,hb4⟩
       have hF:=hid (Ya hbw (hB1.trans (hb4.mono hB1.size)))
       clear hb4 hB1 k0 k1 HC hbf;go_wp2_with fail;go_ret;exact⟨by rw[HX.out,H.out];rfl,hF.out⟩
     ·have H:Hid (Uw L 1 (Ue D M.length)=0):=hid (Jm.2 (by
       have h1:=HL.out
       have h2:=HN.out
       have h3:=HA.out
       rw[af (by omega)]at h3
       exact⟨by omega,by omega,h3⟩))
      have hF:=hid (Ya hbw hB)
      go_wp2_with fail;go_ret;exact⟨by rw[HX.out,H.out];rfl,hF.out⟩
 ·rw[decide_eq_false hm]at HC
  have HX:=hid (Ygx (L:=L) hm)
  clear hm;go_enter aq,ak;go_wp2_with fail;generalize w.alloc (.cells #[.slice B1 m1 d1,.slice B2 m2 d2,.slice B3 m3 d3] 26)=W at hb0 hbl hs1 h1 HC⊢;refine HC.out.mono ?_;rintro e w2 ⟨rfl,hb2⟩
  have hB:=Ya hb0 hb2
  go_wp2_with fail;go_ret;exact⟨by rw[HX.out];rfl,hB⟩
end Go.Proofs.YtmepdkdeanbbaaaGreat
