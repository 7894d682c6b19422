/- DictA, DictS, DictF -/
import Derived.Test.YtmepdkdeanbbaaaGreatJ38
import Derived.Deep.RegionHeld3
namespace Go.Proofs.YtmepdkdeanbbaaaGreat
set_option maxRecDepth 100000
set_option maxHeartbeats 8000000
open Go.RowKit
open Nat renaming le_refl→aa,le_trans→ae,add_sub_cancel→ak,sub_add_cancel→ao,le_succ_of_le→aq,le_of_lt→ar,le_of_eq→au,zero_le→av
open Option.some renaming injEq→af
open World renaming size_alloc→ag
open Obj.cells renaming injEq→ai
open Value renaming ownBlock→aj,slice→an
open Go.Lib (hid)
variable {w:World}{B base g n:Nat}{Q:List Pth}{l:List Int}
section
section
variable {w w' : World}{base g:Nat}{pv:Value}{bm n:Nat}{Q:List Pth}
theorem Dc.Cc(h:Dc w base g pv bm n Q){B e size m:Nat}{v:Value}{xs:List Value}(hr:w.ownsRow B e size v m xs)(h1:e≠160)(h2:e≠168):∀k,v.ownBlock=some k→¬Th g pv bm k:=by
 intro k hk hf
 rcases hr.2 with⟨rfl,_⟩|⟨g',cap,cur,rfl,_,hg,_⟩
 ·cases hk
 ·simp only[aj,af]at hk
  subst hk
  rcases hf with rfl|hf|rfl
  ·have hb:w.heap[g']?=some (.cells _ _ _):=h.block
   rw[hg]at hb;simp only[af,ai]at hb;exact h1 hb.2.1
  ·rcases h.row.2 with⟨rfl,_⟩|⟨g2,cap2,cur2,rfl,_,hg2,_⟩
   ·cases hf
   ·simp only[aj,af]at hf
    subst hf;rw[hg]at hg2;simp only[af,ai]at hg2;exact h2 hg2.2.1
  ·obtain⟨es,clock,he⟩:=h.map.R1
   rw[hg]at he
   cases he
theorem Dc.Ymu(h:Dc w base g pv bm n Q){B e size m:Nat}{v:Value}{xs:List Value}(hr:w.ownsRow B e size v m xs)(h1:e≠160)(h2:e≠168)(hg:w.grownBy w' v.ownBlock):Dc w' base g pv bm n Q:=
 h.chg (S:=λk=>v.ownBlock=some k) (Chg.W5 hg λ_ hk _=>hk) λk hk hs=>h.Cc hr h1 h2 k hs hk
theorem Zx.chg{S:Nat->Prop}{B m c:Nat}{A:Option Addr}{l:List Txt}(h:Zx w B A m c l)(hB:B<=w.heap.size)(hc:Chg S w w')(hS:∀ad,A=some ad→¬S ad.block):Zx w' B A m c l:=
 ⟨h.len,h.cap,h.fit,h.void,λhn=>by
  obtain⟨b,o,e,hb,hcell⟩:=h.has hn;exact⟨b,o,e,hb,λj u hu=>(World.cell?_of_block (hc.block b (by omega) (hS _ e))).trans (hcell j u hu)⟩⟩
end
def Dg(w:World)(B:Nat)(v:Value)(l:List Int):Prop:=
 (v=.slice none 0 0/\l=[])∨∃g c x,v=.slice (some ⟨g,1,none⟩) l.length c/\Yi w B (.slice (some ⟨g,0,none⟩) (l.length+1) (c+1)) (x::l)
theorem Dg.read{v:Value}(h:Dg w B v l):∃A m c,v=.slice A m c/\Y2 w w.heap.size A m c l/\∀ad,A=some ad->B<=ad.block:=by
 rcases h with⟨rfl,rfl⟩|⟨g,c,x,rfl,hO⟩
 ·exact⟨none,0,0,rfl,⟨rfl,aa _,av _,λ_=>rfl,Has.Zj⟩,λ_ h=>by cases h⟩
 ·obtain⟨A',n',c',e,hI,hb⟩:=hO.Yr
  injection e with e1 e2 e3
  subst e1 e2 e3;refine⟨_,_,_,rfl,?_,λad had=>by injection had with had;subst had;exact hb ⟨g,0,none⟩ rfl⟩
  have hcap:=hI.cap
  have hl:=hI.len
  refine⟨rfl,by simp at hl;omega,by have:=hI.fit;omega,(λh=>by cases h),λhn=>?_⟩
  obtain⟨b,o,e,hb2,hc⟩:=hI.has (by simp)
  injection e with e
  injection e with e1 e2 e3
  subst e1 e2;refine⟨g,1,rfl,hb2,λj u hu=>?_⟩
  have:=hc (j+1) u (by simpa using hu)
  rwa [Nat.zero_add,Nat.add_comm]at this
theorem Good.Yoz(h:Good n Q){p:Pth}{k:Nat}(hk:k<p.length)(hm:p.take k=[]∨p.take k∈Q){a:Nat}(ha:fnd Q (p.take k)=a):a<=Q.length/\pth Q a++[p.getD k []]=p.take (k+1):=by
 refine⟨by rw[<-ha];exact Rv,?_⟩
 have e:pth Q a=p.take k:=by
  rcases hm with e|e
  ·rw[<-ha,e,h.Na];rfl
  ·rw[<-ha];exact Qd e
 rw[e];exact Ou hk rfl
theorem Dg.of{B':Nat}{c:Nat}{m:Nat}(h:Yi w B (.slice (some ⟨g,0,none⟩) (m+1) c) l)(hB:B'<=B)(hc:1<c):Dg w B' (.slice (some ⟨g,1,none⟩) m (c-1)) (l.drop 1):=by
 have hl:=h.len_
 rcases l with _|⟨x,r⟩
 ·simp at hl
 ·have e:r.length=m:=by simpa using hl
  subst e;refine .inr ⟨g,c-1,x,rfl,?_⟩;rw[show c-1+1=c by omega]
  exact h.low hB
def Yla(w:World)(base g:Nat)(pv:Value)(bm n:Nat)(Q:List Pth)(p:Pth)(y:Ending)(w':World):Prop:=
 ∃v pv',y=.returned (.tuple #[v,.int .i64 ((Qr n Q p:Nat):Int)])/\Dg w' w.heap.size v (Jo n Q p)/\Dc w' base g pv' bm n (V4 n Q p)/\Chg (Th g pv bm) w w'∧∀k,pv'.ownBlock=some k->pv.ownBlock=some k∨w.heap.size<=k
theorem Yte{pv:Value}{bm:Nat}(h:Dc w base g pv bm n Q){A:Option Addr}{m c:Nat}{p:Pth}(hp:Zx w w.heap.size A m c p)(hfar:0<m->∀ad,A=some ad→¬Th g pv bm ad.block):
  Calls Tryz.prog 103 #[.pointer (some ⟨g,0,none⟩),.slice A m c] w (Yla w base g pv bm n Q p):=by
 have hpl:=hp.len
 have hc0:=h.c0
 by_cases hmn:m=n
 ·subst hmn
  by_cases hm:Un p
  ·have hmb:=hid (decide_eq_true hm)
   have hmy:=E9 hp
   rw[hmb.out]at hmy
   have hnn:((m:Int) != (m:Int))=false:=by simp
   have hD:=hid h
   have Hm:=hid hm
   have hm1:=h.good.lv.1
   have hm3:=h.good.lv.2
   have hQ40:=h.good.size
   have hbase:base<=w.heap.size:=ae h.gb (ar h.block.lt)
   have Hpl:=hid hpl
   have Hfar:=hid (hfar (by omega))
   obtain⟨b,o,_,rfl,hb,_,_⟩:=hp.at_ (k:=0) (by omega)
   have hP:=hid hp
   have hcap:=hp.cap
   have hcm:=hp.Xf
   clear hm h hp hpl hfar hc0;go_enter Tryz.func103,Tryz.ntmps103
   have c0:=hD.out.c0
   go_wp2_with fail;refine hmy.mono ?_;rintro y w1 ⟨rfl,hB1⟩;clear hmy;go_wp2_with fail;refine(Yl5 (hD.out.below hB1) (hP.out.Yc hB1) Hm.out).mono ?_;rintro y w2 ⟨v,k,rfl,hk,hO,hB2⟩
   have hB:=hB1.trans (hB2.mono hB1.size)
   have hO:=hO.low hB1.size
   have hkm:k<=m:=by have:=hk.1;have:=Hpl.out;omega
   have HK:=hid hk
   have hlack:=hD.out.good.Mw hk.1 hk.2.1 hk.2.2
   have hlackl:(S4 Q p).length=m-k:=by rw[hlack,List.length_drop,Vk,Hpl.out]
   have hD2:=hid (hD.out.below hB)
   have hch2:Hid (Chg (Th g pv bm) w w2):=hid (Chg.Y1 hB (aa _))
   have hs2:=hB.size
   have HO:=hid hO
   obtain⟨g2,cap2,rfl,hg1,hg2,hcap',hcm',hcell⟩:=hO.Ybi (by rw[Xc];omega)
   rw[Xc]at hcap'
   have e0:=Xc Q p (k+1)
   rw[e0]at HO⊢
   have hk0:(0:Int)<=(k:Int):=by omega
   have hk1:(k:Int)<=(m:Int):=by omega
   have hk2:(m:Int)<=(c:Int):=by omega
   have hk3:(k:Int)<=(c:Int):=by omega
   have hkk:(k:Int)+1-1=(k:Int):=by omega
   clear e0 hcell hO hk hB hB1 hB2 hmb
   by_cases h40:Q.length+(m-k)<=40
   ·obtain⟨e1,e2,e3⟩:=Gn (n:=m) (Q:=Q) (p:=p) ⟨Hpl.out,Hm.out⟩ (by rw[hlackl];exact h40)
    rw[hlack,<-J5 HK.out.1,Hpl.out]at e1 e2;rw[<-Yq5,Hpl.out]at e2
    have H1:=hid e1
    have H2:=hid e2
    have H3:=hid e3
    have h40': ¬(40:Int)<(Q.length:Int)+((m-k:Nat):Int):=by omega
    have H40:=hid h40
    clear e1 e2 e3 hlack hlackl h40
    by_cases hcp:c=k
    ·obtain rfl:k=m:=by omega
     subst hcp
     have h40'': ¬(40:Int)<(Q.length:Int):=by have:=H40.out;omega
     clear h40'
     have hge:=hD2.out.good.lv.1
     have hc21:¬cap2=1:=by omega
     have hx1:(1:Int)<=(c:Int)+1:=by omega
     have hx2:(c:Int)+1<=(cap2:Int):=by omega
     have hx3:(1:Int)<=(cap2:Int):=by omega
     have hT:=hid (Dg.of HO.out (aa _) (by omega))
     have HQ:Hid (grown Q p c (c-c)=Q):=hid (by rw[Nat.sub_self,Oe])
     rw[HQ.out]at H1 H2;go_wp2_with fail;refine(Jb hD2.out).mono ?_;rintro y w' ⟨rfl,rfl⟩;go_wp2_with fail;go_loopw [6,38] (λv i wr=>v=.slice (some ⟨g2,0,none⟩) (c+1) cap2/\i=.int .i64 0/\wr=w2) (λ_ _ _=>0)
     case atStart=>exact⟨rfl,rfl,rfl⟩
     case round=>
      obtain⟨rfl,rfl,rfl⟩:=hrel;go_wp2_with fail;go_ret2;exact⟨_,pv,by rw[H3.out];rfl,by rw[H2.out];exact hT.out,by rw[H1.out];exact hD2.out,hch2.out,λk hk=>.inl hk⟩
    ·go_wp2_with fail
     refine(Jb hD2.out).mono ?_;rintro y w' ⟨rfl,rfl⟩;go_wp2_with fail;go_loopw [6,38] (λv i wr=>∃(j:Nat) (pv':Value),j<=m-k/\i=.int .i64 j/\Yi wr w.heap.size v (cds (grown Q p k j) p (k+j+1))/\Dc wr base g pv' bm m (grown Q p k j)/\Chg (Th g pv bm) w wr/\Hid (∀k,pv'.ownBlock=some k->pv.ownBlock=some k∨w.heap.size<=k)) (λ_ i _=>m-(intOf i).toNat)
     case atStart=>exact⟨0,pv,av _,rfl,by rw[Oe];exact HO.out,by rw[Oe];exact hD2.out,hch2.out,hid (λk hk=>.inl hk)⟩
     case round=>
      obtain⟨j,pv',hj,rfl,hO,hDj,hch,hown⟩:=hrel
      by_cases hlt:j<m-k
      ·have hkj:k+j<p.length:=by have:=Hpl.out;omega
       have hgj:=L6 hD.out.good Hm.out.2 (au Hpl.out) HK.out (by rw[Hpl.out];exact H40.out) (j:=j) (by have:=Hpl.out;omega)
       have hgj1:=L6 hD.out.good Hm.out.2 (au Hpl.out) HK.out (by rw[Hpl.out];exact H40.out) (j:=j+1) (by omega)
       obtain⟨s,hs⟩: ∃s,Hid (s=p.getD (k+j) []):=⟨_,hid rfl⟩;obtain⟨a,ha⟩: ∃a,Hid (fnd (grown Q p k j) (p.take (k+j))=a):=⟨_,hid rfl⟩;obtain⟨hal,htk⟩:=hgj.Yoz (p:=p) (k:=k+j) hkj (by
        rcases Nat.eq_zero_or_pos (k+j)with h0|h0
        ·left;rw[h0];rfl
        ·right
         obtain⟨i,hi⟩: ∃i,k+j=i+1:=⟨k+j-1,by omega⟩
         rw[hi];exact Gs HK.out (by omega) (by omega)) ha.out
       rw[<-hs.out]at htk
       have hsn:Z6 s:=Hm.out.2 s (by rw[hs.out,List.getD_eq_getElem?_getD,List.getElem?_eq_getElem hkj];exact List.getElem_mem _)
       have hnew:pth (grown Q p k j) a++[s]∉grown Q p k j:=by rw[htk];exact Gv HK.out (by omega) hkj hD.out.good
       rw[Rk hkj,<-htk]at hgj1
       have hcome:=Ysa hDj hal hsn hnew hgj1
       rw[htk,<-Rk hkj,Gk (by omega)]at hcome
       have hcd:=hid (Yl8 hD.out.good HK.out hkj)
       have hpw:=(hP.out.chg (aa _) hch Hfar.out).has
       obtain⟨b',o',eb,_,hcl⟩:=hpw (by simp;omega)
       injection eb with eb
       injection eb with eb1 eb2 _
       subst eb1 eb2
       have hcs:wr.cell? ⟨b,o+k+j,none⟩=some (.string ⟨s.toArray⟩):=by
        rw[Nat.add_assoc,hs.out];exact hcl (k+j) _ (by simp[Wa,List.getElem?_map,List.getD_eq_getElem?_getD,List.getElem?_eq_getElem hkj])
       obtain⟨r,hr⟩: ∃r,Hid (k+j=r):=⟨_,hid rfl⟩
       have hfr:=hDj.Cc hO (by decide) (by decide)
       obtain⟨g3,cap3,rfl,hg31,hg32,hcap3,hcm3,hcell3⟩:=hO.Ybi (by rw[Xc];omega)
       have hck:=hcell3 (k+j) (by rw[Xc];omega)
       rw[E6 (by omega),ha.out,hr.out]at hck
       rw[Xc,hr.out]at hcap3
       have e0:=Xc (grown Q p k j) p (k+j+1)
       rw[hr.out]at hO e0 hcd;rw[e0]at hO;simp only[hr.out];rw[e0]
       have HOj:=hid hO
       have hrr:(r:Int)+1-1=(r:Int):=by omega
       have hr0:(0:Int)<=(r:Int):=by omega
       have hjj:((j:Nat):Int)<((m-k:Nat):Int):=by omega
       have hsz:=hch.size
       have Hch:=hid hch
       obtain⟨d,hd⟩: ∃d,Hid (Q.length+j+1=d):=⟨_,hid rfl⟩;rw[hd.out]at hcome hcd
       have hcome2:=hid hcome
       have Hlt:=hid hlt
       have hr40:Hid (r<=100):=hid (by rw[<-hr.out];omega)
       clear hpw hcl hsn hnew htk hgj hgj1 hcome hO hDj hch hkj hcell3 e0 hal;go_wp2_with fail;refine hcome2.out.mono ?_;rintro y w3 ⟨pv3,rfl,hD3,hch3,hown3⟩
       have hO3:=hch3.row HOj.out hfr
       have hO4:Yi (w3.alloc (.cells #[.int .i64 d] 3)) w.heap.size (.slice (some ⟨g3,0,none⟩) (r+1) cap3) (cds (grown Q p k j) p (r+1)):=World.ownsRow.alloc hO3 _
       have hD4:=hD3.below (Yb w3 (.cells #[.int .i64 d] 3))
       have hsz3:=ae hsz hch3.size
       have hll:Hid ((cds (grown Q p k j) p (r+1)).length<=1000000):=hid (by rw[Xc];have:=hr40.out;omega)
       have hch4:Chg (Th g pv bm) w (w3.alloc (.cells #[.int .i64 d] 3)):=(Hch.out.trans hch3 (λk hk hf=>by
        rcases hf with hf|hf|hf
        ·exact .inl hf
        ·rcases hown.out k hf with h1|h1
         ·exact .inr (.inl h1)
         ·omega
        ·exact .inr (.inr hf))).alloc _
       have hown4:Hid (∀k,pv3.ownBlock=some k->pv.ownBlock=some k∨w.heap.size<=k):=hid λk hk=>by
        rcases hown3 k hk with h1|h1
        ·exact hown.out k h1
        ·exact .inr (ae hsz h1)
       have HD4:=hid hD4
       have Hch4:=hid hch4
       clear hO3 hD3 hch3 hown3 hD4 hch4 hcome2;go_wp2_with (at_builtin;refine Yo rfl _ _ rfl w.heap.size _ _ rfl hO4 _ rfl d (Y6 _ _ _ _ (by simp)) hll.out (by rw[ag];omega) ?_)
       intro v4 w4 hO5 hG5
       have hD5:=hid (HD4.out.Ymu hO4 (by decide) (by decide) hG5.1)
       have hch5:=hid (Hch4.out.trans (S':=λk=>(an (some ⟨g3,0,none⟩) (r+1) cap3).ownBlock=some k) (c:=w4) (Chg.W5 hG5.1 λk hk _=>hk) (λk hk hs=>by
        have:=(World.ownsRow.lt HOj.out k hs).1
        omega))
       have hO6:Hid (Yi w4 w.heap.size v4 (cds (grown Q p k (j+1)) p (k+(j+1)+1))):=hid (by rw[hcd.out];exact hO5)
       clear hO4 hO5 hG5;go_wp2_with fail;go_roundw
       case rel=>exact⟨j+1,pv3,by have:=Hlt.out;omega,by go_num,hO6.out,hD5.out,hch5.out,hown4⟩
       case measure=>have:=Hlt.out;simp[intOf];omega
      ·obtain rfl:j=m-k:=by omega
       have hkj:k+(m-k)+1=m+1:=by omega
       rw[hkj]at hO;obtain⟨g3,cap3,rfl,hg31,hg32,hcap3,hcm3,_⟩:=hO.Ybi (by rw[Xc];omega)
       rw[Xc]at hcap3
       have e0:=Xc (grown Q p k (m-k)) p (m+1)
       rw[e0]at hO⊢
       have hT:=hid (Dg.of hO (aa _) (by omega))
       rw[<-H2.out]at hT
       have hx1:(1:Int)<=(m:Int)+1:=by omega
       have hx2:(m:Int)+1<=(cap3:Int):=by omega
       have hx3:(1:Int)<=(cap3:Int):=by omega
       have hc31:¬cap3=1:=by omega
       rw[<-H1.out]at hDj
       have hF:=hid (show Dc wr base g pv' bm m (V4 m Q p)/\Chg (Th g pv bm) w wr/\_ from⟨hDj,hch,hown.out⟩)
       clear e0 hO hDj hch hown hkj hlt hj;go_wp2_with fail;go_ret2;exact⟨_,pv',by rw[H3.out];rfl,hT.out,hF.out.1,hF.out.2.1,hF.out.2.2⟩
   ·obtain⟨e1,e2,e3⟩:=Yft (n:=m) (Q:=Q) (p:=p) ⟨Hpl.out,Hm.out⟩ (by rw[hlackl];omega)
    have H1:=hid e1
    have H2:=hid e2
    have H3:=hid e3
    have h40':(40:Int)<(Q.length:Int)+((m-k:Nat):Int):=by omega
    have hcp:¬c=k:=by omega
    clear e1 e2 e3 hlack hlackl h40;go_wp2_with fail;refine(Jb hD2.out).mono ?_;rintro y w' ⟨rfl,rfl⟩;go_wp2_with fail;go_ret2;exact⟨_,pv,by rw[H3.out];rfl,by rw[H2.out];exact .inl ⟨rfl,rfl⟩,by rw[H1.out];exact hD2.out,hch2.out,λk hk=>.inl hk⟩
  ·obtain⟨e1,e2,e3⟩:=Jn (n:=m) (Q:=Q) (p:=p) (λa=>hm a.2)
   have H1:=hid e1
   have H2:=hid e2
   have H3:=hid e3
   have hmb:=hid (decide_eq_false hm)
   have hmy:=E9 hp
   rw[hmb.out]at hmy
   have hnn:((m:Int) != (m:Int))=false:=by simp
   have hD:=hid h
   clear hm e1 e2 e3 h;go_enter Tryz.func103,Tryz.ntmps103;go_wp2_with fail;refine hmy.mono ?_;rintro y w1 ⟨rfl,hB1⟩;go_wp2_with fail;go_ret2;exact⟨_,pv,by rw[H3.out];rfl,by rw[H2.out];exact .inl ⟨rfl,rfl⟩,by rw[H1.out];exact hD.out.below hB1,Chg.Y1 hB1 (aa _),λk hk=>.inl hk⟩
 ·obtain⟨e1,e2,e3⟩:=Jn (n:=n) (Q:=Q) (p:=p) (λa=>hmn (by rw[<-hpl];exact a.1))
  have H1:=hid e1
  have H2:=hid e2
  have H3:=hid e3
  have hnn:((m:Int) != (n:Int))=true:=by simp;omega
  have hD:=hid h
  clear e1 e2 e3 h hmn;go_enter Tryz.func103,Tryz.ntmps103;go_wp2_with fail;go_ret2;exact⟨_,pv,by rw[H3.out];rfl,by rw[H2.out];exact .inl ⟨rfl,rfl⟩,by rw[H1.out];exact hD.out,Chg.refl _ _,λk hk=>.inl hk⟩
end
theorem Ybz{p:Pth}{k:Nat}(h:k<p.length):(Ti p).take (k+1)=(Ti p).take k++[p.take (k+1)]:=by
 rw[List.take_add_one,Ui h];rfl
theorem Yje(p:Pth):(Ti p).take p.length=Ti p:=List.take_of_length_le (by rw[Vk];exact aa _)
def lks(Q:List Pth)(p:Pth)(k:Nat):List Pth:=((Ti p).take k).filter λq=>decide (q∉Q)
theorem Ylr(Q:List Pth)(p:Pth)(k:Nat):(lks Q p k).length<=p.length:=by
 unfold lks;exact ae (List.length_filter_le _ _) (ae (List.length_take_le' _ _) (by rw[Vk];exact aa _))
theorem Ylc(Q:List Pth)(p:Pth):lks Q p p.length=S4 Q p:=by unfold lks S4;rw[Yje]
def Di(w:World)(base r n:Nat)(Lv:Value)(Q:List Pth)(p:Pth)(y:Ending)(w':World):Prop:=
 ∃v Lv',y=.returned (.tuple #[v,.int .i64 ((Qr n Q p:Nat):Int)])/\Yi w' w.heap.size v (Jo n Q p)/\Rf w' base r n Lv' (V4 n Q p)/\Chg (Ve r Lv) w w'∧∀k,Lv'.ownBlock=some k->Lv.ownBlock=some k∨w.heap.size<=k
theorem Yf8{r:Nat}{Lv:Value}(h:Rf w base r n Lv Q){A:Option Addr}{m c:Nat}{p:Pth}(hp:Zx w w.heap.size A m c p)(hfar:0<m->∀ad,A=some ad→¬Ve r Lv ad.block):
  Calls Tryz.prog 76 #[.pointer (some ⟨r,0,none⟩),.slice A m c] w (Di w base r n Lv Q p):=by
 have hpl:=hp.len
 have hc0:=h.c0
 have hmy:=O6 hp
 by_cases hm:Un p
 ·rw[decide_eq_true hm]at hmy
  by_cases hmn:m=n
  ·subst hmn
   obtain⟨A2,cap,rfl,hTs⟩:=h.row.form
   have hc1:=h.c1
   have hm3:m<=3:=h.good.lv.2
   have hQ:=h.good.size
   have hcm:=hp.Xf
   have hcap:=hp.cap
   have hnn:((m:Int) != (m:Int))=false:=by simp
   have HH:=hid h
   have HP:=hid hp
   have Hm:=hid hm
   have HL:=hid hpl
   have Hfar:=hid (hfar (by have:=h.good.lv.1;omega))
   have hrl:=h.block.lt
   have hbase:base<=w.heap.size:=ae h.rb (ar hrl)
   have K:Hid (∀y,Below w.heap.size w y->y.cell? ⟨r,1,none⟩=some (.slice A2 Q.length cap)/\Rf y base r m (.slice A2 Q.length cap) Q/\Zx y w.heap.size A m c p):=hid λy hy=>⟨(hy.cell (p:=⟨r,1,none⟩) hrl).trans hc1,h.below hy,hp.below hy (aa _)⟩
   clear hTs hm hpl hfar hp h;go_enter Tryz.func76,Tryz.ntmps76;go_wp2_with fail;refine hmy.mono ?_;rintro y w1 ⟨rfl,rfl⟩;clear hmy;go_wp2_with fail;clear hnn;go_loopw [7,8] (λv i wr=>∃s:Nat,1<=s/\s<=m+1/\i=.int .i64 s/\Zw wr w.heap.size v (lks Q p (s-1))/\Below w.heap.size w wr) (λ_ i _=>m+1-(intOf i).toNat)
   case atStart=>exact⟨1,aa _,by omega,rfl,Zw.Zj _ _,Below.refl _ _⟩
   case round=>
    obtain⟨s,hs1,hsm,rfl,hO,hB⟩:=hrel
    by_cases hlt:s<=m
    ·obtain⟨c1,hRf,hPw⟩:=K.out wr hB
     obtain⟨x,hx⟩: ∃x,Hid (fnd Q (p.take s)=x):=⟨_,hid rfl⟩
     have hPt:=hPw.Q3 s hlt
     have hf:=Qj hRf hPt hx
     have hpt:=hid (show(Ti p).take s=(Ti p).take (s-1)++[p.take s]from by
      have:=Ybz (p:=p) (k:=s-1) (by have:=HL.out;omega)
      rwa [ao hs1]at this)
     have h1:(s:Int)<=(m:Int):=by omega
     have h2:(s:Int)<=(c:Int):=by omega
     have h3:(0:Int)<=(s:Int):=by omega
     by_cases hin:p.take s∈Q
     ·have hx0:((x:Int)==0)=false:=by have:=Vh.2 hin;rw[hx.out]at this;simp;omega
      have hfl:Hid (lks Q p (s+1-1)=lks Q p (s-1)):=hid (by
       rw[ak];unfold lks;rw[hpt.out,List.filter_append];simp[hin])
      clear hin hRf hPw hPt;go_wp2_with fail;refine hf.mono ?_;rintro y w2 ⟨rfl,j,rfl⟩;go_wp2_with fail;go_roundw
      case rel=>exact⟨s+1,by omega,by omega,by go_num,by rw[hfl.out];exact hO.drewN j,below_drewN hB j⟩
      case measure=>simp[intOf];omega
     ·obtain rfl:x=0:=by rw[<-hx.out];exact S1 hin
      have hfl:Hid (lks Q p (s+1-1)=lks Q p (s-1)++[p.take s]):=hid (by
       rw[ak];unfold lks;rw[hpt.out,List.filter_append];simp[hin])
      have hll:Hid ((lks Q p (s-1)).length<=1000000):=hid (ae (Ylr _ _ _) (by have:=HL.out;omega))
      have hsz:=hB.size
      have hlo:=λk e=>(hO.lt k e).1
      clear hin hRf hPw;go_wp2_with fail;refine hf.mono ?_;rintro y w2 ⟨rfl,j,rfl⟩;go_wp2_with (at_builtin;refine Yef rfl _ _ rfl wr.heap.size _ [] rfl (Xj.Zj _ _) _ A s c _ rfl (hPt.drewN j) (by simp;omega) (aa _) ?_)
      intro v3 w3 hO3 hG3;obtain⟨A3,n3,c3,rfl,hT3,_⟩:=hO3.Yr;clear hT3
      have hB3:Below wr.heap.size wr w3:=Ya (Below.refl _ _) (show Below wr.heap.size wr w3 from⟨hG3.1.os,hG3.1.tape,hG3.1.output,hG3.1.size,λk hk=>hG3.1.block k hk (by simp[aj])⟩)
      have hO4:Zw (w3.alloc (.cells #[.slice A3 n3 c3] 23)) w.heap.size _ _:=(hO.below hB3).alloc _
      have hy4:Xj (w3.alloc (.cells #[.slice A3 n3 c3] 23)) w.heap.size (.slice A3 n3 c3) (p.take s):=by simpa using(hO3.alloc (.cells #[.slice A3 n3 c3] 23)).low hsz
      have hs3:=ae hsz hB3.size
      have hB4:=(hB.trans (hB3.mono hsz)).alloc hs3 (.cells #[.slice A3 n3 c3] 23)
      have HO4:=hid hO4
      have Hy4:=hid hy4
      clear hO hO3 hG3 hO4 hy4 hB3 hPt;go_wp2_with (at_builtin;refine Ye8 rfl _ _ rfl w.heap.size _ _ rfl HO4.out _ rfl (.slice A3 n3 c3) (p.take s) (Mq _ _ _ _ (by simp)) Hy4.out hll.out (by rw[ag];omega) ?_)
      intro v5 w5 hO5 hG5
      have hB5:=hid (hB4.trans (hG5.Yw (by rw[ag];omega) hlo))
      rw[<-hfl.out]at hO5
      have HO5:=hid hO5
      clear hO5 hG5 hB4 hB hlo;go_wp2_with fail;go_roundw
      case rel=>exact⟨s+1,by omega,by omega,by go_num,HO5.out,hB5.out⟩
      case measure=>simp[intOf];omega
    ·have hsl:lks Q p (s-1)=S4 Q p:=by rw[show s-1=p.length by have:=HL.out;omega];exact Ylc Q p
     rw[hsl]at hO;obtain⟨c1,hRf,hPw⟩:=K.out wr hB;obtain⟨A4,c4,rfl,hT4⟩:=hO.form;obtain⟨lk,hlk⟩: ∃lk,Hid ((S4 Q p).length=lk):=⟨_,hid rfl⟩;rw[hlk.out]at hO⊢
     have hsz:=hB.size
     have hf1:=hRf.block.free 1
     have hlk3:lk<=3:=by rw[<-hlk.out];have:=Ylr Q p p.length;rw[Ylc]at this;have:=HL.out;omega
     have hslt:¬(s:Int)<=(m:Int):=by omega
     clear hT4 hsl
     by_cases h40:Q.length+lk<=40
     ·obtain⟨e1,e2,e3⟩:=Gn (n:=m) (Q:=Q) (p:=p) ⟨HL.out,Hm.out⟩ (by rw[hlk.out];exact h40)
      have H1:=hid e1
      have H2:=hid e2
      have H3:=hid e3
      have hgood:Hid (Good m (V4 m Q p)):=hid hRf.good.add
      have h40': ¬(40:Int)<(Q.length:Int)+(lk:Int):=by omega
      have hll:Hid (Q.length+(S4 Q p).length<=1000000):=hid (by rw[hlk.out];omega)
      have hlo:=World.ownsRow.lt hRf.row.choose_spec.1
      have hrr:=hRf.row
      have hrb:=hRf.block
      have HR:=hid hRf
      have HB:=hid hB
      have hOl:=hO.low hbase
      clear e1 e2 e3 h40 hRf hPw hB hO;go_wp2_with (at_builtin;refine Yd1 rfl _ _ rfl base _ Q rfl hrr _ (S4 Q p) rfl hOl hll.out (ae hbase hsz) ?_)
      intro v5 w5 hO5 hG5;rw[<-H1.out]at hO5
      have hnr:(an A2 Q.length cap).ownBlock≠some r:=λe=>by
       obtain⟨vs,h1,_⟩:=hrr
       rcases h1.2 with⟨e1,_⟩|⟨g1,cap1,cur1,e1,_,hg1,_⟩
       ·rw[e1]at e;cases e
       ·rw[e1]at e
        simp only[aj,af]at e;subst e
        have hb:wr.heap[g1]?=some (.cells _ _ _):=hrb
        rw[hg1]at hb;simp only[af,ai]at hb;exact absurd hb.2.1 (by decide)
      have hb5:=hrb.grown hG5.1 hnr
      obtain⟨A5,c5,rfl,_⟩:=hO5.form;obtain⟨n5,hn5⟩: ∃n5,Hid ((V4 m Q p).length=n5):=⟨_,hid rfl⟩;rw[hn5.out]at hO5 hG5⊢
      have d1:w5.cell? ⟨r,1,none⟩=some (.slice A2 Q.length cap):=hb5.cell 1
      have f1:=hb5.free 1
      have hb6:=hb5.Ys 1 (.slice A5 n5 c5)
      have hch6:Chg (Ve r (.slice A2 Q.length cap)) w (w5.setCell ⟨r,1,none⟩ (.slice A5 n5 c5)):=((Chg.Y1 HB.out (aa _)).trans (S':=Ve r (.slice A2 Q.length cap)) (Chg.W5 hG5.1 (λk hk _=>.inr hk)) (λ_ _ h=>h)).Ys r 1 _ (λ_=>.inl rfl)
      have hO6:Zw (w5.setCell ⟨r,1,none⟩ (.slice A5 n5 c5)) base (.slice A5 n5 c5) (V4 m Q p):=hO5.chg (S:=λk=>k=r) ((Chg.refl _ w5).Ys r 1 _ (λ_=>rfl)) (λk hk cs e fr he=>by
       subst hk
       have hb:w5.heap[k]?=some (.cells _ _ _):=hb5
       rw[he]at hb;simp only[af,ai]at hb;rw[hb.2.1]
       decide)
      have hown6:Hid (∀k,(an A5 n5 c5).ownBlock=some k->(an A2 Q.length cap).ownBlock=some k∨w.heap.size<=k):=hid λk hk=>(hG5.2 k hk).imp id (λh=>ae hsz h)
      go_wp2_with fail;generalize w5.setCell ⟨r,1,none⟩ (.slice A5 n5 c5)=w6 at hb6 hch6 hO6⊢
      have hR6:Rf w6 base r m (.slice A5 n5 c5) (V4 m Q p):=⟨hb6,hO6,HR.out.rb,hgood.out⟩
      have hP6:Zx w6 w.heap.size A m c p:=HP.out.chg (aa _) hch6 Hfar.out
      have hs6:=hch6.size
      have K6:Hid (∀y,Below w6.heap.size w6 y->Rf y base r m (.slice A5 n5 c5) (V4 m Q p)/\Zx y w.heap.size A m c p):=hid λy hy=>⟨hR6.below hy,hP6.below hy hs6⟩
      have Hch6:=hid hch6
      clear hb6 hO6 hR6 hP6 hO5 hG5 hb5 d1 f1 hrr hrb HR hOl hnr hf1 c1 hlo hch6;go_wp2_with fail;go_loopw [10,11] (λv i wr=>∃t:Nat,1<=t/\t<=m+1/\i=.int .i64 t/\Yi wr w6.heap.size v (((Ti p).map λq=>((fnd (V4 m Q p) q:Nat):Int)).take (t-1))/\Below w6.heap.size w6 wr) (λ_ i _=>m+1-(intOf i).toNat)
      case atStart=>exact⟨1,aa _,by omega,rfl,Yi.Zj _ _,Below.refl _ _⟩
      case round=>
       obtain⟨t,ht1,htm,rfl,hO,hB⟩:=hrel
       by_cases hlt2:t<=m
       ·obtain⟨hRf,hPw⟩:=K6.out wr hB
        obtain⟨x,hx⟩: ∃x,Hid (fnd (V4 m Q p) (p.take t)=x):=⟨_,hid rfl⟩
        have hf:=Qj hRf (hPw.Q3 t hlt2) hx
        have h1:(t:Int)<=(m:Int):=by omega
        have h2:(t:Int)<=(c:Int):=by omega
        have h3:(0:Int)<=(t:Int):=by omega
        have htk:Hid (((Ti p).map λq=>((fnd (V4 m Q p) q:Nat):Int)).take (t+1-1)=((Ti p).map λq=>((fnd (V4 m Q p) q:Nat):Int)).take (t-1)++[(x:Int)]):=hid (by
         have e1:=Ybz (p:=p) (k:=t-1) (by have:=HL.out;omega)
         rw[ao ht1]at e1;rw[ak,<-List.map_take,e1,List.map_append,List.map_take,<-hx.out];rfl)
        have hsz2:=hB.size
        have hlo2:=λk e=>(hO.lt k e).1
        have hll2:Hid ((((Ti p).map λq=>((fnd (V4 m Q p) q:Nat):Int)).take (t-1)).length<=1000000):=hid (ae (List.length_take_le _ _) (by omega))
        clear hRf hPw;go_wp2_with fail;refine hf.mono ?_;rintro y w7 ⟨rfl,j,rfl⟩
        have hO7:=(hO.drewN j).alloc (.cells #[.int .i64 x] 3)
        go_wp2_with (at_builtin;refine Yo rfl _ _ rfl w6.heap.size _ _ rfl hO7 _ rfl x (Y6 _ _ _ _ (by simp)) hll2.out (by rw[ag];exact aq hsz2) ?_)
        intro v8 w8 hO8 hG8
        have hB8:=hid (((below_drewN hB j).alloc hsz2 (.cells #[.int .i64 x] 3)).trans (hG8.Yw (by rw[ag];exact aq hsz2) hlo2))
        rw[<-htk.out]at hO8
        have HO8:=hid hO8
        clear hO hO7 hO8 hG8 hB hlo2;go_wp2_with fail;go_roundw
        case rel=>exact⟨t+1,by omega,by omega,by go_num,HO8.out,hB8.out⟩
        case measure=>simp[intOf];omega
       ·have hall:Hid (((Ti p).map λq=>((fnd (V4 m Q p) q:Nat):Int)).take (t-1)=Jo m Q p):=hid (by
         rw[List.take_of_length_le (by rw[List.length_map,Vk,HL.out];omega),H2.out,H1.out])
        rw[hall.out]at hO
        have hF:=hid (show Yi wr w.heap.size _ (Jo m Q p)/\Rf wr base r m (.slice A5 n5 c5) (V4 m Q p)/\Chg (Ve r (.slice A2 Q.length cap)) w wr from⟨hO.low hs6,(K6.out wr hB).1,Hch6.out.trans (S':=λ_=>False) (Chg.Y1 hB (aa _)) (λ_ _ h=>h.elim)⟩)
        clear hO hB;go_wp2_with fail;go_ret2;exact⟨_,_,by rw[H3.out];rfl,hF.out.1,hF.out.2.1,hF.out.2.2,hown6.out⟩
     ·obtain⟨e1,e2,e3⟩:=Yft (n:=m) (Q:=Q) (p:=p) ⟨HL.out,Hm.out⟩ (by rw[hlk.out];omega)
      have H1:=hid e1
      have H2:=hid e2
      have H3:=hid e3
      have h40':(40:Int)<(Q.length:Int)+(lk:Int):=by omega
      have HR:=hid hRf
      have HB:=hid hB
      clear e1 e2 e3 h40 hO hRf hPw hB;go_wp2_with fail;go_ret2;exact⟨_,.slice A2 Q.length cap,by rw[H3.out];rfl,by rw[H2.out];exact Yi.Zj _ _,by rw[H1.out];exact HR.out,Chg.Y1 HB.out (aa _),λk hk=>.inl hk⟩
  ·obtain⟨e1,e2,e3⟩:=Jn (n:=n) (Q:=Q) (p:=p) (λa=>hmn (by rw[<-hpl];exact a.1))
   have H1:=hid e1
   have H2:=hid e2
   have H3:=hid e3
   have hnn:((m:Int) != (n:Int))=true:=by simp;omega
   have hD:=hid h
   clear e1 e2 e3 h hmn hm;go_enter Tryz.func76,Tryz.ntmps76;go_wp2_with fail;refine hmy.mono ?_;rintro y w1 ⟨rfl,rfl⟩;go_wp2_with fail;go_ret2;exact⟨_,Lv,by rw[H3.out];rfl,by rw[H2.out];exact Yi.Zj _ _,by rw[H1.out];exact hD.out,Chg.refl _ _,λk hk=>.inl hk⟩
 ·rw[decide_eq_false hm]at hmy
  obtain⟨e1,e2,e3⟩:=Jn (n:=n) (Q:=Q) (p:=p) (λa=>hm a.2)
  have H1:=hid e1
  have H2:=hid e2
  have H3:=hid e3
  have hD:=hid h
  clear e1 e2 e3 h hm;go_enter Tryz.func76,Tryz.ntmps76;go_wp2_with fail;refine hmy.mono ?_;rintro y w1 ⟨rfl,rfl⟩;go_wp2_with fail;go_ret2;exact⟨_,Lv,by rw[H3.out];rfl,by rw[H2.out];exact Yi.Zj _ _,by rw[H1.out];exact hD.out,Chg.refl _ _,λk hk=>.inl hk⟩
end Go.Proofs.YtmepdkdeanbbaaaGreat
