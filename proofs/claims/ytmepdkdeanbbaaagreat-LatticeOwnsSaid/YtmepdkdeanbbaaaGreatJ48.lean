/- LtI, LtJ, LtK, LtL, LtN, LtP, LtQ, LtR, LuL, LuM -/
import Derived.Test.YtmepdkdeanbbaaaGreatJ44
import Derived.Test.YtmepdkdeanbbaaaGreatJ47
namespace Go.Proofs.YtmepdkdeanbbaaaGreat
set_option maxRecDepth 100000
set_option maxHeartbeats 8000000
open Go.RowKit
open Nat renaming le_refl→aa,lt_of_lt_of_le→ag,le_trans→ao,zero_le→aw,succ_mul→cj,mul_le_mul_right→cw,mul_le_mul→di,add_mul→dp
open World renaming size_alloc→ae,size_drew→aq
open List renaming mem_of_getElem?→af,getElem?_eq_getElem→ai,length_append→ak,length_map→an,length_singleton→ay,length_take→bg,length_drop→bj,getElem?_eq_some_iff→bn,getElem?_map→bo,take_of_length_le→bp,length_take_le→br,getElem?_drop→bs,eq_nil_of_length_eq_zero→bz,getD_eq_getElem?_getD→ch,length_filter_le→cn,mem_singleton→da,length_cons→dd,take_zero→dg
open Proofs.Tryz renaming prog→aj,underlying43→ar,underlying107→cz,underlying71→dc,ntmps105→dh,ntmps51→dj,func105→dm,func51→dn
open Value renaming slice→au,ownBlock→av,int→db
open Option.some renaming inj→ax
open Calls renaming mono→az,quiet_of→df
open Go.Lib (hid)
variable {w w' y:World}{W b b1 b2 base c c1 c2 c3 g m n n1 n3 o sz:Nat}{X1 X2 X3 dv v vv:Value}{Qs:List (List Pth)}{Cs:List Cub}{cnt:Int}{S:Nat->Prop}{N:List Nat}{A B1 B2:Option Addr}{L:Rws}{C:Cub}{K:List Int}
theorem Ypx(hm:m<=2){q:List Int}(h:isVal m q):Vf m [q]=(W6 q,0):=by
 have hc:=Yby hm h
 rw[Yh3 hm (by simp) (by simp) (λv hv=>by rw[da.1 hv];exact h)]
 rw[show [q].map W6=[W6 q]from rfl,Q0 hc.full,if_pos hc.1]
theorem Yob(w:World)(n:Int)(A1:Option Addr)(n1 c1:Nat)(A2:Option Addr)(n2 c2:Nat)(A3:Option Addr)(n3 c3:Nat)(g:Nat)(hg:g=w.heap.size):∀j u,[db .i64 n,.slice A1 n1 c1,.slice A2 n2 c2,.slice A3 n3 c3][j]?=some u->(w.alloc (.cells #[.int .i64 n,.slice A1 n1 c1,.slice A2 n2 c2,.slice A3 n3 c3] 71)).cell? ((⟨g,0,none⟩:Addr).add j)=some u:=Q6 w [.int .i64 n,.slice A1 n1 c1,.slice A2 n2 c2,.slice A3 n3 c3] 71 g hg
theorem Ybn(k:Int)(A1:Option Addr)(n1 c1:Nat)(A2:Option Addr)(n2 c2:Nat)(A3:Option Addr)(n3 c3:Nat):∀u∈[db .i64 k,.slice A1 n1 c1,.slice A2 n2 c2,.slice A3 n3 c3],u.oneCell'=true:=by
 intro u hu;simp at hu
 rcases hu with rfl|rfl|rfl|rfl <;> rfl
theorem Yav{ds:List DAt}{vs:List CAt}(h:LtM w g X1 X2 X3 dv vv ds vs N Qs W m Cs cnt)(hN:N.length<=3)(view:Int){Av Ak Af:Option Addr}{nv cv nk ck nf cf:Nat}{S:Nat->Prop}{v:List Int}{Ks:List (List Int)}{G:List Fct}
  (hV:Y2 w w.heap.size Av nv cv v) (hv:On N v) (hK:Tg w w.heap.size Ak nk ck Ks) (hF:S0 w S Af nf cf G) (hn:nf<=1000) (hsm:∀f∈G,Yai f) (hval:m<=2/\∀f∈G,isVal m f.2) (hnk:nk=nf)
  (hkey:∀(i:Nat) (f:Fct),G[i]?=some f->Q8 N Qs (Ks.getD i [])/\upB Qs (Ks.getD i []) v=kC Qs v f):
  Calls aj 104 #[.pointer (some ⟨g,0,none⟩),.int .i64 view,.slice Av nv cv,.slice Ak nk ck,.slice Af nf cf] w λe w'=>(∃r,e=.returned r/\Vv w' w.heap.size view r (Wu (kC Qs v) Zb G))/\Below w.heap.size w w':=by
 subst hnk
 have HVs:=hid (Yjb hF hn hsm)
 have Hlen:=hid hF.len
 have HM:=hid h
 have HV:=hid hV
 have Hv:=hid hv
 have HK:=hid hK
 have HN:=hid hN
 have Hval:=hid hval
 have Hkey:=hid hkey
 have hcapk:=hK.cap
 have hmf:∀(fn:Fn) (first cap:Array Value) (w:World),(Instr.makeFunc fn first cap).run aj w=.ok (.func fn first cap) w:=λ_ _ _ _=>rfl
 clear h hV hv hK hF hsm hN hval hkey;go_enter Tryz.func104,Tryz.ntmps104;go_wp2_with fail;refine HVs.out.mono ?_;rintro e w1 ⟨rv,rfl,hO1,hB1⟩
 have hO1':=hO1
 obtain⟨Ar,cr,rfl,hRr⟩:=hO1.read (Zz Yh)
 have hlr:(G.map Prod.snd).length=nk:=by rw[an];exact Hlen.out
 rw[hlr]at hRr⊢
 have HRr:Hid (Row (Z0 Yy 1) 1 w1 (λb=>w.heap.size<=b/\b<w1.heap.size) Ar nk cr (G.map Prod.snd)):=hid ((hRr.mv (Zz Yh) (Mv.to w1 λb hb hl=>⟨by
  rcases hb with hb|hb
  ·exact hb
  ·exact hb.1,hl⟩)).map λus x h=>Re Yh (λ_ _ h=>h) h)
 have HB1:=hid hB1
 clear hO1 hO1' hRr hlr hB1 HVs;go_wp2_with fail;go_loopw [11,21] (λal i wr=>∃k:Nat,k<=nk/\i=.int .i64 k/\Hid (Vv wr w1.heap.size view al (Wu (kC Qs v) Zb (G.take k)))/\Below w1.heap.size w1 wr) (λ_ i _=>nk-(intOf i).toNat)
 case atStart=>exact⟨0,aw _,rfl,hid (Vv.Zj _ _ _),Below.refl _ _⟩
 case round=>
  obtain⟨k,hk,rfl,hO,hB⟩:=hrel
  have hBw:=HB1.out.trans (hB.mono HB1.out.size)
  by_cases hlt:k<nk
  ·obtain⟨b,o,Aq,nq,cq,q,rfl,_,hbq,gq1,hq,heq⟩:=HRr.out.at1 hlt
   have gq:wr.cell? ⟨b,o+k,none⟩=some (.slice Aq nq cq):=(hB.cell (p:=⟨b,o+k,none⟩) hbq).trans gq1
   have i0:(0:Int)<=(k:Int):=by omega
   have i1:(k:Int)<(nk:Int):=by omega
   obtain⟨f,hf⟩: ∃f,Hid (G[k]?=some f):=by
    have h1:=heq.out
    rw[bo,Option.map_eq_some_iff]at h1;obtain⟨f,h2,_⟩:=h1;exact⟨f,hid h2⟩
   have hfq:f.2=q:=by
    have h1:=heq.out
    rw[bo,hf.out]at h1;exact ax h1
   have hvalq:=Hval.out.2 f (af hf.out)
   rw[hfq]at hvalq
   have hql:q.length=m:=by have:=hvalq.1;omega
   have hqn:m=nq:=by rw[<-hql];exact hq.len
   subst hqn;obtain⟨bk,ok,Bk,mk,dk,KK,rfl,hbk,gk,hKK,hKe⟩:=HK.out.at_ hlt
   have gk':wr.cell? ⟨bk,ok+k,none⟩=some (.slice Bk mk dk):=(hBw.cell (p:=⟨bk,ok+k,none⟩) hbk).trans gk
   obtain⟨hfull,hup⟩:=Hkey.out k f hf.out;rw[<-hKe]at hfull hup
   have hX:=Yuz (HM.out.below hBw) HN.out ((hKK.below hBw (aa _)).more hBw.size) ((HV.out.below hBw (aa _)).more hBw.size) hfull Hv.out
   rw[hup]at hX
   have HX:=hid hX
   have HQ:=hid hq
   have HqL:=hid (show isVal m q/\q.length=m/\f.2=q from⟨hvalq,hql,hfq⟩)
   clear hq hKK hfull hup hX gk hvalq hql hfq;go_wp2_with fail;refine HX.out.mono ?_;rintro e w5 ⟨⟨kv,rfl,hkv⟩,hB5⟩;obtain⟨Akv,nkv,ckv,rfl,hkI,_⟩:=hkv.Yr
   have hb6:=Yb w5 (.cells #[.slice Akv nkv ckv] 47)
   have hbb:=(Block.new w5 47 #[.slice Akv nkv ckv])
   have hkb:=hbb.cell 0
   have HG6:=hid ((hO.out.below hB5).below hb6)
   have hB6:=hB5.trans (hb6.mono hB5.size)
   have HB6:=hid (hB.trans (hB6.mono hB.size))
   have hkv6:Yi (w5.alloc (.cells #[.slice Akv nkv ckv] 47)) w1.heap.size (.slice Akv nkv ckv) (kC Qs v f):=World.ownsRow.alloc (hkv.low hB.size) _
   have HKv:=hid hkv6
   have hkI6:=hkI.below hb6 (aa _)
   have hlg:(Wu (kC Qs v) Zb (G.take k)).length<=1000:=ao (Bg _ _ _) (ao (br k _) (by omega))
   have HI:=hid (Yj1 HG6.out hkb (hbb.lt) (hkI6.more hb6.size) hlg)
   have Hlg:=hid hlg
   clear hkv hkI hO hB5 hkv6 hkI6 hlg HX;go_wp2_with fail;generalize w5.alloc (.cells #[.slice Akv nkv ckv] 47)=Y at hb6 hbb hkb HG6 hB6 HB6 HKv HI⊢;go_wp2_with fail;refine HI.out.mono ?_;rintro e w7 ⟨⟨r,rfl,hat⟩,hB7⟩
   have HG7:=hid (HG6.out.below hB7)
   have HB7:=hid (HB6.out.trans (hB7.mono HB6.out.size))
   have hkb7:w7.cell? ⟨w5.heap.size,0,none⟩=some (.slice Akv nkv ckv):=(hB7.cell (p:=⟨w5.heap.size,0,none⟩) hbb.lt).trans hkb
   have HKv7:=hid (Xi HKv.out hB7)
   have Hat:=hid hat
   clear hat hB7 hB6 hb6 HG6 HB6 HKv HI;obtain⟨Lk,hLk⟩: ∃Lk,Hid (Wu (kC Qs v) Zb (G.take k)=Lk):=⟨_,hid rfl⟩;rw[hLk.out]at HG7 Hat Hlg
   have HF:=hid (show(∀(j:Nat) (M:List PC),Lk[j]?=some (kC Qs v f,M)->Lk.set j (kC Qs v f,M++[Zb f])=Wu (kC Qs v) Zb (G.take (k+1)))/\(kC Qs v f∉Lk.map (·.1)->Lk++[(kC Qs v f,[Zb f])]=Wu (kC Qs v) Zb (G.take (k+1)))from
    ⟨λj M hj=>by rw[<-hLk.out]at hj⊢;exact(Ysf hf.out hj).symm,λhno=>by rw[<-hLk.out,Yba]at hno;rw[<-hLk.out];exact(Yri hf.out hno).symm⟩)
   go_upto_if 37 with fail
   go_cut [11,15] (λs11 s15 wx=>∃(j c gA n':Nat) (M:List PC) (L':List (List Int×List PC)),s11=.slice (some ⟨gA,0,none⟩) n' c/\s15=.int .i64 j/\j<n'∧n'<=1001/\Hid (L'.length=n'∧Vv wx w1.heap.size view (.slice (some ⟨gA,0,none⟩) n' c) L'∧L'[j]?=some (kC Qs v f,M)/\L'.set j (kC Qs v f,M++[Zb f])=Wu (kC Qs v) Zb (G.take (k+1))/\Below w1.heap.size w1 wx))
   case first=>
    rcases Hat.out with⟨j,M,rfl,hj⟩|⟨rfl,hno⟩
    ·obtain⟨gA,cA,A1,n1,c1,A2,n2,c2,ev,_⟩:=HG7.out.at_ hj
     subst ev
     have hj0:¬(j:Int)<0:=by omega
     have hjl:=(bn.1 hj).1
     have hl1:=Hlg.out
     have hEnd:=hid (show Lk.length=Lk.length/\Vv w7 w1.heap.size view (.slice (some ⟨gA,0,none⟩) Lk.length cA) Lk/\Lk[j]?=some (kC Qs v f,M)/\Lk.set j (kC Qs v f,M++[Zb f])=Wu (kC Qs v) Zb (G.take (k+1))/\Below w1.heap.size w1 w7 from⟨rfl,HG7.out,hj,HF.out.1 j M hj,HB7.out⟩)
     clear hj;go_wp2_with fail;go_meet;exact⟨j,cA,gA,_,M,Lk,rfl,rfl,hjl,by omega,hid ⟨rfl,hEnd.out.2⟩⟩
    ·obtain⟨Aal,cal,eal⟩:=HG7.out.shape
     subst eal
     have hb8:=Yb w7 (.cells #[.int .i64 view,.slice Akv nkv ckv,.slice none 0 0,.int .i64 0,.slice none 0 0,.slice none 0 0,.slice none 0 0] 109)
     have HG8:=hid (HG7.out.below hb8)
     have HKv8:Hid (Yi (w7.alloc (.cells #[.int .i64 view,.slice Akv nkv ckv,.slice none 0 0,.int .i64 0,.slice none 0 0,.slice none 0 0,.slice none 0 0] 109)) w1.heap.size (.slice Akv nkv ckv) (kC Qs v f)):=hid (World.ownsRow.alloc HKv7.out _)
     have HC8:=hid (Q6 w7 (gc7 view (.slice Akv nkv ckv,.slice none 0 0)) 109 w7.heap.size rfl)
     have hl8:Hid (Lk.length<=1000000):=hid (by have:=Hlg.out;omega)
     have hs8:Hid (w1.heap.size<=(w7.alloc (.cells #[.int .i64 view,.slice Akv nkv ckv,.slice none 0 0,.int .i64 0,.slice none 0 0,.slice none 0 0,.slice none 0 0] 109)).heap.size):=hid (by rw[ae];have:=HB7.out.size;omega)
     have Hno:=hid hno
     have Hb8:=hid hb8
     clear hno hb8;go_wp2_with (at_builtin;refine Yf3 rfl _ _ rfl rfl HG8.out _ rfl Akv nkv ckv _ HC8.out HKv8.out hl8.out hs8.out ?_)
     intro v' w9 hG9 hGr
     have hlast:(Lk++[(kC Qs v f,([]:List PC))])[Lk.length]?=some (kC Qs v f,[]):=by simp
     obtain⟨gA,cA,A1,n1,c1,A2,n2,c2,ev,_⟩:=hG9.at_ hlast;subst ev
     have hlw:=HG8.out.lt
     have hl1:=Hlg.out
     have hEnd:=hid (show(Lk++[(kC Qs v f,([]:List PC))]).length=Lk.length+1/\Vv w9 w1.heap.size view (.slice (some ⟨gA,0,none⟩) (Lk.length+1) cA) (Lk++[(kC Qs v f,([]:List PC))])/\(Lk++[(kC Qs v f,([]:List PC))])[Lk.length]?=some (kC Qs v f,[])/\(Lk++[(kC Qs v f,([]:List PC))]).set Lk.length (kC Qs v f,[]++[Zb f])=Wu (kC Qs v) Zb (G.take (k+1))/\Below w1.heap.size w1 w9 from
      ⟨by simp,by have h:=hG9;rw[ak,ay]at h;exact h,hlast,by rw[<-HF.out.2 Hno.out];simp,(HB7.out.trans (Hb8.out.mono HB7.out.size)).trans (hGr.Yw hs8.out λk e=>(hlw k e).1)⟩)
     rw[ak,ay];clear hG9 hGr hlast hlw;go_wp2_with fail;go_meet;exact⟨Lk.length,cA,gA,_,[],_,rfl,rfl,by omega,by omega,hEnd⟩
   case rest=>
    obtain⟨j,cA,gA,n',M,L',rfl,rfl,hjn,hn',H⟩:=hcut;obtain⟨hL',hGc,hjL,hset,hBc⟩:=H.out
    have hqc:=HQ.out.mv Yh (Mv.below hBc λb hb=>hb.2)
    have hb8:=Yb wc (.cells #[.slice Aq m cq] 47)
    have hFo:=Yeu (m:Int) (Tg.one hqc 47) (by decide)
    have hfo:Vf ((m:Nat):Int) [q]=(W6 q,0):=Ypx Hval.out.1 HqL.out.1
    obtain⟨⟨n9,Su,Mi,Ma⟩,hcc⟩: ∃cc,Hid (W6 q=cc):=⟨_,hid rfl⟩;rw[hcc.out]at hfo;rw[hfo]at hFo
    have HFo:=hid hFo
    have HGc:=hid (hGc.below hb8)
    have HBc:=hid (hBc.trans (hb8.mono hBc.size))
    have Hset:=hid (show L'[j]?=some (kC Qs v f,M)/\L'.set j (kC Qs v f,M++[Zb f])=Wu (kC Qs v) Zb (G.take (k+1))/\L'.length=n' from⟨hjL,hset,hL'⟩)
    clear hqc hb8 hFo hfo hGc hBc H hjL hset hL';go_wp2_with fail;refine HFo.out.mono ?_;intro e w9 hte;obtain⟨⟨v1,v2,v3,rfl,hOC⟩,hB9⟩:=hte;obtain⟨A1,n1,c1,e1,_,_⟩:=hOC.s.Yr;obtain⟨A2,n2,c2,e2,_,_⟩:=hOC.m.Yr;obtain⟨A3,n3,c3,e3,_,_⟩:=hOC.x.Yr;subst e1 e2 e3
    have hb10:=Yb w9 (.cells #[.int .i64 n9,.slice A1 n1 c1,.slice A2 n2 c2,.slice A3 n3 c3] 71)
    have hbk:=Block.new w9 71 #[.int .i64 n9,.slice A1 n1 c1,.slice A2 n2 c2,.slice A3 n3 c3]
    have HG10:=hid ((HGc.out.below hB9).below hb10)
    have hB10:=HBc.out.trans ((hB9.trans (hb10.mono hB9.size)).mono HBc.out.size)
    have HB10:=hid hB10
    have HOC:=hid (show X7 (w9.alloc (.cells #[.int .i64 n9,.slice A1 n1 c1,.slice A2 n2 c2,.slice A3 n3 c3] 71)) w1.heap.size (.slice A1 n1 c1) (.slice A2 n2 c2) (.slice A3 n3 c3) Su Mi Ma from⟨Yi.low (hOC.s.alloc _) HBc.out.size,Yi.low (hOC.m.alloc _) HBc.out.size,Yi.low (hOC.x.alloc _) HBc.out.size⟩)
    clear hOC hB9 HFo HGc HBc hB10;go_wp2_with fail;generalize w9.alloc (.cells #[.int .i64 n9,.slice A1 n1 c1,.slice A2 n2 c2,.slice A3 n3 c3] 71)=Y at hb10 hbk HG10 HB10 HOC⊢
    have hLn:=Hset.out.2.2
    have hG0:=HG10.out
    obtain⟨gA',cA',Bq,nq',cq',Am,nm,cm,ev,hgl,_,_,p0,_,_,_,_,_,_,hXm⟩:=hG0.at_ Hset.out.1;injection ev with e1 e2 e3
    injection e1 with e1
    injection e1 with e1 _ _
    subst e1 e3
    have q0:=hbk.cell 0
    have q1:=hbk.cell 1
    have q2:=hbk.cell 2
    have q3:=hbk.cell 3
    have hbZ:Below Y.heap.size Y (Y.drew.alloc (.cells #[.int .i64 n9,.slice A1 n1 c1,.slice A2 n2 c2,.slice A3 n3 c3] 71)):=(below_drewN (Below.refl _ Y) 1).alloc (aa _) _
    have pz:(Y.alloc (.cells #[.int .i64 n9,.slice A1 n1 c1,.slice A2 n2 c2,.slice A3 n3 c3] 71)).drew.cell? ⟨gA,j*7+2,none⟩=some (.slice Am nm cm):=(hbZ.cell (p:=⟨gA,j*7+2,none⟩) hgl).trans p0
    have Pz:=hid ((hbZ.cell (p:=⟨gA,j*7+2,none⟩) hgl).trans p0)
    have HXz:=hid (hXm.kept (P:=λ_=>False) (Kept.Y1 hbZ _) (λ_ _ h=>h) (λ_ _ h=>h))
    have HGz:Hid (Vv (Y.drew.alloc (.cells #[.int .i64 n9,.slice A1 n1 c1,.slice A2 n2 c2,.slice A3 n3 c3] 71)) w1.heap.size view (.slice (some ⟨gA,0,none⟩) L'.length cA) L'):=hid (by rw[hLn];exact hG0.below hbZ)
    have HCz:=hid (Yob Y.drew n9 A1 n1 c1 A2 n2 c2 A3 n3 c3 Y.heap.size rfl)
    have HEz:=hid ((HOC.out.below hbZ (aa _)).elB (n:=n9) (λk=>Ye1 (Y.drew.alloc (.cells #[.int .i64 n9,.slice A1 n1 c1,.slice A2 n2 c2,.slice A3 n3 c3] 71)) k/\(au Am nm cm).ownBlock≠some k) λk hk _=>⟨hk,HXz.out.Ysb (by decide) hk⟩)
    have hMl1:Hid ((M++[(n9,Su,Mi,Ma)]).length=M.length+1):=hid (by simp)
    have hMl:Hid (M.length<=1000000):=hid (by
     have h1:=Hset.out.2.1
     have h2:(kC Qs v f,M++[Zb f])∈Wu (kC Qs v) Zb (G.take (k+1)):=by rw[<-h1];exact af (i:=j) (by rw[List.getElem?_set,if_pos rfl,if_pos (by omega)])
     obtain⟨_,h3⟩:=U4.1 h2
     have h4:=congrArg List.length h3
     have h5:(Yf (kC Qs v) Zb (G.take (k+1)) (kC Qs v f)).length<=(G.take (k+1)).length:=by unfold Yf;rw[an];exact cn _ _
     have h6:=br (k+1) G
     simp only[ak,ay]at h4;omega)
    have hbs:Hid (w1.heap.size<=(Y.drew.alloc (.cells #[.int .i64 n9,.slice A1 n1 c1,.slice A2 n2 c2,.slice A3 n3 c3] 71)).heap.size):=hid (ao HB10.out.size hbZ.size)
    have hBZ:=hid (HB10.out.trans (hbZ.mono HB10.out.size))
    have hlm:=HXz.out.lt
    have hlG:=hG0.lt
    have hjl0:(0:Int)<=(j:Int):=by omega
    have hjl1:(j:Int)<(n':Int):=by omega
    have hof:Hid (Zb f=(n9,Su,Mi,Ma)):=hid (by show W6 f.2=_;rw[HqL.out.2.2];exact hcc.out)
    clear hbZ hXm hG0 hb10 hgl HG10 HB10 e2;go_region_law (refine Hr Zf rfl _ _ rfl Oc cz rfl (by decide) w1.heap.size (Ye1 _) (.slice Am nm cm) M rfl HXz.out _ rfl [.int .i64 n9,.slice A1 n1 c1,.slice A2 n2 c2,.slice A3 n3 c3] rfl (n9,Su,Mi,Ma) HCz.out (Ybn _ _ _ _ _ _ _ _ _ _) HEz.out hMl.out hbs.out ?_;intro v' w12 hO12 hG12;have hO13:=HXz.out.app (by decide) hO12 hG12;obtain⟨A12,c12,e12⟩:=hO13.shape;rw[hMl1.out]at e12;obtain⟨p12,f12,hM12⟩:=HGz.out.more Hset.out.1 Pz.out hO13 hG12;subst e12)
    all_goals
     have hFin:=hid (show Vv (w12.setCell ⟨gA,j*7+2,none⟩ (.slice A12 (M.length+1) c12)) w1.heap.size view (.slice (some ⟨gA,0,none⟩) n' cA) (Wu (kC Qs v) Zb (G.take (k+1)))/\Below w1.heap.size w1 (w12.setCell ⟨gA,j*7+2,none⟩ (.slice A12 (M.length+1) c12))from
      ⟨by rw[<-Hset.out.2.1,hof.out,<-hLn];exact hM12,(hBZ.out.trans (hG12.Yw hbs.out λq e=>(hlm q e).1)).setCell (p:=⟨gA,j*7+2,none⟩) (hlG gA rfl).1 _⟩)
     clear hO12 hG12 hO13 hM12 HEz HXz HGz HCz Pz pz p0 q0 q1 q2 q3 hlm hlG HOC;go_wp2_with fail;go_roundw
     case rel=>exact⟨k+1,by omega,by go_num,hid hFin.out.1,hFin.out.2⟩
     case measure=>simp[intOf];omega
  ·obtain rfl:k=nk:=by omega
   have hFin:=hid (show Vv wr w.heap.size view u11 (Wu (kC Qs v) Zb G)from by
    have h1:=hO.out
    rw[bp (by have:=Hlen.out;omega)]at h1
    exact h1.low HB1.out.size)
   clear hO;go_wp2_with fail;go_ret;exact⟨⟨_,rfl,hFin.out⟩,hBw⟩
section
theorem V8{α:Type}{E:ElT α}(hE:E.Ok){T TS:TypeId}{sz bytes:Nat}{z:Value}{w:World}{ops:Array Oper}{rest:List Oper}{o:Oper}{a:Act}{Q:Exit->Act->World->Prop}(hgd:o.guard=none)(s x:Operand)
  (ho:o.op=.call {callee:=.builtin .append,args:=#[s,x],argTypes:=#[TS,TS]}) (hinfo:(aj.info? T).map (λi=>(i.zero,i.size,i.bytes))=some (some z,sz,bytes)) (hTS:aj.underlying TS=some (.slice T)) (hzs:z.cells.size=sz) (hsz:0<sz/\sz<=100/\bytes<=1000)
  (base:Nat) (S:Nat->Prop) (v:Value) (L:List α) (hs:a.eval s=v) (hown:Yx E T sz w base S v L) (ad:Addr) (n c:Nat) (L2:List α) (hx:a.eval x=.slice (some ad) n c) (hr:Row E sz w (λk=>S k/\v.ownBlock≠some k) (some ad) n c L2) (hone:∀S us y,E w S us y->us.length=sz->∀u∈us,u.oneCell'=true) (hlen:L.length+n<=1000000) (hbase:base<=w.heap.size)
  (h:∀v' w',Yx E T sz w' base S v' (L++L2)->Zl w v w' v'→wpList aj ops Q rest (a.put o.dst v') w'):wpList aj ops Q (o::rest) a w:=by
 obtain⟨i,hi,hz0,hz1,hz2⟩:=info_parts hinfo;obtain⟨vs,h1,h2⟩:=hown;obtain⟨hl2,us,hS,hE2⟩:=hr
 have hul:=hS.len
 have hcut:∀j,j<n->((us.drop (j*sz)).take sz).length=sz:=λj hj=>by
  have:j*sz+sz<=n*sz:=by rw[<-cj];exact cw sz hj
  rw[bg,bj];omega
 have h1c:∀u∈us,u.oneCell'=true:=λu hu=>by
  obtain⟨t,ht⟩:=List.getElem?_of_mem hu
  have htl:=(bn.1 ht).1
  have hj:t/sz<n:=(Nat.div_lt_iff_lt_mul hsz.1).2 (by omega)
  have hm:t%sz<sz:=Nat.mod_lt _ hsz.1
  refine hone _ _ _ (hE2 (t/sz) _ (ai (by omega))) (hcut _ hj) u (af (i:=t%sz) ?_)
  rw[List.getElem?_take,if_pos hm,bs,Nat.mul_comm,Nat.div_add_mod,ht]
 have hcells:∀j u,us[j]?=some u->w.cell? (ad.add j)=some u:=λj u hu=>by
  have hpos:0<n:=by
   have h3:=(bn.1 hu).1
   rcases Nat.eq_zero_or_pos n with h4|h4
   ·rw[h4,Nat.zero_mul]at hul;omega
   ·exact h4
  obtain⟨b,q,e,_,_,hc⟩:=hS.has hpos;injection e with e
  subst e;rw[Yu];exact hc j u hu
 refine wpList_append_own_at w hgd s x TS ho base T i _ sz bytes hTS hi hz0 hz1 hz2 hzs hsz.1 v L.length vs hs h1 ad n c us hx hul hcells h1c (by unfold maxLen;omega) (by have:=di hlen hsz.2.2;omega) hbase ?_
 intro v' w' e1 e2 _ e4
 have hG:Zl w v w' v':=⟨e2,λk hk=>by
  rcases e4 with e4|e4
  ·exact .inl (e4▸hk)
  ·rw[e4]at hk
   injection hk with hk
   exact .inr (Nat.le_of_eq hk)⟩
 have hm:Mv w (λk=>S k/\v.ownBlock≠some k) w' (λk=>S k/\v'.ownBlock≠some k):=Mv.Ly hG
 have hvl:=h1.1
 refine h v' w' ⟨vs++us,by rw[ak,hl2];exact e1,λj y hj=>hE _ _ _ _ _ _ hm ?_⟩ hG
 by_cases hlt:j<L.length
 ·rw[List.getElem?_append_left hlt]at hj
  have hle:j*sz+sz<=L.length*sz:=by rw[<-cj];exact cw sz hlt
  rw[List.drop_append_of_le_length (by omega),List.take_append_of_le_length (by rw[bj];omega)]
  exact h2 j y hj
 ·rw[List.getElem?_append_right (by omega)]at hj
  have e:j*sz=vs.length+(j-L.length)*sz:=by rw[hvl,<-dp];congr 1;omega
  rw[e,List.drop_append,List.drop_of_length_le (by omega),List.nil_append,Nat.add_sub_cancel_left]
  exact hE2 _ y hj
theorem Yj9{w:World}{S:Nat->Prop}{us:List Value}{x:PC}(h:Z7 w S us x)(_hl:us.length=4):∀u∈us,u.oneCell'=true:=by
 obtain⟨n,A1,n1,c1,A2,n2,c2,A3,n3,c3,Su,M,X,rfl,_⟩:=Uv h;exact Ybn _ _ _ _ _ _ _ _ _ _
theorem Yx.Yxn{w:World}{n:Int}{A1 A2 A3:Option Addr}{n1 c1 n2 c2 n3 c3:Nat}{Su M X:List Int}(h:Z7 w (λb=>b<w.heap.size) [.int .i64 n,.slice A1 n1 c1,.slice A2 n2 c2,.slice A3 n3 c3] (n,Su,M,X)):Yx Z7 71 4 (w.alloc (.cells #[.int .i64 n,.slice A1 n1 c1,.slice A2 n2 c2,.slice A3 n3 c3] 71)) w.heap.size (λb=>b<w.heap.size) (.slice (some ⟨w.heap.size,0,none⟩) 1 1) [(n,Su,M,X)]:=by
 refine⟨[.int .i64 n,.slice A1 n1 c1,.slice A2 n2 c2,.slice A3 n3 c3],⟨rfl,.inr ⟨w.heap.size,1,_,rfl,aa _,heap_alloc_new w _,aa _,by unfold maxLen;omega,rfl,rfl⟩⟩,λi x hi=>?_⟩
 match i,hi with
 |0,hi=>
  simp at hi;subst hi;exact Zf _ _ _ _ _ _ ((Mv.alloc w _ _).trans (Mv.to _ λb hb _=>⟨hb,λe=>by simp[av]at e;omega⟩)) h
 |i+1,hi=>simp at hi
section
variable {w:World}{g:Nat}{X1 X2 X3 dv vv:Value}{ds:List DAt}{vs:List CAt}{N:List Nat}{Qs:List (List Pth)}{W m:Nat}{Cs:List Cub}{cnt:Int}
theorem Yff{W m:Nat}{C:Cub}(hC:Xw W m C)(K:List Int):J7 W C K=Za C K:=by
 unfold J7
 by_cases hk:isKey W K
 ·rw[if_pos hk]
 ·rw[if_neg hk]
  rcases hg:Za C K with _|u
  ·rfl
  ·exact absurd (hC.key _ (Xg hg)) hk
abbrev Sv:Array Value:=#[.int .i64 0,.slice none 0 0,.slice none 0 0,.slice none 0 0]
theorem R3(W1:World):Below W1.heap.size W1 W1.drew:=below_drewN (Below.refl _ W1) 1
theorem Tb(W1:World)(b:Obj):Below W1.heap.size W1 (W1.alloc b).drew:=((Below.refl _ W1).alloc (aa _) b).trans (below_drewN (Below.refl _ _) 1)
def Yxc(r:Nat)(w1:World)(x:PC×Int)(e:Ending)(w':World):Prop:=
 (∃A1 n1 c1 A2 n2 c2 A3 n3 c3,e=.returned (.tuple #[.agg #[.int .i64 x.1.1,.slice A1 n1 c1,.slice A2 n2 c2,.slice A3 n3 c3],.int .i64 x.2])/\X7 w' w1.heap.size (.slice A1 n1 c1) (.slice A2 n2 c2) (.slice A3 n3 c3) x.1.2.1 x.1.2.2.1 x.1.2.2.2)/\Below w1.heap.size w1 w'∧Block w' r 71 Sv
theorem Yik{w1 y:World}{r:Nat}{A:Option Addr}{n c:Nat}{L:List PC}(h:Xr y y.heap.size A n c L)(hn:n<=1000000)(hb:Below w1.heap.size w1 y)(hr:Block w1 r 71 Sv):
  Calls aj 106 #[.slice A n c] y (Yxc r w1 (Um L)):=by
 refine(R9 h hn).mono ?_;rintro e w6 ⟨⟨v1,v2,v3,rfl,hO⟩,hB⟩;obtain⟨A1,n1,c1,rfl,_,_⟩:=hO.s.Yr;obtain⟨A2,n2,c2,rfl,_,_⟩:=hO.m.Yr;obtain⟨A3,n3,c3,rfl,_,_⟩:=hO.x.Yr
 have hb6:=hb.trans (hB.mono hb.size)
 exact⟨⟨_,_,_,_,_,_,_,_,_,rfl,⟨Yi.low hO.s hb.size,Yi.low hO.m hb.size,Yi.low hO.x hb.size⟩⟩,hb6,hr.below hb6 hr.lt⟩
theorem Ymn(h:LtM w g X1 X2 X3 dv vv ds vs N Qs W m Cs cnt){v:Nat}(hv:v<Cs.length){q:Int}{A1 A3 A4 A5:Option Addr}{ad:Addr}{n1 c1 n2 c2 n3 c3 n4 c4 n5 c5:Nat}{K:List Int}{M:List PC}{S:Nat->Prop}(hK:Y2 w w.heap.size A1 n1 c1 K)(hM:Row Z7 4 w S (some ad) n2 c2 M)(hn:n2<=1000)(hgk:Za (Cs.getD v []) K=none):
  Calls aj 105 #[.pointer (some ⟨g,0,none⟩),.agg #[.int .i64 v,.slice A1 n1 c1,.slice (some ad) n2 c2,.int .i64 q,.slice A3 n3 c3,.slice A4 n4 c4,.slice A5 n5 c5]] w (Qw w (Xd (Cs.getD v []) K M)):=by
 obtain⟨Av,cv,evv,hvl,hat⟩:=h.Yat;subst evv;obtain⟨⟨gv,bw⟩,hcc⟩: ∃cc,Hid (vs[v]?=some cc):=⟨_,hid (ai (by omega))⟩
 obtain⟨bv,rfl,_,hbv,hcell⟩:=hat v _ hcc.out;obtain⟨C,hCe⟩: ∃C,C=Cs.getD v []:=⟨_,rfl⟩
 have hCb:=h.cbs.at_ v _ hcc.out
 dsimp only at hCb hcell
 rw[<-hCe]at hCb hgk⊢
 have hb0:=(Yb w (.cells #[.int .i64 v,.slice A1 n1 c1,.slice (some ad) n2 c2,.int .i64 q,.slice A3 n3 c3,.slice A4 n4 c4,.slice A5 n5 c5] 109))
 have hb1:=Ya hb0 (Yb (w.alloc (.cells #[.int .i64 v,.slice A1 n1 c1,.slice (some ad) n2 c2,.int .i64 q,.slice A3 n3 c3,.slice A4 n4 c4,.slice A5 n5 c5] 109)) (.cells #[.int .i64 0,.slice none 0 0,.slice none 0 0,.slice none 0 0] 71))
 have hbl:=(Sb w (.int .i64 v) (.slice A1 n1 c1) (.slice (some ad) n2 c2) (.int .i64 q) (.slice A3 n3 c3) (.slice A4 n4 c4) (.slice A5 n5 c5)).alloc (.cells #[.int .i64 0,.slice none 0 0,.slice none 0 0,.slice none 0 0] 71)
 have hbr:=Block.new (w.alloc (.cells #[.int .i64 v,.slice A1 n1 c1,.slice (some ad) n2 c2,.int .i64 q,.slice A3 n3 c3,.slice A4 n4 c4,.slice A5 n5 c5] 109)) 71 #[.int .i64 0,.slice none 0 0,.slice none 0 0,.slice none 0 0]
 rw[ae]at hbr
 have hM1:=h.below hb1
 have k4:=hM1.c4
 have g0:=(hb1.cell (p:=⟨bv,v,none⟩) hbv).trans hcell
 have HMr:=hid (hM.mv Zf ((Mv.to w (S':=λb=>S b/\b<w.heap.size) λb hb hl=>⟨hb,hl⟩).trans (Mv.below hb1 λb hb=>hb.2)))
 have HSum:=hid λy (hy:Below ((w.alloc (.cells #[.int .i64 v,.slice A1 n1 c1,.slice (some ad) n2 c2,.int .i64 q,.slice A3 n3 c3,.slice A4 n4 c4,.slice A5 n5 c5] 109)).alloc (.cells #[.int .i64 0,.slice none 0 0,.slice none 0 0,.slice none 0 0] 71)).heap.size ((w.alloc (.cells #[.int .i64 v,.slice A1 n1 c1,.slice (some ad) n2 c2,.int .i64 q,.slice A3 n3 c3,.slice A4 n4 c4,.slice A5 n5 c5] 109)).alloc (.cells #[.int .i64 0,.slice none 0 0,.slice none 0 0,.slice none 0 0] 71)) y)=>Yik (HMr.out.mv Zf ((Mv.to _ (S':=λb=>(S b/\b<w.heap.size)/\b<((w.alloc (.cells #[.int .i64 v,.slice A1 n1 c1,.slice (some ad) n2 c2,.int .i64 q,.slice A3 n3 c3,.slice A4 n4 c4,.slice A5 n5 c5] 109)).alloc (.cells #[.int .i64 0,.slice none 0 0,.slice none 0 0,.slice none 0 0] 71)).heap.size) λb hb hl=>⟨hb,hl⟩).trans (Mv.below hy λb hb=>hb.2))).Ylp (by omega) hy hbr
 have HGt:Hid (∀y,Below ((w.alloc (.cells #[.int .i64 v,.slice A1 n1 c1,.slice (some ad) n2 c2,.int .i64 q,.slice A3 n3 c3,.slice A4 n4 c4,.slice A5 n5 c5] 109)).alloc (.cells #[.int .i64 0,.slice none 0 0,.slice none 0 0,.slice none 0 0] 71)).heap.size ((w.alloc (.cells #[.int .i64 v,.slice A1 n1 c1,.slice (some ad) n2 c2,.int .i64 q,.slice A3 n3 c3,.slice A4 n4 c4,.slice A5 n5 c5] 109)).alloc (.cells #[.int .i64 0,.slice none 0 0,.slice none 0 0,.slice none 0 0] 71)) y->Calls aj 56 #[.pointer (some ⟨gv,0,none⟩),.slice A1 n1 c1] y (Fh y (J7 W C K))):=hid λy hy=>by
  have hy1:=hb1.trans (hy.mono hb1.size)
  exact Oj (hCb.Yc hy1) ((hK.below hy1 (aa _)).more hy1.size)
 have HCo:=hid hCb.ok
 have l1:=hbl.lt
 have l2:=ag h.blk.lt hb1.size
 have l3:=ag hbv hb1.size
 have i0:(0:Int)<=(v:Int):=by omega
 have i1:(v:Int)<(Cs.length:Int):=by omega
 clear h hat hCb hK hM hcell hM1 hb0 hCe;go_enter dm,dh;go_wp2_with fail;generalize (w.alloc (.cells #[.int .i64 v,.slice A1 n1 c1,.slice (some ad) n2 c2,.int .i64 q,.slice A3 n3 c3,.slice A4 n4 c4,.slice A5 n5 c5] 109)).alloc (.cells #[.int .i64 0,.slice none 0 0,.slice none 0 0,.slice none 0 0] 71)=W1 at hb1 hbl hbr k4 g0 l1 l2 l3 HMr HSum HGt⊢
 have k0:=hbl.cell 0
 have k1:=hbl.cell 1
 have k2:=hbl.cell 2
 have hgt:=HGt.out
 rw[Yff HCo.out,hgk]at hgt
 have HGt:=hid hgt
 have hwp:Xd C K M=Um M:=by unfold Xd;rw[hgk];rfl
 obtain⟨⟨⟨q9,Sx,Mx,Xx⟩,er⟩,hZ⟩: ∃z,Hid (Xd C K M=z):=⟨_,hid rfl⟩
 have HZ:=hid (hwp.symm.trans hZ.out)
 clear hgt hwp;go_upto_region 1 with fail
 go_cut [6,7] (λs6 s7 wx=>s7=.bool false/\Below W1.heap.size W1 wx/\∃gB:Nat,s6=.pointer (some ⟨gB,0,none⟩))
 case first=>
  go_region_law (go_simp;go_at_call 56;first
   |(refine az (HGt.out W1.drew (R3 W1)) ?_;intro e w5 hte;obtain⟨rfl,hB5⟩:=hte.none_;have hC5:=(R3 W1).trans hB5)
   |(refine az (HGt.out (W1.alloc (.cells Sv 71)).drew (Tb W1 _)) ?_;intro e w5 hte;obtain⟨rfl,hB5⟩:=hte.none_;have hC5:=(Tb W1 (.cells Sv 71)).trans (hB5.mono (Tb W1 (.cells Sv 71)).size);have hZ5:Block w5 W1.heap.size 71 Sv:=((Block.new W1 71 Sv).drewN 1).below hB5 (by rw[aq,ae];omega);have z0:=hZ5.cell 0;have z1:=hZ5.cell 1;have z2:=hZ5.cell 2;have z3:=hZ5.cell 3;have y0:=hZ5.free 0;have y1:=hZ5.free 1;have y2:=hZ5.free 2;have y3:=hZ5.free 3))
  all_goals
   go_wp2_with fail;go_meet
   first
    |exact⟨rfl,hC5.alloc hC5.size _,_,rfl⟩
    |exact⟨rfl,Yq (r:=W1.heap.size) hC5 (aa _) _ _ _ _,_,rfl⟩
 case rest=>
  obtain⟨rfl,hC5,gB,rfl⟩:=hcut
  have l5:=ag l1 hC5.size
  have kk2:=(hC5.cell (p:=⟨w.heap.size,2,none⟩) l1).trans k2
  clear HGt k0 k1 k2 k4 g0;go_wp2_with fail;refine az (HSum.out _ hC5) ?_;rintro e w6 ⟨⟨E1,d1,e1,E2,d2,e2,E3,d3,e3,rfl,hO6⟩,hB6,hR6⟩
  have hB7:=hb1.trans (hB6.mono hb1.size)
  have hrl:=hbr.lt
  have hz1:=hb1.size
  rw[HZ.out]at hO6⊢
  dsimp only at hO6⊢
  have r0:=hR6.cell 0
  have r1:=hR6.cell 1
  have r2:=hR6.cell 2
  have r3:=hR6.cell 3
  have f0:=hR6.free 0
  have f1:=hR6.free 1
  have f2:=hR6.free 2
  have f3:=hR6.free 3
  have hRR:=hid (hR6.Zp (.int .i64 q9) (.slice E1 d1 e1) (.slice E2 d2 e2) (.slice E3 d3 e3))
  have hRO:=hid ((hO6.Zp hrl (.int .i64 q9) (.slice E1 d1 e1) (.slice E2 d2 e2) (.slice E3 d3 e3)).low hz1)
  have hRB:=hid (Yq (r:=w.heap.size+1) hB7 (by omega) (.int .i64 q9) (.slice E1 d1 e1) (.slice E2 d2 e2) (.slice E3 d3 e3))
  clear hO6 hB6 hR6 hB7;go_wp2_with fail;refine bodyPost_ret (Ye rfl _ _ (w.heap.size+1) _ _ rfl hRR.out dc rfl Yz) rfl ?_;rw[hZ.out];exact⟨⟨_,_,_,rfl,hRO.out⟩,hRB.out⟩
theorem Ymw(h:LtM w g X1 X2 X3 dv vv ds vs N Qs W m Cs cnt){v:Nat}(hv:v<Cs.length){q:Int}{A1 A3 A4 A5:Option Addr}{ad:Addr}{n1 c1 n2 c2 n3 c3 n4 c4 n5 c5:Nat}{K:List Int}{M:List PC}{S:Nat->Prop}(hK:Y2 w w.heap.size A1 n1 c1 K)(hM:Row Z7 4 w S (some ad) n2 c2 M)(hn:n2<=1000){n9:Int}{Su Mi Ma:List Int}(hgk:Za (Cs.getD v []) K=some (n9,Su,Mi,Ma)):
  Calls aj 105 #[.pointer (some ⟨g,0,none⟩),.agg #[.int .i64 v,.slice A1 n1 c1,.slice (some ad) n2 c2,.int .i64 q,.slice A3 n3 c3,.slice A4 n4 c4,.slice A5 n5 c5]] w (Qw w (Xd (Cs.getD v []) K M)):=by
 obtain⟨Av,cv,evv,hvl,hat⟩:=h.Yat;subst evv;obtain⟨⟨gv,bw⟩,hcc⟩: ∃cc,Hid (vs[v]?=some cc):=⟨_,hid (ai (by omega))⟩
 obtain⟨bv,rfl,_,hbv,hcell⟩:=hat v _ hcc.out;obtain⟨C,hCe⟩: ∃C,C=Cs.getD v []:=⟨_,rfl⟩
 have hCb:=h.cbs.at_ v _ hcc.out
 dsimp only at hCb hcell
 rw[<-hCe]at hCb hgk⊢
 have hb0:=(Yb w (.cells #[.int .i64 v,.slice A1 n1 c1,.slice (some ad) n2 c2,.int .i64 q,.slice A3 n3 c3,.slice A4 n4 c4,.slice A5 n5 c5] 109))
 have hb1:=Ya hb0 (Yb (w.alloc (.cells #[.int .i64 v,.slice A1 n1 c1,.slice (some ad) n2 c2,.int .i64 q,.slice A3 n3 c3,.slice A4 n4 c4,.slice A5 n5 c5] 109)) (.cells #[.int .i64 0,.slice none 0 0,.slice none 0 0,.slice none 0 0] 71))
 have hbl:=(Sb w (.int .i64 v) (.slice A1 n1 c1) (.slice (some ad) n2 c2) (.int .i64 q) (.slice A3 n3 c3) (.slice A4 n4 c4) (.slice A5 n5 c5)).alloc (.cells #[.int .i64 0,.slice none 0 0,.slice none 0 0,.slice none 0 0] 71)
 have hbr:=Block.new (w.alloc (.cells #[.int .i64 v,.slice A1 n1 c1,.slice (some ad) n2 c2,.int .i64 q,.slice A3 n3 c3,.slice A4 n4 c4,.slice A5 n5 c5] 109)) 71 #[.int .i64 0,.slice none 0 0,.slice none 0 0,.slice none 0 0]
 rw[ae]at hbr
 have hM1:=h.below hb1
 have k4:=hM1.c4
 have g0:=(hb1.cell (p:=⟨bv,v,none⟩) hbv).trans hcell
 have HMr:=hid (hM.mv Zf ((Mv.to w (S':=λb=>S b/\b<w.heap.size) λb hb hl=>⟨hb,hl⟩).trans (Mv.below hb1 λb hb=>hb.2)))
 have HSum:=hid λy (hy:Below ((w.alloc (.cells #[.int .i64 v,.slice A1 n1 c1,.slice (some ad) n2 c2,.int .i64 q,.slice A3 n3 c3,.slice A4 n4 c4,.slice A5 n5 c5] 109)).alloc (.cells #[.int .i64 0,.slice none 0 0,.slice none 0 0,.slice none 0 0] 71)).heap.size ((w.alloc (.cells #[.int .i64 v,.slice A1 n1 c1,.slice (some ad) n2 c2,.int .i64 q,.slice A3 n3 c3,.slice A4 n4 c4,.slice A5 n5 c5] 109)).alloc (.cells #[.int .i64 0,.slice none 0 0,.slice none 0 0,.slice none 0 0] 71)) y)=>Yik (HMr.out.mv Zf ((Mv.to _ (S':=λb=>(S b/\b<w.heap.size)/\b<((w.alloc (.cells #[.int .i64 v,.slice A1 n1 c1,.slice (some ad) n2 c2,.int .i64 q,.slice A3 n3 c3,.slice A4 n4 c4,.slice A5 n5 c5] 109)).alloc (.cells #[.int .i64 0,.slice none 0 0,.slice none 0 0,.slice none 0 0] 71)).heap.size) λb hb hl=>⟨hb,hl⟩).trans (Mv.below hy λb hb=>hb.2))).Ylp (by omega) hy hbr
 have HGt:Hid (∀y,Below ((w.alloc (.cells #[.int .i64 v,.slice A1 n1 c1,.slice (some ad) n2 c2,.int .i64 q,.slice A3 n3 c3,.slice A4 n4 c4,.slice A5 n5 c5] 109)).alloc (.cells #[.int .i64 0,.slice none 0 0,.slice none 0 0,.slice none 0 0] 71)).heap.size ((w.alloc (.cells #[.int .i64 v,.slice A1 n1 c1,.slice (some ad) n2 c2,.int .i64 q,.slice A3 n3 c3,.slice A4 n4 c4,.slice A5 n5 c5] 109)).alloc (.cells #[.int .i64 0,.slice none 0 0,.slice none 0 0,.slice none 0 0] 71)) y->Calls aj 56 #[.pointer (some ⟨gv,0,none⟩),.slice A1 n1 c1] y (Fh y (J7 W C K))):=hid λy hy=>by
  have hy1:=hb1.trans (hy.mono hb1.size)
  exact Oj (hCb.Yc hy1) ((hK.below hy1 (aa _)).more hy1.size)
 have HCo:=hid hCb.ok
 have l1:=hbl.lt
 have l2:=ag h.blk.lt hb1.size
 have l3:=ag hbv hb1.size
 have i0:(0:Int)<=(v:Int):=by omega
 have i1:(v:Int)<(Cs.length:Int):=by omega
 clear h hat hCb hK hM hcell hM1 hb0 hCe;go_enter dm,dh;go_wp2_with fail;generalize (w.alloc (.cells #[.int .i64 v,.slice A1 n1 c1,.slice (some ad) n2 c2,.int .i64 q,.slice A3 n3 c3,.slice A4 n4 c4,.slice A5 n5 c5] 109)).alloc (.cells #[.int .i64 0,.slice none 0 0,.slice none 0 0,.slice none 0 0] 71)=W1 at hb1 hbl hbr k4 g0 l1 l2 l3 HMr HSum HGt⊢
 have k0:=hbl.cell 0
 have k1:=hbl.cell 1
 have k2:=hbl.cell 2
 have hgt:=HGt.out
 rw[Yff HCo.out,hgk]at hgt
 have HGt:=hid hgt
 have hwp:Xd C K M=Um ((n9,Su,Mi,Ma)::M):=by unfold Xd;rw[hgk];rfl
 obtain⟨⟨⟨q9,Sx,Mx,Xx⟩,er⟩,hZ⟩: ∃z,Hid (Xd C K M=z):=⟨_,hid rfl⟩
 have HZ:=hid (hwp.symm.trans hZ.out)
 clear hgt hwp;go_upto_region 1 with fail
 go_cut [6,7] (λs6 s7 wx=>s7=.bool true/\Below W1.heap.size W1 wx/\∃(gB:Nat) (D1:Option Addr) (m1 d1:Nat) (D2:Option Addr) (m2 d2:Nat) (D3:Option Addr) (m3 d3:Nat),s6=.pointer (some ⟨gB,0,none⟩)/\Block wx gB 71 #[.int .i64 n9,.slice D1 m1 d1,.slice D2 m2 d2,.slice D3 m3 d3]/\Hid (X7 wx W1.heap.size (.slice D1 m1 d1) (.slice D2 m2 d2) (.slice D3 m3 d3) Su Mi Ma))
 case first=>
  go_region_law (go_simp;go_at_call 56;first
   |(refine az (HGt.out W1.drew (R3 W1)) ?_;intro e w5 hte;obtain⟨⟨v1,v2,v3,rfl,hOC⟩,hB5⟩:=hte.some_;obtain⟨D1,m1,d1,rfl,_,_⟩:=hOC.s.Yr;obtain⟨D2,m2,d2,rfl,_,_⟩:=hOC.m.Yr;obtain⟨D3,m3,d3,rfl,_,_⟩:=hOC.x.Yr;have hC5:=(R3 W1).trans hB5)
   |(refine az (HGt.out (W1.alloc (.cells Sv 71)).drew (Tb W1 _)) ?_;intro e w5 hte;obtain⟨⟨v1,v2,v3,rfl,hOC⟩,hB5⟩:=hte.some_;obtain⟨D1,m1,d1,rfl,_,_⟩:=hOC.s.Yr;obtain⟨D2,m2,d2,rfl,_,_⟩:=hOC.m.Yr;obtain⟨D3,m3,d3,rfl,_,_⟩:=hOC.x.Yr;have hC5:=(Tb W1 (.cells Sv 71)).trans (hB5.mono (Tb W1 (.cells Sv 71)).size);have hZ5:Block w5 W1.heap.size 71 Sv:=((Block.new W1 71 Sv).drewN 1).below hB5 (by rw[aq,ae];omega);have z0:=hZ5.cell 0;have z1:=hZ5.cell 1;have z2:=hZ5.cell 2;have z3:=hZ5.cell 3;have y0:=hZ5.free 0;have y1:=hZ5.free 1;have y2:=hZ5.free 2;have y3:=hZ5.free 3))
  all_goals
   go_wp2_with fail;go_meet
   first
    |exact⟨rfl,hC5.alloc hC5.size _,_,_,_,_,_,_,_,_,_,_,rfl,Block.new w5 _ _,hid ⟨hOC.s.alloc _,hOC.m.alloc _,hOC.x.alloc _⟩⟩
    |exact⟨rfl,Yq (r:=W1.heap.size) hC5 (aa _) _ _ _ _,_,_,_,_,_,_,_,_,_,_,rfl,hZ5.Zp _ _ _ _,hid ((hOC.Zp (r:=W1.heap.size) (by rw[aq,ae];omega) _ _ _ _).low (by rw[aq,ae];omega))⟩
 case rest=>
  obtain⟨rfl,hC5,gB,D1,m1,d1,D2,m2,d2,D3,m3,d3,rfl,hBk,hOC⟩:=hcut
  have hz1:=hb1.size
  have hsz:=hC5.size
  have l5:=ag l1 hC5.size
  have kk2:=(hC5.cell (p:=⟨w.heap.size,2,none⟩) l1).trans k2
  have q0:=hBk.cell 0
  have q1:=hBk.cell 1
  have q2:=hBk.cell 2
  have q3:=hBk.cell 3
  have hLit:=hid (Yx.Yxn (hOC.out.elB (n:=n9) (λb=>b<wc.heap.size) λk hk _=>(Array.getElem?_eq_some_iff.1 hk.choose_spec).1))
  have hb8:=hC5.trans ((Yb wc (.cells #[.int .i64 n9,.slice D1 m1 d1,.slice D2 m2 d2,.slice D3 m3 d3] 71)).mono hsz)
  have HM8:=hid (HMr.out.mv Zf ((Mv.below hb8 λb hb=>ag hb.2 hz1).trans (Mv.to _ (S':=λk=>k<wc.heap.size/\(au (some ⟨wc.heap.size,0,none⟩) 1 1).ownBlock≠some k) λb hb _=>⟨by have:=hb.2;omega,λe=>by simp[av]at e;have:=hb.2;omega⟩)))
  have hml:=HMr.out.1
  have hs8:Hid (wc.heap.size<=(wc.alloc (.cells #[.int .i64 n9,.slice D1 m1 d1,.slice D2 m2 d2,.slice D3 m3 d3] 71)).heap.size):=hid (by rw[ae];omega)
  have hlm:Hid ([(n9,Su,Mi,Ma)].length+n2<=1000000):=hid (by simp only[ay];omega)
  have HB8:=hid hb8
  clear HGt k0 k1 k2 k4 g0 hb8;go_wp2_with (at_builtin;refine V8 Zf rfl _ _ rfl Oc cz rfl (by decide) wc.heap.size (λb=>b<wc.heap.size) (.slice (some ⟨wc.heap.size,0,none⟩) 1 1) [(n9,Su,Mi,Ma)] rfl hLit.out ad n2 c2 M rfl HM8.out (λ_ _ _ h hl=>Yj9 h hl) hlm.out hs8.out ?_)
  intro v' w9 hO9 hG9;obtain⟨A9,c9,rfl,hRw⟩:=hO9.read Zf
  have hb9:=HB8.out.trans (hG9.Yw HB8.out.size λk e=>by simp[av]at e;omega)
  have hs9:=Yik hRw.Ylp (by rw[dd];omega) hb9 hbr
  rw[dd,hml]at hs9
  have HS9:=hid hs9
  clear hO9 hG9 hRw hLit HM8 HMr hs9;go_wp2_with fail;refine az HS9.out ?_;rintro e w6 ⟨⟨E1,d1,e1,E2,d2,e2,E3,d3,e3,rfl,hO6⟩,hB6,hR6⟩
  have hB7:=hb1.trans (hB6.mono hb1.size)
  have hrl:=hbr.lt
  have hz1:=hb1.size
  rw[HZ.out]at hO6⊢
  dsimp only at hO6⊢
  have r0:=hR6.cell 0
  have r1:=hR6.cell 1
  have r2:=hR6.cell 2
  have r3:=hR6.cell 3
  have f0:=hR6.free 0
  have f1:=hR6.free 1
  have f2:=hR6.free 2
  have f3:=hR6.free 3
  have hRR:=hid (hR6.Zp (.int .i64 q9) (.slice E1 d1 e1) (.slice E2 d2 e2) (.slice E3 d3 e3))
  have hRO:=hid ((hO6.Zp hrl (.int .i64 q9) (.slice E1 d1 e1) (.slice E2 d2 e2) (.slice E3 d3 e3)).low hz1)
  have hRB:=hid (Yq (r:=w.heap.size+1) hB7 (by omega) (.int .i64 q9) (.slice E1 d1 e1) (.slice E2 d2 e2) (.slice E3 d3 e3))
  clear hO6 hB6 hR6 hB7;go_wp2_with fail;refine bodyPost_ret (Ye rfl _ _ (w.heap.size+1) _ _ rfl hRR.out dc rfl Yz) rfl ?_;rw[hZ.out];exact⟨⟨_,_,_,rfl,hRO.out⟩,hRB.out⟩
theorem Yr4(h:LtM w g X1 X2 X3 dv vv ds vs N Qs W m Cs cnt){v:Nat}(hv:v<Cs.length){q:Int}{A1 A3 A4 A5:Option Addr}{ad:Addr}{n1 c1 n2 c2 n3 c3 n4 c4 n5 c5:Nat}{K:List Int}{M:List PC}{S:Nat->Prop}(hK:Y2 w w.heap.size A1 n1 c1 K)(hM:Row Z7 4 w S (some ad) n2 c2 M)(hn:n2<=1000):
  Calls aj 105 #[.pointer (some ⟨g,0,none⟩),.agg #[.int .i64 v,.slice A1 n1 c1,.slice (some ad) n2 c2,.int .i64 q,.slice A3 n3 c3,.slice A4 n4 c4,.slice A5 n5 c5]] w (Qw w (Xd (Cs.getD v []) K M)):=by
 rcases hgk:Za (Cs.getD v []) K with _|⟨n9,Su,Mi,Ma⟩
 ·exact Ymn h hv hK hM hn hgk
 ·exact Ymw h hv hK hM hn hgk
end
end
section
def KdB(w:World):Nat->Prop:=λk=>∃cs T,(T=3∨T=71)/\w.heap[k]?=some (.cells cs T (0,0))
section
variable {w w' : World}
theorem KdB.mv(h:∀k cs T,(T=3∨T=71)->k<w.heap.size->w.heap[k]?=some (.cells cs T (0,0))->w'.heap[k]?=w.heap[k]?):Mv w (KdB w) w' (KdB w'):=λb hb hl=>by
 obtain⟨cs,T,hT,hc⟩:=hb
 have e:=h b cs T hT hl hc
 exact⟨e,cs,T,hT,e.trans hc⟩
theorem KdB.below(hb:Below w.heap.size w w'):Mv w (KdB w) w' (KdB w'):=KdB.mv λk _ _ _ hl _=>hb.block k hl
theorem KdB.Ly{B size n:Nat}{e:TypeId}{v v':Value}{xs:List Value}(hr:w.ownsRow B e size v n xs)(hG:Zl w v w' v')(h1:e≠3)(h2:e≠71):Mv w (KdB w) w' (KdB w'):=KdB.mv λk cs T hT hl hc=>hG.1.block k hl λe'=>Y8 hr hc (by rcases hT with rfl|rfl <;> assumption) e'.symm
end
def Kr:ElT Chn:=λw S us x=>∃(A1:Option Addr) (n1 c1:Nat) (ad:Addr) (n2 c2:Nat) (n:Int) (A3:Option Addr) (n3 c3:Nat) (A4:Option Addr) (n4 c4:Nat) (A5:Option Addr) (n5 c5:Nat),
 us=[.int .i64 (x.1.1:Int),.slice A1 n1 c1,.slice (some ad) n2 c2,.int .i64 n,.slice A3 n3 c3,.slice A4 n4 c4,.slice A5 n5 c5]/\Row Yy 1 w S A1 n1 c1 x.1.2/\Row Z7 4 w S (some ad) n2 c2 x.2.1/\Z7 w S [.int .i64 n,.slice A3 n3 c3,.slice A4 n4 c4,.slice A5 n5 c5] x.2.2
theorem Sm:Kr.Ok:=λ_ _ _ _ _ _ hm ⟨A1,n1,c1,ad,n2,c2,n,A3,n3,c3,A4,n4,c4,A5,n5,c5,e,h1,h2,h3⟩=>⟨A1,n1,c1,ad,n2,c2,n,A3,n3,c3,A4,n4,c4,A5,n5,c5,e,h1.mv Yh hm,h2.mv Zf hm,Zf _ _ _ _ _ _ hm h3⟩
abbrev Qq(w:World)(base:Nat)(v:Value)(L:List Chn):Prop:=Yx Kr 109 7 w base (KdB w) v L
section
variable {w w' : World}{base B:Nat}{v v' : Value}{L L' : List Chn}
theorem Qq.Zj(w:World)(base:Nat):Qq w base (.slice none 0 0) []:=Yx.Zj _ _ _
theorem Qq.to_(h:Yx Kr 109 7 w' base (KdB w) v L)(hm:Mv w (KdB w) w' (KdB w')):Qq w' base v L:=h.to Sm λk hk _=>by
 have hl:k<w.heap.size:=by
  obtain⟨cs,T,_,hc⟩:=hk;exact(Array.getElem?_eq_some_iff.1 hc).1
 exact(hm k hk hl).2
theorem Qq.below(h:Qq w base v L)(hb:Below w.heap.size w w'):Qq w' base v L:=Qq.to_ (Yx.below Sm h hb) (KdB.below hb)
theorem Qq.app(h:Qq w base v L)(h6:Yx Kr 109 7 w' base (KdB w) v' L')(hG:Zl w v w' v'):Qq w' base v' L':=by
 obtain⟨vs,h1,_⟩:=h;exact Qq.to_ h6 (KdB.Ly h1 hG (by decide) (by decide))
theorem Vv.Ly{view:Int}{r:Value}{G:List (List Int×List PC)}(hg:Vv w B view r G)(h:Qq w base v L)(hG:Zl w v w' v')(hne:∀k,r.ownBlock=some k->v.ownBlock≠some k):Vv w' B view r G:=by
 obtain⟨xs,hx,_⟩:=h;obtain⟨ps,h0,h1,h2,h3⟩:=hg
 have kI:∀{u:Value}{l:List Int},Yi w B u l->Yi w' B u l:=λ{u l} hu=>World.ownsRow.kept hu hG.1 (V3 hu hx (by decide))
 have kX:∀{u:Value}{l:List PC},R5 w B u l->R5 w' B u l:=λ{u l} hu=>hu.kept (Kept.W5 hG.1) (λk hk e=>by
  obtain⟨cs,hc⟩:=hk;exact Y8 hx hc (by decide) e) (λk hk e=>by
  obtain⟨xs',hx',_⟩:=hu
  rcases V3 hx' hx (by decide)with h4|h4
  ·rw[hk]at h4;cases h4
  ·exact h4 (hk.trans e.symm))
 refine⟨ps,h0,?_,λi p x hp hx=>⟨kI (h2 i p x hp hx).1,kX (h2 i p x hp hx).2⟩,h3⟩
 refine World.ownsRow.kept h1 hG.1 ?_
 rcases hr:r.ownBlock with _|k
 ·exact .inl rfl
 ·exact .inr λe=>hne k hr e.symm
theorem Ykk{vw:Nat}{K:List Int}{M:List PC}{n:Int}{A1 A3 A4 A5:Option Addr}{ad:Addr}{n1 c1 n2 c2 n3 c3 n4 c4 n5 c5 B0:Nat}{Su Mi Ma:List Int}(h:Qq w base v L)(hK:Yi w B (.slice A1 n1 c1) K)(hM:R5 w B (.slice (some ad) n2 c2) M)(hC:X7 w B0 (.slice A3 n3 c3) (.slice A4 n4 c4) (.slice A5 n5 c5) Su Mi Ma):
  Kr w (λk=>KdB w k/\v.ownBlock≠some k) [.int .i64 vw,.slice A1 n1 c1,.slice (some ad) n2 c2,.int .i64 n,.slice A3 n3 c3,.slice A4 n4 c4,.slice A5 n5 c5] ((vw,K),(M,(n,Su,Mi,Ma))):=by
 obtain⟨xs,hx,_⟩:=h
 have hne:∀k,KdB w k->v.ownBlock≠some k:=λk hk=>by
  obtain⟨cs,T,hT,hc⟩:=hk;exact Y8 hx hc (by rcases hT with rfl|rfl <;> decide)
 have hI:∀k,Ye1 w k->KdB w k:=λk ⟨cs,hc⟩=>⟨cs,_,.inl rfl,hc⟩
 refine⟨A1,n1,c1,ad,n2,c2,n,A3,n3,c3,A4,n4,c4,A5,n5,c5,rfl,?_,?_,hC.elB _ λk hk _=>⟨hI k hk,hne k (hI k hk)⟩⟩
 ·have h2:Yx Yy 3 1 w B (λ_=>False) (.slice A1 n1 c1) K:=hK.Bc
  obtain⟨A,c,e,hr⟩:=h2.read Yh;injection e with e1 e2 e3
  subst e1 e2 e3;refine hr.mv Yh (Mv.to w λb hb hl=>?_)
  rcases hb with hb|⟨_,hb⟩
  ·exact hb.elim
  ·obtain⟨cs,fr,hc⟩:=Wb hK hb
   have hk:KdB w b:=by
    rcases hK.2 with⟨e0,_⟩|⟨g,cap,cur,e0,_,hg,_⟩
    ·rw[e0]at hb;cases hb
    ·rw[e0]at hb
     have e3:g=b:=by simpa[av]using hb
     subst e3;exact⟨_,_,.inl rfl,hg⟩
   exact⟨hk,hne b hk⟩
 ·obtain⟨ys,hy,_⟩:=id hM
  obtain⟨A,c,e,hr⟩:=Yx.read Zf hM;injection e with e1 e2 e3
  subst e1 e2 e3;refine hr.mv Zf (Mv.to w λb hb hl=>?_)
  rcases hb with hb|⟨_,hb⟩
  ·exact⟨hI b hb,hne b (hI b hb)⟩
  ·have hk:KdB w b:=by
    rcases hy.2 with⟨e0,_⟩|⟨g,cap,cur,e0,_,hg,_⟩
    ·rw[e0]at hb;cases hb
    ·rw[e0]at hb
     have e3:g=b:=by simpa[av]using hb
     subst e3;exact⟨_,_,.inr rfl,hg⟩
   exact⟨hk,hne b hk⟩
end
end
def KeB(w:World):Nat->Prop:=λk=>∃cs T,(T=3∨T=71∨T=109)/\w.heap[k]?=some (.cells cs T (0,0))
theorem KeB.Yvo{ds:List DAt}{vs:List CAt}(hL:LtM w g X1 X2 X3 dv vv ds vs N Qs W m Cs cnt)(hc:Chg (Zm g dv vv ds vs) w w'):Mv w (KeB w) w' (KeB w'):=λk hb hl=>by
 obtain⟨cs,T,hT,hk⟩:=hb
 have e:=hc.block k hl λhf=>by
  obtain⟨o,ho,hi⟩:=hL.kind hf;rw[hk]at ho;injection ho with ho
  subst ho
  rcases hT with rfl|rfl|rfl <;> simp[St]at hi
 exact⟨e,cs,T,hT,e.trans hk⟩
theorem KeB.below(hb:Below w.heap.size w w'):Mv w (KeB w) w' (KeB w'):=λk h hl=>by
 obtain⟨cs,T,hT,hk⟩:=h;exact⟨hb.block k hl,cs,T,hT,(hb.block k hl).trans hk⟩
theorem Qq.Yww{L:List Chn}(h:Qq w base v L):∃A c,v=.slice A L.length c/\Row Kr 7 w (KeB w) A L.length c L:=by
 obtain⟨A,c,e,hr⟩:=Yx.read Sm h;obtain⟨xs,hx,_⟩:=h;refine⟨A,c,e,hr.mv Sm (Mv.to w λb hb hl=>?_)⟩
 rcases hb with⟨cs,T,hT,hc⟩|⟨_,hb⟩
 ·exact⟨cs,T,by rcases hT with h|h <;> simp[h],hc⟩
 ·rcases hx.2 with⟨e0,_⟩|⟨g,cap,cur,e0,_,hg,_⟩
  ·rw[e0]at hb;cases hb
  ·rw[e0]at hb
   have e3:g=b:=by simpa[av]using hb
   subst e3;exact⟨_,_,.inr (.inr rfl),hg⟩
theorem D8(Rs:List (List Pth))(Vs:List (List Int))(Cs:List Cub)(G:List Fct):∀n,(Sd Rs Vs Cs G n).length<=n*G.length
 |0=>by simp[Ypk]
 |n+1=>by
  rw[Hc,ak,cj]
  have h1:=D8 Rs Vs Cs G n
  have h2:=Bg (kC Rs (Vs.getD n [])) Zb G
  have h3:(Lc n (Cs.getD n []) (Wu (kC Rs (Vs.getD n [])) Zb G)).length=(Wu (kC Rs (Vs.getD n [])) Zb G).length:=by unfold Lc;rw[an]
  omega
theorem Yng{v:Nat}{L:List (List Int×List PC)}{j:Nat}{M:List PC}(h:L[j]?=some (K,M)):(Lc v C L).take (j+1)=(Lc v C L).take j++[((v,K),(M,(Xd C K M).1))]:=
 Z8 (by unfold Lc;rw[bo,h];rfl)
def E5(w:World)(Qs:List (List Pth))(Vs:List (List Int))(Cs:List Cub)(cnt:Int)(G:List Fct)(e:Ending)(w':World):Prop:=
 ((1099511627776<cnt+(G.length:Int)/\e=.returned (.tuple #[.slice none 0 0,.int .i64 14]))∨
  (cnt+(G.length:Int)<=1099511627776/\∃(i:Nat) (x:List Int×List PC),i<Vs.length/\x∈Wu (kC Qs (Vs.getD i [])) Zb G/\(Xd (Cs.getD i []) x.1 x.2).2≠0/\e=.returned (.tuple #[.slice none 0 0,.int .i64 (Xd (Cs.getD i []) x.1 x.2).2]))∨
  (cnt+(G.length:Int)<=1099511627776/\(∀i,i<Vs.length->okV (Cs.getD i []) (Wu (kC Qs (Vs.getD i [])) Zb G))/\∃A c,e=.returned (.tuple #[.slice A (Sd Qs Vs Cs G Vs.length).length c,.int .i64 0])/\Row Kr 7 w' (KeB w') A (Sd Qs Vs Cs G Vs.length).length c (Sd Qs Vs Cs G Vs.length)))∧
 Below w.heap.size w w'
theorem X7.Ys{r:Nat}{v1 v2 v3:Value}{S M X:List Int}(h:X7 w base v1 v2 v3 S M X)(hr:r<base)(j:Nat)(u:Value):X7 (w.setCell ⟨r,j,none⟩ u) base v1 v2 v3 S M X:=by
 have key:∀{v:Value}{l:List Int},Yi w base v l->Yi (w.setCell ⟨r,j,none⟩ u) base v l:=λh=>h.other (λe=>by have:=(h.lt r e).1;omega) u
 exact⟨key h.s,key h.m,key h.x⟩
theorem Yix(i:Int)(A1:Option Addr)(n1 c1:Nat)(A2:Option Addr)(n2 c2:Nat)(j:Int)(A3:Option Addr)(n3 c3:Nat)(A4:Option Addr)(n4 c4:Nat)(A5:Option Addr)(n5 c5:Nat):∀u∈[db .i64 i,.slice A1 n1 c1,.slice A2 n2 c2,.int .i64 j,.slice A3 n3 c3,.slice A4 n4 c4,.slice A5 n5 c5],u.oneCell'=true:=by
 intro u hu;simp only[List.mem_cons,List.not_mem_nil,or_false]at hu
 rcases hu with rfl|rfl|rfl|rfl|rfl|rfl|rfl <;> rfl
theorem Yee{B3:Option Addr}{n2:Nat}{ds:List DAt}{vs:List CAt}{D:List Yk}{Me:List Txt}{V:List (List Int)}{R:Nat->Prop}(h:LtM w g (.slice B1 n1 c1) (.slice B2 n2 c2) (.slice B3 n3 c3) dv vv ds vs (Yj D) Qs W m Cs cnt)(hS:Vw w R B1 n1 c1 B2 n2 c2 B3 n3 c3 D Me V)(hm:Wk D Me V)(hCl:Cs.length=(Yg D V).length)(hc0:0<=cnt)(hc1:cnt<=1099511627776){Ak Af:Option Addr}{nk ck nf cf:Nat}{S:Nat->Prop}{Ks:List (List Int)}{G:List Fct}
  (hK:Tg w w.heap.size Ak nk ck Ks) (hF:S0 w S Af nf cf G) (hn:nf<=1000) (hsm:∀f∈G,Yai f) (hval:m<=2/\∀f∈G,isVal m f.2) (hnk:nk=nf)
  (hkey:∀(i:Nat) (f:Fct),G[i]?=some f->Q8 (Yj D) Qs (Ks.getD i [])/\∀v,On (Yj D) v->upB Qs (Ks.getD i []) v=kC Qs v f):
  Calls aj 51 #[.pointer (some ⟨g,0,none⟩),.slice Ak nk ck,.slice Af nf cf] w (E5 w Qs (Yg D V) Cs cnt G):=by
 subst hnk
 have Hlen:=hid (hF.len)
 obtain⟨Av,cv,evv,hvl,hat⟩:=h.Yat;subst evv
 have hfew:=Wx hm
 have hDl:D.length<=3:=by have:=hm.1.2.2.1;rw[an]at this;exact this
 have hNl:(Yj D).length<=3:=by unfold Yj;rw[an];exact hDl
 have hsms:=Rw hm
 have HLev:=hid (Ty hm)
 have hsl1:=hS.d.1
 have hsl3:=hS.v.1
 have HVw:=hid (Ybx hS.has (by omega) (by have:=hsms.v.1;omega) hsms.v.2)
 have k4:=h.c4
 have k0:=h.c0
 have k1:=h.c1
 have k2:=h.c2
 have k5:=h.c5
 have HM:=hid h
 have HK:=hid hK
 have HF:=hid hF
 have Hsm:=hid hsm
 have Hval:=hid hval
 have Hkey:=hid hkey
 have HN:=hid hNl
 have hnk2:nk<=1000:=hn
 have hwr:IntKind.i64.wrap (cnt+(nk:Int))=cnt+(nk:Int):=IntWalk.i64_in _ (by omega)
 have hcapk:=hK.cap
 obtain⟨nv,hnv⟩: ∃nv,Hid ((Yg D V).length=nv):=⟨_,hid rfl⟩;rw[hnv.out]at hfew hCl
 have HCl:=hid hCl
 rw[hCl]at k4;obtain⟨Vs,hVs⟩: ∃Vs,Hid (Yg D V=Vs):=⟨_,hid rfl⟩;rw[hVs.out]at hnv HVw HLev⊢;clear h hS hm hCl hK hF hsm hval hkey hNl hsms hvl hat hsl1 hsl3 hn hDl
 by_cases hbig:1099511627776<cnt+(nk:Int)
 ·have hE:=hid (show E5 w Qs Vs Cs cnt G (.returned (.tuple #[.slice none 0 0,.int .i64 14])) w from⟨.inl ⟨by rw[Hlen.out];exact hbig,rfl⟩,Below.refl _ _⟩)
  go_enter dn,dj;go_wp2_with fail;go_ret2;exact hE.out
 ·have Hbig:Hid (cnt+(G.length:Int)<=1099511627776):=hid (by rw[Hlen.out];omega)
  go_enter dn,dj;go_wp2_with fail;refine HVw.out.mono ?_;rintro e w1 ⟨⟨cr,rfl,hcr⟩,hB1⟩;obtain⟨Ac,cc,rfl,hCr⟩:=hcr.form;rw[hnv.out]at hCr⊢
  have q4:=(HM.out.below hB1).c4
  rw[HCl.out]at q4
  have HCr:=hid hCr
  have HB1:=hid hB1
  clear hcr hCr hB1 HVw;go_wp2_with fail;go_loopw [8,32] (λal i wr=>∃k:Nat,k<=nv/\i=.int .i64 k/\Hid (Qq wr w1.heap.size al (Sd Qs Vs Cs G k))/\Hid (∀i,i<k->okV (Cs.getD i []) (Wu (kC Qs (Vs.getD i [])) Zb G))/\Below w1.heap.size w1 wr) (λ_ i _=>nv-(intOf i).toNat)
  case atStart=>exact⟨0,aw _,rfl,hid (Qq.Zj _ _),hid λi hi=>absurd hi (by omega),Below.refl _ _⟩
  case round=>
   obtain⟨k,hk,rfl,hO,hOk,hB⟩:=hrel
   have hBw:=HB1.out.trans (hB.mono HB1.out.size)
   by_cases hlt:k<nv
   ·have i0:(0:Int)<=(k:Int):=by omega
    have i1:(k:Int)<(nv:Int):=by omega
    obtain⟨bc,oc,Al,nl,cl,lv,rfl,hbc,gc,hlv,hle⟩:=HCr.out.at_ hlt
    have gl:wr.cell? ⟨bc,oc+k,none⟩=some (.slice Al nl cl):=(hB.cell (p:=⟨bc,oc+k,none⟩) hbc).trans gc
    have hlvm:lv∈Vs:=by
     rw[hle.out,ch,ai (by rw[hnv.out];exact hlt)]
     exact List.getElem_mem _
    obtain⟨Lg,hLg⟩: ∃Lg,Hid (Wu (kC Qs lv) Zb G=Lg):=⟨_,hid rfl⟩
    have hg:=Yav (HM.out.below hBw) HN.out (k:Int) (((hlv.below hB (aa _)).more hB.size)) (HLev.out lv hlvm) ((HK.out.below hBw (aa _)).more hBw.size) (HF.out.mv Y3 (Mv.Yc hBw _)) hnk2 Hsm.out Hval.out rfl λi f hi=>⟨(Hkey.out i f hi).1,(Hkey.out i f hi).2 lv (HLev.out lv hlvm)⟩
    rw[hLg.out]at hg
    have HGa:=hid hg
    have Hlv:=hid (show Wu (kC Qs (Vs.getD k [])) Zb G=Lg by rw[<-hle.out];exact hLg.out)
    clear hg hlv gc hlvm;go_wp2_with fail;refine HGa.out.mono ?_;rintro e w5 ⟨⟨rv,rfl,hG5⟩,hB5⟩;obtain⟨Ar,cr5,rfl⟩:=hG5.shape
    have hLl:Lg.length<=1000:=by
     have h1:=Bg (kC Qs lv) Zb G
     rw[hLg.out]at h1
     have:=Hlen.out
     omega
    have HO5:=hid (hO.out.below hB5)
    have HB5:=hid (hB.trans (hB5.mono hB.size))
    have hlo:=HO5.out.lt
    have hlg:=hG5.lt
    have hne5:Hid (∀q,(au Ar Lg.length cr5).ownBlock=some q->u8.ownBlock≠some q):=hid λq h1 h2=>by
     have h3:=(hlg q h1).1
     have h4:=(hO.out.lt q h2).2
     omega
    have HG5:=hid hG5
    have Hk:=hid (show(Sd Qs Vs Cs G k).length<=7000 from ao (D8 Qs Vs Cs G k) (by rw[Hlen.out];exact di (show k<=7 by omega) hnk2))
    clear hG5 hO hB hBw hB5 HGa hlo hlg;go_wp2_with fail;go_loopw [8,45] (λal i2 w2=>∃j:Nat,j<=Lg.length/\i2=.int .i64 j/\Hid (Qq w2 w1.heap.size al (Sd Qs Vs Cs G k++(Lc k (Cs.getD k []) Lg).take j))/\Hid (∀x∈Lg.take j,(Xd (Cs.getD k []) x.1 x.2).2=0)/\Hid (Vv w2 wr.heap.size k (.slice Ar Lg.length cr5) Lg)/\Hid (∀q,(au Ar Lg.length cr5).ownBlock=some q->al.ownBlock≠some q)/\Below w1.heap.size w1 w2) (λ_ i2 _=>Lg.length-(intOf i2).toNat)
    case atStart=>exact⟨0,aw _,rfl,hid (by rw[dg,List.append_nil];exact HO5.out),hid λx hx=>by simp at hx,HG5,hne5,HB5.out⟩
    case round=>
     obtain⟨j,hj,rfl,hO,hIn,hG,hne,hB⟩:=hrel
     have hBw:=HB1.out.trans (hB.mono HB1.out.size)
     by_cases hjl:j<Lg.length
     ·obtain⟨⟨K,M⟩,hjx⟩: ∃x,Hid (Lg[j]?=some x):=⟨_,hid (ai hjl)⟩
      obtain⟨gA,cA,A1,d1,e1,A2,d2,e2,ev,hgl,p0,p1,p2,p3,p4,p5,p6,_,hKo,hMo⟩:=hG.out.at_ hjx.out;injection ev with ev _ ev2
      subst ev ev2
      have hM0:M≠[]/\M.length<=1000:=by
       have h1:(K,M)∈Wu (kC Qs lv) Zb G:=by rw[hLg.out];exact af hjx.out
       obtain⟨⟨f,hf,hfk⟩,h2⟩:=U4.1 h1
       dsimp only at h2 hfk
       refine⟨λh0=>?_,?_⟩
       ·have h3:Zb f∈Yf (kC Qs lv) Zb G K:=by unfold Yf;exact List.mem_map.2 ⟨f,List.mem_filter.2 ⟨hf,by simp[hfk]⟩,rfl⟩
        rw[<-h2,h0]at h3
        cases h3
       ·have h5:(Yf (kC Qs lv) Zb G K).length<=G.length:=by unfold Yf;rw[an];exact cn _ _
        rw[h2]
        have:=Hlen.out
        omega
      obtain⟨AM,cM,eM,hMr⟩:=Yx.read Zf hMo;injection eM with eM1 eM2 eM3
      subst eM1 eM2 eM3;obtain⟨ad,rfl⟩: ∃ad,A2=some ad:=by
       rcases A2 with _|ad
       ·exact absurd hM0.1 (λh=>h (bz (by have:=hMr.void rfl;have:=hMr.cap;omega)))
       ·exact⟨ad,rfl⟩
      obtain⟨_,_,_,eK,hKi,_⟩:=hKo.Yr;injection eK with eK1 eK2 eK3
      subst eK1 eK2 eK3
      have j0:(0:Int)<=(j:Int):=by omega
      have j1:(j:Int)<(Lg.length:Int):=by omega
      have hb8:=Yb wr (.cells #[.int .i64 k,.slice A1 d1 e1,.slice (some ad) M.length e2,.int .i64 0,.slice none 0 0,.slice none 0 0,.slice none 0 0] 109)
      have hbk:=Sb wr (.int .i64 k) (.slice A1 d1 e1) (.slice (some ad) M.length e2) (.int .i64 0) (.slice none 0 0) (.slice none 0 0) (.slice none 0 0)
      have hX:=Yr4 (q:=0) (A3:=none) (n3:=0) (c3:=0) (A4:=none) (n4:=0) (c4:=0) (A5:=none) (n5:=0) (c5:=0) ((HM.out.below hBw).below hb8) (show k<Cs.length by rw[HCl.out];exact hlt) ((hKi.below hb8 (aa _)).more hb8.size) (hMr.mv Zf (Mv.Yc hb8 _)) hM0.2
      obtain⟨⟨⟨n9,Su,Mi,Ma⟩,er⟩,hwp⟩: ∃z,Hid (Xd (Cs.getD k []) K M=z):=⟨_,hid rfl⟩;rw[hwp.out]at hX
      have HX:=hid hX
      have HKo:=hid hKo
      have HMo:=hid hMo
      have Hb8:=hid hb8
      have c0:=hbk.cell 0
      have c1':=hbk.cell 1
      have c2':=hbk.cell 2
      have c3':=hbk.cell 3
      have c4':=hbk.cell 4
      have c5':=hbk.cell 5
      have c6':=hbk.cell 6
      have hHK:=HKo.out.lt
      clear hX hKi hMr hKo hMo hBw hb8;go_wp2_with fail;refine HX.out.mono ?_;rintro e w9 ⟨⟨v1,v2,v3,rfl,hOC⟩,hB9⟩;obtain⟨E1,m1,f1,rfl,_,_⟩:=hOC.s.Yr;obtain⟨E2,m2,f2,rfl,_,_⟩:=hOC.m.Yr;obtain⟨E3,m3,f3,rfl,_,_⟩:=hOC.x.Yr
      have hbk9:=hbk.below hB9 hbk.lt
      have hb9:=Hb8.out.trans (hB9.mono Hb8.out.size)
      have HBZ:=hid ((((hb9.setCell (p:=⟨wr.heap.size,3,none⟩) (aa _) (.int .i64 n9)).setCell (p:=⟨wr.heap.size,4,none⟩) (aa _) (.slice E1 m1 f1)).setCell (p:=⟨wr.heap.size,5,none⟩) (aa _) (.slice E2 m2 f2)).setCell (p:=⟨wr.heap.size,6,none⟩) (aa _) (.slice E3 m3 f3))
      have hbZ:Block ((((w9.setCell ⟨wr.heap.size,3,none⟩ (.int .i64 n9)).setCell ⟨wr.heap.size,4,none⟩ (.slice E1 m1 f1)).setCell ⟨wr.heap.size,5,none⟩ (.slice E2 m2 f2)).setCell ⟨wr.heap.size,6,none⟩ (.slice E3 m3 f3)) wr.heap.size 109 #[.int .i64 k,.slice A1 d1 e1,.slice (some ad) M.length e2,.int .i64 n9,.slice E1 m1 f1,.slice E2 m2 f2,.slice E3 m3 f3]:=(((hbk9.Ys 3 (.int .i64 n9)).Ys 4 (.slice E1 m1 f1)).Ys 5 (.slice E2 m2 f2)).Ys 6 (.slice E3 m3 f3)
      have hlt8:wr.heap.size<(wr.alloc (.cells #[.int .i64 k,.slice A1 d1 e1,.slice (some ad) M.length e2,.int .i64 0,.slice none 0 0,.slice none 0 0,.slice none 0 0] 109)).heap.size:=by rw[ae];omega
      have HOC:=hid ((((hOC.Ys hlt8 3 (.int .i64 n9)).Ys hlt8 4 (.slice E1 m1 f1)).Ys hlt8 5 (.slice E2 m2 f2)).Ys hlt8 6 (.slice E3 m3 f3))
      have d3:=hbk9.cell 3
      have d4:=hbk9.cell 4
      have d5:=hbk9.cell 5
      have d6:=hbk9.cell 6
      have g3:=hbk9.free 3
      have g4:=hbk9.free 4
      have g5:=hbk9.free 5
      have g6:=hbk9.free 6
      clear hOC hB9 HX hb9 c0 c1' c2' c3' c4' c5' c6' hbk hbk9;go_upto_region 13 with fail
      generalize (((w9.setCell ⟨wr.heap.size,3,none⟩ (.int .i64 n9)).setCell ⟨wr.heap.size,4,none⟩ (.slice E1 m1 f1)).setCell ⟨wr.heap.size,5,none⟩ (.slice E2 m2 f2)).setCell ⟨wr.heap.size,6,none⟩ (.slice E3 m3 f3)=Z at HBZ hbZ HOC⊢
      have z0:=hbZ.cell 0
      have z1:=hbZ.cell 1
      have z2:=hbZ.cell 2
      have z3:=hbZ.cell 3
      have z4:=hbZ.cell 4
      have z5:=hbZ.cell 5
      have z6:=hbZ.cell 6
      by_cases her:er=0
      ·subst her
       have hb2:=Yb Z (.cells #[.int .i64 k,.slice A1 d1 e1,.slice (some ad) M.length e2,.int .i64 n9,.slice E1 m1 f1,.slice E2 m2 f2,.slice E3 m3 f3] 109)
       have hBZ2:=HBZ.out.trans (hb2.mono HBZ.out.size)
       have HBZ2:=hid hBZ2
       have HO2:=hid (hO.out.below hBZ2)
       have HG2:=hid (hG.out.below hBZ2)
       have HC2:=hid (Q6 Z [.int .i64 k,.slice A1 d1 e1,.slice (some ad) M.length e2,.int .i64 n9,.slice E1 m1 f1,.slice E2 m2 f2,.slice E3 m3 f3] 109 Z.heap.size rfl)
       have HE2:=hid (Ykk (vw:=k) (n:=n9) HO2.out (Xi HKo.out hBZ2) (HMo.out.kept (P:=λ_=>False) (Kept.Y1 hBZ2 _) (λ_ _ h=>h) (λ_ _ h=>h)) ((show X7 _ _ _ _ _ _ _ _ from⟨HOC.out.s.alloc _,HOC.out.m.alloc _,HOC.out.x.alloc _⟩)))
       have hl2:Hid ((Sd Qs Vs Cs G k++(Lc k (Cs.getD k []) Lg).take j).length<=1000000):=hid (by
        have h1:=Hk.out
        have h2:=br j (Lc k (Cs.getD k []) Lg)
        rw[ak];omega)
       have hs2:Hid (w1.heap.size<=(Z.alloc (.cells #[.int .i64 k,.slice A1 d1 e1,.slice (some ad) M.length e2,.int .i64 n9,.slice E1 m1 f1,.slice E2 m2 f2,.slice E3 m3 f3] 109)).heap.size):=hid (ao hB.size hBZ2.size)
       clear hb2 hBZ2;go_wp2_with (at_builtin;refine Z9 Sm rfl _ _ rfl Yg9 Tryz.underlying104 rfl (by decide) w1.heap.size _ _ _ rfl HO2.out _ rfl [.int .i64 k,.slice A1 d1 e1,.slice (some ad) M.length e2,.int .i64 n9,.slice E1 m1 f1,.slice E2 m2 f2,.slice E3 m3 f3] rfl ((k,K),(M,(n9,Su,Mi,Ma))) HC2.out (Yix _ _ _ _ _ _ _ _ _ _ _ _ _ _ _ _ _) HE2.out hl2.out hs2.out ?_)
       intro v' w12 hO12 hG12
       have hO13:=HO2.out.app hO12 hG12
       have hG13:=HG2.out.Ly HO2.out hG12 hne.out
       have hlg:=HG2.out.lt
       have hloo:=HO2.out.lt
       have hne13:Hid (∀q,(au (some ⟨gA,0,none⟩) Lg.length cr5).ownBlock=some q->v'.ownBlock≠some q):=hid λq h1 h2=>by
        rcases hG12.2 q h2 with h3|h3
        ·exact hne.out q h1 h3
        ·have:=(hlg q h1).2;omega
       have hFin:=hid (show Qq w12 w1.heap.size v' (Sd Qs Vs Cs G k++(Lc k (Cs.getD k []) Lg).take (j+1))/\(∀x∈Lg.take (j+1),(Xd (Cs.getD k []) x.1 x.2).2=0)/\Below w1.heap.size w1 w12 from
        ⟨by rw[Yng hjx.out,hwp.out];simpa only[ch,List.append_assoc]using hO13,λx hx=>by
         rw[Z8 hjx.out,List.mem_append,da]at hx
         rcases hx with hx|rfl
         ·exact hIn.out x hx
         ·exact congrArg Prod.snd hwp.out,(hB.trans (HBZ2.out.mono hB.size)).trans (hG12.Yw hs2.out λq e=>(hloo q e).1)⟩)
       have HG13:=hid hG13
       clear hO12 hG12 hO13 hG13 hlg hloo HO2 HG2 HC2 HE2 z0 z1 z2 z3 z4 z5 z6 d3 d4 d5 d6 g3 g4 g5 g6 p0 p1 p2 p3 p4 p5 p6;go_wp2_with fail;go_roundw
       case rel=>exact⟨j+1,by omega,by go_num,hid hFin.out.1,hid hFin.out.2.1,HG13,hne13,hFin.out.2.2⟩
       case measure=>simp[intOf];omega
      ·have hFin:=hid (show E5 w Qs Vs Cs cnt G (.returned (.tuple #[.slice none 0 0,.int .i64 er])) Z from
        ⟨.inr (.inl ⟨Hbig.out,k,(K,M),by rw[hnv.out];exact hlt,by rw[Hlv.out];exact af hjx.out,by rw[hwp.out];exact her,by rw[hwp.out]⟩),HB1.out.trans ((hB.trans (HBZ.out.mono hB.size)).mono HB1.out.size)⟩)
       clear z0 z1 z2 z3 z4 z5 z6 d3 d4 d5 d6 g3 g4 g5 g6 p0 p1 p2 p3 p4 p5 p6;go_wp2_with fail;go_ret2;exact hFin.out
     ·obtain rfl:j=Lg.length:=by omega
      have hFin:=hid (show Qq wr w1.heap.size u8 (Sd Qs Vs Cs G (k+1))/\(∀i,i<k+1->okV (Cs.getD i []) (Wu (kC Qs (Vs.getD i [])) Zb G))from
       ⟨by
        have h1:=hO.out
        rw[bp (by unfold Lc;rw[an];exact aa _)]at h1
        rw[Hc,Hlv.out];exact h1,λi hi=>by
        by_cases hik:i=k
        ·subst hik
         rw[Hlv.out];intro x hx;exact hIn.out x (by rw[List.take_length];exact hx)
        ·exact hOk.out i (by omega)⟩)
      clear hO hIn hG hne;go_wp2_with fail;go_roundw
      case rel=>exact⟨k+1,by omega,by go_num,hid hFin.out.1,hid hFin.out.2,hB⟩
      case measure=>simp[intOf];omega
   ·obtain rfl:k=nv:=by omega
    obtain⟨A,c,e,hr⟩:=hO.out.Yww
    have hFin:=hid (show E5 w Qs Vs Cs cnt G (.returned (.tuple #[u8,.int .i64 0])) wr from⟨.inr (.inr ⟨Hbig.out,by rw[hnv.out];exact hOk.out,A,c,by rw[hnv.out,e],by rw[hnv.out];exact hr⟩),hBw⟩)
    clear hO hr;go_wp2_with fail;go_ret2;exact hFin.out
theorem Ypp{x:PC}(hr:Ris C)(hk:∀e∈C,isKey W e.1)(hc:∀e∈C,Yv m e.2)(hx:Yv m x){i:Nat}{key:List Int}{u:PC}(h:C[i]?=some (key,u)):
  R6 W m ((Tk C K x).take i) key (if key=K then x else u)=((Tk C K x).take (i+1),0):=by
 have hm:=af h
 have ha:=Yfh (k:=K) (x:=x) hr h
 have hn:Za ((Tk C K x).take i) key=none:=Yew λj e hj he hk=>by
  have h1:=ha e (af he)
  rw[hk]at h1;exact absurd h1 (by rw[Vi];decide)
 rw[Pf ⟨hk _ hm,by
  by_cases e:key=K
  ·rw[if_pos e];exact hx
  ·rw[if_neg e];exact hc _ hm⟩ hn,Ybf ha,Yqm h]
theorem Yas{ds:List DAt}{vs:List CAt}(h:LtM w g (.slice B1 W b1) (.slice B2 m b2) X3 dv vv ds vs N Qs W m Cs cnt)(hWm:1<=W/\W<=3/\1<=m/\m<=2){v:Nat}(hv:v<Cs.length){q:Int}{A1 A3 A4 A5:Option Addr}{ad:Addr}{n1 c1 n2 c2 n3 c3 n4 c4 n5 c5:Nat}{K:List Int}{Sx Mx Xx:List Int}{S:Nat->Prop}(hK:Y2 w w.heap.size A1 n1 c1 K)(hX:Z7 w S [.int .i64 q,.slice A3 n3 c3,.slice A4 n4 c4,.slice A5 n5 c5] (q,Sx,Mx,Xx))(hx:Yv m (q,Sx,Mx,Xx))(hcl:∀e∈Cs.getD v [],Yv m e.2):
  Calls aj 107 #[.pointer (some ⟨g,0,none⟩),.agg #[.int .i64 v,.slice A1 n1 c1,.slice (some ad) n2 c2,.int .i64 q,.slice A3 n3 c3,.slice A4 n4 c4,.slice A5 n5 c5]] w λe w'=>(∃p,e=.returned p/\Eh w W m (Tk (Cs.getD v []) K (q,Sx,Mx,Xx)) p w')/\Below w.heap.size w w':=by
 obtain⟨Av,cv,evv,hvl,hat⟩:=h.Yat;subst evv;obtain⟨⟨gv,bw⟩,hcc⟩: ∃cc,Hid (vs[v]?=some cc):=⟨_,hid (ai (by omega))⟩
 obtain⟨bv,rfl,_,hbv,hcell⟩:=hat v _ hcc.out;obtain⟨C,hCe⟩: ∃C,C=Cs.getD v []:=⟨_,rfl⟩
 have hCb:=h.cbs.at_ v _ hcc.out
 dsimp only at hCb hcell
 rw[<-hCe]at hCb hcl⊢;obtain⟨E1,E2,E3,e1,e2,e3,hE3⟩: ∃(E1 E2 E3:List Int) (_:E1=Sx) (_:E2=Mx) (_:E3=Xx),Row Yy 1 w S A3 n3 c3 E1/\Row Yy 1 w S A4 n4 c4 E2/\Row Yy 1 w S A5 n5 c5 E3:=by
  obtain⟨n,A1',n1',c1',A2',n2',c2',A3',n3',c3',Su,M,X,e,h1,h2,h3,ex⟩:=Uv hX;simp only[List.cons.injEq,Value.int.injEq,Value.slice.injEq,and_true,true_and]at e;obtain⟨rfl,⟨rfl,rfl,rfl⟩,⟨rfl,rfl,rfl⟩,rfl,rfl,rfl⟩:=e;simp only[Prod.mk.injEq]at ex;obtain⟨_,rfl,rfl,rfl⟩:=ex;exact⟨_,_,_,rfl,rfl,rfl,h1,h2,h3⟩
 subst e1 e2 e3
 have hb0:=(Yb w (.cells #[.int .i64 v,.slice A1 n1 c1,.slice (some ad) n2 c2,.int .i64 q,.slice A3 n3 c3,.slice A4 n4 c4,.slice A5 n5 c5] 109))
 have hbl:=(Sb w (.int .i64 v) (.slice A1 n1 c1) (.slice (some ad) n2 c2) (.int .i64 q) (.slice A3 n3 c3) (.slice A4 n4 c4) (.slice A5 n5 c5))
 have hM1:=h.below hb0
 have HEm:=hid (B9 hM1.c0 hM1.c1 hWm hM1.blk.lt)
 have HM:=hid h
 have g0:=hcell
 have hcell:=hid hcell
 have hcell:=hid hcell
 have HK:=hid hK
 have HX:=hid hE3
 have HCb:=hid hCb
 have Hcl:=hid hcl
 have Hx:=hid hx
 have i0:(0:Int)<=(v:Int):=by omega
 have i1:(v:Int)<(Cs.length:Int):=by omega
 have hgl:=h.blk.lt
 clear h hat hCb hK hX hE3 hM1 hCe hcl hx;go_enter Tryz.func107,Tryz.ntmps107;go_wp2_with fail;refine HEm.out.mono ?_;rintro e w2 ⟨⟨p,rfl,gN,bN,rfl,hN,hgN,hbN⟩,hB2⟩;rw[ae]at hgN hbN
 have hb2:=hb0.trans (hB2.mono hb0.size)
 have hbl2:=hbl.below hB2 hbl.lt
 have k0:=hbl2.cell 0
 have k4:=(HM.out.below hb2).c4
 have g2:=(hb2.cell (p:=⟨bv,v,none⟩) hbv).trans g0
 have HKe:=hid (Ye3 ((HCb.out.Yc hb2).drewN 1))
 have Hb2:=hid hb2
 have Hbl2:=hid hbl2
 have HN:=hid hN
 clear hN hB2 hbl hb0 HEm g0;obtain⟨n,hn⟩: ∃n,Hid (C.length=n):=⟨_,hid rfl⟩
 have hnm:n<=68921:=by have:=HCb.out.len;rw[hn.out]at this;exact this
 go_upto_region 2 with fail
 go_cut [20,21,22] (λs20 s21 s22 wx=>∃(AK:Option Addr) (cK:Nat),s20=.slice AK n cK/\s21=.int .i64 n/\s22=.int .i64 0/\Hid (Row U3 1 wx (λk=>w2.heap.size<=k/\k<wx.heap.size) AK n cK (C.map (·.1)))/\Below w2.heap.size w2 wx)
 case first=>
  go_region_with (go_at_call 55;refine HKe.out.mono ?_;rintro e w3 ⟨vk,rfl,hO3,hB3⟩;obtain⟨AK,cK,rfl,hRK⟩:=hO3.read Xp;have hcap3:=hRK.cap)
  all_goals
   have hF:=hid (show Row U3 1 w3 (λk=>w2.heap.size<=k/\k<w3.heap.size) AK n cK (C.map (·.1))/\Below w2.heap.size w2 w3 from⟨by
    have h1:Row U3 1 w3 (λk=>w2.heap.size<=k/\k<w3.heap.size) AK (C.map (·.1)).length cK (C.map (·.1)):=(hRK.mv Xp (Mv.to w3 λk hk hl=>⟨by
     rcases hk with hk|hk
     ·exact hk
     ·exact hk.1,hl⟩)).map λus x h=>U0 h
    rw[an,hn.out]at h1;exact h1,(R3 w2).trans hB3⟩)
   clear hRK hO3;go_wp2_with fail;go_meet;exact⟨AK,cK,by rw[<-hn.out],by rw[<-hn.out],rfl,hid hF.out.1,hF.out.2⟩
 case rest=>
  obtain⟨AK,cK,rfl,rfl,rfl,HRK,hB3⟩:=hcut;obtain⟨w3,hw3⟩: ∃w3,w3=wc:=⟨_,rfl⟩;subst hw3
  have hb3:=Hb2.out.trans (hB3.mono Hb2.out.size)
  have Hb3:=hid hb3
  have hz2:=Hb2.out.size
  have hz3:=hB3.size
  have HN3:=hid (HN.out.Yc hB3)
  have hw1:w.heap.size<w2.heap.size:=Hbl2.out.lt
  have hbN1:w.heap.size+1<=bN:=hbN
  have hgN1:w.heap.size+1<=gN:=hgN
  have hbN2:bN<w2.heap.size:=HN.out.map.lt
  -- while only the new Yak and what is new is written
  have HK3:Hid (∀y,Chg (λk=>k=bN) w3 y->(Block y w.heap.size 109 #[.int .i64 v,.slice A1 n1 c1,.slice (some ad) n2 c2,.int .i64 q,.slice A3 n3 c3,.slice A4 n4 c4,.slice A5 n5 c5]/\y.cell? ⟨g,4,none⟩=some (.slice (some ⟨bv,0,none⟩) Cs.length cv)/\y.cell? ⟨bv,v,none⟩=some (.pointer (some ⟨gv,0,none⟩)))/\Cb y gv bw W m C/\Y2 y y.heap.size A1 n1 c1 K/\Wi y y.heap.size A3 n3 c3 A4 n4 c4 A5 n5 c5 E1 E2 E3/\Below w.heap.size w y):=hid λy hy=>by
   have hb:Below w.heap.size w y:=Hb3.out.trans (hy.below (by omega) λk hk=>by omega)
   refine⟨⟨((Hbl2.out.below hB3 hw1).chg hy (by omega)),(HM.out.below hb).c4,(hb.cell (p:=⟨bv,v,none⟩) hbv).trans hcell.out⟩,HCb.out.Yc hb,(HK.out.below hb (aa _)).more hb.size,?_,hb⟩
   have hx:=HX.out
   exact⟨(hx.1.mv Yh (Mv.Yc hb _)).Uy,(hx.2.1.mv Yh (Mv.Yc hb _)).Uy,(hx.2.2.mv Yh (Mv.Yc hb _)).Uy⟩
  clear hb3 HM HK HX HCb Hbl2 HKe HN k0 k4 g2 hbl2 hb2 hcell;go_wp2_with fail;go_loopw [22] (λi wr=>∃k:Nat,k<=n/\i=.int .i64 k/\Hid (Cb wr gN bN W m ((Tk C K (q,E1,E2,E3)).take k))/\Chg (λk=>k=bN) w3 wr) (λi _=>n-(intOf i).toNat)
  case atStart=>exact⟨0,aw _,rfl,by rw[dg];exact HN3,Chg.refl _ _⟩
  case round=>
   obtain⟨k,hk,rfl,hO,hB⟩:=hrel
   by_cases hlt:k<n
   ·obtain⟨b,o,A',n',c',key,rfl,_,hbk,gk,hl,he0⟩:=(HRK.out.mv Wj (Mv.chg hB λb hb e=>by omega)).at1 hlt
    have i2:(0:Int)<=(k:Int):=by omega
    have i3:(k:Int)<(n:Int):=by omega
    obtain⟨⟨uq,uS,uM,uX⟩,hu⟩: ∃u,Hid (C[k]?=some (key,u)):=by
     have h1:=he0.out
     rw[bo,Option.map_eq_some_iff]at h1;obtain⟨⟨K',u⟩,h2,rfl⟩:=h1;exact⟨u,hid h2⟩
    obtain⟨⟨hbx,k4,g0⟩,hCw,hKw,hXw,hBw⟩:=HK3.out wr hB
    have k0:=hbx.cell 0
    have HTp:=hid (Ypp (W:=W) (m:=m) (K:=K) (x:=(q,E1,E2,E3)) hCw.ok.ris (λe he=>hCw.ok.key e he) Hcl.out Hx.out hu.out)
    have HGt:Hid (∀y,Below wr.heap.size wr y->Calls aj 56 #[.pointer (some ⟨gv,0,none⟩),.slice A' n' c'] y (Fh y (some (uq,uS,uM,uX)))):=hid λy hy=>by
     have h1:=Oj (hCw.Yc hy) ((hl.Uy.below hy (aa _)).more hy.size)
     rw[Ygr hCw.ok hu.out]at h1;exact h1
    have HKey:=hid hl.Uy
    have l1:=hbx.lt
    have l2:g<wr.heap.size:=ag hgl hBw.size
    have l3:bv<wr.heap.size:=ag hbv hBw.size
    clear hl hCw hKw hXw hbx;go_upto_region 5 with fail
    go_cut [8] (λs8 wx=>∃(gB:Nat) (D1:Option Addr) (m1 d1:Nat) (D2:Option Addr) (m2 d2:Nat) (D3:Option Addr) (m3 d3:Nat),s8=.pointer (some ⟨gB,0,none⟩)/\wr.heap.size<=gB/\Block wx gB 71 #[.int .i64 uq,.slice D1 m1 d1,.slice D2 m2 d2,.slice D3 m3 d3]/\Hid (X7 wx wr.heap.size (.slice D1 m1 d1) (.slice D2 m2 d2) (.slice D3 m3 d3) uS uM uX)/\Below wr.heap.size wr wx)
    case first=>
     go_region_law (go_simp;go_at_call 56;first
      |(refine az (HGt.out wr.drew (R3 wr)) ?_;intro e w5 hte;obtain⟨⟨v1,v2,v3,rfl,hOC⟩,hB5⟩:=hte.some_;obtain⟨D1,m1,d1,rfl,_,_⟩:=hOC.s.Yr;obtain⟨D2,m2,d2,rfl,_,_⟩:=hOC.m.Yr;obtain⟨D3,m3,d3,rfl,_,_⟩:=hOC.x.Yr;have hC5:=(R3 wr).trans hB5)
      |(refine az (HGt.out (wr.alloc (.cells Sv 71)).drew (Tb wr _)) ?_;intro e w5 hte;obtain⟨⟨v1,v2,v3,rfl,hOC⟩,hB5⟩:=hte.some_;obtain⟨D1,m1,d1,rfl,_,_⟩:=hOC.s.Yr;obtain⟨D2,m2,d2,rfl,_,_⟩:=hOC.m.Yr;obtain⟨D3,m3,d3,rfl,_,_⟩:=hOC.x.Yr;have hC5:=(Tb wr (.cells Sv 71)).trans (hB5.mono (Tb wr (.cells Sv 71)).size);have hZ5:Block w5 wr.heap.size 71 Sv:=((Block.new wr 71 Sv).drewN 1).below hB5 (by rw[aq,ae];omega);have z0:=hZ5.cell 0;have z1:=hZ5.cell 1;have z2:=hZ5.cell 2;have z3:=hZ5.cell 3;have y0:=hZ5.free 0;have y1:=hZ5.free 1;have y2:=hZ5.free 2;have y3:=hZ5.free 3))
     all_goals
      go_wp2_with fail;go_meet
      first
       |exact⟨_,_,_,_,_,_,_,_,_,_,rfl,hC5.size,Block.new w5 _ _,hid ⟨hOC.s.alloc _,hOC.m.alloc _,hOC.x.alloc _⟩,hC5.alloc hC5.size _⟩
       |exact⟨_,_,_,_,_,_,_,_,_,_,rfl,aa _,hZ5.Zp _ _ _ _,hid ((hOC.Zp (r:=wr.heap.size) (by rw[aq,ae];omega) _ _ _ _).low (by rw[aq,ae];omega)),Yq (r:=wr.heap.size) hC5 (aa _) _ _ _ _⟩
    case rest=>
     obtain⟨gB,D1,m1,d1,D2,m2,d2,D3,m3,d3,rfl,hgB,hBk,hOC,hB5⟩:=hcut
     have hBc:Chg (λk=>k=bN) w3 wc:=hB.trans (Chg.Y1 (S:=λk=>k=bN) hB5 (aa _)) λ_ _ h=>h
     obtain⟨⟨hbx,_,_⟩,_,hKc,_,_⟩:=HK3.out wc hBc
     have hkc:=((HKey.out.below hB5 (aa _)).more hB5.size)
     have HEq:=hid (Bw hkc hKc)
     have q1:=hbx.cell 1
     have hNc:=hO.out.Yc hB5
     have HNc:=hid hNc
     have hwrw:w3.heap.size<=wr.heap.size:=hB.size
     clear HGt k0 k4 g0 hKc hbx hkc hNc gk;go_wp2_with fail;refine HEq.out.mono ?_;rintro e w9 ⟨rfl,kk,rfl⟩
     have hbD:Below wc.heap.size wc (wc.drewN kk):=below_drewN (Below.refl _ _) kk
     generalize wc.drewN kk=wd at hbD⊢
     have hB6:=hB5.trans (hbD.mono hB5.size)
     have hBd:Chg (λk=>k=bN) w3 wd:=hB.trans (Chg.Y1 (S:=λk=>k=bN) hB6 (aa _)) λ_ _ h=>h
     have hBkd:=hBk.below hbD hBk.lt
     have hNd:=HNc.out.Yc hbD
     have hkd:=((HKey.out.below hB6 (aa _)).more hB6.size)
     have b0:=hBkd.cell 0
     have b1:=hBkd.cell 1
     have b2:=hBkd.cell 2
     have b3:=hBkd.cell 3
     clear q1 HEq HNc
     by_cases he:key=K
     ·have hde:decide (key=K)=true:=decide_eq_true he
      rw[hde];obtain⟨⟨hbx,_,_⟩,_,_,_,_⟩:=HK3.out wd hBd
      have x3:=hbx.cell 3
      have x4:=hbx.cell 4
      have x5:=hbx.cell 5
      have x6:=hbx.cell 6
      have y0:=hBkd.free 0
      have y1:=hBkd.free 1
      have y2:=hBkd.free 2
      have y3:=hBkd.free 3
      have hbP:Below wr.heap.size wd ((((wd.setCell ⟨gB,0,none⟩ (.int .i64 q)).setCell ⟨gB,1,none⟩ (.slice A3 n3 c3)).setCell ⟨gB,2,none⟩ (.slice A4 n4 c4)).setCell ⟨gB,3,none⟩ (.slice A5 n5 c5)):=Yq (r:=gB) (Below.refl wr.heap.size wd) hgB (.int .i64 q) (.slice A3 n3 c3) (.slice A4 n4 c4) (.slice A5 n5 c5)
      have hBkP:Block ((((wd.setCell ⟨gB,0,none⟩ (.int .i64 q)).setCell ⟨gB,1,none⟩ (.slice A3 n3 c3)).setCell ⟨gB,2,none⟩ (.slice A4 n4 c4)).setCell ⟨gB,3,none⟩ (.slice A5 n5 c5)) gB 71 #[.int .i64 q,.slice A3 n3 c3,.slice A4 n4 c4,.slice A5 n5 c5]:=hBkd.Zp (.int .i64 q) (.slice A3 n3 c3) (.slice A4 n4 c4) (.slice A5 n5 c5)
      have hgBd:=hBkd.lt
      clear hde hbx;go_upto_region 8 with fail
      generalize (((wd.setCell ⟨gB,0,none⟩ (.int .i64 q)).setCell ⟨gB,1,none⟩ (.slice A3 n3 c3)).setCell ⟨gB,2,none⟩ (.slice A4 n4 c4)).setCell ⟨gB,3,none⟩ (.slice A5 n5 c5)=wz at hbP hBkP⊢
      have hBz6:=hB6.trans hbP
      have hBz:Chg (λk=>k=bN) w3 wz:=hB.trans (Chg.Y1 (S:=λk=>k=bN) hBz6 (aa _)) λ_ _ h=>h
      have hNz:=hO.out.Yc hBz6
      have hkz:=((HKey.out.below hBz6 (aa _)).more hBz6.size)
      obtain⟨_,_,_,hXz,_⟩:=HK3.out wz hBz
      have f0:=hBkP.cell 0
      have f1:=hBkP.cell 1
      have f2:=hBkP.cell 2
      have f3:=hBkP.cell 3
      have HAd:=hid (Lx (q:=q) hNz hkz hXz)
      clear hNz hkz hXz hNd hkd hOC x3 x4 x5 x6 y0 y1 y2 y3 b0 b1 b2 b3;go_wp2_with fail;refine HAd.out.mono ?_;rintro e w10 ⟨rfl,hC10,hg10⟩
      have hF:=hid (show Cb w10 gN bN W m ((Tk C K (q,E1,E2,E3)).take (k+1))/\Chg (λk=>k=bN) w3 w10 from⟨by
       have h1:=HTp.out
       rw[if_pos he]at h1;rw[h1]at hC10;exact hC10,hBz.trans (Chg.W5 (S:=λk=>k=bN) hg10 λk e _=>(ax e).symm) λ_ _ h=>h⟩)
      clear hC10 hg10 HAd;go_wp2_with fail;go_roundw
      case rel=>exact⟨k+1,by omega,by go_num,hid hF.out.1,hF.out.2⟩
      case measure=>simp[intOf];omega
     ·have hde:decide (key=K)=false:=decide_eq_false he
      rw[hde];obtain⟨_,_,_,_,_,_,_,_,_,h1,h2,h3,hXd⟩:=(show X7 wd wr.heap.size (.slice D1 m1 d1) (.slice D2 m2 d2) (.slice D3 m3 d3) uS uM uX from⟨Xi hOC.out.s hbD,Xi hOC.out.m hbD,Xi hOC.out.x hbD⟩).form
      injection h1 with h1 h1' h1''
      injection h2 with h2 h2' h2''
      injection h3 with h3 h3' h3''
      subst h1 h1' h1'' h2 h2' h2'' h3 h3' h3''
      have HAd:=hid (Lx (q:=uq) hNd hkd hXd)
      clear hNd hkd hXd hOC hde;go_wp2_with fail;refine HAd.out.mono ?_;rintro e w10 ⟨rfl,hC10,hg10⟩
      have hF:=hid (show Cb w10 gN bN W m ((Tk C K (q,E1,E2,E3)).take (k+1))/\Chg (λk=>k=bN) w3 w10 from⟨by
       have h1:=HTp.out
       rw[if_neg he]at h1;rw[h1]at hC10;exact hC10,hBd.trans (Chg.W5 (S:=λk=>k=bN) hg10 λk e _=>(ax e).symm) λ_ _ h=>h⟩)
      clear hC10 hg10 HAd;go_wp2_with fail;go_roundw
      case rel=>exact⟨k+1,by omega,by go_num,hid hF.out.1,hF.out.2⟩
      case measure=>simp[intOf];omega
   ·obtain rfl:k=n:=by omega
    have hF:=hid (show(∃p,Ending.returned (.pointer (some ⟨gN,0,none⟩))=.returned p/\Eh w W m (Tk C K (q,E1,E2,E3)) p wr)/\Below w.heap.size w wr from⟨⟨_,rfl,gN,bN,rfl,by
     have h1:=hO.out
     rw[bp (by unfold Tk;rw[an,hn.out];exact aa _)]at h1
     exact h1,by omega,by omega⟩,(HK3.out wr hB).2.2.2.2⟩)
    clear hO;go_wp2_with fail;go_ret;exact hF.out
theorem Yko{B size:Nat}{e:TypeId}{xs:List Value}(h:w.ownsRow B e size v n xs)(hv:v.ownBlock=some b)(j:Nat):w.frozen? ⟨b,j,none⟩=false:=by
 rcases h.2 with⟨e0,_⟩|⟨b',cap,cur,e0,_⟩
 ·rw[e0]at hv;cases hv
 ·rw[e0]at hv h
  have e3:b'=b:=by simpa[av]using hv
  subst e3;exact World.ownsRow.frozenAt h j
def Ydb(w:World)(g:Nat)(X1 X2 X3 dv vv:Value)(ds:List DAt)(vs:List CAt)(N:List Nat)(Qs:List (List Pth))(W m:Nat)(Cs:List Cub)(cnt:Int)(e:Ending)(w':World):Prop:=
 e=.returned (.tuple #[])/\∃vs',LtM w' g X1 X2 X3 dv vv ds vs' N Qs W m Cs cnt/\Chg (Zm g dv vv ds vs) w w'∧∀k,Zm g dv vv ds vs' k->Zm g dv vv ds vs k∨w.heap.size<=k
theorem Yqe{ds:List DAt}{vs:List CAt}(h:LtM w g (.slice B1 W b1) (.slice B2 m b2) X3 dv vv ds vs N Qs W m Cs cnt)(hWm:1<=W/\W<=3/\1<=m/\m<=2){v:Nat}(hv:v<Cs.length){q:Int}{A1 A3 A4 A5:Option Addr}{ad:Addr}{n1 c1 n2 c2 n3 c3 n4 c4 n5 c5:Nat}{K:List Int}{M:List PC}{Sx Mx Xx:List Int}{S:Nat->Prop}(hK:Y2 w w.heap.size A1 n1 c1 K)(hM:Row Z7 4 w S (some ad) n2 c2 M)(hn:n2<=1000)(hX:Z7 w S [.int .i64 q,.slice A3 n3 c3,.slice A4 n4 c4,.slice A5 n5 c5] (q,Sx,Mx,Xx))(hx:Yv m (q,Sx,Mx,Xx))(hcl:∀e∈Cs.getD v [],Yv m e.2)(hk:isKey W K)(hMc:∀c∈M,Yv m c)(hMn:M≠[])(hw:Xd (Cs.getD v []) K M=((q,Sx,Mx,Xx),0)):
  Calls aj 52 #[.pointer (some ⟨g,0,none⟩),.agg #[.int .i64 v,.slice A1 n1 c1,.slice (some ad) n2 c2,.int .i64 q,.slice A3 n3 c3,.slice A4 n4 c4,.slice A5 n5 c5]] w (Ydb w g (.slice B1 W b1) (.slice B2 m b2) X3 dv vv ds vs N Qs W m (Cs.set v (Wo (Cs.getD v []) K (q,Sx,Mx,Xx))) cnt):=by
 obtain⟨Av,cv,evv,hvl,hat⟩:=h.Yat;obtain⟨Cz,hCz⟩: ∃Cz,Hid (Cs.set v (Wo (Cs.getD v []) K (q,Sx,Mx,Xx))=Cz):=⟨_,hid rfl⟩;rw[hCz.out];subst evv;obtain⟨⟨gv,bw⟩,hcc⟩: ∃cc,Hid (vs[v]?=some cc):=⟨_,hid (ai (by omega))⟩
 obtain⟨bv,rfl,hob,hbv,hcell⟩:=hat v _ hcc.out
 have hCb:=h.cbs.at_ v _ hcc.out
 dsimp only at hCb hcell
 have hb0:=(Yb w (.cells #[.int .i64 v,.slice A1 n1 c1,.slice (some ad) n2 c2,.int .i64 q,.slice A3 n3 c3,.slice A4 n4 c4,.slice A5 n5 c5] 109))
 have hbl:=(Sb w (.int .i64 v) (.slice A1 n1 c1) (.slice (some ad) n2 c2) (.int .i64 q) (.slice A3 n3 c3) (.slice A4 n4 c4) (.slice A5 n5 c5))
 have HSm:=hid (R9 (hM.mv Zf (Mv.Yc hb0 _)).Ylp (by omega))
 obtain⟨⟨⟨n9,Su,Mi,Ma⟩,er⟩,hcs⟩: ∃z,Hid (Um M=z):=⟨_,hid rfl⟩
 have Hadd:Hid (er=0->R6 W m (Cs.getD v []) K (n9,Su,Mi,Ma)=(Wo (Cs.getD v []) K (q,Sx,Mx,Xx),0)):=hid λh0=>by
  have h1:=Ynp (k:=K) hcl hk hMc hMn (by rw[hcs.out];exact h0) (by rw[hw])
  rw[hcs.out,hw]at h1;exact h1
 have Htn:Hid (er≠0->Tk (Cs.getD v []) K (q,Sx,Mx,Xx)=Wo (Cs.getD v []) K (q,Sx,Mx,Xx)):=hid λh0=>Yc4 hCb.ok.ris (by
  rcases hg:Za (Cs.getD v []) K with _|u
  ·exfalso
   have h1:Xd (Cs.getD v []) K M=Um M:=by unfold Xd;rw[hg];rfl
   rw[hw,hcs.out]at h1;injection h1 with _ h1
   exact h0 h1.symm
  ·rfl)
 rw[hcs.out]at HSm
 have HM:=hid h
 have g0:=hid hcell
 have HK:=hid hK
 have HX:=hid hX
 have HCb:=hid hCb
 have Hcl:=hid hcl
 have Hx:=hid hx
 have Hob:=hid hob
 have hgl:=h.blk.lt
 have i0:(0:Int)<=(v:Int):=by omega
 have i1:(v:Int)<(Cs.length:Int):=by omega
 have k2:=hbl.cell 2
 clear h hat hCb hK hM hX hcell hcl hx hw hMc hMn hob;go_enter Tryz.func52,Tryz.ntmps52;go_wp2_with fail;refine HSm.out.mono ?_;rintro e w3 ⟨⟨v1,v2,v3,rfl,hOC⟩,hB3⟩;obtain⟨E1,m1,d1,rfl,_,_⟩:=hOC.s.Yr;obtain⟨E2,m2,d2,rfl,_,_⟩:=hOC.m.Yr;obtain⟨E3,m3,d3,rfl,_,_⟩:=hOC.x.Yr
 have hb3:=hb0.trans (hB3.mono hb0.size)
 have hb4:=hb3.trans ((Yb w3 (.cells #[.int .i64 n9,.slice E1 m1 d1,.slice E2 m2 d2,.slice E3 m3 d3] 71)).mono hb3.size)
 have hbx:=(hbl.below hB3 hbl.lt).alloc (.cells #[.int .i64 n9,.slice E1 m1 d1,.slice E2 m2 d2,.slice E3 m3 d3] 71)
 have hbc:=Block.new w3 71 #[.int .i64 n9,.slice E1 m1 d1,.slice E2 m2 d2,.slice E3 m3 d3]
 have hOc:=(show X7 (w3.alloc (.cells #[.int .i64 n9,.slice E1 m1 d1,.slice E2 m2 d2,.slice E3 m3 d3] 71)) _ _ _ _ _ _ _ from⟨hOC.s.alloc _,hOC.m.alloc _,hOC.x.alloc _⟩)
 clear hOC hB3 HSm hb0 hbl k2 hb3;go_upto_region 2 with fail
 generalize w3.alloc (.cells #[.int .i64 n9,.slice E1 m1 d1,.slice E2 m2 d2,.slice E3 m3 d3] 71)=Y at hb4 hbx hbc hOc⊢
 have k0:=hbx.cell 0
 have k1:=hbx.cell 1
 have k2:=hbx.cell 2
 have k3:=hbx.cell 3
 have k4:=hbx.cell 4
 have k5:=hbx.cell 5
 have k6:=hbx.cell 6
 have q0:=hbc.cell 0
 have q1:=hbc.cell 1
 have q2:=hbc.cell 2
 have q3:=hbc.cell 3
 have v4:=(HM.out.below hb4).c4
 have g4:=(hb4.cell (p:=⟨bv,v,none⟩) hbv).trans g0.out
 have hbD:Below Y.heap.size Y (Y.drewN 1):=below_drewN (Below.refl _ Y) 1
 have hbY:=hb4.trans (hbD.mono hb4.size)
 have hMD:=hid (HM.out.below hbY)
 have hzY:=hb4.size
 by_cases her:er=0
 ·subst her
  obtain⟨_,_,_,_,_,_,_,_,_,h1,h2,h3,hXd⟩:=hOc.form;injection h1 with h1 h1' h1''
  injection h2 with h2 h2' h2''
  injection h3 with h3 h3' h3''
  subst h1 h1' h1'' h2 h2' h2'' h3 h3' h3''
  have hA:=Lx (q:=n9) (HCb.out.Yc hbY) ((HK.out.below hbY (aa _)).more hbY.size) (hXd.Yc hbD)
  rw[Hadd.out rfl]at hA
  have HA:=hid hA
  clear hA hXd hOc;go_wp2_with fail;go_still_tail 11,(by kernel_rfl)
  change wpList _ _ _ _ _ Y.drew
  go_wp2_with fail;refine HA.out.mono ?_;rintro e w9 ⟨rfl,hC9,hg9⟩
  ·have hch:Chg (Va (gv,bw)) (Y.drewN 1) w9:=Chg.W5 hg9 λk e _=>.inr (ax e).symm
   have hF:=hid (show Ydb w g (.slice B1 W b1) (.slice B2 m b2) X3 dv (.slice (some ⟨bv,0,none⟩) Cs.length cv) ds vs N Qs W m Cz cnt (.returned (.tuple #[])) w9 from
    ⟨rfl,vs,by rw[<-hCz.out];exact hMD.out.Yxe hcc.out hch hC9,(Chg.Y1 (S:=Zm g dv (.slice (some ⟨bv,0,none⟩) Cs.length cv) ds vs) hbY (aa _)).trans (hch.mono (S':=Zm g dv (.slice (some ⟨bv,0,none⟩) Cs.length cv) ds vs) λk _ hk=>.inr (.inr (.inr (.inr ⟨_,af hcc.out,hk⟩)))) λ_ _ h=>h,λk hk=>.inl hk⟩)
   clear hC9 hg9 hch HA;go_wp2_with fail;refine bodyPost_end (results_none rfl _ _ _) rfl ?_;exact hF.out
 ·have HR:=hid (Yas (ad:=ad) (n2:=n2) (c2:=c2) hMD.out hWm hv ((HK.out.below hbY (aa _)).more hbY.size) (Zf _ _ _ _ _ _ (Mv.Yc hbY _) HX.out) Hx.out Hcl.out)
  clear hOc;go_wp2_with fail;go_region_law (go_simp;go_at_call 107;refine HR.out.mono ?_;rintro e w9 ⟨⟨p,rfl,gN,bN,rfl,hN9,hgN,hbN⟩,hB9⟩;have hB9':Below Y.heap.size Y w9:=hbD.trans (hB9.mono hbD.size);have hM9:=HM.out.below (hb4.trans (hB9'.mono hzY));have v4':=hM9.c4;have k0':=(hB9'.cell (p:=⟨w.heap.size,0,none⟩) hbx.lt).trans k0;have fz:w9.frozen? ⟨bv,v,none⟩=false:=Yko hM9.vr Hob.out v;have g4':=(hB9'.cell (p:=⟨bv,v,none⟩) (ag hbv hzY)).trans g4)
  all_goals
   obtain⟨hP,hf⟩:=hMD.out.P7 hB9 hcc.out Hob.out (c':=(gN,bN)) hN9 (λk hk=>by rcases hk with rfl|rfl <;> assumption)
   rw[Htn.out her,hCz.out]at hP
   have hF:=hid (show Ydb w g (.slice B1 W b1) (.slice B2 m b2) X3 dv (.slice (some ⟨bv,0,none⟩) Cs.length cv) ds vs N Qs W m Cz cnt (.returned (.tuple #[])) (w9.setCell ⟨bv,v,none⟩ (Xk gN))from
    ⟨rfl,_,hP,((Chg.Y1 (S:=Zm g dv (.slice (some ⟨bv,0,none⟩) Cs.length cv) ds vs) (hbY.trans (hB9.mono hbY.size)) (aa _)).Ys bv v _ λ_=>.inr (.inr (.inl Hob.out))),λk hk=>(hf k hk).imp id λh=>ao hbY.size h⟩)
   clear hP hf hN9 hM9;go_wp2_with fail;refine bodyPost_end (results_none rfl _ _ _) rfl ?_;exact hF.out
def Yrr(w:World)(m:Nat)(κ:Fct->Zd)(G:List Fct)(e:Ending)(w':World):Prop:=
 ((okF m κ Zb G/\∃A c L,e=.returned (.tuple #[.slice A L.length c,.int .i64 0])/\Xu m κ Zb G L/\Row V6 5 w' (λb=>w.heap.size<=b) A L.length c L)∨(¬okF m κ Zb G/\e=.returned (.tuple #[.slice none 0 0,.int .i64 14])))/\Below w.heap.size w w'
theorem Jz(S:Nat->Prop)(w:World):∀(us:List Value) (y:Zd×PC),V6 w S us y->us.length=5->∀u∈us,u.oneCell'=true:=by
 intro us y h _ u hu;obtain⟨A0,n0,c0,n,A1,n1,c1,A2,n2,c2,A3,n3,c3,K,Su,M,X,rfl,_⟩:=Pe h;simp at hu
 rcases hu with rfl|rfl|rfl|rfl|rfl <;> rfl
theorem Yf4{L:List (List Txt)}(h:Yx Z4 23 1 w' w.heap.size (λb=>w.heap.size<=b) v L):∃A c,v=.slice A L.length c/\Row Z4 1 w' (λb=>w.heap.size<=b/\b<w'.heap.size) A L.length c L:=by
 obtain⟨A,c,e,hr⟩:=h.read Zr;exact⟨A,c,e,hr.mv Zr (Mv.to w' λb hb hl=>⟨by
  rcases hb with hb|hb
  ·exact hb
  ·exact hb.1,hl⟩)⟩
theorem Row.Yxb{α:Type}{E:ElT α}{L:List α}(h:Row E sz w S (some ⟨b,o,none⟩) n c L){k:Nat}(hk:k<=n):Row E sz w S (some ⟨b,o+k*sz,none⟩) (n-k) (c-k) (L.drop k):=by
 obtain⟨h0,vs,h1,h2⟩:=h
 have hcap:=h1.cap
 have hfit:=h1.fit
 have hmul:(n-k)*sz=n*sz-k*sz:=Nat.sub_mul n k sz
 refine⟨by rw[bj,h0],vs.drop (k*sz),⟨by rw[bj,h1.len,hmul],by omega,by omega,(λh=>by cases h),λhn=>?_⟩,λi y hi=>?_⟩
 ·obtain⟨b',o',e,hb,hl,hc⟩:=h1.has (by omega)
  injection e with e
  injection e with e3 e4
  subst e3 e4;refine⟨b,o+k*sz,rfl,hb,hl,λj u hu=>?_⟩
  rw[bs]at hu;rw[Nat.add_assoc];exact hc _ u hu
 ·rw[bs]at hi
  have h3:=h2 _ y hi
  rw[List.drop_drop,show k*sz+i*sz=(k+i)*sz from(dp k i sz).symm]
  exact h3
theorem Row.Yw3{α:Type}{E:ElT α}(hc:c<=maxLen)(hA:A=none->c=0):Row E sz w S A 0 c ([]:List α):=
 ⟨rfl,[],⟨by simp,aw _,hc,hA,λh=>absurd h (by omega)⟩,λi x h=>by simp at h⟩
theorem Yl0(h:Row V6 5 y S (some ⟨b,o,none⟩) n c L){t:Nat}(ht:t<n):∃A0 n0 c0 e,y.cell? ⟨b,o+t*5,none⟩=some (.slice A0 n0 c0)/\Row Z4 1 y S A0 n0 c0 (e:Zd×PC).1/\Hid (L[t]?=some e):=by
 obtain⟨b9,o9,A0,n0,c0,x0,X1,y1,z1,X2,y2,z2,X3,y3,z3,K9,Su,M9,X9,e,_,_,k0,_,_,_,_,hK9,_,_,_,he9⟩:=h.atR ht;injection e with e
 injection e with e3 e4
 subst e3 e4;exact⟨A0,n0,c0,_,k0,hK9,he9⟩
def Yjr(v:Value):Nat:=match v with| .slice _ n _=>n|_=>0
theorem Yfo{A1 A2 A3 Af Av:Option Addr}{nf cf nv cv:Nat}{G:List Fct}{v:List Int}(hG:S0 w (λb=>b<w.heap.size) Af nf cf G)(hv:Y2 w w.heap.size Av nv cv v)(hm2:m<=2)(hfit:∀f∈G,nv<=f.1.length/\isVal m f.2/\∀p∈f.1,p.length<=1000000)(hn:nf<=1000)(hnv:nv<=1000):
  Calls aj 20 #[Sy A1 n1 c1 A2 m c2 A3 n3 c3,.slice Af nf cf,.slice Av nv cv] w (Yrr w m (kP v) G):=by
 have HGl:=hid hG.len
 have HFit:=hid hfit
 have hb1:=Yb w (.cells #[.slice A1 n1 c1,.slice A2 m c2,.slice A3 n3 c3] 26)
 have hX:=Block.new w 26 #[.slice A1 n1 c1,.slice A2 m c2,.slice A3 n3 c3]
 have KG:Hid (∀y,Below w.heap.size w y->S0 y (λb=>b<w.heap.size) Af nf cf G/\Y2 y w.heap.size Av nv cv v):=hid λy hy=>⟨hG.mv Y3 (Mv.below hy λb hb=>hb),hv.below hy (aa _)⟩
 obtain⟨κ,hκ⟩: ∃κ,kP (β:=List Int) v=κ:=⟨_,rfl⟩
 have HKe:Hid (∀f:Fct,Vo v f.1=κ f):=hid λf=>by rw[<-hκ];rfl
 rw[hκ];clear hG hv hfit hκ;go_enter Tryz.func20,Tryz.ntmps20;go_wp2_with fail;obtain⟨bx,hbx⟩: ∃bx,w.heap.size=bx:=⟨_,rfl⟩
 have HB1:Hid (Below w.heap.size w (w.alloc (.cells #[.slice A1 n1 c1,.slice A2 m c2,.slice A3 n3 c3] 26))):=hid hb1
 have hz1:w.heap.size<=(w.alloc (.cells #[.slice A1 n1 c1,.slice A2 m c2,.slice A3 n3 c3] 26)).heap.size:=hb1.size
 clear hb1;rw[hbx]at hX⊢;generalize w.alloc (.cells #[.slice A1 n1 c1,.slice A2 m c2,.slice A3 n3 c3] 26)=w1 at hX HB1 hz1⊢
 have KX:Hid (∀y,Below w1.heap.size w1 y->y.cell? ⟨bx,1,none⟩=some (.slice A2 m c2)):=hid λy hy=>(hX.below hy hX.lt).cell 1
 have HBx:=hid hbx
 clear hX hbx;go_loopw [9,10] (λd i wr=>∃k:Nat,k<=nf/\i=.int .i64 k/\Hid (Yx V6 73 5 wr w1.heap.size (λb=>w1.heap.size<=b) d (Ud m κ Zb G k)/\okT m κ G k)/\Below w1.heap.size w1 wr) (λ_ i _=>nf-(intOf i).toNat)
 case atStart=>exact⟨0,aw _,rfl,hid ⟨by rw[show Ud m κ Zb G 0=[]from rfl];exact Yx.Zj _ _ _,Yqh⟩,Below.refl _ _⟩
 case round=>
  obtain⟨k,hk,rfl,hO,hB⟩:=hrel
  have hBw:=HB1.out.trans (hB.mono hz1)
  obtain⟨DD,hDD⟩: ∃DD,Hid (Ud m κ Zb G k=DD):=⟨_,hid rfl⟩
  have hDl:DD.length<=1000:=by rw[<-hDD.out];exact ao Yl6 (by omega)
  have hO1:=hO.out
  rw[hDD.out]at hO1;obtain⟨A9,c9,e9,hdone⟩:=hO1.1.read Zv;subst e9;obtain⟨nd,hnd⟩: ∃nd,Hid (DD.length=nd):=⟨_,hid rfl⟩;rw[hnd.out]at hO1 hdone hDl⊢
  have HO:=hid hO1
  have KD:Hid (∀y,Below wr.heap.size wr y->Row V6 5 y (λb=>w1.heap.size<=b/\b<wr.heap.size) A9 nd c9 DD):=hid λy hy=>hdone.mv Zv ((Mv.to wr (S':=λb=>w1.heap.size<=b/\b<wr.heap.size) λb hb hl=>⟨by
   rcases hb with hb|hb
   ·exact hb
   ·exact hb.1,hl⟩).trans (Mv.Yc hy _))
  have hzr:w1.heap.size<=wr.heap.size:=hB.size
  have HB:=hid hB
  have HBw:=hid hBw
  clear hO hO1 hdone hB hBw
  by_cases hlt:k<nf
  ·obtain⟨hGr,hvr⟩:=KG.out wr HBw.out
   obtain⟨b,o,P,np,cp,Q,nq,cq,p,q,rfl,_,_,gp,gq,hp,hq,he⟩:=hGr.at2 hlt
   have hf:nv<=p.length/\isVal m q/\∀x∈p,x.length<=1000000:=HFit.out _ (af he.out)
   have i0:(0:Int)<=(k:Int):=by omega
   have i1:(k:Int)<(nf:Int):=by omega
   have hpl:=hp.len
   have hvl:=hvr.len
   have HK:=hid (Cx (Q:=Q) (nq:=nq) (cq:=cq) hp (hvr.more HBw.out.size) (by have:=hf.1;omega) hnv hf.2.2)
   have hkl:Hid ((Vo v p).length=nv):=hid (by rw[Kx (by have:=hf.1;omega)];exact hvl)
   obtain⟨K,hK⟩: ∃K,Hid (κ (p,q)=K):=⟨_,hid rfl⟩
   have hKK:Hid (Vo v p=K):=hid ((HKe.out (p,q)).trans hK.out)
   rw[hKK.out]at HK hkl;obtain⟨wo,rfl⟩: ∃wo,wo=wr:=⟨_,rfl⟩;clear hGr hvr hp hq hf hpl hvl;go_wp2_with fail;refine HK.out.mono ?_;rintro e w2 ⟨vk,rfl,hOk,hb2⟩;obtain⟨Ak,ck,rfl,hKr⟩:=Yf4 hOk;rw[hkl.out]at hKr⊢
   have HB2:=hid hb2
   have KK:Hid (∀y,Below w2.heap.size w2 y->Row Z4 1 y (λb=>wo.heap.size<=b/\b<w2.heap.size) Ak nv ck K):=hid λy hy=>hKr.mv Zr (Mv.Yc hy _)
   have hz2:wo.heap.size<=w2.heap.size:=hb2.size
   clear hOk hKr HK hb2 gp gq;go_wp2_with fail;go_loopw [12,13] (λh j wr=>∃(t:Nat) (bb:Bool),t<=nd/\h=.bool bb/\j=.int .i64 t/\Below w2.heap.size w2 wr/\Hid (Dq DD K t bb)) (λ_ j _=>nd-(intOf j).toNat)
   case atStart=>exact⟨0,false,aw _,rfl,rfl,Below.refl _ _,hid Ym8⟩
   case round=>
    obtain⟨t,bb,ht,rfl,rfl,hBt,hbb⟩:=hrel
    have HBt:=hid hBt
    clear hBt
    by_cases hlt2:t<nd
    ·have j0:(0:Int)<=(t:Int):=by omega
     have j1:(t:Int)<(nd:Int):=by omega
     obtain⟨b9,o9,A0,n0,c0,x0,X1,y1,z1,X2,y2,z2,X3,y3,z3,K9,Su,M9,X9,rfl,_,_,k0,_,_,_,_,hK9,_,_,_,he9⟩:=(KD.out wr (HB2.out.trans (HBt.out.mono hz2))).atR hlt2
     cases bb
     ·obtain⟨x,hx⟩: ∃x,Hid (cmpL K9 K=x):=⟨_,hid rfl⟩
      have HC:=hid (R8 hK9 (KK.out wr HBt.out) hx)
      by_cases hx0:x=0
      ·subst hx0
       have HN:Hid (Dq DD K (t+1) true):=hid (Yp1 he9.out ((Mk _ _).1 hx.out))
       clear hK9 he9;go_wp2_with fail;refine HC.out.mono ?_;rintro e w9 ⟨rfl,q9,rfl⟩
       have HB9:=hid (below_drewN HBt.out q9)
       clear HC;go_wp2_with fail;go_roundw
       case rel=>exact⟨t+1,true,by omega,rfl,by go_num,HB9.out,HN⟩
       case measure=>simp[intOf];omega
      ·have hxb:((x:Int)==0)=false:=by simpa using hx0
       have HN:Hid (Dq DD K (t+1) false):=hid (Yu1 hbb.out he9.out λh1=>by
        have h1:K9=K:=h1
        rw[h1]at hx;exact hx0 (hx.out.symm.trans (Ri K)))
       clear hK9 he9 hx0;go_wp2_with fail;refine HC.out.mono ?_;rintro e w9 ⟨rfl,q9,rfl⟩
       have HB9:=hid (below_drewN HBt.out q9)
       clear HC;go_wp2_with fail;go_roundw
       case rel=>exact⟨t+1,false,by omega,rfl,by go_num,HB9.out,HN⟩
       case measure=>simp[intOf];omega
     ·have HN:Hid (Dq DD K (t+1) true):=hid (Yod hbb.out he9.out)
      clear hK9 he9;go_wp2_with fail;go_roundw
      case rel=>exact⟨t+1,true,by omega,rfl,by go_num,HBt.out,HN⟩
      case measure=>simp[intOf];omega
    ·have hin:=hbb.out
     rw[<-hDD.out]at hin
     have hin:=hid (Ysg hin (by rw[hDD.out,hnd.out];omega))
     have HB3:=hid (HB2.out.trans (HBt.out.mono hz2))
     cases bb
     ·have hnew:=hid (hin.out.2 rfl)
      obtain⟨w3,rfl⟩: ∃w3,w3=wr:=⟨_,rfl⟩
      have HB3w:=hid (HBw.out.trans (HB3.out.mono HBw.out.size))
      have hz3:wo.heap.size<=w3.heap.size:=HB3.out.size
      have hzw3:w.heap.size<=w3.heap.size:=HB3w.out.size
      go_wp2_with fail;go_loopw [14,15] (λu j wr=>∃t:Nat,k<=t/\t<=nf/\j=.int .i64 t/\Hid (Yx U3 47 1 wr w3.heap.size (λb=>b<w.heap.size) u (Ua κ G K k t))/\Below w3.heap.size w3 wr) (λ_ j _=>nf-(intOf j).toNat)
      case atStart=>exact⟨k,aa _,by omega,rfl,hid (by rw[Yis];exact Yx.Zj _ _ _),Below.refl _ _⟩
      case round=>
       obtain⟨t,hkt,htn,rfl,hV,hBv⟩:=hrel
       have HBv:=hid hBv
       have HBvw:=hid (HB3w.out.trans (hBv.mono hzw3))
       clear hBv
       by_cases hlt3:t<nf
       ·obtain⟨hGt,hvt⟩:=KG.out wr HBvw.out
        obtain⟨b4,o4,P4,np4,cp4,Q4,nq4,cq4,p4,q4,e4,hb4,_,gp4,gq4,hp4,hq4,he4⟩:=hGt.at2 hlt3;injection e4 with e4
        injection e4 with e4a e4b
        subst e4a e4b
        have hf4:nv<=p4.length/\isVal m q4/\∀x∈p4,x.length<=1000000:=HFit.out _ (af he4.out)
        have j0:(0:Int)<=(t:Int):=by omega
        have j1:(t:Int)<(nf:Int):=by omega
        have hpl4:=hp4.len
        have HK4:=hid (Cx (Q:=Q4) (nq:=nq4) (cq:=cq4) hp4 (hvt.more HBvw.out.size) (by have:=hf4.1;omega) hnv hf4.2.2)
        have hkl4:Hid ((Vo v p4).length=nv):=hid (by rw[Kx (by have:=hf4.1;have:=hvt.len;omega)];exact hvt.len)
        obtain⟨K4,hK4⟩: ∃K4,Hid (κ (p4,q4)=K4):=⟨_,hid rfl⟩
        have hKK4:Hid (Vo v p4=K4):=hid ((HKe.out (p4,q4)).trans hK4.out)
        rw[hKK4.out]at HK4 hkl4
        have KQ:Hid (∀y,Below w.heap.size w y->y.cell? ⟨b,o+t*2+1,none⟩=some (.slice Q4 nq4 cq4)/\Row Yy 1 y (λb=>b<w.heap.size) Q4 nq4 cq4 q4):=hid λy hy=>by
         obtain⟨b5,o5,P5,np5,cp5,Q5,nq5,cq5,p5,q5,e5,_,_,_,gq5,_,hq5,he5⟩:=(KG.out y hy).1.at2 hlt3;injection e5 with e5
         injection e5 with e5a e5b
         subst e5a e5b
         have h1:=(hy.cell (p:=⟨b,o+t*2+1,none⟩) hb4).trans ((HBvw.out.cell (p:=⟨b,o+t*2+1,none⟩) hb4).symm.trans gq4)
         rw[gq5]at h1;injection h1 with h1
         injection h1 with h2 h3 h4
         subst h2 h3 h4
         have h5:=he5.out
         rw[he4.out]at h5;injection h5 with h5
         injection h5 with _ h5
         subst h5;exact⟨gq5,hq5⟩
        have hst:=hid (Yjy (κ:=κ) (K:=K) (i:=k) he4.out hkt)
        have hlo:=hV.out.lt
        have hlb:Hid ((Ua κ G K k t).length<=1000000):=hid (ao G5 (by have:=HGl.out;omega))
        have hzv:w3.heap.size<=wr.heap.size:=HBv.out.size
        clear hGt hvt hp4 hq4 hf4 hpl4 he4;go_wp2_with fail;refine HK4.out.mono ?_;rintro e w5 ⟨vk4,rfl,hOk4,hb5⟩;obtain⟨Ak4,ck4,rfl,hKr4⟩:=Yf4 hOk4;rw[hkl4.out]at hKr4⊢
        have HB5:=hid (HBv.out.trans (hb5.mono hzv))
        obtain⟨x,hx⟩: ∃x,Hid (cmpL K4 K=x):=⟨_,hid rfl⟩
        have HC:=hid (R8 hKr4 (KK.out w5 (HBt.out.trans ((HB5.out).mono HBt.out.size))) hx)
        have HV5:=hid (hV.out.below Wj hb5)
        clear hOk4 hKr4 HK4 hb5 hV gp4 gq4
        by_cases hx0:x=0
        ·subst hx0
         have hkk:K4=K:=(Mk _ _).1 hx.out
         have hst2:Hid (Ua κ G K k (t+1)=Ua κ G K k t++[q4]):=hid (by rw[hst.out,if_pos (by rw[hK4.out,hkk])])
         clear hkk;go_wp2_with fail;refine HC.out.mono ?_;rintro e w6 ⟨rfl,q6,rfl⟩
         have HB6:=hid (below_drewN HB5.out q6)
         obtain⟨gq6,hq6⟩:=KQ.out (w5.drewN q6) (HB3w.out.trans (HB6.out.mono hzw3))
         have HO6:=hid ((HV5.out.drewN Wj q6).alloc Wj (.cells #[.slice Q4 nq4 cq4] 47))
         have HE6:Hid (U3 ((w5.drewN q6).alloc (.cells #[.slice Q4 nq4 cq4] 47)) (λb=>b<w.heap.size/\u14.ownBlock≠some b) [.slice Q4 nq4 cq4] q4):=hid ⟨Q4,nq4,cq4,rfl,hq6.mv Yh ((Mv.alloc (w5.drewN q6) _ _).trans (Mv.to _ λb hb _=>⟨hb,λe=>by have:=(hlo b e).1;omega⟩))⟩
         have hB7:=HB6.out.trans ((Yb (w5.drewN q6) (.cells #[.slice Q4 nq4 cq4] 47)).mono HB6.out.size)
         have hbs:w3.heap.size<=((w5.drewN q6).alloc (.cells #[.slice Q4 nq4 cq4] 47)).heap.size:=hB7.size
         clear hq6 HC;go_wp2_with (at_builtin;refine Z9 Wj rfl _ _ rfl Yb5 Tryz.underlying24 rfl (by decide) w3.heap.size _ u14 _ rfl HO6.out _ rfl [.slice Q4 nq4 cq4] rfl q4 (Yhu (w5.drewN q6) Q4 nq4 cq4 47 _ rfl) (Yk2 Q4 nq4 cq4) HE6.out hlb.out hbs ?_)
         intro v8 w8 hO8 hG8
         have hF:=hid (show Yx U3 47 1 w8 w3.heap.size (λb=>b<w.heap.size) v8 (Ua κ G K k (t+1))/\Below w3.heap.size w3 w8 from⟨by rw[hst2.out];exact hO8,hB7.trans (hG8.Yw hbs λj e=>(hlo j e).1)⟩)
         clear hO8 hG8 hB7;go_wp2_with fail;go_roundw
         case rel=>exact⟨t+1,by omega,by omega,by go_num,hid hF.out.1,hF.out.2⟩
         case measure=>simp[intOf];omega
        ·have hxb:((x:Int)==0)=false:=by simpa using hx0
         have hst2:Hid (Ua κ G K k (t+1)=Ua κ G K k t):=hid (by
          rw[hst.out,if_neg];rw[hK4.out];intro h1;rw[h1]at hx;exact hx0 (hx.out.symm.trans (Ri K)))
         clear hx0;go_wp2_with fail;refine HC.out.mono ?_;rintro e w6 ⟨rfl,q6,rfl⟩
         have HO6:=hid (HV5.out.drewN Wj q6)
         have HB6:=hid (below_drewN HB5.out q6)
         clear HC;go_wp2_with fail;go_roundw
         case rel=>exact⟨t+1,by omega,by omega,by go_num,hid (by rw[hst2.out];exact HO6.out),HB6.out⟩
         case measure=>simp[intOf];omega
       ·have htG:G.length<=t:=by have:=HGl.out;omega
        obtain⟨Au,cu,eu,hVr⟩:=hV.out.read Wj;subst eu
        have hvl:(Ua κ G K k t).length<=1000:=ao G5 (by have:=HGl.out;omega)
        have hfold:=Yro hm2 (λf hf=>(HFit.out f hf).2.1) (by have:=HGl.out;omega) htG he.out hK.out hnew.out
        have HFo:=Yg6 (m:Int) hVr.Ywg hvl
        rw[hfold]at HFo;obtain⟨nu,hnu⟩: ∃nu,(Ua κ G K k t).length=nu:=⟨_,rfl⟩;rw[hnu]at HFo⊢;obtain⟨⟨sq,sS,sM,sX⟩,hsum⟩: ∃z:PC,Hid (Yp m (Yf κ Zb G K)=z):=⟨_,hid rfl⟩
        have HBw2:=hid (HB2.out.trans (HBt.out.mono hz2))
        have HBo:=hid (HB3.out.trans (HBv.out.mono hz3))
        have HB1r:=hid (HB.out.trans (HBo.out.mono hzr))
        have xm:=KX.out wr HB1r.out
        rw[hsum.out]at HFo;clear hVr hV hvl hfold hnu
        by_cases hmay:Zo (Yp m (Yf κ Zb G K))
        ·rw[hsum.out]at hmay
         rw[if_pos hmay]at HFo
         have HFo:=hid HFo
         have hnk:κ (p,q)∉V1 κ (G.take k) []:=by rw[hK.out];exact hnew.out
         have hdn:=Ymj (m:=m) (c:=Zb) he.out hnk
         rw[hK.out,hsum.out,hDD.out]at hdn
         have hokn:okT m κ G (k+1):=Yt6 HO.out.2 he.out (by rw[hK.out,hsum.out];exact hmay)
         have HDn:=hid (And.intro hdn hokn)
         clear hmay hnk hdn hokn;go_wp2_with fail;refine HFo.out.mono ?_;rintro e w5 ⟨⟨v1,v2,v3,rfl,hOC⟩,hb5⟩;obtain⟨B1,d1,rfl,hR1⟩:=hOC.s.row;obtain⟨B2,d2,rfl,hR2⟩:=hOC.m.row;obtain⟨B3,d3,rfl,hR3⟩:=hOC.x.row;obtain⟨m1,hm1⟩: ∃m1,sS.length=m1:=⟨_,rfl⟩;obtain⟨m2,hm2'⟩: ∃m2,sM.length=m2:=⟨_,rfl⟩;obtain⟨m3,hm3⟩: ∃m3,sX.length=m3:=⟨_,rfl⟩;rw[hm1]at hR1⊢;rw[hm2']at hR2⊢;rw[hm3]at hR3⊢
         have hX5:=Block.new w5 71 #[.int .i64 sq,.slice B1 m1 d1,.slice B2 m2 d2,.slice B3 m3 d3]
         have hb6:=Yb w5 (.cells #[.int .i64 sq,.slice B1 m1 d1,.slice B2 m2 d2,.slice B3 m3 d3] 71)
         have hb7:=Yb (w5.alloc (.cells #[.int .i64 sq,.slice B1 m1 d1,.slice B2 m2 d2,.slice B3 m3 d3] 71)) (.cells #[.slice Ak nv ck,.int .i64 sq,.slice B1 m1 d1,.slice B2 m2 d2,.slice B3 m3 d3] 73)
         have hb57:=Ya hb6 hb7
         have hbr7:=Ya hb5 hb57
         have hzr5:=hbr7.size
         have HBo7:=hid (HBo.out.trans (hbr7.mono HBo.out.size))
         have HB17:=hid (HB1r.out.trans (hbr7.mono HB1r.out.size))
         have hlo:=HO.out.1.lt
         have hwo3:=HBo.out.size
         have HO7:=hid (HO.out.1.below Zv HBo7.out)
         have hKz:=KK.out _ ((HBt.out.trans (HBv.out.mono HBt.out.size)).trans (hbr7.mono (HBt.out.trans (HBv.out.mono HBt.out.size)).size))
         have hcell:∀b,wr.heap.size<=b->w1.heap.size<=b/\(au A9 nd c9).ownBlock≠some b:=λb hb=>⟨by omega,λe=>by have:=(hlo b e).2;omega⟩
         have HE7:=hid (Ylm (n:=sq) (hKz.mv Zr (Mv.to _ (S':=λb=>w1.heap.size<=b/\(au A9 nd c9).ownBlock≠some b) λb hb _=>⟨by have:=hb.1;omega,λe=>by have:=(hlo b e).2;have:=hb.1;omega⟩)) (hR1.mv Yh ((Mv.Yc hb57 _).trans (Mv.to _ λb hb _=>hcell b hb.1))) (hR2.mv Yh ((Mv.Yc hb57 _).trans (Mv.to _ λb hb _=>hcell b hb.1))) (hR3.mv Yh ((Mv.Yc hb57 _).trans (Mv.to _ λb hb _=>hcell b hb.1))))
         have x0:(w5.alloc (.cells #[.int .i64 sq,.slice B1 m1 d1,.slice B2 m2 d2,.slice B3 m3 d3] 71)).cell? ⟨w5.heap.size,0,none⟩=some (.int .i64 sq):=hX5.cell 0
         have x1:(w5.alloc (.cells #[.int .i64 sq,.slice B1 m1 d1,.slice B2 m2 d2,.slice B3 m3 d3] 71)).cell? ⟨w5.heap.size,1,none⟩=some (.slice B1 m1 d1):=hX5.cell 1
         have x2:(w5.alloc (.cells #[.int .i64 sq,.slice B1 m1 d1,.slice B2 m2 d2,.slice B3 m3 d3] 71)).cell? ⟨w5.heap.size,2,none⟩=some (.slice B2 m2 d2):=hX5.cell 2
         have x3:(w5.alloc (.cells #[.int .i64 sq,.slice B1 m1 d1,.slice B2 m2 d2,.slice B3 m3 d3] 71)).cell? ⟨w5.heap.size,3,none⟩=some (.slice B3 m3 d3):=hX5.cell 3
         have hbs:w1.heap.size<=((w5.alloc (.cells #[.int .i64 sq,.slice B1 m1 d1,.slice B2 m2 d2,.slice B3 m3 d3] 71)).alloc (.cells #[.slice Ak nv ck,.int .i64 sq,.slice B1 m1 d1,.slice B2 m2 d2,.slice B3 m3 d3] 73)).heap.size:=HB17.out.size
         have hlb:Hid (DD.length<=1000000):=hid (by rw[hnd.out];omega)
         have HC7:=hid (Q6 (w5.alloc (.cells #[.int .i64 sq,.slice B1 m1 d1,.slice B2 m2 d2,.slice B3 m3 d3] 71)) [.slice Ak nv ck,.int .i64 sq,.slice B1 m1 d1,.slice B2 m2 d2,.slice B3 m3 d3] 73 (w5.heap.size+1) (by rw[ae]))
         clear hOC hb5 hR1 hR2 hR3 hX5 hb6 hb7 hb57 hbr7 hKz hcell HFo hm1 hm2' hm3 xm;go_wp2_with (at_builtin;refine Z9 Zv rfl _ _ rfl Tr ar rfl (by decide) w1.heap.size _ (.slice A9 nd c9) _ rfl HO7.out _ rfl [.slice Ak nv ck,.int .i64 sq,.slice B1 m1 d1,.slice B2 m2 d2,.slice B3 m3 d3] rfl (K,sq,sS,sM,sX) HC7.out (B6 _ _ _ _ _ _ _ _ _ _ _ _ _) HE7.out hlb.out hbs ?_)
         intro v8 w8 hO8 hG8
         have hF:=hid (show(Yx V6 73 5 w8 w1.heap.size (λb=>w1.heap.size<=b) v8 (Ud m κ Zb G (k+1))/\okT m κ G (k+1))/\Below w1.heap.size w1 w8 from⟨⟨by rw[HDn.out.1];exact hO8,HDn.out.2⟩,HB17.out.trans (hG8.Yw hbs λj e=>(hlo j e).1)⟩)
         clear hO8 hG8 x0 x1 x2 x3;go_wp2_with fail;go_roundw
         case rel=>exact⟨k+1,by omega,by go_num,hid hF.out.1,hF.out.2⟩
         case measure=>simp[intOf];omega
        ·rw[hsum.out]at hmay
         rw[if_neg hmay]at HFo
         have HFo:=hid HFo
         have HNo:Hid (¬okF m κ Zb G):=hid λh=>hmay (by rw[<-hsum.out,<-hK.out];exact h _ (af he.out))
         clear hmay;go_wp2_with fail;refine HFo.out.mono ?_;rintro e w5 ⟨⟨v1,v2,v3,rfl,hOC⟩,hb5⟩;obtain⟨B1,m1,d1,rfl,_,_⟩:=hOC.s.Yr;obtain⟨B2,m2,d2,rfl,_,_⟩:=hOC.m.Yr;obtain⟨B3,m3,d3,rfl,_,_⟩:=hOC.x.Yr
         have HB5:=hid (HB1r.out.trans (hb5.mono HB1r.out.size))
         have HBe:=hid (HB1.out.trans ((HB5.out.trans ((Yb w5 (.cells #[.int .i64 Yl.1,.slice B1 m1 d1,.slice B2 m2 d2,.slice B3 m3 d3] 71)).mono HB5.out.size)).mono hz1))
         clear hOC hb5 HFo xm;go_wp2_with fail;go_ret2;exact⟨.inr ⟨HNo.out,rfl⟩,HBe.out⟩
     ·have hmem:=hin.out.1 rfl
      rw[<-hK.out]at hmem
      have h1:=Yo6 (m:=m) (c:=Zb) he.out hmem
      have hF:=hid (show Yx V6 73 5 wr w1.heap.size (λb=>w1.heap.size<=b) (.slice A9 nd c9) (Ud m κ Zb G (k+1))/\okT m κ G (k+1)from⟨by
       rw[h1,hDD.out];exact HO.out.1.below Zv HB3.out,Yud HO.out.2 he.out hmem⟩)
      have HB4:=hid (HB.out.trans (HB3.out.mono hzr))
      clear hmem h1;go_wp2_with fail;go_roundw
      case rel=>exact⟨k+1,by omega,by go_num,hF,HB4.out⟩
      case measure=>simp[intOf];omega
  ·have hkG:G.length=k:=by have:=HGl.out;omega
   have HOK:=hid (Ytx HO.out.2 (by omega))
   have hDDl:DD=Ud m κ Zb G G.length:=by rw[hkG,hDD.out]
   have HDD:=hid hDDl
   have HSel0:=hid (Sel.begin (all:=DD) (by rw[hDDl];exact Yme m κ Zb G _))
   obtain⟨wo,rfl⟩: ∃wo,wo=wr:=⟨_,rfl⟩
   have hD0:=hid ((KD.out wo (Below.refl _ _)).mv Zv (Mv.to wo (S':=λb=>w.heap.size<=b/\(au none 0 0).ownBlock≠some b) λb hb _=>⟨by have:=hb.1;omega,λe=>by cases e⟩))
   have hzwo:w.heap.size<=wo.heap.size:=HBw.out.size
   clear hkG hDDl;go_wp2_with fail;go_loopw [8,9] (λu d wr=>∃(A:Option Addr) (n c:Nat) (Lo Ld:Rws),d=.slice A n c/\Hid (Yx V6 73 5 wr wo.heap.size (λb=>w.heap.size<=b) u Lo/\Row V6 5 wr (λb=>w.heap.size<=b/\u.ownBlock≠some b) A n c Ld/\Sel DD Lo Ld)/\n<=nd/\Below wo.heap.size wo wr) (λ_ d _=>Yjr d)
   case atStart=>exact⟨A9,nd,c9,[],DD,rfl,hid ⟨Yx.Zj _ _ _,hD0.out,HSel0.out⟩,aa _,Below.refl _ _⟩
   case round=>
    obtain⟨A,n,c,Lo,Ld,rfl,HS,hnn,hBs⟩:=hrel
    have HBs:=hid hBs
    have hLd:=HS.out.2.1.len
    have hperm:=HS.out.2.2.perm.length_eq
    rw[ak,hnd.out]at hperm
    have hLo:Hid (Lo.length<=1000):=hid (by omega)
    have HLdn:=hid hLd
    have hnc:=HS.out.2.1.cap
    have hcm:=HS.out.2.1.Xf
    have hcf:=hid HS.out.2.1.fit
    clear hBs hperm hLd
    by_cases hn0:0<n
    ·obtain⟨b,o,_,_,rfl,_,_,_,_,_,_⟩:=HS.out.2.1.at_ hn0
     obtain⟨wx,rfl⟩: ∃wx,wx=wr:=⟨_,rfl⟩
     have hn0':(0:Int)<(n:Int):=by omega
     go_wp2_with fail;go_loopw [19,20] (λl j wi=>∃a t:Nat,l=.int .i64 a/\j=.int .i64 t/\1<=t/\t<=n/\a<n/\Hid (Pv Ld t a)/\Below wx.heap.size wx wi) (λ_ j _=>n-(intOf j).toNat)
     case atStart=>exact⟨0,1,rfl,rfl,aa _,hn0,hn0,hid Yfv,Below.refl _ _⟩
     case round=>
      obtain⟨a,t,rfl,rfl,ht1,htn,han,hle,hBi⟩:=hrel
      have HBi:=hid hBi
      have HRi:=hid (HS.out.2.1.mv Zv (Mv.Yc hBi _))
      clear hBi
      have a0:(0:Int)<=(a:Int):=by omega
      have a1:(a:Int)<(n:Int):=by omega
      by_cases hlt2:t<n
      ·obtain⟨At,nt,ct,et,gt,hKt,het⟩:=Yl0 HRi.out hlt2
       obtain⟨Aa,na,ca,ea,ga,hKa,hea⟩:=Yl0 HRi.out han
       have j0:(0:Int)<=(t:Int):=by omega
       have j1:(t:Int)<(n:Int):=by omega
       obtain⟨x,hx⟩: ∃x,Hid (cmpL et.1 ea.1=x):=⟨_,hid rfl⟩
       have HC:=hid (λq=>R8 (hKt.mv Zr (Mv.drewN wr q _)) (hKa.mv Zr (Mv.drewN wr q _)) hx)
       by_cases hx0:x<0
       ·have hxd:decide (x<0)=true:=decide_eq_true hx0
        have HL:=hid (Yem hle.out het.out hea.out (by unfold Xb;rw[hx.out];exact hx0))
        clear hKt hKa het hea;go_wp2_with fail;go_quiet ((go_at_call 35;exact df (HC.out _)))
        have HB9:=hid (below_drewN HBi.out nq)
        go_wp2_with fail;go_roundw
        case rel=>exact⟨t,t+1,rfl,by go_num,by omega,by omega,by omega,HL,HB9.out⟩
        case measure=>simp[intOf];omega
       ·have hxd:decide (x<0)=false:=decide_eq_false hx0
        have HL:=hid (Yhy hle.out het.out hea.out (by unfold Xb;rw[hx.out];exact hx0))
        clear hKt hKa het hea;go_wp2_with fail;go_quiet ((go_at_call 35;exact df (HC.out _)))
        have HB9:=hid (below_drewN HBi.out nq)
        go_wp2_with fail;go_roundw
        case rel=>exact⟨a,t+1,rfl,by go_num,by omega,by omega,han,HL,HB9.out⟩
        case measure=>simp[intOf];omega
      ·have htn':t=n:=by omega
       subst htn';obtain⟨b9,o9,A0,n0,c0,x0,X1,y1,z1,X2,y2,z2,X3,y3,z3,K9,Su,M9,X9,e9,_,_,k0,k1,k2,k3,k4,hK9,hS9,hM9,hX9,he9⟩:=HRi.out.atR han;injection e9 with e9
       injection e9 with e9a e9b
       subst e9a e9b
       have hmin:∀e∈Ld,¬Xb e.1 K9:=Yh7 (by rw[HLdn.out];exact hle.out) he9.out
       have HSel:=hid (HS.out.2.2.step he9.out hmin)
       have hlo:=HS.out.1.lt
       have hzx:wo.heap.size<=wx.heap.size:=HBs.out.size
       have HBw9:=hid (HBs.out.trans (HBi.out.mono hzx))
       have HO7:=hid (HS.out.1.below Zv (HBi.out.trans ((Yb wr (.cells #[.slice A0 n0 c0,.int .i64 x0,.slice X1 y1 z1,.slice X2 y2 z2,.slice X3 y3 z3] 73)).mono HBi.out.size)))
       have HE7:=hid (Zv _ _ _ _ _ _ (Mv.alloc wr (.cells #[.slice A0 n0 c0,.int .i64 x0,.slice X1 y1 z1,.slice X2 y2 z2,.slice X3 y3 z3] 73) _) (Ylm (n:=x0) hK9 hS9 hM9 hX9))
       have HC7:=hid (Q6 wr [.slice A0 n0 c0,.int .i64 x0,.slice X1 y1 z1,.slice X2 y2 z2,.slice X3 y3 z3] 73 wr.heap.size rfl)
       have hb7:=HBw9.out.trans ((Yb wr (.cells #[.slice A0 n0 c0,.int .i64 x0,.slice X1 y1 z1,.slice X2 y2 z2,.slice X3 y3 z3] 73)).mono HBw9.out.size)
       have HB7:=hid hb7
       have hbs:wo.heap.size<=(wr.alloc (.cells #[.slice A0 n0 c0,.int .i64 x0,.slice X1 y1 z1,.slice X2 y2 z2,.slice X3 y3 z3] 73)).heap.size:=hb7.size
       have hlb:Hid (Lo.length<=1000000):=hid (by have:=hLo.out;omega)
       have hA1:(0:Nat)+a<=1000000:=by omega
       have HA1:Hid (([]:Rws).length+a<=1000000):=hid (by simp;omega)
       have HA2:Hid ((Ld.take a).length+(t-(a+1))<=1000000):=hid (by rw[bg];omega)
       have a2:(a:Int)+1<=(t:Int):=by omega
       have a3:(a:Int)<=(c:Int):=by omega
       clear hb7 hK9 hS9 hM9 hX9 he9 hmin;go_wp2_with (at_builtin;refine Z9 Zv rfl _ _ rfl Tr ar rfl (by decide) wo.heap.size _ _ _ rfl HO7.out _ rfl [.slice A0 n0 c0,.int .i64 x0,.slice X1 y1 z1,.slice X2 y2 z2,.slice X3 y3 z3] rfl (K9,x0,Su,M9,X9) HC7.out (B6 _ _ _ _ _ _ _ _ _ _ _ _ _) HE7.out hlb.out hbs ?_)
       intro v8 w8 hO8 hG8
       have HR8:=hid (HRi.out.mv Zv ((Mv.alloc wr (.cells #[.slice A0 n0 c0,.int .i64 x0,.slice X1 y1 z1,.slice X2 y2 z2,.slice X3 y3 z3] 73) _).trans ((Mv.Ly hG8).trans (Mv.to w8 (S':=λb=>(w.heap.size<=b/\v8.ownBlock≠some b)/\b<w8.heap.size) λb hb hl=>⟨hb,hl⟩))))
       have HB8:=hid (HB7.out.trans (hG8.Yw hbs λj e=>(hlo j e).1))
       have HO8:=hid hO8
       have hlo8:=hO8.lt
       have HD8:=hid ((HR8.out.Q3 (k:=a) (by omega)).mv Zv (Mv.to w8 (S':=λb=>(w.heap.size<=b/\v8.ownBlock≠some b)/\(au none 0 0).ownBlock≠some b) λb hb _=>⟨hb.1,λe=>by cases e⟩))
       have hzo:w.heap.size<=w8.heap.size:=ao hzwo HB8.out.size
       have hEND:∀v w',Yx V6 73 5 w' w8.heap.size (λb=>w.heap.size<=b/\v8.ownBlock≠some b) v (Ld.take a++Ld.drop (a+1))->Below w8.heap.size w8 w'→∃A n' c',v=.slice A n' c'∧Yx V6 73 5 w' wo.heap.size (λb=>w.heap.size<=b) v8 (Lo++[(K9,x0,Su,M9,X9)])/\Row V6 5 w' (λb=>w.heap.size<=b/\v8.ownBlock≠some b) A n' c' (Ld.take a++Ld.drop (a+1))/\n'<t/\Below wo.heap.size wo w':=λv w' hO hb=>by
        obtain⟨A,c',e,hr⟩:=hO.read Zv;refine⟨A,_,c',e,HO8.out.below Zv hb,hr.mv Zv (Mv.to w' λb hb' _=>?_),?_,HB8.out.trans (hb.mono HB8.out.size)⟩
        ·rcases hb' with hb'|⟨h1,h2⟩
         ·exact hb'
         ·exact⟨by omega,λe'=>by have:=(hlo8 b e').2;omega⟩
        ·have h1:=HLdn.out
         rw[ak,bg,bj];omega
       clear hO8 hG8 k0 k1 k2 k3 k4
       by_cases hca:c=a+1
       ·subst hca
        have HT8:=hid (show Row V6 5 w8 (λb=>(w.heap.size<=b/\v8.ownBlock≠some b)/\b<w8.heap.size) (some ⟨b,o,none⟩) 0 0 (Ld.drop (a+1))from(by rw[List.drop_eq_nil_of_le (show Ld.length<=a+1 by have:=HLdn.out;omega)];exact Row.Yw3 (by omega) (λh=>by cases h)))
        go_wp2_with (at_builtin;refine V8 Zv rfl _ _ rfl Tr ar rfl (by decide) w8.heap.size (λb=>w.heap.size<=b/\v8.ownBlock≠some b) (.slice none 0 0) [] rfl (Yx.Zj _ _ _) ⟨b,o,none⟩ a (a+1) (Ld.take a) rfl HD8.out (λS us y=>Jz S _ us y) HA1.out (aa _) ?_)
        intro v9 w9 hO9 hG9
        have hb9:Below w8.heap.size w8 w9:=hG9.Yw (aa _) (λj e=>by cases e)
        have hlo9:=hO9.lt
        have HO9:=hid (show Yx V6 73 5 w9 w8.heap.size (λb=>w.heap.size<=b/\v8.ownBlock≠some b) v9 (Ld.take a)from hO9)
        have HT9:=hid (HT8.out.mv Zv ((Mv.Yc hb9 _).trans (Mv.to w9 (S':=λb=>(w.heap.size<=b/\v8.ownBlock≠some b)/\v9.ownBlock≠some b) λb hb _=>⟨hb.1,λe=>by have:=(hlo9 b e).1;have:=hb.2;omega⟩)))
        obtain⟨A9',c9',e9'⟩:=hO9.shape;rw[show(Ld.take a).length=a by rw[bg];have:=HLdn.out;omega]at e9'
        subst e9'
        have HB9:=hid hb9
        clear hO9 hG9 hb9;go_wp2_with (at_builtin;refine V8 Zv rfl _ _ rfl Tr ar rfl (by decide) w8.heap.size (λb=>w.heap.size<=b/\v8.ownBlock≠some b) (.slice A9' a c9') (Ld.take a) rfl HO9.out ⟨b,o,none⟩ 0 0 (Ld.drop (a+1)) rfl HT9.out (λS us y=>Jz S _ us y) (ao (Nat.add_le_add_left (aw _) _) HA2.out) HB9.out.size ?_)
        intro v10 w10 hO10 hG10
        have hb10:Below w8.heap.size w8 w10:=HB9.out.trans (hG10.Yw HB9.out.size (λj e=>(hlo9 j e).1))
        have HEnd:=hid (hEND v10 w10 hO10 hb10)
        clear hO10 hG10 hb10;obtain⟨A10,n10,c10,rfl⟩: ∃A n c,v10=.slice A n c:=by
         obtain⟨A,n,c,e,_⟩:=HEnd.out;exact⟨A,n,c,e⟩
        go_wp2_with fail;go_roundw
        case rel=>
         obtain⟨A,n',c',e,h1,h2,h3,h4⟩:=HEnd.out;injection e with e1 e2 e3
         subst e1 e2 e3;exact⟨_,_,_,_,_,rfl,hid ⟨h1,h2,HSel.out⟩,by omega,h4⟩
        case measure=>
         obtain⟨A,n',c',e,h1,h2,h3,h4⟩:=HEnd.out;injection e with e1 e2 e3
         subst e1 e2 e3;simp only[Yjr];omega
       ·have hca2:¬c=a+1:=hca
        have HT8:=hid (show Row V6 5 w8 (λb=>(w.heap.size<=b/\v8.ownBlock≠some b)/\b<w8.heap.size) (some ⟨b,o+(a+1)*5,none⟩) (t-(a+1)) (c-(a+1)) (Ld.drop (a+1))from HR8.out.Yxb (by omega))
        go_wp2_with (at_builtin;refine V8 Zv rfl _ _ rfl Tr ar rfl (by decide) w8.heap.size (λb=>w.heap.size<=b/\v8.ownBlock≠some b) (.slice none 0 0) [] rfl (Yx.Zj _ _ _) ⟨b,o,none⟩ a c (Ld.take a) rfl HD8.out (λS us y=>Jz S _ us y) HA1.out (aa _) ?_)
        intro v9 w9 hO9 hG9
        have hb9:Below w8.heap.size w8 w9:=hG9.Yw (aa _) (λj e=>by cases e)
        have hlo9:=hO9.lt
        have HO9:=hid (show Yx V6 73 5 w9 w8.heap.size (λb=>w.heap.size<=b/\v8.ownBlock≠some b) v9 (Ld.take a)from hO9)
        have HT9:=hid (HT8.out.mv Zv ((Mv.Yc hb9 _).trans (Mv.to w9 (S':=λb=>(w.heap.size<=b/\v8.ownBlock≠some b)/\v9.ownBlock≠some b) λb hb _=>⟨hb.1,λe=>by have:=(hlo9 b e).1;have:=hb.2;omega⟩)))
        obtain⟨A9',c9',e9'⟩:=hO9.shape;rw[show(Ld.take a).length=a by rw[bg];have:=HLdn.out;omega]at e9'
        subst e9'
        have HB9:=hid hb9
        clear hO9 hG9 hb9;go_wp2_with (at_builtin;refine V8 Zv rfl _ _ rfl Tr ar rfl (by decide) w8.heap.size (λb=>w.heap.size<=b/\v8.ownBlock≠some b) (.slice A9' a c9') (Ld.take a) rfl HO9.out ⟨b,o+(a+1)*5,none⟩ (t-(a+1)) (c-(a+1)) (Ld.drop (a+1)) rfl HT9.out (λS us y=>Jz S _ us y) HA2.out HB9.out.size ?_)
        intro v10 w10 hO10 hG10
        have hb10:Below w8.heap.size w8 w10:=HB9.out.trans (hG10.Yw HB9.out.size (λj e=>(hlo9 j e).1))
        have HEnd:=hid (hEND v10 w10 hO10 hb10)
        clear hO10 hG10 hb10;obtain⟨A10,n10,c10,rfl⟩: ∃A n c,v10=.slice A n c:=by
         obtain⟨A,n,c,e,_⟩:=HEnd.out;exact⟨A,n,c,e⟩
        go_wp2_with fail;go_roundw
        case rel=>
         obtain⟨A,n',c',e,h1,h2,h3,h4⟩:=HEnd.out;injection e with e1 e2 e3
         subst e1 e2 e3;exact⟨_,_,_,_,_,rfl,hid ⟨h1,h2,HSel.out⟩,by omega,h4⟩
        case measure=>
         obtain⟨A,n',c',e,h1,h2,h3,h4⟩:=HEnd.out;injection e with e1 e2 e3
         subst e1 e2 e3;simp only[Yjr];omega
    ·obtain rfl:Ld=[]:=bz (by have:=HLdn.out;omega)
     have hsel:=HS.out.2.2
     rw[HDD.out]at hsel
     have HRw:=hid (Yiu hsel)
     obtain⟨A5,c5,e5,hr5⟩:=HS.out.1.read Zv;subst e5
     have HR5:=hid (show Row V6 5 wr (λb=>w.heap.size<=b) A5 Lo.length c5 Lo from hr5.mv Zv (Mv.to wr λb hb _=>by
      rcases hb with hb|hb
      ·exact hb
      ·omega))
     have HBe:=hid (HBw.out.trans (HBs.out.mono hzwo))
     have hn0': ¬(0:Int)<(n:Int):=by omega
     clear hr5 hsel;go_wp2_with fail;go_ret2;exact⟨.inl ⟨HOK.out,A5,c5,Lo,rfl,HRw.out,HR5.out⟩,HBe.out⟩
theorem Ybp(h:Row V6 5 y S A n c L){t:Nat}(ht:t<n):∃b o A0 n0 c0 q A1 n1 c1 A2 n2 c2 A3 n3 c3 e,A=some ⟨b,o,none⟩∧S b/\b<y.heap.size/\y.cell? ⟨b,o+t*5,none⟩=some (.slice A0 n0 c0)/\y.cell? ⟨b,o+t*5+1,none⟩=some (.int .i64 q)/\y.cell? ⟨b,o+t*5+2,none⟩=some (.slice A1 n1 c1)/\y.cell? ⟨b,o+t*5+3,none⟩=some (.slice A2 n2 c2)/\y.cell? ⟨b,o+t*5+4,none⟩=some (.slice A3 n3 c3)/\Row Z4 1 y S A0 n0 c0 (e:Zd×PC).1/\q=e.2.1/\Wi y y.heap.size A1 n1 c1 A2 n2 c2 A3 n3 c3 e.2.2.1 e.2.2.2.1 e.2.2.2.2/\Hid (L[t]?=some e):=by
 obtain⟨b9,o9,A0,n0,c0,x0,X1,y1,z1,X2,y2,z2,X3,y3,z3,K9,Su,M9,X9,e,hS,hl,k0,k1,k2,k3,k4,hK9,hSu,hM,hX,he9⟩:=h.atR ht;exact⟨b9,o9,A0,n0,c0,x0,X1,y1,z1,X2,y2,z2,X3,y3,z3,_,e,hS,hl,k0,k1,k2,k3,k4,hK9,rfl,⟨hSu.Uy,hM.Uy,hX.Uy⟩,he9⟩
theorem Nd{S':Nat->Prop}{A':Option Addr}{n' c':Nat}(h:Row V6 5 w S A n c L)(h':Row V6 5 w S' A' n' c' L):
  Calls aj 21 #[.slice A n c,.slice A' n' c'] w λe w'=>e=.returned (.bool true)/\Below w.heap.size w w':=by
 obtain rfl:n=n':=by have h1:=h.len;have h2:=h'.len;omega
 have KA:=hid (fun(y:World) (hy:Below w.heap.size w y)=>And.intro (h.mv Zv (Mv.Yc hy S)) (h'.mv Zv (Mv.Yc hy S')))
 have hnm:=h.Ym
 have hnn:((n:Int) != (n:Int))=false:=by simp
 clear h h';go_enter Tryz.func21,Tryz.ntmps21;go_wp2_with fail;go_loopw [5,6] (λi _ wr=>∃k:Nat,k<=n/\i=.int .i64 k/\Below w.heap.size w wr) (λi _ _=>n-(intOf i).toNat)
 case atStart=>exact⟨0,aw _,rfl,Below.refl _ _⟩
 case round=>
  obtain⟨k,hk,rfl,hB⟩:=hrel
  have HB:=hid hB
  clear hB
  by_cases hlt:k<n
  ·have i0:(0:Int)<=(k:Int):=by omega
   have i1:(k:Int)<(n:Int):=by omega
   obtain⟨b,o,A0,n0,c0,q,A1,n1,c1,A2,n2,c2,A3,n3,c3,e,rfl,_,hb,g0,g1,g2,g3,g4,hK,rfl,hC,he⟩:=Ybp (KA.out wr HB.out).1 hlt;obtain⟨b',o',B0,m0,d0,q',B1,m1,d1,B2,m2,d2,B3,m3,d3,e',rfl,_,hb',f0,f1,f2,f3,f4,hK',rfl,hC',he'⟩:=Ybp (KA.out wr HB.out).2 hlt;obtain rfl:e=e':=by have h1:=he.out;rw[he'.out]at h1;exact(ax h1).symm
   obtain⟨Ke,ce,Su,M,X⟩:=e;obtain rfl:n0=m0:=by have h1:=hK.len;have h2:=hK'.len;omega
   have hn0:((n0:Int) != (n0:Int))=false:=by simp
   have KG:Hid (∀y,Below wr.heap.size wr y->(y.cell? ⟨b,o+k*5,none⟩=some (.slice A0 n0 c0)/\y.cell? ⟨b,o+k*5+1,none⟩=some (.int .i64 ce)/\y.cell? ⟨b,o+k*5+2,none⟩=some (.slice A1 n1 c1)/\y.cell? ⟨b,o+k*5+3,none⟩=some (.slice A2 n2 c2)/\y.cell? ⟨b,o+k*5+4,none⟩=some (.slice A3 n3 c3))/\y.cell? ⟨b',o'+k*5,none⟩=some (.slice B0 n0 d0)/\y.cell? ⟨b',o'+k*5+1,none⟩=some (.int .i64 ce)/\y.cell? ⟨b',o'+k*5+2,none⟩=some (.slice B1 m1 d1)/\y.cell? ⟨b',o'+k*5+3,none⟩=some (.slice B2 m2 d2)/\y.cell? ⟨b',o'+k*5+4,none⟩=some (.slice B3 m3 d3)):=hid λy hy=>
    ⟨⟨(hy.cell (p:=⟨b,o+k*5,none⟩) hb).trans g0,(hy.cell (p:=⟨b,o+k*5+1,none⟩) hb).trans g1,(hy.cell (p:=⟨b,o+k*5+2,none⟩) hb).trans g2,(hy.cell (p:=⟨b,o+k*5+3,none⟩) hb).trans g3,(hy.cell (p:=⟨b,o+k*5+4,none⟩) hb).trans g4⟩,(hy.cell (p:=⟨b',o'+k*5,none⟩) hb').trans f0,(hy.cell (p:=⟨b',o'+k*5+1,none⟩) hb').trans f1,(hy.cell (p:=⟨b',o'+k*5+2,none⟩) hb').trans f2,(hy.cell (p:=⟨b',o'+k*5+3,none⟩) hb').trans f3,(hy.cell (p:=⟨b',o'+k*5+4,none⟩) hb').trans f4⟩
   have HS:=hid fun(y:Bel wr)=>y.calls λW hW=>F4 (n:=ce) (n':=ce) (hC.Yc hW) (hC'.Yc hW) (r:=true) (by simp)
   have HC:=hid (fun(W:World) (hW:Below wr.heap.size wr W)=>toB (R8 (hK.mv Zr (Mv.Yc hW S)) (hK'.mv Zr (Mv.Yc hW S')) (hid (Ri Ke))))
   clear g0 g1 g2 g3 g4 f0 f1 f2 f3 f4 hK hK' hC hC' he he' hb hb'
   have g1:∀y:Bel wr,y.w.cell? ⟨b,o+k*5+1,none⟩=some (.int .i64 ce):=λy=>(KG.out y.w y.b).1.2.1
   have g2:∀y:Bel wr,y.w.cell? ⟨b,o+k*5+2,none⟩=some (.slice A1 n1 c1):=λy=>(KG.out y.w y.b).1.2.2.1
   have g3:∀y:Bel wr,y.w.cell? ⟨b,o+k*5+3,none⟩=some (.slice A2 n2 c2):=λy=>(KG.out y.w y.b).1.2.2.2.1
   have g4:∀y:Bel wr,y.w.cell? ⟨b,o+k*5+4,none⟩=some (.slice A3 n3 c3):=λy=>(KG.out y.w y.b).1.2.2.2.2
   have f1:∀y:Bel wr,y.w.cell? ⟨b',o'+k*5+1,none⟩=some (.int .i64 ce):=λy=>(KG.out y.w y.b).2.2.1
   have f2:∀y:Bel wr,y.w.cell? ⟨b',o'+k*5+2,none⟩=some (.slice B1 m1 d1):=λy=>(KG.out y.w y.b).2.2.2.1
   have f3:∀y:Bel wr,y.w.cell? ⟨b',o'+k*5+3,none⟩=some (.slice B2 m2 d2):=λy=>(KG.out y.w y.b).2.2.2.2.1
   have f4:∀y:Bel wr,y.w.cell? ⟨b',o'+k*5+4,none⟩=some (.slice B3 m3 d3):=λy=>(KG.out y.w y.b).2.2.2.2.2
   go_wp2_with fail;refine Xl (by kernel_rfl) (by kernel_rfl) ?_
   repeat (go_big_quiet_step (first|(go_at_call 36;exact HS.out _)))
   refine wpQuiet_nil ?_;rintro w5 ⟨⟨w5',hb5⟩,e5⟩;obtain rfl:w5=w5':=e5
   have HB5:=hid hb5
   clear g1 g2 g3 g4 f1 f2 f3 f4 hb5 HS
   have g0:∀y:Bel w5,y.w.cell? ⟨b,o+k*5,none⟩=some (.slice A0 n0 c0):=λy=>(KG.out y.w (Ya HB5.out y.b)).1.1
   have f0:∀y:Bel w5,y.w.cell? ⟨b',o'+k*5,none⟩=some (.slice B0 n0 d0):=λy=>(KG.out y.w (Ya HB5.out y.b)).2.1
   have HC5:=hid fun(y:Bel w5)=>y.calls λW hW=>HC.out W (Ya HB5.out hW)
   go_wp2_with fail;refine Xl (by kernel_rfl) (by kernel_rfl) ?_
   repeat (go_big_quiet_step (first|(go_at_call 35;exact HC5.out _)))
   refine wpQuiet_nil ?_;rintro w6 ⟨⟨w6',hb6⟩,e6⟩;obtain rfl:w6=w6':=e6
   have HB6:=hid (Ya HB.out (Ya HB5.out hb6))
   clear g0 f0 hb6 HC5 HC;go_wp2_with fail;go_roundw
   case rel=>exact⟨k+1,by omega,by go_num,HB6.out⟩
   case measure=>simp[intOf];omega
  ·go_wp2_with fail
   go_ret;exact⟨rfl,HB.out⟩
end Go.Proofs.YtmepdkdeanbbaaaGreat
