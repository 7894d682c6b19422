/- LatJ, LatK, LtE, LtF, LtG, LtO, LtU, LtB, LtC, LtH -/
import Derived.Test.YtmepdkdeanbbaaaGreatJ32
import Derived.Test.YtmepdkdeanbbaaaGreatJ46
namespace Go.Proofs.YtmepdkdeanbbaaaGreat
set_option maxRecDepth 100000
set_option maxHeartbeats 8000000
open Go.RowKit
open List renaming getElem?_eq_getElem→aa,replicate→ae,getElem?_eq_some_iff→af,mem_of_getElem?→ag,length_map→aj,mem_or_eq_of_mem_set→an,getElem?_set→ao,getElem?_eq_none→au,getElem?_map→av,take_of_length_le→ay,ext_getElem?→az,getElem?_of_mem→bg,length_set→bj,length_take_le→br,getD_eq_getElem?_getD→cn,replicate_succ'→da,getElem?_take→db,getElem?_drop→dc,flatMap_cons→df,map_const'→dg,ofFn→dq
open Proofs.Tryz renaming prog→ai,ntmps16→dh,func59→dj,func16→dm
open Option.some renaming inj→ak,injEq→dn
open Nat renaming le_refl→aq,zero_le→ar,le_trans→aw,lt_of_lt_of_le→bz,zero_add→cw,succ_mul→cz,mod_lt→dp
open World.ownsRow renaming lt→ax,kept→bn,stored→ch,alloc→cj,frozenAt→di
open Go.Sort renaming ahead→bo
open World renaming cell?_of_block→bp,ownsRow_nil→bs,size_alloc→dd
open Go.Lib (hid)
variable {w w':World}{B W c1 c2 c3 g m n1 n2 n3:Nat}{X1 X2 X3 dv v vv:Value}{Qs:List (List Pth)}{D:List Yk}{A1 A2 A3:Option Addr}{N:List Nat}{Cs:List Cub}{cnt view:Int}{R S:Nat->Prop}{M:List Txt}{V:List (List Int)}{e:Ending}{u:PC}{C:Cub}{K:List Int}
theorem LtM.begin(W m:Nat)(h:Block w g 92 #[X1,X2,X3,.slice none 0 0,.slice none 0 0,.int .i64 0]):LtM w g X1 X2 X3 (.slice none 0 0) (.slice none 0 0) [] [] [] [] W m [] 0:=
 ⟨h,bs _ _ _ _,bs _ _ _ _,Dcs.Zj w,Cbs.Zj w W m,λd hd=>by simp at hd⟩
theorem Fb.begin(h:B<=g):Fb B g (.slice none 0 0) (.slice none 0 0) [] []:=by
 rintro k (rfl|hk|hk|⟨d,hd,_⟩|⟨d,hd,_⟩)
 ·exact h
 ·cases hk
 ·cases hk
 ·simp at hd
 ·simp at hd
theorem Mo(w:World)(y:Value)(t:TypeId)(g:Nat)(hg:g=w.heap.size):∀j u,[y][j]?=some u->(w.alloc (.cells #[y] t)).cell? ((⟨g,0,none⟩:Addr).add j)=some u:=by
 subst hg;intro j u hj
 match j,hj with
 |0,hj=>simp at hj;subst hj;simp[Yu,Zq]
 |j+1,hj=>simp at hj
theorem Ey(g:Nat):∀u∈[Xk g],u.oneCell'=true:=by
 intro u hu;rw[List.mem_singleton.1 hu];rfl
theorem Ybt{k:Nat}{x:Txt}{l:List Txt}(h:D[k]?=some (x,l)):(Yj D).take k++[l.length]=(Yj D).take (k+1):=by
 unfold Yj;rw[List.take_add_one,av,h];rfl
def Ykz(w:World)(D:List Yk)(M:List Txt)(V:List (List Int))(e:Ending)(w':World):Prop:=
 ∃g F R,e=.returned (.tuple #[.pointer (some ⟨g,0,none⟩),.int .i64 0])/\Lt w' R g F D M V (D.map λ_=>[]) ((Yg D V).map λ_=>[]) 0/\(∀k,F k->w.heap.size<=k)/\(∀k,R k->w.heap.size<=k/\k<w'.heap.size)/\Below w.heap.size w w'
theorem Ytf(h:Vw w R A1 n1 c1 A2 n2 c2 A3 n3 c3 D M V)(hf:L5 D)(hm:∀s∈M,s.length<=maxLen)(hn1:n1<=1000)(hno:¬Wk D M V):
  Calls ai 16 #[Sy A1 n1 c1 A2 n2 c2 A3 n3 c3] w λe w'=>e=.returned (.tuple #[.pointer none,.int .i64 11])/\Below w.heap.size w w':=by
 have hb0:=(Yb w (.cells #[.slice A1 n1 c1,.slice A2 n2 c2,.slice A3 n3 c3] 26))
 have hbl:=(Block.new w 26 #[.slice A1 n1 c1,.slice A2 n2 c2,.slice A3 n3 c3])
 have HX:=hid (Qo (h.Yc hb0).has hf hm hn1)
 rw[decide_eq_false hno]at HX
 have k0:=hbl.cell 0
 have k1:=hbl.cell 1
 have k2:=hbl.cell 2
 clear h hf hm hno;go_enter dm,dh;go_wp2_with fail;generalize w.alloc (.cells #[.slice A1 n1 c1,.slice A2 n2 c2,.slice A3 n3 c3] 26)=W0 at hb0 hbl HX k0 k1 k2⊢;go_wp2_with fail;refine HX.out.mono ?_;rintro e w1 ⟨rfl,hB1⟩;go_wp2_with fail;go_ret2;exact⟨rfl,hb0.trans (hB1.mono hb0.size)⟩
theorem Ygl(h:Vw w R A1 n1 c1 A2 n2 c2 A3 n3 c3 D M V)(hf:L5 D)(hm:∀s∈M,s.length<=maxLen)(hyes:Wk D M V):
  Calls ai 16 #[Sy A1 n1 c1 A2 n2 c2 A3 n3 c3] w (Ykz w D M V):=by
 have hb0:=(Yb w (.cells #[.slice A1 n1 c1,.slice A2 n2 c2,.slice A3 n3 c3] 26))
 have hbl:=(Block.new w 26 #[.slice A1 n1 c1,.slice A2 n2 c2,.slice A3 n3 c3])
 have hdims:=Wl hyes
 have hsm:=Rw hyes
 have hn1:=h.d.len
 have hn3:=h.v.len
 have HX:=hid (Qo (h.Yc hb0).has hf hm (by omega))
 rw[decide_eq_true hyes]at HX
 have HS0:=hid (h.Yc hb0)
 have HL3:Hid (∀d∈D,1<=d.2.length/\d.2.length<=3):=hid λd hd=>⟨(hyes.1.1 d hd).1,(hyes.1.1 d hd).2.1⟩
 have HV7:=hid (Wx hyes)
 have Hn:Hid (D.length=n1/\V.length=n3):=hid ⟨hn1,hn3⟩
 have hn3':n3<=1000:=by have:=hsm.v.1;omega
 have HSm:=hid hsm
 have HY:=hid hyes
 have k0:=hbl.cell 0
 have k1:=hbl.cell 1
 have k2:=hbl.cell 2
 have hd3:n1<=3:=by omega
 have hdW:Hid (1<=D.length/\D.length<=3/\1<=M.length/\M.length<=2):=hid hdims
 clear h hf hm hyes hdims hsm hn1 hn3;go_enter dm,dh;go_wp2_with fail;generalize w.alloc (.cells #[.slice A1 n1 c1,.slice A2 n2 c2,.slice A3 n3 c3] 26)=W0 at hb0 hbl HX HS0 k0 k1 k2⊢;go_wp2_with fail;refine HX.out.mono ?_;rintro e w1 ⟨rfl,hB1⟩
 have hbl1:=hbl.below hB1 hbl.lt
 have hB1':=hb0.trans (hB1.mono hb0.size)
 have k0:=hbl1.cell 0
 have k1:=hbl1.cell 1
 have k2:=hbl1.cell 2
 have HS1:=hid (HS0.out.Yc hB1)
 have HC:=hid (Dl HS1.out HSm.out)
 clear hbl HX HS0 hB1;go_wp2_with fail;refine HC.out.mono ?_;rintro e w2 ⟨⟨v1,v2,v3,rfl,hO⟩,hB2⟩
 have hbl2:=hbl1.below hB2 hbl1.lt
 have hlt1:=hbl1.lt
 have hz2:=hB2.size
 have HS2:=hid ((HS1.out.Yc hB2).mv (Mv.to w2 (S':=λb=>R b/\b<w2.heap.size) λb hb hl=>⟨hb,hl⟩))
 obtain⟨B1,d1,B2,d2,B3,d3,rfl,rfl,rfl,hSR⟩:=hO.read
 have HSR:=hid hSR
 have hb3:=Yb w2 (.cells #[.slice B1 D.length d1,.slice B2 M.length d2,.slice B3 V.length d3,.slice none 0 0,.slice none 0 0,.int .i64 0] 92)
 have hg3:=Block.new w2 92 #[.slice B1 D.length d1,.slice B2 M.length d2,.slice B3 V.length d3,.slice none 0 0,.slice none 0 0,.int .i64 0]
 have hbl3:=hbl2.below hb3 hbl2.lt
 have k0:=hbl3.cell 0
 have hLB:=LtM.begin D.length M.length hg3
 have hlt2:=hbl2.lt
 have HBl2:=hid hbl2
 obtain⟨w3,hw3⟩: ∃w3,w3=w2.alloc (.cells #[.slice B1 D.length d1,.slice B2 M.length d2,.slice B3 V.length d3,.slice none 0 0,.slice none 0 0,.int .i64 0] 92):=⟨_,rfl⟩
 have HL0:Hid (∃dv ds,LtM w3 w2.heap.size (.slice B1 D.length d1) (.slice B2 M.length d2) (.slice B3 V.length d3) dv (.slice none 0 0) ds [] ((Yj D).take 0) (ae 0 []) D.length M.length [] 0/\Fb w2.heap.size w2.heap.size dv (.slice none 0 0) ds []):=by rw[hw3];exact hid ⟨_,_,hLB,Fb.begin (aq _)⟩
 clear hbl1 hO hSR HC hbl2 hg3 hLB hbl3;go_wp2_with fail;rw[<-hw3]at hb3 k0⊢;clear hw3;go_loopw [17] (λi wr=>∃k:Nat,k<=n1/\i=.int .i64 k/\Hid (∃dv ds,LtM wr w2.heap.size (.slice B1 D.length d1) (.slice B2 M.length d2) (.slice B3 V.length d3) dv (.slice none 0 0) ds [] ((Yj D).take k) (ae k []) D.length M.length [] 0/\Fb w2.heap.size w2.heap.size dv (.slice none 0 0) ds [])/\Below w2.heap.size w2 wr) (λi _=>n1-(intOf i).toNat)
 case atStart=>exact⟨0,ar _,rfl,HL0,hb3⟩
 case round=>
  obtain⟨k,hk,rfl,hO,hB⟩:=hrel
  by_cases hlt:k<n1
  ·obtain⟨b,o,A',n',c',x,l,rfl,g0,g1,hl,he⟩:=(HS2.out.d.mv Vz (Mv.below hB λb hb=>hb.2)).atD hlt
   have i0:(0:Int)<=(k:Int):=by omega
   have i1:(k:Int)<(n1:Int):=by omega
   obtain⟨s1,s2⟩:=HL3.out (x,l) (ag he.out)
   have hll:=hl.len
   have hT:=hid (Ybt he.out)
   obtain⟨dv,ds,hLt,hF⟩:=hO.out
   have hdl:=hLt.dcs.len
   rw[List.length_take,show(Yj D).length=n1 from by unfold Yj;rw[aj,Hn.out.1]]at hdl
   have hdk:ds.length=k:=by omega
   obtain⟨Ad,cd,edv⟩:=Rc hLt.dr;rw[hdk]at edv;subst edv
   have hb0':=Yb wr (.cells #[.string ⟨x.toArray⟩,.slice A' n' c'] 75)
   have hdm:=Ylh wr (.string ⟨x.toArray⟩) (.slice A' n' c')
   have e0:=hdm.cell 0
   have e1:=hdm.cell 1
   have hLt0:=hLt.below hb0'
   have hB0:=hB.trans (hb0'.mono hB.size)
   have p0:=hLt0.c3
   have HLt:=hid hLt0
   have HF:=hid hF
   clear hl hO hB hLt hLt0 hF hdl;go_wp2_with fail;generalize wr.alloc (.cells #[.string ⟨x.toArray⟩,.slice A' n' c'] 75)=W at hb0' hdm hB0 e0 e1 p0 HLt⊢
   have hn':1<=n'∧n'<=3:=by have h1:1<=l.length:=s1;have h2:l.length<=3:=s2;omega
   have HN:=hid (Yth W.drew hn')
   have hdr:=hid (show ∀y,Below W.heap.size W y->y.ownsRow 0 94 1 (.slice Ad k cd) k (ds.map λd=>Xk d.1)from λy hy=>by have:=(HLt.out.below hy).dr;rwa [hdk]at this)
   have HB0:=hid hB0
   clear hdm hb0' hB0 hn';go_region_law (first
    |(refine Gx rfl _ _ rfl Yhk Tryz.underlying89 rfl (by decide) 0 (.slice Ad k cd) k _ rfl HR7.out _ rfl [.pointer (some ⟨W.heap.size+1,0,none⟩)] rfl HC7.out (Ey _) (by omega) (ar _) ?_;intro v' w8 hO8 hG8;obtain⟨A8,c8,e8⟩:=Rc hO8;subst e8;obtain⟨hb8,hM8,hF8⟩:=HLt.out.Vj (d:=(W.heap.size+1,.slice none 0 0,W.heap.size)) (Q:=[]) HB7.out HD7.out HF7.out (by rw[hdk];exact hO8) hG8;have p8:w8.cell? ⟨w2.heap.size,3,none⟩=some (.slice Ad k cd):=hb8.cell 3;have f8:=hb8.free 3;have HM8:=hid hM8;have HF8:=hid (hF8 w2.heap.size HF.out HB0.out.size);clear hM8 hF8 hb8 hO8 hG8)
    |(go_simp;go_at_call 43;refine HN.out.mono ?_;rintro e w6 ⟨rfl,hd6,hB6⟩;have hb6:Below W.heap.size W w6:=(below_drewN (Below.refl _ W) 1).trans hB6;have p6:w6.cell? ⟨w2.heap.size,3,none⟩=some (.slice Ad k cd):=(HLt.out.below hb6).c3;have hb7:=hb6.trans ((Yb w6 (.cells #[.pointer (some ⟨W.heap.size+1,0,none⟩)] 94)).mono hb6.size);have HB7:=hid hb7;have pa:(w6.alloc (.cells #[.pointer (some ⟨W.heap.size+1,0,none⟩)] 94)).cell? ⟨w2.heap.size,3,none⟩=some (.slice Ad k cd):=(HLt.out.below hb7).c3;have HR7:=hid (hdr.out _ hb7);have HC7:=hid (Mo w6 (.pointer (some ⟨W.heap.size+1,0,none⟩)) 94 w6.heap.size rfl);have HD7:=hid ((hd6.below (Yb w6 (.cells #[.pointer (some ⟨W.heap.size+1,0,none⟩)] 94))).low (ar _));have HF7:Hid (∀q,W8 (W.heap.size+1,.slice none 0 0,W.heap.size) q->W.heap.size<=q):=hid (λq hq=>(hd6.Gt hq).1);clear hd6 hB6 hb6 hb7))
   all_goals
    have hFin:=hid (show(∃dv ds,LtM (w8.setCell ⟨w2.heap.size,3,none⟩ (.slice A8 (k+1) c8)) w2.heap.size (.slice B1 D.length d1) (.slice B2 M.length d2) (.slice B3 V.length d3) dv (.slice none 0 0) ds [] ((Yj D).take (k+1)) (ae (k+1) []) D.length M.length [] 0/\Fb w2.heap.size w2.heap.size dv (.slice none 0 0) ds [])/\Below w2.heap.size w2 (w8.setCell ⟨w2.heap.size,3,none⟩ (.slice A8 (k+1) c8))from
     ⟨⟨_,_,by have h:=HM8.out;rw[show(Yj D).take k++[n']=(Yj D).take (k+1)by rw[<-hT.out,hll],show ae k ([]:List Pth)++[[]]=ae (k+1) []from da.symm]at h;exact h,HF8.out.1⟩,HB0.out.trans HF8.out.2⟩)
    clear HM8 HF8 p8 f8 p6 pa HB7 HR7 HC7 HD7 HF7 p0 HLt HF HN hdr HB0;go_wp2_with fail;go_roundw
    case rel=>exact⟨k+1,by omega,by go_num,hid hFin.out.1,hFin.out.2⟩
    case measure=>simp[intOf];omega
  ·obtain rfl:k=n1:=by omega
   obtain⟨dv,ds,hLt,hF⟩:=hO.out
   have hNl:(Yj D).length=k:=by unfold Yj;rw[aj,Hn.out.1]
   rw[ay (by omega)]at hLt
   have hbs:=HBl2.out.below hB hlt2
   have k0:=hbs.cell 0
   have k1:=hbs.cell 1
   have k2:=hbs.cell 2
   have HSr:=hid (HS2.out.mv (Mv.below hB λb hb=>hb.2))
   have HVw:=hid (Ybx HSr.out.has (by omega) (by omega) HSm.out.v.2)
   have HLt:=hid hLt
   have HF:=hid hF
   clear hLt hF hO hbs;go_wp2_with fail;refine HVw.out.mono ?_;rintro e w4 ⟨⟨v,rfl,hv⟩,hB4⟩;obtain⟨Av,cv,rfl,_⟩:=hv.form;obtain⟨nv,hnv⟩: ∃nv,Hid ((Yg D V).length=nv):=⟨_,hid rfl⟩
   have hnv7:nv<=7:=by have:=HV7.out;rw[hnv.out]at this;exact this
   have hB5:=hB.trans (hB4.mono hB.size)
   have HL2:Hid (∃vv vs,LtM w4 w2.heap.size (.slice B1 D.length d1) (.slice B2 M.length d2) (.slice B3 V.length d3) dv vv ds vs (Yj D) (ae k []) D.length M.length (ae 0 []) 0/\Fb w2.heap.size w2.heap.size dv vv ds vs):=hid ⟨_,_,HLt.out.below hB4,HF.out⟩
   rw[hnv.out];clear hv HVw HLt HF hB4 hB;go_wp2_with fail;go_loopw [38] (λi wr=>∃j:Nat,j<=nv/\i=.int .i64 j/\Hid (∃vv vs,LtM wr w2.heap.size (.slice B1 D.length d1) (.slice B2 M.length d2) (.slice B3 V.length d3) dv vv ds vs (Yj D) (ae k []) D.length M.length (ae j []) 0/\Fb w2.heap.size w2.heap.size dv vv ds vs)/\Below w2.heap.size w2 wr) (λi _=>nv-(intOf i).toNat)
   case atStart=>exact⟨0,ar _,rfl,HL2,hB5⟩
   case round=>
    obtain⟨j,hj,rfl,hO,hB⟩:=hrel
    by_cases hlt:j<nv
    ·have i0:(0:Int)<=(j:Int):=by omega
     have i1:(j:Int)<(nv:Int):=by omega
     obtain⟨vv,vs,hLt,hF⟩:=hO.out
     have hvl:=hLt.cbs.len
     rw[List.length_replicate]at hvl;obtain⟨Ad,cd,edv⟩:=Rc hLt.vr;rw[hvl]at edv;subst edv
     have p0:=hLt.c4
     have hLd:=hLt.drewN 1
     have HN:=hid (B9 hLd.c0 hLd.c1 hdW.out (by have:=hLd.blk.lt;exact this))
     have hdr:=hid (show ∀y,Below wr.heap.size wr y->y.ownsRow 0 96 1 (.slice Ad j cd) j (vs.map λd=>Xk d.1)from λy hy=>by have:=(hLt.below hy).vr;rwa [hvl]at this)
     have HLt:=hid hLt
     have HF:=hid hF
     have HB0:=hid hB
     clear hO hB hLt hF hLd;go_wp2_with fail;go_region_law (first
      |(refine Gx rfl _ _ rfl Ygb Tryz.underlying90 rfl (by decide) 0 (.slice Ad j cd) j _ rfl HR7.out _ rfl [.pointer (some ⟨gq,0,none⟩)] rfl HC7.out (Ey _) (by omega) (ar _) ?_;intro v' w8 hO8 hG8;obtain⟨A8,c8,e8⟩:=Rc hO8;subst e8;obtain⟨hb8,hM8,hF8⟩:=HLt.out.Jo (c:=(gq,bq)) (C:=[]) HB7.out HD7.out HF7.out (by rw[hvl];exact hO8) hG8;have p8:w8.cell? ⟨w2.heap.size,4,none⟩=some (.slice Ad j cd):=hb8.cell 4;have f8:=hb8.free 4;have HM8:=hid hM8;have HF8:=hid (hF8 w2.heap.size HF.out HB0.out.size);clear hM8 hF8 hb8 hO8 hG8)
      |(go_simp;go_at_call 45;refine HN.out.mono ?_;rintro e w6 ⟨⟨v,rfl,gq,bq,rfl,hd6,hg1,hg2⟩,hB6⟩;have hb6:Below wr.heap.size wr w6:=(below_drewN (Below.refl _ wr) 1).trans hB6;have p6:w6.cell? ⟨w2.heap.size,4,none⟩=some (.slice Ad j cd):=(HLt.out.below hb6).c4;have hb7:=hb6.trans ((Yb w6 (.cells #[.pointer (some ⟨gq,0,none⟩)] 96)).mono hb6.size);have HB7:=hid hb7;have pa:(w6.alloc (.cells #[.pointer (some ⟨gq,0,none⟩)] 96)).cell? ⟨w2.heap.size,4,none⟩=some (.slice Ad j cd):=(HLt.out.below hb7).c4;have HR7:=hid (hdr.out _ hb7);have HC7:=hid (Mo w6 (.pointer (some ⟨gq,0,none⟩)) 96 w6.heap.size rfl);have HD7:=hid (hd6.Yc (Yb w6 (.cells #[.pointer (some ⟨gq,0,none⟩)] 96)));have HF7:Hid (∀q,Va (gq,bq) q->wr.heap.size<=q):=hid (λq hq=>by rcases hq with rfl|rfl;exact hg1;exact hg2);clear hd6 hB6 hb6 hb7 hg1 hg2))
     all_goals
      have hFin:=hid (show(∃vv vs,LtM (w8.setCell ⟨w2.heap.size,4,none⟩ (.slice A8 (j+1) c8)) w2.heap.size (.slice B1 D.length d1) (.slice B2 M.length d2) (.slice B3 V.length d3) dv vv ds vs (Yj D) (ae k []) D.length M.length (ae (j+1) []) 0/\Fb w2.heap.size w2.heap.size dv vv ds vs)/\Below w2.heap.size w2 (w8.setCell ⟨w2.heap.size,4,none⟩ (.slice A8 (j+1) c8))from
       ⟨⟨_,_,by have h:=HM8.out;rw[show ae j ([]:Cub)++[[]]=ae (j+1) []from da.symm]at h;exact h,HF8.out.1⟩,HB0.out.trans HF8.out.2⟩)
      clear HM8 HF8 p8 f8 p6 pa HB7 HR7 HC7 HD7 HF7 p0 HLt HF HN hdr HB0;go_wp2_with fail;go_roundw
      case rel=>exact⟨j+1,by omega,by go_num,hid hFin.out.1,hFin.out.2⟩
      case measure=>simp[intOf];omega
    ·obtain rfl:j=nv:=by omega
     have hFin:=hid (show Ykz w D M V (.returned (.tuple #[.pointer (some ⟨w2.heap.size,0,none⟩),.int .i64 0])) wr from by
      obtain⟨vv,vs,hLt,hF⟩:=hO.out
      have hw:Below w.heap.size w w2:=hB1'.trans (hB2.mono hB1'.size)
      refine⟨w2.heap.size,Zm w2.heap.size dv vv ds vs,λq=>w1.heap.size<=q/\q<w2.heap.size,rfl,⟨dv,vv,ds,vs,B1,D.length,d1,B2,M.length,d2,B3,V.length,d3,?_,?_,λ_=>Iff.rfl,λq hq hq'=>?_,HY.out,by rw[aj]⟩,λq hq=>?_,λq hq=>⟨aw hB1'.size hq.1,bz hq.2 hB.size⟩,hw.trans (hB.mono hw.size)⟩
      ·rw[show D.map (λ_=>([]:List Pth))=ae k []by rw[dg,Hn.out.1],show(Yg D V).map (λ_=>([]:Cub))=ae j []by rw[dg,hnv.out]]
       exact hLt
      ·exact HSR.out.mv (Mv.below hB λb hb=>hb.2)
      ·have:=hF q hq'
       omega
      ·have:=hF q hq
       have:=hw.size
       omega)
     clear hO hB;go_wp2_with fail;go_ret2;exact hFin.out
section
section
variable {w w' : World}{g:Nat}{X1 X2 X3 dv vv:Value}{ds:List DAt}{vs:List CAt}{N:List Nat}{Qs:List (List Pth)}{W m:Nat}{Cs:List Cub}{cnt:Int}
theorem Jj{α β:Type}{f:α->β}{L:List α}{i:Nat}{x y:α}(h:L[i]?=some x)(e:f y=f x):(L.set i y).map f=L.map f:=by
 refine az λj=>?_
 rw[av,av,ao]
 by_cases hij:i=j
 ·subst hij
  rw[if_pos rfl,if_pos (af.1 h).1,h];simp[e]
 ·rw[if_neg hij]
theorem LtM.Yut(h:LtM w g X1 X2 X3 dv vv ds vs N Qs W m Cs cnt){i:Nat}{d:DAt}(hi:ds[i]?=some d)(hc:Chg (W8 d) w w'){pv':Value}{Q':List Pth}(hd:Dc w' 0 d.1 pv' d.2.2 (N.getD i 0) Q')(hf:∀k,pv'.ownBlock=some k->d.2.1.ownBlock=some k∨w.heap.size<=k):
  LtM w' g X1 X2 X3 dv vv (ds.set i (d.1,pv',d.2.2)) vs N (Qs.set i Q') W m Cs cnt/\∀k,Zm g dv vv (ds.set i (d.1,pv',d.2.2)) vs k->Zm g dv vv ds vs k∨w.heap.size<=k:=by
 have hm:=ag hi
 have hf': ∀k,W8 (d.1,pv',d.2.2) k->W8 d k∨w.heap.size<=k:=by
  rintro k (hk|hk|hk)
  ·exact .inl (.inl hk)
  ·rcases hf k hk with h2|h2
   ·exact .inl (.inr (.inl h2))
   ·exact .inr h2
  ·exact .inl (.inr (.inr hk))
 refine⟨⟨h.blk.chg hc (h.d_g hm),?_,hc.row h.vr λk hk hk'=>Tv h.vr (h.dcs.at_ i d hi) (by decide) (by decide) hk hk',h.dcs.Ys hi hc hd hf',h.cbs.chg hc λc hc' k hk hk'=>h.apart d hm c hc' k hk' hk,?_⟩,?_⟩
 ·rw[bj,Jj (f:=λd:DAt=>Xk d.1) (y:=(d.1,pv',d.2.2)) hi rfl]
  exact hc.row h.dr λk hk hk'=>Tv h.dr (h.dcs.at_ i d hi) (by decide) (by decide) hk hk'
 ·intro e he c hc' k hk hkc
  rcases an he with he|rfl
  ·exact h.apart e he c hc' k hk hkc
  ·rcases hf' k hk with h2|h2
   ·exact h.apart d hm c hc' k h2 hkc
   ·have:=h.cbs.lt hc' hkc;omega
 ·rintro k (hk|hk|hk|⟨e,he,hk⟩|hk)
  ·exact .inl (.inl hk)
  ·exact .inl (.inr (.inl hk))
  ·exact .inl (.inr (.inr (.inl hk)))
  ·rcases an he with he|rfl
   ·exact .inl (.inr (.inr (.inr (.inl ⟨e,he,hk⟩))))
   ·rcases hf' k hk with h2|h2
    ·exact .inl (.inr (.inr (.inr (.inl ⟨d,hm,h2⟩))))
    ·exact .inr h2
  ·exact .inl (.inr (.inr (.inr (.inr hk))))
theorem Yrh{B size n':Nat}{e:TypeId}{v:Value}{xs:List Value}{base n:Nat}{Q:List Pth}{d:DAt}(hr:w.ownsRow B e size v n' xs)(hD:Dc w base d.1 d.2.1 d.2.2 n Q)(hc:Chg (W8 d) w w')(h1:e≠160)(h2:e≠168):w'.ownsRow B e size v n' xs:=hc.row hr λ_ hk hk'=>Tv hr hD h1 h2 hk hk'
end
structure Xt (w0:World) (F0:Nat->Prop) (w:World) (g:Nat) (X1 X2 X3 dv vv:Value) (ds:List DAt) (vs:List CAt) (N:List Nat) (Qs:List (List Pth)) (W m:Nat) (Cs:List Cub) (cnt:Int):Prop where
 lt:LtM w g X1 X2 X3 dv vv ds vs N Qs W m Cs cnt
 chg:Chg F0 w0 w
 Th:∀k,Zm g dv vv ds vs k->F0 k∨w0.heap.size<=k
section
variable {w0 w w' : World}{F0:Nat->Prop}{g:Nat}{X1 X2 X3 dv vv:Value}{ds:List DAt}{vs:List CAt}{N:List Nat}{Qs:List (List Pth)}{W m:Nat}{Cs:List Cub}{cnt:Int}
theorem Xt.begin(h:LtM w g X1 X2 X3 dv vv ds vs N Qs W m Cs cnt):Xt w (Zm g dv vv ds vs) w g X1 X2 X3 dv vv ds vs N Qs W m Cs cnt:=⟨h,Chg.refl _ _,λ_ hk=>.inl hk⟩
theorem Xt.below(h:Xt w0 F0 w g X1 X2 X3 dv vv ds vs N Qs W m Cs cnt)(hb:Below w.heap.size w w'):Xt w0 F0 w' g X1 X2 X3 dv vv ds vs N Qs W m Cs cnt:=
 ⟨h.lt.below hb,h.chg.trans (S':=λ_=>False) (Chg.Y1 hb (aq _)) (λ_ _ h=>h.elim),h.Th⟩
theorem Xt.Ly(h:Xt w0 F0 w g X1 X2 X3 dv vv ds vs N Qs W m Cs cnt){v v':Value}{B size n:Nat}{e:TypeId}{xs:List Value}(hr:w.ownsRow B e size v n xs)(hG:Zl w v w' v')(hB:w0.heap.size<=B)(h1:¬St (.cells #[] e (0,0))):Xt w0 F0 w' g X1 X2 X3 dv vv ds vs N Qs W m Cs cnt:=by
 have hc:=Ns hG
 refine⟨h.lt.chg hc λk hk hv=>?_,h.chg.trans hc λk hk hv=>?_,h.Th⟩
 ·obtain⟨o,ho,hl⟩:=h.lt.kind hk
  obtain⟨cs,fr,he⟩:=Wb hr hv;rw[he]at ho;rw[<-ak ho]at hl;exact h1 hl
 ·have:=(ax hr k hv).1
  omega
theorem Xt.Yut(h:Xt w0 F0 w g X1 X2 X3 dv vv ds vs N Qs W m Cs cnt){i:Nat}{d:DAt}(hi:ds[i]?=some d)(hc:Chg (W8 d) w w'){pv':Value}{Q':List Pth}(hd:Dc w' 0 d.1 pv' d.2.2 (N.getD i 0) Q')(hf:∀k,pv'.ownBlock=some k->d.2.1.ownBlock=some k∨w.heap.size<=k):
  Xt w0 F0 w' g X1 X2 X3 dv vv (ds.set i (d.1,pv',d.2.2)) vs N (Qs.set i Q') W m Cs cnt:=by
 obtain⟨h1,h2⟩:=h.lt.Yut hi hc hd hf
 have hz:=h.chg.size
 refine⟨h1,h.chg.trans hc λk hk hd'=>?_,λk hk=>?_⟩
 ·rcases h.Th k (.inr (.inr (.inr (.inl ⟨d,ag hi,hd'⟩))))with h3|h3
  ·exact h3
  ·omega
 ·rcases h2 k hk with h3|h3
  ·exact h.Th k h3
  ·exact .inr (by omega)
theorem Xt.mv(h:Xt w0 F0 w g X1 X2 X3 dv vv ds vs N Qs W m Cs cnt){S:Nat->Prop}(hS:∀b,S b→¬F0 b):Mv w0 (λb=>S b/\b<w0.heap.size) w (λb=>S b/\b<w0.heap.size):=λb hb hl=>⟨h.chg.block b hl (hS b hb.1),hb⟩
theorem Xt.far(h:Xt w0 F0 w g X1 X2 X3 dv vv ds vs N Qs W m Cs cnt){S:Nat->Prop}(hS:∀b,S b→¬F0 b){b:Nat}(hb:S b/\b<w0.heap.size):¬Zm g dv vv ds vs b:=λhk=>by
 rcases h.Th b hk with h1|h1
 ·exact hS b hb.1 h1
 ·omega
end
section
variable {w0 w1 w w' : World}{F0:Nat->Prop}{g:Nat}{X1 X2 X3 dv vv:Value}{ds ds1:List DAt}{vs:List CAt}{N:List Nat}{Qs Rs:List (List Pth)}{W m:Nat}{Cs:List Cub}{cnt:Int}
theorem Xt.trans(h:Xt w0 F0 w1 g X1 X2 X3 dv vv ds1 vs N Rs W m Cs cnt)(h':Xt w1 (Zm g dv vv ds1 vs) w g X1 X2 X3 dv vv ds vs N Qs W m Cs cnt):Xt w0 F0 w g X1 X2 X3 dv vv ds vs N Qs W m Cs cnt:=by
 have hz:=h.chg.size
 refine⟨h'.lt,h.chg.trans h'.chg λk hk hf=>?_,λk hk=>?_⟩
 ·rcases h.Th k hf with h1|h1
  ·exact h1
  ·omega
 ·rcases h'.Th k hk with h1|h1
  ·exact h.Th k h1
  ·exact .inr (by omega)
theorem Yfm{B size n':Nat}{e:TypeId}{v:Value}{xs:List Value}(hr:w.ownsRow B e size v n' xs)(hL:LtM w g X1 X2 X3 dv vv ds vs N Qs W m Cs cnt)(hc:Chg (Zm g dv vv ds vs) w w')(h1:¬St (.cells #[] e (0,0))):w'.ownsRow B e size v n' xs:=hc.row hr λk hk hk'=>by
 obtain⟨o,ho,hl⟩:=hL.kind hk';obtain⟨cs,fr,he⟩:=Wb hr hk;rw[he]at ho;rw[<-ak ho]at hl;exact h1 hl
theorem Yc0:¬St (.cells #[] 3 (0,0)):=by unfold St;decide
theorem Cq:¬St (.cells #[] 47 (0,0)):=by unfold St;decide
theorem We.Yvo{B:Nat}{v:Value}{L:List (List Int)}(h:We w B v L)(hL:LtM w g X1 X2 X3 dv vv ds vs N Qs W m Cs cnt)(hc:Chg (Zm g dv vv ds vs) w w'):We w' B v L:=by
 obtain⟨xs,h1,h2⟩:=h;exact⟨xs,Yfm h1 hL hc Cq,λi q hi=>by
  obtain⟨x,e,hx⟩:=h2 i q hi;exact⟨x,e,Yfm hx hL hc Yc0⟩⟩
end
end
def Yac(w:World)(F0:Nat->Prop)(g:Nat)(X1 X2 X3 dv vv:Value)(vs:List CAt)(N:List Nat)(Qs:List (List Pth))(W m:Nat)(Cs:List Cub)(cnt:Int)(G:List Fct)(e:Ending)(w':World):Prop:=
 ∃ds' Qs',Xt w F0 w' g X1 X2 X3 dv vv ds' vs N Qs' W m Cs cnt/\(((Zh N Qs G).2=0/\Qs'=(Zh N Qs G).1/\∃v,e=.returned (.tuple #[v,.int .i64 0])/\We w' w.heap.size v (Vy N Qs' G))∨((Zh N Qs G).2≠0/\e=.returned (.tuple #[.slice none 0 0,.int .i64 (((Zh N Qs G).2:Nat):Int)])))
theorem Yn7{ds:List DAt}{vs:List CAt}(h:LtM w g X1 X2 X3 dv vv ds vs N Qs W m Cs cnt){S:Nat->Prop}{A:Option Addr}{n c:Nat}{G:List Fct}(hF:S0 w S A n c G)(hS:∀b,S b→¬Zm g dv vv ds vs b)(hn:n<=1000)(hG:∀f∈G,f.1.length=N.length)(hN:N.length<=3):
  Calls ai 50 #[.pointer (some ⟨g,0,none⟩),.slice A n c] w (Yac w (Zm g dv vv ds vs) g X1 X2 X3 dv vv vs N Qs W m Cs cnt G):=by
 have HF:Hid (S0 w (λb=>S b/\b<w.heap.size) A n c G):=hid (hF.mv Y3 (Mv.to w λb hb hl=>⟨hb,hl⟩))
 obtain⟨F0,hF0⟩: ∃F0,Hid (Zm g dv vv ds vs=F0):=⟨_,hid rfl⟩
 have hC0:=Xt.begin h
 rw[hF0.out]at hC0 hS⊢
 have HC0:=hid hC0
 have HG:=hid hG
 have Hgood:=hid h.dcs.good
 have HNl:=hid hN
 have HS:=hid hS
 have Hlen:=hid hF.len
 obtain⟨Ad,cd,edv,_,_⟩:=h.Ki;subst edv;clear h hF hC0 hG hS;go_enter Tryz.func50,Tryz.ntmps50;go_wp2_with fail;go_loopw [6,16] (λkv i wr=>∃(k:Nat) (ds1:List DAt) (Rs:List (List Pth)),k<=n/\i=.int .i64 k/\Hid (Xt w F0 wr g X1 X2 X3 (.slice Ad N.length cd) vv ds1 vs N Rs W m Cs cnt/\Zh N Qs (G.take k)=(Rs,0)/\We wr w.heap.size kv (Vy N Rs (G.take k)))) (λ_ i _=>n-(intOf i).toNat)
 case atStart=>exact⟨0,ds,Qs,ar _,rfl,hid ⟨HC0.out,rfl,We.Zj _ _⟩⟩
 case round=>
  obtain⟨k,ds1,Rs,hk,rfl,hO⟩:=hrel
  by_cases hlt:k<n
  ·obtain⟨b,o,A1,n1,c1,A2,n2,c2,P,q,rfl,hSb,hbl,g0w,g1w,hp,_,he⟩:=HF.out.at2 hlt
   obtain⟨hCm,hAd,hKs⟩:=hO.out
   have hkb:=hCm.chg.block b hbl (HS.out b hSb.1)
   have g0:wr.cell? ⟨b,o+k*2,none⟩=some (.slice A1 n1 c1):=(bp hkb).trans g0w
   have g1:wr.cell? ⟨b,o+k*2+1,none⟩=some (.slice A2 n2 c2):=(bp hkb).trans g1w
   have i0:(0:Int)<=(k:Int):=by omega
   have i1:(k:Int)<(n:Int):=by omega
   have hb1:=Yb wr (.cells #[.slice A1 n1 c1,.slice A2 n2 c2] 83)
   have f0:=(Block.new wr 83 #[.slice A1 n1 c1,.slice A2 n2 c2]).cell 0
   have HCm:=hid (hCm.below hb1)
   have HKs:=hid (hKs.below hb1)
   have hzw:=hCm.chg.size
   have hzb:=hb1.size
   have HAd:=hid hAd
   have hPl:=HG.out _ (ag he.out)
   have hPn:n1=N.length:=by rw[<-hPl];exact hp.len.symm
   subst hPn
   have HP:=hid hp
   have HPl:Hid (P.length=N.length):=hid hPl
   have hga:=Pa Hgood.out hAd
   have HGa:=hid hga
   have hRl:Hid (Rs.length=N.length):=hid hga.1.len
   clear hO hCm hAd hKs hkb g0w g1w hp hPl hga hbl;go_wp2_with fail;generalize wr.alloc (.cells #[.slice A1 N.length c1,.slice A2 n2 c2] 83)=W0 at hb1 f0 HCm HKs hzb⊢
   have HL0:=hid (Xt.begin HCm.out.lt)
   go_loopw [9,23] (λkv2 i2 w2=>∃(j:Nat) (ds2:List DAt),j<=N.length/\i2=.int .i64 j/\Hid (Xt W0 (Zm g (.slice Ad N.length cd) vv ds1 vs) w2 g X1 X2 X3 (.slice Ad N.length cd) vv ds2 vs N (Qb N Rs P j) W m Cs cnt/\(∀i,i<j->Ru N Rs P i=0)/\Yi w2 W0.heap.size kv2 ((Xn (Vj N Rs P) (R4 N) P).take j))) (λ_ i _=>N.length-(intOf i).toNat)
   case atStart=>exact⟨0,ds1,ar _,rfl,hid ⟨by rw[Yae];exact HL0.out,λi hi=>absurd hi (by omega),Yi.Zj _ _⟩⟩
   case round=>
    obtain⟨j,ds2,hj,rfl,hO2⟩:=hrel
    by_cases hlt2:j<N.length
    ·obtain⟨hC2,hE2,hK2⟩:=hO2.out
     have hCC:=HCm.out.trans hC2
     obtain⟨b1,o1,A',n',c',p,rfl,hSb1,_,gp,hpp,hpe⟩:=(HP.out.mv Ww (hCC.mv HS.out)).at1 hlt2;obtain⟨Ad',cd',edv,hdl,hat⟩:=hC2.lt.Ki;injection edv with e1 _ e3
     subst e1 e3;obtain⟨d,hdk⟩: ∃d,Hid (ds2[j]?=some d):=⟨_,hid (aa (by omega))⟩
     obtain⟨bd,rfl,_,_,gd⟩:=hat j d hdk.out
     have c3:=hC2.lt.c3
     have hD:=hC2.lt.dcs.at_ j d hdk.out
     rw[Ybm hRl.out HPl.out hlt2]at hD
     have epj:P.getD j []=p:=by rw[cn,hpe.out];rfl
     have hfar:0<n'→∀ad,A'=some ad→¬Th d.1 d.2.1 d.2.2 ad.block:=λhn' ad ead hf=>by
      obtain⟨b9,o9,_,_,e9,hS9,_⟩:=hpp.at_ hn';rw[ead]at e9;injection e9 with e9
      rw[e9]at hf;exact hCC.far HS.out hS9 (.inr (.inr (.inr (.inl ⟨d,ag hdk.out,hf⟩))))
     obtain⟨er,her⟩: ∃er,Hid (Qr (N.getD j 0) (Rs.getD j []) p=er):=⟨_,hid rfl⟩
     have hX:=Yte hD hpp.Eu hfar
     unfold Yla at hX;rw[her.out]at hX
     have hej:Hid (Ru N Rs P j=er):=hid (by show Qr _ _ (P.getD j [])=er;rw[epj];exact her.out)
     have HQj:Hid (V4 (N.getD j 0) (Rs.getD j []) p=Bu N Rs P j):=hid (by show _=V4 _ _ (P.getD j []);rw[epj])
     have j0:(0:Int)<=(j:Int):=by omega
     have j1:(j:Int)<(N.length:Int):=by omega
     have hnj:=(Hgood.out.get hlt2).lv
     have HC2:=hid hC2
     have HE2:=hid hE2
     have HK2:=hid hK2
     have HD:=hid hD
     by_cases hez:er=0
     ·subst hez
      have HX:=hid hX
      clear hX hfar hO2 hC2 hE2 hK2 hD hpp hat hCC;go_wp2_with fail;refine HX.out.mono ?_;rintro e w3 ⟨v3,pv3,rfl,hT3,hD3,hch3,hown3⟩;rw[HQj.out]at hD3
      have hC3:=HC2.out.Yut hdk.out hch3 hD3 hown3
      rw[Ck hRl.out HPl.out hlt2]at hC3;obtain⟨A3,m3,c3',rfl,hI3,_⟩:=hT3.read;obtain⟨hl3,hv3⟩:=Yns her.out hnj.1
      have hm3:m3=N.getD j 0:=by rw[<-hl3];exact hI3.len.symm
      obtain⟨r,hr⟩: ∃r,Hid (N.getD j 0=r+1):=⟨N.getD j 0-1,hid (by omega)⟩
      rw[hr.out]at hm3 hv3;subst hm3;rw[Nat.add_sub_cancel]at hv3;obtain⟨b3,o3,x3,rfl,_,gx,ex3⟩:=hI3.at_ (k:=r) (by omega)
      rw[hr.out]at ex3
      have hx3:Hid (x3=((fnd (Bu N Rs P j) (P.getD j []):Nat):Int)):=hid (by rw[ex3.out,hv3,epj,<-hr.out,HQj.out])
      have hK3:Yi w3 W0.heap.size u9 ((Xn (Vj N Rs P) (R4 N) P).take j):=Yrh HK2.out HD.out hch3 (by decide) (by decide)
      have hb4:=Yb w3 (.cells #[.int .i64 x3] 3)
      have hC4:=hC3.below hb4
      have hK4:=cj hK3 (.cells #[.int .i64 x3] 3)
      have HC4:=hid hC4
      have HK4:Hid (Yi (w3.alloc (.cells #[.int .i64 x3] 3)) W0.heap.size u9 ((Xn (Vj N Rs P) (R4 N) P).take j)):=hid hK4
      have hrr:(r:Int)+1-1=(r:Int):=by omega
      have hr0:(0:Int)<=(r:Int):=by omega
      have hr2:r<=2:=by have:=hr.out;omega
      have hr1:(r:Int)<(r:Int)+1:=by omega
      have hlk:Hid (((Xn (Vj N Rs P) (R4 N) P).take j).length<=1000000):=hid (aw (br j _) (by have:=HNl.out;omega))
      have hbs:Hid (W0.heap.size<=(w3.alloc (.cells #[.int .i64 x3] 3)).heap.size):=hid hC4.chg.size
      have HPlj:Hid ((P.getD j []).length=N.getD j 0):=hid (by rw[epj];exact(Ylb her.out).1.1)
      clear hT3 hD3 hch3 hown3 hC3 hI3 hK3 hC4 hK4 HX hv3 hl3 epj;go_wp2_with (at_builtin;refine Yo rfl _ _ rfl W0.heap.size _ _ rfl HK4.out _ rfl x3 (Y6 _ _ _ _ rfl) hlk.out hbs.out ?_)
      intro v4 w4 hO5 hG5
      have hF5:=hid (show Xt W0 (Zm g (.slice (some ⟨bd,0,none⟩) N.length cd) vv ds1 vs) w4 g X1 X2 X3 (.slice (some ⟨bd,0,none⟩) N.length cd) vv (ds2.set j (d.1,pv3,d.2.2)) vs N (Qb N Rs P (j+1)) W m Cs cnt/\(∀i,i<j+1->Ru N Rs P i=0)/\Yi w4 W0.heap.size v4 ((Xn (Vj N Rs P) (R4 N) P).take (j+1))from
       ⟨HC4.out.Ly HK4.out hG5 (aq _) Yc0,λi hi=>by
        by_cases hij:i<j
        ·exact HE2.out i hij
        ·obtain rfl:i=j:=by omega
         exact hej.out,by rw[<-Yv2 hRl.out HPl.out hlt2 HPlj.out,<-hx3.out];exact hO5⟩)
      clear hO5 hG5 hb4;go_wp2_with fail;go_roundw
      case rel=>exact⟨j+1,_,by omega,by go_num,hF5⟩
      case measure=>simp[intOf];omega
     ·have hne:((er:Int) != 0)=true:=by simpa using hez
      have HX:=hid hX
      have hstop:Zh N Qs G=(Rs,er):=by
       have h1:=Od he.out HAd.out
       have h2:=Ydv hlt2 hRl.out HPl.out hE2 (by rw[hej.out];exact hez)
       rw[h2,hej.out,if_pos hez]at h1
       have h3:=Dp (N:=N) (Qs:=Qs) (G:=G) (i:=k+1) (by rw[h1];exact hez)
       rw[h3,h1]
      have Hst:=hid hstop
      clear hX hfar hO2 hC2 hE2 hK2 hD hpp hat hCC hez hstop;go_wp2_with fail;refine HX.out.mono ?_;rintro e w3 ⟨v3,pv3,rfl,hT3,hD3,hch3,hown3⟩
      have hC3:=HC2.out.Yut hdk.out hch3 hD3 hown3
      have hF5:=hid (show Yac w F0 g X1 X2 X3 (.slice (some ⟨bd,0,none⟩) N.length cd) vv vs N Qs W m Cs cnt G (.returned (.tuple #[.slice none 0 0,.int .i64 er])) w3 from⟨_,_,HCm.out.trans hC3,.inr ⟨by rw[Hst.out];intro e0;subst e0;simp at hne,by rw[Hst.out]⟩⟩)
      clear hT3 hD3 hch3 hown3 hC3 HX;go_wp2_with fail;go_ret2;exact hF5.out
    ·obtain rfl:j=N.length:=by omega
     obtain⟨hC2,hE2,hK2⟩:=hO2.out;rw[Ycx hRl.out HPl.out]at hC2
     have hal:=Sf hRl.out HPl.out
     rw[ay (by rw[Pp (by rw[Yab];omega) (by rw[HPl.out,hal]),hal];exact aq _)]at hK2
     have hed:=Hj hRl.out HPl.out hE2
     have hsn:=Od he.out HAd.out
     rw[if_neg (λh=>h hed)]at hsn
     obtain⟨hg1,hg2,hg3⟩:=HGa.out
     have hkg:Vy N (Vj N Rs P) (G.take k)=Vy N Rs (G.take k):=Yfr (Ka N Rs P) (Mf P hg1).Q1 λf hf=>hg3 _ (Da N) f hf (HG.out f (List.mem_of_mem_take hf))
     have hks:=Ykv (N:=N) (Rs:=Vj N Rs P) he.out
     have hKs2:=HKs.out.Yvo HL0.out.lt hC2.chg
     have hzz:=hC2.chg.size
     have hK2':=Yi.low hK2 (show w.heap.size<=W0.heap.size by omega)
     obtain⟨Ak,ck,ek,_⟩:=hK2'.form;obtain⟨lk,hlk⟩: ∃lk,Hid ((Xn (Vj N Rs P) (R4 N) P).length=lk):=⟨_,hid rfl⟩;rw[hlk.out]at ek;subst ek
     have hb4:=Yb wr (.cells #[.slice Ak lk ck] 47)
     have HC4:=hid (hC2.below hb4)
     have HK4:=hid (show Yi (wr.alloc (.cells #[.slice Ak lk ck] 47)) w.heap.size (.slice Ak lk ck) (Xn (Vj N Rs P) (R4 N) P)from cj hK2' _)
     have HKs4:=hid (hKs2.below hb4)
     have hlq:Hid ((Vy N Rs (G.take k)).length<=1000000):=hid (by unfold Vy;rw[aj];exact aw (br k _) (by omega))
     have hbs:Hid (w.heap.size<=(wr.alloc (.cells #[.slice Ak lk ck] 47)).heap.size):=hid (by rw[dd];omega)
     have hEnd:=hid (show Vy N Rs (G.take k)++[Xn (Vj N Rs P) (R4 N) P]=Vy N (Vj N Rs P) (G.take (k+1))from by rw[<-hkg];exact hks)
     have Hsn:=hid hsn
     clear hO2 hC2 hE2 hK2 hK2' hKs2 hkg hks hg1 hg2 hg3 hed hsn hb4 hal;go_wp2_with (at_builtin;refine Ku rfl _ _ rfl w.heap.size _ _ rfl HKs4.out _ rfl _ _ (Mq wr (.slice Ak lk ck) 47 _ rfl) HK4.out hlq.out hbs.out ?_)
     intro v4 w4 hO5 hG5
     have hrow:∃xs,(wr.alloc (.cells #[.slice Ak lk ck] 47)).ownsRow w.heap.size 47 1 u6 (Vy N Rs (G.take k)).length xs:=by
      obtain⟨xs,h1,_⟩:=HKs4.out;exact⟨xs,h1⟩
     obtain⟨xs,hrow⟩:=hrow
     have hF5:=hid (show Xt w F0 w4 g X1 X2 X3 (.slice Ad N.length cd) vv ds2 vs N (Vj N Rs P) W m Cs cnt/\Zh N Qs (G.take (k+1))=(Vj N Rs P,0)/\We w4 w.heap.size v4 (Vy N (Vj N Rs P) (G.take (k+1)))from
      ⟨(HCm.out.trans HC4.out).Ly hrow hG5 (aq _) Cq,Hsn.out,by rw[<-hEnd.out];exact hO5⟩)
     clear hO5 hG5 hrow;go_wp2_with fail;go_roundw
     case rel=>exact⟨k+1,_,_,by omega,by go_num,hF5⟩
     case measure=>simp[intOf];omega
  ·obtain rfl:k=n:=by omega
   have hF5:=hid (show Yac w F0 g X1 X2 X3 (.slice Ad N.length cd) vv vs N Qs W m Cs cnt G (.returned (.tuple #[u6,.int .i64 0])) wr from by
    obtain⟨hCm,hAd,hKs⟩:=hO.out;rw[ay (by have:=Hlen.out;omega)]at hAd hKs
    exact⟨_,_,hCm,.inl ⟨by rw[hAd],by rw[hAd],_,rfl,hKs⟩⟩)
   clear hO;go_wp2_with fail;go_ret2;exact hF5.out
theorem Yv6{Q:List Pth}{c k:Int}(hc:0<=c/\c<=(Q.length:Int))(hk:0<=k/\k<=((pth Q c.toNat).length:Int)):upA Q c k=(fnd Q ((pth Q c.toNat).take k.toNat),0):=by
 unfold upA;rw[if_pos hc,if_pos hk]
theorem Yuz{ds:List DAt}{vs:List CAt}(h:LtM w g X1 X2 X3 dv vv ds vs N Qs W m Cs cnt)(hN:N.length<=3){A A':Option Addr}{n c n' c':Nat}{K v:List Int}(hK:Y2 w w.heap.size A n c K)(hV:Y2 w w.heap.size A' n' c' v)(hf:Q8 N Qs K)(hv:On N v):
  Calls ai 165 #[.pointer (some ⟨g,0,none⟩),.slice A n c,.slice A' n' c'] w (Yly w (upB Qs K v)):=by
 obtain⟨Ad,cd,edv,hdl,hat⟩:=h.Ki;subst edv
 have hnl:n=N.length:=by rw[<-(M1 hf).2];exact hK.len.symm
 have hnl':n'=N.length:=by rw[<-hv.len];exact hV.len.symm
 subst hnl hnl'
 have HK:=hid hK
 have HV:=hid hV
 have HM:=hid h
 have HA:=hid hat
 have HPl:=hid (Yue hf hv)
 have HPg:=hid (λi (hi:i<N.length)=>Ytc hf hv hi)
 have HFk:=hid (λi (hi:i<N.length)=>Yc3 hf hi)
 have HLv:=hid (λi (hi:i<N.length)=>hv.get hi)
 have hmk:∀W:World,(Instr.makeSlice 47 (.int .i64 (N.length:Int)) (.int .i64 (N.length:Int))).run ai W=.ok (.slice (some ⟨W.heap.size,0,none⟩) N.length N.length) (W.alloc (.cells (J6 (.int .i64 0) N.length) 3)):=λW=>Yf1 rfl Rx Tryz.underlying47 (by decide) N.length W (by omega)
 have hM0:=hid (Zu.begin (E:=Yy) (S:=λb=>w.heap.size<=b) (Yhj w 3 (.int .i64 0) N.length (by omega)) HPl.out)
 have hb0:=Yb w (.cells (J6 (.int .i64 0) N.length) 3)
 clear h hK hV hat hf hv;go_enter Tryz.func165,Tryz.ntmps165;go_wp2_with fail;clear hmk;generalize w.alloc (.cells (J6 (.int .i64 0) N.length) 3)=W0 at hM0 hb0⊢;go_loopw [15] (λi wr=>∃k:Nat,k<=N.length/\i=.int .i64 k/\Hid (Zu Yy 3 1 wr w.heap.size (λb=>w.heap.size<=b) (.slice (some ⟨w.heap.size,0,none⟩) N.length N.length) N.length (upB Qs K v) (ae N.length (.int .i64 0)) k)/\Below w.heap.size w wr) (λi _=>N.length-(intOf i).toNat)
 case atStart=>exact⟨0,ar _,rfl,hM0,hb0⟩
 case round=>
  obtain⟨k,hk,rfl,hO,hB⟩:=hrel
  by_cases hlt:k<N.length
  ·have i0:(0:Int)<=(k:Int):=by omega
   have i1:(k:Int)<(N.length:Int):=by omega
   obtain⟨b,o,x,rfl,hbl,hcell,ex⟩:=HK.out.at_ hlt
   have g0:wr.cell? ⟨b,o+k,none⟩=some (.int .i64 x):=(hB.cell (p:=⟨b,o+k,none⟩) hbl).trans hcell
   obtain⟨b',o',y,rfl,hbl',hcell',ey⟩:=HV.out.at_ hlt
   have g2:wr.cell? ⟨b',o'+k,none⟩=some (.int .i64 y):=(hB.cell (p:=⟨b',o'+k,none⟩) hbl').trans hcell'
   obtain⟨d,hdk⟩: ∃d,Hid (ds[k]?=some d):=⟨_,hid (aa (by omega))⟩
   obtain⟨bd,rfl,_,hbd,hcd⟩:=HA.out k d hdk.out
   have g1:wr.cell? ⟨bd,k,none⟩=some (.pointer (some ⟨d.1,0,none⟩)):=(hB.cell (p:=⟨bd,k,none⟩) hbd).trans hcd
   have c3:=(HM.out.below hB).c3
   have hfk:=HFk.out k hlt
   have hlv:=HLv.out k hlt
   have hpg:=HPg.out k hlt
   rw[<-ex.out]at hfk hpg;rw[<-ey.out]at hlv hpg
   have hup:=Yv6 (Q:=Qs.getD k []) (c:=x) (k:=y) ⟨by omega,hfk.2.1⟩ ⟨hlv.1,by rw[hfk.2.2];exact hlv.2⟩
   obtain⟨z,hz⟩: ∃z,Hid (fnd (Qs.getD k []) ((pth (Qs.getD k []) x.toNat).take y.toNat)=z):=⟨_,hid rfl⟩;rw[hz.out]at hup hpg
   have hpe:Hid ((upB Qs K v)[k]?=some (z:Int)):=hid (by
    obtain⟨q,hq⟩: ∃q,(upB Qs K v)[k]?=some q:=⟨_,aa (by rw[HPl.out];exact hlt)⟩
    rw[cn,hq]at hpg;rw[hq];exact congrArg some hpg)
   have hX:=Yus (((HM.out.dcs.at_ k d hdk.out).below hB).drewN 1) x y (hid hup)
   have HX:=hid hX
   have hO1:=hO
   have hlo:=hO.out.lt
   clear hcell hcell' hcd hfk hlv hpg hup hX hO;go_wp2_with fail;go_region_with (go_at_call 218;refine HX.out.mono ?_;rintro e w5 ⟨rfl,hb5⟩;have hb5':Below wr.heap.size wr w5:=(below_drewN (Below.refl _ wr) 1).trans hb5;have hO5:=hid (hO1.out.below Yh hb5');have c0:w5.cell? ⟨w.heap.size,k,none⟩=some (.int .i64 0):=(hO5.out.old (j:=k) (by omega) (by omega)).trans (by rw[List.getElem?_replicate,if_pos hlt]);have f0:=hO5.out.free k;have HB5:=hid (hB.trans (hb5'.mono hB.size));clear hb5 hb5')
   all_goals
    have hF:=hid (show Zu Yy 3 1 (w5.setCell ⟨w.heap.size,k,none⟩ (.int .i64 z)) w.heap.size (λb=>w.heap.size<=b) (.slice (some ⟨w.heap.size,0,none⟩) N.length N.length) N.length (upB Qs K v) (ae N.length (.int .i64 0)) (k+1)/\Below w.heap.size w (w5.setCell ⟨w.heap.size,k,none⟩ (.int .i64 z))from⟨hO5.out.Yoc Yh (by simp) hpe.out rfl,HB5.out.setCell (p:=⟨w.heap.size,k,none⟩) (aq _) _⟩)
    clear hO5 HB5 c0 f0 hO1 hB HX hlo;go_wp2_with fail;go_roundw
    case rel=>exact⟨k+1,by omega,by go_num,hid hF.out.1,hF.out.2⟩
    case measure=>simp[intOf];omega
  ·have hF:=hid (show Yi wr w.heap.size (.slice (some ⟨w.heap.size,0,none⟩) N.length N.length) (upB Qs K v)/\Below w.heap.size w wr from⟨(hO.out.end_ (by omega) (by simp)).ints,hB⟩)
   clear hO hB;go_wp2_with fail;go_ret;exact⟨⟨_,rfl,hF.out.1⟩,hF.out.2⟩
section
section
variable {w y w' : World}{g:Nat}{X1 X2 X3 dv vv:Value}{ds:List DAt}{vs:List CAt}{N:List Nat}{Qs:List (List Pth)}{W m:Nat}{Cs:List Cub}{cnt:Int}
theorem set_self{α:Type}{L:List α}{i:Nat}{x:α}(h:L[i]?=some x):L.set i x=L:=by
 refine az λj=>?_
 rw[ao]
 by_cases hij:i=j
 ·subst hij
  rw[if_pos rfl,if_pos (af.1 h).1,h]
 ·rw[if_neg hij]
theorem LtM.Yxe(h:LtM w g X1 X2 X3 dv vv ds vs N Qs W m Cs cnt){i:Nat}{c:CAt}{C':Cub}(hi:vs[i]?=some c)(hc:Chg (Va c) w w')(hd:Cb w' c.1 c.2 W m C'):LtM w' g X1 X2 X3 dv vv ds vs N Qs W m (Cs.set i C') cnt:=by
 have hm:=ag hi
 have hcb:=h.cbs.at_ i c hi
 have hs:=h.cbs.Ys hi hc hd λk hk=>.inl hk
 rw[set_self hi]at hs;exact⟨h.blk.chg hc (h.c_g hm),hc.row h.dr λk hk=>Rg h.dr hcb (by decide) hk,hc.row h.vr λk hk=>Rg h.vr hcb (by decide) hk,h.dcs.chg hc λd hd' k hk hk'=>h.apart d hd' c hm k hk hk',hs,h.apart⟩
theorem LtM.P7(h:LtM w g X1 X2 X3 dv vv ds vs N Qs W m Cs cnt)(hb:Below w.heap.size w y){i b:Nat}{c c':CAt}{C':Cub}(hi:vs[i]?=some c)(hv:vv.ownBlock=some b)(hd:Cb y c'.1 c'.2 W m C')(hf:∀k,Va c' k->w.heap.size<=k):
  LtM (y.setCell ⟨b,i,none⟩ (Xk c'.1)) g X1 X2 X3 dv vv ds (vs.set i c') N Qs W m (Cs.set i C') cnt/\∀k,Zm g dv vv ds (vs.set i c') k->Zm g dv vv ds vs k∨w.heap.size<=k:=by
 have hm:=ag hi
 have hy:=h.below hb
 have hil:=(af.1 hi).1
 have hs:Chg (λk=>k=b) y (y.setCell ⟨b,i,none⟩ (Xk c'.1)):=(Chg.refl _ y).Ys b i _ λ_=>rfl
 have hbl:b<w.heap.size:=(ax h.vr b hv).2
 have h2:=h.cbs.Ys (w':=y) hi (Chg.Y1 (S:=Va c) hb (aq _)) hd λk hk=>.inr (hf k hk)
 have hnc:∀e∈vs.set i c',∀k,Va e k->k≠b:=λe he k hk hkb=>by
  subst hkb
  rcases an he with he|rfl
  ·obtain⟨j,hj⟩:=bg he
   exact Rg h.vr (h.cbs.at_ j e hj) (by decide) hv hk
  ·have:=hf k hk;omega
 have hst:(y.setCell ⟨b,i,none⟩ (Xk c'.1)).ownsRow 0 96 1 vv vs.length ((vs.map λc=>Xk c.1).set i (Xk c'.1)):=by
  have hr:=hy.vr
  rcases hr.2 with⟨e0,_⟩|⟨b',cap,cur,e0,_⟩
  ·rw[e0]at hv;cases hv
  ·rw[e0]at hv hr⊢
   have e3:b'=b:=by simpa[Value.ownBlock]using hv
   subst e3;exact(ch hr i _).1
 refine⟨⟨hy.blk.chg hs λe=>h.Ytg (by rw[hv,e]),hs.row hy.dr λk hk e=>h.Yqb hk (by rw[hv,e]),?_,hy.dcs.chg hs λd hd' k hk e=>?_,h2.chg hs λe he k hk=>hnc e he k hk,?_⟩,?_⟩
 ·rw[bj,List.map_set]
  exact hst
 ·obtain⟨j,hj⟩:=bg hd'
  exact Tv h.vr (h.dcs.at_ j d hj) (by decide) (by decide) (by rw[hv,e]) hk
 ·intro d hd' e he k hk hke
  rcases an he with he|rfl
  ·exact h.apart d hd' e he k hk hke
  ·have:=h.dcs.lt hd' hk
   have:=hf k hke
   omega
 ·rintro k (hk|hk|hk|hk|⟨e,he,hk⟩)
  ·exact .inl (.inl hk)
  ·exact .inl (.inr (.inl hk))
  ·exact .inl (.inr (.inr (.inl hk)))
  ·exact .inl (.inr (.inr (.inr (.inl hk))))
  ·rcases an he with he|rfl
   ·exact .inl (.inr (.inr (.inr (.inr ⟨e,he,hk⟩))))
   ·exact .inr (hf k hk)
end
end
section
section
variable {w:World}{g:Nat}{X1 X2 X3 dv vv dv' : Value}{ds ds' : List DAt}{vs:List CAt}{N:List Nat}{Qs Qs' : List (List Pth)}{W m:Nat}{Cs:List Cub}{cnt:Int}
theorem LtM.Yw1(h:LtM w g X1 X2 X3 dv vv ds vs N Qs W m Cs cnt)(hr:w.ownsRow 0 94 1 dv' ds'.length (ds'.map λd=>Xk d.1))(hd:Dcs w ds' N Qs')(hap:∀d∈ds',∀c∈vs,∀k,W8 d k→¬Va c k):LtM (w.setCell ⟨g,3,none⟩ dv') g X1 X2 X3 dv' vv ds' vs N Qs' W m Cs cnt:=by
 have hs:Chg (λk=>k=g) w (w.setCell ⟨g,3,none⟩ dv'):=(Chg.refl _ w).Ys g 3 _ λ_=>rfl
 refine⟨h.blk.Ys 3 dv',hs.row hr λk hk e=>Y8 hr h.blk (by decide) (by rw[hk,e]),hs.row h.vr λk hk e=>h.Ytg (by rw[hk,e]),hd.chg hs λd hd' k hk e=>?_,h.cbs.chg hs λc hc k hk e=>h.c_g hc (e▸hk),hap⟩
 subst e;obtain⟨i,hi⟩:=bg hd'
 have hb:w.heap[k]?=some (.cells _ _ _):=h.blk
 rcases(hd.at_ i d hi).kind hk with⟨cs,e,fr,he,h1⟩|⟨es,clock,he⟩
 ·rw[hb]at he
  simp only[dn,Obj.cells.injEq]at he
  rcases h1 with h1|h1 <;> (rw[<-he.2.1]at h1;exact absurd h1 (by decide))
 ·rw[hb]at he;cases he
theorem LtM.Yxx(h:LtM w g X1 X2 X3 dv vv ds vs N Qs W m Cs cnt)(n:Int):LtM (w.setCell ⟨g,5,none⟩ (.int .i64 n)) g X1 X2 X3 dv vv ds vs N Qs W m Cs n:=by
 have hs:Chg (λk=>k=g) w (w.setCell ⟨g,5,none⟩ (.int .i64 n)):=(Chg.refl _ w).Ys g 5 _ λ_=>rfl
 exact⟨h.blk.Ys 5 _,hs.row h.dr λk hk e=>h.Ywm (by rw[hk,e]),hs.row h.vr λk hk e=>h.Ytg (by rw[hk,e]),h.dcs.chg hs λd hd k hk e=>h.d_g hd (e▸hk),h.cbs.chg hs λc hc k hk e=>h.c_g hc (e▸hk),h.apart⟩
end
end
section
open Go.RowKit Go.Maps Go.Sort Go.Shelf
theorem Yf2(w:World)(a b c d e:Value):Block (w.alloc (.cells #[a,b,c,d,e] 73)) w.heap.size 73 #[a,b,c,d,e]:=Block.new w _ _
theorem Ymd(w:World)(a b:Obj):(w.alloc a).alloc b=grow (w.drewN 0) #[a,b]:=by
 rw[alloc_eq_grow,alloc_eq_grow,grow_grow];rfl
theorem Yo9{S S':Nat->Prop}{us vs:List Value}{x y:Zd×PC}{W:World}(h:V6 W S us x)(h':V6 W S' vs y):
  Calls ai 59 #[.agg us.toArray,.agg vs.toArray] W λe w'=>e=.returned (.int .i64 (cmpL x.1 y.1))/\∃q os,w'=grow (W.drewN q) os:=by
 obtain⟨A0,n0,c0,n,A1,n1,c1,A2,n2,c2,A3,n3,c3,K,Su,M,X,rfl,hK,_,_,_,rfl⟩:=Pe h;obtain⟨B0,m0,d0,q,B1,m1,d1,B2,m2,d2,B3,m3,d3,K',Su',M',X',rfl,hK',_,_,_,rfl⟩:=Pe h';obtain⟨W2,hW⟩: ∃W2,Hid (W2=(W.alloc (.cells #[.slice A0 n0 c0,.int .i64 n,.slice A1 n1 c1,.slice A2 n2 c2,.slice A3 n3 c3] 73)).alloc (.cells #[.slice B0 m0 d0,.int .i64 q,.slice B1 m1 d1,.slice B2 m2 d2,.slice B3 m3 d3] 73)):=⟨_,hid rfl⟩
 have hb1:Below W.heap.size W W2:=by rw[hW.out];exact Ya (Yb W _) (Yb _ _)
 have k0:W2.cell? ⟨W.heap.size,0,none⟩=some (.slice A0 n0 c0):=by
  rw[hW.out];exact((Yf2 W _ _ _ _ _).alloc _).cell 0
 have k1:W2.cell? ⟨W.heap.size+1,0,none⟩=some (.slice B0 m0 d0):=by
  rw[hW.out]
  have:=(Yf2 (W.alloc (.cells #[.slice A0 n0 c0,.int .i64 n,.slice A1 n1 c1,.slice A2 n2 c2,.slice A3 n3 c3] 73)) (.slice B0 m0 d0) (.int .i64 q) (.slice B1 m1 d1) (.slice B2 m2 d2) (.slice B3 m3 d3)).cell 0
  rwa [dd]at this
 obtain⟨r,hr⟩: ∃r,Hid (cmpL K K'=r):=⟨_,hid rfl⟩
 have HC:=hid (Yrc (hK.mv Zr (Mv.Yc hb1 S)) (hK'.mv Zr (Mv.Yc hb1 S')) hr)
 show Calls _ _ _ _ λe w'=>e=.returned (.int .i64 (cmpL K K'))/\_
 rw[hr.out];clear h h' hK hK' hb1;go_enter dj,Tryz.ntmps59;go_wp2_with fail;rw[<-hW.out];go_wp2_with fail;refine HC.out.mono ?_;rintro e w3 ⟨rfl,rfl⟩;go_wp2_with fail;go_ret;exact⟨rfl,0,#[_,_],by rw[hW.out];exact Ymd W _ _⟩
/-! ### arrays of elements of several cells -/
section
variable {α:Type}{enc:α->List Value}{k:Nat}(hk:∀ x,(enc x).length=k)
include hk
theorem Rj(d:List α):(d.flatMap enc).length=d.length*k:=by
 induction d with
 |nil=>simp
 |cons a d ih=>rw[df,List.length_append,ih,hk,List.length_cons,cz,Nat.add_comm]
theorem U7(d:List α)(i c:Nat)(hc:c<k)(x:α)(hx:d[i]?=some x):(d.flatMap enc)[i*k+c]?=(enc x)[c]?:=by
 induction d generalizing i with
 |nil=>simp at hx
 |cons a d ih=>
  rw[df]
  cases i with
  |zero=>
   simp at hx;subst hx;rw[Nat.zero_mul,cw,List.getElem?_append_left (by rw[hk];exact hc)]
  |succ i=>
   rw[List.getElem?_append_right (by rw[hk,cz];omega)]
   have e:(i+1)*k+c-(enc a).length=i*k+c:=by rw[hk,cz];omega
   rw[e];exact ih i (by simpa using hx)
theorem Ygm[Inhabited α](h0:0<k)(d:Array α):flatK enc k d=(d.toList.flatMap enc).toArray:=by
 refine ext_get! (by rw[size_flatK];show d.size*k=(List.flatMap enc d.toList).length;rw[Rj hk,Array.length_toList]) λt ht=>?_
 rw[size_flatK]at ht;rw[get_flatK _ _ _ t ht]
 have h1:t/k<d.size:=(Nat.div_lt_iff_lt_mul h0).2 ht
 have h2:t%k<k:=dp _ h0
 have hx:d.toList[t/k]?=some d[t/k]:=by rw[Array.getElem?_toList,Array.getElem?_eq_getElem h1]
 have h3:=U7 hk d.toList (t/k) (t%k) h2 _ hx
 rw[show t/k*k+t%k=t from by rw[Nat.mul_comm];exact Nat.div_add_mod t k]at h3
 have h4:t<(d.toList.flatMap enc).length:=by rw[Rj hk];simpa using ht
 rw[aa h4]at h3;rw[getElem!_pos d _ h1,getElem!_pos (d.toList.flatMap enc).toArray t (by simpa using h4)]
 have h5:t%k<(enc d[t/k]).length:=by rw[hk];exact h2
 rw[aa h5]at h3;rw[getElem!_pos (enc d[t/k]) _ h5];simp only[List.getElem_toArray];exact(ak h3).symm
end
section
variable {α:Type} [Inhabited α] {enc:α->List Value}{k:Nat}
theorem C4(w:World)(g m:Nat)(d:Array α)(os:Array Obj){b:Nat}(hb:b<w.heap.size)(hne:b≠g):(sortWorldK enc k w g 0 m d os).heap[b]?=w.heap[b]?:=by
 show(grow (putRowK enc k (bo w m) g 0 d) os).heap[b]?=_
 rw[heap_grow_old _ _ (by simpa[putRowK,putRow,mapBlock,bo]using hb)]
 simp only[putRowK,putRow,mapBlock,bo,Array.getElem?_modify,if_neg (λe:g=b=>hne e.symm)]
theorem Cv(w:World)(g m:Nat)(d:Array α)(os:Array Obj):w.heap.size<=(sortWorldK enc k w g 0 m d os).heap.size:=by
 show _<=(grow (putRowK enc k (bo w m) g 0 d) os).heap.size
 rw[size_grow]
 have h1:(putRowK enc k (bo w m) g 0 d).heap.size=w.heap.size:=by simp[putRowK,putRow,mapBlock,bo]
 omega
theorem Yfn(w:World)(g m:Nat)(d:Array α)(os:Array Obj)(S:Nat->Prop):Mv w (λb=>S b/\b≠g) (sortWorldK enc k w g 0 m d os) (λb=>S b/\b≠g):=λ_ hb hl=>⟨C4 w g m d os hl hb.2,hb⟩
theorem Yfa(w:World)(g m:Nat)(d:Array α)(os:Array Obj){B:Nat}(hB:B<=g)(hw:B<=w.heap.size):Below B w (sortWorldK enc k w g 0 m d os):=
 ⟨rfl,rfl,rfl,Cv w g m d os,λb hb=>C4 w g m d os (by omega) (by omega)⟩
end
/-! ### rows,sorted -/
theorem Ydr{a b c:Zd}(h1:¬Xb a b)(h2:¬Xb b c):¬Xb a c:=λh=>by
 rcases Gb b a with h3|rfl|h3
 ·exact h2 (Sn h3 h)
 ·exact h2 h
 ·exact h1 h3
theorem Ybh{us:List Value}{x:Zd×PC}(h:R7 w S us x):us.length=5/\∀u∈us,u.oneCell'=true:=by
 obtain⟨A0,n0,c0,n,A1,n1,c1,A2,n2,c2,A3,n3,c3,K,Su,M,X,rfl,_⟩:=Pe (P3 h);exact⟨rfl,λu hu=>by
  simp at hu
  rcases hu with rfl|rfl|rfl|rfl|rfl <;> rfl⟩
abbrev Kt(w:World)(S:Nat->Prop):={p:List Value×(Zd×PC) // R7 w S p.1 p.2}
theorem N9(w:World)(S:Nat->Prop):Uz w S [.slice none 0 0] []:=⟨_,rfl,Yx.Zj _ _ _,λk h=>by cases h⟩
theorem Ynr(w:World)(S:Nat->Prop):R7 w S [.slice none 0 0,.int .i64 0,.slice none 0 0,.slice none 0 0,.slice none 0 0] ([],0,[],[],[]):=
 ⟨⟨_,rfl,Yx.Zj _ _ _,λk h=>by cases h⟩,rfl,N9 w S,N9 w S,N9 w S⟩
instance (w:World) (S:Nat->Prop):Inhabited (Kt w S):=⟨⟨(_,_),Ynr w S⟩⟩
def Le{w:World}{S:Nat->Prop}(x:Kt w S):List Value:=x.1.1
def cfR{w:World}{S:Nat->Prop}(x y:Kt w S):Int:=cmpL x.1.2.1 y.1.2.1
theorem Sh(x:Kt w S):(Le x).length=5:=(Ybh x.2).1
theorem Yxp(w:World)(S:Nat->Prop):SWO (ltOf (cfR (w:=w) (S:=S))):=by
 have e:∀x y:Kt w S,ltOf cfR x y=true↔Xb x.1.2.1 y.1.2.1:=λx y=>by unfold ltOf cfR Xb;simp
 have e': ∀x y:Kt w S,ltOf cfR x y=false↔¬Xb x.1.2.1 y.1.2.1:=λx y=>by rw[<-e x y];simp
 exact⟨λx=>(e' x x).2 (W4 _),λx y z h1 h2=>(e x z).2 (Sn ((e x y).1 h1) ((e y z).1 h2)),λx y z h1 h2=>(e' x z).2 (Ydr ((e' x y).1 h1) ((e' y z).1 h2))⟩
def Ypq(w:World)(base:Nat)(S:Nat->Prop)(v:Value)(L:Rws)(e:Ending)(w':World):Prop:=
 e=.returned (.tuple #[])/\(∃A c L',v=.slice A L.length c/\Row R7 5 w' (λb=>S b∨(base<=b/\v.ownBlock=some b)) A L.length c L'∧L'.Perm L/\L'.Pairwise λa b=>¬Xb b.1 a.1)/\Below base w w'
theorem Yeg{base:Nat}{L:Rws}(hO:Yx R7 73 5 w base S v L)(hl:L.length<=1000000)(hB:base<=w.heap.size):
  Calls ai 58 #[v,.func (.func 59) #[] #[]] w (Ypq w base S v L):=by
 obtain⟨vs,hr,hE⟩:=hO
 rcases hr.2 with⟨rfl,h0⟩|⟨g,cap,cur,rfl,hbg,hgg,hnc,hcm,hcs,ht⟩
 ·obtain rfl:L=[]:=List.eq_nil_of_length_eq_zero h0
  refine(AnyF.slices_SortFunc_none (P:=ai) (ρ:=Tryz.sortR_ren) {Tryz.sortR with} none 0 _ w).mono ?_
  rintro e w' ⟨rfl,rfl⟩;exact⟨rfl,⟨none,0,[],rfl,Row.none_ _ _,List.Perm.refl _,List.Pairwise.nil⟩,Below.refl _ _⟩
 ·have hgl:g<w.heap.size:=(Array.getElem?_eq_some_iff.1 hgg).1
  obtain⟨T,hT⟩: ∃T:Nat->Prop,T=λk=>S k/\k≠g:=⟨_,rfl⟩
  have hE': ∀i x,L[i]?=some x->R7 w T ((vs.drop (i*5)).take 5) x:=λi x hx=>U5 _ _ _ _ _ _ (Mv.to w λb hb _=>by
   rw[hT];exact⟨hb.1,λe=>hb.2 (by rw[e];rfl)⟩) (hE i x hx)
  obtain⟨d,hd⟩: ∃d:List (Kt w T),d.map (λx=>x.1.2)=L/\d.flatMap Le=vs:=by
   refine⟨dq λi:Fin L.length=>⟨((vs.drop (i.1*5)).take 5,L[i.1]),hE' i.1 _ (aa i.2)⟩,?_,?_⟩
   ·rw[List.map_ofFn]
    exact List.ofFn_getElem
   ·refine az λj=>?_
    by_cases hj:j<L.length*5
    ·have h1:j/5<L.length:=by omega
     have h2:j%5<5:=dp _ (by decide)
     have h3:=U7 (enc:=Le (w:=w) (S:=T)) Sh (dq λi:Fin L.length=>(⟨((vs.drop (i.1*5)).take 5,L[i.1]),hE' i.1 _ (aa i.2)⟩:Kt w T)) (j/5) (j%5) h2 _ (by rw[List.getElem?_ofFn,dif_pos h1])
     rw[show j/5*5+j%5=j by omega]at h3
     rw[h3]
     show((vs.drop (j/5*5)).take 5)[j%5]?=_
     rw[db,if_pos h2,dc,show j/5*5+j%5=j by omega]
    ·rw[au (by rw[Rj Sh,List.length_ofFn];omega),au (by have:=hr.1;omega)]
  have hdl:d.toArray.size=L.length:=by rw[<-hd.1];simp
  have hfl:flatK Le 5 d.toArray=vs.toArray:=by rw[Ygm Sh (by decide)];simp only[hd.2]
  have hH:HoldsK Le 5 w g 0 d.toArray:=by
   unfold HoldsK;rw[hfl];intro j hj
   have hj':j<vs.length:=by simpa using hj
   have h1:=hr.cells (g:=g) rfl j _ (aa hj')
   rw[Yu]at h1;refine⟨?_,?_⟩
   ·rw[h1,getElem!_pos vs.toArray j hj]
    simp
   ·rw[cw]
    exact di hr j
  have eg:∀args w,(callFunc 59 args).run ai w=.ok (.enter 59 args) w:=enters_of dj (by kernel_rfl) rfl
  have hcmp:CmpLays ai 59 #[] Le 5 (cfR (w:=w) (S:=T)) g 0 d.toArray.size w:=λm os dk _ x y=>by
   have hm:∀z:Kt w T,V6 (sortWorldK Le 5 w g 0 m dk os) T (Le z) z.1.2:=λz=>P3 (U5 _ _ _ _ _ _ (by have h:=Yfn (enc:=Le) (k:=5) w g m dk os S;rw[<-hT]at h;exact h) z.2)
   exact Yo9 (hm x) (hm y)
  have hcon:=AnyQ.slices_SortFunc Tryz.sortR 5 Tryz.isAgg73 Tryz.sizeOf73 Le Sh (λx=>(Ybh x.2).2) cfR (Yxp w T) 59 #[] g 0 cap d.toArray w eg hcmp hH hgl (by rw[hdl];omega)
  change Calls ai 58 _ _ _ at hcon
  rw[hdl]at hcon;refine hcon.mono ?_;rintro e w' ⟨rfl,d',m,os,h1,h2,rfl⟩;rw[<-hdl]at h1 h2
  have hp:d'.toList.Perm d:=Fo h1
  have hsz:d'.size=d.toArray.size:=by rw[<-Array.length_toList,hp.length_eq];simp
  have hs:=Ln hsz h2
  have hlen:(d'.toList.map λx=>x.1.2).length=L.length:=by rw[aj,hp.length_eq,<-hd.1,aj]
  refine⟨rfl,⟨some ⟨g,0,none⟩,cap,d'.toList.map λx=>x.1.2,rfl,?_,?_,?_⟩,Yfa w g m d' os hbg hB⟩
  ·have hH':=holdsK_sortWorldK_c Le 5 w g 0 d.toArray d' m os hH hgl hsz
   unfold HoldsK at hH';rw[Ygm Sh (by decide)]at hH'
   have hvl:(d'.toList.flatMap Le).length=L.length*5:=by rw[Rj Sh,<-hlen,aj]
   refine⟨hlen,d'.toList.flatMap Le,⟨hvl,hnc,hcm,(λh=>by cases h),λ_=>⟨g,0,rfl,.inr ⟨hbg,rfl⟩,bz hgl (Cv w g m d' os),λj u hu=>?_⟩⟩,λi x hi=>?_⟩
   ·have hj:=(af.1 hu).1
    have:=(hH' j (by simpa using hj)).1
    rw[this,getElem!_pos _ j (by simpa using hj)]
    rw[aa hj]at hu;simpa using hu
   ·rw[av,Option.map_eq_some_iff]at hi
    obtain⟨z,hz,rfl⟩:=hi
    have e:((d'.toList.flatMap Le).drop (i*5)).take 5=Le z:=by
     apply az;intro c;rw[db]
     split
     ·rename_i hc
      rw[dc,U7 Sh _ i c hc z hz]
     ·rw[au (by rw[Sh];omega)]
    rw[e];exact U5 _ _ _ _ _ _ ((Yfn (enc:=Le) (k:=5) w g m d' os S).trans (Mv.to _ λ_ hb _=>.inl hb.1)) (U5 _ _ _ _ _ _ (Mv.to w (S':=λb=>S b/\b≠g) λb hb _=>by rw[hT]at hb;exact hb) z.2)
  ·rw[<-hd.1]
   exact hp.map _
  ·rw[List.pairwise_map]
   exact hs.imp λ{a b} h=>by
    intro hl
    have:ltOf (cfR (w:=w) (S:=T)) b a=true:=by unfold ltOf cfR;exact decide_eq_true hl
    rw[this]at h
    cases h
end
theorem Fh.some_(h:Fh w (some u) e w'):(∃v1 v2 v3,e=.returned (.tuple #[.agg #[.int .i64 u.1,v1,v2,v3],.bool true])/\X7 w' w.heap.size v1 v2 v3 u.2.1 u.2.2.1 u.2.2.2)/\Below w.heap.size w w':=h
theorem Fh.none_(h:Fh w none e w'):e=.returned (.tuple #[.agg #[.int .i64 0,.slice none 0 0,.slice none 0 0,.slice none 0 0],.bool false])/\Below w.heap.size w w':=h
theorem Ygr(hC:Xw W m C){t:Nat}{K:List Int}{u:PC}(h:C[t]?=some (K,u)):J7 W C K=some u:=by
 unfold J7
 have hm:=ag h
 rw[if_pos (hC.key _ hm)];exact Us hC.ris hm
def S5(Qs:List (List Pth))(C:Cub):Rws:=C.map λe=>(Z1 Qs e.1,e.2)
theorem Yq1{t:Nat}(h:C[t]?=some (K,u)):(S5 Qs C)[t]?=some (Z1 Qs K,u):=by
 unfold S5;rw[av,h];rfl
def Yll(N:List Nat)(Qs:List (List Pth))(C:Cub):Prop:=∀e∈C,e.1.length=N.length/\∀i,i<N.length->0<=e.1.getD i 0/\e.1.getD i 0<=((Qs.getD i []).length:Int)
theorem Tr:(ai.info? 73).map (λi=>(i.zero,i.size,i.bytes))=some (some (.agg #[.slice none 0 0,.int .i64 0,.slice none 0 0,.slice none 0 0,.slice none 0 0]),5,104):=by kernel_rfl
theorem B6(A0:Option Addr)(n0 c0:Nat)(p:Int)(A1:Option Addr)(n1 c1:Nat)(A2:Option Addr)(n2 c2:Nat)(A3:Option Addr)(n3 c3:Nat):∀u∈[Value.slice A0 n0 c0,.int .i64 p,.slice A1 n1 c1,.slice A2 n2 c2,.slice A3 n3 c3],u.oneCell'=true:=by
 intro u hu;simp at hu
 rcases hu with rfl|rfl|rfl|rfl|rfl <;> rfl
theorem Q6(w:World)(us:List Value)(t:TypeId)(g:Nat)(hg:g=w.heap.size):∀j u,us[j]?=some u->(w.alloc (.cells us.toArray t)).cell? ((⟨g,0,none⟩:Addr).add j)=some u:=by
 subst hg;intro j u hj;rw[Yu,cw,(Block.new w t us.toArray).cell j];simpa using hj
def Yhp(w:World)(Qs:List (List Pth))(C:Cub)(e:Ending)(w':World):Prop:=
 (∃A c L,e=.returned (.tuple #[.slice A C.length c,.int .i64 0])/\Row R7 5 w' (λb=>w.heap.size<=b) A C.length c L/\L.Perm (S5 Qs C)/\L.Pairwise λa b=>¬Xb b.1 a.1)/\Below w.heap.size w w'
theorem Yno{ds:List DAt}{vs:List CAt}(h:LtM w g X1 X2 X3 dv vv ds vs N Qs W m Cs cnt)(hN:N.length<=3)(_h7:Cs.length<=7){v:Nat}(hv:v<Cs.length)(hcod:Yll N Qs (Cs.getD v [])):
  Calls ai 19 #[.pointer (some ⟨g,0,none⟩),.int .i64 v] w (Yhp w Qs (Cs.getD v [])):=by
 obtain⟨Av,cv,evv,hvl,hat⟩:=h.Yat
 have hH:=hid (Ch (r:=true) evv h.c4 (v:Int) (hid (decide_eq_true ⟨by omega,by omega⟩)))
 obtain⟨cc,hcc⟩: ∃cc,Hid (vs[v]?=some cc):=⟨_,hid (aa (by omega))⟩
 obtain⟨bv,rfl,_,hbv,hcell⟩:=hat v cc hcc.out;subst evv;obtain⟨C,hCe⟩: ∃C,C=Cs.getD v []:=⟨_,rfl⟩
 have hCb:=h.cbs.at_ v cc hcc.out
 rw[<-hCe]at hCb hcod⊢
 have HC:=hid hCb
 have HM:=hid h
 have HK:=hid (Ye3 hCb)
 have HCod:=hid hcod
 have HN:=hid hN
 have HL:=hid hCb.len
 have g0:w.cell? ⟨bv,v,none⟩=some (.pointer (some ⟨cc.1,0,none⟩)):=hcell
 have c4:=h.c4
 have i0:(0:Int)<=(v:Int):=by omega
 have i1:(v:Int)<(Cs.length:Int):=by omega
 have KW:Hid (∀y,Below w.heap.size w y->y.cell? ⟨g,4,none⟩=some (.slice (some ⟨bv,0,none⟩) Cs.length cv)/\y.cell? ⟨bv,v,none⟩=some (.pointer (some ⟨cc.1,0,none⟩))):=hid λy hy=>⟨(HM.out.below hy).c4,(hy.cell (p:=⟨bv,v,none⟩) hbv).trans hcell⟩
 clear h hCb hat hcod hN hcell hCe;go_enter Tryz.func19,Tryz.ntmps19;go_wp2_with fail;refine hH.out.mono ?_;rintro e w1 ⟨rfl,rfl⟩;go_wp2_with fail;refine HK.out.mono ?_;rintro e w1 ⟨vk,rfl,hO1,hB1⟩;obtain⟨AK,cK,rfl,hRK⟩:=hO1.read Xp;obtain⟨n,hn⟩: ∃n,Hid (C.length=n):=⟨_,hid rfl⟩;rw[aj,hn.out]at hRK;rw[aj];rw[hn.out]
 have HRK:Hid (Row U3 1 w1 (λk=>w.heap.size<=k/\k<w1.heap.size) AK n cK (C.map (·.1))):=hid ((hRK.mv Xp (Mv.to w1 λk hk hl=>⟨by
  rcases hk with hk|hk
  ·exact hk
  ·exact hk.1,hl⟩)).map λus x h=>U0 h)
 have HB1:=hid hB1
 have hnm:n<=68921:=by have:=HL.out;rw[hn.out]at this;exact this
 clear hO1 hRK HK hB1;go_wp2_with fail;go_loopw [6,24] (λrv i wr=>∃k:Nat,k<=n/\i=.int .i64 k/\Hid (Yx R7 73 5 wr w1.heap.size (λb=>w1.heap.size<=b) rv ((S5 Qs C).take k))/\Below w1.heap.size w1 wr) (λ_ i _=>n-(intOf i).toNat)
 case atStart=>exact⟨0,ar _,rfl,hid (Yx.Zj _ _ _),Below.refl _ _⟩
 case round=>
  obtain⟨k,hk,rfl,hO,hB⟩:=hrel
  have hBw:=HB1.out.trans (hB.mono HB1.out.size)
  by_cases hlt:k<n
  ·obtain⟨b,o,A',n',c',K,rfl,_,_,gk,hl,he⟩:=(HRK.out.mv Wj (Mv.below hB λb hb=>hb.2)).at1 hlt
   have i2:(0:Int)<=(k:Int):=by omega
   have i3:(k:Int)<(n:Int):=by omega
   obtain⟨u,hu⟩: ∃u,Hid (C[k]?=some (K,u)):=by
    have h1:=he.out
    rw[av,Option.map_eq_some_iff]at h1;obtain⟨⟨K',u⟩,h2,rfl⟩:=h1;exact⟨u,hid h2⟩
   obtain⟨q,Su,M,X⟩:=u
   have hT:=hid (Z8 (Yq1 (Qs:=Qs) hu.out))
   have hg:=Oj (HC.out.Yc hBw) hl.Uy
   rw[Ygr HC.out.ok hu.out]at hg
   have HG:=hid hg
   obtain⟨c4',g0'⟩:=KW.out wr hBw
   have HKey:=hid hl
   have hcd:=HCod.out _ (ag hu.out)
   have HCd:=hid hcd
   clear hg hl hcd;go_wp2_with fail;refine HG.out.mono ?_;intro e w5 hte;obtain⟨⟨v1,v2,v3,rfl,hOC⟩,hB5⟩:=hte.some_;obtain⟨A1,n1,c1,rfl,_,_⟩:=hOC.s.Yr;obtain⟨A2,n2,c2,rfl,_,_⟩:=hOC.m.Yr;obtain⟨A3,n3,c3,rfl,_,_⟩:=hOC.x.Yr
   have hz:=hB.size
   have hzw:=hBw.size
   have hlo:=hO.out.lt
   have hb6:=Yb w5 (.cells #[.int .i64 q,.slice A1 n1 c1,.slice A2 n2 c2,.slice A3 n3 c3] 71)
   have hbk:=Block.new w5 71 #[.int .i64 q,.slice A1 n1 c1,.slice A2 n2 c2,.slice A3 n3 c3]
   have hCel:M2 w5 (λb=>w1.heap.size<=b/\u6.ownBlock≠some b) [.int .i64 q,.slice A1 n1 c1,.slice A2 n2 c2,.slice A3 n3 c3] (q,Su,M,X):=hOC.el λj h1 h2=>⟨by omega,λe=>by have:=(hlo j e).2;omega⟩
   have HCel:=hid (Ls _ _ _ _ _ _ (Mv.Yc hb6 _) hCel)
   have HO6:=hid ((hO.out.below U5 hB5).below U5 hb6)
   have hB6:=hB5.trans (hb6.mono hB5.size)
   have HB6:=hid (hB.trans (hB6.mono hB.size))
   have HKey6:=hid (HKey.out.mv Yh (Mv.Yc hB6 _))
   have HBw6:=hid (hBw.trans (hB6.mono hzw))
   clear hOC hCel hB5 hte hO HG;go_wp2_with fail;generalize w5.alloc (.cells #[.int .i64 q,.slice A1 n1 c1,.slice A2 n2 c2,.slice A3 n3 c3] 71)=Y at hb6 hbk HCel HO6 hB6 HB6 HKey6 HBw6⊢
   have KY:Hid (∀y,Below Y.heap.size Y y->Block y w5.heap.size 71 #[.int .i64 q,.slice A1 n1 c1,.slice A2 n2 c2,.slice A3 n3 c3]):=hid λy hy=>hbk.below hy hbk.lt
   have q0:Y.cell? ⟨w5.heap.size,0,none⟩=some (.int .i64 q):=hbk.cell 0
   have q1:Y.cell? ⟨w5.heap.size,1,none⟩=some (.slice A1 n1 c1):=hbk.cell 1
   have q2:Y.cell? ⟨w5.heap.size,2,none⟩=some (.slice A2 n2 c2):=hbk.cell 2
   have q3:Y.cell? ⟨w5.heap.size,3,none⟩=some (.slice A3 n3 c3):=hbk.cell 3
   have HP:=hid (Yi1 ((HM.out.below HBw6.out).drewN 1) HN.out (HKey6.out.Uy.drewN 1) HCd.out.1 HCd.out.2)
   have hlb:Hid (((S5 Qs C).take k).length<=1000000):=hid (aw (br k _) (by omega))
   have hloY:∀j,u6.ownBlock=some j->j<Y.heap.size:=λj e=>by have h1:=(hlo j e).2;have h2:=hB6.size;omega
   have hzY:w1.heap.size<=Y.heap.size:=HB6.out.size
   clear hbk hb6 hB6;go_region_law (first
    |(refine Hr U5 rfl _ _ rfl Tr Tryz.underlying43 rfl (by decide) w1.heap.size _ _ _ rfl HO7.out _ rfl [.slice Ap np cp,.int .i64 q,.slice A1 n1 c1,.slice A2 n2 c2,.slice A3 n3 c3] rfl (Z1 Qs K,q,Su,M,X) HC7.out (B6 _ _ _ _ _ _ _ _ _ _ _ _ _) HE7.out hlb.out HS7.out ?_;intro v' w8 hO8 hG8)
    |(go_simp;go_at_call 57;refine HP.out.mono ?_;rintro e w6 ⟨vp,rfl,hvp,hb6⟩;have hb6':Below Y.heap.size Y w6:=(below_drewN (Below.refl _ Y) 1).trans hb6;have hk6:=KY.out _ hb6';have r0:w6.cell? ⟨w5.heap.size,0,none⟩=some (.int .i64 q):=hk6.cell 0;have r1:w6.cell? ⟨w5.heap.size,1,none⟩=some (.slice A1 n1 c1):=hk6.cell 1;have r2:w6.cell? ⟨w5.heap.size,2,none⟩=some (.slice A2 n2 c2):=hk6.cell 2;have r3:w6.cell? ⟨w5.heap.size,3,none⟩=some (.slice A3 n3 c3):=hk6.cell 3;have hEk:=Yx.el Sz hvp hloY hzY;obtain⟨Ap,np,cp,ep⟩:=Ybs hEk;injection ep with ep _;subst ep;have hb7:=hb6'.trans ((Yb w6 (.cells #[.slice Ap np cp,.int .i64 q,.slice A1 n1 c1,.slice A2 n2 c2,.slice A3 n3 c3] 73)).mono hb6'.size);have HB7:=hid hb7;have HO7:=hid (HO6.out.below U5 hb7);have HC7:=hid (Q6 w6 [.slice Ap np cp,.int .i64 q,.slice A1 n1 c1,.slice A2 n2 c2,.slice A3 n3 c3] 73 w6.heap.size rfl);have HE7:Hid (R7 (w6.alloc (.cells #[.slice Ap np cp,.int .i64 q,.slice A1 n1 c1,.slice A2 n2 c2,.slice A3 n3 c3] 73)) (λb=>w1.heap.size<=b/\u6.ownBlock≠some b) [.slice Ap np cp,.int .i64 q,.slice A1 n1 c1,.slice A2 n2 c2,.slice A3 n3 c3] (Z1 Qs K,q,Su,M,X)):=hid ⟨Yb1 _ _ _ _ _ _ (Mv.alloc w6 _ _) hEk,Ls _ _ _ _ _ _ (Mv.Yc hb7 _) HCel.out⟩;have HS7:Hid (w1.heap.size<=(w6.alloc (.cells #[.slice Ap np cp,.int .i64 q,.slice A1 n1 c1,.slice A2 n2 c2,.slice A3 n3 c3] 73)).heap.size):=hid (aw hzY hb7.size);clear hvp hb6 hb6' hk6 hEk hb7))
   all_goals
    have hF:=hid (show Yx R7 73 5 w8 w1.heap.size (λb=>w1.heap.size<=b) v' ((S5 Qs C).take (k+1))/\Below w1.heap.size w1 w8 from⟨by rw[hT.out];exact hO8,(HB6.out.trans (HB7.out.mono hzY)).trans (hG8.Yw HS7.out λj e=>(hlo j e).1)⟩)
    clear hO8 hG8 HE7 HS7 HC7 HO7 HB7 r0 r1 r2 r3 q0 q1 q2 q3;go_wp2_with fail;go_roundw
    case rel=>exact⟨k+1,by omega,by go_num,hid hF.out.1,hF.out.2⟩
    case measure=>simp[intOf];omega
  ·obtain rfl:k=n:=by omega
   have hlR:(S5 Qs C).length=k:=by unfold S5;rw[aj,hn.out]
   have hO':=hO.out
   rw[ay (by omega)]at hO'
   have HS:=hid (Yeg hO' (by omega) hB.size)
   clear hO hO';go_wp2_with fail;refine HS.out.mono ?_;intro e w9 hts;obtain⟨rfl,⟨A9,c9,L9,e9,hRw,hp,hs⟩,hB9⟩:=hts;rw[hlR]at e9 hRw;subst e9
   have hz1:=HB1.out.size
   have hF:=hid (show Yhp w Qs C (.returned (.tuple #[.slice A9 k c9,.int .i64 0])) w9 from⟨⟨A9,c9,L9,by rw[hn.out],by rw[hn.out];exact hRw.mv U5 (Mv.to w9 λb hb _=>by
    rcases hb with hb|hb
    ·exact aw hz1 hb
    ·exact aw hz1 hb.1),hp,hs⟩,hBw.trans (hB9.mono (aw hz1 (aq _)))⟩)
   clear hRw hp hs hB9;go_wp2_with fail;go_ret2;exact hF.out
section
def gc7(view:Int)(p:Value×Value):List Value:=[.int .i64 view,p.1,p.2,.int .i64 0,.slice none 0 0,.slice none 0 0,.slice none 0 0]
theorem Qm(view:Int)(p:Value×Value):(gc7 view p).length=7:=rfl
theorem Ys6(view:Int){p:Value×Value}(h1:p.1.oneCell'=true)(h2:p.2.oneCell'=true):∀u∈gc7 view p,u.oneCell'=true:=by
 intro u hu;simp[gc7]at hu
 rcases hu with rfl|rfl|rfl|rfl|rfl
 ·rfl
 ·exact h1
 ·exact h2
 ·rfl
 ·rfl
def Vv(w:World)(B:Nat)(view:Int)(v:Value)(L:List (List Int×List PC)):Prop:=
 ∃ps:List (Value×Value),ps.length=L.length/\w.ownsRow B 109 7 v L.length (ps.flatMap (gc7 view))∧
  (∀(i:Nat) (p:Value×Value) (x:List Int×List PC),ps[i]?=some p->L[i]?=some x->Yi w B p.1 x.1/\R5 w B p.2 x.2)∧
  ∀(i j:Nat) (p q:Value×Value),i≠j->ps[i]?=some p->ps[j]?=some q->∀k,p.2.ownBlock=some k->q.2.ownBlock≠some k
section
variable {w w' : World}{B:Nat}{view:Int}{v:Value}{L:List (List Int × List PC)}
theorem Vv.Zj(w:World)(B:Nat)(view:Int):Vv w B view (.slice none 0 0) []:=⟨[],rfl,bs _ _ _ _,λi p x h=>by simp at h,λi j p q _ h=>by simp at h⟩
theorem Vv.below(h:Vv w B view v L)(hb:Below w.heap.size w w'):Vv w' B view v L:=by
 obtain⟨ps,h0,h1,h2,h3⟩:=h;exact⟨ps,h0,Xi h1 hb,λi p x hp hx=>⟨Xi (h2 i p x hp hx).1 hb,(h2 i p x hp hx).2.kept (P:=λ_=>False) (Kept.Y1 hb _) (λ_ _ h=>h) (λ_ _ h=>h)⟩,h3⟩
theorem Vv.lt(h:Vv w B view v L):∀k,v.ownBlock=some k->B<=k/\k<w.heap.size:=by
 obtain⟨ps,h0,h1,h2,h3⟩:=h;exact ax h1
theorem Vv.low{B':Nat}(h:Vv w B view v L)(hb:B'<=B):Vv w B' view v L:=by
 obtain⟨ps,h0,h1,h2,h3⟩:=h;exact⟨ps,h0,Vu h1 hb,λi p x hp hx=>⟨(h2 i p x hp hx).1.low hb,(h2 i p x hp hx).2.low hb⟩,h3⟩
theorem R5.shape{w:World}{B:Nat}{v:Value}{M:List PC}(h:R5 w B v M):∃A c,v=.slice A M.length c:=Yx.shape h
theorem Vv.shape(h:Vv w B view v L):∃A c,v=.slice A L.length c:=by
 obtain⟨ps,h0,h1,h2,h3⟩:=h;exact Rc h1
theorem Vv.at_(h:Vv w B view v L){i:Nat}{K:List Int}{M:List PC}(hi:L[i]?=some (K,M)):∃g c A1 n1 c1 A2 n2 c2,v=.slice (some ⟨g,0,none⟩) L.length c/\g<w.heap.size/\w.cell? ⟨g,i*7,none⟩=some (.int .i64 view)/\w.cell? ⟨g,i*7+1,none⟩=some (.slice A1 n1 c1)/\w.cell? ⟨g,i*7+2,none⟩=some (.slice A2 n2 c2)/\w.cell? ⟨g,i*7+3,none⟩=some (.int .i64 0)/\w.cell? ⟨g,i*7+4,none⟩=some (.slice none 0 0)/\w.cell? ⟨g,i*7+5,none⟩=some (.slice none 0 0)/\w.cell? ⟨g,i*7+6,none⟩=some (.slice none 0 0)/\(∀j,w.frozen? ⟨g,j,none⟩=false)/\Yi w B (.slice A1 n1 c1) K/\R5 w B (.slice A2 n2 c2) M:=by
 obtain⟨ps,h0,h1,h2,h3⟩:=h
 have hil:=(af.1 hi).1
 obtain⟨p,hp⟩: ∃p,ps[i]?=some p:=⟨_,aa (by omega)⟩
 obtain⟨q1,q2⟩:=h2 i p _ hp hi;obtain⟨A1,n1,c1,e1,_⟩:=q1.Yr;obtain⟨A2,c2,e2⟩:=q2.shape;obtain⟨p1,p2⟩:=p
 dsimp only at e1 e2 q1 q2
 subst e1 e2
 rcases h1.2 with⟨rfl,e0⟩|⟨g,cap,cur,rfl,hb,hg,_⟩
 ·omega
 ·have hc:=λc (hc:c<7)=>(h1.cellAt (g:=g) (i*7+c) (by omega)).trans (U7 (Qm view) ps i c hc _ hp)
  exact⟨g,cap,A1,n1,c1,A2,_,c2,rfl,(Array.getElem?_eq_some_iff.1 hg).1,hc 0 (by decide),hc 1 (by decide),hc 2 (by decide),hc 3 (by decide),hc 4 (by decide),hc 5 (by decide),hc 6 (by decide),λj=>h1.frozenAt j,q1,q2⟩
theorem Vv.push{w8:World}{kv v':Value}{K:List Int}{ps:List (Value×Value)}(h0:ps.length=L.length)(h1:w.ownsRow B 109 7 v L.length (ps.flatMap (gc7 view)))
  (h2:∀(i:Nat) (p:Value×Value) (x:List Int×List PC),ps[i]?=some p->L[i]?=some x->Yi w B p.1 x.1/\R5 w B p.2 x.2) (h3:∀(i j:Nat) (p q:Value×Value),i≠j->ps[i]?=some p->ps[j]?=some q->∀k,p.2.ownBlock=some k->q.2.ownBlock≠some k)
  (hk:Yi w B kv K) (hO:w8.ownsRow B 109 7 v' (L.length+1) (ps.flatMap (gc7 view)++gc7 view (kv,.slice none 0 0))) (hG:Zl w v w8 v'):Vv w8 B view v' (L++[(K,[])]):=by
 have kI:∀{u:Value}{l:List Int},Yi w B u l->Yi w8 B u l:=λ{u l} hu=>bn hu hG.1 (V3 hu h1 (by decide))
 have kX:∀{u:Value}{l:List PC},R5 w B u l->R5 w8 B u l:=λ{u l} hu=>hu.kept (Kept.W5 hG.1) (λk hk e=>by
  obtain⟨cs,hc⟩:=hk;exact Y8 h1 hc (by decide) e) (λk hk e=>by
  obtain⟨xs,hx,_⟩:=hu
  rcases V3 hx h1 (by decide)with h4|h4
  ·rw[hk]at h4;cases h4
  ·exact h4 (hk.trans e.symm))
 refine⟨ps++[(kv,.slice none 0 0)],by simp[h0],by simpa using hO,λi p x hp hx=>?_,λi j p q hij hp hq k hk hk'=>?_⟩
 ·rcases Xy hp with⟨a1,a2⟩|⟨a1,rfl⟩
  ·rcases Xy hx with⟨b1,b2⟩|⟨b1,_⟩
   ·exact⟨kI (h2 i p x a2 b2).1,kX (h2 i p x a2 b2).2⟩
   ·omega
  ·rcases Xy hx with⟨b1,_⟩|⟨_,rfl⟩
   ·omega
   ·exact⟨kI hk,Yx.Zj _ _ _⟩
 ·rcases Xy hp with⟨a1,a2⟩|⟨_,rfl⟩
  ·rcases Xy hq with⟨b1,b2⟩|⟨_,rfl⟩
   ·exact h3 i j p q hij a2 b2 k hk hk'
   ·cases hk'
  ·cases hk
theorem Yg9:(ai.info? 109).map (λi=>(i.zero,i.size,i.bytes))=some (some (.agg #[.int .i64 0,.slice none 0 0,.slice none 0 0,.int .i64 0,.slice none 0 0,.slice none 0 0,.slice none 0 0]),7,136):=by kernel_rfl
theorem Yf3{ops:Array Oper}{rest:List Oper}{o:Oper}{a:Act}{Q:Exit->Act->World->Prop}(hgd:o.guard=none)(s x:Operand)
  (ho:o.op=.call {callee:=.builtin .append,args:=#[s,x],argTypes:=#[104,104]}) (hs:a.eval s=v) (h:Vv w B view v L) (g:Nat) (hx:a.eval x=.slice (some ⟨g,0,none⟩) 1 1) (A:Option Addr) (n c:Nat) (K:List Int)
  (hy:∀j u,(gc7 view (.slice A n c,.slice none 0 0))[j]?=some u->w.cell? ((⟨g,0,none⟩:Addr).add j)=some u) (hk:Yi w B (.slice A n c) K) (hl:L.length<=1000000) (hbase:B<=w.heap.size)
  (hq:∀v' w',Vv w' B view v' (L++[(K,[])])->Zl w v w' v'→wpList ai ops Q rest (a.put o.dst v') w'):wpList ai ops Q (o::rest) a w:=by
 obtain⟨i,hi,hz0,hz1,hz2⟩:=info_parts Yg9;obtain⟨ps,h0,h1,h2,h3⟩:=h;refine wpList_append_own_at w hgd s x 104 ho B 109 i _ 7 136 Tryz.underlying104 hi hz0 hz1 hz2 rfl (by decide) v L.length _ hs h1 ⟨g,0,none⟩ 1 1 (gc7 view (.slice A n c,.slice none 0 0)) hx rfl hy (Ys6 view rfl rfl) (by unfold maxLen;omega) (by omega) hbase ?_
 intro v' w' e1 e2 _ e4
 have hG:Zl w v w' v':=⟨e2,λk hk=>by
  rcases e4 with e4|e4
  ·exact .inl (e4▸hk)
  ·rw[e4]at hk
   injection hk with hk
   exact .inr (Nat.le_of_eq hk)⟩
 exact hq v' w' (Vv.push h0 h1 h2 h3 hk e1 hG) hG
theorem Vv.more{w8:World}{g c i:Nat}{K:List Int}{M:List PC}{x:PC}{m m':Value}(h:Vv w B view (.slice (some ⟨g,0,none⟩) L.length c) L)(hi:L[i]?=some (K,M))(hm:w.cell? ⟨g,i*7+2,none⟩=some m)(hO:R5 w8 B m' (M++[x]))(hG:Zl w m w8 m'):w8.cell? ⟨g,i*7+2,none⟩=some m/\w8.frozen? ⟨g,i*7+2,none⟩=false/\Vv (w8.setCell ⟨g,i*7+2,none⟩ m') B view (.slice (some ⟨g,0,none⟩) L.length c) (L.set i (K,M++[x])):=by
 obtain⟨ps,h0,h1,h2,h3⟩:=h
 have hil:=(af.1 hi).1
 obtain⟨p,hp⟩: ∃p,ps[i]?=some p:=⟨_,aa (by omega)⟩
 obtain⟨q1,q2⟩:=h2 i p _ hp hi
 have hpm:p.2=m:=by
  have h4:=(h1.cellAt (g:=g) (i*7+2) (by omega)).trans (U7 (Qm view) ps i 2 (by decide) _ hp)
  rw[hm]at h4;exact(ak h4).symm
 have hmr:∃xs,w.ownsRow B 71 4 m M.length xs:=by
  obtain⟨xs,hx,_⟩:=q2;rw[hpm]at hx;exact⟨xs,hx⟩
 obtain⟨mx,hmr⟩:=hmr
 have h8:w8.ownsRow B 109 7 (.slice (some ⟨g,0,none⟩) L.length c) L.length (ps.flatMap (gc7 view)):=bn h1 hG.1 (V3 h1 hmr (by decide))
 have kI:∀{u:Value}{l:List Int},Yi w B u l->Yi w8 B u l:=λ{u l} hu=>bn hu hG.1 (V3 hu hmr (by decide))
 have kX:∀{j:Nat}{q:Value×Value}{y:List Int×List PC},j≠i->ps[j]?=some q->L[j]?=some y->R5 w8 B q.2 y.2:=λ{j q y} hj hq hy=>(h2 j q y hq hy).2.kept (Kept.W5 hG.1) (λk hk e=>by
  obtain⟨cs,hc⟩:=hk;exact Y8 hmr hc (by decide) e) (λk hk e=>h3 j i q p hj hq hp k hk (by rw[hpm];exact e))
 have hs:Chg (λk=>k=g) w8 (w8.setCell ⟨g,i*7+2,none⟩ m'):=(Chg.refl _ w8).Ys g _ m' λ_=>rfl
 have hK:Kept w8 (w8.setCell ⟨g,i*7+2,none⟩ m') (λk=>k=g):=⟨hs.os,hs.tape,hs.output,hs.size,hs.block⟩
 have sI:∀{u:Value}{l:List Int},Yi w8 B u l->Yi (w8.setCell ⟨g,i*7+2,none⟩ m') B u l:=λ{u l} hu=>hs.row hu λk hk e=>by
  rcases V3 hu h8 (by decide)with h4|h4
  ·rw[hk]at h4;cases h4
  ·exact h4 (by rw[hk,e];rfl)
 have sX:∀{u:Value}{l:List PC},R5 w8 B u l->R5 (w8.setCell ⟨g,i*7+2,none⟩ m') B u l:=λ{u l} hu=>hu.kept hK (λk hk e=>by
  obtain⟨cs,hc⟩:=hk;exact Y8 h8 hc (by decide) (by rw[e];rfl)) (λk hk e=>by
  obtain⟨xs,hx,_⟩:=hu
  rcases V3 hx h8 (by decide)with h4|h4
  ·rw[hk]at h4;cases h4
  ·exact h4 (by rw[hk,e];rfl))
 have hst:=(ch h8 (i*7+2) m').1
 have hfl:(ps.flatMap (gc7 view)).set (i*7+2) m'=(ps.set i (p.1,m')).flatMap (gc7 view):=by
  refine az λt=>?_
  have hl1:(ps.flatMap (gc7 view)).length=ps.length*7:=Rj (Qm view) ps
  have hl2:((ps.set i (p.1,m')).flatMap (gc7 view)).length=ps.length*7:=by rw[Rj (Qm view),bj]
  by_cases ht:t<ps.length*7
  ·have e1:t/7*7+t%7=t:=by omega
   have h5:t%7<7:=by omega
   have h6:t/7<ps.length:=by omega
   rw[ao]
   by_cases hti:t/7=i
   ·have h7:=U7 (Qm view) (ps.set i (p.1,m')) (t/7) (t%7) h5 (p.1,m') (by rw[hti,ao,if_pos rfl,if_pos (by omega)])
    have h8':=U7 (Qm view) ps (t/7) (t%7) h5 p (by rw[hti];exact hp)
    rw[e1]at h7 h8';rw[h7]
    by_cases h9:i*7+2=t
    ·rw[if_pos h9,if_pos (by omega),show t%7=2 by omega]
     rfl
    ·rw[if_neg h9,h8']
     have h10:t%7≠2:=by omega
     match hh:t%7,h5,h10 with
     |0,_,_=>rfl
     |1,_,_=>rfl
     |3,_,_=>rfl
     |4,_,_=>rfl
     |5,_,_=>rfl
     |6,_,_=>rfl
   ·obtain⟨q,hq⟩: ∃q,ps[t/7]?=some q:=⟨_,aa h6⟩
    have h7:=U7 (Qm view) (ps.set i (p.1,m')) (t/7) (t%7) h5 q (by rw[ao,if_neg (λe=>hti e.symm)];exact hq)
    have h8':=U7 (Qm view) ps (t/7) (t%7) h5 q hq
    rw[e1]at h7 h8';rw[h7,h8',if_neg (by omega)]
  ·rw[au (by rw[bj];omega),au (by omega)]
 rw[hfl]at hst;refine⟨(bp (hG.1.block g ?_ ?_)).trans hm,h8.frozenAt _,ps.set i (p.1,m'),by simp[h0],by rw[bj];exact hst,λj q y hq hy=>?_,λa b q r hab hq hr k hk hk'=>?_⟩
 ·exact(ax h1 g rfl).2
 ·intro e
  rcases V3 h1 hmr (by decide)with h4|h4
  ·cases h4
  ·exact h4 e
 ·rw[ao]at hq hy
  by_cases hij:i=j
  ·subst hij
   rw[if_pos rfl,if_pos (by omega)]at hq
   rw[if_pos rfl,if_pos hil]at hy;rw[<-ak hq,<-ak hy];exact⟨sI (kI q1),sX hO⟩
  ·rw[if_neg hij]at hq hy
   exact⟨sI (kI (h2 j q y hq hy).1),sX (kX (λe=>hij e.symm) hq hy)⟩
 ·rw[ao]at hq hr
  have hnew:∀{a:Nat}{q:Value×Value},a≠i->ps[a]?=some q->∀k,q.2.ownBlock=some k->m'.ownBlock≠some k:=λ{a q} ha hq k hk hk'=>by
   rcases hG.2 k hk' with h4|h4
   ·exact h3 a i q p ha hq hp k hk (by rw[hpm];exact h4)
   ·have hal:=(af.1 hq).1
    obtain⟨xs,hx,_⟩:=(h2 a q (L[a]'(by omega)) hq (aa (by omega))).2
    have:=(ax hx k hk).2
    omega
  by_cases h4:i=a
  ·subst h4
   rw[if_pos rfl,if_pos (by omega)]at hq
   rw[if_neg hab]at hr;rw[<-ak hq]at hk;exact hnew (λe=>hab e.symm) hr k hk' hk
  ·rw[if_neg h4]at hq
   by_cases h5:i=b
   ·subst h5
    rw[if_pos rfl,if_pos (by omega)]at hr
    rw[<-ak hr]at hk';exact hnew (λe=>h4 e.symm) hq k hk hk'
   ·rw[if_neg h5]at hr
    exact h3 a b q r hab hq hr k hk hk'
end
/-! ### the one under a key -/
theorem Sb(w:World)(a b c d e f h:Value):Block (w.alloc (.cells #[a,b,c,d,e,f,h] 109)) w.heap.size 109 #[a,b,c,d,e,f,h]:=Block.new w _ _
theorem Ykc{W:World}{Ak:Option Addr}{nk ck kb:Nat}{J:List Int}(hK:Y2 W W.heap.size A1 n1 c1 K)(hkb:W.cell? ⟨kb,0,none⟩=some (.slice Ak nk ck))(hl:kb<W.heap.size)(hJ:Y2 W W.heap.size Ak nk ck J){r:Bool}(hr:Hid (decide (K=J)=r)):
  Calls ai 167 #[.agg #[.int .i64 view,.slice A1 n1 c1,.slice A2 n2 c2,.int .i64 0,.slice none 0 0,.slice none 0 0,.slice none 0 0],.pointer (some ⟨kb,0,none⟩)] W λe w'=>e=.returned (.bool r)/\Below W.heap.size W w':=by
 have hb:=Yb W (.cells #[.int .i64 view,.slice A1 n1 c1,.slice A2 n2 c2,.int .i64 0,.slice none 0 0,.slice none 0 0,.slice none 0 0] 109)
 have k0:=(Sb W (.int .i64 view) (.slice A1 n1 c1) (.slice A2 n2 c2) (.int .i64 0) (.slice none 0 0) (.slice none 0 0) (.slice none 0 0)).cell 1
 have k1:=(hb.cell (p:=⟨kb,0,none⟩) hl).trans hkb
 have hX:=Bw (hK.below hb (aq _)) (hJ.below hb (aq _))
 rw[hr.out]at hX
 have HX:=hid hX
 clear hK hJ hX hkb;go_enter Tryz.func167,Tryz.ntmps167;go_wp2_with fail;generalize W.alloc (.cells #[.int .i64 view,.slice A1 n1 c1,.slice A2 n2 c2,.int .i64 0,.slice none 0 0,.slice none 0 0,.slice none 0 0] 109)=W0 at hb k0 k1 HX⊢;go_wp2_with fail;refine HX.out.mono ?_;rintro e w1 ⟨rfl,q,rfl⟩;go_wp2_with fail;go_ret;exact⟨rfl,below_drewN hb q⟩
def AtK(L:List (List Int×List PC))(J:List Int)(r:Int):Prop:=(∃(i:Nat) (M:List PC),r=(i:Int)/\L[i]?=some (J,M))∨(r=-1/\J∉L.map (·.1))
theorem Yj1{L:List (List Int×List PC)}(h:Vv w B view v L){Ak:Option Addr}{nk ck kb:Nat}{J:List Int}(hkb:w.cell? ⟨kb,0,none⟩=some (.slice Ak nk ck))(hlb:kb<w.heap.size)(hJ:Y2 w w.heap.size Ak nk ck J)(hn:L.length<=1000):
  Calls ai 166 #[v,.func (.func 167) #[] #[.pointer (some ⟨kb,0,none⟩)]] w λe w'=>(∃r,e=.returned (.int .i64 r)/\AtK L J r)/\Below w.heap.size w w':=by
 have HG:=hid h
 obtain⟨A,c,rfl⟩:=h.shape
 have HJ:=hid hJ
 have Hkb:=hid hkb
 have hnm:L.length<=9223372036854775807:=by omega
 clear h hJ hkb;go_enter Tryz.func166,Tryz.ntmps166;go_wp2_with fail;go_loopw [8] (λi wr=>∃k:Nat,k<=L.length/\i=.int .i64 k/\Hid (∀(j:Nat) (x:List Int×List PC),j<k->L[j]?=some x->x.1≠J)/\Below w.heap.size w wr) (λi _=>L.length-(intOf i).toNat)
 case atStart=>exact⟨0,ar _,rfl,hid λj x hj=>absurd hj (by omega),Below.refl _ _⟩
 case round=>
  obtain⟨k,hk,rfl,hno,hB⟩:=hrel
  by_cases hlt:k<L.length
  ·have i0:(0:Int)<=(k:Int):=by omega
   have i1:(k:Int)<(L.length:Int):=by omega
   obtain⟨K,M,hKM⟩: ∃K M,Hid (L[k]?=some (K,M)):=⟨_,_,hid (aa hlt)⟩;obtain⟨g,c',A1,n1,c1,A2,n2,c2,ev,_,e0,e1,e2,e3,e4,e5,e6,_,hI,hX⟩:=(HG.out.below hB).at_ hKM.out;injection ev with ev1 _ ev3
   subst ev1 ev3;obtain⟨A1',n1',c1',ek,hHI,_⟩:=hI.Yr;injection ek with ek1 ek2 ek3
   subst ek1 ek2 ek3
   have hJ':=HJ.out.below hB (aq _)
   obtain⟨r,hr⟩: ∃r,Hid (decide (K=J)=r):=⟨_,hid rfl⟩
   have HC:=hid (Ykc (view:=view) (A2:=A2) (n2:=n2) (c2:=c2) hHI ((hB.cell (p:=⟨kb,0,none⟩) hlb).trans Hkb.out) (bz hlb hB.size) (hJ'.more hB.size) hr)
   clear hI hX hHI hJ'
   by_cases hr1:r=true
   ·subst hr1
    have hKJ:Hid (K=J):=hid (of_decide_eq_true hr.out)
    go_wp2_with fail;refine HC.out.mono ?_;rintro e w1 ⟨rfl,hb1⟩;go_wp2_with fail;go_ret;exact⟨⟨_,rfl,.inl ⟨k,M,rfl,by rw[<-hKJ.out];exact hKM.out⟩⟩,hB.trans (hb1.mono hB.size)⟩
   ·have hr2:r=false:=by simpa using hr1
    subst hr2
    have hKJ:Hid (K≠J):=hid (of_decide_eq_false hr.out)
    clear hr1;go_wp2_with fail;refine HC.out.mono ?_;rintro e w1 ⟨rfl,hb1⟩;go_wp2_with fail;go_roundw
    case rel=>exact⟨k+1,by omega,by go_num,hid λj x hj hx=>by
     by_cases hjk:j<k
     ·exact hno.out j x hjk hx
     ·obtain rfl:j=k:=by omega
      rw[hKM.out]at hx;rw[<-ak hx];exact hKJ.out,hB.trans (hb1.mono hB.size)⟩
    case measure=>simp[intOf];omega
  ·have hF:=hid (show AtK L J (-1)from .inr ⟨rfl,λhm=>by
    obtain⟨x,hx,e⟩:=List.mem_map.1 hm;obtain⟨j,hj⟩:=bg hx;exact hno.out j x (by have:=(af.1 hj).1;omega) hj e⟩)
   go_wp2_with fail;go_ret;exact⟨⟨_,rfl,hF.out⟩,hB⟩
end
end Go.Proofs.YtmepdkdeanbbaaaGreat
