/- LtS, LtW, LtX, LtY, LuA, LuG, LuH, LuI, LuN, LuO, LuP, LuQ, LuS, LuR, LuT, LuV, LuW, LuX, LuY, LvB -/
import Derived.Test.YtmepdkdeanbbaaaGreatJ25
import Derived.Test.YtmepdkdeanbbaaaGreatJ37
import Derived.Test.YtmepdkdeanbbaaaGreatJ42
import Derived.Test.YtmepdkdeanbbaaaGreatJ48
namespace Go.Proofs.YtmepdkdeanbbaaaGreat
set_option maxRecDepth 100000
set_option maxHeartbeats 8000000
open Go.RowKit
open List renaming getElem?_eq_getElem→aa,mem_of_getElem?→af,length_map→ai,getD_eq_getElem?_getD→aj,getElem?_eq_some_iff→ak,getElem?_of_mem→ao,take_of_length_le→ar,length_append→av,mem_map→ax,replicate→az,getElem?_map→bp,length_take→br,map_append→bs,getElem?_eq_none→bz,pairwise_cons→cj,map_toArray→dc,eq_nil_of_length_eq_zero→dd,mem_append→dg,map_cons→dh,getElem?_cons_zero→di,map_nil→dj,map_map→dm,mem_singleton→dn,getElem?_take→dp,getElem?_drop→dq,pairwise_map→dz,getElem?_set→ee,nil_append→ei,mem_filter→ez,length_set→fb
open Proofs.Tryz renaming prog→ae,underlying26→bo,underlying75→cw,underlying40→cz,underlying23→da,underlying9→db,underlying86→du,underlying69→dw,underlying24→dx,underlying22→dy,ntmps49→ff,ntmps39→fg,ntmps37→fh,ntmps12→fi,func49→fk,func39→fl,func37→fm,func12→fo
open Nat renaming le_refl→ag,zero_le→aq,le_trans→aw,lt_of_lt_of_le→ay,le_of_eq→bj,mul_le_mul→fc,zero_add→fp,add_zero→fq,le_succ→ft
open Option.some renaming injEq→an,inj→bg
open Obj.cells renaming injEq→au
open World.ownsRow renaming lt→bn,cells→df,alloc→fj
open Result renaming andThen_ok→ch
open World renaming ownsRow_nil→cn,size_alloc→dt
open Go.Lib (hid)
variable {w w' w1 y:World}{D:List Yk}{V:List (List Int)}{Qs Rs:List (List Pth)}{M:List Txt}{G G2:List Fct}{B base cf cv g m n n1 n2 n3 nf nv r rB rE rL:Nat}{rs:List (Nat × Value)}{N gs:List Nat}{F R S:Nat->Prop}{E:List Hld}{A1 A2 A3 Af Av:Option Addr}{v:List Int}{Dv Lv X1 X2 X3 dv uv:Value}{C:Cub}{Cs:List Cub}{T e:TypeId}{cs:Array Value}{fr:Nat × Nat}
theorem Ynq{u:FrameMode}(hE:w.cell? ⟨rE,0,none⟩=some (.int .i64 0)):
  CallsD ae 49 #[.pointer (some ⟨rE,0,none⟩),.pointer (some ⟨rB,0,none⟩),.pointer (some ⟨rL,0,none⟩)] u w λe u' w'=>u'=u/\(e=.returned (.tuple #[])/\w'=w):=by
 go_enter_d fk,ff;go_wp2;go_end0;exact⟨rfl,rfl⟩
theorem Hi{u:FrameMode}{A:Option Addr}{c:Nat}{er:Int}(he:er≠0)(hE:w.cell? ⟨rE,0,none⟩=some (.int .i64 er))(hB:w.cell? ⟨rB,0,none⟩=some (.slice A n c))(hL:w.cell? ⟨rL,0,none⟩=some (.pointer (some ⟨g,0,none⟩)))(hg:w.cell? ⟨g,3,none⟩=some dv)(hf:w.frozen? ⟨g,3,none⟩=false):
  CallsD ae 49 #[.pointer (some ⟨rE,0,none⟩),.pointer (some ⟨rB,0,none⟩),.pointer (some ⟨rL,0,none⟩)] u w λe u' w'=>u'=u/\(e=.returned (.tuple #[])/\w'=w.setCell ⟨g,3,none⟩ (.slice A n c)):=by
 go_enter_d fk,ff;go_wp2;go_end0;exact⟨rfl,rfl⟩
theorem Ug{fn:Func}{p:Tmp}(h:fn.results=#[.cell p 37])(tmps:Array Value)(w:World)(g:Nat){v:Value}(hp:tmps.getD p undef=.pointer (some ⟨g,0,none⟩))(hc:w.cell? ⟨g,0,none⟩=some v):(results fn tmps).run ae w=.ok v w:=by
 have hp':tmps[p]?.getD undef=.pointer (some ⟨g,0,none⟩):=by simpa using hp
 simp[results,h,hp',asAddr,loadVar,go_sem,hc]
def Rr(D:List Yk)(M:List Txt)(V:List (List Int))(Qs:List (List Pth))(Cs:List Cub)(cnt:Int)(G:List Fct)(er:Int)(Qs':List (List Pth))(Cs':List Cub)(cnt':Int):Prop:=
 (er=(Wf D M V G:Nat)/\Wf D M V G≠0/\Qs'=Qs/\Cs'=Cs/\cnt'=cnt)∨
 (Wf D M V G=0/\er=((Zh (Yj D) Qs G).2:Nat)/\(Zh (Yj D) Qs G).2≠0/\Qs'=Qs/\Cs'=Cs/\cnt'=cnt)∨
 (Wf D M V G=0/\∃Rs,Zh (Yj D) Qs G=(Rs,0)/\((1099511627776<cnt+(G.length:Int)/\er=14)∨(cnt+(G.length:Int)<=1099511627776/\∃(i:Nat) (x:List Int×List PC),i<(Yg D V).length/\x∈Wu (kC Rs ((Yg D V).getD i [])) Zb G/\(Xd (Cs.getD i []) x.1 x.2).2≠0/\er=(Xd (Cs.getD i []) x.1 x.2).2))/\Qs'=Qs/\Cs'=Cs/\cnt'=cnt)∨
 (Wf D M V G=0/\∃Rs,Zh (Yj D) Qs G=(Rs,0)/\cnt+(G.length:Int)<=1099511627776/\(∀i,i<(Yg D V).length->okV (Cs.getD i []) (Wu (kC Rs ((Yg D V).getD i [])) Zb G))/\er=0/\Qs'=Rs/\Cs'=V2 Cs (Sd Rs (Yg D V) Cs G (Yg D V).length)/\cnt'=cnt+(G.length:Int))
def Mr(w:World)(F0:Nat->Prop)(g:Nat)(X1 X2 X3 vv:Value)(W m:Nat)(D:List Yk)(M:List Txt)(V:List (List Int))(Qs:List (List Pth))(Cs:List Cub)(cnt:Int)(G:List Fct)(e:Ending)(w':World):Prop:=
 ∃dv' ds' vs' Qs' Cs' cnt' er,e=.returned (.int .i64 er)/\LtM w' g X1 X2 X3 dv' vv ds' vs' (Yj D) Qs' W m Cs' cnt'∧Chg F0 w w'∧(∀k,Zm g dv' vv ds' vs' k->F0 k∨w.heap.size<=k)/\Rr D M V Qs Cs cnt G er Qs' Cs' cnt'
theorem Yig{B1 B2 B3:Option Addr}{b1 b2 b3:Nat}{vv:Value}{ds:List DAt}{vs:List CAt}{cnt:Int}{Me:List Txt}(h:LtM w g (.slice B1 D.length b1) (.slice B2 Me.length b2) (.slice B3 n3 b3) dv vv ds vs (Yj D) Qs D.length Me.length Cs cnt)(hS:Vw w R B1 D.length b1 B2 Me.length b2 B3 n3 b3 D Me V)(hR:∀k,R k→¬Zm g dv vv ds vs k)(hm:Wk D Me V)(hCl:Cs.length=(Yg D V).length)(hc0:0<=cnt)(hc1:cnt<=1099511627776){Af:Option Addr}{nf cf:Nat}{G:List Fct}(hF:S0 w S Af nf cf G)(hSf:∀b,S b→¬Zm g dv vv ds vs b)(hfit:L5 D)(hfm:∀s∈Me,s.length<=maxLen):
  Calls ae 17 #[.pointer (some ⟨g,0,none⟩),.slice Af nf cf] w (Mr w (Zm g dv vv ds vs) g (.slice B1 D.length b1) (.slice B2 Me.length b2) (.slice B3 n3 b3) vv D.length Me.length D Me V Qs Cs cnt G):=by
 have hdim:=Wl hm
 have hb0:=Yb w (.cells #[.pointer (some ⟨g,0,none⟩)] 29)
 have hb1:=Ya hb0 (Yb (w.alloc (.cells #[.pointer (some ⟨g,0,none⟩)] 29)) (.cells #[.int .i64 0] 37))
 have hbL:=(Block.new w 29 #[.pointer (some ⟨g,0,none⟩)]).alloc (.cells #[.int .i64 0] 37)
 have hbE:=Block.new (w.alloc (.cells #[.pointer (some ⟨g,0,none⟩)] 29)) 37 #[.int .i64 0]
 rw[dt]at hbE
 have hmf:∀(fn:Fn) (first cap:Array Value) (w:World),(Instr.makeFunc fn first cap).run ae w=.ok (.func fn first cap) w:=λ_ _ _ _=>rfl
 have HMy:=hid (Ydp (hS.Yc hb1).has hfit hfm (by have:=hS.d.1;omega) (hF.mv Y3 (Mv.Yc hb1 _)))
 have HM:=hid h
 have HS:=hid hS
 have HF:=hid hF
 have k0:=(h.below hb1).c0
 have k1:=(h.below hb1).c1
 have k2:=(h.below hb1).c2
 have q0:=hbL.cell 0
 have e0:=hbE.cell 0
 have ef:=hbE.free 0
 clear h hS hF;go_enter_defers Tryz.func17,Tryz.ntmps17;go_wp2_with fail;generalize (w.alloc (.cells #[.pointer (some ⟨g,0,none⟩)] 29)).alloc (.cells #[.int .i64 0] 37)=W1 at hb1 hbL hbE q0 e0 ef k0 k1 k2 HMy⊢
 have hlE:=hbE.lt
 refine HMy.out.mono ?_;rintro e w3 ⟨rfl,hB3⟩
 have hbL3:=hbL.below hB3 hbL.lt
 have hbE3:=hbE.below hB3 hbE.lt
 have hb3:=hb1.trans (hB3.mono hb1.size)
 have e3:=hbE3.cell 0
 have f3:=hbE3.free 0
 have q3:=hbL3.cell 0
 obtain⟨mb,hmb⟩: ∃mb,Hid (Wf D Me V G=mb):=⟨_,hid rfl⟩;rw[hmb.out]
 have hbEY:=hbE3.Ys 0 (.int .i64 ((mb:Nat):Int))
 have hbLY:Block (w3.setCell ⟨w.heap.size+1,0,none⟩ (.int .i64 ((mb:Nat):Int))) w.heap.size 29 #[.pointer (some ⟨g,0,none⟩)]:=hbL3.chg ((Chg.refl (λk=>k=w.heap.size+1) w3).Ys (w.heap.size+1) 0 _ λ_=>rfl) (by omega)
 have hbY:=hb3.setCell (p:=⟨w.heap.size+1,0,none⟩) (ft _) (.int .i64 ((mb:Nat):Int))
 clear HMy q0 e0 ef k0 k1 k2 hB3;go_upto_region 2 with fail
 generalize w3.setCell ⟨w.heap.size+1,0,none⟩ (.int .i64 ((mb:Nat):Int))=Y at hbEY hbLY hbY⊢;clear e3 f3 q3 hbE3 hbL3 hb3
 have eY:=hbEY.cell 0
 have fY:=hbEY.free 0
 have qY:=hbLY.cell 0
 by_cases hmz:mb=0
 ·subst hmz
  have hMY:=HM.out.below hbY
  obtain⟨Ad,cd,edv,_,_⟩:=hMY.Ki;subst edv
  have p3:=hMY.c3
  have hdr:=hMY.dr
  rw[show ds.length=(Yj D).length from hMY.dcs.len.symm▸rfl]at hdr
  have HOw:=hid (Ycv hdr hMY.dcs (by rw[Kz];omega))
  clear hMY hdr;go_wp2_with fail;refine HOw.out.mono ?_;rintro e w5 ⟨⟨Ab,cb,dsB,rfl,hrB,hdB,hfB⟩,hB5⟩
  have hbL5:=(hbLY.below hB5 hbLY.lt).alloc (.cells #[.slice Ab (Yj D).length cb] 89)
  have hbE5:=(hbEY.below hB5 hbEY.lt).alloc (.cells #[.slice Ab (Yj D).length cb] 89)
  have hbB5:=Block.new w5 89 #[.slice Ab (Yj D).length cb]
  have hb5:=hbY.trans (hB5.mono hbY.size)
  have hba:=Yb w5 (.cells #[.slice Ab (Yj D).length cb] 89)
  have hbZ:=hb5.trans (hba.mono hb5.size)
  have hrZ:=Xi hrB hba
  have hdZ:=hdB.chg (Chg.Y1 (S:=λ_=>False) hba (ag _)) λ_ _ _ _ h=>h
  have hwE:w.heap.size+1<w5.heap.size:=ay hbEY.lt hB5.size
  have hzY:=hbY.size
  have hYE:=hbEY.lt
  clear hrB hdB hB5 hb5 hba HOw eY fY qY p3 hbLY hbEY;go_upto_region 5 with fail
  generalize hgB:w5.heap.size=gB at hbB5 hwE⊢;generalize w5.alloc (.cells #[.slice Ab (Yj D).length cb] 89)=Z at hbL5 hbE5 hbB5 hbZ hrZ hdZ⊢;clear hgB
  have qZ:=hbL5.cell 0
  have HZ:=hid (HM.out.below hbZ)
  have hBt:=Yu6 hm hmb.out
  have HBt:=hid hBt
  have hCome:=Yn7 HZ.out (HF.out.mv Y3 (Mv.Yc hbZ _)) hSf (by have:=HF.out.len;have:=hBt.few;omega) hBt.len (by rw[Kz];omega)
  have HCome:=hid hCome
  -- all that was refused leaves the dictionaries as before
  have HRest:Hid (∀(y:World) (ds':List DAt) (Qs':List (List Pth)) (dv':Value),Chg (λk=>Zm g (.slice Ad (Yj D).length cd) vv ds vs k∨k=w.heap.size+1) Z y->LtM y g (.slice B1 D.length b1) (.slice B2 Me.length b2) (.slice B3 n3 b3) dv' vv ds' vs (Yj D) Qs' D.length Me.length Cs cnt->∀er,Rr D Me V Qs Cs cnt G er Qs Cs cnt->Mr w (Zm g (.slice Ad (Yj D).length cd) vv ds vs) g (.slice B1 D.length b1) (.slice B2 Me.length b2) (.slice B3 n3 b3) vv D.length Me.length D Me V Qs Cs cnt G (.returned (.int .i64 er)) (y.setCell ⟨g,3,none⟩ (.slice Ab (Yj D).length cb))):=hid λy ds' Qs' dv' hc hL er ho=>by
   have hlt:∀k,Zm g (.slice Ad (Yj D).length cd) vv ds vs k->k<w.heap.size:=λk hk=>HM.out.lt hk
   have hn1:∀k,(Value.slice Ab (Yj D).length cb).ownBlock=some k->w.heap.size<=k:=λk hk=>aw hzY (bn hrZ k hk).1
   have hl:dsB.length=(Yj D).length:=hdZ.len.symm▸rfl
   have hno:∀k,Y.heap.size<=k→¬(Zm g (.slice Ad (Yj D).length cd) vv ds vs k∨k=w.heap.size+1):=λk hk h=>by
    rcases h with h|h
    ·have:=hlt k h;omega
    ·omega
   refine⟨_,dsB,vs,Qs,Cs,cnt,er,rfl,hL.Yw1 (by rw[hl];exact Vu (hc.row hrZ λk hk hk'=>hno k (bn hrZ k hk).1 hk') (aq _)) (hdZ.chg hc λd hd k hk hk'=>hno k (hfB d hd k hk) hk') (λd hd c hcv k hk hkc=>by have:=hfB d hd k hk;have:=hlt k (.inr (.inr (.inr (.inr ⟨c,hcv,hkc⟩))));omega),?_,?_,ho⟩
   ·exact((Chg.Y1 (S:=Zm g (.slice Ad (Yj D).length cd) vv ds vs) hbZ (ag _)).trans hc λk hk h=>h.elim id λh=>by omega).Ys g 3 _ λ_=>.inl rfl
   ·rintro k (hk|hk|hk|⟨d,hd,hk⟩|hk)
    ·exact .inl (.inl hk)
    ·exact .inr (hn1 k hk)
    ·exact .inl (.inr (.inr (.inl hk)))
    ·exact .inr (aw hzY (hfB d hd k hk))
    ·exact .inl (.inr (.inr (.inr (.inr hk))))
  clear hCome;go_wp2_with fail;refine HCome.out.mono ?_;rintro e w7 ⟨ds7,Qs7,hC7,hcase⟩
  have hF0:∀k,Zm g (.slice Ad (Yj D).length cd) vv ds vs k->k<w.heap.size:=λk hk=>HM.out.lt hk
  have hwZ:w.heap.size+1<Z.heap.size:=hbE5.lt
  have hL7:=hbL5.chg hC7.chg λhk=>by have:=hF0 _ hk;omega
  have hE7:=hbE5.chg hC7.chg λhk=>by have:=hF0 _ hk;omega
  have hB7:=hbB5.chg hC7.chg λhk=>by have:=hF0 _ hk;omega
  have e7:=hE7.cell 0
  have f7:=hE7.free 0
  have q7:=hL7.cell 0
  have hgE:¬g=w.heap.size+1:=by have:=hF0 g (.inl rfl);omega
  -- a world behind a store into the answer
  have HSt:Hid (∀(er:Int),Chg (λk=>Zm g (.slice Ad (Yj D).length cd) vv ds vs k∨k=w.heap.size+1) Z (w7.setCell ⟨w.heap.size+1,0,none⟩ (.int .i64 er))/\LtM (w7.setCell ⟨w.heap.size+1,0,none⟩ (.int .i64 er)) g (.slice B1 D.length b1) (.slice B2 Me.length b2) (.slice B3 n3 b3) (.slice Ad (Yj D).length cd) vv ds7 vs (Yj D) Qs7 D.length Me.length Cs cnt/\Block (w7.setCell ⟨w.heap.size+1,0,none⟩ (.int .i64 er)) (w.heap.size+1) 37 #[.int .i64 er]/\Block (w7.setCell ⟨w.heap.size+1,0,none⟩ (.int .i64 er)) w.heap.size 29 #[.pointer (some ⟨g,0,none⟩)]/\Block (w7.setCell ⟨w.heap.size+1,0,none⟩ (.int .i64 er)) gB 89 #[.slice Ab (Yj D).length cb]):=hid λer=>by
   have hs:Chg (λk=>k=w.heap.size+1) w7 (w7.setCell ⟨w.heap.size+1,0,none⟩ (.int .i64 er)):=(Chg.refl _ w7).Ys (w.heap.size+1) 0 _ λ_=>rfl
   refine⟨(hC7.chg.mono λk _ h=>.inl h).trans hs λk _ h=>.inr h,hC7.lt.chg hs λk hk e=>?_,hE7.Ys 0 _,hL7.chg hs (by omega),hB7.chg hs (by omega)⟩
   rcases hC7.Th k hk with h1|h1
   ·have:=hF0 k h1;omega
   ·omega
  clear hL7 hE7 hB7 hbL5 hbE5 hbB5 hrZ hdZ hfB qZ
  rcases hcase with⟨ha,rfl,kv,rfl,hKv⟩|⟨ha,rfl⟩
  ·obtain⟨Rs,hRs⟩: ∃Rs,Hid ((Zh (Yj D) Qs G).1=Rs):=⟨_,hid rfl⟩
   have hAd:Zh (Yj D) Qs G=(Rs,0):=Prod.ext hRs.out ha
   have HAd:=hid hAd
   obtain⟨hc8,hL8,hE8,hl8,hB8⟩:=HSt.out 0;rw[hRs.out]at hKv hL8
   have hs:Chg (λk=>k=w.heap.size+1) w7 (w7.setCell ⟨w.heap.size+1,0,none⟩ (.int .i64 0)):=(Chg.refl _ w7).Ys (w.heap.size+1) 0 _ λ_=>rfl
   have hK8:We (w7.setCell ⟨w.heap.size+1,0,none⟩ (.int .i64 0)) Z.heap.size kv (Vy (Yj D) Rs G):=by
    obtain⟨xs,h1,h2⟩:=hKv
    have hno:∀{v:Value}{e:TypeId}{size n:Nat}{ys:List Value},w7.ownsRow Z.heap.size e size v n ys->∀k,v.ownBlock=some k→¬k=w.heap.size+1:=λhr k hk e=>by have:=(bn hr k hk).1;omega
    exact⟨xs,hs.row h1 (hno h1),λi q hi=>by
     obtain⟨x,e,hx⟩:=h2 i q hi;exact⟨x,e,hs.row hx (hno hx)⟩⟩
   obtain⟨Ak,ck,rfl,hKl⟩:=hK8.form
   have hfoot:=hC7.Th
   have hz7:Z.heap.size<=(w7.setCell ⟨w.heap.size+1,0,none⟩ (.int .i64 0)).heap.size:=hc8.size
   clear hs hKv hK8 ha;go_upto_region 7 with fail
   generalize w7.setCell ⟨w.heap.size+1,0,none⟩ (.int .i64 0)=w8 at hc8 hL8 hE8 hl8 hB8 hKl hz7⊢
   have hnf:∀k,Zm g (.slice Ad (Yj D).length cd) vv ds7 vs k→¬k=w.heap.size+1:=λk hk e=>by
    rcases hfoot k hk with h1|h1
    ·have:=hF0 k h1;omega
    ·omega
   have hcw8:Chg (Zm g (.slice Ad (Yj D).length cd) vv ds vs) w w8:=(Chg.Y1 hbZ (ag _)).trans hc8 λk hk h=>h.elim id λh=>by omega
   have hS8:=HS.out.chg hcw8 hR
   have hF8:=HF.out.mv Y3 (Mv.chg hcw8 hSf)
   have hgd:=hL8.dcs.good
   have hbk:=Yuh hm HBt.out HZ.out.dcs.good HAd.out
   have hnk:(Vy (Yj D) Rs G).length=nf:=by unfold Vy;rw[ai];exact HF.out.len
   have hnf8:nf<=1000:=by have:=HF.out.len;have:=HBt.out.few;omega
   have hCh:=Yee hL8 hS8 hm hCl hc0 hc1 hKl hF8 hnf8 HBt.out.small HBt.out.val hnk hbk.1
   rw[hnk]at hCh⊢
   have HCh:=hid hCh
   have HL8:=hid hL8
   have e8:=hE8.cell 0
   have f8:=hE8.free 0
   have q8:=hl8.cell 0
   clear hCh hgd hS8 hF8 hKl;go_wp2_with fail;refine HCh.out.mono ?_;rintro e w9 ⟨hcase,hB9w⟩
   have hE9:=hE8.below hB9w hE8.lt
   have hl9:=hl8.below hB9w hl8.lt
   have hB9:=hB8.below hB9w hB8.lt
   have hL9:=HL8.out.below hB9w
   have hc9:=hc8.trans (Chg.Y1 (S:=λk=>Zm g (.slice Ad (Yj D).length cd) vv ds vs k∨k=w.heap.size+1) hB9w (ag _)) λ_ _ h=>h
   have hnf9:=hnf
   have e9:=hE9.cell 0
   have f9:=hE9.free 0
   have q9:=hl9.cell 0
   clear e8 f8 q8 hB9w HCh
   rcases hcase with⟨h1,rfl⟩|⟨h1,i,x,h2,h3,h4,rfl⟩|⟨h1,h2,Al,cl,rfl,hRw⟩
   ·obtain⟨er,her⟩: ∃er:Int,Hid ((14:Int)=er):=⟨_,hid rfl⟩
    have hne14:¬er=0:=by rw[<-her.out];decide
    have hOut:=hid (show Rr D Me V Qs Cs cnt G er Qs Cs cnt from .inr (.inr (.inl ⟨hmb.out,Rs,HAd.out,.inl ⟨h1,her.out.symm⟩,rfl,rfl,rfl⟩)))
    rw[her.out]
    have hei:¬er=0:=hne14
    have hs9:Chg (λk=>k=w.heap.size+1) w9 (w9.setCell ⟨w.heap.size+1,0,none⟩ (.int .i64 er)):=(Chg.refl _ w9).Ys (w.heap.size+1) 0 _ λ_=>rfl
    have hL9s:=hL9.chg hs9 hnf9
    have hE9s:=hE9.Ys 0 (.int .i64 er)
    have hl9s:=hl9.chg hs9 (by omega)
    have hB9s:=hB9.chg hs9 (by omega)
    have hc9s:=hc9.trans hs9 λk _ h=>.inr h
    go_upto_region 10 with fail
    generalize w9.setCell ⟨w.heap.size+1,0,none⟩ (.int .i64 er)=wa at hL9s hE9s hl9s hB9s hc9s⊢
    have ea:=hE9s.cell 0
    have fa:=hE9s.free 0
    have hsa:Chg (λk=>k=w.heap.size+1) wa (wa.setCell ⟨w.heap.size+1,0,none⟩ (.int .i64 er)):=(Chg.refl _ wa).Ys (w.heap.size+1) 0 _ λ_=>rfl
    have hLb:=hid (hL9s.chg hsa hnf9)
    have HEb:=hid (hE9s.Ys 0 (.int .i64 er))
    have Hlb:=hid (hl9s.chg hsa (by omega))
    have HBb:=hid (hB9s.chg hsa (by omega))
    have Hcb:=hid (hc9s.trans hsa λk _ h=>.inr h)
    have Hei:=hid hei
    clear hsa hs9;go_wp2_with fail;refine leaves_cons (f:=49) (args:=#[.pointer (some ⟨w.heap.size+1,0,none⟩),.pointer (some ⟨gB,0,none⟩),.pointer (some ⟨w.heap.size,0,none⟩)]) (by simp) (by simp[go_sem]) ?_
    refine(Hi (er:=er) Hei.out (HEb.out.cell 0) (HBb.out.cell 0) (Hlb.out.cell 0) (hLb.out.c3) (hLb.out.blk.free 3)).mono ?_;rintro e u' w'' ⟨rfl,rfl,rfl⟩;exact⟨_,Ug rfl _ _ _ rfl ((HEb.out.chg ((Chg.refl (λk=>k=g) _).Ys g 3 _ λ_=>rfl) (by omega)).cell 0),HRest.out _ _ _ _ Hcb.out hLb.out _ hOut.out⟩
   ·obtain⟨er,her⟩: ∃er:Int,Hid ((Xd (Cs.getD i []) x.1 x.2).2=er):=⟨_,hid rfl⟩
    have hOut:=hid (show Rr D Me V Qs Cs cnt G er Qs Cs cnt from .inr (.inr (.inl ⟨hmb.out,Rs,HAd.out,.inr ⟨h1,i,x,h2,h3,h4,her.out.symm⟩,rfl,rfl,rfl⟩)))
    rw[her.out]at h4⊢
    have hei:¬er=0:=h4
    have hs9:Chg (λk=>k=w.heap.size+1) w9 (w9.setCell ⟨w.heap.size+1,0,none⟩ (.int .i64 er)):=(Chg.refl _ w9).Ys (w.heap.size+1) 0 _ λ_=>rfl
    have hL9s:=hL9.chg hs9 hnf9
    have hE9s:=hE9.Ys 0 (.int .i64 er)
    have hl9s:=hl9.chg hs9 (by omega)
    have hB9s:=hB9.chg hs9 (by omega)
    have hc9s:=hc9.trans hs9 λk _ h=>.inr h
    go_upto_region 10 with fail
    generalize w9.setCell ⟨w.heap.size+1,0,none⟩ (.int .i64 er)=wa at hL9s hE9s hl9s hB9s hc9s⊢
    have ea:=hE9s.cell 0
    have fa:=hE9s.free 0
    have hsa:Chg (λk=>k=w.heap.size+1) wa (wa.setCell ⟨w.heap.size+1,0,none⟩ (.int .i64 er)):=(Chg.refl _ wa).Ys (w.heap.size+1) 0 _ λ_=>rfl
    have hLb:=hid (hL9s.chg hsa hnf9)
    have HEb:=hid (hE9s.Ys 0 (.int .i64 er))
    have Hlb:=hid (hl9s.chg hsa (by omega))
    have HBb:=hid (hB9s.chg hsa (by omega))
    have Hcb:=hid (hc9s.trans hsa λk _ h=>.inr h)
    have Hei:=hid hei
    clear hsa hs9;go_wp2_with fail;refine leaves_cons (f:=49) (args:=#[.pointer (some ⟨w.heap.size+1,0,none⟩),.pointer (some ⟨gB,0,none⟩),.pointer (some ⟨w.heap.size,0,none⟩)]) (by simp) (by simp[go_sem]) ?_
    refine(Hi (er:=er) Hei.out (HEb.out.cell 0) (HBb.out.cell 0) (Hlb.out.cell 0) (hLb.out.c3) (hLb.out.blk.free 3)).mono ?_;rintro e u' w'' ⟨rfl,rfl,rfl⟩;exact⟨_,Ug rfl _ _ _ rfl ((HEb.out.chg ((Chg.refl (λk=>k=g) _).Ys g 3 _ λ_=>rfl) (by omega)).cell 0),HRest.out _ _ _ _ Hcb.out hLb.out _ hOut.out⟩
   ·obtain⟨nv,hnv⟩: ∃nv,Hid ((Yg D V).length=nv):=⟨_,hid rfl⟩
    rw[hnv.out]at hRw h2 hCl⊢;obtain⟨L,hL⟩: ∃L,Hid (Sd Rs (Yg D V) Cs G nv=L):=⟨_,hid rfl⟩;rw[hL.out]at hRw⊢;obtain⟨n,hn⟩: ∃n,Hid (L.length=n):=⟨_,hid rfl⟩;rw[hn.out]at hRw⊢
    have hOut:=hid (show Rr D Me V Qs Cs cnt G 0 Rs (V2 Cs L) (cnt+(G.length:Int))from .inr (.inr (.inr ⟨hmb.out,Rs,HAd.out,h1,by rw[hnv.out];exact h2,rfl,rfl,by rw[hnv.out,hL.out],rfl⟩)))
    have hGl:=HF.out.len
    have hnb:n<=56:=by
     have h3:=D8 Rs (Yg D V) Cs G nv
     rw[hL.out,hn.out]at h3
     have h4:=Wx hm
     rw[hnv.out]at h4;exact aw h3 (fc h4 HBt.out.few)
    have hwr:IntKind.i64.wrap (cnt+(nf:Int))=cnt+(nf:Int):=IntWalk.i64_in _ (by omega)
    have hview:∀v,v<nv->(Yg D V).getD v []∈Yg D V:=λv hv=>by
     rw[aj,aa (by rw[hnv.out];exact hv)]
     exact List.getElem_mem _
    have hcub:∀v,v<nv->Xw D.length Me.length (Cs.getD v []):=λv hv=>by
     have h3:=hL9.cbs.len
     obtain⟨c,hc⟩: ∃c,vs[v]?=some c:=⟨_,aa (by omega)⟩
     exact(hL9.cbs.at_ v c hc).ok
    have HFit:Hid (∀(i:Nat) (x:Chn),L[i]?=some x->Fits D.length Me.length nv (V2 Cs (L.take i)) G x):=hid λi x hx=>by
     rw[<-hL.out]at hx⊢;exact Yr3 hCl hcub h2 HBt.out.cell (λv hv f hf=>hbk.2 _ (Ty hm _ (hview v hv)) f hf) hx
    have hs9:Chg (λk=>k=w.heap.size+1) w9 (w9.setCell ⟨w.heap.size+1,0,none⟩ (.int .i64 0)):=(Chg.refl _ w9).Ys (w.heap.size+1) 0 _ λ_=>rfl
    have hL9s:=hL9.chg hs9 hnf9
    have hE9s:=hE9.Ys 0 (.int .i64 0)
    have hl9s:=hl9.chg hs9 (by omega)
    have hB9s:=hB9.chg hs9 (by omega)
    have hc9s:=hc9.trans hs9 λk _ h=>.inr h
    have hR9s:=hRw.mv Sm (show Mv w9 (KeB w9) (w9.setCell ⟨w.heap.size+1,0,none⟩ (.int .i64 0)) (KeB (w9.setCell ⟨w.heap.size+1,0,none⟩ (.int .i64 0)))from λk hb hl=>by
     obtain⟨cs,T,hT,hk⟩:=hb
     have e:=hs9.block k hl λe=>by
      subst e
      have hE:w9.heap[w.heap.size+1]?=some (.cells _ _ _):=hE9
      rw[hk]at hE;simp only[an,au]at hE
      rcases hT with h|h|h <;> (rw[h]at hE;exact absurd hE.2.1 (by decide))
     exact⟨e,cs,T,hT,e.trans hk⟩)
    clear h1 h2 hcub hview hRw hL9 hE9 hl9 hB9 hc9 HRest hs9;go_upto_region 10 with fail
    generalize w9.setCell ⟨w.heap.size+1,0,none⟩ (.int .i64 0)=wa at hL9s hE9s hl9s hB9s hc9s hR9s⊢
    have ea:=hE9s.cell 0
    have qa:=hl9s.cell 0
    have HL0:=hid hL9s
    have HR0:=hid hR9s
    have hZa:Z.heap.size<=wa.heap.size:=hc9s.size
    clear hR9s;go_wp2_with fail;go_loopw [46] (λi wr=>∃k:Nat,k<=n/\i=.int .i64 k/\Hid (∃vs',LtM wr g (.slice B1 D.length b1) (.slice B2 Me.length b2) (.slice B3 n3 b3) (.slice Ad (Yj D).length cd) vv ds7 vs' (Yj D) Rs D.length Me.length (V2 Cs (L.take k)) cnt/\∀q,Zm g (.slice Ad (Yj D).length cd) vv ds7 vs' q->Zm g (.slice Ad (Yj D).length cd) vv ds7 vs q∨wa.heap.size<=q)/\Hid (Row Kr 7 wr (KeB wr) Al n cl L)/\Chg (Zm g (.slice Ad (Yj D).length cd) vv ds7 vs) wa wr) (λi _=>n-(intOf i).toNat)
    case atStart=>exact⟨0,aq _,rfl,hid ⟨vs,HL0.out,λq hq=>.inl hq⟩,HR0,Chg.refl _ _⟩
    case round=>
     obtain⟨k,hk,rfl,hO,hRw,hC⟩:=hrel
     have hlw:=hl9s.chg hC λhk=>by
      rcases hfoot _ hk with h1|h1
      ·have:=hF0 _ h1;omega
      ·omega
     have hEw:=hE9s.chg hC λhk=>hnf9 _ hk rfl
     have qw:=hlw.cell 0
     by_cases hlt:k<n
     ·obtain⟨b,o,us,x,rfl,_,hbl,_,hcs,⟨A1,e1,c1,ad,e2,c2,q,A3,e3,c3,A4,e4,c4,A5,e5,c5,rfl,hxK,hxM,hxX⟩,hx⟩:=hRw.out.at_ hlt
      obtain⟨⟨v,K⟩,M,q',Sx,Mx,Xx⟩:=x
      dsimp only at hxK hxM hxX hcs
      have hq:q=q':=by
       obtain⟨n',_,_,_,_,_,_,_,_,_,_,_,_,e,_,_,_,ex⟩:=Uv hxX;simp only[List.cons.injEq,Value.int.injEq,true_and]at e;simp only[Prod.mk.injEq]at ex;rw[e.1,ex.1]
      subst hq;obtain⟨vs',hLw,hfw⟩:=hO.out;obtain⟨f1,f2,f3,f4,f5,f6,f7'⟩:=HFit.out k _ hx.out
      dsimp only at f1 f2 f3 f4 f5 f6 f7'
      have p0:wr.cell? ⟨b,o+k*7,none⟩=some (.int .i64 v):=hcs 0 _ rfl
      have p1:wr.cell? ⟨b,o+k*7+1,none⟩=some (.slice A1 e1 c1):=hcs 1 _ rfl
      have p2:wr.cell? ⟨b,o+k*7+2,none⟩=some (.slice (some ad) e2 c2):=hcs 2 _ rfl
      have p3:wr.cell? ⟨b,o+k*7+3,none⟩=some (.int .i64 q):=hcs 3 _ rfl
      have p4:wr.cell? ⟨b,o+k*7+4,none⟩=some (.slice A3 e3 c3):=hcs 4 _ rfl
      have p5:wr.cell? ⟨b,o+k*7+5,none⟩=some (.slice A4 e4 c4):=hcs 5 _ rfl
      have p6:wr.cell? ⟨b,o+k*7+6,none⟩=some (.slice A5 e5 c5):=hcs 6 _ rfl
      have i0:(0:Int)<=(k:Int):=by omega
      have i1:(k:Int)<(n:Int):=by omega
      have hba:=Yb wr (.cells #[.int .i64 v,.slice A1 e1 c1,.slice (some ad) e2 c2,.int .i64 q,.slice A3 e3 c3,.slice A4 e4 c4,.slice A5 e5 c5] 109)
      have hLa:=hLw.below hba
      have hcl:=hLw.cbs.len
      have hpl:(V2 Cs (L.take k)).length=nv:=by rw[Yci];exact hCl
      have hvl:v<(V2 Cs (L.take k)).length:=by omega
      have hcell:∀e∈(V2 Cs (L.take k)).getD v [],Yv Me.length e.2:=by
       obtain⟨c,hc⟩: ∃c,vs'[v]?=some c:=⟨_,aa (by omega)⟩
       exact(hLw.cbs.at_ v c hc).ok.cell
      have hPut:=Yqe hLa hdim hvl (hxK.mv Yh (Mv.Yc hba _)).Uy (hxM.mv Zf (Mv.Yc hba _)) (by have:=hxM.1;have:=HBt.out.few;omega) (Zf _ _ _ _ _ _ (Mv.Yc hba _) hxX) f6 hcell f2 f3 f4 f7'
      have hnext:(V2 Cs (L.take k)).set v (Wo ((V2 Cs (L.take k)).getD v []) K (q,Sx,Mx,Xx))=V2 Cs (L.take (k+1)):=(Yj2 hx.out).symm
      rw[hnext]at hPut
      have HPut:=hid hPut
      have HLa:=hid hLa
      have Hfw:=hid hfw
      have HRa:=hid (hRw.out.mv Sm (KeB.below hba))
      have HCa:=hid (hC.trans (Chg.Y1 (S:=Zm g (.slice Ad (Yj D).length cd) vv ds7 vs) hba (ag _)) λ_ _ h=>h)
      have hbk':=(Sb wr (.int .i64 v) (.slice A1 e1 c1) (.slice (some ad) e2 c2) (.int .i64 q) (.slice A3 e3 c3) (.slice A4 e4 c4) (.slice A5 e5 c5))
      have z0:=hbk'.cell 0
      have z1:=hbk'.cell 1
      have z2:=hbk'.cell 2
      have z3:=hbk'.cell 3
      have z4:=hbk'.cell 4
      have z5:=hbk'.cell 5
      have z6:=hbk'.cell 6
      have lw:=hlw.lt
      have hza:=hC.size
      have hzb:=hba.size
      clear hO hRw hxK hxM hxX hx hcs hLw hfw hLa hcell hPut hnext hcl hpl hvl f2 f3 f4 f5 f6 f7' hbk' hba;go_wp2_with fail;refine HPut.out.mono ?_;rintro e wc ⟨rfl,vs2,hL2,hC2,hf2⟩
      have hFin:=hid (show(∃vs',LtM wc g (.slice B1 D.length b1) (.slice B2 Me.length b2) (.slice B3 n3 b3) (.slice Ad (Yj D).length cd) vv ds7 vs' (Yj D) Rs D.length Me.length (V2 Cs (L.take (k+1))) cnt/\∀q,Zm g (.slice Ad (Yj D).length cd) vv ds7 vs' q->Zm g (.slice Ad (Yj D).length cd) vv ds7 vs q∨wa.heap.size<=q)/\Row Kr 7 wc (KeB wc) (some ⟨b,o,none⟩) n cl L/\Chg (Zm g (.slice Ad (Yj D).length cd) vv ds7 vs) wa wc from
       ⟨⟨vs2,hL2,λq hq=>by
        rcases hf2 q hq with h1|h1
        ·exact Hfw.out q h1
        ·exact .inr (by omega)⟩,HRa.out.mv Sm (KeB.Yvo HLa.out hC2),HCa.out.trans hC2 λq hq h=>by
        rcases Hfw.out q h with h1|h1
        ·exact h1
        ·omega⟩)
      clear hL2 hC2 hf2 p0 p1 p2 p3 p4 p5 p6 z0 z1 z2 z3 z4 z5 z6;go_wp2_with fail;go_roundw
      case rel=>exact⟨k+1,by omega,by go_num,hid hFin.out.1,hid hFin.out.2.1,hFin.out.2.2⟩
      case measure=>simp[intOf];omega
     ·have hkn:k=n:=by omega
      obtain⟨vs',hLw,hfw⟩:=hO.out;rw[ar (by rw[hn.out,hkn];exact ag _)]at hLw
      subst hkn
      have p5:=hLw.c5
      have pf:=hLw.blk.free 5
      have hg5:Chg (λk=>k=g) wr (wr.setCell ⟨g,5,none⟩ (.int .i64 (cnt+(nf:Int)))):=(Chg.refl _ wr).Ys g 5 _ λ_=>rfl
      have HL5:=hid (hLw.Yxx (cnt+(nf:Int)))
      have HE5:=hid (hEw.chg hg5 λe=>hnf9 g (.inl rfl) e.symm)
      have HC5:=hid (hC.trans (hg5.mono (S':=Zm g (.slice Ad (Yj D).length cd) vv ds7 vs) λq _ h=>.inl h) λ_ _ h=>h)
      have Hfw:=hid hfw
      have ew:=hEw.cell 0
      have ewf:=hEw.free 0
      have hsf:Chg (λk=>k=w.heap.size+1) (wr.setCell ⟨g,5,none⟩ (.int .i64 (cnt+(nf:Int)))) ((wr.setCell ⟨g,5,none⟩ (.int .i64 (cnt+(nf:Int)))).setCell ⟨w.heap.size+1,0,none⟩ (.int .i64 0)):=(Chg.refl _ _).Ys (w.heap.size+1) 0 _ λ_=>rfl
      have hlEa:=hE9s.lt
      have HEf:=hid (HE5.out.Ys 0 (.int .i64 0))
      have hOut':=hOut.out
      rw[hGl]at hOut'
      have HF':=hid (show Mr w (Zm g (.slice Ad (Yj D).length cd) vv ds vs) g (.slice B1 D.length b1) (.slice B2 Me.length b2) (.slice B3 n3 b3) vv D.length Me.length D Me V Qs Cs cnt G (.returned (.int .i64 0)) ((wr.setCell ⟨g,5,none⟩ (.int .i64 (cnt+(nf:Int)))).setCell ⟨w.heap.size+1,0,none⟩ (.int .i64 0))from
       ⟨_,ds7,vs',Rs,V2 Cs L,_,0,rfl,HL5.out.chg hsf λq hq e=>(by
        rcases Hfw.out q hq with h1|h1
        ·exact hnf9 q h1 e
        ·omega),((((Chg.Y1 (S:=Zm g (.slice Ad (Yj D).length cd) vv ds vs) hbZ (ag _)).trans hc9s λq hq h=>h.elim id λh=>(by omega)).trans HC5.out λq hq h=>(by
        rcases hfoot q h with h1|h1
        ·exact h1
        ·omega)).trans hsf λq hq h=>(by omega)),λq hq=>(by
        rcases Hfw.out q hq with h1|h1
        ·rcases hfoot q h1 with h2|h2
         ·exact .inl h2
         ·exact .inr (by omega)
        ·exact .inr (by omega)),hOut'⟩)
      clear hO hRw hLw hfw hg5 hsf hOut'
      have gE:=HE5.out.cell 0
      have gF:=HE5.out.free 0
      go_wp2_with fail;refine leaves_cons (f:=49) (args:=#[.pointer (some ⟨w.heap.size+1,0,none⟩),.pointer (some ⟨gB,0,none⟩),.pointer (some ⟨w.heap.size,0,none⟩)]) (by simp) (by simp[go_sem]) ?_
      refine(Ynq (HEf.out.cell 0)).mono ?_;rintro e u' w'' ⟨rfl,rfl,rfl⟩;exact⟨_,Ug rfl _ _ _ rfl (HEf.out.cell 0),HF'.out⟩
  ·have hOut:=hid (show Rr D Me V Qs Cs cnt G (((Zh (Yj D) Qs G).2:Nat):Int) Qs Cs cnt from .inr (.inl ⟨hmb.out,rfl,ha,rfl,rfl,rfl⟩))
   obtain⟨er,her⟩: ∃er:Nat,Hid ((Zh (Yj D) Qs G).2=er):=⟨_,hid rfl⟩;rw[her.out]at ha hOut⊢
   have hei:¬((er:Nat):Int)=0:=by omega
   obtain⟨hc8,hL8,hE8,hl8,hB8⟩:=HSt.out ((er:Nat):Int);go_upto_region 7 with fail
   generalize w7.setCell ⟨w.heap.size+1,0,none⟩ (.int .i64 ((er:Nat):Int))=w8 at hc8 hL8 hE8 hl8 hB8⊢
   have e8:=hE8.cell 0
   have f8:=hE8.free 0
   have hs:Chg (λk=>k=w.heap.size+1) w8 (w8.setCell ⟨w.heap.size+1,0,none⟩ (.int .i64 ((er:Nat):Int))):=(Chg.refl _ w8).Ys (w.heap.size+1) 0 _ λ_=>rfl
   have hFt:=hC7.Th
   have hL9:=hid (hL8.chg hs λk hk e=>by
    rcases hFt k hk with h1|h1
    ·have:=hF0 k h1;omega
    ·omega)
   have HE9:=hid (hE8.Ys 0 (.int .i64 ((er:Nat):Int)))
   have Hl9:=hid (hl8.chg hs (by omega))
   have HB9:=hid (hB8.chg hs (by omega))
   have Hc9:=hid (hc8.trans hs λk _ h=>.inr h)
   have Hei:=hid hei
   clear hs;go_wp2_with fail;refine leaves_cons (f:=49) (args:=#[.pointer (some ⟨w.heap.size+1,0,none⟩),.pointer (some ⟨gB,0,none⟩),.pointer (some ⟨w.heap.size,0,none⟩)]) (by simp) (by simp[go_sem]) ?_
   refine(Hi (er:=((er:Nat):Int)) Hei.out (HE9.out.cell 0) (HB9.out.cell 0) (Hl9.out.cell 0) (hL9.out.c3) (hL9.out.blk.free 3)).mono ?_;rintro e u' w'' ⟨rfl,rfl,rfl⟩;exact⟨_,Ug rfl _ _ _ rfl ((HE9.out.chg ((Chg.refl (λk=>k=g) _).Ys g 3 _ λ_=>rfl) (by omega)).cell 0),HRest.out _ _ _ _ Hc9.out hL9.out _ hOut.out⟩
 ·have hmi:¬((mb:Nat):Int)=0:=by omega
  have hF:=hid (show Mr w (Zm g dv vv ds vs) g (.slice B1 D.length b1) (.slice B2 Me.length b2) (.slice B3 n3 b3) vv D.length Me.length D Me V Qs Cs cnt G (.returned (.int .i64 ((mb:Nat):Int))) (Y.setCell ⟨w.heap.size+1,0,none⟩ (.int .i64 ((mb:Nat):Int)))from by
   have hb:=hbY.setCell (p:=⟨w.heap.size+1,0,none⟩) (ft _) (.int .i64 ((mb:Nat):Int))
   exact⟨dv,ds,vs,Qs,Cs,cnt,_,rfl,HM.out.below hb,Chg.Y1 hb (ag _),λk hk=>.inl hk,.inl ⟨by rw[hmb.out],by rw[hmb.out];exact hmz,rfl,rfl,rfl⟩⟩)
  have hbE':=(hbEY.Ys 0 (.int .i64 ((mb:Nat):Int))).cell 0
  have HE':=hid (show(Y.setCell ⟨w.heap.size+1,0,none⟩ (.int .i64 ((mb:Nat):Int))).cell? ⟨w.heap.size+1,0,none⟩=some (.int .i64 ((mb:Nat):Int))from hbE')
  clear hbE';go_wp2_with fail;exact⟨_,Ug rfl _ _ _ rfl HE'.out,hF.out⟩
section
section
variable {D:List Yk}{M:List Txt}{V:List (List Int)}{E:List Hld}{Qs Qs' : List (List Pth)}{Cs Cs' : List Cub}{cnt cnt' er:Int}{G:List Fct}
theorem You(hL:X5 D M V E Qs)(hI:Wn D M V E Qs Cs)(hC:∀i,i<(Yg D V).length->Xw D.length M.length (Cs.getD i []))(hn:cnt=Q2 E)(h:Rr D M V Qs Cs cnt G er Qs' Cs' cnt'):
  er=((Y9 D M V E Qs G).2:Nat)/\Qs'=(Y9 D M V E Qs G).1.2/\Wn D M V (Y9 D M V E Qs G).1.1 Qs' Cs'∧cnt'=Q2 (Y9 D M V E Qs G).1.1:=by
 have hall:∀i,Xw D.length M.length (Cs.getD i []):=λi=>by
  by_cases hi:i<(Yg D V).length
  ·exact hC i hi
  ·rw[aj,bz (by rw[hI.len];omega)]
   exact Xw.Zj _ _
 have hkey:∀Rs,Wf D M V G=0->Zh (Yj D) Qs G=(Rs,0)->Wn D M V E Rs Cs/\(∀f∈G,Yv M.length (Zb f))/\∀v∈Yg D V,∀i,(Yg D V)[i]?=some v->(okV (Cs.getD i []) (Wu (kC Rs v) Zb G)↔okF M.length (kP v) Zk (E++G.map Zy)):=λRs h1 h2=>by
  obtain⟨g1,g2,g3⟩:=Pa hL.good h2
  have hB:=Yu6 hL.may h1
  have hI':=hI.grown hL g2 g1.Q1
  exact⟨hI',hB.cell,λv hv i hi=>Ytw hL.cell hB.cell g1.Q1 (λe he=>(hL.has v hv e he).grown g2) (λf hf=>g3 v (Ty hL.may v hv) f hf (hB.len f hf)) (hI'.at_ i v hi) (hL.ok v hv) (hall i).cell⟩
 rcases h with⟨rfl,h1,a,b,rfl⟩|⟨h1,rfl,h2,a,b,rfl⟩|⟨h1,Rs,h2,h3,a,b,rfl⟩|⟨h1,Rs,h2,h3,h4,rfl,a,b,rfl⟩ <;> (have a:=a.symm;have b:=b.symm;subst a b)
 ·rw[Og h1]
  exact⟨rfl,rfl,hI,hn⟩
 ·rw[Ql h1 h2]
  exact⟨rfl,rfl,hI,hn⟩
 ·have e2:(Zh (Yj D) Qs G).2=0:=by rw[h2]
  obtain⟨hI',hG,hok⟩:=hkey Rs h1 h2
  have fin:er=14/\Y9 D M V E Qs G=((E,Qs),14):=by
   rcases h3 with⟨hb,rfl⟩|⟨hb,i,x,hi,hx,hne,rfl⟩
   ·refine⟨rfl,?_⟩
    by_cases hf:∀v∈Yg D V,okF M.length (kP v) Zk (E++G.map Zy)
    ·exact Ec h1 e2 (by rw[<-hn];exact hb)
    ·obtain⟨v,hv,hbad⟩: ∃v∈Yg D V,¬okF M.length (kP v) Zk (E++G.map Zy):=Classical.byContradiction λhc=>hf λv hv=>Classical.byContradiction λhc'=>hc ⟨v,hv,hc'⟩
     exact O9 h1 e2 hv hbad
   ·have hiv:(Yg D V)[i]?=some ((Yg D V).getD i []):=by rw[aj,aa hi];rfl
    have hv:=af hiv
    refine⟨?_,O9 h1 e2 hv λhc=>hne (((hok _ hv i hiv).2 hc) x hx)⟩
    obtain⟨⟨f,hf,hfk⟩,hxc⟩:=U4.1 hx
    have hM:∀c∈x.2,Yv M.length c:=λc hc=>by
     rw[hxc]at hc;unfold Yf at hc;obtain⟨f',hf',rfl⟩:=ax.1 hc;exact hG f' (ez.1 hf').1
    have hMn:x.2≠[]:=λh0=>by
     have h5:Zb f∈Yf (kC Rs ((Yg D V).getD i [])) Zb G x.1:=by unfold Yf;exact ax.2 ⟨f,ez.2 ⟨hf,decide_eq_true hfk⟩,rfl⟩
     rw[<-hxc,h0]at h5
     cases h5
    have hcs:∀c∈(Za (Cs.getD i []) x.1).toList++x.2,Yv M.length c:=λc hc=>by
     rcases dg.1 hc with hc|hc
     ·rcases hq:Za (Cs.getD i []) x.1 with _|y
      ·rw[hq]at hc;simp at hc
      ·rw[hq]at hc
       simp at hc;subst hc;exact(hall i).cell _ (Xg hq)
     ·exact hM c hc
    have hcells:=Ob hcs (λh0=>hMn (List.append_eq_nil_iff.1 h0).2)
    unfold Xd at hne⊢;rw[hcells]at hne⊢
    by_cases hmay:Zo (Yp M.length ((Za (Cs.getD i []) x.1).toList++x.2))
    ·rw[if_pos hmay]at hne
     exact absurd rfl hne
    ·rw[if_neg hmay]
  rw[fin.2];exact⟨fin.1,rfl,hI,hn⟩
 ·have e2:(Zh (Yj D) Qs G).2=0:=by rw[h2]
  have e1:(Zh (Yj D) Qs G).1=Rs:=by rw[h2]
  obtain⟨hI',hG,hok⟩:=hkey Rs h1 h2
  have hokV:∀i v,(Yg D V)[i]?=some v->okV (Cs.getD i []) (Wu (kC Rs v) Zb G):=λi v hi=>by
   have hil:=(ak.1 hi).1
   have h5:=h4 i hil
   have hv:(Yg D V).getD i []=v:=by rw[aj,hi];rfl
   rw[hv]at h5;exact h5
  have hap:=Gw (E:=E) h1 e2 (λv hv=>by
   obtain⟨i,hi⟩:=ao hv;exact(hok v hv i hi).1 (hokV i v hi)) (by rw[<-hn];exact h3)
  rw[hap,e1];exact⟨rfl,rfl,Wn.put hL.cell hG hI' (λi=>(hall i).ris) (λi=>(hall i).cell) hokV,by rw[Bh,Rl,hn]⟩
end
end
theorem Yso(h:Wk D M V):L5 D/\∀s∈M,s.length<=maxLen:=by
 have hs:=Rw h
 refine⟨λd hd=>⟨?_,λs hs'=>?_⟩,λs hs'=>?_⟩
 ·have:=(hs.d.2 d hd).1;unfold maxLen;omega
 ·have:=(hs.d.2 d hd).2.2 s hs';unfold maxLen;omega
 ·have:=hs.m.2 s hs';unfold maxLen;omega
theorem Yqo(h:∀e∈E,Yv m e.2):0<=Q2 E:=by
 unfold Q2;refine(Cw λx hx=>?_).1
 obtain⟨e,he,rfl⟩:=ax.1 hx
 have h1:=h e he
 rcases h1.1.2.2.2 with h2|h2
 ·exact absurd (by rw[h2];rfl) h1.2.1
 ·have:=h2.1;have:=h2.2.1;omega
theorem Eg(h:Lt w R g F D M V Qs Cs (Q2 E))(hRl:∀k,R k->k<w.heap.size)(hL:X5 D M V E Qs)(hI:Wn D M V E Qs Cs){Af:Option Addr}{nf cf:Nat}{G:List Fct}(hF:S0 w S Af nf cf G)(hSf:∀b,S b→¬F b):
  Calls ae 17 #[.pointer (some ⟨g,0,none⟩),.slice Af nf cf] w λe w'=>e=.returned (.int .i64 ((Y9 D M V E Qs G).2:Nat))/\∃F' Cs',Lt w' R g F' D M V (Y9 D M V E Qs G).1.2 Cs' (Q2 (Y9 D M V E Qs G).1.1)/\Wn D M V (Y9 D M V E Qs G).1.1 (Y9 D M V E Qs G).1.2 Cs'∧Chg F w w'∧∀k,F' k->F k∨w.heap.size<=k:=by
 obtain⟨dv,vv,ds,vs,A1,n1,c1,A2,n2,c2,A3,n3,c3,h1,h2,h3,h4,hm,hCl⟩:=h
 have e1:=h2.d.1
 have e2:=h2.m.1
 subst e1 e2
 have hfit:=Yso hm
 have hC:∀i,i<(Yg D V).length->Xw D.length M.length (Cs.getD i []):=λi hi=>by
  have h5:=h1.cbs.len
  obtain⟨c,hc⟩: ∃c,vs[i]?=some c:=⟨_,aa (by omega)⟩
  exact(h1.cbs.at_ i c hc).ok
 refine(Yig h1 h2 (λk hk hf=>h4 k hk ((h3 k).2 hf)) hm hCl (Yqo hL.cell) hL.cnt hF (λb hb hf=>hSf b hb ((h3 b).2 hf)) hfit.1 hfit.2).mono ?_
 rintro e w' ⟨dv',ds',vs',Qs',Cs',cnt',er,rfl,hL',hc',hf',ho⟩;obtain⟨rfl,rfl,hI',rfl⟩:=You hL hI hC rfl ho
 have hc:Chg F w w':=hc'.mono λk _ hk=>(h3 k).2 hk
 refine⟨rfl,Zm g dv' vv ds' vs',Cs',⟨dv',vv,ds',vs',A1,_,c1,A2,_,c2,A3,n3,c3,hL',h2.chg hc h4,λk=>Iff.rfl,λk hk hf=>?_,hm,hI'.len⟩,hI',hc,λk hk=>(hf' k hk).imp (λh=>(h3 k).2 h) id⟩
 rcases hf' k hf with h5|h5
 ·exact h4 k hk ((h3 k).2 h5)
 ·have:=hRl k hk;omega
section
section
variable {D:List Yk}{M:List Txt}{V:List (List Int)}{E:List Hld}{Qs:List (List Pth)}{Cs:List Cub}
theorem Yii(hL:X5 D M V E Qs)(hI:Wn D M V E Qs Cs){i:Nat}{v:List Int}(hi:(Yg D V)[i]?=some v):Yll (Yj D) Qs (Cs.getD i []):=λe he=>by
 obtain⟨⟨f,hf,hk⟩,_⟩:=((hI.at_ i v hi).all e).1 he
 have hl:=hL.good.len
 have h1:=(Ty hL.may v (af hi)).len
 have h2:f.1.length=(Yj D).length:=by
  have h3:=congrArg List.length (hL.lev f hf)
  rwa [ai]at h3
 refine⟨?_,λj hj=>?_⟩
 ·rw[<-hk]
  exact(Pp (by omega) (by omega)).trans hl
 ·have h4:=Nl (Qs:=Qs) (v:=v) (P:=f.1) (i:=j) (by omega) (by omega) (by omega)
  have h5:e.1.getD j 0=_:=(congrArg (λk=>List.getD k j 0) hk.symm).trans h4
  rw[h5]
  have h6:=@Rv _ _ (Qs.getD j []) ((f.1.getD j []).take (v.getD j 0).toNat)
  exact⟨by omega,by omega⟩
theorem Ycs(hL:X5 D M V E Qs)(hI:Wn D M V E Qs Cs){i:Nat}{v:List Int}(hi:(Yg D V)[i]?=some v):(S5 Qs (Cs.getD i [])).Pairwise λa b=>a.1≠b.1:=by
 unfold S5;rw[dz]
 have hC:=hI.at_ i v hi
 have h0:Qy Qs:=hL.good.Q1
 have hP:=hL.has v (af hi)
 refine List.Pairwise.imp_of_mem (λ{a b} ha hb hl e=>?_) hC.ris
 obtain⟨⟨f,hf,hk⟩,_⟩:=(hC.all a).1 ha;obtain⟨⟨g,hg,hk'⟩,_⟩:=(hC.all b).1 hb;refine W9 hl ?_;rw[<-hk,<-hk',Tc h0 hP f hf g hg,<-Ez h0 hP f hf,<-Ez h0 hP g hg,hk,hk'];exact e
theorem Yk8:∀{L:Rws},L.Pairwise (λa b=>¬Xb b.1 a.1)->L.Pairwise (λa b=>a.1≠b.1)->Cl L
 |[],_,_=>List.Pairwise.nil
 |x::L,h,h'=>by
  obtain⟨h1,h2⟩:=cj.1 h;obtain⟨g1,g2⟩:=cj.1 h';refine cj.2 ⟨λy hy=>?_,Yk8 h2 g2⟩
  rcases Gb x.1 y.1 with h3|h3|h3
  ·exact h3
  ·exact absurd h3 (g1 y hy)
  ·exact absurd h3 (h1 y hy)
theorem Ytp(hL:X5 D M V E Qs)(hI:Wn D M V E Qs Cs){i:Nat}{v:List Int}(hi:(Yg D V)[i]?=some v){L:Rws}(hp:L.Perm (S5 Qs (Cs.getD i [])))(hs:L.Pairwise λa b=>¬Xb b.1 a.1):Xu M.length (kP v) Zk E L:=by
 have h0:Qy Qs:=hL.good.Q1
 have hP:=hL.has v (af hi)
 refine Wr.rows (hI.at_ i v hi) (Tc h0 hP) (Z1 Qs) (Ez h0 hP) (Yk8 hs ?_) hp;exact(hp.symm.pairwise_iff (λh e=>h e.symm)).1 (Ycs hL hI hi)
theorem Yoh(hL:X5 D M V E Qs)(hI:Wn D M V E Qs Cs){i:Nat}{v:List Int}(hi:(Yg D V)[i]?=some v)(x:Zd×PC):x∈S5 Qs (Cs.getD i [])↔(∃f∈E,kP v f=x.1)/\x.2=Yp M.length (Yf (kP v) Zk E x.1):=by
 have hC:=hI.at_ i v hi
 have h0:Qy Qs:=hL.good.Q1
 have hP:=hL.has v (af hi)
 have hal:=Tc h0 hP
 have hpa:=Ez h0 hP
 unfold S5;rw[ax];constructor
 ·rintro⟨e,he,rfl⟩
  obtain⟨⟨f,hf,hk⟩,hc⟩:=(hC.all e).1 he
  have h2:Z1 Qs e.1=kP v f:=by rw[<-hk];exact hpa f hf
  refine⟨⟨f,hf,h2.symm⟩,?_⟩
  show e.2=Yp M.length (Yf (kP v) Zk E (Z1 Qs e.1))
  rw[hc,<-hk,Vc hal hf,hpa f hf]
 ·rintro⟨⟨f,hf,hk⟩,hc⟩
  refine⟨(kC Qs v f,Yp M.length (Yf (kC Qs v) Zk E (kC Qs v f))),(hC.all _).2 ⟨⟨f,hf,rfl⟩,rfl⟩,Prod.ext ?_ ?_⟩
  ·show Z1 Qs (kC Qs v f)=x.1
   rw[hpa f hf,hk]
  ·show Yp M.length (Yf (kC Qs v) Zk E (kC Qs v f))=x.2
   rw[Vc hal hf,hc,hk]
theorem Ygd(hL:X5 D M V E Qs)(hI:Wn D M V E Qs Cs){i:Nat}{v:List Int}(hi:(Yg D V)[i]?=some v){L:Rws}(h:Xu M.length (kP v) Zk E L):(Cs.getD i []).length=L.length:=by
 have h1:(S5 Qs (Cs.getD i [])).Perm L:=(List.perm_ext_iff_of_nodup ((Ycs hL hI hi).imp λh e=>h (congrArg Prod.fst e)) (h.ris.imp λh e=>Yqv h (congrArg Prod.fst e))).2 λx=>(Yoh hL hI hi x).trans (h.all x).symm
 rw[<-h1.length_eq];unfold S5;rw[ai]
end
def Yp6(w:World)(L:Rws)(e:Ending)(w':World):Prop:=
 (∃A c,e=.returned (.tuple #[.slice A L.length c,.int .i64 0])/\Row R7 5 w' (λb=>w.heap.size<=b) A L.length c L)/\Below w.heap.size w w'
section
variable {w:World}{R F:Nat->Prop}{g:Nat}{D:List Yk}{M:List Txt}{V:List (List Int)}{E:List Hld}{Qs:List (List Pth)}{Cs:List Cub}{cnt:Int}
theorem Ax(h:Lt w R g F D M V Qs Cs cnt)(hL:X5 D M V E Qs)(hI:Wn D M V E Qs Cs){i:Nat}{v:List Int}(hi:(Yg D V)[i]?=some v):
  Calls ae 19 #[.pointer (some ⟨g,0,none⟩),.int .i64 i] w λe w'=>∃L,Xu M.length (kP v) Zk E L/\Yp6 w L e w':=by
 obtain⟨dv,vv,ds,vs,A1,n1,c1,A2,n2,c2,A3,n3,c3,h1,h2,h3,h4,hm,hCl⟩:=h
 have hd:=Wl hm
 have h7:=Wx hm
 have hil:=(ak.1 hi).1
 refine(Yno h1 (by unfold Yj;rw[ai];exact hd.2.1) (by omega) (by omega) (Yii hL hI hi)).mono ?_
 rintro e w' ⟨⟨A,c,L,rfl,hr,hp,hs⟩,hB⟩
 have hl:(Cs.getD i []).length=L.length:=by
  rw[hp.length_eq];unfold S5;rw[ai]
 rw[hl]at hr⊢;exact⟨L,Ytp hL hI hi hp hs,⟨A,c,rfl,hr⟩,hB⟩
theorem Yb4(h:Lt w R g F D M V Qs Cs cnt)(v:Int)(hv:¬(0<=v/\v<((Yg D V).length:Int))):
  Calls ae 19 #[.pointer (some ⟨g,0,none⟩),.int .i64 v] w λe w'=>e=.returned (.tuple #[.slice none 0 0,.int .i64 17])/\w=w':=by
 obtain⟨dv,vv,ds,vs,A1,n1,c1,A2,n2,c2,A3,n3,c3,h1,h2,h3,h4,hm,hCl⟩:=h;obtain⟨Av,cv,evv,hvl,hat⟩:=h1.Yat
 have hH:=hid (Ch (r:=false) evv h1.c4 v (hid (decide_eq_false (by rw[hCl];exact hv))))
 clear h1 h2 h3 h4 hm hCl hat evv hvl hv;go_enter Tryz.func19,Tryz.ntmps19;go_wp2_with fail;refine hH.out.mono ?_;rintro e w1 ⟨rfl,rfl⟩;go_wp2_with fail;go_ret2;exact⟨rfl,rfl⟩
end
end
theorem Yvy:(Yg LxD LxV)[1]?=some [1]:=by rw[Jg];rfl
theorem Yvr:(Yg LxD LxV)[0]?=some [2]:=by rw[Jg];rfl
theorem Jq(w:World):Calls ae 13 #[] w λe w'=>e=.returned (.bool true)/\Below w.heap.size w w':=by
 have hB0:=Ym5 w
 have hS:=Ytt w
 go_enter Tryz.func13,Tryz.ntmps13;go_wp2_with fail
 have HN:=hid (Ygl hS Yvj (λs hs=>by rw[dn.1 hs];decide) Yju)
 refine HN.out.mono ?_;rintro e w1 ⟨g,F,R,rfl,hL,hF,hR,hB1⟩
 have HB1:=hid (Ya hB0 hB1)
 have hzS:=hB0.size
 have hbF:=Yom w1
 have hFt:=Ytk w1
 have hzW:=hbF.size
 have hA:=Eg (E:=[]) (hL.below hbF) (λk hk=>by have:=(hR k hk).2;omega) (X5.begin Yju) (Wn.begin LxD LxM LxV _) hFt (λb hb hf=>by have h1:=hL.lt hf;have h2:w1.heap.size<=b:=hb;omega)
 rw[Yfs.1]at hA
 have HA:=hid hA
 have HF0:=hid (λk (hk:F k)=>aw hzS (hF k hk))
 clear HN hS hB0 hB1 hL hF hA hFt hR hzS;go_wp2_with fail;refine HA.out.mono ?_;rintro e w2 ⟨rfl,F2,Cs2,hL2,hI2,hc2,hf2⟩
 have HB2:Hid (Below w.heap.size w w2):=hid ((Ya HB1.out hbF).trans (hc2.below (aw HB1.out.size hzW) HF0.out))
 have hok:=(X5.begin Yju).apply LxF
 rw[Yfs.2]at hL2 hI2 hok;obtain⟨Qs2,hQ2⟩: ∃Qs2,Hid ((Y9 LxD LxM LxV [] (LxD.map λ_=>[]) LxF).1.2=Qs2):=⟨_,hid rfl⟩
 rw[hQ2.out]at hL2 hI2 hok;rw[Ywc]at hL2
 have HL2:=hid hL2
 have HR:=hid (Ax hL2 hok hI2 Yvy)
 have hlen:Yi0 Cs2 0=(3,0):=by
  have h1:=Ygd hok hI2 Yvr Yt4
  have h2:=hI2.len
  rw[Jg]at h2;unfold Yi0;rw[if_pos ⟨by omega,by rw[h2];decide⟩]
  show(((Cs2.getD 0 []).length:Int),(0:Int))=_
  rw[h1];rfl
 have HLen:=hid hlen
 clear HA hL2 hI2 hok hc2 hf2 hlen HF0 hbF hzW;go_wp2_with fail;refine HR.out.mono ?_;rintro e w3 ⟨L,hRw,⟨⟨A,c,rfl,hr⟩,hB3⟩⟩;obtain rfl:=Ytr hRw
 have HL3:=hid (HL2.out.below hB3)
 have HB3:=hid (Ya HB2.out hB3)
 have hrw:=hid (hr.map (E':=V6) (λ_ _ h=>P3 h))
 have HLn:=hid (Cy HL3.out 0 HLen)
 have e2:LxR.length=2:=rfl
 rw[e2]at hr hrw;rw[e2];clear HR hRw hr hB3 HL2 HLen e2;go_wp2_with fail;refine HLn.out.mono ?_;rintro e w4 ⟨rfl,rfl⟩
 have HRn:=hid (Yb4 HL3.out 2 (by rw[Jg];decide))
 clear HLn;go_wp2_with fail;refine HRn.out.mono ?_;rintro e w5 ⟨rfl,rfl⟩
 have HFa:=hid (Ya4 HL3.out)
 obtain⟨b,o,A0,n0,c0,q,A1,n1,c1,A2,n2,c2,A3,n3,c3,K,Su,M,X,rfl,_,_,k0,k1,k2,k3,k4,_,hSu,_,_,he⟩:=hrw.out.atR (k:=0) (by decide)
 have he:=he.out
 simp only[LxR,di,an,Prod.mk.injEq]at he;obtain⟨_,hq,hs,_,_⟩:=he;subst hq hs;obtain rfl:n1=1:=hSu.len.symm;obtain⟨b2,o2,y,e9,_,j1,hy⟩:=hSu.Uy.at_ (k:=0) (by decide)
 subst e9
 have hy3:y=12:=hy.out
 subst hy3;simp only[Nat.zero_mul,fq]at k1 k2 j1;clear HRn hrw HL3 hSu hy k0 k3 k4;go_wp2_with fail;refine HFa.out.mono ?_;rintro e w6 ⟨rfl,rfl⟩;clear HFa;go_wp2_with fail;go_ret;exact⟨rfl,HB3.out⟩
section
/-! ### what came in -/
theorem Yuf{w:World}{cs:List Value}(h:RC ae w 75 cs):∃d,Nz w (λb=>b<w.heap.size) cs d/\(d.1.length<=maxLen/\∀s∈d.2,s.length<=maxLen):=by
 have hl:=h.len cw
 rw[Ych]at hl
 have f1:=h.field cw 0 _ rfl
 have f2:=h.field cw 1 _ rfl
 obtain⟨x,h1,k1⟩:=RC.Y7 (S:=λb=>b<w.heap.size) db f1
 obtain⟨L,h2,k2⟩:=RC.Z0 (E:=Y7) (G:=λs=>s.length<=maxLen) da S9 (by decide) (λcs h=>RC.Y7 db h) f2
 refine⟨(x,L),⟨?_,?_⟩,k1,k2⟩
 ·have h1:Y7 w (λb=>b<w.heap.size) ((cs.drop 0).take (ae.cellsOf 9)) x:=h1
  rw[S9]at h1;exact h1
 ·have h2:Z0 Y7 1 w (λb=>b<w.heap.size) ((cs.drop 1).take (ae.cellsOf 23)) L:=h2
  rw[Qn,ar (by simp;omega)]at h2
  exact h2
theorem Yt1{w:World}{cs:List Value}(h:RC ae w 26 cs):∃(A1:Option Addr) (n1 c1:Nat) (A2:Option Addr) (n2 c2:Nat) (A3:Option Addr) (n3 c3:Nat) (D:List Yk) (M:List Txt) (V:List (List Int)),
  cs=[.slice A1 n1 c1,.slice A2 n2 c2,.slice A3 n3 c3]/\Vw w (λb=>b<w.heap.size) A1 n1 c1 A2 n2 c2 A3 n3 c3 D M V/\L5 D/\∀s∈M,s.length<=maxLen:=by
 have hl:=h.len bo
 rw[Yec]at hl
 have f1:=h.field bo 0 _ rfl
 have f2:=h.field bo 1 _ rfl
 have f3:=h.field bo 2 _ rfl
 obtain⟨A1,n1,c1,e1⟩:=f1.Qa dy;obtain⟨A2,n2,c2,e2⟩:=f2.Qa da;obtain⟨A3,n3,c3,e3⟩:=f3.Qa dx;rw[e1]at f1;rw[e2]at f2;rw[e3]at f3;obtain⟨D,h1,k1⟩:=f1.row (E:=Nz) dy Ych (by decide) λ_ h=>Yuf h
 obtain⟨M,h2,k2⟩:=f2.row (E:=Y7) (G:=λs=>s.length<=maxLen) da S9 (by decide) λ_ h=>RC.Y7 db h
 obtain⟨V,h3,_⟩:=f3.row (E:=Z0 Yy 1) dx Yao (by decide) λ_ h=>RC.Z0 (E:=Yy) Tryz.underlying47 Co (by decide) (λ_ h=>RC.Yy Tryz.underlying3 h) h
 have e1:(cs.drop 0).take (ae.cellsOf 22)=[.slice A1 n1 c1]:=e1
 have e2:(cs.drop 1).take (ae.cellsOf 23)=[.slice A2 n2 c2]:=e2
 have e3:(cs.drop 2).take (ae.cellsOf 24)=[.slice A3 n3 c3]:=e3
 rw[Yjv]at e1;rw[Qn]at e2;rw[Ye9]at e3
 match cs,hl with
 |[u0,u1,u2],_=>
  simp at e1 e2 e3;subst e1 e2 e3;exact⟨A1,n1,c1,A2,n2,c2,A3,n3,c3,D,M,V,rfl,⟨h1,h2,h3⟩,k1,k2⟩
theorem Row.Yqx{α:Type}{E:ElT α}{sz n c:Nat}{w:World}{S:Nat->Prop}{A:Option Addr}{L:List α}(h:Row E sz w S A n c L)(k:Nat):Row E sz w S A (min n k) c (L.take k):=by
 rcases Nat.le_total k n with h1|h1
 ·rw[Nat.min_eq_right h1];exact h.Q3 h1
 ·rw[Nat.min_eq_left h1,ar (by have:=h.len;omega)];exact h
abbrev Yg7:ElT (List Fct):=Z0 Ll 2
theorem E8:Yg7.Ok:=Wc Y3
theorem Yag{w:World}{a:Option Addr}{n c:Nat}(h:RC ae w 27 [.slice a n c]):∃L,Row Yg7 1 w (λb=>b<w.heap.size) a n c L:=by
 obtain⟨L,h1,_⟩:=h.row (E:=Yg7) (G:=λ_=>True) (sz:=1) Tryz.underlying27 (by kernel_rfl) (by decide) λcs h=>by
  obtain⟨l,h1,_⟩:=RC.Z0 (E:=Ll) (G:=Yva) cz Yaf (by decide) (λcs h=>Yu3 h) h
  exact⟨l,h1,trivial⟩
 exact⟨L,h1⟩
/-! ### a lattice,its blocks F,its schema's R,all Ylt B -/
structure LSt (y:World) (g:Nat) (F R:Nat->Prop) (B:Nat) (D:List Yk) (M:List Txt) (V:List (List Int)) (E:List Hld) (Qs:List (List Pth)):Prop where
 ex:∃Cs,Lt y R g F D M V Qs Cs (Q2 E)/\Wn D M V E Qs Cs
 ok:X5 D M V E Qs
 whole:O2 (Yj D) Qs
 low:∀k,F k->B<=k
 rlt:∀k,R k->k<y.heap.size
section
variable {y y' : World}{g:Nat}{F R S:Nat->Prop}{B:Nat}{D:List Yk}{M:List Txt}{V:List (List Int)}{E:List Hld}{Qs:List (List Pth)}
theorem LSt.chg(h:LSt y g F R B D M V E Qs)(hc:Chg S y y')(hF:∀k,F k→¬S k)(hR:∀k,R k→¬S k):LSt y' g F R B D M V E Qs:=by
 obtain⟨Cs,h1,h2⟩:=h.ex;exact⟨⟨Cs,h1.chg hc hF hR,h2⟩,h.ok,h.whole,h.low,λk hk=>ay (h.rlt k hk) hc.size⟩
theorem LSt.below(h:LSt y g F R B D M V E Qs)(hb:Below y.heap.size y y'):LSt y' g F R B D M V E Qs:=h.chg (S:=λ_=>False) (Chg.Y1 hb (ag _)) (λ_ _ h=>h) λ_ _ h=>h
theorem LSt.drewN(h:LSt y g F R B D M V E Qs)(k:Nat):LSt (y.drewN k) g F R B D M V E Qs:=h.below (below_drewN (Below.refl _ _) k)
theorem Yn4{G:List Fct}(h:(Y9 D M V E Qs G).2≠0):(Y9 D M V E Qs G).1=(E,Qs):=by
 unfold Y9 at h⊢
 split
 ·rfl
 ·rename_i h1
  rw[if_neg h1]at h
  split
  ·rfl
  ·rename_i h2
   rw[if_neg h2]at h
   split
   ·rfl
   ·rename_i h3
    rw[if_neg h3]at h
    split
    ·rfl
    ·rename_i h4
     rw[if_neg h4]at h;exact absurd rfl h
theorem Yiz{G:List Fct}(h:(Y9 D M V E Qs G).2=0):(Y9 D M V E Qs G).1=(E++G.map Zy,(Zh (Yj D) Qs G).1):=by
 unfold Y9 at h⊢
 split
 ·rename_i h1
  rw[if_pos h1]at h;exact absurd h h1
 ·rename_i h1
  rw[if_neg h1]at h
  split
  ·rename_i h2
   rw[if_pos h2]at h;exact absurd h h2
  ·rename_i h2
   rw[if_neg h2]at h
   split
   ·rename_i h3
    rw[if_pos h3]at h
    cases h
   ·rename_i h3
    rw[if_neg h3]at h
    split
    ·rename_i h4
     rw[if_pos h4]at h
     cases h
    ·rfl
theorem Yrn{A1 A2 A3:Option Addr}{n1 c1 n2 c2 n3 c3:Nat}{T:Nat->Prop}(h:Vw y T A1 n1 c1 A2 n2 c2 A3 n3 c3 D M V)(hf:L5 D)(hm:∀s∈M,s.length<=maxLen)(hyes:Wk D M V):
  Calls ae 16 #[Sy A1 n1 c1 A2 n2 c2 A3 n3 c3] y λe y'=>∃g F R,e=.returned (.tuple #[.pointer (some ⟨g,0,none⟩),.int .i64 0])/\LSt y' g F R y.heap.size D M V [] (D.map λ_=>[])/\(∀k,R k->y.heap.size<=k)/\Below y.heap.size y y':=by
 refine(Ygl h hf hm hyes).mono ?_;rintro e y' ⟨g,F,R,rfl,hL,hF,hR,hB⟩;exact⟨g,F,R,rfl,⟨⟨_,hL,Wn.begin D M V _⟩,X5.begin hyes,Yan D,hF,λk hk=>(hR k hk).2⟩,λk hk=>(hR k hk).1,hB⟩
theorem Bf(h:LSt y g F R B D M V E Qs)(hB:B<=y.heap.size){Af:Option Addr}{nf cf:Nat}{G:List Fct}(hG:S0 y S Af nf cf G)(hS:∀b,S b→¬F b):
  Calls ae 17 #[.pointer (some ⟨g,0,none⟩),.slice Af nf cf] y λe y'=>e=.returned (.int .i64 ((Y9 D M V E Qs G).2:Nat))/\∃F',LSt y' g F' R B D M V (Y9 D M V E Qs G).1.1 (Y9 D M V E Qs G).1.2/\Chg F y y'∧∀k,F' k->F k∨y.heap.size<=k:=by
 obtain⟨Cs,h1,h2⟩:=h.ex;refine(Eg h1 h.rlt h.ok h2 hG hS).mono ?_;rintro e y' ⟨rfl,F',Cs',h3,h4,hc,hf⟩;refine⟨rfl,F',⟨⟨Cs',h3,h4⟩,h.ok.apply G,Yek h.ok.good h.whole G,λk hk=>?_,λk hk=>ay (h.rlt k hk) hc.size⟩,hc,hf⟩
 rcases hf k hk with h5|h5
 ·exact h.low k h5
 ·omega
theorem Yra(h:LSt y g F R B D M V E Qs):Calls ae 23 #[.pointer (some ⟨g,0,none⟩),.slice none 0 0] y λe y'=>∃v C,e=.returned v/\Wr M.length (kC Qs (Yn D)) Zk E C/\Zc y' y.heap.size 5 v (Yen M.length Qs C)/\Below y.heap.size y y':=by
 obtain⟨Cs,h1,h2⟩:=h.ex;refine(Ymv h1).mono ?_;rintro e y' ⟨v,rfl,hO,hb⟩;exact⟨v,_,rfl,h2.at_ 0 (Yn D) rfl,hO,hb⟩
theorem Zc.chg{w w':World}{base:Nat}{T:TypeId}{v:Value}{l:List UInt8}(h:Zc w base T v l)(hc:Chg S w w')(hS:∀k,v.ownBlock=some k→¬S k):Zc w' base T v l:=hc.row h hS
theorem Yi6(h:LSt y g F R B D M V E Qs):Calls ae 24 #[.pointer (some ⟨g,0,none⟩)] y λe y'=>e=.returned (.int .i64 (Q2 E))/\y=y':=by
 obtain⟨Cs,h1,h2⟩:=h.ex;exact Ya4 h1
theorem Yb9(h:LSt y g F R B D M V E Qs){i:Nat}{v:List Int}(hi:(Yg D V)[i]?=some v):
  Calls ae 19 #[.pointer (some ⟨g,0,none⟩),.int .i64 i] y λe y'=>∃L,Xu M.length (kP v) Zk E L/\Yp6 y L e y':=by
 obtain⟨Cs,h1,h2⟩:=h.ex;exact Ax h1 h.ok h2 hi
theorem Ysy(h:LSt y g F R B D M V E Qs)(v:Int)(hv:¬(0<=v/\v<((Yg D V).length:Int))):
  Calls ae 19 #[.pointer (some ⟨g,0,none⟩),.int .i64 v] y λe y'=>e=.returned (.tuple #[.slice none 0 0,.int .i64 17])/\y=y':=by
 obtain⟨Cs,h1,h2⟩:=h.ex;exact Yb4 h1 v hv
theorem Ys4(h:LSt y g F R B D M V E Qs){i:Nat}{v:List Int}(hi:(Yg D V)[i]?=some v){L:Rws}(hL:Xu M.length (kP v) Zk E L):
  Calls ae 38 #[.pointer (some ⟨g,0,none⟩),.int .i64 i] y λe y'=>e=.returned (.tuple #[.int .i64 (L.length:Nat),.int .i64 0])/\y=y':=by
 obtain⟨Cs,h1,h2⟩:=h.ex
 have hil:=(ak.1 hi).1
 have hcl:=h2.len
 refine Cy h1 (i:Int) (hid ?_);unfold Yi0;rw[if_pos ⟨by omega,by omega⟩,Int.toNat_natCast,Ygd h.ok h2 hi hL]
theorem Yub(h:LSt y g F R B D M V E Qs)(v:Int)(hv:¬(0<=v/\v<((Yg D V).length:Int))):
  Calls ae 38 #[.pointer (some ⟨g,0,none⟩),.int .i64 v] y λe y'=>e=.returned (.tuple #[.int .i64 0,.int .i64 17])/\y=y':=by
 obtain⟨Cs,h1,h2⟩:=h.ex
 have hcl:=h2.len
 refine Cy h1 v (hid ?_);unfold Yi0;rw[if_neg (by rw[hcl];exact hv)]
end
end
section
section
variable {D:List Yk}{M:List Txt}{V:List (List Int)}{E:List Hld}{Qs:List (List Pth)}{G:List Fct}
theorem Yf6(h:(Y9 D M V E Qs G).2=0):Wf D M V G=0/\(Zh (Yj D) Qs G).2=0:=by
 by_cases h1:Wf D M V G=0
 ·by_cases h2:(Zh (Yj D) Qs G).2=0
  ·exact⟨h1,h2⟩
  ·rw[Ql h1 h2]at h
   exact absurd h h2
 ·rw[Og h1]at h
  exact absurd h h1
end
theorem LSt.apart{y':World}{F2:Nat->Prop}(h:LSt y g F R B D M V E Qs)(hc:Chg F2 y y')(h1:∀k,F2 k→¬F k/\¬R k):LSt y' g F R B D M V E Qs:=
 h.chg hc (λk hk hk2=>(h1 k hk2).1 hk) λk hk hk2=>(h1 k hk2).2 hk
end
theorem N5(G:List Fct)(k:Zd):Yf (kP v) Zk (G.map Zy) k=Yf (kP v) Zb G k:=by
 unfold Yf;rw[List.filter_map,dm];rfl
theorem Yj7{L:Rws}(h:Xu m (kP v) Zb G L):Xu m (kP v) Zk (G.map Zy) L:=
 ⟨h.ris,λx=>by
  rw[h.all x,N5];refine and_congr_left λ_=>?_
  constructor
  ·rintro⟨f,hf,e⟩
   exact⟨Zy f,ax.2 ⟨f,hf,rfl⟩,e⟩
  ·rintro⟨e,he,hk⟩
   obtain⟨f,hf,rfl⟩:=ax.1 he;exact⟨f,hf,hk⟩⟩
theorem Ydh:okF m (kP v) Zk (G.map Zy)↔okF m (kP v) Zb G:=by
 constructor
 ·intro h f hf
  have h1:=h (Zy f) (ax.2 ⟨f,hf,rfl⟩)
  rw[N5]at h1;exact h1
 ·intro h e he
  obtain⟨f,hf,rfl⟩:=ax.1 he;rw[N5];exact h f hf
theorem Yqt(hm:Wk D M V){G:List Fct}(hf:∀f∈G,Ue D M.length f){v:List Int}(hv:v∈Yg D V){nv:Nat}(hnv:v.length=nv):∀f∈G,nv<=f.1.length/\isVal M.length f.2/\∀p∈f.1,p.length<=1000000:=λf hfG=>by
 have h1:=hf f hfG
 have h2:=(Ty hm v hv).len
 refine⟨?_,Yeh h1,λp hp=>?_⟩
 ·rw[<-hnv,h2,h1.2.1]
  unfold Yj;rw[ai];exact ag _
 ·have h3:p.length∈Yj D:=by
   rw[<-Yd7 h1];exact ax.2 ⟨p,hp,rfl⟩
  have:=(Ygv hm _ h3).2
  omega
theorem Yry(hm:Wk D M V){v:List Int}(hv:v∈Yg D V):v.length<=3:=by
 have h2:=(Ty hm v hv).len
 have h3:=(Wl hm).2.1
 rw[h2];unfold Yj;rw[ai];exact h3
theorem Kw{c1 c2 c3:Nat}(hm:Wk D M V)(hf:∀f∈G,Ue D M.length f)(hG:S0 y (λb=>b<y.heap.size) Af nf cf G){v:List Int}(hv:v∈Yg D V)(hV:Y2 y y.heap.size Av nv cv v)(hn:nf<=1000):
  Calls ae 20 #[Sy A1 n1 c1 A2 M.length c2 A3 n3 c3,.slice Af nf cf,.slice Av nv cv] y (Yrr y M.length (kP v) G):=
 Yfo hG hV (Wl hm).2.2.2 (Yqt hm hf hv hV.len) hn (by have h1:=hV.len;have h2:=Yry hm hv;omega)
theorem Ju{c1 c2 c3:Nat}(hL:X5 D M V (G.map Zy) Qs)(hf:∀f∈G,Ue D M.length f)(hG:S0 y (λb=>b<y.heap.size) Af nf cf G){v:List Int}(hv:v∈Yg D V)(hV:Y2 y y.heap.size Av nv cv v)(hn:nf<=1000):
  Calls ae 20 #[Sy A1 n1 c1 A2 M.length c2 A3 n3 c3,.slice Af nf cf,.slice Av nv cv] y λe y'=>(∃A c L,e=.returned (.tuple #[.slice A L.length c,.int .i64 0])/\Xu M.length (kP v) Zk (G.map Zy) L/\Row V6 5 y' (λb=>y.heap.size<=b) A L.length c L)/\Below y.heap.size y y':=by
 refine(Kw hL.may hf hG hv hV hn).mono ?_;rintro e y' ⟨h,hb⟩
 rcases h with⟨_,A,c,L,rfl,h1,h2⟩|⟨h,_⟩
 ·exact⟨⟨A,c,L,rfl,Yj7 h1,h2⟩,hb⟩
 ·exact absurd (Ydh.1 (hL.ok v hv)) h
theorem Yx.chg{α:Type}{E:ElT α}{sz:Nat}{v:Value}{L:List α}(hE:E.Ok)(h:Yx E T sz w base S v L)(hc:Chg F w w')(h1:∀k,v.ownBlock=some k→¬F k)(h2:∀k,S k→¬F k):Yx E T sz w' base S v L:=by
 obtain⟨vs,hr,hx⟩:=h;exact⟨vs,hc.row hr h1,λi x hi=>hE _ _ _ _ _ _ (λb hb hl=>⟨hc.block b hl (h2 b hb.1),hb⟩) (hx i x hi)⟩
theorem Ybw(h:Wf D M V G=0):1<=G.length/\G.length<=8:=by
 unfold Wf at h
 split at h
 ·obtain⟨h1,h2,_⟩:=Jm.1 h
  exact⟨h1,h2⟩
 ·cases h
theorem Ybe(S:Nat->Prop)(w:World):∀(us:List Value) (y:Fct),Ll w S us y->us.length=2->∀u∈us,u.oneCell'=true:=by
 intro us y h hl u hu;obtain⟨⟨A,n,c,e1,_⟩,B,m,d,e2,_⟩:=h
 match us,hl with
 |[a,b],_=>
  simp at e1 e2;subst e1 e2;simp at hu
  rcases hu with rfl|rfl <;> rfl
section
def NoS(w:World)(S:Nat->Prop):Prop:=∀k,S k->∀cs e fr,w.heap[k]?=some (.cells cs e fr)->e≠9
section
variable {w w' : World}{S:Nat->Prop}{base r n:Nat}{Lv:Value}{Q:List Pth}
theorem Xj.Er{x:Value}{q:Pth}(h:Xj w base x q)(hc:Chg S w w')(hS:NoS w S):Xj w' base x q:=hc.row h (Ydz h hS)
theorem Zw.Er{v:Value}(h:Zw w base v Q)(hc:Chg S w w')(hS:NoS w S)(hv:∀k,v.ownBlock=some k→¬S k):Zw w' base v Q:=by
 obtain⟨vs,h1,h2⟩:=h;exact⟨vs,hc.row h1 hv,λi q hi=>by obtain⟨x,e,hx⟩:=h2 i q hi;exact⟨x,e,hx.Er hc hS⟩⟩
theorem Rf.Er(h:Rf w base r n Lv Q)(hc:Chg S w w')(hS:NoS w S)(hf:∀k,Ve r Lv k→¬S k):Rf w' base r n Lv Q:=
 ⟨h.block.chg hc (hf r (.inl rfl)),h.row.Er hc hS λk hk=>hf k (.inr hk),h.rb,h.good⟩
theorem Rf.kind(h:Rf w base r n Lv Q){k:Nat}(hk:Ve r Lv k):∃cs e fr,w.heap[k]?=some (.cells cs e fr)/\(e=141∨e=23):=by
 rcases hk with rfl|hk
 ·exact⟨_,_,_,h.block,.inl rfl⟩
 ·obtain⟨vs,h1,_⟩:=h.row
  obtain⟨cs,fr,e⟩:=Wb h1 hk;exact⟨cs,_,fr,e,.inr rfl⟩
theorem Rf.noS(h:Rf w base r n Lv Q):NoS w (Ve r Lv):=λk hk cs e fr he=>by
 obtain⟨cs',e',fr',he',h1⟩:=h.kind hk;rw[he]at he';simp only[an,au]at he';rw[he'.2.1]
 rcases h1 with h1|h1 <;> (rw[h1];decide)
theorem Rf.lt(h:Rf w base r n Lv Q){k:Nat}(hk:Ve r Lv k):k<w.heap.size:=by
 rcases hk with rfl|hk
 ·exact h.block.lt
 ·exact(h.row.lt k hk).2
end
structure Rfs (w:World) (rs:List (Nat×Value)) (N:List Nat) (Qs:List (List Pth)):Prop where
 len:rs.length=N.length
 good:Xz N Qs
 at_:∀(i:Nat) (p:Nat×Value),rs[i]?=some p->Rf w 0 p.1 (N.getD i 0) p.2 (Qs.getD i [])
 ne:∀(i j:Nat) (p q:Nat×Value),rs[i]?=some p->rs[j]?=some q->i≠j->∀k,Ve p.1 p.2 k→¬Ve q.1 q.2 k
section
variable {w w' : World}{S:Nat->Prop}{rs:List (Nat × Value)}{N:List Nat}{Qs:List (List Pth)}
theorem Rfs.Zj(w:World):Rfs w [] [] []:=⟨rfl,trivial,λi d h=>by simp at h,λi j d e h=>by simp at h⟩
theorem Rfs.lt(h:Rfs w rs N Qs){p:Nat×Value}(hp:p∈rs){k:Nat}(hk:Ve p.1 p.2 k):k<w.heap.size:=by
 obtain⟨i,hi⟩:=ao hp;exact(h.at_ i p hi).lt hk
theorem Rfs.Er(h:Rfs w rs N Qs)(hc:Chg S w w')(hS:NoS w S)(hf:∀p∈rs,∀k,Ve p.1 p.2 k→¬S k):Rfs w' rs N Qs:=
 ⟨h.len,h.good,λi p hi=>(h.at_ i p hi).Er hc hS (hf p (af hi)),h.ne⟩
theorem NoS.none(w:World):NoS w (λ_=>False):=λ_ h=>h.elim
theorem Rfs.below(h:Rfs w rs N Qs)(hb:Below w.heap.size w w'):Rfs w' rs N Qs:=h.Er (S:=λ_=>False) (Chg.Y1 hb (ag _)) (NoS.none w) λ_ _ _ _ h=>h
theorem Rfs.Ynm(h:Rfs w rs N Qs):Qs.length=rs.length:=by rw[h.good.len,h.len]
theorem Rfs.Ys(h:Rfs w rs N Qs){i:Nat}{p p':Nat×Value}{Q':List Pth}(hi:rs[i]?=some p)(hc:Chg (Ve p.1 p.2) w w')(hd:Rf w' 0 p'.1 (N.getD i 0) p'.2 Q')(hf:∀k,Ve p'.1 p'.2 k->Ve p.1 p.2 k∨w.heap.size<=k):Rfs w' (rs.set i p') N (Qs.set i Q'):=by
 have hil:=(ak.1 hi).1
 have hq:=h.Ynm
 have hl:=h.len
 have hS:=(h.at_ i p hi).noS
 refine⟨by rw[fb];exact h.len,Xz.of (by rw[fb,hq,hl]) λj hj=>?_,λj e hj=>?_,λa b x y ha hb hab k hx hy=>?_⟩
 ·rw[Nj (by omega)]
  by_cases hij:i=j
  ·subst hij;rw[if_pos rfl];exact hd.good
  ·rw[if_neg hij];exact h.good.get hj
 ·rw[Nj (by omega)]
  rw[ee]at hj
  by_cases hij:i=j
  ·subst hij
   rw[if_pos rfl,if_pos hil]at hj;obtain rfl:=bg hj;rw[if_pos rfl];exact hd
  ·rw[if_neg hij]at hj
   rw[if_neg hij];exact(h.at_ j e hj).Er hc hS λk hk hk'=>h.ne i j p e hi hj hij k hk' hk
 ·rw[ee]at ha hb
  by_cases h1:i=a
  ·subst h1
   rw[if_pos rfl,if_pos hil]at ha;obtain rfl:=bg ha;rw[if_neg hab]at hb
   rcases hf k hx with h2|h2
   ·exact h.ne i b p y hi hb hab k h2 hy
   ·have:=h.lt (af hb) hy;omega
  ·rw[if_neg h1]at ha
   by_cases h2:i=b
   ·subst h2
    rw[if_pos rfl,if_pos hil]at hb;obtain rfl:=bg hb
    rcases hf k hy with h3|h3
    ·exact h.ne i a p x hi ha (λe=>hab e.symm) k h3 hx
    ·have:=h.lt (af ha) hx;omega
   ·rw[if_neg h2]at hb
    exact h.ne a b x y ha hb hab k hx hy
theorem Rfs.snoc(h:Rfs w rs N Qs)(hb:Below w.heap.size w w'){p:Nat×Value}{n:Nat}{Q:List Pth}(hd:Rf w' 0 p.1 n p.2 Q)(hf:∀k,Ve p.1 p.2 k->w.heap.size<=k):Rfs w' (rs++[p]) (N++[n]) (Qs++[Q]):=by
 have h':=h.below hb
 have hl:=h.len
 have hq:=h.Ynm
 refine⟨by rw[av,av,hl];rfl,Xz.of (by rw[av,av,hq,hl];rfl) λj hj=>?_,λi e hi=>?_,λi j x y hi hj hij k hx hy=>?_⟩
 ·rw[av]at hj
  simp only[List.length_singleton]at hj;rw[V7,V7]
  by_cases hjl:j=N.length
  ·rw[if_pos hjl,if_pos (by omega)];exact hd.good
  ·rw[if_neg hjl,if_neg (by omega)];exact h.good.get (by omega)
 ·rw[V7,V7]
  rcases Xy hi with⟨h1,h2⟩|⟨h1,rfl⟩
  ·rw[if_neg (by omega),if_neg (by omega)];exact h'.at_ i e h2
  ·rw[if_pos (by omega),if_pos (by omega)];exact hd
 ·rcases Xy hi with⟨h1,h2⟩|⟨h1,rfl⟩
  ·rcases Xy hj with⟨h3,h4⟩|⟨h3,rfl⟩
   ·exact h.ne i j x y h2 h4 hij k hx hy
   ·have h5:=h.lt (af h2) hx
    have h6:=hf k hy
    omega
  ·rcases Xy hj with⟨h3,h4⟩|⟨h3,rfl⟩
   ·have h5:=h.lt (af h4) hy
    have h6:=hf k hx
    omega
   ·omega
end
structure RfL (w:World) (r:Nat) (X1 X2 X3 Lv Dv:Value) (B:Nat) (rs:List (Nat×Value)) (N:List Nat) (Qs:List (List Pth)) (G:List Fct):Prop where
 blk:Block w r 88 #[X1,X2,X3,Lv,Dv]
 facts:Yx Ll 83 2 w B (λb=>b<B) Lv G
 dr:w.ownsRow B 127 1 Dv rs.length (rs.map λp=>Xk p.1)
 dicts:Rfs w rs N Qs
 rb:B<=r
theorem Pq(h:¬(e=92∨e=94∨e=96∨e=160∨e=168∨e=181)):¬St (.cells cs e fr):=h
theorem Ho(hk:∀k,F k->∃o,w.heap[k]?=some o/\St o){k:Nat}{cs:Array Value}{e:TypeId}{fr:Nat×Nat}(h:w.heap[k]?=some (.cells cs e fr))(he:¬St (.cells cs e fr)):¬F k:=λhf=>by
 obtain⟨o,ho,hl⟩:=hk k hf;rw[h]at ho;injection ho with ho
 rw[<-ho]at hl;exact he hl
section
variable {w w' : World}{F:Nat->Prop}{r B:Nat}{X1 X2 X3 Lv Dv:Value}{rs:List (Nat × Value)}{N:List Nat}{Qs:List (List Pth)}{G:List Fct}
theorem RfL.Yt9(h:RfL w r X1 X2 X3 Lv Dv B rs N Qs G)(hk:∀k,F k->∃o,w.heap[k]?=some o/\St o):¬F r:=Ho hk h.blk (Pq (by decide))
theorem RfL.lat(h:RfL w r X1 X2 X3 Lv Dv B rs N Qs G)(hc:Chg F w w')(hk:∀k,F k->∃o,w.heap[k]?=some o/\St o)(hB:∀b,b<B→¬F b):RfL w' r X1 X2 X3 Lv Dv B rs N Qs G:=by
 refine⟨h.blk.chg hc (h.Yt9 hk),Yx.chg Y3 h.facts hc (λk hk'=>?_) hB,hc.row h.dr λk hk'=>?_,h.dicts.Er hc (λk hk' cs e fr he hs=>?_) λp hp k hk'=>?_,h.rb⟩
 ·obtain⟨vs,h1,_⟩:=h.facts
  obtain⟨cs,fr,e⟩:=Wb h1 hk';exact Ho hk e (Pq (by decide))
 ·obtain⟨cs,fr,e⟩:=Wb h.dr hk'
  exact Ho hk e (Pq (by decide))
 ·subst hs
  exact Ho hk he (Pq (by decide)) hk'
 ·obtain⟨i,hi⟩:=ao hp
  obtain⟨cs,e,fr,he,h1⟩:=(h.dicts.at_ i p hi).kind hk'
  rcases h1 with rfl|rfl
  ·exact Ho hk he (Pq (by decide))
  ·exact Ho hk he (Pq (by decide))
theorem RfL.below(h:RfL w r X1 X2 X3 Lv Dv B rs N Qs G)(hb:Below w.heap.size w w'):RfL w' r X1 X2 X3 Lv Dv B rs N Qs G:=
 h.lat (F:=λ_=>False) (Chg.Y1 hb (ag _)) (λ_ h=>h.elim) λ_ _ h=>h
theorem RfL.c0(h:RfL w r X1 X2 X3 Lv Dv B rs N Qs G):w.cell? ⟨r,0,none⟩=some X1:=h.blk.cell 0
theorem RfL.c1(h:RfL w r X1 X2 X3 Lv Dv B rs N Qs G):w.cell? ⟨r,1,none⟩=some X2:=h.blk.cell 1
theorem RfL.c2(h:RfL w r X1 X2 X3 Lv Dv B rs N Qs G):w.cell? ⟨r,2,none⟩=some X3:=h.blk.cell 2
theorem RfL.c3(h:RfL w r X1 X2 X3 Lv Dv B rs N Qs G):w.cell? ⟨r,3,none⟩=some Lv:=h.blk.cell 3
theorem RfL.c4(h:RfL w r X1 X2 X3 Lv Dv B rs N Qs G):w.cell? ⟨r,4,none⟩=some Dv:=h.blk.cell 4
theorem RfL.Ki(h:RfL w r X1 X2 X3 Lv Dv B rs N Qs G):∃A c,Dv=.slice A N.length c/\rs.length=N.length/\∀i p,rs[i]?=some p->∃b,A=some ⟨b,0,none⟩∧Dv.ownBlock=some b/\b<w.heap.size/\w.cell? ⟨b,i,none⟩=some (.pointer (some ⟨p.1,0,none⟩)):=by
 have hl:=h.dicts.len
 have h1:=Vu h.dr (aq _)
 rw[show(rs.map λp=>Xk p.1)=(rs.map (·.1)).map Xk by rw[dm];rfl,show rs.length=(rs.map (·.1)).length by rw[ai]]at h1
 obtain⟨A,c,e,_,_,hat⟩:=M0 h1;rw[ai,hl]at e;exact⟨A,c,e,hl,λi p hi=>hat i p.1 (by rw[bp,hi];rfl)⟩
end
theorem Rfs.off(h:Rfs w rs N Qs)(hc:Chg (λk=>k=r) w w')(hr:w.heap[r]?=some (.cells cs e fr))(he:e≠141/\e≠23/\e≠9):Rfs w' rs N Qs:=by
 refine h.Er hc (λk hk cs' e' fr' h1=>?_) λp hp k hk hkr=>?_
 ·subst hk
  rw[hr]at h1;simp only[an,au]at h1;rw[<-h1.2.1];exact he.2.2
 ·subst hkr
  obtain⟨i,hi⟩:=ao hp;obtain⟨cs',e',fr',h1,h2⟩:=(h.at_ i p hi).kind hk;rw[hr]at h1;simp only[an,au]at h1;rw[<-h1.2.1]at h2
  rcases h2 with h2|h2
  ·exact he.1 h2
  ·exact he.2.1 h2
theorem RfL.Yxl{w8:World}{v':Value}(h:RfL w r X1 X2 X3 Lv Dv B rs N Qs G)(hb:Below w.heap.size w y){p:Nat×Value}{n:Nat}{Q:List Pth}(hd:Rf y 0 p.1 n p.2 Q)(hf:∀k,Ve p.1 p.2 k->w.heap.size<=k)(hO:w8.ownsRow B 127 1 v' (rs.length+1) (rs.map (λp=>Xk p.1)++[Xk p.1]))(hG:Zl y Dv w8 v'):
  Block w8 r 88 #[X1,X2,X3,Lv,Dv]/\RfL (w8.setCell ⟨r,4,none⟩ v') r X1 X2 X3 Lv v' B (rs++[p]) (N++[n]) (Qs++[Q]) G:=by
 have h1:=h.below hb
 have hc:=Ns hG
 have b8:=h1.blk.chg hc (Y8 h1.dr h1.blk (by decide))
 have hDk:∀k,Dv.ownBlock=some k->∃cs fr,y.heap[k]?=some (.cells cs 127 fr):=λk hk=>Wb h1.dr hk
 have hD:Rfs y (rs++[p]) (N++[n]) (Qs++[Q]):=h.dicts.snoc hb hd hf
 have hD8:Rfs w8 (rs++[p]) (N++[n]) (Qs++[Q]):=hD.Er hc (λk hk cs e fr he=>by
  obtain⟨cs',fr',h2⟩:=hDk k hk;rw[he]at h2;simp only[an,au]at h2;rw[h2.2.1]
  decide) λq hq k hk hdv=>by
  obtain⟨i,hi⟩:=ao hq;obtain⟨cs',e',fr',h2,h3⟩:=(hD.at_ i q hi).kind hk;obtain⟨cs2,fr2,h4⟩:=hDk k hdv;rw[h4]at h2;simp only[an,au]at h2;rw[<-h2.2.1]at h3
  rcases h3 with h3|h3 <;> exact absurd h3 (by decide)
 have hFv:∀(z:World),(∃vs,z.ownsRow B 83 2 Lv G.length vs)->∀k,Lv.ownBlock=some k->∃cs fr,z.heap[k]?=some (.cells cs 83 fr):=λz hz k hk=>by
  obtain⟨vs,hv⟩:=hz;exact Wb hv hk
 have hF8:=Yx.chg Y3 h1.facts hc (λk hk hdv=>by
  obtain⟨vs,hv,_⟩:=h1.facts;obtain⟨cs2,fr2,h4⟩:=hDk k hdv;obtain⟨cs3,fr3,h5⟩:=Wb hv hk;rw[h4]at h5;simp only[an,au]at h5;exact absurd h5.2.1 (by decide)) λb hb' hdv=>by have:=(bn h1.dr b hdv).1;omega
 have hs:Chg (λk=>k=r) w8 (w8.setCell ⟨r,4,none⟩ v'):=(Chg.refl _ w8).Ys r 4 v' λ_=>rfl
 have b8':w8.heap[r]?=some (.cells _ 88 _):=b8
 refine⟨b8,⟨b8.Ys 4 v',Yx.chg Y3 hF8 hs (λk hk e=>?_) (λb hb' e=>by have:=h.rb;omega),?_,hD8.off hs b8' (by decide),h.rb⟩⟩
 ·obtain⟨vs,hv,_⟩:=hF8
  exact Y8 hv b8 (by decide) (e▸hk)
 ·have h2:=hs.row hO λk hk e=>Y8 hO b8 (by decide) (e▸hk)
  simpa using h2
def RLt(w:World)(r B:Nat)(D:List Yk)(M:List Txt)(V:List (List Int))(Qs:List (List Pth))(G:List Fct):Prop:=
 ∃Lv Dv rs A1 n1 c1 A2 n2 c2 A3 n3 c3,RfL w r (.slice A1 n1 c1) (.slice A2 n2 c2) (.slice A3 n3 c3) Lv Dv B rs (Yj D) Qs G/\Vw w (λb=>b<B) A1 n1 c1 A2 n2 c2 A3 n3 c3 D M V/\Wk D M V/\∀f∈G,Ue D M.length f
section
variable {w w' : World}{F:Nat->Prop}{r B:Nat}{D:List Yk}{M:List Txt}{V:List (List Int)}{Qs:List (List Pth)}{G:List Fct}
theorem RLt.lat(h:RLt w r B D M V Qs G)(hc:Chg F w w')(hk:∀k,F k->∃o,w.heap[k]?=some o/\St o)(hB:∀b,b<B→¬F b):RLt w' r B D M V Qs G:=by
 obtain⟨Lv,Dv,rs,A1,n1,c1,A2,n2,c2,A3,n3,c3,h1,h2,h3⟩:=h;exact⟨Lv,Dv,rs,A1,n1,c1,A2,n2,c2,A3,n3,c3,h1.lat hc hk hB,h2.chg hc hB,h3⟩
theorem RLt.below(h:RLt w r B D M V Qs G)(hb:Below w.heap.size w w'):RLt w' r B D M V Qs G:=h.lat (F:=λ_=>False) (Chg.Y1 hb (ag _)) (λ_ h=>h.elim) λ_ _ h=>h
theorem RLt.Yt9(h:RLt w r B D M V Qs G)(hk:∀k,F k->∃o,w.heap[k]?=some o/\St o):¬F r:=by
 obtain⟨Lv,Dv,rs,A1,n1,c1,A2,n2,c2,A3,n3,c3,h1,h2,h3⟩:=h;exact h1.Yt9 hk
end
end
theorem Ygj:(ae.info? 127).map (λi=>(i.zero,i.size,i.bytes))=some (some (.pointer none),1,8):=by kernel_rfl
theorem Rf.Yxs(hn:1<=n/\n<=3):Rf (w.alloc (.cells #[.int .i64 n,.slice none 0 0] 141)) 0 w.heap.size n (.slice none 0 0) []:=
 ⟨Block.new w _ _,Zw.Zj _ _,aq _,Dj hn⟩
theorem Yip{c1 c2 c3:Nat}(h:Vw w (λb=>b<B) A1 n1 c1 A2 n2 c2 A3 n3 c3 D M V)(hn1:n1<=1000)(hn3:n3<=1000)(hno:¬Wk D M V):
  Calls ae 37 #[Sy A1 n1 c1 A2 n2 c2 A3 n3 c3] w λe w'=>e=.returned (.tuple #[.pointer none,.int .i64 11])/\Below w.heap.size w w':=by
 have hb1:=Yb w (.cells #[.slice A1 n1 c1,.slice A2 n2 c2,.slice A3 n3 c3] 26)
 have hX:=Block.new w 26 #[.slice A1 n1 c1,.slice A2 n2 c2,.slice A3 n3 c3]
 have HM:=Nw (h.Yc hb1).has hn1 hn3
 rw[decide_eq_false hno]at HM
 have HM:=hid HM
 go_enter fm,fh
 have x0:(w.alloc (.cells #[.slice A1 n1 c1,.slice A2 n2 c2,.slice A3 n3 c3] 26)).cell? ⟨w.heap.size,0,none⟩=some (.slice A1 n1 c1):=hX.cell 0
 have x1:(w.alloc (.cells #[.slice A1 n1 c1,.slice A2 n2 c2,.slice A3 n3 c3] 26)).cell? ⟨w.heap.size,1,none⟩=some (.slice A2 n2 c2):=hX.cell 1
 have x2:(w.alloc (.cells #[.slice A1 n1 c1,.slice A2 n2 c2,.slice A3 n3 c3] 26)).cell? ⟨w.heap.size,2,none⟩=some (.slice A3 n3 c3):=hX.cell 2
 have HB1:=hid hb1
 clear hX h hb1 hno;go_wp2_with fail;refine HM.out.mono ?_;rintro e w2 ⟨rfl,hb2⟩
 have HB2:=hid (Ya HB1.out hb2)
 clear hb2 HM x0 x1 x2;go_wp2_with fail;go_ret2;exact⟨rfl,HB2.out⟩
theorem Yhc{c1 c2 c3:Nat}(h:Vw w (λb=>b<B) A1 n1 c1 A2 n2 c2 A3 n3 c3 D M V)(hn3:n3<=1000)(hB:B<=w.heap.size)(hyes:Wk D M V):
  Calls ae 37 #[Sy A1 n1 c1 A2 n2 c2 A3 n3 c3] w λe w'=>∃r,e=.returned (.tuple #[.pointer (some ⟨r,0,none⟩),.int .i64 0])/\RLt w' r B D M V (D.map λ_=>[]) []/\w.heap.size<=r/\Below w.heap.size w w':=by
 have hd:=Wl hyes
 have hDl:=h.d.len
 have hb1:=Yb w (.cells #[.slice A1 n1 c1,.slice A2 n2 c2,.slice A3 n3 c3] 26)
 have hX:=Block.new w 26 #[.slice A1 n1 c1,.slice A2 n2 c2,.slice A3 n3 c3]
 have HM:=Nw (h.Yc hb1).has (by omega) hn3
 rw[decide_eq_true hyes]at HM
 have HM:=hid HM
 have KS:Hid (∀y,Below w.heap.size w y->Vw y (λb=>b<B) A1 n1 c1 A2 n2 c2 A3 n3 c3 D M V):=hid λy hy=>h.Yc hy
 have hnl:n1<=3:=by omega
 have HDl:=hid hDl
 have HY:=hid hyes
 go_enter fm,fh
 have x0:(w.alloc (.cells #[.slice A1 n1 c1,.slice A2 n2 c2,.slice A3 n3 c3] 26)).cell? ⟨w.heap.size,0,none⟩=some (.slice A1 n1 c1):=hX.cell 0
 have x1:(w.alloc (.cells #[.slice A1 n1 c1,.slice A2 n2 c2,.slice A3 n3 c3] 26)).cell? ⟨w.heap.size,1,none⟩=some (.slice A2 n2 c2):=hX.cell 1
 have x2:(w.alloc (.cells #[.slice A1 n1 c1,.slice A2 n2 c2,.slice A3 n3 c3] 26)).cell? ⟨w.heap.size,2,none⟩=some (.slice A3 n3 c3):=hX.cell 2
 have HB1:=hid hb1
 have HX:=hid hX
 clear hX h hb1 hyes hDl hd;go_wp2_with fail;generalize w.alloc (.cells #[.slice A1 n1 c1,.slice A2 n2 c2,.slice A3 n3 c3] 26)=w1 at HM HB1 HX x0 x1 x2⊢;refine HM.out.mono ?_;rintro e w2 ⟨rfl,hb2⟩;clear x0 x1 x2
 have KX:Hid (∀y,Below w2.heap.size w2 y->y.cell? ⟨w.heap.size,0,none⟩=some (.slice A1 n1 c1)/\y.cell? ⟨w.heap.size,1,none⟩=some (.slice A2 n2 c2)/\y.cell? ⟨w.heap.size,2,none⟩=some (.slice A3 n3 c3)):=hid λy hy=>by
  have h2:=HX.out.below hb2 HX.out.lt
  have h3:=h2.below hy h2.lt
  exact⟨h3.cell 0,h3.cell 1,h3.cell 2⟩
 obtain⟨x0,x1,x2⟩:=KX.out w2 (Below.refl _ _)
 have HB2:=hid (Ya HB1.out hb2)
 have hz2:w.heap.size<=w2.heap.size:=HB2.out.size
 clear hb2 HM
 have hblk:=Block.new w2 88 #[.slice A1 n1 c1,.slice A2 n2 c2,.slice A3 n3 c3,.slice none 0 0,.slice none 0 0]
 have hb3:=Yb w2 (.cells #[.slice A1 n1 c1,.slice A2 n2 c2,.slice A3 n3 c3,.slice none 0 0,.slice none 0 0] 88)
 have hR0:=hid (show RfL (w2.alloc (.cells #[.slice A1 n1 c1,.slice A2 n2 c2,.slice A3 n3 c3,.slice none 0 0,.slice none 0 0] 88)) w2.heap.size (.slice A1 n1 c1) (.slice A2 n2 c2) (.slice A3 n3 c3) (.slice none 0 0) (.slice none 0 0) B [] ((Yj D).take 0) (az 0 []) []from⟨hblk,Yx.Zj _ _ _,cn _ _ _ _,Rfs.Zj _,by omega⟩)
 have HB3:=hid hb3
 clear hblk hb3;go_wp2_with fail;clear x0 x1 x2;go_loopw [6] (λi wr=>∃k:Nat,k<=n1/\i=.int .i64 k/\Hid (∃Dv rs,RfL wr w2.heap.size (.slice A1 n1 c1) (.slice A2 n2 c2) (.slice A3 n3 c3) (.slice none 0 0) Dv B rs ((Yj D).take k) (az k []) []/\∀q,Dv.ownBlock=some q->w2.heap.size<=q)/\Below w2.heap.size w2 wr) (λi _=>n1-(intOf i).toNat)
 case atStart=>exact⟨0,aq _,rfl,hid ⟨_,_,hR0.out,λq hq=>by cases hq⟩,HB3.out⟩
 case round=>
  obtain⟨k,hk,rfl,hO,hBr⟩:=hrel;obtain⟨x0,x1,x2⟩:=KX.out wr hBr
  have HBr:=hid hBr
  have HBw:=hid (HB2.out.trans (hBr.mono hz2))
  clear hBr
  by_cases hlt:k<n1
  ·obtain⟨Dv,rs,hL,hlo⟩:=hO.out
   obtain⟨Ad,cd,e,hrl,_⟩:=hL.Ki
   have hrk:rs.length=k:=by rw[hrl];unfold Yj;rw[br,ai,HDl.out];omega
   rw[show((Yj D).take k).length=k by unfold Yj;rw[br,ai,HDl.out];omega]at e
   subst e;obtain⟨b,o,A',n',c',rfl,hb,_,g1,hT⟩:=(KS.out wr HBw.out).has.d.has k hlt;obtain⟨x,l,hxl⟩: ∃x l,D[k]?=some (x,l):=⟨_,_,aa (by rw[HDl.out];exact hlt)⟩
   have hgd:D.getD k Wp=(x,l):=by rw[aj,hxl];rfl
   rw[hgd]at hT
   have hll:l.length=n':=hT.len
   have hln:(Yj D).take k++[n']=(Yj D).take (k+1):=by rw[<-hll];exact Ybt hxl
   have hn':1<=n'∧n'<=3:=Ygv HY.out n' (by
    rw[<-hll];exact ax.2 ⟨(x,l),af hxl,rfl⟩)
   have i0:(0:Int)<=(k:Int):=by omega
   have i1:(k:Int)<(n1:Int):=by omega
   have p0:=hL.c4
   have HL:=hid hL
   have HLn:=hid hln
   have HRk:=hid hrk
   have hzr:=HBr.out.size
   have hBB:B<=wr.heap.size:=by omega
   clear hT hgd hxl hll hln hL hrl hrk hO
   have hb4:=Yb wr (.cells #[.int .i64 (n':Int),.slice none 0 0] 141)
   have hb5:=Yb (wr.alloc (.cells #[.int .i64 (n':Int),.slice none 0 0] 141)) (.cells #[.pointer (some ⟨wr.heap.size,0,none⟩)] 127)
   have HB7:Hid (Below wr.heap.size wr ((wr.alloc (.cells #[.int .i64 (n':Int),.slice none 0 0] 141)).alloc (.cells #[.pointer (some ⟨wr.heap.size,0,none⟩)] 127)).drew):=hid (below_drewN (Ya hb4 hb5) 1)
   have HR7:=hid (show(((wr.alloc (.cells #[.int .i64 (n':Int),.slice none 0 0] 141)).alloc (.cells #[.pointer (some ⟨wr.heap.size,0,none⟩)] 127)).drew).ownsRow B 127 1 (.slice Ad k cd) k (rs.map λp=>Xk p.1)from by
    have h:=(HL.out.below HB7.out).dr
    rwa [HRk.out]at h)
   have HC7:Hid (∀j u,[Xk wr.heap.size][j]?=some u->(((wr.alloc (.cells #[.int .i64 (n':Int),.slice none 0 0] 141)).alloc (.cells #[.pointer (some ⟨wr.heap.size,0,none⟩)] 127)).drew).cell? ((⟨wr.heap.size+1,0,none⟩:Addr).add j)=some u):=hid (Mo (wr.alloc (.cells #[.int .i64 (n':Int),.slice none 0 0] 141)) (.pointer (some ⟨wr.heap.size,0,none⟩)) 127 (wr.heap.size+1) (by rw[dt]))
   have HD7:Hid (Rf (((wr.alloc (.cells #[.int .i64 (n':Int),.slice none 0 0] 141)).alloc (.cells #[.pointer (some ⟨wr.heap.size,0,none⟩)] 127)).drew) 0 wr.heap.size n' (.slice none 0 0) []):=hid (((Rf.Yxs hn').below hb5).drewN 1)
   have hB7:B<=(((wr.alloc (.cells #[.int .i64 (n':Int),.slice none 0 0] 141)).alloc (.cells #[.pointer (some ⟨wr.heap.size,0,none⟩)] 127)).drew).heap.size:=aw hBB HB7.out.size
   have p1:=(HL.out.below hb4).c4
   have p2:=(HL.out.below (Ya hb4 hb5)).c4
   clear hb4 hb5;go_wp2_with fail;go_region_law (first
    |(refine Gx rfl _ _ rfl Ygj du rfl (by decide) B (.slice Ad k cd) k _ rfl HR7.out _ rfl [Xk wr.heap.size] rfl HC7.out (Ey _) (by omega) hB7 ?_;intro v' w8 hO8 hG8;obtain⟨A8,c8,e8⟩:=Rc hO8;subst e8;obtain⟨hb8,hM8⟩:=HL.out.Yxl (p:=(wr.heap.size,.slice none 0 0)) HB7.out HD7.out (λq hq=>(by rcases hq with hq|hq;exact bj hq.symm;cases hq)) (by rw[HRk.out];exact hO8) hG8;have p8:w8.cell? ⟨w2.heap.size,4,none⟩=some (.slice Ad k cd):=hb8.cell 4;have f8:=hb8.free 4;have HM8:=hid hM8;have HG8:=hid hG8;clear hM8 hb8 hO8 hG8))
   all_goals
    have hz7:=HB7.out.size
    have hb9:=(HBr.out.trans (HB7.out.mono hzr)).trans (HG8.out.Yw (aw hzr hz7) hlo)
    have hFin:=hid (show(∃Dv rs,RfL (w8.setCell ⟨w2.heap.size,4,none⟩ (.slice A8 (k+1) c8)) w2.heap.size (.slice (some ⟨b,o,none⟩) n1 c1) (.slice A2 n2 c2) (.slice A3 n3 c3) (.slice none 0 0) Dv B rs ((Yj D).take (k+1)) (az (k+1) []) []/\∀q,Dv.ownBlock=some q->w2.heap.size<=q)/\Below w2.heap.size w2 (w8.setCell ⟨w2.heap.size,4,none⟩ (.slice A8 (k+1) c8))from
     ⟨⟨_,_,by have h:=HM8.out;rw[HLn.out,show az k ([]:List Pth)++[[]]=az (k+1) []from List.replicate_succ'.symm]at h;exact h,λq hq=>by
      rcases HG8.out.2 q hq with h1|h1
      ·exact hlo q h1
      ·omega⟩,hb9.setCell (p:=⟨w2.heap.size,4,none⟩) (ag _) _⟩)
    clear HM8 p8 f8 p1 p2 HB7 HR7 HC7 HD7 p0 hlo hb9 HG8;go_wp2_with fail;go_roundw
    case rel=>exact⟨k+1,by omega,by go_num,hid hFin.out.1,hFin.out.2⟩
    case measure=>simp[intOf];omega
  ·obtain⟨Dv,rs,hL,_⟩:=hO.out
   have hkn:k=n1:=by omega
   rw[ar (by unfold Yj;rw[ai,HDl.out];omega),show az k ([]:List Pth)=D.map (λ_=>[])by rw[List.map_const',HDl.out,hkn]]at hL
   have hF:=hid (show RLt wr w2.heap.size B D M V (D.map λ_=>[]) []/\Below w.heap.size w wr from⟨⟨_,Dv,rs,A1,n1,c1,A2,n2,c2,A3,n3,c3,hL,KS.out wr HBw.out,HY.out,λf hf=>by simp at hf⟩,HBw.out⟩)
   clear hL hO;go_wp2_with fail;go_ret2;exact⟨_,rfl,hF.out.1,hz2,hF.out.2⟩
def Yle:ElT Nat:=λ_ _ us g=>us=[Xk g]
theorem Cf:Yle.Ok:=λ_ _ _ _ _ _ _ h=>h
theorem G6{v:Value}{L:List Nat}(h:Yx Yle T 1 w base S v L):w.ownsRow base T 1 v L.length (L.map Xk):=by
 obtain⟨vs,h1,h2⟩:=h
 have e:vs=L.map Xk:=by
  have hl:=h1.1
  refine List.ext_getElem? λi=>?_
  rw[bp]
  by_cases hi:i<L.length
  ·have hL:L[i]?=some (L[i]'hi):=aa hi
   have h3:=h2 i _ hL
   have h4:=congrArg (λl=>l[0]?) (show(vs.drop (i*1)).take 1=[Xk (L[i]'hi)]from h3)
   simp only[Nat.mul_one,dp,dq,Nat.lt_one_iff,if_true,fq,di]at h4;rw[h4,hL];rfl
  ·rw[bz (by omega),bz (by omega)]
   rfl
 rw[<-e];exact h1
theorem Yex{α:Type}{E:ElT α}(hE:E.Ok){T TS:TypeId}{sz bytes:Nat}{z:Value}{w:World}{ops:Array Oper}{rest:List Oper}{o:Oper}{a:Act}{Q:Exit->Act->World->Prop}(hgd:o.guard=none)(s x:Operand)
  (ho:o.op=.call {callee:=.builtin .append,args:=#[s,x],argTypes:=#[TS,TS]}) (hinfo:(ae.info? T).map (λi=>(i.zero,i.size,i.bytes))=some (some z,sz,bytes)) (hTS:ae.underlying TS=some (.slice T)) (hzs:z.cells.size=sz) (hsz:0<sz/\sz<=100/\bytes<=1000)
  (base base0:Nat) (S:Nat->Prop) (hs:a.eval s=.slice none 0 0) (u:Value) (L2:List α) (hx:a.eval x=u) (hr:Yx E T sz w base0 S u L2) (hone:∀S us y,E w S us y->us.length=sz->∀u∈us,u.oneCell'=true) (hlen:L2.length<=1000000) (hbase:base<=w.heap.size)
  (h:∀v' w',Yx E T sz w' base S v' L2->Zl w (.slice none 0 0) w' v'→wpList ae ops Q rest (a.put o.dst v') w'):wpList ae ops Q (o::rest) a w:=by
 obtain⟨i,hi,hz0,hz1,hz2⟩:=info_parts hinfo;obtain⟨us,u1,u2⟩:=hr
 have hul:=u1.1
 rcases u1.2 with⟨rfl,h0⟩|⟨g,cap,cur,rfl,hb,hg,hnc,hcm,hcs,ht⟩
 ·obtain rfl:L2=[]:=dd h0
  refine wpList_plain hgd λK' hK=>?_
  have hrun:=run_append_owned_none (P:=ae) (w:=w) base TS o.type T i sz hTS hi (.slice none 0 0) 0 [] (cn _ _ _ _)
  unfold Oper.wp execOp;simp only[ho,resolve,invoke,builtin,Sem.run_bind,Sem.run_pure,ch,dc,dh,dj,hs,hx,hrun];exact hK _ _ (h _ w (Yx.Zj _ _ _) (Zl.refl w _))
 ·have hcells:=df u1 (g:=g) rfl
  have hcut:∀j,j<L2.length->((us.drop (j*sz)).take sz).length=sz:=λj hj=>by
   have:j*sz+sz<=L2.length*sz:=by rw[<-Nat.succ_mul];exact Nat.mul_le_mul_right sz hj
   rw[br,List.length_drop];omega
  have h1c:∀u∈us,u.oneCell'=true:=λu hu=>by
   obtain⟨t,ht⟩:=ao hu
   have htl:=(ak.1 ht).1
   have hj:t/sz<L2.length:=(Nat.div_lt_iff_lt_mul hsz.1).2 (by omega)
   have hm:t%sz<sz:=Nat.mod_lt _ hsz.1
   refine hone _ _ _ (u2 (t/sz) _ (aa (by omega))) (hcut _ hj) u (af (i:=t%sz) ?_)
   rw[dp,if_pos hm,dq,Nat.mul_comm,Nat.div_add_mod,ht]
  refine wpList_append_own_at w hgd s x TS ho base T i _ sz bytes hTS hi hz0 hz1 hz2 hzs hsz.1 (.slice none 0 0) 0 [] hs (cn _ _ _ _) ⟨g,0,none⟩ L2.length cap us hx hul hcells h1c (by unfold maxLen;omega) (by have h9:=fc hlen hsz.2.2;rw[fp];omega) hbase ?_
  intro v' w' e1 e2 _ e4
  have hG:Zl w (.slice none 0 0) w' v':=⟨e2,λk hk=>by
   rcases e4 with e4|e4
   ·exact .inl (e4▸hk)
   ·rw[e4]at hk
    injection hk with hk
    exact .inr (bj hk)⟩
  have hm:Mv w (λk=>S k/\(Value.slice none 0 0).ownBlock≠some k) w' (λk=>S k/\v'.ownBlock≠some k):=Mv.Ly hG
  refine h v' w' ⟨us,by rw[ei,fp]at e1;exact e1,λj y hj=>hE _ _ _ _ _ _ hm (hE _ _ _ _ _ _ (Mv.to w λb hb _=>⟨hb.1,λe=>by cases e⟩) (u2 j y hj))⟩ hG
theorem Ykr{w:World}{ops:Array Oper}{o:Oper}{a:Act}{Q:Exit->Act->World->Prop}{K:Act->World->Prop}{Fl:Prop}(hgd:o.guard=none)(s x:Operand)
  (ho:o.op=.call {callee:=.builtin .append,args:=#[s,x],argTypes:=#[69,69]})
  (base:Nat) (v:Value) (R:List Pth) (hs:a.eval s=v) (hown:Zw w base v R) (u:Value) (P:List Pth) (hx:a.eval x=u) (hu:Zw w base u P) (hl:R.length+P.length<=1000000) (hbase:base<=w.heap.size)
  (h:∀v' w',Zw w' base v' (R++P)->Zl w v w' v'→K (a.put o.dst v') w'):
  if Region.wanted o (yielded ops a.tmps)=true then Oper.wp ae o a w K Q else Fl:=by
 have hw:Region.wanted o (yielded ops a.tmps)=true:=by simp[Region.wanted,hgd]
 rw[if_pos hw];obtain⟨i,hi,hz0,hz1,hz2⟩:=info_parts Kl
 have hown0:=hown
 obtain⟨vs,h1,h2⟩:=hown;obtain⟨us,u1,u2⟩:=hu
 have hul:us.length=P.length:=by have:=u1.1;omega
 rcases u1.2 with⟨rfl,h0⟩|⟨g,cap,cur,rfl,hb,hg,hnc,hcm,hcs,ht⟩
 ·obtain rfl:P=[]:=dd h0
  have hrun:=run_append_owned_none (P:=ae) (w:=w) base 69 o.type 23 i 1 dw hi v R.length vs h1
  unfold Oper.wp execOp;simp only[ho,resolve,invoke,builtin,Sem.run_bind,Sem.run_pure,ch,dc,dh,dj,hs,hx,hrun];exact h v w (by rw[List.append_nil];exact hown0) (Zl.refl w v)
 ·have hcells:=df u1 (g:=g) rfl
  have hones:∀x∈us,x.oneCell'=true:=λx hx=>by
   obtain⟨j,hj⟩:=ao hx
   have hjl:j<P.length:=by have:=(ak.1 hj).1;omega
   obtain⟨x',e,hx'⟩:=u2 j _ (aa hjl);rw[hj]at e;obtain rfl:=bg e;obtain⟨A',c',rfl,_⟩:=hx'.form;rfl
  obtain⟨v',w',hrun,e1,e2,_,e4⟩:=run_append_own_at (P:=ae) w base 69 o.type 23 i _ 1 24 dw hi hz0 hz1 hz2 rfl (by decide) v R.length vs h1 ⟨g,0,none⟩ P.length cap us (by omega) hcells hones (by unfold maxLen;omega) (by omega) hbase
  unfold Oper.wp execOp;simp only[ho,resolve,invoke,builtin,Sem.run_bind,Sem.run_pure,ch,dc,dh,dj,hs,hx,hrun];refine h v' w' (Zw.more h1 h2 hul u2 e1 e2) ⟨e2,λk hk=>?_⟩
  rcases e4 with e4|e4
  ·exact .inl (e4▸hk)
  ·rw[e4]at hk
   injection hk with hk
   exact .inr (bj hk)
theorem Yvs{L0 v:Value}{Q:List Pth}(hb:Block w r 141 #[.int .i64 n,L0])(hO:Zw w 0 v Q)(hg:Good n Q):Rf (w.setCell ⟨r,1,none⟩ v) 0 r n v Q:=by
 refine⟨hb.Ys 1 v,hO.chg ((Chg.refl _ w).Ys r 1 v λ_=>rfl:Chg (λk=>k=r) w _) (λk hk cs e fr he=>?_),aq _,hg⟩
 subst hk
 have hb':w.heap[k]?=some (.cells _ 141 _):=hb
 rw[hb']at he;simp only[an,au]at he;rw[<-he.2.1];exact⟨by decide,by decide⟩
theorem RfL.swap{v6 Dv2:Value}{rs3:List (Nat×Value)}{G':List Fct}(h:RfL w r X1 X2 X3 Lv Dv B rs N Qs G)(hO:Yx Ll 83 2 w B (λb=>b<B) v6 G')(hd:w.ownsRow B 127 1 Dv2 rs3.length (rs3.map λp=>Xk p.1))(hR:Rfs w rs3 N Rs):
  RfL ((w.setCell ⟨r,3,none⟩ v6).setCell ⟨r,4,none⟩ Dv2) r X1 X2 X3 v6 Dv2 B rs3 N Rs G':=by
 have hc:Chg (λk=>k=r) w ((w.setCell ⟨r,3,none⟩ v6).setCell ⟨r,4,none⟩ Dv2):=((Chg.refl (λk=>k=r) w).Ys r 3 v6 λ_=>rfl).Ys r 4 Dv2 λ_=>rfl
 have b1:Block w r 88 #[X1,X2,X3,Lv,Dv]:=h.blk
 have b1':w.heap[r]?=some (.cells _ 88 _):=b1
 refine⟨(b1.Ys 3 v6).Ys 4 Dv2,Yx.chg Y3 hO hc (λk hk e=>?_) (λb hb e=>by have:=h.rb;omega),hc.row hd λk hk e=>Y8 hd b1 (by decide) (e▸hk),hR.off hc b1' (by decide),h.rb⟩
 obtain⟨vs,hv,_⟩:=hO;exact Y8 hv b1 (by decide) (e▸hk)
theorem Yu2(w:World)(r:Nat)(u v:Value):Chg (λk=>k=r) w ((w.setCell ⟨r,3,none⟩ u).setCell ⟨r,4,none⟩ v):=((Chg.refl (λk=>k=r) w).Ys r 3 u λ_=>rfl).Ys r 4 v λ_=>rfl
def Rt(w:World)(r B:Nat)(D:List Yk)(M:List Txt)(V:List (List Int))(Qs:List (List Pth))(G G2:List Fct)(e:Ending)(w':World):Prop:=
 e=.returned (.int .i64 ((Y9 D M V (G.map Zy) Qs G2).2:Nat))/\Chg (λk=>k=r) w w'∧RLt w' r B D M V (Y9 D M V (G.map Zy) Qs G2).1.2 (if (Y9 D M V (G.map Zy) Qs G2).2=0 then G++G2 else G)
theorem Rt.no(h:RLt w r B D M V Qs G){x:Nat}(hx:Y9 D M V (G.map Zy) Qs G2=((G.map Zy,Qs),x))(hx0:x≠0)(hb:Below w.heap.size w w'):Rt w r B D M V Qs G G2 (.returned (.int .i64 (x:Nat))) w':=by
 refine⟨by rw[hx],Chg.Y1 (S:=λk=>k=r) hb (ag _),?_⟩
 rw[hx,if_neg hx0];exact h.below hb
structure K7 (w1 w:World) (gs:List Nat) (uv:Value) (N:List Nat) (Qs:List (List Pth)) (rs:List (Nat×Value)):Prop where
 gv:rs.map (·.1)=gs
 fs:Rfs w rs N Qs
 lo:∀p∈rs,∀q,Ve p.1 p.2 q->w1.heap.size<=q
 row:w.ownsRow w1.heap.size 127 1 uv gs.length (gs.map Xk)
 bel:Below w1.heap.size w1 w
theorem K7.below(h:K7 w1 w gs uv N Qs rs)(hb:Below w.heap.size w w'):K7 w1 w' gs uv N Qs rs:=
 ⟨h.gv,h.fs.below hb,h.lo,M5 h.row hb,h.bel.trans (hb.mono h.bel.size)⟩
theorem K7.Ys(h:K7 w1 w gs uv N Qs rs){i:Nat}{p:Nat×Value}{Lv':Value}{Q':List Pth}(hi:rs[i]?=some p)(hc:Chg (Ve p.1 p.2) w w')(hd:Rf w' 0 p.1 (N.getD i 0) Lv' Q')(hf:∀k,Lv'.ownBlock=some k->p.2.ownBlock=some k∨w.heap.size<=k):K7 w1 w' gs uv N (Qs.set i Q') (rs.set i (p.1,Lv')):=by
 have hm:=af hi
 have hf': ∀k,Ve p.1 Lv' k->Ve p.1 p.2 k∨w.heap.size<=k:=by
  rintro k (hk|hk)
  ·exact .inl (.inl hk)
  ·rcases hf k hk with h2|h2
   ·exact .inl (.inr h2)
   ·exact .inr h2
 refine⟨by rw[Jj (f:=λp:Nat×Value=>p.1) (y:=(p.1,Lv')) hi rfl];exact h.gv,h.fs.Ys hi hc hd hf',λq hq k hk=>?_,hc.row h.row λk hk hk'=>?_,h.bel.trans (hc.below h.bel.size λk hk=>h.lo p hm k hk)⟩
 ·rcases List.mem_or_eq_of_mem_set hq with hq|rfl
  ·exact h.lo q hq k hk
  ·rcases hf' k hk with h2|h2
   ·exact h.lo p hm k h2
   ·have:=h.bel.size;omega
 ·obtain⟨cs,fr,e⟩:=Wb h.row hk
  obtain⟨cs',e',fr',he,h1⟩:=(h.fs.at_ i p hi).kind hk';rw[e]at he;simp only[an,au]at he;rw[<-he.2.1]at h1
  rcases h1 with h1|h1 <;> exact absurd h1 (by decide)
theorem K7.ptr(h:K7 w1 w gs uv N Qs rs):∃A c,uv=.slice A gs.length c/\gs.length=N.length/\∀i p,rs[i]?=some p->∃b,A=some ⟨b,0,none⟩∧w.cell? ⟨b,i,none⟩=some (.pointer (some ⟨p.1,0,none⟩)):=by
 obtain⟨A,c,e,_,_,hat⟩:=M0 (Vu h.row (aq _));refine⟨A,c,e,by rw[<-h.gv,ai];exact h.fs.len,λi p hi=>?_⟩
 obtain⟨b,e1,_,_,e2⟩:=hat i p.1 (by rw[<-h.gv,bp,hi];rfl)
 exact⟨b,e1,e2⟩
theorem Yay(h:RLt w r B D M V Qs G){Af:Option Addr}{nf cf:Nat}(hF:S0 w (λb=>b<B) Af nf cf G2)(hn:G.length<=900):
  Calls ae 31 #[.pointer (some ⟨r,0,none⟩),.slice Af nf cf] w (Rt w r B D M V Qs G G2):=by
 have HR0:=hid h
 obtain⟨Lv,Dv,rs,A1,n1,c1,A2,n2,c2,A3,n3,c3,h1,h2,hm,hfit⟩:=h
 have hd:=Wl hm
 have hsm:=Rw hm
 have hDl:=h2.d.len
 have hVl:=h2.v.len
 have HMl:=hid h2.m.len
 have hV6:V.length<=1000:=by have:=Wx hm;simp[Yg]at this;omega
 have hn1:n1<=1000:=by omega
 have hn3:n3<=1000:=by omega
 obtain⟨Ad,cd,e,hrl,_⟩:=h1.Ki;subst e;obtain⟨AL,cL,e⟩:=h1.facts.shape;subst e;obtain⟨ng,hng⟩: ∃ng,G.length=ng:=⟨_,rfl⟩;rw[hng]at h1 hn
 have Hng:=hid hng
 clear hng;obtain⟨nd,hnd⟩: ∃nd,Hid ((Yj D).length=nd):=⟨_,hid rfl⟩;rw[hnd.out]at h1 hrl
 have hnd3:nd<=3:=by have:=hnd.out;unfold Yj at this;rw[ai]at this;omega
 have hBs:B<=w.heap.size:=by have:=h1.blk.lt;have:=h1.rb;omega
 have KR:Hid (∀y,Below w.heap.size w y->RfL y r (.slice A1 n1 c1) (.slice A2 n2 c2) (.slice A3 n3 c3) (.slice AL ng cL) (.slice Ad nd cd) B rs (Yj D) Qs G):=hid λy hy=>h1.below hy
 have KS:Hid (∀y,Below w.heap.size w y->Vw y (λb=>b<B) A1 n1 c1 A2 n2 c2 A3 n3 c3 D M V):=hid λy hy=>h2.Yc hy
 have KF:Hid (∀y,Below w.heap.size w y->S0 y (λb=>b<B) Af nf cf G2):=hid λy hy=>hF.mv Y3 (Mv.Yc hy _)
 have HFl:=hid hF.len
 have hfm:=hF.Ym
 have HM:=Yhz (h2.has) hn1 hn3 hF
 have HY:=hid hm
 have HFit:=hid hfit
 have HGd:=hid h1.dicts.good
 have c0:=h1.c0
 have c1':=h1.c1
 have c2':=h1.c2
 have Hrl:=hid hrl
 clear h1 h2 hF hm hsm hd hDl hVl hV6 hfit hrl;go_enter Tryz.func31,Tryz.ntmps31
 by_cases hx:Wf D M V G2=0
 ·rw[hx]at HM
  have HM:=hid HM
  have Hx:=hid hx
  have HGn:=hid (Ybw hx)
  clear hx;go_wp2_with fail;refine HM.out.mono ?_;rintro e w1 ⟨rfl,hb1⟩
  have HB1:=hid hb1
  have hz1:w.heap.size<=w1.heap.size:=hb1.size
  clear c0 c1' c2' hb1 HM;go_wp2_with fail;go_loopw [6,7,8] (λu i _ wr=>∃k:Nat,k<=nd/\i=.int .i64 k/\Hid (∃rs2:List (Nat×Value),Yx Yle 127 1 wr w1.heap.size (λ_=>False) u (rs2.map (·.1))/\rs2.length=k/\Rfs wr rs2 ((Yj D).take k) (Qs.take k)/\∀p∈rs2,∀q,Ve p.1 p.2 q->w1.heap.size<=q)/\Below w1.heap.size w1 wr) (λ_ i _ _=>nd-(intOf i).toNat)
  case atStart=>exact⟨0,aq _,rfl,hid ⟨[],Yx.Zj _ _ _,rfl,Rfs.Zj _,λp hp=>by simp at hp⟩,Below.refl _ _⟩
  case round=>
   obtain⟨k,hk,rfl,hO,hB⟩:=hrel
   have HB:=hid hB
   have HBw:=hid (HB1.out.trans (hB.mono hz1))
   have hzr:w1.heap.size<=wr.heap.size:=hB.size
   clear hB
   have c4:=(KR.out wr HBw.out).c4
   by_cases hlt:k<nd
   ·obtain⟨⟨r0,v0⟩,hp⟩: ∃p,Hid (rs[k]?=some p):=⟨_,hid (aa (by have:=Hrl.out;omega))⟩
    have hRr:=KR.out wr HBw.out
    obtain⟨Ad',cd',e,_,hat⟩:=hRr.Ki;rw[hnd.out]at e;injection e with e1 _ e3
    subst e1 e3;obtain⟨bd,rfl,_,hbd,gp⟩:=hat k _ hp.out
    have hRf:=hRr.dicts.at_ k _ hp.out
    obtain⟨n,hn'⟩: ∃n,Hid ((Yj D).getD k 0=n):=⟨_,hid rfl⟩;obtain⟨Q,hQ⟩: ∃Q,Hid (Qs.getD k []=Q):=⟨_,hid rfl⟩
    have hRf:Rf wr 0 r0 n v0 Q:=by rw[<-hn'.out,<-hQ.out];exact hRf
    have q0:=hRf.c0
    obtain⟨Aq,cq,rfl,_⟩:=hRf.row.form
    have q1:=hRf.c1
    have i0:(0:Int)<=(k:Int):=by omega
    have i1:(k:Int)<(nd:Int):=by omega
    have HRf:=hid hRf
    have HQl:=hRf.good.size
    have hb4:=Yb wr (.cells #[.int .i64 n,.slice none 0 0] 141)
    have hbk:=Block.new wr 141 #[.int .i64 n,.slice none 0 0]
    have c4z:=(KR.out _ (HBw.out.trans (hb4.mono HBw.out.size))).c4
    have gpz:(wr.alloc (.cells #[.int .i64 n,.slice none 0 0] 141)).cell? ⟨bd,k,none⟩=some (.pointer (some ⟨r0,0,none⟩)):=(hb4.cell (p:=⟨bd,k,none⟩) hbd).trans gp
    have q1z:(wr.alloc (.cells #[.int .i64 n,.slice none 0 0] 141)).cell? ⟨r0,1,none⟩=some (.slice Aq Q.length cq):=(hRf.below hb4).c1
    have HRz:=hid ((hRf.below hb4).row)
    have e1z:(wr.alloc (.cells #[.int .i64 n,.slice none 0 0] 141)).cell? ⟨wr.heap.size,1,none⟩=some (.slice none 0 0):=hbk.cell 1
    clear hRr hRf hat hbd;go_wp2_with fail;clear c4 gp q0 q1;obtain⟨bx,hbx⟩: ∃bx,wr.heap.size=bx:=⟨_,rfl⟩
    have HB4:=hid hb4
    have hz4:wr.heap.size<=(wr.alloc (.cells #[.int .i64 n,.slice none 0 0] 141)).heap.size:=hb4.size
    clear hb4;rw[hbx]at hbk e1z⊢;generalize wr.alloc (.cells #[.int .i64 n,.slice none 0 0] 141)=W0 at hbk c4z gpz q1z HRz e1z HB4 hz4⊢
    have HBk:=hid hbk
    have HBx:=hid hbx
    clear hbx hbk;go_region_law (first
     |(refine Ykr rfl _ _ rfl 0 (.slice none 0 0) [] rfl (Zw.Zj _ _) (.slice Aq Q.length cq) Q rfl HRz.out (by simp;omega) (aq _) ?_;intro v8 w8 hO8 hG8;have hb8:Below W0.heap.size W0 w8:=(below_drewN (Below.refl _ W0) 1).trans (hG8.Yw (ag _) (λj e=>(by cases e)));have hbk8:=HBk.out.below hb8 HBk.out.lt;have p8:w8.cell? ⟨bx,1,none⟩=some (.slice none 0 0):=hbk8.cell 1;have f8:=hbk8.free 1;have HO8:=hid hO8;have HG8:=hid hG8;have HB8:=hid hb8;have HBk8:=hid hbk8;obtain⟨A8,c8,e8,_⟩:=hO8.form;subst e8;clear hO8 hG8 hb8 hbk8))
    all_goals
     rw[ei]at HO8
     have HR9:=hid (Yvs HBk8.out HO8.out HRf.out.good)
     have hB9:Below wr.heap.size wr (w8.setCell ⟨bx,1,none⟩ (.slice A8 Q.length c8)):=(HB4.out.trans (HB8.out.mono hz4)).setCell (p:=⟨bx,1,none⟩) (bj HBx.out) _
     have HB9:=hid hB9
     obtain⟨rs2,hOv,hrl2,hfs2,hlo2⟩:=hO.out
     have hzs:=HB8.out.size
     have HSn:=hid (hfs2.snoc hB9 (p:=(bx,.slice A8 Q.length c8)) HR9.out (λq hq=>by
      rcases hq with hq|hq
      ·have:=HBx.out;have hq:q=bx:=hq;omega
      ·rcases HG8.out.2 q hq with h1|h1
       ·cases h1
       ·have h1:W0.heap.size<=q:=h1
        omega))
     have hHT:(Yj D).take k++[n]=(Yj D).take (k+1):=by rw[<-hn'.out];exact(Nb 0 (by rw[hnd.out];exact hlt)).symm
     have hQT:Qs.take k++[Q]=Qs.take (k+1):=by rw[<-hQ.out];exact(Nb [] (by rw[HGd.out.len,hnd.out];exact hlt)).symm
     rw[hHT,hQT]at HSn
     have HOv:=hid ((hOv.below Cf hB9).alloc Cf (.cells #[.pointer (some ⟨bx,0,none⟩)] 127))
     have hb10:=hB9.trans ((Yb (w8.setCell ⟨bx,1,none⟩ (.slice A8 Q.length c8)) (.cells #[.pointer (some ⟨bx,0,none⟩)] 127)).mono hB9.size)
     have HB10:=hid (HB.out.trans (hb10.mono hzr))
     have hbs:w1.heap.size<=((w8.setCell ⟨bx,1,none⟩ (.slice A8 Q.length c8)).alloc (.cells #[.pointer (some ⟨bx,0,none⟩)] 127)).heap.size:=HB10.out.size
     have HSn10:=hid (HSn.out.below (Yb (w8.setCell ⟨bx,1,none⟩ (.slice A8 Q.length c8)) (.cells #[.pointer (some ⟨bx,0,none⟩)] 127)))
     have hlb:Hid ((rs2.map (·.1)).length<=1000000):=hid (by rw[ai];omega)
     have hloO:=hOv.lt
     have HLo2:=hid (show ∀p∈rs2++[(bx,Value.slice A8 Q.length c8)],∀q,Ve p.1 p.2 q->w1.heap.size<=q from λp hp q hq=>by
      rcases dg.1 hp with hp|hp
      ·exact hlo2 p hp q hq
      ·rw[dn.1 hp]at hq
       rcases hq with hq|hq
       ·have:=HBx.out;have hq:q=bx:=hq;omega
       ·rcases HG8.out.2 q hq with h1|h1
        ·cases h1
        ·have h1:W0.heap.size<=q:=h1
         omega)
     have HC10:=hid (Mo (w8.setCell ⟨bx,1,none⟩ (.slice A8 Q.length c8)) (.pointer (some ⟨bx,0,none⟩)) 127 w8.heap.size (by simp[World.setCell]))
     clear hB9 hfs2 hlo2 hOv HRz c4z gpz q1z e1z HR9 hb10 hO hHT hQT;go_wp2_with (at_builtin;refine Z9 Cf rfl _ _ rfl Ygj du rfl (by decide) w1.heap.size (λ_=>False) u6 (rs2.map (·.1)) rfl HOv.out _ rfl [Xk bx] rfl bx HC10.out (Ey bx) rfl hlb.out hbs ?_)
     intro v11 w11 hO11 hG11
     have hFin:=hid (show(∃rs3:List (Nat×Value),Yx Yle 127 1 w11 w1.heap.size (λ_=>False) v11 (rs3.map (·.1))/\rs3.length=k+1/\Rfs w11 rs3 ((Yj D).take (k+1)) (Qs.take (k+1))/\∀p∈rs3,∀q,Ve p.1 p.2 q->w1.heap.size<=q)/\Below w1.heap.size w1 w11 from
      ⟨⟨rs2++[(bx,Value.slice A8 Q.length c8)],by rw[bs];exact hO11,by rw[av,hrl2];rfl,HSn10.out.Er (Ns hG11) (λq hq cs e fr he=>by
       obtain⟨cs',fr',h1⟩:=Wb (G6 HOv.out) hq;rw[he]at h1;simp only[an,au]at h1;rw[h1.2.1]
       decide) (λp hp q hq hqv=>by
       obtain⟨i,hi⟩:=ao hp;obtain⟨cs',e',fr',h1,h2⟩:=(HSn10.out.at_ i p hi).kind hq;obtain⟨cs2,fr2,h3⟩:=Wb (G6 HOv.out) hqv;rw[h3]at h1;simp only[an,au]at h1;rw[<-h1.2.1]at h2
       rcases h2 with h2|h2 <;> exact absurd h2 (by decide)),HLo2.out⟩,HB10.out.trans (hG11.Yw hbs λj e=>(hloO j e).1)⟩)
     clear hO11 hG11 p8 f8;go_wp2_with fail;go_roundw
     case rel=>exact⟨k+1,by omega,by go_num,hid hFin.out.1,hFin.out.2⟩
     case measure=>simp[intOf];omega
   ·have hkn:k=nd:=by omega
    subst hkn;obtain⟨rs2,hOv,hrl2,hfs2,hlo2⟩:=hO.out;rw[ar (by rw[hnd.out];exact ag _),ar (by rw[HGd.out.len,hnd.out];exact ag _)]at hfs2
    obtain⟨gs,hgs⟩: ∃gs,rs2.map (·.1)=gs:=⟨_,rfl⟩
    have hgl:gs.length=k:=by rw[<-hgs,ai];exact hrl2
    have hC0:K7 w1 wr gs u6 (Yj D) Qs rs2:=⟨hgs,hfs2,hlo2,by rw[<-hgs,ai];have h:=G6 hOv;rwa [ai]at h,HB.out⟩
    obtain⟨Au,cu,e,eg,eh⟩:=hC0.ptr;clear eg eh;rw[hgl]at e;subst e
    have HC0:=hid hC0
    have HGl:=hid hgl
    clear hOv hrl2 hfs2 hlo2 hC0 hgs hgl hO;go_wp2_with fail;clear c4;go_loopw [9,10,11,12] (λi _ _ _ wr=>∃(t:Nat) (rs3:List (Nat×Value)) (Rs:List (List Pth)),t<=nf/\i=.int .i64 t/\Hid (K7 w1 wr gs (.slice Au k cu) (Yj D) Rs rs3/\Zh (Yj D) Qs (G2.take t)=(Rs,0))) (λi _ _ _ _=>nf-(intOf i).toNat)
    case atStart=>exact⟨0,rs2,Qs,aq _,rfl,hid ⟨HC0.out,rfl⟩⟩
    case round=>
     obtain⟨t,rs3,Rs,ht,rfl,hS⟩:=hrel
     by_cases hlt2:t<nf
     ·obtain⟨hCm,hAd⟩:=hS.out
      have hBw:=HB1.out.trans (hCm.bel.mono hz1)
      obtain⟨b,o,P,np,cp,Q',nq,cq,p,q,rfl,_,_,_,_,hp,_,he⟩:=(KF.out wr hBw).at2 hlt2
      have hfp:=Mb Hx.out _ (af he.out)
      have hpl:p.length=k:=by
       have h9:p.length=D.length:=hfp.2.1
       have h8:=hnd.out
       unfold Yj at h8;rw[ai]at h8;omega
      have hRl:Rs.length=k:=by rw[hCm.fs.good.len,hnd.out]
      have hnp:np=k:=by have h9:=hp.len;omega
      subst hnp
      have HPl:Hid (p.length=(Yj D).length):=hid (by rw[hnd.out];exact hpl)
      have HRl:Hid (Rs.length=(Yj D).length):=hid (by rw[hnd.out];exact hRl)
      have HCm:=hid hCm
      have HAd:=hid hAd
      have i0:(0:Int)<=(t:Int):=by omega
      have i1:(t:Int)<(nf:Int):=by omega
      clear hBw hp hfp hpl hRl hCm hAd hS;obtain⟨wo,rfl⟩: ∃wo,wo=wr:=⟨_,rfl⟩;go_wp2_with fail;go_loopw [10] (λj wr=>∃(jn:Nat) (rs4:List (Nat×Value)),jn<=np/\j=.int .i64 jn/\Hid (K7 w1 wr gs (.slice Au np cu) (Yj D) (Qb (Yj D) Rs p jn) rs4/\∀i,i<jn->Ru (Yj D) Rs p i=0)) (λj _=>np-(intOf j).toNat)
      case atStart=>exact⟨0,rs3,aq _,rfl,hid ⟨by rw[Yae];exact HCm.out,λi hi=>absurd hi (by omega)⟩⟩
      case round=>
       obtain⟨jn,rs4,hjn,rfl,hS2⟩:=hrel
       by_cases hlt3:jn<np
       ·obtain⟨hC2,hE2⟩:=hS2.out
        have hBw:=HB1.out.trans (hC2.bel.mono hz1)
        obtain⟨b5,o5,P5,np5,cp5,Q5,nq5,cq5,p5,q5,e5,_,_,gp,_,hp5,_,he5⟩:=(KF.out wr hBw).at2 hlt2;injection e5 with e5
        injection e5 with e5a e5b
        subst e5a e5b
        have hpq:(p5,q5)=(p,q):=by have h9:=he5.out;rw[he.out]at h9;exact(bg h9).symm
        injection hpq with hpq1 hpq2
        subst hpq1 hpq2
        have hnp5:np5=np:=by have h9:=hp5.len;have h8:=HPl.out;rw[hnd.out]at h8;omega
        subst hnp5;obtain⟨b1,o1,A',n',c',pj,rfl,hSb1,_,gpj,hpp,hpe⟩:=hp5.at1 hlt3;obtain⟨Au',cu',e6,e6g,hat⟩:=hC2.ptr;injection e6 with e6a e6n e6c
        clear e6n e6g;subst e6a e6c;obtain⟨p4,hp4⟩: ∃p4,Hid (rs4[jn]?=some p4):=⟨_,hid (aa (by have h9:=hC2.fs.len;rw[hnd.out]at h9;omega))⟩
        obtain⟨bu,rfl,gu⟩:=hat jn p4 hp4.out
        have hRf:=hC2.fs.at_ jn p4 hp4.out
        rw[Ybm HRl.out HPl.out (by rw[hnd.out];exact hlt3)]at hRf
        have epj:p5.getD jn []=pj:=by rw[aj,hpe.out];rfl
        have hfar:0<n'→∀ad,A'=some ad→¬Ve p4.1 p4.2 ad.block:=λhn' ad ead hf=>by
         obtain⟨b9,o9,_,_,e9,hS9,_⟩:=hpp.at_ hn';rw[ead]at e9;injection e9 with e9
         rw[e9]at hf
         have h8:=hC2.lo p4 (af hp4.out) _ hf
         have h7:b9<B:=hS9
         simp only at h8;omega
        obtain⟨er,her⟩: ∃er,Hid (Qr ((Yj D).getD jn 0) (Rs.getD jn []) pj=er):=⟨_,hid rfl⟩
        have hX:=Yf8 (hRf.drewN 1) (hpp.Eu.drewN 1) hfar
        unfold Di at hX;rw[her.out]at hX
        have hej:Hid (Ru (Yj D) Rs p5 jn=er):=hid (by show Qr _ _ (p5.getD jn [])=er;rw[epj];exact her.out)
        have HQj:Hid (V4 ((Yj D).getD jn 0) (Rs.getD jn []) pj=Bu (Yj D) Rs p5 jn):=hid (by show _=V4 _ _ (p5.getD jn []);rw[epj])
        have j0:(0:Int)<=(jn:Int):=by omega
        have j1:(jn:Int)<(np5:Int):=by omega
        have HC2:=hid (hC2.below (below_drewN (Below.refl _ wr) 1))
        have HE2:=hid hE2
        have HX:=hid hX
        clear hX hfar hS2 hC2 hE2 hRf hpp hat epj hBw hp5 he5 hpe
        by_cases hez:er=0
        ·subst hez
         go_wp2_with fail;go_region_law (first
          |(go_simp;go_at_call 76;refine HX.out.mono ?_;rintro e w3 ⟨v3,Lv3,rfl,hI3,hRf3,hch3,hown3⟩;have hC3:=HC2.out.Ys hp4.out hch3 hRf3 hown3;have HC3:=hid hC3;clear hC3 hI3 hRf3 hch3 hown3))
         all_goals
          have hF3:=hid (show K7 w1 w3 gs (.slice (some ⟨bu,0,none⟩) np5 cu) (Yj D) (Qb (Yj D) Rs p5 (jn+1)) (rs4.set jn (p4.1,Lv3))/\∀i,i<jn+1->Ru (Yj D) Rs p5 i=0 from⟨by
           have h9:=HC3.out
           rwa [HQj.out,Ck HRl.out HPl.out (by rw[hnd.out];exact hlt3)]at h9,λi hi=>by
           by_cases hij:i<jn
           ·exact HE2.out i hij
           ·obtain rfl:i=jn:=by omega
            exact hej.out⟩)
          clear gp gpj gu;go_wp2_with fail;go_roundw
          case rel=>exact⟨jn+1,_,by omega,by go_num,hF3⟩
          case measure=>simp[intOf];omega
        ·have hne:((er:Int) != 0)=true:=by simpa using hez
         have Hst:=hid (show Zh (Yj D) Qs G2=(Rs,er)from by
          have h1:=Od he.out HAd.out
          have h2:=Ydv (by rw[hnd.out];exact hlt3) HRl.out HPl.out HE2.out (by rw[hej.out];exact hez)
          rw[h2,hej.out,if_pos hez]at h1
          have h3:=Dp (N:=Yj D) (Qs:=Qs) (G:=G2) (i:=t+1) (by rw[h1];exact hez)
          rw[h3,h1])
         have Hez:=hid hez
         clear hez;go_wp2_with fail;go_region_law (first
          |(go_simp;go_at_call 76;refine HX.out.mono ?_;rintro e w3 ⟨v3,Lv3,rfl,hI3,hRf3,hch3,hown3⟩;have hC3:=HC2.out.Ys hp4.out hch3 hRf3 hown3;have HC3:=hid hC3;clear hC3 hI3 hRf3 hch3 hown3))
         all_goals
          have HFin:=hid (show Rt w r B D M V Qs G G2 (.returned (.int .i64 (er:Nat))) w3 from Rt.no HR0.out (by rw[Ql Hx.out (by rw[Hst.out];exact Hez.out),Hst.out]) Hez.out (HB1.out.trans (HC3.out.bel.mono hz1)))
          clear gp gpj gu;go_wp2_with fail;go_ret;exact HFin.out
       ·obtain rfl:jn=np:=by omega
        have hF3:=hid (show K7 w1 wr gs (.slice Au jn cu) (Yj D) (Vj (Yj D) Rs p) rs4/\Zh (Yj D) Qs (G2.take (t+1))=(Vj (Yj D) Rs p,0)from by
         obtain⟨hC2,hE2⟩:=hS2.out
         have e9:Qb (Yj D) Rs p jn=Vj (Yj D) Rs p:=by rw[<-hnd.out];exact Ycx HRl.out HPl.out
         rw[e9]at hC2
         have hed:=Hj HRl.out HPl.out (by rw[hnd.out];exact hE2)
         have hsn:=Od he.out HAd.out
         rw[if_neg (λh=>h hed)]at hsn
         exact⟨hC2,hsn⟩)
        clear hS2;go_wp2_with fail;go_roundw
        case rel=>exact⟨t+1,_,_,by omega,by go_num,hF3⟩
        case measure=>simp[intOf];omega
     ·obtain rfl:t=nf:=by omega
      have HHe:=hid (show K7 w1 wr gs (.slice Au k cu) (Yj D) Rs rs3/\Zh (Yj D) Qs G2=(Rs,0)from by
       obtain⟨h1,h2⟩:=hS.out;rw[ar (by rw[HFl.out];exact ag _)]at h2
       exact⟨h1,h2⟩)
      have HBw:=hid (HB1.out.trans (HHe.out.1.bel.mono hz1))
      have HRf:=hid (KR.out wr HBw.out)
      have cl3:=HRf.out.c3
      have hne0:0<t:=by have h9:=HGn.out.1;rw[HFl.out]at h9;exact h9
      obtain⟨bf,of,P9,np9,cp9,Q9,nq9,cq9,p9,q9,ef9,_⟩:=(KF.out wr HBw.out).at2 hne0;subst ef9
      have HzB:=hid HBw.out.size
      have Hlg:Hid (G.length<=1000000):=hid (by rw[Hng.out];omega)
      clear hS;go_wp2_with (at_builtin;refine Yex Y3 rfl _ _ rfl Ycr cz rfl (by decide) wr.heap.size B (λb=>b<B) rfl (.slice AL ng cL) G rfl HRf.out.facts (λS us y=>Ybe S _ us y) Hlg.out (ag _) ?_)
      intro v5 w5 hO5 hG5
      have hb5:Below wr.heap.size wr w5:=hG5.Yw (ag _) λj e=>(by cases e)
      have HO5:=hid hO5
      have hlo5:=hO5.lt
      have HF5:=hid ((KF.out w5 (HBw.out.trans (hb5.mono HzB.out))).mv Y3 (Mv.to w5 (S':=λb=>b<B/\v5.ownBlock≠some b) λb hb _=>⟨hb,λe=>by have h1:=(hlo5 b e).1;have:=HzB.out;omega⟩))
      have hbs5:wr.heap.size<=w5.heap.size:=hb5.size
      have Hlg2:Hid (G.length+t<=1000000):=hid (by rw[Hng.out];have h9:=HGn.out.2;rw[HFl.out]at h9;omega)
      have HB5:=hid hb5
      clear hO5 hG5 hb5 cl3;go_wp2_with (at_builtin;refine V8 Y3 rfl _ _ rfl Ycr cz rfl (by decide) wr.heap.size (λb=>b<B) v5 G rfl HO5.out ⟨bf,of,none⟩ t cf G2 rfl HF5.out (λS us y=>Ybe S _ us y) Hlg2.out hbs5 ?_)
      intro v6 w6 hO6 hG6
      have hb6:Below wr.heap.size wr w6:=HB5.out.trans (hG6.Yw hbs5 λj e=>(hlo5 j e).1)
      have HB6:=hid hb6
      have HBw6:=hid (HBw.out.trans (hb6.mono HzB.out))
      obtain⟨A6,c6,e6,hR6⟩:=hO6.read Y3;subst e6;obtain⟨na,hna⟩: ∃na,Hid ((G++G2).length=na):=⟨_,hid rfl⟩;rw[hna.out]at hR6
      have hRead:=hid (show S0 w6 (λb=>b<w6.heap.size) A6 na c6 (G++G2)from hR6.mv Y3 (Mv.to w6 λb _ hl=>hl))
      have HO6:=hid hO6
      rw[hna.out]
      have hNa:na<=1000:=by have h8:=hna.out;have h9:=HGn.out.2;rw[av,Hng.out]at h8;omega
      have c0:=(KR.out w6 HBw6.out).c0
      have c1':=(KR.out w6 HBw6.out).c1
      have c2':=(KR.out w6 HBw6.out).c2
      have HV:=hid (P8 (KS.out w6 HBw6.out).has hn1 hn3)
      have HFn:=hid (show ∀f∈G++G2,Ue D M.length f from λf hf=>by
       rcases dg.1 hf with hf|hf
       ·exact HFit.out f hf
       ·exact Mb Hx.out f hf)
      clear hO6 hG6 hb6 hR6 hlo5 HO5 HF5;go_wp2_with fail;refine HV.out.mono ?_;rintro e w7 ⟨⟨Av,cv,rfl,hVs⟩,hb7⟩
      have HBx:=hid (HB6.out.trans (hb7.mono HB6.out.size))
      have HB7:=hid hb7
      have HBw7:=hid (HBw6.out.trans (hb7.mono HBw6.out.size))
      have HVs:=hid hVs
      obtain⟨NV,hNV⟩: ∃NV,(Yg D V).length=NV:=⟨_,rfl⟩
      have hNV7:NV<=7:=by rw[<-hNV];exact Wx HY.out
      have HNV:=hid hNV
      rw[hNV]at HVs⊢;clear hb7 hVs HV hNV c0 c1' c2';go_wp2_with fail;go_loopw [15] (λi wi=>∃t2:Nat,t2<=NV/\i=.int .i64 t2/\Below w7.heap.size w7 wi/\Hid (∀j v,j<t2->(Yg D V)[j]?=some v->okF M.length (kP v) Zb (G++G2))) (λi _=>NV-(intOf i).toNat)
      case atStart=>exact⟨0,aq _,rfl,Below.refl _ _,hid λj v hj=>absurd hj (by omega)⟩
      case round=>
       obtain⟨t2,ht2,rfl,hBt,HOk⟩:=hrel
       have HBt:=hid hBt
       have HBwt:=hid (HBw7.out.trans (hBt.mono HBw7.out.size))
       clear hBt
       have c0:=(KR.out wr HBwt.out).c0
       have c1':=(KR.out wr HBwt.out).c1
       have c2':=(KR.out wr HBwt.out).c2
       by_cases hlt2:t2<NV
       ·obtain⟨vk,hvk⟩: ∃vk,Hid ((Yg D V)[t2]?=some vk):=⟨_,hid (aa (by rw[HNV.out];exact hlt2))⟩
        have hmem:=af hvk.out
        have j0:(0:Int)<=(t2:Int):=by omega
        have j1:(t2:Int)<(NV:Int):=by omega
        obtain⟨bv,ov,A',n',c',rfl,hbv,gv,hv⟩:=HVs.out.has t2 hlt2;rw[show(Yg D V).getD t2 []=vk by rw[aj,hvk.out];rfl]at hv
        have gv:=(HBt.out.cell (p:=⟨bv,ov+t2,none⟩) hbv).trans gv
        have HRr:=hid (fun(y:World) (hy:Below w7.heap.size w7 y)=>by
         have h1:=Kw (A1:=A1) (n1:=n1) (c1:=c1) (A2:=A2) (c2:=c2) (A3:=A3) (n3:=n3) (c3:=c3) HY.out HFn.out ((hRead.out.mv Y3 (Mv.Yc (HB7.out.trans (hy.mono HB7.out.size)) _)).mv Y3 (Mv.to y λb _ hl=>hl)) hmem (hv.Yc hy) hNa
         rw[HMl.out]at h1;exact h1)
        have HX:=hid (HRr.out (wr.drewN 1) (HBt.out.trans ((below_drewN (Below.refl _ wr) 1).mono HBt.out.size)))
        have Hmem:=hid hmem
        clear hv hmem hbv HRr
        by_cases hok:okF n2 (kP vk) Zb (G++G2)
        ·go_wp2_with fail
         go_region_law (first
          |(go_simp;go_at_call 20;refine HX.out.mono ?_;rintro e w8 ⟨h8,hb8⟩;rcases h8 with⟨_,A8,c8,L8,rfl,_,_⟩|⟨h8,_⟩;rotate_left 1;exact absurd hok h8;have hb8':Below wr.heap.size wr w8:=(below_drewN (Below.refl _ wr) 1).trans hb8;have HB8:=hid (HBt.out.trans (hb8'.mono HBt.out.size));clear hb8 hb8'))
         all_goals
          have HOk9:=hid (show ∀j v,j<t2+1->(Yg D V)[j]?=some v->okF M.length (kP v) Zb (G++G2)from λj v hj hv=>by
           by_cases hjt:j<t2
           ·exact HOk.out j v hjt hv
           ·obtain rfl:j=t2:=by omega
            rw[hvk.out]at hv;injection hv with hv
            subst hv;rw[HMl.out];exact hok)
          clear c0 c1' c2' gv;go_wp2_with fail;go_roundw
          case rel=>exact⟨t2+1,by omega,by go_num,HB8.out,HOk9⟩
          case measure=>simp[intOf];omega
        ·have Hno:=hid (show Y9 D M V (G.map Zy) Qs G2=((G.map Zy,Qs),14)from O9 Hx.out (by rw[HHe.out.2]) Hmem.out λh=>hok (by
          rw[<-bs,Ydh,HMl.out]at h;exact h))
         go_wp2_with fail;go_region_law (first
          |(go_simp;go_at_call 20;refine HX.out.mono ?_;rintro e w8 ⟨h8,hb8⟩;rcases h8 with⟨h8,_⟩|⟨_,rfl⟩;exact absurd h8 hok;have hb8':Below wr.heap.size wr w8:=(below_drewN (Below.refl _ wr) 1).trans hb8;have HB8:=hid (HBwt.out.trans (hb8'.mono HBwt.out.size));clear hb8 hb8'))
         all_goals
          have HFin:=hid (show Rt w r B D M V Qs G G2 (.returned (.int .i64 ((14:Nat):Nat))) w8 from Rt.no HR0.out Hno.out (by decide) HB8.out)
          clear c0 c1' c2' gv;go_wp2_with fail;go_ret;exact HFin.out
       ·obtain rfl:t2=NV:=by omega
        have HFin:=hid (show Rt w r B D M V Qs G G2 (.returned (.int .i64 ((0:Nat):Nat))) ((wr.setCell ⟨r,3,none⟩ (.slice A6 na c6)).setCell ⟨r,4,none⟩ (.slice Au k cu))from by
         have e1:Y9 D M V (G.map Zy) Qs G2=((G.map Zy++G2.map Zy,Rs),0):=by
          rw[Gw Hx.out (by rw[HHe.out.2]) (λv hv=>by
           obtain⟨j,hj⟩:=ao hv;rw[<-bs,Ydh];exact HOk.out j v (by rw[<-HNV.out];exact(ak.1 hj).1) hj) (by rw[Rl,Hng.out];have h9:=HGn.out.2;omega),HHe.out.2]
         have hC:=HHe.out.1.below (HBx.out.trans (HBt.out.mono HBx.out.size))
         have hrow:=Vu hC.row (show B<=w1.heap.size by omega)
         rw[<-hC.gv,ai,dm]at hrow
         have h8:=HO6.out
         rw[hna.out]at h8
         have h8:=(h8.below Y3 (HB7.out.trans (HBt.out.mono HB7.out.size))).low (aw hBs HBw.out.size)
         have hL:=(KR.out wr HBwt.out).swap h8 hrow hC.fs
         have hrb:=(KR.out wr HBwt.out).rb
         refine⟨by rw[e1],((Chg.Y1 (S:=λk=>k=r) HBwt.out (ag _)).Ys r 3 _ λ_=>rfl).Ys r 4 _ λ_=>rfl,?_⟩
         rw[e1,if_pos rfl];exact⟨_,_,rs3,A1,n1,c1,A2,n2,c2,A3,n3,c3,hL,(KS.out wr HBwt.out).chg (Yu2 wr r (.slice A6 na c6) (.slice Au k cu)) (λb hb e=>by have hb:b<B:=hb;have e:b=r:=e;omega),HY.out,HFn.out⟩)
        have hbk:=(KR.out wr HBwt.out).blk
        have s3:=hbk.cell 3
        have f3:=hbk.free 3
        have hbk2:=hbk.Ys 3 (.slice A6 na c6)
        have s4:=hbk2.cell 4
        have f4:=hbk2.free 4
        clear hbk hbk2;go_wp2_with fail;go_ret;exact HFin.out
 ·obtain⟨x,hq⟩: ∃x,Hid (Wf D M V G2=x):=⟨_,hid rfl⟩
  rw[hq.out]at HM hx
  have hne:((x:Int) != 0)=true:=by simpa using hx
  have HM:=hid HM
  have Hx:=hid hx
  clear hx;go_wp2_with fail;refine HM.out.mono ?_;rintro e w1 ⟨rfl,hb1⟩
  have HFin:=hid (show Rt w r B D M V Qs G G2 (.returned (.int .i64 (x:Nat))) w1 from Rt.no HR0.out (by rw[Og (by rw[hq.out];exact Hx.out),hq.out]) Hx.out hb1)
  clear hb1 HM;go_wp2_with fail;go_ret;exact HFin.out
theorem RLt.parts(h:RLt w r B D M V Qs G):
  ∃AL cL A1 n1 c1 A2 n2 c2 A3 n3 c3,(∀y,Below w.heap.size w y->y.cell? ⟨r,0,none⟩=some (.slice A1 n1 c1)/\y.cell? ⟨r,1,none⟩=some (.slice A2 n2 c2)/\y.cell? ⟨r,2,none⟩=some (.slice A3 n3 c3)/\y.cell? ⟨r,3,none⟩=some (.slice AL G.length cL)/\Vw y (λb=>b<y.heap.size) A1 n1 c1 A2 n2 c2 A3 n3 c3 D M V/\S0 y (λb=>b<y.heap.size) AL G.length cL G)/\Wk D M V/\n1<=1000/\M.length=n2/\n3<=1000/\∀f∈G,Ue D M.length f:=by
 obtain⟨Lv,Dv,rs,A1,n1,c1,A2,n2,c2,A3,n3,c3,h1,h2,hm,hf⟩:=h;obtain⟨AL,cL,e,_⟩:=h1.facts.read Y3;subst e
 have hd:=Wl hm
 have h3:=h2.d.len
 have h4:=h2.v.len
 have h5:=Wx hm
 refine⟨AL,cL,A1,n1,c1,A2,n2,c2,A3,n3,c3,λy hy=>?_,hm,by omega,h2.m.len,by simp[Yg]at h5;omega,hf⟩
 have g1:=h1.below hy
 obtain⟨AL',cL',e,g3⟩:=g1.facts.read Y3;injection e with e1 _ e3
 subst e1 e3
 have g2:=h2.Yc hy
 have hB:B<=y.heap.size:=by have:=g1.blk.lt;have:=g1.rb;omega
 exact⟨g1.c0,g1.c1,g1.c2,g1.c3,⟨(g2.d).mv Vz (Mv.to y λb _ hl=>hl),(g2.m).mv Yt (Mv.to y λb _ hl=>hl),(g2.v).mv Wj (Mv.to y λb _ hl=>hl)⟩,g3.mv Y3 (Mv.to y λb _ hl=>hl)⟩
theorem Yib(h:RLt w r B D M V Qs G){v:Int}(hv:v<0∨((Yg D V).length:Int)<=v):
  Calls ae 39 #[.pointer (some ⟨r,0,none⟩),.int .i64 v] w λe w'=>e=.returned (.tuple #[.slice none 0 0,.int .i64 17])/\Below w.heap.size w w':=by
 obtain⟨AL,cL,A1,n1,c1,A2,n2,c2,A3,n3,c3,KS,hm,hn1,hM,hn3,hf⟩:=h.parts;obtain⟨c0,c1',c2',c3',hS,_⟩:=KS w (Below.refl _ w)
 have HV:=hid (P8 hS.has hn1 hn3)
 have hv7:=Wx hm
 obtain⟨nv,hnv⟩: ∃nv,(Yg D V).length=nv:=⟨_,rfl⟩;rw[hnv]at hv hv7
 have Hnv:=hid hnv
 clear hnv h hS KS hm hM hf;go_enter fl,fg;go_wp2_with fail;refine HV.out.mono ?_;rintro e w1 ⟨⟨Av,cv,rfl,hVs⟩,hb1⟩;rw[Hnv.out]
 have HB:=hid hb1
 clear hVs hb1 HV c0 c1' c2' c3'
 by_cases hv0:v<0
 ·have e0:decide (v<0)=true:=decide_eq_true hv0
  go_wp2_with fail;go_ret2;exact⟨rfl,HB.out⟩
 ·have e0:decide (v<0)=false:=decide_eq_false hv0
  have e1:decide ((nv:Int)<=v)=true:=decide_eq_true (by omega)
  go_wp2_with fail;go_ret2;exact⟨rfl,HB.out⟩
theorem Yds(h:RLt w r B D M V Qs G)(hL:X5 D M V (G.map Zy) Rs)(hn:G.length<=1000){k:Nat}{v:List Int}(hv:(Yg D V)[k]?=some v):
  Calls ae 39 #[.pointer (some ⟨r,0,none⟩),.int .i64 (k:Nat)] w λe w'=>(∃A c L,e=.returned (.tuple #[.slice A L.length c,.int .i64 0])/\Xu M.length (kP v) Zk (G.map Zy) L/\Row V6 5 w' (λb=>w.heap.size<=b) A L.length c L)/\Below w.heap.size w w':=by
 obtain⟨AL,cL,A1,n1,c1,A2,n2,c2,A3,n3,c3,KS,hm,hn1,hM,hn3,hf⟩:=h.parts;obtain⟨c0,c1',c2',c3',hS,_⟩:=KS w (Below.refl _ w)
 have HV:=hid (P8 hS.has hn1 hn3)
 have hmem:=hid (af hv)
 have hkl:=(ak.1 hv).1
 have hv7:=Wx hm
 obtain⟨nv,hnv⟩: ∃nv,(Yg D V).length=nv:=⟨_,rfl⟩;rw[hnv]at hkl hv7
 have Hnv:=hid hnv
 have Hv:=hid hv
 have KS:=hid KS
 have HF:=hid hf
 have HM:=hid hM
 have HL:=hid hL
 obtain⟨ng,hng⟩: ∃ng,G.length=ng:=⟨_,rfl⟩;rw[hng]at KS c3' hn;clear hnv h hS hm hM hf hv hL hng;go_enter fl,fg;go_wp2_with fail;refine HV.out.mono ?_;rintro e w1 ⟨⟨Av,cv,rfl,hVs⟩,hb1⟩;rw[Hnv.out]at hVs⊢
 have HB:=hid hb1
 obtain⟨bv,ov,A',n',c',rfl,hbv,gv,hv⟩:=hVs.has k hkl;rw[show(Yg D V).getD k []=v by rw[aj,Hv.out];rfl]at hv
 have hbx:Below w1.heap.size w1 (w1.drewN 1):=below_drewN (Below.refl _ w1) 1
 obtain⟨x0,x1,x2,x3,_,_⟩:=KS.out w1 hb1;obtain⟨_,_,_,_,_,hG⟩:=KS.out (w1.drewN 1) (hb1.trans (hbx.mono hb1.size))
 have hX:=Ju (A1:=A1) (n1:=n1) (c1:=c1) (A2:=A2) (c2:=c2) (A3:=A3) (n3:=n3) (c3:=c3) HL.out HF.out hG hmem.out (hv.Yc hbx) hn
 rw[HM.out]at hX
 have HX:=hid hX
 have i0:¬(k:Int)<0:=by omega
 have i1:¬(nv:Int)<=(k:Int):=by omega
 have j0:(0:Int)<=(k:Int):=by omega
 have j1:(k:Int)<(nv:Int):=by omega
 clear hVs hb1 HV c0 c1' c2' c3' hv hbv hX hG hbx;go_wp2_with fail;go_region_law (first
  |(go_simp;go_at_call 20;refine HX.out.mono ?_;rintro e w8 ⟨⟨A8,c8,L8,rfl,hL8,hr8⟩,hb8⟩;have HE:=hid (show(∃A c L,Ending.returned (.tuple #[.slice A8 L8.length c8,.int .i64 0])=.returned (.tuple #[.slice A L.length c,.int .i64 0])/\Xu M.length (kP v) Zk (G.map Zy) L/\Row V6 5 w8 (λb=>w.heap.size<=b) A L.length c L)/\Below w.heap.size w w8 from⟨⟨A8,c8,L8,rfl,by rw[HM.out];exact hL8,hr8.mv Zv (Mv.to w8 λb hb _=>aw HB.out.size hb)⟩,(HB.out.trans ((below_drewN (Below.refl _ w1) 1).mono HB.out.size)).trans (hb8.mono HB.out.size)⟩);clear hL8 hr8 hb8))
 all_goals
  clear x0 x1 x2 x3 gv;go_wp2_with fail;go_ret2;exact HE.out
def Yqy(w:World)(W m:Nat)(C:Cub)(e:Ending)(w':World):Prop:=(∃g S A n c,e=.returned (.pointer (some ⟨g,0,none⟩))/\Rq w' g W m S A n c C/\w.heap.size<=g)/\Below w.heap.size w w'
theorem Cp{W:Nat}(h:Xw W m C)(hW:W<=3):C.length<=68921:=by
 have hr:C.Pairwise _:=h.ris
 have hr1:(C.map (·.1)).Nodup:=dz.2 (hr.imp λhl=>W9 hl)
 have h1:=Ygs (W:=W) (J:=C.map (·.1)) hr1 (λk hk=>by
  obtain⟨e,he,rfl⟩:=ax.1 hk;exact h.key e he) hW
 rwa [ai]at h1
theorem Yd2(h:RLt w r B D M V Qs G)(hL:X5 D M V (G.map Zy) Qs)(hC:Wr M.length (kC Qs (Yn D)) Zk (G.map Zy) C)(hn:G.length<=1000):
  Calls ae 84 #[.pointer (some ⟨r,0,none⟩)] w (Yqy w D.length M.length C):=by
 obtain⟨Lv,Dv,rs,A1,n1,c1,A2,n2,c2,A3,n3,c3,h1,h2,hm,hfit⟩:=h
 have hd:=Wl hm
 have hDl:=h2.d.len
 have hMl:=h2.m.len
 obtain⟨AL,cL,e⟩:=h1.facts.shape;subst e
 have hrow:∀L,Xu M.length (kP (Yn D)) Zk (G.map Zy) L->S2 D.length M.length (Qi Qs D L) L.length=C:=λL hR=>Ys0 hL hC hR
 obtain⟨ng,hng⟩: ∃ng,G.length=ng:=⟨_,rfl⟩;rw[hng]at h1 hn;obtain⟨Ad,cd,e,hrl,_⟩:=h1.Ki;subst e
 have hnd:(Yj D).length=n1:=by simp[Yj];exact hDl
 rw[hnd]at h1 hrl
 have hn3:n1<=3:=by omega
 have hn2:n2<=2:=by omega
 have hBs:B<=w.heap.size:=by have:=h1.blk.lt;have:=h1.rb;omega
 have KR:Hid (∀y,Below w.heap.size w y->RfL y r (.slice A1 n1 c1) (.slice A2 n2 c2) (.slice A3 n3 c3) (.slice AL ng cL) (.slice Ad n1 cd) B rs (Yj D) Qs G):=hid λy hy=>h1.below hy
 have KS:Hid (∀y,Below w.heap.size w y->Vw y (λb=>b<B) A1 n1 c1 A2 n2 c2 A3 n3 c3 D M V):=hid λy hy=>h2.Yc hy
 have KC:Hid (∀y,Below w.heap.size w y->y.cell? ⟨r,0,none⟩=some (.slice A1 n1 c1)/\y.cell? ⟨r,1,none⟩=some (.slice A2 n2 c2)/\y.cell? ⟨r,2,none⟩=some (.slice A3 n3 c3)/\y.cell? ⟨r,3,none⟩=some (.slice AL ng cL)):=hid λy hy=>⟨(KR.out y hy).c0,(KR.out y hy).c1,(KR.out y hy).c2,(KR.out y hy).c3⟩
 have HRr:Hid (∀y,Below w.heap.size w y->∀Av nv cv,Y2 y y.heap.size Av nv cv (Yn D)->Calls ae 20 #[Sy A1 n1 c1 A2 n2 c2 A3 n3 c3,.slice AL ng cL,.slice Av nv cv] y λe y'=>(∃A c L,e=.returned (.tuple #[.slice A L.length c,.int .i64 0])/\Xu M.length (kP (Yn D)) Zk (G.map Zy) L/\Row V6 5 y' (λb=>y.heap.size<=b) A L.length c L)/\Below y.heap.size y y'):=hid λy hy Av nv cv hV=>by
  obtain⟨AL',cL',e,g3⟩:=(KR.out y hy).facts.read Y3;rw[hng]at e g3;injection e with e1 _ e3
  subst e1 e3
  have h9:=Ju (A1:=A1) (n1:=n1) (c1:=c1) (A2:=A2) (c2:=c2) (A3:=A3) (n3:=n3) (c3:=c3) hL hfit (g3.mv Y3 (Mv.to y λb _ hl=>hl)) (by simp[Yg]) hV hn
  rw[hMl]at h9;rw[hMl];exact h9
 obtain⟨q0,q1,q2,q3⟩:=KC.out w (Below.refl _ w)
 have HD:=hid hDl
 have HM:=hid hMl
 have HN:=hid hnd
 have Hrl:=hid hrl
 have HL:=hid hL
 have HC:=hid hC
 have HB:=hid hrow
 clear h1 h2 hm hd hfit hrow hng hnd hrl hL hC hDl hMl;go_enter Tryz.func84,Tryz.ntmps84;go_upto_region 1 with fail
 go_cut [3] (λs wx=>s=.pointer (some ⟨w.heap.size,0,none⟩)/\Hid (Below w.heap.size w wx/\Block wx w.heap.size 137 #[.int .i64 n1,.int .i64 n2,.slice none 0 0]))
 case first=>
  have KF:Hid (∀y:World,(y=(w.alloc (.cells #[.int .i64 n1,.int .i64 n2,.slice none 0 0] 137)).drew∨y=w.drew.alloc (.cells #[.int .i64 n1,.int .i64 n2,.slice none 0 0] 137))->Below w.heap.size w y/\Block y w.heap.size 137 #[.int .i64 n1,.int .i64 n2,.slice none 0 0]):=hid λy hy=>by
   rcases hy with rfl|rfl
   ·exact⟨below_drewN (Yb w _) 1,(Block.new w 137 _).drewN 1⟩
   ·exact⟨(below_drewN (Below.refl _ w) 1).alloc (ag _) _,Block.new w.drew 137 _⟩
  go_region_with (fail)
  all_goals (go_wp2_with fail;go_meet;exact⟨rfl,hid (KF.out _ (by first|exact .inl rfl|exact .inr rfl))⟩)
 case rest=>
  obtain⟨rfl,H1⟩:=hcut
  have HBc:=hid H1.out.1
  have HbX:=H1.out.1.trans ((below_drewN (Below.refl _ wc) 1).mono H1.out.1.size)
  obtain⟨x0,x1,x2,x3⟩:=KC.out wc HBc.out
  have HBa:=hid (N0 (A2:=A2) (n2:=n2) (c2:=c2) (A3:=A3) (n3:=n3) (c3:=c3) (KS.out _ HbX).has.d (by omega))
  have HbX:=hid HbX
  clear q0 q1 q2 q3;go_wp2_with fail;go_region_held3 (λy=>y.cell? ⟨r,0,none⟩=some (.slice A1 n1 c1)/\y.cell? ⟨r,1,none⟩=some (.slice A2 n2 c2)/\y.cell? ⟨r,2,none⟩=some (.slice A3 n3 c3)/\y.cell? ⟨r,3,none⟩=some (.slice AL ng cL))
   (first
    |go_keep
    |exact KC.out _ hBB8.out
    |exact KC.out _ hBB5.out)
   (first
    |(go_at_call 53;refine HBa.out.mono ?_;rintro e w5 ⟨⟨v5,rfl,hI5⟩,hb5⟩;obtain⟨A5,m5,c5,e5,hv5,_⟩:=hI5.Yr;subst e5;have hBB5:Hid (Below w.heap.size w w5):=hid (HbX.out.trans (hb5.mono HbX.out.size));have HV5:=hid hv5;have HB5:=hid hb5;clear hI5 hb5 hv5)
    |(go_at_call 20;refine(HRr.out _ hBB5.out _ _ _ HV5.out).mono ?_;rintro e w8 ⟨⟨A8,c8,L,rfl,hL8,hr8⟩,hb8⟩;have hBB8:Hid (Below w.heap.size w w8):=hid (hBB5.out.trans (hb8.mono hBB5.out.size));have HL8:=hid hL8;have HR8:=hid hr8;have HB8:=hid hb8;clear hL8 hr8 hb8))
  obtain⟨nl,hnl⟩: ∃nl,Hid (L.length=nl):=⟨_,hid rfl⟩
  have hR8:=HR8.out
  rw[hnl.out]at hR8⊢
  have hnm:=hR8.Ym
  have HR8:=hid hR8
  obtain⟨g,hg⟩: ∃g,Hid (w.heap.size=g):=⟨_,hid rfl⟩
  have hbk:=H1.out.2
  rw[hg.out]at hbk⊢
  have hgc:g<wc.heap.size:=hbk.lt
  have hb58:Below wc.heap.size wc w8:=((below_drewN (Below.refl _ wc) 1).trans HB5.out).trans (HB8.out.mono HB5.out.size)
  have hg5:g<w5.heap.size:=ay hgc HB5.out.size
  have HQ0:=hid (show Chg (λb=>b=g) w8 w8/\∃A n c,Rq w8 g n1 n2 (λb=>g<b) A n c (S2 n1 n2 (Qi Qs D L) 0)from⟨Chg.refl _ _,none,0,0,hbk.below hb58 hgc,Row.none_ _ _⟩)
  have HB58:=hid hb58
  clear x0 x1 x2 x3 hR8 hbk hb58;go_wp2_with fail;go_loopw [6] (λi wr=>∃k:Nat,k<=nl/\i=.int .i64 k/\Hid (Chg (λb=>b=g) w8 wr/\∃A n c,Rq wr g n1 n2 (λb=>g<b) A n c (S2 n1 n2 (Qi Qs D L) k))) (λi _=>nl-(intOf i).toNat)
  case atStart=>exact⟨0,aq _,rfl,HQ0⟩
  case round=>
   obtain⟨k,hk,rfl,hS⟩:=hrel
   by_cases hlt:k<nl
   ·obtain⟨hch,Aq,nq,cq,hQ⟩:=hS.out
    have HBr:=hid (hBB8.out.trans (hch.below hBB8.out.size λb e=>bj (by rw[hg.out];exact e.symm)))
    have hrow:Row V6 5 wr (λb=>g<b) A8 nl c8 L:=HR8.out.mv Zv (λb hb hl=>by
     have hb:w5.heap.size<=b:=hb
     exact⟨hch.block b hl (λe=>by have e:b=g:=e;omega),show g<b by omega⟩)
    obtain⟨b,o,A0,n0,c0',q,X1,m1,d1,X2,m2,d2,X3,m3,d3,K,Su,Mm,Xm,rfl,hbS,hbl,g0,g1,g2,g3,g4,hK,hS1,hS2,hS3,hLk⟩:=hrow.atR hlt;obtain⟨hKl,hkl,hcd⟩:=Yox HL.out HL8.out (af hLk.out)
    have hn0:n0=n1:=by have h9:=hK.len;have h8:K.length=D.length:=hKl;rw[HD.out]at h8;omega
    subst hn0
    have HStep:=hid (Ca (w:=n0) (m:=n2) (D:=Qi Qs D L) (i:=k) (k:=Xn Qs (Yn D) K) (x:=(q,Su,Mm,Xm)) (by unfold Qi;rw[bp,hLk.out];rfl))
    have HCd:=hid hcd
    have Hkl:Hid ((Xn Qs (Yn D) K).length=n0):=hid (by rw[<-HD.out];exact hkl)
    have HQ:=hid hQ
    have Hch:=hid hch
    have HK:=hid hK
    have HX:=hid (And.intro hS1 (And.intro hS2 hS3))
    have i0:(0:Int)<=(k:Int):=by omega
    have i1:(k:Int)<(nl:Int):=by omega
    clear hS hch hQ hrow hK hS1 hS2 hS3 hKl hkl hcd;obtain⟨wo,rfl⟩: ∃wo,wo=wr:=⟨_,rfl⟩;go_wp2_with fail;go_loopw [7,8] (λu j wr=>∃t:Nat,t<=n0/\j=.int .i64 t/\Hid (Yi wr wo.heap.size u ((Xn Qs (Yn D) K).take t)/\Below wo.heap.size wo wr)) (λ_ j _=>n0-(intOf j).toNat)
    case atStart=>exact⟨0,aq _,rfl,hid ⟨Yi.Zj _ _,Below.refl _ _⟩⟩
    case round=>
     obtain⟨t,ht,rfl,hS2⟩:=hrel;obtain⟨hO,hBi⟩:=hS2.out
     have HBi:=hid hBi
     have HBw:=hid (HBr.out.trans (hBi.mono HBr.out.size))
     have gi0:=(hBi.cell (p:=⟨b,o+k*5,none⟩) hbl).trans g0
     have gi1:=(hBi.cell (p:=⟨b,o+k*5+1,none⟩) hbl).trans g1
     have gi2:=(hBi.cell (p:=⟨b,o+k*5+2,none⟩) hbl).trans g2
     have gi3:=(hBi.cell (p:=⟨b,o+k*5+3,none⟩) hbl).trans g3
     have gi4:=(hBi.cell (p:=⟨b,o+k*5+4,none⟩) hbl).trans g4
     by_cases hlt2:t<n0
     ·obtain⟨b1,o1,A',n',c',p,rfl,hb1S,hb1l,gp,hp,hpe⟩:=(HK.out.mv Zr (Mv.Yc hBi _)).at1 hlt2
      have hRr:=KR.out wr HBw.out
      have c4:=hRr.c4
      obtain⟨p4,hp4⟩: ∃p4,Hid (rs[t]?=some p4):=⟨_,hid (aa (by rw[Hrl.out];exact hlt2))⟩
      obtain⟨Ad',cd',e6,e6g,hat⟩:=hRr.Ki;injection e6 with e6a e6n e6c
      clear e6n e6g;subst e6a e6c;obtain⟨bd,rfl,_,_,gd⟩:=hat t p4 hp4.out;obtain⟨cc,hca,hck⟩:=HCd.out t (by rw[HD.out];exact hlt2)
      have hKt:K.getD t []=p:=by rw[aj,hpe.out];rfl
      have HC9:=hid (Yga ((hRr.dicts.at_ t p4 hp4.out).drewN 1) (hp.Eu.drewN 1) (x:=cc) (e:=0) (hid (by rw[<-hKt];exact hca)))
      have hck':(Xn Qs (Yn D) K).take t++[(cc:Int)]=(Xn Qs (Yn D) K).take (t+1):=by rw[<-hck];exact(Nb 0 (by rw[Hkl.out];exact hlt2)).symm
      have Hck:=hid hck'
      have HO:=hid hO
      have j0:(0:Int)<=(t:Int):=by omega
      have j1:(t:Int)<(n0:Int):=by omega
      clear hS2 hO hBi hRr hat hca hck hck' hKt hp hb1S hb1l;go_wp2_with fail;go_region_law (first
       |(go_simp;go_at_call 148;refine HC9.out.mono ?_;rintro e w3 ⟨rfl,hk3⟩;have hb3:Below wr.heap.size wr w3:=(by obtain⟨kk,rfl⟩:=hk3;exact below_drewN (below_drewN (Below.refl _ wr) 1) kk);clear hk3;have HO3:=hid (fj (HO.out.below hb3 (ag _)) (.cells #[.int .i64 cc] 3));have HB3:=hid ((HBi.out.trans (hb3.mono HBi.out.size)).trans ((Yb w3 (.cells #[.int .i64 cc] 3)).mono (HBi.out.trans (hb3.mono HBi.out.size)).size));clear hb3))
      all_goals
       have hlk:Hid (((Xn Qs (Yn D) K).take t).length<=1000000):=hid (aw (List.length_take_le t _) (by omega))
       clear gi0 gi1 gi2 gi3 gi4 gp gd c4;go_wp2_with (at_builtin;refine Yo rfl _ _ rfl wo.heap.size _ _ rfl HO3.out _ rfl (cc:Int) (Y6 _ _ _ _ rfl) hlk.out HB3.out.size ?_)
       intro v4 w4 hO5 hG5
       have hlo:∀j,u7.ownBlock=some j->wo.heap.size<=j:=λj e=>(HO3.out.lt j e).1
       have hF:=hid (show Yi w4 wo.heap.size v4 ((Xn Qs (Yn D) K).take (t+1))/\Below wo.heap.size wo w4 from⟨by rw[<-Hck.out];exact hO5,HB3.out.trans (hG5.Yw HB3.out.size hlo)⟩)
       clear hO5 hG5 hlo;go_wp2_with fail;go_roundw
       case rel=>exact⟨t+1,by omega,by go_num,hF⟩
       case measure=>simp[intOf];omega
     ·obtain rfl:t=n0:=by omega
      rw[ar (by rw[Hkl.out];exact ag _)]at hO
      obtain⟨Ak,mk,ck,ek,hvk,_⟩:=hO.Yr;subst ek
      have hQi:=HQ.out.Yc hBi
      have hnq:nq<=100000:=by have h8:=hQi.row.len;have h9:=Cp (V9 (w:=t) (m:=n2) (D:=Qi Qs D L) k) hn3;omega
      have hgi:g<wr.heap.size:=hQi.blk.lt
      have hx:Z7 wr (λb=>g<b) [.int .i64 q,.slice X1 m1 d1,.slice X2 m2 d2,.slice X3 m3 d3] (q,Su,Mm,Xm):=M8 (HX.out.1.mv Yh (Mv.Yc hBi _)) (HX.out.2.1.mv Yh (Mv.Yc hBi _)) (HX.out.2.2.mv Yh (Mv.Yc hBi _))
      have HA:=hid (Yho (S:=λb=>g<b) (λk hk=>show g<k by omega) (Nat.lt_irrefl g) hQi hnq hn3 (V9 k) hvk hx)
      clear hS2 hO hvk hQi hx;go_wp2_with fail;refine HA.out.mono ?_;rintro e w9 ⟨rfl,⟨A9,n9,c9,hQ9⟩,hg9⟩
      have hF:=hid (show Chg (λb=>b=g) w8 w9/\∃A n c,Rq w9 g t n2 (λb=>g<b) A n c (S2 t n2 (Qi Qs D L) (k+1))from
       ⟨(Hch.out.trans (Chg.Y1 (S:=λb=>b=g) HBi.out (ag _)) λ_ _ h=>h).trans (Chg.W5 (S:=λb=>b=g) hg9 λj hj _=>by injection hj with hj;exact hj.symm) λ_ _ h=>h,A9,n9,c9,by rw[HStep.out];exact hQ9⟩)
      clear hQ9 hg9 HA gi0 gi1 gi2 gi3 gi4;go_wp2_with fail;go_roundw
      case rel=>exact⟨k+1,by omega,by go_num,hF⟩
      case measure=>simp[intOf];omega
   ·obtain rfl:k=nl:=by omega
    have hgo:=hg.out
    subst hgo
    have HF:=hid (show Yqy w D.length M.length C (.returned (.pointer (some ⟨w.heap.size,0,none⟩))) wr from by
     obtain⟨hch,Aq,nq,cq,hQ⟩:=hS.out;refine⟨⟨w.heap.size,λb=>w.heap.size<b,Aq,nq,cq,rfl,?_,ag _⟩,hBB8.out.trans (hch.below hBB8.out.size λb e=>bj e.symm)⟩
     have h9:=HB.out L HL8.out
     rw[HD.out,HM.out,hnl.out]at h9;rw[h9]at hQ;rw[HD.out,HM.out];exact hQ)
    clear hS;go_wp2_with fail;go_ret;exact HF.out
theorem Yfp(h:RLt w r B D M V Qs G)(hL:X5 D M V (G.map Zy) Qs)(hC:Wr M.length (kC Qs (Yn D)) Zk (G.map Zy) C)(hn:G.length<=1000):
  Calls ae 40 #[.pointer (some ⟨r,0,none⟩),.slice none 0 0] w λe w'=>∃v,e=.returned v/\Zc w' w.heap.size 5 v (Yen M.length Qs C)/\Below w.heap.size w w':=by
 have HR0:=hid h
 have HL:=hid hL
 have HC:=hid hC
 have Hn:=hid hn
 have HCu:=hid (hL.Yak hC)
 obtain⟨Lv,Dv,rs,A1,n1,c1,A2,n2,c2,A3,n3,c3,h1,h2,hm,_⟩:=h
 have hd:=Wl hm
 have hDl:=h2.d.len
 have hMl:=h2.m.len
 obtain⟨Ad,cd,e,hrl,_⟩:=h1.Ki;subst e
 have hnd:(Yj D).length=n1:=by simp[Yj];exact hDl
 rw[hnd]at h1 hrl
 have hn3:n1<=3:=by omega
 have hn2:n2<=2:=by omega
 have HQ:Hid (Qs.length=n1):=hid (by have h9:=h1.dicts.good.len;rw[hnd]at h9;exact h9)
 have hGd:Hid (∀Q∈Qs,(U6 Q).length<=2000):=hid λQ hQ=>by
  obtain⟨i,hi⟩:=ao hQ
  have hil:=(ak.1 hi).1
  have h2:=h1.dicts.good.get (i:=i) (by rw[hnd,<-HQ.out];exact hil)
  rw[show Qs.getD i []=Q by rw[aj,hi];rfl]at h2
  exact(Yf7 h2).2
 have HLe:Hid (∀k,((Qs.take k).flatMap U6).length<=6000):=hid λk=>by
  have h2:=J8 U6 2000 (L:=Qs.take k) λQ hQ=>hGd.out Q (List.mem_of_mem_take hQ)
  have h3:(Qs.take k).length<=n1:=by rw[br,HQ.out];exact Nat.min_le_right _ _
  omega
 have KR:Hid (∀y,Below w.heap.size w y->RfL y r (.slice A1 n1 c1) (.slice A2 n2 c2) (.slice A3 n3 c3) Lv (.slice Ad n1 cd) B rs (Yj D) Qs G):=hid λy hy=>h1.below hy
 have HD:=hid hDl
 have HM:=hid hMl
 have Hrl:=hid hrl
 clear h1 h2 hm hd hnd hrl hL hC hDl hMl hGd hn;go_enter Tryz.func40,Tryz.ntmps40;go_wp2_with fail;go_loopw [1,5] (λv i wr=>∃k:Nat,k<=n1/\i=.int .i64 k/\Hid (∃A' n' c',v=.slice A' n' c'∧Xo wr wr.heap.size A' n' c' ((Qs.take k).flatMap U6))/\Below w.heap.size w wr) (λ_ i _=>n1-(intOf i).toNat)
 case atStart=>exact⟨0,aq _,rfl,hid ⟨none,0,0,rfl,rfl,ag _,aq _,λ_=>rfl,Has.Zj⟩,Below.refl _ _⟩
 case round=>
  obtain⟨k,hk,rfl,hO,hB⟩:=hrel;obtain⟨A',n',c',rfl,hH⟩:=hO.out
  have hnl:n'<=6000:=by have h2:=hH.len;have h3:=HLe.out k;omega
  have HB:=hid hB
  have hRr:=KR.out wr hB
  have c4:=hRr.c4
  by_cases hlt:k<n1
  ·have i0:(0:Int)<=(k:Int):=by omega
   have i1:(k:Int)<(n1:Int):=by omega
   obtain⟨p4,hp4⟩: ∃p4,Hid (rs[k]?=some p4):=⟨_,hid (aa (by rw[Hrl.out];exact hlt))⟩
   obtain⟨Ad',cd',e6,e6g,hat⟩:=hRr.Ki;injection e6 with e6a e6n e6c
   clear e6n e6g;subst e6a e6c;obtain⟨bd,rfl,_,_,gd⟩:=hat k p4 hp4.out
   have HP:=hid (Ygf (hRr.dicts.at_ k p4 hp4.out) hH (by omega))
   have hT:Hid ((Qs.take k).flatMap U6++U6 (Qs.getD k [])=(Qs.take (k+1)).flatMap U6):=hid (by
    have h2:Qs[k]?=some (Qs.getD k []):=by rw[aj,aa (by have:=HQ.out;omega)];rfl
    rw[Z8 h2,List.flatMap_append];simp)
   clear hRr hat hH hO hB;go_wp2_with fail;refine HP.out.mono ?_;rintro e w5 ⟨v,rfl,hO5,hb5⟩;rw[hT.out]at hO5;obtain⟨A5,n5,c5,rfl,hH5,_⟩:=hO5.Yr
   have hF:=hid (show Xo w5 w5.heap.size A5 n5 c5 ((Qs.take (k+1)).flatMap U6)/\Below w.heap.size w w5 from⟨hH5,HB.out.trans (hb5.mono HB.out.size)⟩)
   clear hO5 hH5 hb5 HP hT gd c4;go_wp2_with fail;go_roundw
   case rel=>exact⟨k+1,by omega,by go_num,hid ⟨_,_,_,rfl,hF.out.1⟩,hF.out.2⟩
   case measure=>simp[intOf];omega
  ·have hall:Qs.take k=Qs:=ar (by have:=HQ.out;omega)
   rw[hall]at hH
   have HH:=hid hH
   have HBa:=hid (Yd2 (HR0.out.below hB) HL.out HC.out Hn.out)
   clear hH hO hRr hall hB;go_wp2_with fail;refine HBa.out.mono ?_;rintro e w5 ⟨⟨g,S,A,n,c,rfl,hQ5,_⟩,hb5⟩
   have hnq:n<=100000:=by have h8:=hQ5.row.len;have h9:=Cp HCu.out (by rw[HD.out];exact hn3);omega
   have HP:=hid (Ydt hQ5 hnq HCu.out (by rw[HD.out];exact hn3) (by rw[HM.out];exact hn2) (HH.out.Yc hb5) (by omega))
   have HB5:=hid (HB.out.trans (hb5.mono HB.out.size))
   clear hQ5 hb5 HBa c4;go_wp2_with fail;refine HP.out.mono ?_;rintro e w6 ⟨v,rfl,hO6,hb6⟩
   have hF:=hid (show Zc w6 w.heap.size 5 v (Yen M.length Qs C)/\Below w.heap.size w w6 from⟨by
    unfold Yen;exact hO6.low HB5.out.size,HB5.out.trans (hb6.mono HB5.out.size)⟩)
   clear hO6 hb6 HP;go_wp2_with fail;go_ret;exact⟨_,rfl,hF.out.1,hF.out.2⟩
section
structure Nk (y:World) (g r:Nat) (F R:Nat->Prop) (B:Nat) (D:List Yk) (M:List Txt) (V:List (List Int)) (G:List Fct) (Qs:List (List Pth)):Prop where
 l:LSt y g F R B D M V (G.map Zy) Qs
 q:RLt y r B D M V Qs G
 rr:∀k,R k->k<r
section
variable {y y' : World}{g r:Nat}{F R:Nat->Prop}{B:Nat}{D:List Yk}{M:List Txt}{V:List (List Int)}{G:List Fct}{Qs:List (List Pth)}
theorem Nk.below(h:Nk y g r F R B D M V G Qs)(hb:Below y.heap.size y y'):Nk y' g r F R B D M V G Qs:=⟨h.l.below hb,h.q.below hb,h.rr⟩
theorem LSt.kind{E:List Hld}(h:LSt y g F R B D M V E Qs):∀k,F k->∃o,y.heap[k]?=some o/\St o:=λk hk=>by
 obtain⟨Cs,h1,_⟩:=h.ex;exact h1.kind hk
theorem RLt.may(h:RLt y r B D M V Qs G):Wk D M V:=by
 obtain⟨_,_,_,_,_,_,_,_,_,_,_,_,_,_,hm,_⟩:=h;exact hm
theorem Yjz(h:Nk y g r F R B D M V G Qs)(hn:G.length<=900):
  Calls ae 14 #[.pointer (some ⟨g,0,none⟩),.pointer (some ⟨r,0,none⟩)] y λe y'=>e=.returned (.bool true)/\Below y.heap.size y y':=by
 obtain⟨AL,cL,A1,n1,c1,A2,n2,c2,A3,n3,c3,KS,hm,hn1,hM,hn3,hf⟩:=h.q.parts
 have hv7:=Wx hm
 have hvl:=(KS y (Below.refl _ _)).2.2.2.2.1.v.len
 have hV:(Yg D V).length=n3+1:=by rw[<-hvl];rfl
 have hcnt:=Rl G
 obtain⟨ng,hng⟩: ∃ng,G.length=ng:=⟨_,rfl⟩;rw[hng]at KS hcnt
 have KC:Hid (∀z,Below y.heap.size y z->z.cell? ⟨r,0,none⟩=some (.slice A1 n1 c1)/\z.cell? ⟨r,1,none⟩=some (.slice A2 n2 c2)/\z.cell? ⟨r,2,none⟩=some (.slice A3 n3 c3)/\z.cell? ⟨r,3,none⟩=some (.slice AL ng cL)):=hid λz hz=>⟨(KS z hz).1,(KS z hz).2.1,(KS z hz).2.2.1,(KS z hz).2.2.2.1⟩
 obtain⟨x0,x1,x2,x3⟩:=KC.out y (Below.refl _ _)
 have HFa:=hid (Yi6 (h.l.drewN 1))
 rw[hcnt]at HFa
 have H0:=hid h
 have Hn:=hid hn
 have HV:=hid hV
 clear KS hm hM hf hv7 hvl hV hcnt hng h hn;go_enter Tryz.func14,Tryz.ntmps14;go_wp2_with fail;go_region_held3 (λz=>z.cell? ⟨r,0,none⟩=some (.slice A1 n1 c1)/\z.cell? ⟨r,1,none⟩=some (.slice A2 n2 c2)/\z.cell? ⟨r,2,none⟩=some (.slice A3 n3 c3)/\z.cell? ⟨r,3,none⟩=some (.slice AL ng cL))
  (first
   |go_keep
   |exact KC.out _ hB3.out)
  (first
   |(go_at_call 24;refine HFa.out.mono ?_;rintro e w3 ⟨rfl,e3⟩;have hB3:Hid (Below y.heap.size y w3):=hid (e3▸below_drewN (Below.refl _ y) 1);clear e3))
 have hzy:=hB3.out.size
 clear x0 x1 x2 x3;go_wp2_with fail;go_loopw [5] (λi wr=>∃v:Int,-1<=v/\v<=(n3:Int)+2/\i=.int .i64 v/\Hid (Below y.heap.size y wr)) (λi _=>((n3:Int)+2-intOf i).toNat)
 case atStart=>exact⟨-1,by omega,by omega,rfl,hB3⟩
 case round=>
  obtain⟨v,hv0,hv1,rfl,HB⟩:=hrel;obtain⟨x0,x1,x2,x3⟩:=KC.out wr HB.out
  by_cases hlt:v<=(n3:Int)+1
  ·have HT:=hid (H0.out.below HB.out)
   by_cases hin:0<=v/\v<=(n3:Int)
   ·obtain⟨k,rfl⟩: ∃k:Nat,v=(k:Int):=⟨v.toNat,by omega⟩
    obtain⟨vk,hvk⟩: ∃vk,Hid ((Yg D V)[k]?=some vk):=⟨_,hid (aa (by rw[HV.out];omega))⟩
    have HR:=hid (Yb9 HT.out.l hvk.out)
    go_wp2_with fail;refine HR.out.mono ?_;rintro e w7 ⟨Lr,hLr,⟨A7,c7,rfl,hr7⟩,hb7⟩
    have HB7:=hid (HB.out.trans (hb7.mono HB.out.size))
    have HLr:=hid hLr
    have HR7:=hid (hr7.map (E':=V6) (λ_ _ h=>P3 h))
    have HT7:=hid (H0.out.below HB7.out)
    have HVw:=hid (Yds HT7.out.q HT7.out.l.ok (by have:=Hn.out;omega) hvk.out)
    clear hLr hr7 hb7 HR x0 x1 x2 x3;go_wp2_with fail;refine HVw.out.mono ?_;rintro e w8 ⟨⟨A8,c8,L8,rfl,hL8,hr8⟩,hb8⟩;obtain rfl:Lr=L8:=HLr.out.one hL8
    have HB8:=hid (HB7.out.trans (hb8.mono HB7.out.size))
    have HR78:=hid (HR7.out.mv Zv (Mv.Yc hb8 _))
    have HR8:=hid hr8
    have HT8:=hid (H0.out.below HB8.out)
    have HLn:=hid (Ys4 HT8.out.l hvk.out HLr.out)
    clear hL8 hr8 hb8 HVw;go_wp2_with fail;refine HLn.out.mono ?_;rintro e w9 ⟨rfl,rfl⟩
    have HSR:=hid (Nd HR78.out HR8.out)
    clear HLn;go_wp2_with fail;refine HSR.out.mono ?_;rintro e w9 ⟨rfl,hb9⟩
    have HB9:=hid (HB8.out.trans (hb9.mono HB8.out.size))
    clear hb9 HSR;go_wp2_with fail;go_roundw
    case rel=>exact⟨(k:Int)+1,by omega,by omega,by go_num,HB9⟩
    case measure=>simp[intOf];omega
   ·have hno:¬(0<=v/\v<((Yg D V).length:Int)):=by rw[HV.out];omega
    have HR:=hid (Ysy HT.out.l v hno)
    have HVw:=hid (Yib HT.out.q (v:=v) (by rw[HV.out];omega))
    clear hno;go_wp2_with fail;refine HR.out.mono ?_;rintro e w7 ⟨rfl,rfl⟩;go_wp2_with fail;refine HVw.out.mono ?_;rintro e w8 ⟨rfl,hb8⟩
    have HB8:=hid (HB.out.trans (hb8.mono HB.out.size))
    have HT8:=hid (H0.out.below HB8.out)
    have HLn:=hid (Yub HT8.out.l v (by rw[HV.out];omega))
    clear hb8 HVw HR x0 x1 x2 x3;go_wp2_with fail;refine HLn.out.mono ?_;rintro e w9 ⟨rfl,rfl⟩
    have HSR:=hid (Nd (w:=w8) (S:=λ_=>True) (S':=λ_=>True) (A:=none) (A':=none) (n:=0) (c:=0) (n':=0) (c':=0) (L:=[]) (Row.none_ _ _) (Row.none_ _ _))
    clear HLn;go_wp2_with fail;refine HSR.out.mono ?_;rintro e w9 ⟨rfl,hb9⟩
    have HB9:=hid (HB8.out.trans (hb9.mono HB8.out.size))
    clear hb9 HSR;go_wp2_with fail;go_roundw
    case rel=>exact⟨v+1,by omega,by omega,by go_num,HB9⟩
    case measure=>simp[intOf];omega
  ·have HT:=hid (H0.out.below HB.out)
   have HP:=hid (Yra HT.out.l)
   go_wp2_with fail;refine HP.out.mono ?_;rintro e w7 ⟨v7,C,rfl,hC,hO7,hb7⟩
   have HB7:=hid (HB.out.trans (hb7.mono HB.out.size))
   have HT7:=hid (H0.out.below HB7.out)
   have HQ:=hid (Yfp HT7.out.q HT7.out.l.ok hC (by have:=Hn.out;omega))
   have HO7:=hid hO7
   clear hC hO7 hb7 HP x0 x1 x2 x3;go_wp2_with fail;refine HQ.out.mono ?_;rintro e w8 ⟨v8,rfl,hO8,hb8⟩
   have hO78:=HO7.out.chg (Chg.Y1 (S:=λ_=>False) hb8 (ag _)) λ_ _ h=>h
   obtain⟨Aa,na,ca,rfl,hHa,_⟩:=hO78.Yr;obtain⟨Ab,nb,cb,rfl,hHb,_⟩:=hO8.Yr
   have HSm:=hid (Yps _ _ _ _ _ _ _ _ _ _ _ hHa hHb)
   have HB8:=hid (HB7.out.trans (hb8.mono HB7.out.size))
   have hll:∀l:List UInt8,(l==l)=true:=λl=>by simp
   rw[hll]at HSm;clear hO8 hb8 hO78 hHa hHb HQ hll;go_wp2_with fail;refine HSm.out.mono ?_;rintro e w9 ⟨rfl,q8,rfl⟩
   have HB9:=hid (HB8.out.trans ((below_drewN (Below.refl _ w8) q8).mono HB8.out.size))
   clear HSm;go_wp2_with fail;go_ret;exact⟨rfl,HB9.out⟩
end
end
section
theorem LSt.less{y:World}{g:Nat}{F R:Nat->Prop}{B B':Nat}{D:List Yk}{M:List Txt}{V:List (List Int)}{E:List Hld}{Qs:List (List Pth)}(h:LSt y g F R B D M V E Qs)(hB:B'<=B):LSt y g F R B' D M V E Qs:=
 ⟨h.ex,h.ok,h.whole,λk hk=>aw hB (h.low k hk),h.rlt⟩
def Ycl(x:Nat)(G G2:List Fct):List Fct:=if x=0 then G++G2 else G
theorem Yil{D:List Yk}{M:List Txt}{V:List (List Int)}{Qs:List (List Pth)}{G G2:List Fct}{x:Nat}(hx:(Y9 D M V (G.map Zy) Qs G2).2=x):(Y9 D M V (G.map Zy) Qs G2).1.1=(Ycl x G G2).map Zy:=by
 unfold Ycl
 by_cases h:x=0
 ·rw[Yiz (by rw[hx];exact h),if_pos h,bs]
 ·rw[Yn4 (by rw[hx];exact h),if_neg h]
theorem Ymh{D:List Yk}{M:List Txt}{V:List (List Int)}{Qs:List (List Pth)}{G G2:List Fct}{x k:Nat}(hx:(Y9 D M V (G.map Zy) Qs G2).2=x)(hl:G.length<=8*k):(Ycl x G G2).length<=8*(k+1):=by
 unfold Ycl
 by_cases h:x=0
 ·have h1:=Ybw (Yf6 (by rw[hx];exact h)).1
  rw[if_pos h,av];omega
 ·rw[if_neg h]
  omega
theorem Nk.next{y y5 y6:World}{g r:Nat}{F F' R:Nat->Prop}{B:Nat}{D:List Yk}{M:List Txt}{V:List (List Int)}{G G2:List Fct}{Qs:List (List Pth)}{x:Nat}(h:Nk y g r F R B D M V G Qs)(hx:(Y9 D M V (G.map Zy) Qs G2).2=x)(h5:LSt y5 g F' R B D M V (Y9 D M V (G.map Zy) Qs G2).1.1 (Y9 D M V (G.map Zy) Qs G2).1.2)(hr5:RLt y5 r B D M V Qs G)(hc6:Chg (λk=>k=r) y5 y6)(hr6:RLt y6 r B D M V (Y9 D M V (G.map Zy) Qs G2).1.2 (Ycl x G G2)):
  Nk y6 g r F' R B D M V (Ycl x G G2) (Y9 D M V (G.map Zy) Qs G2).1.2:=by
 rw[Yil hx]at h5
 have hne:=hr5.Yt9 h5.kind
 exact⟨h5.chg hc6 (λk hk e=>hne (e▸hk)) (λk hk e=>by have h1:=h.rr k hk;have e:k=r:=e;omega),hr6,h.rr⟩
def Yuw(y:World)(mo:Nat)(D:List Yk)(M:List Txt)(V:List (List Int))(e:Ending)(y':World):Prop:=∃g r F R G Qs,e=.returned (.tuple #[.pointer (some ⟨g,0,none⟩),.pointer (some ⟨r,0,none⟩),.bool true])/\Nk y' g r F R y.heap.size D M V G Qs/\G.length<=8*mo/\Below y.heap.size y y'
theorem RLt.rb{w:World}{r B:Nat}{D:List Yk}{M:List Txt}{V:List (List Int)}{Qs:List (List Pth)}{G:List Fct}(h:RLt w r B D M V Qs G):B<=r:=by
 obtain⟨_,_,_,_,_,_,_,_,_,_,_,_,h1,_⟩:=h;exact h1.rb
section
variable {y:World}{A1 A2 A3 AL:Option Addr}{n1 c1 n2 c2 n3 c3 nl cl:Nat}{D:List Yk}{M:List Txt}{V:List (List Int)}{LB:List (List Fct)}
theorem Ynt(hS:Vw y (λb=>b<y.heap.size) A1 n1 c1 A2 n2 c2 A3 n3 c3 D M V)(hf:L5 D)(hM:∀s∈M,s.length<=maxLen)(hn1:n1<=1000)(hn3:n3<=1000)(v:Value)(mo:Int)(hno:¬Wk D M V):
  Calls ae 12 #[Sy A1 n1 c1 A2 n2 c2 A3 n3 c3,v,.int .i64 mo] y λe y'=>e=.returned (.tuple #[.pointer none,.pointer none,.bool true])/\Below y.heap.size y y':=by
 have hb0:=Yb y (.cells #[.slice A1 n1 c1,.slice A2 n2 c2,.slice A3 n3 c3] 26)
 have hX:=Block.new y 26 #[.slice A1 n1 c1,.slice A2 n2 c2,.slice A3 n3 c3]
 have KS:Hid (∀z,Below y.heap.size y z->Vw z (λb=>b<y.heap.size) A1 n1 c1 A2 n2 c2 A3 n3 c3 D M V):=hid λz hz=>hS.mv (Mv.below hz λb hb=>hb)
 have HN:=hid (Ytf (KS.out _ hb0) hf hM hn1 hno)
 have x0:=hX.cell 0
 have x1:=hX.cell 1
 have x2:=hX.cell 2
 have HX:=hid hX
 have HB0:=hid hb0
 clear hb0 hX hS hf hM;go_enter fo,fi;go_wp2_with fail;refine HN.out.mono ?_;rintro e w1 ⟨rfl,hb1⟩
 have HB1:=hid (HB0.out.trans (hb1.mono HB0.out.size))
 have hX1:=HX.out.below hb1 HX.out.lt
 have x0:=hX1.cell 0
 have x1:=hX1.cell 1
 have x2:=hX1.cell 2
 have HR:=hid (Yip (KS.out _ HB1.out) hn1 hn3 hno)
 clear hb1 hX1 HN;go_wp2_with fail;refine HR.out.mono ?_;rintro e w2 ⟨rfl,hb2⟩
 have HB2:=hid (HB1.out.trans (hb2.mono HB1.out.size))
 clear hb2 HR x0 x1 x2;go_wp2_with fail;go_ret3;exact⟨rfl,HB2.out⟩
theorem Ykt(hS:Vw y (λb=>b<y.heap.size) A1 n1 c1 A2 n2 c2 A3 n3 c3 D M V)(hf:L5 D)(hM:∀s∈M,s.length<=maxLen)(hn3:n3<=1000)(hL:Row Yg7 1 y (λb=>b<y.heap.size) AL nl cl LB){mo:Nat}(hmo:mo<=12)(hyes:Wk D M V):
  Calls ae 12 #[Sy A1 n1 c1 A2 n2 c2 A3 n3 c3,.slice AL nl cl,.int .i64 (mo:Nat)] y (Yuw y mo D M V):=by
 have hb0:=Yb y (.cells #[.slice A1 n1 c1,.slice A2 n2 c2,.slice A3 n3 c3] 26)
 have hX:=Block.new y 26 #[.slice A1 n1 c1,.slice A2 n2 c2,.slice A3 n3 c3]
 have KS:Hid (∀z,Below y.heap.size y z->Vw z (λb=>b<y.heap.size) A1 n1 c1 A2 n2 c2 A3 n3 c3 D M V):=hid λz hz=>hS.mv (Mv.below hz λb hb=>hb)
 have KL:Hid (∀z,Below y.heap.size y z->Row Yg7 1 z (λb=>b<y.heap.size) AL nl cl LB):=hid λz hz=>hL.mv E8 (Mv.below hz λb hb=>hb)
 have hnl:=hL.Ym
 have HN:=hid (Yrn (KS.out _ hb0) hf hM hyes)
 have x0:=hX.cell 0
 have x1:=hX.cell 1
 have x2:=hX.cell 2
 have HX:=hid hX
 have HB0:=hid hb0
 clear hb0 hX hS hf hM hL;go_enter fo,fi;go_wp2_with fail;refine HN.out.mono ?_;rintro e w1 ⟨g,F,R,rfl,hL1,_,hb1⟩
 have HB1:=hid (HB0.out.trans (hb1.mono HB0.out.size))
 have hX1:=HX.out.below hb1 HX.out.lt
 have x0:=hX1.cell 0
 have x1:=hX1.cell 1
 have x2:=hX1.cell 2
 have HL1:=hid (hL1.less HB0.out.size)
 have HR:=hid (Yhc (KS.out _ HB1.out) hn3 HB1.out.size hyes)
 clear hb1 hX1 HN hL1;go_wp2_with fail;refine HR.out.mono ?_;rintro e w2 ⟨r,rfl,hr2,hr0,hb2⟩
 have HB2:=hid (HB1.out.trans (hb2.mono HB1.out.size))
 have HT:=hid (show Nk w2 g r F R y.heap.size D M V [] (D.map λ_=>[])from⟨HL1.out.below hb2,hr2,λk hk=>ay (HL1.out.rlt k hk) hr0⟩)
 have Hrb:=hid hr2.rb
 clear hb2 HR x0 x1 x2 hr2 hr0;go_wp2_with fail;go_loopw [13] (λi wr=>∃k:Nat,k<=nl/\k<=mo/\i=.int .i64 k/\Hid ((∃F G Qs,Nk wr g r F R y.heap.size D M V G Qs/\G.length<=8*k)/\Below y.heap.size y wr)) (λi _=>nl-(intOf i).toNat)
 case atStart=>exact⟨0,aq _,aq _,rfl,hid ⟨⟨F,[],_,HT.out,aq _⟩,HB2.out⟩⟩
 case round=>
  obtain⟨k,hk,hkm,rfl,hS⟩:=hrel
  by_cases hlt:k<nl
  ·have i1:(k:Int)<(nl:Int):=by omega
   by_cases hlm:k<mo
   ·have i2:decide ((k:Int)<(mo:Int))=true:=decide_eq_true (by omega)
    obtain⟨⟨F,G,Qs,hT,hGl⟩,hB⟩:=hS.out;obtain⟨bL,oL,Af,nf,cf,G2,rfl,hbS,hbl,gk,hG2,_⟩:=(KL.out wr hB).at1 hlt
    have KG:Hid (∀z,Below y.heap.size y z->z.cell? ⟨bL,oL+k,none⟩=some (.slice Af nf cf)):=hid λz hz=>by
     obtain⟨b',o',A',n',c',l',e,_,_,g',_,_⟩:=(KL.out z hz).at1 hlt;injection e with e
     injection e with e1 e2
     subst e1 e2
     have h1:=(Below.cell hz (p:=⟨bL,oL+k,none⟩) hbS)
     have h2:=(Below.cell hB (p:=⟨bL,oL+k,none⟩) hbS)
     rw[h1,<-h2];exact gk
    have KF:Hid (∀z,Below wr.heap.size wr z∨(∃F0,Chg F0 wr z/\∀k,F0 k->y.heap.size<=k)->S0 z (λb=>b<y.heap.size) Af nf cf G2):=hid λz hz=>by
     rcases hz with hz|⟨F0,hz,h0⟩
     ·exact hG2.mv Y3 (Mv.Yc hz _)
     ·exact hG2.mv Y3 λb hb hl=>⟨hz.block b hl λe=>by have h1:=h0 b e;have hb:b<y.heap.size:=hb;omega,hb⟩
    obtain⟨x,hx⟩: ∃x,Hid ((Y9 D M V (G.map Zy) Qs G2).2=x):=⟨_,hid rfl⟩
    have hbd:=below_drewN (Below.refl wr.heap.size wr) 1
    have hA:=Bf (hT.l.drewN 1) hB.size (KF.out _ (.inl hbd)) (λb hb hf=>by have h1:=hT.l.low b hf;have hb:b<y.heap.size:=hb;omega)
    rw[hx.out]at hA
    have HA:=hid hA
    have HT:=hid hT
    have HGl:=hid hGl
    have HB:=hid hB
    have hne:((x:Int) != (x:Int))=false:=by simp
    have i0:(0:Int)<=(k:Int):=by omega
    have hGn:G.length<=900:=by omega
    have HGn:=hid hGn
    clear hS hT hGl hB hA hG2 hbS hbl hbd hGn;go_wp2_with fail;go_region_held3 (λz=>z.cell? ⟨bL,oL+k,none⟩=some (.slice Af nf cf))
     (first
      |go_keep
      |exact KG.out _ hB6.out
      |exact KG.out _ hB5.out)
     (first
      |(go_at_call 17;refine HA.out.mono ?_;rintro e w5 ⟨rfl,F5,hs5,hc5,hf5⟩;have hc5:Chg F wr w5:=(Chg.Y1 (S:=F) (below_drewN (Below.refl _ wr) 1) (ag _)).trans hc5 (λ_ _ h=>h);have hB5:Hid (Below y.heap.size y w5):=hid (HB.out.trans (hc5.below HB.out.size HT.out.l.low));have HS5:=hid hs5;have HR5:=hid (HT.out.q.lat hc5 HT.out.l.kind λb hb hf=>(by have h1:=HT.out.l.low b hf;omega));have HF5:=hid (KF.out w5 (.inr ⟨F,hc5,HT.out.l.low⟩));clear hs5 hc5 hf5)
      |(go_at_call 31;refine(Yay HR5.out HF5.out HGn.out).mono ?_;intro e w6 h6;unfold Rt at h6;rw[hx.out]at h6;obtain⟨rfl,hc6,hr6⟩:=h6;have HT6:=hid (HT.out.next hx.out HS5.out HR5.out hc6 hr6);have hB6:Hid (Below y.heap.size y w6):=hid (hB5.out.trans (hc6.below hB5.out.size λq e=>aw Hrb.out (bj (Eq.symm e))));clear hc6 hr6))
    have HF:=hid (show(∃F G Qs,Nk w6 g r F R y.heap.size D M V G Qs/\G.length<=8*(k+1))/\Below y.heap.size y w6 from⟨⟨_,_,_,HT6.out,Ymh hx.out HGl.out⟩,hB6.out⟩)
    clear gk;go_wp2_with fail;go_roundw
    case rel=>exact⟨k+1,by omega,by omega,by go_num,HF⟩
    case measure=>simp[intOf];omega
   ·have i2:decide ((k:Int)<(mo:Int))=false:=decide_eq_false (by omega)
    obtain rfl:k=mo:=by omega
    go_wp2_with fail;go_ret3;obtain⟨⟨F,G,Qs,hT,hGl⟩,hB⟩:=hS.out;exact⟨g,r,F,R,G,Qs,rfl,hT,hGl,hB⟩
  ·have i1:¬(k:Int)<(nl:Int):=by omega
   have HS:=hS
   go_wp2_with fail;go_ret3;obtain⟨⟨F,G,Qs,hT,hGl⟩,hB⟩:=HS.out;exact⟨g,r,F,R,G,Qs,rfl,hT,by omega,hB⟩
end
end
theorem Yo3(h:LSt y g F R B D M V E Qs):
  Calls ae 32 #[.pointer (some ⟨g,0,none⟩)] y λe y'=>∃g' F',e=.returned (.pointer (some ⟨g',0,none⟩))/\LSt y' g' F' R y.heap.size D M V E Qs/\Below y.heap.size y y':=by
 obtain⟨Cs,h1,h2⟩:=h.ex;refine(Yjw h1 h.rlt).mono ?_;rintro e y' ⟨g',F',rfl,hL,hF,hB⟩;exact⟨g',F',rfl,⟨⟨Cs,hL,h2⟩,h.ok,h.whole,hF,λk hk=>ay (h.rlt k hk) hB.size⟩,hB⟩
end Go.Proofs.YtmepdkdeanbbaaaGreat
