/- NamesR, DictC, DictP, DictQ, DictR -/
import Derived.Test.YtmepdkdeanbbaaaGreatJ18
import Derived.Test.YtmepdkdeanbbaaaGreatJ35
import Derived.Test.YtmepdkdeanbbaaaGreatJ36
namespace Go.Proofs.YtmepdkdeanbbaaaGreat
set_option maxRecDepth 100000
set_option maxHeartbeats 8000000
open Go.RowKit
open Proofs.Tryz renaming prog→aa,ntmps218→ag,ntmps148→ai,func218→aj,func148→ak
open Nat renaming le_refl→ae,zero_le→aq,le_succ_of_le→av,zero_add→aw,lt_or_ge→ax
open World renaming size_alloc→af,drewN_drewN→au
open Int renaming toNat_natCast→an
open List renaming eq_nil_of_length_eq_zero→ao,getElem?_eq_getElem→ar
open Go.Lib (hid)
variable {w:World}{B base bm c g n r:Nat}{Q:List Pth}{Lv pv:Value}{A:Option Addr}{L:List Txt}
theorem Yij(h:Zx w B A n c L)(hm:Un L):
  Calls aa 142 #[.slice A n c] w λe w'=>e=.returned (.bool true)/\w=w':=by
 have:=O6 h
 rwa [decide_eq_true hm]at this
theorem Yn6(h:Zx w B A n c L)(hm:¬Un L):
  Calls aa 142 #[.slice A n c] w λe w'=>e=.returned (.bool false)/\w=w':=by
 have:=O6 h
 rwa [decide_eq_false hm]at this
/-! ### Text -/
/-! ### Path -/
def Yv1(l:Txt)(k f:Nat)(P:List Txt):Prop:=if k<=l.length then (47:UInt8)∉(l.drop f).take (k-f)/\D7 l=P++D7 (l.drop f)else D7 l=P
theorem Yv1.start(l:Txt):Yv1 l 0 0 []:=by
 unfold Yv1;rw[if_pos (aq _)];simp
theorem Ycg:(aa.info? 168).map (λi=>(i.zero,i.size,i.bytes))=some (some (.agg #[.int .i64 0,.string ByteArray.empty]),2,24):=by kernel_rfl
theorem Vp.alloc{v:Value}{E:List (Nat×Txt)}(h:Vp w base v E)(o:Obj):Vp (w.alloc o) base v E:=World.ownsRow.alloc h o
theorem Ypb{w:World}{ops:Array Oper}{o:Oper}{a:Act}{Q:Exit->Act->World->Prop}{K:Act->World->Prop}{F:Prop}(hgd:o.guard=none)(s x:Operand)
  (ho:o.op=.call {callee:=.builtin .append,args:=#[s,x],argTypes:=#[158,158]})
  (base:Nat) (v:Value) (L:List (Nat×Txt)) (hs:a.eval s=v) (hown:Vp w base v L) (g:Nat) (hx:a.eval x=.slice (some ⟨g,0,none⟩) 1 1) (k:Nat) (t:Txt)
  (hy:∀j u,(pcs (k,t))[j]?=some u->w.cell? ((⟨g,0,none⟩:Addr).add j)=some u) (hl:L.length<=1000) (hbase:base<=w.heap.size)
  (h:∀v' w',Vp w' base v' (L++[(k,t)])->Zl w v w' v'→K (a.put o.dst v') w'):
  if Region.wanted o (yielded ops a.tmps)=true then Oper.wp aa o a w K Q else F:=by
 have hw:Region.wanted o (yielded ops a.tmps)=true:=by simp[Region.wanted,hgd]
 rw[if_pos hw];obtain⟨i,hi,hz0,hz1,hz2⟩:=info_parts Ycg;obtain⟨v',w',hrun,h2,h3,_,h5⟩:=run_append_own_at (P:=aa) w base 158 o.type 168 i _ 2 24 Tryz.underlying158 hi hz0 hz1 hz2 rfl (by decide) v L.length (L.flatMap pcs) hown ⟨g,0,none⟩ 1 1 (pcs (k,t)) rfl hy
  (λu hu=>by simp[pcs]at hu;rcases hu with rfl|rfl <;> rfl) (by unfold maxLen;omega) (by omega) hbase
 unfold Oper.wp execOp;simp only[ho,resolve,invoke,builtin,Sem.run_bind,Sem.run_pure,Result.andThen_ok,List.map_toArray,List.map_cons,List.map_nil,hs,hx,hrun];refine h v' w' (by unfold Vp;simpa using h2) ⟨h3,λq hq=>?_⟩
 rcases h5 with h5|h5
 ·exact .inl (h5▸hq)
 ·rw[h5]at hq
  injection hq with hq
  exact .inr (Nat.le_of_eq hq)
theorem Yo5(w:World)(k:Nat)(t:Txt)(e:TypeId)(g:Nat)(hg:g=w.heap.size):∀j u,(pcs (k,t))[j]?=some u->(w.alloc (.cells #[.int .i64 k,.string ⟨t.toArray⟩] e)).cell? ((⟨g,0,none⟩:Addr).add j)=some u:=by
 intro j u hj;subst hg;rw[Yu,aw,Zq];simpa[pcs,Wa]using hj
theorem Yk3{m:Nat}(h1:w.cell? ⟨g,1,none⟩=some (.slice A m c))(_hm:m<=1000):
  Calls aa 120 #[.pointer (some ⟨g,0,none⟩)] w λe w'=>e=.returned (.int .i64 (m:Nat))/\w=w':=by
 go_enter Tryz.func120,Tryz.ntmps120;go_wp2;go_ret;exact⟨rfl,rfl⟩
theorem L7(s:ByteArray)(w:World)(hs:s.size<=281474976710656):
  Calls aa 88 #[.string s] w λe w'=>e=.returned (.string s)/\Below w.heap.size w w':=by
 have h:=Tryz.stringslite_Clone s w hs
 go_enter Tryz.func88,Tryz.ntmps88;go_wp2_with fail;refine h.mono ?_;rintro e w' ⟨rfl,hB⟩;go_wp2_with fail;go_ret;exact⟨rfl,hB⟩
theorem Ysa(h:Dc w base g pv bm n Q){a:Nat}{s:Txt}(ha:a<=Q.length)(hs:Z6 s)(hnew:pth Q a++[s]∉Q)(hg:Good n (Q++[pth Q a++[s]])):
  Calls aa 163 #[.pointer (some ⟨g,0,none⟩),.agg #[.int .i64 a,.string ⟨s.toArray⟩]] w λe w'=>∃pv',e=.returned (.int .i64 ((Q.length+1:Nat):Int))/\Dc w' base g pv' bm n (Q++[pth Q a++[s]])∧
   Chg (Th g pv bm) w w'∧(∀k,pv'.ownBlock=some k->pv.ownBlock=some k∨w.heap.size<=k):=by
 obtain⟨A,cap,rfl,hEr⟩:=h.form;clear hEr
 have hgl:=h.block.lt
 have hbl:=h.map.lt
 have hgb:=h.gb
 have hmb:=h.mb
 have hQ:=h.good.size
 have hne:(a,s)∉Xa Q:=λhm=>hnew ((h.good.Yfc ha).1 hm)
 have hE2:=hid (h.good.Ymt (s:=s) ha)
 have hsz:(⟨s.toArray⟩:ByteArray).size<=281474976710656:=by
  have:=hs.2.1
  show s.toArray.size<=_
  simp;omega
 have hsm:s.length<=maxLen:=by have:=hs.2.1;unfold maxLen;omega
 have hw1:=Yb w (.cells #[.int .i64 a,.string ⟨s.toArray⟩] 168)
 have hcl:=L7 ⟨s.toArray⟩ (w.alloc (.cells #[.int .i64 a,.string ⟨s.toArray⟩] 168)) hsz
 have hbx:=Block.new w 168 #[.int .i64 a,.string ⟨s.toArray⟩]
 go_enter Tryz.func163,Tryz.ntmps163;go_wp2_with fail;refine hcl.mono ?_;rintro e w2 ⟨rfl,hB2⟩
 have hx2:=hbx.below hB2 (by simp)
 have hf2:=hx2.free 1
 have k2:w2.cell? ⟨w.heap.size,1,none⟩=some (.string ⟨s.toArray⟩):=hx2.cell 1
 have hx3:=hx2.Ys 1 (.string ⟨s.toArray⟩)
 have hw3:Below w.heap.size w (w2.setCell ⟨w.heap.size,1,none⟩ (.string ⟨s.toArray⟩)):=(Ya hw1 hB2).setCell (p:=⟨w.heap.size,1,none⟩) (ae _) _
 clear hcl hbx hB2 hx2 hw1;go_wp2_with fail;obtain⟨w3,he3⟩: ∃w3,w3=w2.setCell ⟨w.heap.size,1,none⟩ (.string ⟨s.toArray⟩):=⟨_,rfl⟩;rw[<-he3]at hx3 hw3⊢;clear he3 hf2 k2
 have hD:=h.below hw3
 have hs3:=hw3.size
 have c1:=hD.c1
 have k0:w3.cell? ⟨w.heap.size,0,none⟩=some (.int .i64 a):=hx3.cell 0
 have k1:w3.cell? ⟨w.heap.size,1,none⟩=some (.string ⟨s.toArray⟩):=hx3.cell 1
 have hff:=hD.block.free 1
 have hO1:Vp (w3.drew.alloc (.cells #[.int .i64 a,.string ⟨s.toArray⟩] 168)) base (.slice A Q.length cap) (Xa Q):=Vp.alloc (w:=w3.drew) hD.row _
 have hpr:=Yo5 w3.drew a s 168 w3.heap.size rfl
 have hbs:base<=(w3.drew.alloc (.cells #[.int .i64 a,.string ⟨s.toArray⟩] 168)).heap.size:=by simp;omega
 have hel:(Xa Q).length<=1000:=by rw[Sq];omega
 have hbr:=hD.block
 have hrg:=hD.Ywt
 have HO1:=hid hO1
 have Hpr:=hid hpr
 have Hbs:=hid hbs
 have Hel:=hid hel
 have HB:=hid (show Block (w3.drew.alloc (.cells #[.int .i64 a,.string ⟨s.toArray⟩] 168)) g 160 _ from Block.alloc (w:=w3.drew) hbr _)
 have c1a:(w3.alloc (.cells #[.int .i64 a,.string ⟨s.toArray⟩] 168)).drew.cell? ⟨g,1,none⟩=some (.slice A Q.length cap):=HB.out.cell 1
 clear hO1 hpr hbs hel hbr
 have HL2:Hid ((Xa Q++[(a,s)]).length=Q.length+1):=hid (by simp[Sq])
 have hch0:Chg (Th g (.slice A Q.length cap) bm) w (w3.drew.alloc (.cells #[.int .i64 a,.string ⟨s.toArray⟩] 168)):=Chg.alloc (b:=w3.drew) ((Chg.Y1 hw3 (ae _)).drewN 1) _
 have hM0:Vn (w3.drew.alloc (.cells #[.int .i64 a,.string ⟨s.toArray⟩] 168)) bm (Xa Q):=Vn.alloc (w:=w3.drew) hD.map _
 have hx0:Block (w3.drew.alloc (.cells #[.int .i64 a,.string ⟨s.toArray⟩] 168)) w.heap.size 168 _:=Block.alloc (w:=w3.drew) hx3 _
 have hrb:=h.Yv4
 have hgm:=h.Yxu
 have hown:=λk hk=>World.ownsRow.lt h.row k hk
 have Hh:=hid (show Chg (Th g (.slice A Q.length cap) bm) w _/\Vn _ bm (Xa Q)/\Block _ w.heap.size 168 _/\(Value.slice A Q.length cap).ownBlock≠some bm/\g≠bm/\(∀k,(Value.slice A Q.length cap).ownBlock=some k->base<=k/\k<w.heap.size)from⟨hch0,hM0,hx0,hrb,hgm,hown⟩)
 have Hg:=hid hg
 have Hne:=hid hne
 clear hch0 hM0 hx0 hrb hgm hown hg hne hnew hs;go_region_law (refine Ypb rfl _ _ rfl base _ (Xa Q) rfl HO1.out _ rfl a s Hpr.out Hel.out Hbs.out ?_;intro v2 w4 hO2 hG2;obtain⟨A2,cap2,e2,hE2r⟩:=hO2.form;rw[HL2.out]at e2;subst e2;have hB4:=HB.out.grown hG2.1 hrg;have f4:=hB4.free 1;have c4:w4.cell? ⟨g,1,none⟩=some (.slice A Q.length cap):=hB4.cell 1;clear hE2r)
 all_goals
  obtain⟨hch,hM,hx,hrb,hgm,hown⟩:=Hh.out
  have hO5:Vp (w4.setCell ⟨g,1,none⟩ (.slice A2 (Q.length+1) cap2)) base (.slice A2 (Q.length+1) cap2) (Xa Q++[(a,s)]):=ownsRow_setCell_other hO2 (a:=⟨g,1,none⟩) (λe=>by
   rcases hG2.2 g e with h1|h1
   ·exact hrg h1
   ·simp at h1;omega) _
  have hown5:∀k,(Value.slice A2 (Q.length+1) cap2).ownBlock=some k->(Value.slice A Q.length cap).ownBlock=some k∨w.heap.size<=k:=λk hk=>(hG2.2 k hk).imp id (λh1=>by simp at h1;omega)
  have hB5:=hB4.Ys 1 (.slice A2 (Q.length+1) cap2)
  have hM5:Vn (w4.setCell ⟨g,1,none⟩ (.slice A2 (Q.length+1) cap2)) bm (Xa Q):=(hM.kept hG2.1 (λe=>hrb e.symm)).same (by simp[World.setCell,Array.getElem?_modify,hgm])
  have hx5:=(hx.grown hG2.1 (λe=>by have:=(hown _ e).2;omega)).Zg g 1 (.slice A2 (Q.length+1) cap2) (by omega)
  have hch5:=(hch.trans (S':=Th g (.slice A Q.length cap) bm) (Chg.W5 hG2.1 (λk hk _=>.inr (.inl hk))) (λ_ _ h=>h)).Ys g 1 (.slice A2 (Q.length+1) cap2) (λ_=>.inl rfl)
  clear hM hx hch hO2 hG2 hB4 f4 c4;generalize w4.setCell ⟨g,1,none⟩ (.slice A2 (Q.length+1) cap2)=w5 at hO5 hB5 hM5 hx5 hch5⊢;obtain⟨w6,hrun0,hM6,hG6⟩:=(show Vn w5.drew bm (Xa Q)from hM5).store (a:=a) (s:=s) (by omega) hsm Hel.out Hne.out
  have hrun:(Instr.mapUpdate 157 (.map (some bm)) (.agg #[.int .i64 a,.string ⟨s.toArray⟩]) (.int .i64 ((Q.length:Int)+1))).run aa w5.drew=.ok () w6:=by
   rw[Sq]at hrun0;simpa[Kq,Wa]using hrun0
  have hB6:=hB5.grown (w':=w6) (show w5.grownBy w6 (some bm)from⟨hG6.os,hG6.tape,hG6.output,hG6.size,hG6.block⟩) (λe=>by injection e with e;omega)
  have hD6:=hid (show Dc w6 base g (.slice A2 (Q.length+1) cap2) bm n (Q++[pth Q a++[s]])from⟨hB6,by rw[hE2.out];exact World.ownsRow.kept hO5 (show w5.grownBy w6 (some bm)from⟨hG6.os,hG6.tape,hG6.output,hG6.size,hG6.block⟩) (.inr (λe=>by
    rcases hown5 _ e with h1|h1
    ·exact hrb h1
    ·omega)),by rw[hE2.out];exact hM6,hgb,hmb,Hg.out⟩)
  have hch6:=hid (hch5.trans (S':=Th g (.slice A Q.length cap) bm) (c:=w6) (Chg.W5 (show w5.grownBy w6 (some bm)from⟨hG6.os,hG6.tape,hG6.output,hG6.size,hG6.block⟩) (λk hk _=>.inr (.inr (Option.some.inj hk).symm))) (λ_ _ h=>h))
  have Hown5:=hid hown5
  have d1:w5.cell? ⟨g,1,none⟩=some (.slice A2 (Q.length+1) cap2):=hB5.cell 1
  have d2:w5.cell? ⟨g,2,none⟩=some (.map (some bm)):=hB5.cell 2
  have d3:w5.cell? ⟨w.heap.size,0,none⟩=some (.int .i64 a):=hx5.cell 0
  have d4:w5.cell? ⟨w.heap.size,1,none⟩=some (.string ⟨s.toArray⟩):=hx5.cell 1
  have d5:w6.cell? ⟨g,1,none⟩=some (.slice A2 (Q.length+1) cap2):=hB6.cell 1
  clear hrun0 hM6 hG6 hB6 hch5 hown5 hO5 hB5 hM5 hx5 hrb hgm hown;go_wp2_with fail;go_region_with (go_at_call 120;refine(Yk3 (w:=w5.drew) (A:=A2) (m:=Q.length+1) (c:=cap2) d1 (by omega)).mono ?_;rintro e w' ⟨rfl,rfl⟩)
  all_goals
   go_wp2_with fail;refine(Yk3 (w:=w6) d5 (by omega)).mono ?_
   rintro e w' ⟨rfl,rfl⟩;go_wp2_with fail;go_ret;exact⟨_,by first|rfl|simp,hD6.out,hch6.out,Hown5.out⟩
theorem Ygo(w:World):(Instr.makeMap 157 none).run aa w=.ok (.map (some w.heap.size)) (w.alloc (.map #[] 0)):=run_makeMap _ w
theorem Yoy(w:World)(o:Obj)(e:TypeId)(cs:Array Value)(g:Nat)(hg:g=w.heap.size+1):Block ((w.alloc o).alloc (.cells cs e)) g e cs:=by
 subst hg
 have:=Block.new (w.alloc o) e cs
 simpa using this
theorem Yqn(w:World){n:Nat}(hn:1<=n/\n<=3){g:Nat}(hg:g=w.heap.size+1):Dc ((w.alloc (.map #[] 0)).alloc (.cells #[.int .i64 n,.slice none 0 0,.map (some w.heap.size)] 160)) w.heap.size g (.slice none 0 0) w.heap.size n []:=
 ⟨Yoy _ _ _ _ _ hg,Vp.Zj _ _,(Vn.made w).alloc _,by omega,ae _,Dj hn⟩
theorem Yth(w:World){n:Nat}(hn:1<=n/\n<=3):
  Calls aa 43 #[.int .i64 n] w λe w'=>e=.returned (.pointer (some ⟨w.heap.size+1,0,none⟩))/\Dc w' w.heap.size (w.heap.size+1) (.slice none 0 0) w.heap.size n []/\Below w.heap.size w w':=by
 have hmm:=Ygo
 have h1:¬(n:Int)<1:=by omega
 have h2:¬(3:Int)<(n:Int):=by omega
 have H:=λg (hg:g=w.heap.size+1)=>hid (Yqn w hn hg)
 clear hn;go_enter Tryz.func43,Tryz.ntmps43;go_wp2;go_ret;exact⟨by first|rfl|simp,(H _ rfl).out,Wz _ _ _⟩
def upA(Q:List Pth)(c k:Int):Nat×Nat:=
 if 0<=c/\c<=(Q.length:Int)then if 0<=k/\k<=((pth Q c.toNat).length:Int)then (fnd Q ((pth Q c.toNat).take k.toNat),0)else (0,1)else (0,33)
theorem Nn{a b a' b':Nat}(h:(a,b)=(a',b')):Ending.returned (.tuple #[.int .i64 a,.int .i64 b])=.returned (.tuple #[.int .i64 (a':Int),.int .i64 (b':Int)]):=by
 injection h with h1 h2
 rw[h1,h2]
theorem Yus(h:Dc w base g pv bm n Q)(c k:Int){x e:Nat}(hx:Hid (upA Q c k=(x,e))):
  Calls aa 218 #[.pointer (some ⟨g,0,none⟩),.int .i64 c,.int .i64 k] w λy w'=>y=.returned (.tuple #[.int .i64 x,.int .i64 e])/\Below w.heap.size w w':=by
 by_cases hc:0<=c/\c<=(Q.length:Int)
 ·obtain⟨m,rfl⟩: ∃m:Nat,c=(m:Int):=⟨c.toNat,by omega⟩
  obtain⟨q,hq⟩: ∃q,Hid (pth Q m=q):=⟨_,hid rfl⟩
  have hm:m<=Q.length:=by omega
  have hh:=hid (decide_eq_true hc)
  have hA:upA Q (m:Int) k=if 0<=k/\k<=(q.length:Int)then (fnd Q (q.take k.toNat),0)else (0,1):=by
   unfold upA;rw[if_pos hc];simp only[an,hq.out]
  rw[hA]at hx
  have hl:=Yh9 h m hm hq
  clear hc hA
  by_cases hk:0<=k
  ·by_cases hk2:k<=(q.length:Int)
   ·obtain⟨i,rfl⟩: ∃i:Nat,k=(i:Int):=⟨k.toNat,by omega⟩
    have hi:i<=q.length:=by omega
    have Hx:Hid ((fnd Q (q.take i),0)=(x,e)):=hid (by have:=hx.out;rw[if_pos ⟨hk,hk2⟩]at this;simpa using this)
    clear hx hk;go_enter aj,ag;go_wp2_with fail;refine(Jy h _ hh).mono ?_;rintro y w' ⟨rfl,rfl⟩;go_wp2_with fail;refine hl.mono ?_;rintro y w' ⟨v,rfl,hO,hB⟩;obtain⟨A,n',c',rfl,hI,_⟩:=hO.Yr
    have hn':n'=q.length+1:=by rw[<-hI.len,Xc]
    have hin:i<n':=by omega
    obtain⟨b,o,y,rfl,hb,hcell,hy⟩:=hI.at_ hin;rw[E6 (by omega)]at hy
    have Hn:=hid hn'
    have hge:¬(n':Int)<=(i:Int):=by omega
    have hcap:=hI.cap
    have hcm:=hI.Xf
    clear hO hn' hl hI hk2 hi;go_wp2_with fail;go_ret2;exact⟨by rw[hy.out];exact Nn Hx.out,hB⟩
   ·have Hx:Hid ((0,1)=(x,e)):=hid (by have:=hx.out;rwa [if_neg (λh=>hk2 h.2)]at this)
    clear hx;go_enter aj,ag;go_wp2_with fail;refine(Jy h _ hh).mono ?_;rintro y w' ⟨rfl,rfl⟩;go_wp2_with fail;refine hl.mono ?_;rintro y w' ⟨v,rfl,hO,hB⟩;obtain⟨A,n',c',rfl,hI,_⟩:=hO.Yr
    have hn':n'=q.length+1:=by rw[<-hI.len,Xc]
    have hge:(n':Int)<=k:=by omega
    have hcap:=hI.cap
    have hcm:=hI.Xf
    clear hO hn' hl hI hk2;go_wp2_with fail;go_ret2;exact⟨Nn Hx.out,hB⟩
  ·have Hx:Hid ((0,1)=(x,e)):=hid (by have:=hx.out;rwa [if_neg (λh=>hk h.1)]at this)
   clear hx;go_enter aj,ag;go_wp2_with fail;refine(Jy h _ hh).mono ?_;rintro y w' ⟨rfl,rfl⟩;go_wp2_with fail;refine hl.mono ?_;rintro y w' ⟨v,rfl,hO,hB⟩;obtain⟨A,n',c',rfl,hI,_⟩:=hO.Yr;clear hO hl hI;go_wp2_with fail;go_ret2;exact⟨Nn Hx.out,hB⟩
 ·have Hx:Hid ((0,33)=(x,e)):=hid (by have:=hx.out;unfold upA at this;rwa [if_neg hc]at this)
  have hh:=hid (decide_eq_false hc)
  clear hx hc;go_enter aj,ag;go_wp2_with fail;refine(Jy h _ hh).mono ?_;rintro y w' ⟨rfl,rfl⟩;go_wp2_with fail;go_ret2;exact⟨Nn Hx.out,Below.refl _ _⟩
theorem Good.Yvl(h:Good n Q){q:Pth}(hq:q∈Q){k:Nat}(hk:k<q.length):∃i a,fnd Q (q.take (k+1))=i+1/\i<Q.length/\(Xa Q)[i]?=some (a,q.getD k []):=by
 have hm:=h.Po hq (k:=k+1) (by omega) hk
 have hp:=Vh.2 hm
 have hle:=Rv (L:=Q) (x:=q.take (k+1))
 have e1:fnd Q (q.take (k+1))=(fnd Q (q.take (k+1))-1)+1:=by omega
 have e2:=Ry (Oo hm)
 rw[Yc2 hk]at e2;exact⟨_,_,e1,by omega,e2⟩
theorem Ydk(h:Dc w base g pv bm n Q)(m:Nat)(hm:m<=Q.length){q:Pth}(hq:Hid (pth Q m=q)):
  Calls aa 112 #[.pointer (some ⟨g,0,none⟩),.int .i64 m] w λy w'=>∃v,y=.returned (.tuple #[v,.int .i64 0])/\Xj w' w.heap.size v q/\Below w.heap.size w w':=by
 have hh:Hid (decide (0<=(m:Int)/\(m:Int)<=(Q.length:Int))=true):=hid (decide_eq_true (by omega))
 have hl:=Yh9 h m hm hq
 have hqm:Hid (q=[]∨q∈Q):=hid (by
  rw[<-hq.out]
  rcases Nat.eq_zero_or_pos m with h0|h0
  ·left;rw[h0];rfl
  ·right;exact Yed h0 hm)
 have hql:Hid (q.length<=3):=hid (by have:=h.good.Yk1 (c:=m);have:=h.good.lv.2;rw[hq.out]at *;omega)
 have hgood:=hid h.good
 have hlt:=h.block.lt
 obtain⟨A,cap,rfl,hE⟩:=h.form
 have hE':=hid hE
 have hcap:=hE.cap
 have hQl:=h.good.size
 have K:Hid (∀y,Below w.heap.size w y->y.cell? ⟨g,1,none⟩=some (.slice A Q.length cap)):=hid λy hy=>(hy.cell (p:=⟨g,1,none⟩) hlt).trans h.c1
 clear hE hm hq;go_enter Tryz.func112,Tryz.ntmps112;go_wp2_with fail;refine(Jy h _ hh).mono ?_;rintro y w' ⟨rfl,rfl⟩;go_wp2_with fail;refine hl.mono ?_;rintro y w1 ⟨v,rfl,hO,hB⟩;obtain⟨g2,c',rfl,hg1,hg2,hcap',hcm',hcell⟩:=hO.Ybi (by rw[Xc];omega)
 rw[Xc]at hcap' hcell
 have e0:=Xc Q q (q.length+1)
 rw[e0];clear e0
 have hcell2:=hid hcell
 obtain⟨m2,hm2⟩: ∃m2,Hid (q.length=m2):=⟨_,hid rfl⟩;rw[hm2.out]at hcap'⊢
 have hb2:(m2:Int)+1<=(c':Int):=by omega
 have hb3:(1:Int)<=(c':Int):=by omega
 have hb4:(1:Int)<=(m2:Int)+1:=by omega
 have Hb:=hid hB
 have hs1:=hB.size
 clear hO hl hB hcell
 by_cases hcp:c'=1
 ·obtain rfl:m2=0:=by omega
  have hq0:Hid (q=[]):=hid (ao hm2.out)
  subst hcp;clear hqm hql hgood K;go_wp2_with fail;go_loopw [6,18] (λv i wr=>v=.slice none 0 0/\i=.int .i64 0/\wr=w1) (λ_ _ _=>0)
  case atStart=>exact⟨rfl,rfl,rfl⟩
  case round=>
   obtain⟨rfl,rfl,rfl⟩:=hrel;go_wp2_with fail;go_ret2;exact⟨_,rfl,by rw[hq0.out];exact Xj.Zj _ _,Hb.out⟩
 ·go_wp2_with fail
  go_loopw [6,18] (λv i wr=>∃k:Nat,k<=m2/\i=.int .i64 k/\Xj wr w1.heap.size v (q.take k)/\Below w1.heap.size w1 wr) (λ_ i _=>m2-(intOf i).toNat)
  case atStart=>exact⟨0,aq _,rfl,Xj.Zj _ _,Below.refl _ _⟩
  case round=>
   obtain⟨k,hk,rfl,hO,hB1⟩:=hrel
   have hBw:=Hb.out.trans (hB1.mono hs1)
   by_cases hlt2:k<m2
   ·have hc0:=(hB1.cell (p:=⟨g2,k+1,none⟩) hg2).trans (hcell2.out (k+1) (by have:=hm2.out;omega))
    rw[E6 (by have:=hm2.out;omega)]at hc0
    have hqQ:q∈Q:=by
     rcases hqm.out with e|e
     ·have:=hm2.out;rw[e]at this;simp at this;omega
     ·exact e
    obtain⟨i,a,e1,e2,e3⟩:=hgood.out.Yvl hqQ (k:=k) (by have:=hm2.out;omega)
    rw[e1]at hc0
    have hc1:wr.cell? ⟨g2,1+k,none⟩=some (.int .i64 ((i:Int)+1)):=by rw[Nat.add_comm];simpa using hc0
    obtain⟨b2,o2,rfl,hb2',_,hc2⟩:=(hE'.out.below hBw).has i a _ e3;obtain⟨s,hs⟩: ∃s,Hid (s=q.getD k []):=⟨_,hid rfl⟩
    have hc3:wr.cell? ⟨b2,o2+i*2+1,none⟩=some (.string ⟨s.toArray⟩):=by rw[hs.out];exact hc2
    have c1:=K.out wr hBw
    have HT:=hid (Ou (L:=q) (k:=k) (by have:=hm2.out;omega) hs.out)
    have hz:=hB1.size
    have hlb:Hid ((q.take k).length<=1000000):=hid (Nat.le_trans (List.length_take_le k _) (by have:=hm2.out;have:=hql.out;omega))
    have hlo:=λg e=>(hO.lt g e).1
    have hO1:=hO.alloc (.cells #[.string ⟨s.toArray⟩] 9)
    have hkk:(i:Int)+1-1=(i:Int):=by omega
    have hii:(0:Int)<=(i:Int):=by omega
    clear e1 e3 hc2 hc0;go_wp2_with (at_builtin;refine Qk rfl _ _ rfl w1.heap.size _ _ rfl hO1 _ rfl s (Mq _ _ _ _ (by simp)) hlb.out (by rw[af];omega) ?_)
    intro v' w2 hO2 hG2
    have hB2:=hid ((hB1.alloc hz (.cells #[.string ⟨s.toArray⟩] 9)).trans (hG2.Yw (by rw[af];omega) hlo))
    rw[HT.out]at hO2
    have hO3:=hid hO2
    clear hO hO1 hO2 hG2 hlo hB1 hBw;go_wp2_with fail;go_roundw
    case rel=>exact⟨k+1,by omega,by go_num,hO3.out,hB2.out⟩
    case measure=>simp[intOf];omega
   ·have hke:Hid (q.take k=q):=hid (List.take_of_length_le (by have:=hm2.out;omega))
    rw[hke.out]at hO;go_wp2_with fail;go_ret2;exact⟨_,rfl,hO.low hs1,hBw⟩
theorem J0{P:Program}(w:World){ops:Array Oper}{rest:List Oper}{o:Oper}{a:Act}{Q:Exit->Act->World->Prop}
  (hg:o.guard=none) (l c:Operand) (t:TypeId) (hop:o.op=Op.makeSlice t l c)
  (e:TypeId) (i:TypeInfo) (z:Value) (h1:P.underlying t=some (.slice e)) (h2:P.info? e=some i) (h3:i.zero=some z) (h4:i.size=1) (h5:i.bytes=8)
  (N C:Int) (n k:Nat) (hl:a.eval l=.int .i64 N) (hc:a.eval c=.int .i64 C) (hN:N=n) (hC:C=k) (hnk:n<=k) (hk:k<=1000000)
  (hK:wpList P ops Q rest (a.put o.dst (.slice (some ⟨w.heap.size,0,none⟩) n k)) (w.alloc (.cells (madeCells z.cells k).toList.toArray e))):
  wpList P ops Q (o::rest) a w:=by
 subst hN hC;refine wpList_plain hg λK hK'=>?_
 have hrun:=run_make (P:=P) w t e i z h1 h2 h3 .i64 .i64 n k (by omega) (by omega) (by rw[h5];omega) (by omega)
 rw[h4,Nat.mul_one,an,an]at hrun;unfold Oper.wp;simp[execOp,hop,hl,hc,hrun,Result.andThen];exact hK' _ _ (by simpa using hK)
theorem Yru(w:World)(k:Nat)(hk:k<=1000000):Yi (w.alloc (.cells (madeCells #[.int .i64 0] k).toList.toArray 3)) w.heap.size (.slice (some ⟨w.heap.size,0,none⟩) 0 k) []:=by
 refine World.ownsRow_made w _ k (ae _) (by unfold maxLen;omega) ?_
 simp[size_madeCells]
theorem Good.Yit(h:Good n Q){p:Pth}{k:Nat}(hk:k<p.length)(hm:p.take k=[]∨p.take k∈Q){s:Txt}(hs:s=p.getD k []){a:Nat}(ha:fnd Q (p.take k)=a):
  a<=Q.length/\fnd (Xa Q) (a,s)=fnd Q (p.take (k+1))/\decide ((a,s)∈Xa Q)=decide (p.take (k+1)∈Q):=by
 have hle:a<=Q.length:=by rw[<-ha];exact Rv
 have e:pth Q a=p.take k:=by
  rcases hm with e|e
  ·rw[<-ha,e,h.Na];rfl
  ·rw[<-ha];exact Qd e
 have e2:pth Q a++[s]=p.take (k+1):=by
  rw[e,hs];exact Ou hk rfl
 refine⟨hle,by rw[h.Yfd hle,e2],?_⟩
 have:=h.Yfc (s:=s) hle
 rw[e2]at this;exact decide_eq_decide.2 this
theorem Yl5(h:Dc w base g pv bm n Q){A:Option Addr}{m c:Nat}{p:Pth}(hp:Zx w w.heap.size A m c p)(hmay:Un p):
  Calls aa 162 #[.pointer (some ⟨g,0,none⟩),.slice A m c] w λe w'=>∃v k,e=.returned v/\Lm Q p k/\Yi w' w.heap.size v (cds Q p (k+1))/\Below w.heap.size w w':=by
 obtain⟨i0,hi,hz0,hz1,hz2⟩:=info_parts Rx
 have hgood:=hid h.good
 have hm3:m<=3:=by rw[<-hp.len];exact hmay.1
 have Hpl:=hid hp.len
 have Hmay:=hid hmay
 have hD:=hid h
 have hgl:=h.block.lt
 have K:Hid (∀y,Below w.heap.size w y->y.cell? ⟨g,2,none⟩=some (.map (some bm))/\Vn y bm (Xa Q)):=hid λy hy=>⟨(hy.cell (p:=⟨g,2,none⟩) hgl).trans h.c2,(h.below hy).map⟩
 have H1:=fun(W:World) (hW:W=w.alloc (.cells (madeCells #[.int .i64 0] (m+1)).toList.toArray 3))=>hid (show Yi W w.heap.size (.slice (some ⟨w.heap.size,0,none⟩) 0 (m+1)) []/\Below w.heap.size w W from by subst hW;exact⟨Yru w (m+1) (by omega),Yb _ _⟩)
 clear hmay h;go_enter Tryz.func162,Tryz.ntmps162;go_wp2_with (first
  |(at_make;refine J0 _ rfl _ _ 47 rfl 3 i0 (.int .i64 0) Tryz.underlying47 hi hz0 hz1 hz2 0 ((m:Int)+1) 0 (m+1) rfl rfl rfl (by omega) (by omega) (by omega) ?_)
  |(at_builtin;refine Yo rfl _ _ rfl w.heap.size _ _ rfl ((H1 _ rfl).out.1.alloc _) _ rfl 0 (Y6 _ _ _ _ (by simp)) (by simp) (by simp;omega) ?_)
  |fail)
 intro v0 w1 hO0 hG0
 have hB1:Below w.heap.size w w1:=((H1 _ rfl).out.2.alloc (by simp) _).trans (hG0.Yw (by simp;omega) (λk hk=>by cases hk;exact ae _))
 have hO1:Yi w1 w.heap.size v0 (cds Q p (0+1)):=by rw[aw,Yup hgood.out];simpa using hO0
 clear hO0 hG0 H1;go_wp2_with fail;go_loopw [5,18] (λv i wr=>∃k:Nat,k<=m/\i=.int .i64 k/\Yi wr w.heap.size v (cds Q p (k+1))/\Below w.heap.size w wr/\Hid (∀j,j<k->p.take (j+1)∈Q)) (λ_ i _=>m-(intOf i).toNat)
 case atStart=>exact⟨0,aq _,rfl,hO1,hB1,hid (λj hj=>by omega)⟩
 case round=>
  obtain⟨k,hk,rfl,hO,hB,hall⟩:=hrel
  by_cases hlt:k<m
  ·obtain⟨b,o,s,rfl,hb,hc,es⟩:=(hp.below hB (ae _)).at_ hlt
   obtain⟨a,ha⟩: ∃a,Hid (fnd Q (p.take k)=a):=⟨_,hid rfl⟩;obtain⟨hal,hlk1,hlk2⟩:=hgood.out.Yit (p:=p) (k:=k) (by have:=Hpl.out;omega) (by
    cases k with
    |zero=>left;rfl
    |succ k=>right;exact hall.out k (by omega)) es.out ha.out
   have hQ40:=hgood.out.size
   have hsl:s.length<=maxLen:=by
    have h1:=(Hmay.out.2 s (by rw[es.out,List.getD_eq_getElem?_getD,ar (by have:=Hpl.out;omega)];exact List.getElem_mem _)).2.1
    unfold maxLen;omega
   obtain⟨c2,hM⟩:=K.out wr hB
   have hrun0:=λq=>(hM.drewN q).look (a:=a) (s:=s) (by omega) hsl
   rw[hlk1,hlk2]at hrun0;obtain⟨g2,cap2,rfl,hg1,hg2,hcap',hcm',hcell⟩:=hO.Ybi (by rw[Xc];omega)
   have hlo:=λg e=>(hO.lt g e).1
   have hck:=hcell k (by rw[Xc];omega)
   rw[E6 (by omega),ha.out]at hck
   have hHid:=hid hO
   rw[Xc]at hcap'
   have e0:=Xc Q p (k+1)
   rw[e0]at hHid;simp only[e0];clear e0 hcell hO hM hlk1 hlk2 hsl
   have hsz:=hB.size
   have hki:(0:Int)<=(k:Int):=by omega
   have hkl:(k:Int)<(k:Int)+1:=by omega
   have hkk:IntKind.i64.wrap ((k:Int)+1-1)=(k:Int):=by rw[show(k:Int)+1-1=(k:Int)by omega];exact IntWalk.i64_in _ (by omega)
   by_cases hyes:p.take (k+1)∈Q
   ·have hrun:∀q,(Instr.lookup 157 (.map (some bm)) (.agg #[.int .i64 a,.string ⟨s.toArray⟩]) true).run aa (wr.drewN q)=.ok (.tuple #[.int .i64 (fnd Q (p.take (k+1)):Nat),.bool true]) (wr.drewN q):=λq=>by
     have:=hrun0 q
     rwa [decide_eq_true hyes]at this
    obtain⟨d,hd⟩: ∃d,Hid (fnd Q (p.take (k+1))=d):=⟨_,hid rfl⟩;rw[hd.out]at hrun
    have hall2:Hid (∀j,j<k+1->p.take (j+1)∈Q):=hid λj hj=>by
     rcases ax j k with h1|h1
     ·exact hall.out j h1
     ·obtain rfl:j=k:=by omega
      exact hyes
    clear hyes hrun0;go_wp2_with fail;go_quiet (fail)
    have hO1:=(hHid.out.drewN nq).alloc (.cells #[.int .i64 d] 3)
    have hJ:=hid (Yfj Q p (k+1))
    rw[hd.out]at hJ
    have hll:Hid ((cds Q p (k+1)).length<=1000000):=hid (by rw[Xc];omega)
    go_wp2_with (at_builtin;refine Yo rfl _ _ rfl w.heap.size _ _ rfl hO1 _ rfl d (Y6 _ _ _ _ (by simp)) hll.out (by rw[af];exact av hsz) ?_)
    intro v2 w2 hO2 hG2
    have hB2:=hid (((below_drewN hB nq).alloc hsz (.cells #[.int .i64 d] 3)).trans (hG2.Yw (by rw[af];exact av hsz) hlo))
    rw[<-hJ.out]at hO2
    have hO3:=hid hO2
    clear hO1 hO2 hG2 hlo hB hkk;go_wp2_with fail;go_roundw
    case rel=>exact⟨k+1,by omega,by go_num,hO3.out,hB2.out,hall2⟩
    case measure=>simp[intOf];omega
   ·have hrun:∀q,(Instr.lookup 157 (.map (some bm)) (.agg #[.int .i64 a,.string ⟨s.toArray⟩]) true).run aa (wr.drewN q)=.ok (.tuple #[.int .i64 (fnd Q (p.take (k+1)):Nat),.bool false]) (wr.drewN q):=λq=>by
     have:=hrun0 q
     rwa [decide_eq_false hyes]at this
    have hkn:Hid (Lm Q p k):=hid ⟨by have:=Hpl.out;omega,hall.out,.inr hyes⟩
    clear hyes hrun0;go_wp2_with fail;go_quiet (fail);go_wp2_with fail;go_ret;exact⟨_,k,rfl,hkn.out,hHid.out.drewN _,below_drewN hB _⟩
  ·have hkn:Hid (Lm Q p k):=hid ⟨by have:=Hpl.out;omega,hall.out,.inl (by have:=Hpl.out;omega)⟩
   go_wp2_with fail;go_ret;exact⟨_,k,rfl,hkn.out,hO,hB⟩
def Ygh(Q:List Pth)(p:Pth):Nat×Nat:=if Un p then if p=[]then (0,0)else if p∈Q then (fnd Q p,0)else (0,33)else (0,10)
section
structure Rf (w:World) (base r n:Nat) (Lv:Value) (Q:List Pth):Prop where
 block:Block w r 141 #[.int .i64 n,Lv]
 row:Zw w base Lv Q
 rb:base<=r
 good:Good n Q
def Ve(r:Nat)(Lv:Value)(k:Nat):Prop:=k=r∨Lv.ownBlock=some k
section
variable {w w' : World}{base r n:Nat}{Lv:Value}{Q:List Pth}
theorem Rf.drewN(h:Rf w base r n Lv Q)(k:Nat):Rf (w.drewN k) base r n Lv Q:=⟨h.block.drewN k,h.row.drewN k,h.rb,h.good⟩
theorem Rf.chg{S:Nat->Prop}(h:Rf w base r n Lv Q)(hc:Chg S w w')(hS:NoT w S)(hr:¬S r):Rf w' base r n Lv Q:=
 ⟨(hc.block r h.block.lt hr).trans h.block,h.row.chg hc hS,h.rb,h.good⟩
theorem Rf.below(h:Rf w base r n Lv Q)(hb:Below w.heap.size w w'):Rf w' base r n Lv Q:=h.chg (S:=λ_=>False) (Chg.Y1 hb (ae _)) (NoT.none w) (λh=>h)
theorem Rf.c0(h:Rf w base r n Lv Q):w.cell? ⟨r,0,none⟩=some (.int .i64 n):=h.block.cell 0
theorem Rf.c1(h:Rf w base r n Lv Q):w.cell? ⟨r,1,none⟩=some Lv:=h.block.cell 1
end
theorem Yny{α:Type}{l:List α}{k:Nat}{x y:α}(h:∀j,j<k->l[j]?≠some x)(hy:l[k]?=some y)(hne:y≠x):∀j,j<k+1->l[j]?≠some x:=by
 intro j hj
 rcases ax j k with h1|h1
 ·exact h j h1
 ·obtain rfl:j=k:=by omega
  rw[hy];exact λe=>hne (Option.some.inj e)
theorem Yr7{l:List Pth}{x:Pth}(h:∀j,j<l.length->l[j]?≠some x):fnd l x=0:=by
 refine S1 λhm=>?_
 obtain⟨j,hj⟩:=List.getElem?_of_mem hm;exact h j (List.getElem?_eq_some_iff.1 hj).1 hj
theorem Qj(h:Rf w base r n Lv Q){B:Nat}{A:Option Addr}{m c:Nat}{p:Pth}(hp:Zx w B A m c p){x:Nat}(hx:Hid (fnd Q p=x)):
  Calls aa 137 #[.pointer (some ⟨r,0,none⟩),.slice A m c] w λe w'=>e=.returned (.int .i64 x)/\∃k,w'=w.drewN k:=by
 obtain⟨A2,cap,rfl,hT⟩:=h.row.form
 have hcap:=hT.cap
 have hQ:=h.good.size
 have hH:=hid h
 have HT:=hid hT
 have c1:=λq=>(h.drewN q).c1
 clear hT h;go_enter Tryz.func137,Tryz.ntmps137;go_wp2;go_loopw [5] (λi wr=>∃k q:Nat,k<=Q.length/\i=.int .i64 k/\wr=w.drewN q/\Hid (∀j,j<k->Q[j]?≠some p)) (λi _=>Q.length-(intOf i).toNat)
 case atStart=>exact⟨0,0,aq _,rfl,rfl,hid (λj hj=>by omega)⟩
 case round=>
  obtain⟨k,q,hk,rfl,rfl,hno⟩:=hrel
  have c1q:=c1 q
  by_cases hlt:k<Q.length
  ·obtain⟨y,hy⟩: ∃y,Hid (Q[k]?=some y):=⟨_,hid (ar hlt)⟩
   obtain⟨b,o,A',n',c',rfl,hb,hc,hty⟩:=HT.out.has k y hy.out
   have hcq:(w.drewN q).cell? ⟨b,o+k,none⟩=some (.slice A' n' c'):=hc
   have hs:=Ymp (w:=w.drewN q) (hty.drewN q) (hp.drewN q)
   have hk0:(0:Int)<=(k:Int):=by omega
   have hk1:(k:Int)<(Q.length:Int):=by omega
   by_cases he:y=p
   ·rw[decide_eq_true he]at hs
    have hxk:Hid (x=k+1):=hid (by rw[<-hx.out];exact Ydn (by rw[hy.out,he]) hno.out)
    clear he;go_wp2_with fail;refine hs.mono ?_;rintro e w' ⟨rfl,j,rfl⟩;go_wp2_with fail;go_ret;exact⟨X8 (by have:=hxk.out;omega),q+j,by first|rfl|exact au _ _ _⟩
   ·rw[decide_eq_false he]at hs
    have hno2:=hid (Yny hno.out hy.out he)
    clear he;go_wp2_with fail;refine hs.mono ?_;rintro e w' ⟨rfl,j,rfl⟩;go_wp2_with fail;go_roundw
    case rel=>exact⟨k+1,q+j,by omega,by go_num,by first|rfl|exact au _ _ _,hno2⟩
    case measure=>simp[intOf];omega
  ·have hx0:Hid (x=0):=hid (by rw[<-hx.out];exact Yr7 (λj hj=>hno.out j (by omega)))
   go_wp2_with fail;go_ret;exact⟨X8 (by have:=hx0.out;omega),q,rfl⟩
theorem Yga(h:Rf w base r n Lv Q){B:Nat}{A:Option Addr}{m c:Nat}{p:Pth}(hp:Zx w B A m c p){x e:Nat}(hx:Hid (Ygh Q p=(x,e))):
  Calls aa 148 #[.pointer (some ⟨r,0,none⟩),.slice A m c] w λy w'=>y=.returned (.tuple #[.int .i64 x,.int .i64 e])/\∃k,w'=w.drewN k:=by
 have hmy:=O6 hp
 have hpl:=hp.len
 by_cases hm:Un p
 ·rw[decide_eq_true hm]at hmy
  have hm3:m<=3:=by rw[<-hpl];exact hm.1
  have hA:Ygh Q p=if p=[]then (0,0)else if p∈Q then (fnd Q p,0)else (0,33):=if_pos hm
  rw[hA]at hx;clear hA hm
  by_cases h0:m=0
  ·have Hx:Hid ((0,0)=(x,e)):=hid (by have:=hx.out;rwa [if_pos (ao (by omega))]at this)
   subst h0;clear hpl;go_enter ak,ai;go_wp2_with fail;refine hmy.mono ?_;rintro y w1 ⟨rfl,rfl⟩;go_wp2_with fail;go_ret2;exact⟨Nn Hx.out,0,rfl⟩
  ·have hne:p≠[]:=λe=>by rw[e]at hpl;simp at hpl;omega
   have hm0:((m:Int)==0)=false:=by simp;omega
   obtain⟨d,hd⟩: ∃d,Hid (fnd Q p=d):=⟨_,hid rfl⟩
   have hf:=Qj h hp hd
   by_cases hin:p∈Q
   ·have Hx:Hid ((d,0)=(x,e)):=hid (by have:=hx.out;rwa [if_neg hne,if_pos hin,hd.out]at this)
    have hd0:((d:Int)==0)=false:=by have:=Vh.2 hin;rw[hd.out]at this;simp;omega
    clear hpl h0;go_enter ak,ai;go_wp2_with fail;refine hmy.mono ?_;rintro y w1 ⟨rfl,rfl⟩;go_wp2_with fail;refine hf.mono ?_;rintro y w1 ⟨rfl,k,rfl⟩;go_wp2_with fail;go_ret2;exact⟨Nn Hx.out,k,rfl⟩
   ·have Hx:Hid ((0,33)=(x,e)):=hid (by have:=hx.out;rwa [if_neg hne,if_neg hin]at this)
    obtain rfl:d=0:=by rw[<-hd.out];exact S1 hin
    clear hpl h0;go_enter ak,ai;go_wp2_with fail;refine hmy.mono ?_;rintro y w1 ⟨rfl,rfl⟩;go_wp2_with fail;refine hf.mono ?_;rintro y w1 ⟨rfl,k,rfl⟩;go_wp2_with fail;go_ret2;exact⟨Nn Hx.out,k,rfl⟩
 ·rw[decide_eq_false hm]at hmy
  have Hx:Hid ((0,10)=(x,e)):=hid (by have:=hx.out;unfold Ygh at this;rwa [if_neg hm]at this)
  clear hpl hm;go_enter ak,ai;go_wp2_with fail;refine hmy.mono ?_;rintro y w1 ⟨rfl,rfl⟩;go_wp2_with fail;go_ret2;exact⟨Nn Hx.out,0,rfl⟩
end
end Go.Proofs.YtmepdkdeanbbaaaGreat
