/- WireRefP -/
import Derived.Test.YtmepdkdeanbbaaaGreatJ11
import Derived.Lib.AppendStr
namespace Go.Proofs.YtmepdkdeanbbaaaGreat
set_option maxRecDepth 100000
set_option maxHeartbeats 8000000
open Go.RowKit
open World renaming size_alloc→aa
open Nat renaming pow_le_pow_right→ae,pos_of_ne_zero→af,pow_succ→ag,lt_of_lt_of_le→aj,mul_comm→an,le_trans→ao,div_div_eq_div_mul→aq,zero_le→aw,le_refl→ax,lt_or_ge→ay,div_lt_iff_lt_mul→az,div_eq_of_lt→bg,zero_add→bo,pow_mul→bp,sub_le→br,mod_lt→bs
open List renaming length_append→ai,append_assoc→au
open Proofs.Tryz renaming underlying50→ak,prog→ar,ntmps209→bj,func209→bn
open UInt8 renaming ofNat→av
open Go.Lib (hid)
variable {c k m t u:Nat}{w:World}{A:Option Addr}{l:List UInt8}
def Ub(u k:Nat):List Int:=(List.range k).map λi=>((u/2 ^ i%2:Nat):Int)
theorem Pn(u k:Nat):(Ub u k).length=k:=by simp[Ub]
theorem Dr(u k:Nat):Ub u (k+1)=Ub u k++[((u/2 ^ k%2:Nat):Int)]:=by simp[Ub,List.range_succ]
theorem Ymi{i:Nat}(h:i<k):(Ub u k).getD i 0=((u/2 ^ i%2:Nat):Int):=by simp[Ub,List.getD_eq_getElem?_getD,h]
theorem Yhh(u k:Nat):u/2 ^ (k+1)%2=u/2/2 ^ k%2:=by rw[ag,an,aq]
theorem Fa(h k:Nat):h/2 ^ (k+1)=h/2 ^ k/2:=by rw[ag,aq]
theorem Ykx(u i r:Nat):(u/2 ^ (i+1)%2 ^ r)*2+u/2 ^ i%2=u/2 ^ i%2 ^ (r+1):=by
 have e:u/2 ^ (i+1)=u/2 ^ i/2:=Fa u i
 rw[e];generalize u/2 ^ i=x
 have h1:2 ^ (r+1)=2*2 ^ r:=by rw[ag,an]
 rw[h1,Nat.mod_mul];omega
theorem Ywa{G:Nat}(h1:u<128 ^ (G+1))(h2:G=0∨128 ^ G<=u){g:Nat}(hg:g<=G):enc (u/128 ^ g)=if g<G then av (u/128 ^ g%128+128)::enc (u/128 ^ (g+1))else [av (u/128 ^ g%128)]:=by
 have e:u/128 ^ (g+1)=u/128 ^ g/128:=by rw[ag,aq]
 by_cases hlt:g<G
 ·rw[if_pos hlt,M4,e]
  have hG:128 ^ G<=u:=by rcases h2 with h|h <;> omega
  have h3:128 ^ (g+1)<=128 ^ G:=ae (by decide) hlt
  have h4:0<128 ^ g:=af (by simp)
  have:128<=u/128 ^ g:=by
   rw[Nat.le_div_iff_mul_le h4,an,<-ag];omega
  omega
 ·obtain rfl:g=G:=by omega
  have h4:0<128 ^ g:=af (by simp)
  have:u/128 ^ g<128:=by
   rw[az h4,an,<-ag];exact h1
  rw[if_neg hlt,Sa this,Nat.mod_eq_of_lt this]
def Ee(u k t:Nat):Prop:=t<64/\(t=0∨u/2 ^ t%2=1)/\∀i,i<k->t<i->u/2 ^ i%2=0
theorem Ed{u:Nat}: ∀(k t:Nat),u<2 ^ k->t<=k->(∀i,i<k->t<=i->u/2 ^ i%2=0)->u<2 ^ t
 |0,t,h,ht,_=>by
  obtain rfl:t=0:=by omega
  exact h
 |k+1,t,h,ht,hz=>by
  rcases ay t (k+1)with hlt|hge
  ·have h0:=hz k (by omega) (by omega)
   have h2:u/2 ^ k<2:=by
    rw[az (af (by simp)),an,<-ag]
    exact h
   have h3:u/2 ^ k=0:=by
    generalize u/2 ^ k=x at h0 h2;omega
   have h4:u<2 ^ k:=by
    rcases Nat.div_eq_zero_iff.1 h3 with h|h
    ·simp at h
    ·exact h
   exact Ed k t h4 (by omega) λi hi hti=>hz i (by omega) hti
  ·obtain rfl:t=k+1:=by omega
   exact h
theorem Ee.bounds(h:Ee u 64 t)(hu:u<18446744073709551616):u<128 ^ (t/7+1)/\(t/7=0∨128 ^ (t/7)<=u)/\t/7<=9:=by
 obtain⟨h1,h2,h3⟩:=h
 have e:∀g:Nat,128 ^ g=2 ^ (7*g):=λg=>by rw[show(128:Nat)=2 ^ 7 from rfl,<-bp]
 refine⟨?_,?_,by omega⟩
 ·have hlt:u<2 ^ (t+1):=Ed 64 (t+1) hu (by omega) λi hi hti=>h3 i hi (by omega)
  rw[e];exact aj hlt (ae (by decide) (by omega))
 ·rcases h2 with h|h
  ·left;rw[h]
  ·right
   rw[e]
   have h4:2 ^ t<=u:=by
    rcases ay u (2 ^ t)with h5|h5
    ·rw[bg h5]at h;simp at h
    ·exact h5
   exact ao (ae (by decide) (by omega)) h4
theorem Yi3(hk:k<64)(h:Ee u k t):Ee u (k+1) (if u/2 ^ k%2=1 then k else t):=by
 obtain⟨h1,h2,h3⟩:=h
 by_cases hb:u/2 ^ k%2=1
 ·rw[if_pos hb]
  exact⟨hk,.inr hb,λi hi hki=>by omega⟩
 ·rw[if_neg hb]
  refine⟨h1,h2,λi hi hti=>?_⟩
  rcases ay i k with h4|h4
  ·exact h3 i h4 hti
  ·obtain rfl:i=k:=by omega
   omega
theorem Yir(n:Int)(h: -9223372036854775808<=n)(h':n<=9223372036854775807)(w:World):
  Calls ar 209 #[.int .i64 n] w λe w'=>∃v,e=.returned v/\Yi w' w.heap.size v (Ub (zig n) 64)/\Below w.heap.size w w':=by
 have hhalf:=hid (Yqu n)
 obtain⟨u,hzu⟩: ∃u,Hid (zig n=u):=⟨_,hid rfl⟩
 by_cases hn:n<0
 ·obtain⟨q,hq⟩: ∃q:Nat,-(n+1)=(q:Int):=⟨(-(n+1)).toNat,by omega⟩
  have hz2:Hid (u/2=q):=hid (by rw[<-hzu.out,hhalf.out,if_pos hn,hq];simp)
  have hz1:Hid (Ub u 1=[1]):=hid (by
   have:zig n%2=1:=by unfold zig;rw[if_neg (by omega)];omega
   rw[hzu.out]at this;simp[Ub];omega)
  have hqb:q<=9223372036854775807:=by omega
  rw[hzu.out];clear hhalf hzu;go_enter bn,bj;go_wp2_with (at_builtin;refine Yo rfl _ _ rfl w.heap.size _ _ rfl (Yi.Zj _ _) _ rfl 1 (Y6 _ _ _ _ (by simp)) (by simp) (by simp) ?_)
  intro v0 w1 hO0 hG0
  have hB1:Below w.heap.size w w1:=(Yb w _).trans (hG0.Yw (by simp) (λk hk=>by cases hk))
  have hO1:Yi w1 w.heap.size v0 (Ub u (0+1)):=by rw[bo,hz1.out];simpa using hO0
  clear hO0 hG0;go_wp2_with fail;go_loopw [0,4,5] (λx v i wr=>∃k y:Nat,k<=63/\i=.int .i64 k/\x=.int .i64 y/\y<=9223372036854775807/\Hid (y=q/2 ^ k)/\Yi wr w.heap.size v (Ub u (k+1))/\Below w.heap.size w wr) (λ_ _ i _=>63-(intOf i).toNat)
  case atStart=>exact⟨0,q,aw _,rfl,rfl,hqb,hid (by simp),hO1,hB1⟩
  case round=>
   obtain⟨k,y,hk,rfl,rfl,hyb,hy,hO,hB⟩:=hrel
   by_cases hlt:k<63
   ·have hy0:(0:Int)<=(y:Int):=by omega
    have hO2:=hO.alloc (.cells #[.int .i64 ((y:Int)%2)] 3)
    have hs:=hB.size
    have hlo:=λk e=>(hO.lt k e).1
    have hll:Hid ((Ub u (k+1)).length<=1000000):=hid (by rw[Pn];omega)
    have hbs:Hid (Ub u (k+1+1)=Ub u (k+1)++[(y:Int)%2]):=hid (by rw[Dr,Yhh,hz2.out,<-hy.out];rfl)
    have hyn:Hid (y/2=q/2 ^ (k+1)):=hid (by rw[Fa,<-hy.out])
    go_wp2_with (at_builtin;refine Yo rfl _ _ rfl w.heap.size _ _ rfl hO2 _ rfl ((y:Int)%2) (Y6 _ _ _ _ (by simp)) hll.out (by rw[aa];omega) ?_)
    intro v2 w2 hO3 hG2
    have hB2:=hid ((hB.alloc hs (.cells #[.int .i64 ((y:Int)%2)] 3)).trans (hG2.Yw (by rw[aa];omega) hlo))
    rw[<-hbs.out]at hO3
    have hO4:=hid hO3
    clear hO hO2 hO3 hG2 hlo hB;go_wp2_with fail;go_roundw
    case rel=>exact⟨k+1,y/2,by omega,by go_num,rfl,by omega,hyn,hO4.out,hB2.out⟩
    case measure=>simp[intOf];omega
   ·have hk63:Hid (k=63):=hid (by omega)
    go_wp2_with fail;go_ret;exact⟨_,rfl,by have e:=hk63.out;subst e;exact hO,hB⟩
 ·obtain⟨q,rfl⟩: ∃q:Nat,n=(q:Int):=⟨n.toNat,by omega⟩
  have hz2:Hid (u/2=q):=hid (by rw[<-hzu.out,hhalf.out,if_neg hn];simp)
  have hz1:Hid (Ub u 1=[0]):=hid (by
   have:zig (q:Int)%2=0:=by unfold zig;rw[if_pos (by omega)];omega
   rw[hzu.out]at this;simp[Ub];omega)
  have hqb:q<=9223372036854775807:=by omega
  rw[hzu.out];clear hhalf hzu;go_enter bn,bj;go_wp2_with (at_builtin;refine Yo rfl _ _ rfl w.heap.size _ _ rfl (Yi.Zj _ _) _ rfl 0 (Y6 _ _ _ _ (by simp)) (by simp) (by simp) ?_)
  intro v0 w1 hO0 hG0
  have hB1:Below w.heap.size w w1:=(Yb w _).trans (hG0.Yw (by simp) (λk hk=>by cases hk))
  have hO1:Yi w1 w.heap.size v0 (Ub u (0+1)):=by rw[bo,hz1.out];simpa using hO0
  clear hO0 hG0;go_wp2_with fail;go_loopw [0,4,5] (λx v i wr=>∃k y:Nat,k<=63/\i=.int .i64 k/\x=.int .i64 y/\y<=9223372036854775807/\Hid (y=q/2 ^ k)/\Yi wr w.heap.size v (Ub u (k+1))/\Below w.heap.size w wr) (λ_ _ i _=>63-(intOf i).toNat)
  case atStart=>exact⟨0,q,aw _,rfl,rfl,hqb,hid (by simp),hO1,hB1⟩
  case round=>
   obtain⟨k,y,hk,rfl,rfl,hyb,hy,hO,hB⟩:=hrel
   by_cases hlt:k<63
   ·have hy0:(0:Int)<=(y:Int):=by omega
    have hO2:=hO.alloc (.cells #[.int .i64 ((y:Int)%2)] 3)
    have hs:=hB.size
    have hlo:=λk e=>(hO.lt k e).1
    have hll:Hid ((Ub u (k+1)).length<=1000000):=hid (by rw[Pn];omega)
    have hbs:Hid (Ub u (k+1+1)=Ub u (k+1)++[(y:Int)%2]):=hid (by rw[Dr,Yhh,hz2.out,<-hy.out];rfl)
    have hyn:Hid (y/2=q/2 ^ (k+1)):=hid (by rw[Fa,<-hy.out])
    go_wp2_with (at_builtin;refine Yo rfl _ _ rfl w.heap.size _ _ rfl hO2 _ rfl ((y:Int)%2) (Y6 _ _ _ _ (by simp)) hll.out (by rw[aa];omega) ?_)
    intro v2 w2 hO3 hG2
    have hB2:=hid ((hB.alloc hs (.cells #[.int .i64 ((y:Int)%2)] 3)).trans (hG2.Yw (by rw[aa];omega) hlo))
    rw[<-hbs.out]at hO3
    have hO4:=hid hO3
    clear hO hO2 hO3 hG2 hlo hB;go_wp2_with fail;go_roundw
    case rel=>exact⟨k+1,y/2,by omega,by go_num,rfl,by omega,hyn,hO4.out,hB2.out⟩
    case measure=>simp[intOf];omega
   ·have hk63:Hid (k=63):=hid (by omega)
    go_wp2_with fail;go_ret;exact⟨_,rfl,by have e:=hk63.out;subst e;exact hO,hB⟩
theorem Yto{q:Nat}(hu:u<18446744073709551616)(hq:64<=q):u/2 ^ q=0:=
 bg (aj hu (ao (Nat.le_of_eq (by decide:(18446744073709551616:Nat)=2 ^ 64)) (ae (by decide) hq)))
theorem Yo1(u g:Nat):u/2 ^ (7*g+0)%2 ^ 7=u/128 ^ g%128:=by
 rw[Nat.add_zero,bp]
theorem Uf(hr:Xo w w.heap.size A m c l)(n:Int)(h: -9223372036854775808<=n)(h':n<=9223372036854775807)(hl:m<=1000000000):
  Calls ar 146 #[.slice A m c,.int .i64 n] w λe w'=>∃v,e=.returned v/\Zc w' w.heap.size 5 v (l++enc (zig n))/\Below w.heap.size w w':=by
 obtain⟨i0,hi,hz0,hz1,hz2⟩:=info_parts Ew
 have hdb:=Yir n h h' w
 have hu:=hid (Tm h h')
 obtain⟨u,hzu⟩: ∃u,Hid (zig n=u):=⟨_,hid rfl⟩;rw[hzu.out]at hdb hu⊢
 have Hl:=hid hl
 have HL:=hid hr.len
 clear hzu h h' hl;go_enter Tryz.func146,Tryz.ntmps146;go_wp2_with fail;refine hdb.mono ?_;rintro e w1 ⟨v,rfl,hO,hB1⟩;obtain⟨g2,c2,rfl,hg1,hg2,hcap,hcm,hcell⟩:=hO.Ybi (by rw[Pn];omega)
 rw[Pn]at hcap hcell
 have e0:=Pn u 64
 simp only[e0];clear e0 hO hdb
 have hcell2:Hid (∀j,j<64->w1.cell? ⟨g2,j,none⟩=some (.int .i64 ((u/2 ^ j%2:Nat):Int))):=hid λj hj=>by
  have:=hcell j hj
  rwa [Ymi hj]at this
 clear hcell;go_wp2_with fail;go_loop [6,7] (λx i=>∃k t:Nat,k<=64/\i=.int .i64 k/\x=.int .i64 t/\Hid (Ee u k t)) (λ_ i=>64-(intOf i).toNat)
 case atStart=>exact⟨0,0,aw _,rfl,rfl,hid ⟨by decide,.inl rfl,λi hi=>by omega⟩⟩
 case round=>
  obtain⟨k,t,hk,rfl,rfl,ht⟩:=hrel
  by_cases hlt:k<64
  ·have hc:=hcell2.out k hlt
   have hst:=hid (Yi3 hlt ht.out)
   have hk0:(0:Int)<=(k:Int):=by omega
   have hk1:(k:Int)<64:=by omega
   rcases Nat.mod_two_eq_zero_or_one (u/2 ^ k)with hb|hb
   ·have hc0:w1.cell? ⟨g2,k,none⟩=some (.int .i64 0):=by rw[hc,hb];rfl
    clear hc
    have hst2:Hid (Ee u (k+1) t):=hid (by have:=hst.out;rwa [if_neg (by omega)]at this)
    clear hb hst;go_wp2_with fail;go_round
    case rel=>exact⟨k+1,t,by omega,by go_num,rfl,hst2⟩
    case measure=>simp[intOf];omega
   ·have hc0:w1.cell? ⟨g2,k,none⟩=some (.int .i64 1):=by rw[hc,hb];rfl
    clear hc
    have hst2:Hid (Ee u (k+1) k):=hid (by have:=hst.out;rwa [if_pos hb]at this)
    clear hb hst;go_wp2_with fail;go_round
    case rel=>exact⟨k+1,k,by omega,by go_num,rfl,hst2⟩
    case measure=>simp[intOf];omega
  ·have hk64:Hid (k=64):=hid (by omega)
   have htop:Hid (Ee u 64 t):=hid (by have:=ht.out;rwa [hk64.out]at this)
   obtain⟨hb1,hb2,hb3⟩:=htop.out.bounds hu.out;obtain⟨G,hG⟩: ∃G,Hid (t/7=G):=⟨_,hid rfl⟩;rw[hG.out]at hb1 hb2 hb3
   have Henc:=hid (λg (hg:g<=G)=>Ywa hb1 hb2 hg)
   have htG:(t:Int)/7=(G:Int):=by rw[<-hG.out];rfl
   have hr1:=hr.below hB1 (ax _)
   have hs1:=hB1.size
   clear hb1 hb2 ht;go_wp2_with (at_builtin;refine Vd _ rfl _ _ 50 rfl w1.heap.size 5 i0 (.int .u8 0) ak hi hz0 hz1 hz2 rfl _ [] rfl (Zc.Zj w1 _ _) _ _ m _ _ rfl hr1 (by have:=Hl.out;simp;omega) (ax _) ?_)
   intro v3 w3 hO3 hG3
   have hB3:=hG3.Yw (ax _) (λk hk=>by cases hk)
   clear hG3 hr1;go_wp2_with fail;go_loopw [8,9] (λv i wr=>∃(g:Nat) (pre:List UInt8),g<=G+1/\i=.int .i64 g/\Zc wr w1.heap.size 5 v (l++pre)/\Below w1.heap.size w1 wr/\Hid (pre.length=g/\(g<=G->pre++enc (u/128 ^ g)=enc u)/\(g=G+1->pre=enc u))) (λ_ i _=>G+1-(intOf i).toNat)
   case atStart=>exact⟨0,[],aw _,rfl,by simpa using hO3,hB3,hid ⟨rfl,λ_=>by simp,λh=>by omega⟩⟩
   case round=>
    obtain⟨g,pre,hg,rfl,hO,hB,hp⟩:=hrel
    by_cases hgG:g<=G
    ·have hgG':(g:Int)<=(G:Int):=by omega
     go_wp2_with fail;go_loop [10,11] (λx i=>∃r y:Nat,r<=7/\x=.int .i64 y/\y<128/\((i=.int .i64 (-1)/\r=0)∨∃r',i=.int .i64 (r':Nat)/\r=r'+1)/\Hid (y=u/2 ^ (7*g+r)%2 ^ (7-r))) (λ_ i=>(intOf i+1).toNat)
     case atStart=>exact⟨7,0,ax _,rfl,by decide,.inr ⟨6,rfl,rfl⟩,hid (by simp[Nat.mod_one])⟩
     case round=>
      obtain⟨r,y,hr7,rfl,hy,hir,hyv⟩:=hrel
      rcases hir with⟨rfl,rfl⟩|⟨r',rfl,rfl⟩
      ·have hyg:Hid (y=u/128 ^ g%128):=hid (by rw[hyv.out];exact Yo1 u g)
       clear hyv
       have hs:=hB.size
       have hlo:=λk e=>(hO.lt k e).1
       have hpl:Hid ((l++pre).length+1<=140737488355328):=hid (by rw[ai,HL.out,hp.out.1];have:=Hl.out;omega)
       by_cases hlast:g<G
       ·have hlast':(g:Int)<(G:Int):=by omega
        obtain⟨x,hxe,hone⟩: ∃x:UInt8,Hid (x=av (y+128))/\Hid (Xo (wr.alloc (.cells #[.int .u8 ((y:Int)+128)] 5)) (wr.heap.size+1) (some ⟨wr.heap.size,0,none⟩) 1 1 [x]):=⟨_,hid rfl,hid (by have:=Gm (w:=wr) (u:=y+128) (by omega);simpa using this)⟩
        have hp2:Hid ((pre++[x]).length=g+1/\(g+1<=G->(pre++[x])++enc (u/128 ^ (g+1))=enc u)/\(g+1=G+1->pre++[x]=enc u)):=hid ⟨by simp[hp.out.1],λ_=>by
         have h1:=hp.out.2.1 hgG
         rw[Henc.out g hgG,if_pos hlast]at h1;rw[<-h1,hxe.out,hyg.out,au];rfl,λh=>by omega⟩
        clear hyg hxe;go_wp2_with (at_builtin;refine Vd _ rfl _ _ 50 rfl w1.heap.size 5 i0 (.int .u8 0) ak hi hz0 hz1 hz2 rfl _ (l++pre) rfl (hO.alloc _) (wr.heap.size+1) _ 1 1 _ rfl hone.out hpl.out (by rw[aa];omega) ?_)
        intro v4 w4 hO4 hG4
        have hB4:=hid ((hB.alloc hs _).trans (hG4.Yw (by rw[aa];omega) hlo))
        have hO5:=hid hO4
        clear hO hO4 hG4 hlo hB hone;go_wp2_with fail;go_roundw
        case rel=>exact⟨g+1,pre++[x],by omega,by go_num,hO5.out,hB4.out,hp2⟩
        case measure=>simp[intOf];omega
       ·have hlast': ¬(g:Int)<(G:Int):=by omega
        have hgl:g=G:=by omega
        obtain⟨x,hxe,hone⟩: ∃x:UInt8,Hid (x=av y)/\Hid (Xo (wr.alloc (.cells #[.int .u8 (y:Int)] 5)) (wr.heap.size+1) (some ⟨wr.heap.size,0,none⟩) 1 1 [x]):=⟨_,hid rfl,hid (Gm (w:=wr) (u:=y) (by omega))⟩
        have hp2:Hid ((pre++[x]).length=g+1/\(g+1<=G->(pre++[x])++enc (u/128 ^ (g+1))=enc u)/\(g+1=G+1->pre++[x]=enc u)):=hid ⟨by simp[hp.out.1],λh=>by omega,λ_=>by
         have h1:=hp.out.2.1 hgG
         rw[Henc.out g hgG,if_neg hlast]at h1;rw[<-h1,hxe.out,hyg.out]⟩
        clear hyg hxe hgl;go_wp2_with (at_builtin;refine Vd _ rfl _ _ 50 rfl w1.heap.size 5 i0 (.int .u8 0) ak hi hz0 hz1 hz2 rfl _ (l++pre) rfl (hO.alloc _) (wr.heap.size+1) _ 1 1 _ rfl hone.out hpl.out (by rw[aa];omega) ?_)
        intro v4 w4 hO4 hG4
        have hB4:=hid ((hB.alloc hs _).trans (hG4.Yw (by rw[aa];omega) hlo))
        have hO5:=hid hO4
        clear hO hO4 hG4 hlo hB hone;go_wp2_with fail;go_roundw
        case rel=>exact⟨g+1,pre++[x],by omega,by go_num,hO5.out,hB4.out,hp2⟩
        case measure=>simp[intOf];omega
      ·obtain⟨q,hq⟩: ∃q,Hid (7*g+r'=q):=⟨_,hid rfl⟩
       have hqi:7*(g:Int)+(r':Int)=(q:Int):=by have:=hq.out;omega
       have hg10:g<=9:=by omega
       have hstep:=hid (Ykx u q (6-r'))
       have hy2:Hid (y=u/2 ^ (q+1)%2 ^ (6-r')):=hid (by rw[hyv.out,<-hq.out,show 7-(r'+1)=6-r' by omega,Nat.add_assoc])
       rw[<-hy2.out]at hstep
       have hr0:(0:Int)<=(r':Int):=by omega
       by_cases h64:q<64
       ·have hc:=(hB.cell (p:=⟨g2,q,none⟩) hg2).trans (hcell2.out q h64)
        obtain⟨bt,hbt⟩: ∃bt,Hid (u/2 ^ q%2=bt):=⟨_,hid rfl⟩;rw[hbt.out]at hc hstep
        have hbt1:bt<=1:=by have:=hbt.out;omega
        have hq64:(q:Int)<64:=by omega
        have hq0:(0:Int)<=(q:Int):=by omega
        have hnew:Hid (y*2+bt=u/2 ^ (7*g+r')%2 ^ (7-r')):=hid (by rw[hstep.out,hq.out,show 6-r'+1=7-r' by omega])
        have hnb:y*2+bt<128:=by
         rw[hnew.out];exact aj (bs _ (af (by simp))) (ao (ae (by decide) (br 7 r')) (by decide))
        clear hyv hstep hy2;go_wp2_with fail;go_round
        case rel=>
         refine⟨r',y*2+bt,by omega,by go_num,hnb,?_,hnew⟩
         rcases r' with _|r2
         ·exact .inl ⟨rfl,rfl⟩
         ·exact .inr ⟨r2,by go_num,rfl⟩
        case measure=>simp[intOf]
       ·have hnew:Hid (y*2=u/2 ^ (7*g+r')%2 ^ (7-r')):=hid (by
         have h1:=hstep.out
         have h0:u/2 ^ q%2=0:=by rw[Yto hu.out (by omega)]
         rw[h0]at h1;rw[hq.out,show 7-r'=6-r'+1 by omega,<-h1]
         rfl)
        have hnb:y*2<128:=by
         rw[hnew.out];exact aj (bs _ (af (by simp))) (ao (ae (by decide) (br 7 r')) (by decide))
        have hq64:¬(q:Int)<64:=by omega
        clear hyv hstep hy2;go_wp2_with fail;go_round
        case rel=>
         refine⟨r',y*2,by omega,by go_num,hnb,?_,hnew⟩
         rcases r' with _|r2
         ·exact .inl ⟨rfl,rfl⟩
         ·exact .inr ⟨r2,by go_num,rfl⟩
        case measure=>simp[intOf]
    ·have hge:Hid (pre=enc u):=hid (hp.out.2.2 (by omega))
     have hgG': ¬(g:Int)<=(G:Int):=by omega
     go_wp2_with fail;go_ret;exact⟨_,rfl,by rw[<-hge.out];exact hO.low hs1,hB1.trans (hB.mono hs1)⟩
theorem Ygc(t:List UInt8):Lib.strCells ⟨t.toArray⟩=t.map byt:=by simp[Lib.strCells,byt]
theorem Fz{w:World}{ops:Array Oper}{rest:List Oper}{o:Oper}{a:Act}{Q:Exit->Act->World->Prop}(hgd:o.guard=none)(s x:Operand)
  (ho:o.op=.call {callee:=.builtin .append,args:=#[s,x],argTypes:=#[50,9]})
  (base:Nat) (v:Value) (l:List UInt8) (hs:a.eval s=v) (hown:Zc w base 5 v l) (t:List UInt8) (hx:a.eval x=.string ⟨t.toArray⟩) (hbytes:l.length+t.length<=140737488355328) (hbase:base<=w.heap.size)
  (h:∀v' w',Zc w' base 5 v' (l++t)->Below base w w'→wpList ar ops Q rest (a.put o.dst v') w'):wpList ar ops Q (o::rest) a w:=by
 obtain⟨i,hi,hz0,hz1,hz2⟩:=info_parts Ew
 have hsz:(⟨t.toArray⟩:ByteArray).size=t.length:=by show t.toArray.size=_;simp
 refine Lib.wpList_append_own_string w hgd s x 50 9 ho base 5 i ak Tryz.underlying9 hi hz0 hz1 hz2 v l.length (l.map byt) hs hown ⟨t.toArray⟩ hx (by rw[hsz];unfold maxLen;omega) (by rw[hsz];omega) hbase λv' w' h1 h2 _=>h v' w' ?_ ?_
 ·rw[Ygc,hsz,<-List.map_append,<-ai]at h1
  exact h1
 ·exact⟨h2.os,h2.tape,h2.output,h2.size,λk hk=>h2.block k (by omega) λe=>by have:=(hown.lt k e.symm).1;omega⟩
theorem Yg0(v0:Value)(l:List UInt8)(t:List UInt8)(w:World)(base:Nat)(ho:Zc w base 5 v0 l)(hb:base<=w.heap.size)(hl:l.length+t.length+10<=1000000000):
  Calls ar 121 #[v0,.string ⟨t.toArray⟩] w λe w'=>∃v',e=.returned v'∧Zc w' base 5 v' (l++(enc (zig (t.length:Int))++t))/\Below base w w':=by
 have hz:=Tm (n:=(t.length:Int)) (by omega) (by omega)
 have hten:=U8 hz
 have Hl:=hid hl
 have Ht:=hid hten
 have hp:=Uo v0 l (t.length:Int) (by omega) (by omega) w base ho hb (by omega)
 have hlo:=λk e=>(ho.lt k e).1
 go_enter Tryz.func121,Tryz.ntmps121;go_wp2_with fail;refine(show Calls _ _ _ _ _ from hp).mono ?_
 rintro e w1 ⟨v1,rfl,hO,hG⟩
 have hB:=hG.Yw hb hlo
 have hll:Hid ((l++enc (zig (t.length:Int))).length+t.length<=140737488355328):=hid (by rw[ai];have:=Hl.out;have:=Ht.out;omega)
 have hs1:=hB.size
 clear hp hG hz hten;go_wp2_with (at_builtin;refine Fz rfl _ _ rfl base _ _ rfl hO t rfl hll.out (ao hb hs1) ?_)
 intro v2 w2 hO2 hB2
 have hF:=hid (show Zc w2 base 5 v2 _/\Below base w w2 from⟨hO2,hB.trans hB2⟩)
 clear hO hO2 hB hB2;go_wp2_with fail;go_ret;exact⟨_,rfl,by first|exact hF.out.1|(rw[<-au];exact hF.out.1),hF.out.2⟩
theorem D0(hr:Xo w w.heap.size A m c l)(t:List UInt8)(hl:m+t.length+10<=1000000000):
  Calls ar 147 #[.slice A m c,.string ⟨t.toArray⟩] w λe w'=>∃v',e=.returned v'∧Zc w' w.heap.size 5 v' (l++(enc (zig (t.length:Int))++t))/\Below w.heap.size w w':=by
 have hz:=Tm (n:=(t.length:Int)) (by omega) (by omega)
 have hten:=U8 hz
 have Hl:=hid hl
 have Ht:=hid hten
 have HL:=hid hr.len
 have hp:=Uf hr (t.length:Int) (by omega) (by omega) (by omega)
 go_enter Tryz.func147,Tryz.ntmps147;go_wp2_with fail;refine(show Calls _ _ _ _ _ from hp).mono ?_
 rintro e w1 ⟨v1,rfl,hO,hB⟩
 have hll:Hid ((l++enc (zig (t.length:Int))).length+t.length<=140737488355328):=hid (by rw[ai,HL.out];have:=Hl.out;have:=Ht.out;omega)
 have hs1:=hB.size
 clear hp hz hten;go_wp2_with (at_builtin;refine Fz rfl _ _ rfl w.heap.size _ _ rfl hO t rfl hll.out hs1 ?_)
 intro v2 w2 hO2 hB2
 have hF:=hid (show Zc w2 w.heap.size 5 v2 _/\Below w.heap.size w w2 from⟨hO2,hB.trans hB2⟩)
 clear hO hO2 hB hB2;go_wp2_with fail;go_ret;exact⟨_,rfl,by first|exact hF.out.1|(rw[<-au];exact hF.out.1),hF.out.2⟩
end Go.Proofs.YtmepdkdeanbbaaaGreat
