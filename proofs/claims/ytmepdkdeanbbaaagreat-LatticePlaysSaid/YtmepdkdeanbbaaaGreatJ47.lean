/- LatA, LatB, LatC, LatD, LatF, LatG, LatH, LatI, LtA, LtV, LuB, LuC, LuF, LuJ, LatJ, LatK, LtE, LtF, LtG, LtO, LtU -/
import Derived.Test.YtmepdkdeanbbaaaGreatJ32
import Derived.Test.YtmepdkdeanbbaaaGreatJ43
import Derived.Test.YtmepdkdeanbbaaaGreatJ44
import Derived.Test.YtmepdkdeanbbaaaGreatJ46
namespace Go.Proofs.YtmepdkdeanbbaaaGreat
set_option maxRecDepth 100000
set_option maxHeartbeats 8000000
open Go.RowKit
open List renaming getElem?_eq_getElem→aa,mem_of_getElem?→ae,getElem?_of_mem→af,getElem?_eq_some_iff→ag,getD_eq_getElem?_getD→aj,replicate→ak,length_map→aq,take_of_length_le→au,mem_singleton→ay,eq_nil_of_length_eq_zero→az,getElem?_map→bg,mem_or_eq_of_mem_set→bn,getElem?_set→bo,length_set→cn,append_assoc→cw,mem_append→da,length_take_le→db,length_append→dc,map_map→dj,take_append_of_le_length→dm,drop_append_of_le_length→dn,getElem?_append_left→dq,getElem?_replicate→dt,mem_map→dw,drop_of_length_le→dx,length_singleton→dz,getElem?_eq_none→ee,replicate_succ'→ez,mem_of_mem_take→fb,take_succ_cons→fc,drop_succ_cons→ff,getElem?_drop→fg,take_add_one→fj,ext_getElem?→fk,length_take→fl,length_drop→fm,map_const'→fo,map_append→fp,append_nil→fq,take_zero→ft,drop_zero→fu,drop_left→fv
open Proofs.Tryz renaming prog→ai,underlying89→dd,underlying24→dg,underlying23→dh,underlying22→di,ntmps54→du,func54→ei,underlying69→fh,underlying26→fi,ntmps153→fw,ntmps152→fx,ntmps150→fy,ntmps100→gg,ntmps38→gi,ntmps16→gm,func153→gn,func152→gw,func150→gy,func100→gz,func38→ib,func16→ic
open Nat renaming le_refl→an,le_trans→ao,zero_le→ar,mul_one→cj,le_succ→df,mul_le_mul→gh,zero_add→ie,add_zero→ig
open Option.some renaming injEq→av,inj→ax
open Lib renaming run_eql_slice_nil→aw
open Obj.cells renaming injEq→bj
open Value renaming ownBlock→bp,slice→ch
open World.ownsRow renaming stored→br,lt→bs,alloc→dp,cells→ia
open World renaming ownsRow_nil→bz,size_alloc→cz,cell?_of_block→dy
open Go.Lib (hid)
variable {w:World}{B W c g k m n n1 n2 n3 size sz:Nat}{F R S:Nat->Prop}{A A1 A2 A3:Option Addr}{D:List Yk}{L M l:List Txt}{V:List (List Int)}{Qs:List (List Pth)}{Cs:List Cub}{cnt:Int}{us vs xs:List Value}{N:List Nat}{X1 X2 X3 dv v vv:Value}{T e:TypeId}{x:Txt}
section
/-! ### frames -/
section
variable {S:Nat->Prop}{w w' : World}
theorem Cb.chg{g b W m:Nat}{C:Cub}(h:Cb w g b W m C)(hc:Chg S w w')(hg:¬S g)(hb:¬S b):Cb w' g b W m C:=
 ⟨(hc.block g h.blk.lt hg).trans h.blk,h.map.same (hc.block b h.map.lt hb),h.ok,h.w1,h.w3,h.m1,h.m2⟩
theorem Mv.chg{R:Nat->Prop}(hc:Chg S w w')(hS:∀k,R k→¬S k):Mv w R w' R:=λb hb hl=>⟨hc.block b hl (hS b hb),hb⟩
theorem Block.chg{g:Nat}{e:TypeId}{cs:Array Value}(h:Block w g e cs)(hc:Chg S w w')(hg:¬S g):Block w' g e cs:=(hc.block g h.lt hg).trans h
end
theorem Y7{e':TypeId}{cs:Array Value}{fr:Nat×Nat}(h:w.ownsRow B e size v n xs)(hb:w.heap[g]?=some (.cells cs e' fr))(hne:e≠e'):v.ownBlock≠some g:=by
 rcases h.2 with⟨rfl,_⟩|⟨g',cap,cur,rfl,_,hg,_⟩
 ·intro h;cases h
 ·intro hk
  simp only[bp,av]at hk;subst hk;rw[hb]at hg;simp only[av,bj]at hg;exact hne hg.2.1.symm
theorem Yji(h:w.ownsRow B e size v n xs)(hb:∃es clock,w.heap[g]?=some (.map es clock)):v.ownBlock≠some g:=by
 obtain⟨es,clock,hb⟩:=hb
 rcases h.2 with⟨rfl,_⟩|⟨g',cap,cur,rfl,_,hg,_⟩
 ·intro h;cases h
 ·intro hk
  simp only[bp,av]at hk;subst hk;rw[hb]at hg
  cases hg
/-! ### dictionaries,cuboids,side by side -/
abbrev DAt:=Nat×Value×Nat
abbrev CAt:=Nat×Nat
def Wc(g:Nat):Value:=.pointer (some ⟨g,0,none⟩)
def Vc(d:DAt)(k:Nat):Prop:=Tf d.1 d.2.1 d.2.2 k
def Ui(c:CAt)(k:Nat):Prop:=k=c.1∨k=c.2
structure Dcs (w:World) (ds:List DAt) (N:List Nat) (Qs:List (List Pth)):Prop where
 len:ds.length=N.length
 good:Xw N Qs
 at_:∀(i:Nat) (d:DAt),ds[i]?=some d->Dc w 0 d.1 d.2.1 d.2.2 (N.getD i 0) (Qs.getD i [])
 ne:∀(i j:Nat) (d e:DAt),ds[i]?=some d->ds[j]?=some e->i≠j->∀k,Vc d k→¬Vc e k
structure Cbs (w:World) (vs:List CAt) (W m:Nat) (Cs:List Cub):Prop where
 len:vs.length=Cs.length
 at_:∀(i:Nat) (c:CAt),vs[i]?=some c->Cb w c.1 c.2 W m (Cs.getD i [])
 ne:∀(i j:Nat) (c e:CAt),vs[i]?=some c->vs[j]?=some e->i≠j->∀k,Ui c k→¬Ui e k
section
variable {w w' : World}{S:Nat->Prop}{ds:List DAt}{N:List Nat}{Qs:List (List Pth)}{vs:List CAt}{W m:Nat}{Cs:List Cub}
theorem Dcs.lt(h:Dcs w ds N Qs){d:DAt}(hd:d∈ds){k:Nat}(hk:Vc d k):k<w.heap.size:=by
 obtain⟨i,hi⟩:=af hd;exact((h.at_ i d hi).Jy hk).2
theorem Cbs.lt(h:Cbs w vs W m Cs){c:CAt}(hd:c∈vs){k:Nat}(hk:Ui c k):k<w.heap.size:=by
 obtain⟨i,hi⟩:=af hd
 have:=h.at_ i c hi
 rcases hk with rfl|rfl
 ·exact this.blk.lt
 ·exact this.map.lt
theorem Dcs.chg(h:Dcs w ds N Qs)(hc:Chg S w w')(hS:∀d∈ds,∀k,Vc d k→¬S k):Dcs w' ds N Qs:=
 ⟨h.len,h.good,λi d hi=>(h.at_ i d hi).chg hc (hS d (ae hi)),h.ne⟩
theorem Cbs.chg(h:Cbs w vs W m Cs)(hc:Chg S w w')(hS:∀c∈vs,∀k,Ui c k→¬S k):Cbs w' vs W m Cs:=
 ⟨h.len,λi c hi=>(h.at_ i c hi).chg hc (hS c (ae hi) _ (.inl rfl)) (hS c (ae hi) _ (.inr rfl)),h.ne⟩
theorem Dcs.below(h:Dcs w ds N Qs)(hb:Below w.heap.size w w'):Dcs w' ds N Qs:=h.chg (S:=λ_=>False) (Chg.Y2 hb (an _)) (λ_ _ _ _ h=>h)
theorem Dcs.Yml(h:Dcs w ds N Qs):Qs.length=ds.length:=by rw[h.good.len,h.len]
theorem Nf{α:Type}{L:List α}{i j:Nat}{x y:α}(hi:i<L.length):(L.set i x).getD j y=if i=j then x else L.getD j y:=by
 rw[aj,bo]
 by_cases h:i=j
 ·rw[if_pos h,if_pos h,if_pos (h▸hi)];rfl
 ·rw[if_neg h,if_neg h,aj]
theorem Dcs.Yz(h:Dcs w ds N Qs){i:Nat}{d d':DAt}{Q':List Pth}(hi:ds[i]?=some d)(hc:Chg (Vc d) w w')(hd:Dc w' 0 d'.1 d'.2.1 d'.2.2 (N.getD i 0) Q')(hf:∀k,Vc d' k->Vc d k∨w.heap.size<=k):Dcs w' (ds.set i d') N (Qs.set i Q'):=by
 have hil:=(ag.1 hi).1
 have hq:=h.Yml
 have hl:=h.len
 refine⟨by rw[cn];exact h.len,Xw.of (by rw[cn,hq,hl]) λj hj=>?_,λj e hj=>?_,λa b x y ha hb hab k hx hy=>?_⟩
 ·rw[Nf (by omega)]
  by_cases hij:i=j
  ·subst hij;rw[if_pos rfl];exact hd.good
  ·rw[if_neg hij];exact h.good.get hj
 ·rw[Nf (by omega)]
  rw[bo]at hj
  by_cases hij:i=j
  ·subst hij
   rw[if_pos rfl,if_pos hil]at hj;obtain rfl:=ax hj;rw[if_pos rfl];exact hd
  ·rw[if_neg hij]at hj
   rw[if_neg hij];exact(h.at_ j e hj).chg hc λk hk hk'=>h.ne i j d e hi hj hij k hk' hk
 ·rw[bo]at ha hb
  by_cases h1:i=a
  ·subst h1
   rw[if_pos rfl,if_pos hil]at ha;obtain rfl:=ax ha;rw[if_neg hab]at hb
   rcases hf k hx with h2|h2
   ·exact h.ne i b d y hi hb hab k h2 hy
   ·have:=h.lt (ae hb) hy;omega
  ·rw[if_neg h1]at ha
   by_cases h2:i=b
   ·subst h2
    rw[if_pos rfl,if_pos hil]at hb;obtain rfl:=ax hb
    rcases hf k hy with h3|h3
    ·exact h.ne i a d x hi ha (λe=>hab e.symm) k h3 hx
    ·have:=h.lt (ae ha) hx;omega
   ·rw[if_neg h2]at hb
    exact h.ne a b x y ha hb hab k hx hy
theorem Cbs.Yz(h:Cbs w vs W m Cs){i:Nat}{c c':CAt}{C':Cub}(hi:vs[i]?=some c)(hc:Chg (Ui c) w w')(hd:Cb w' c'.1 c'.2 W m C')(hf:∀k,Ui c' k->Ui c k∨w.heap.size<=k):Cbs w' (vs.set i c') W m (Cs.set i C'):=by
 have hil:=(ag.1 hi).1
 have hl:=h.len
 refine⟨by rw[cn,cn];exact h.len,λj e hj=>?_,λa b x y ha hb hab k hx hy=>?_⟩
 ·rw[Nf (by omega)]
  rw[bo]at hj
  by_cases hij:i=j
  ·subst hij
   rw[if_pos rfl,if_pos hil]at hj;obtain rfl:=ax hj;rw[if_pos rfl];exact hd
  ·rw[if_neg hij]at hj
   rw[if_neg hij];exact(h.at_ j e hj).chg hc (λhk=>h.ne i j c e hi hj hij _ hk (.inl rfl)) (λhk=>h.ne i j c e hi hj hij _ hk (.inr rfl))
 ·rw[bo]at ha hb
  by_cases h1:i=a
  ·subst h1
   rw[if_pos rfl,if_pos hil]at ha;obtain rfl:=ax ha;rw[if_neg hab]at hb
   rcases hf k hx with h2|h2
   ·exact h.ne i b c y hi hb hab k h2 hy
   ·have:=h.lt (ae hb) hy;omega
  ·rw[if_neg h1]at ha
   by_cases h2:i=b
   ·subst h2
    rw[if_pos rfl,if_pos hil]at hb;obtain rfl:=ax hb
    rcases hf k hy with h3|h3
    ·exact h.ne i a c x hi ha (λe=>hab e.symm) k h3 hx
    ·have:=h.lt (ae ha) hx;omega
   ·rw[if_neg h2]at hb
    exact h.ne a b x y ha hb hab k hx hy
end
/-! ### the lattice -/
structure LtM (w:World) (g:Nat) (X1 X2 X3 dv vv:Value) (ds:List DAt) (vs:List CAt) (N:List Nat) (Qs:List (List Pth)) (W m:Nat) (Cs:List Cub) (cnt:Int):Prop where
 blk:Block w g 92 #[X1,X2,X3,dv,vv,.int .i64 cnt]
 dr:w.ownsRow 0 94 1 dv ds.length (ds.map λd=>Wc d.1)
 vr:w.ownsRow 0 96 1 vv vs.length (vs.map λc=>Wc c.1)
 dcs:Dcs w ds N Qs
 cbs:Cbs w vs W m Cs
 apart:∀d∈ds,∀c∈vs,∀k,Vc d k→¬Ui c k
def Zp(g:Nat)(dv vv:Value)(ds:List DAt)(vs:List CAt)(k:Nat):Prop:=k=g∨dv.ownBlock=some k∨vv.ownBlock=some k∨(∃d∈ds,Vc d k)∨∃c∈vs,Ui c k
section
variable {w w' : World}{S:Nat->Prop}{g:Nat}{X1 X2 X3 dv vv:Value}{ds:List DAt}{vs:List CAt}{N:List Nat}{Qs:List (List Pth)}{W m:Nat}{Cs:List Cub}{cnt:Int}
theorem LtM.chg(h:LtM w g X1 X2 X3 dv vv ds vs N Qs W m Cs cnt)(hc:Chg S w w')(hS:∀k,Zp g dv vv ds vs k→¬S k):LtM w' g X1 X2 X3 dv vv ds vs N Qs W m Cs cnt:=
 ⟨h.blk.chg hc (hS g (.inl rfl)),hc.row h.dr λk hk=>hS k (.inr (.inl hk)),hc.row h.vr λk hk=>hS k (.inr (.inr (.inl hk))),h.dcs.chg hc λd hd k hk=>hS k (.inr (.inr (.inr (.inl ⟨d,hd,hk⟩)))),h.cbs.chg hc λc hc' k hk=>hS k (.inr (.inr (.inr (.inr ⟨c,hc',hk⟩)))),h.apart⟩
theorem LtM.below(h:LtM w g X1 X2 X3 dv vv ds vs N Qs W m Cs cnt)(hb:Below w.heap.size w w'):LtM w' g X1 X2 X3 dv vv ds vs N Qs W m Cs cnt:=h.chg (S:=λ_=>False) (Chg.Y2 hb (an _)) (λ_ _ h=>h)
theorem LtM.drewN(h:LtM w g X1 X2 X3 dv vv ds vs N Qs W m Cs cnt)(k:Nat):LtM (w.drewN k) g X1 X2 X3 dv vv ds vs N Qs W m Cs cnt:=h.chg (S:=λ_=>False) ((Chg.refl _ w).drewN k) (λ_ _ h=>h)
theorem LtM.lt(h:LtM w g X1 X2 X3 dv vv ds vs N Qs W m Cs cnt){k:Nat}(hk:Zp g dv vv ds vs k):k<w.heap.size:=by
 rcases hk with rfl|hk|hk|⟨d,hd,hk⟩|⟨c,hc,hk⟩
 ·exact h.blk.lt
 ·exact(bs h.dr k hk).2
 ·exact(bs h.vr k hk).2
 ·exact h.dcs.lt hd hk
 ·exact h.cbs.lt hc hk
def St(o:Obj):Prop:=match o with
 | .cells _ e _=>e=92∨e=94∨e=96∨e=160∨e=168∨e=181
 | .map _ _=>True
 |_=>False
theorem X8{w:World}{B size n k:Nat}{e:TypeId}{v:Value}{xs:List Value}(h:w.ownsRow B e size v n xs)(hk:v.ownBlock=some k):∃cs fr,w.heap[k]?=some (.cells cs e fr):=by
 rcases h.2 with⟨rfl,_⟩|⟨g',cap,cur,rfl,_,hg,_⟩
 ·cases hk
 ·simp only[bp,av]at hk
  subst hk;exact⟨_,_,hg⟩
theorem Dc.kind{base n:Nat}{Q:List Pth}{d:DAt}(h:Dc w base d.1 d.2.1 d.2.2 n Q){k:Nat}(hk:Vc d k):(∃cs e fr,w.heap[k]?=some (.cells cs e fr)/\(e=160∨e=168))∨∃es clock,w.heap[k]?=some (.map es clock):=by
 rcases hk with rfl|hk|rfl
 ·exact .inl ⟨_,_,_,h.block,.inl rfl⟩
 ·obtain⟨cs,fr,e⟩:=X8 h.row hk
  exact .inl ⟨cs,_,fr,e,.inr rfl⟩
 ·exact .inr h.map.Qo
theorem Cb.kind{C:Cub}{c:CAt}(h:Cb w c.1 c.2 W m C){k:Nat}(hk:Ui c k):(∃cs fr,w.heap[k]?=some (.cells cs 181 fr))∨∃es clock,w.heap[k]?=some (.map es clock):=by
 rcases hk with rfl|rfl
 ·exact .inl ⟨_,_,h.blk⟩
 ·exact .inr h.map.Qo
theorem LtM.kind(h:LtM w g X1 X2 X3 dv vv ds vs N Qs W m Cs cnt){k:Nat}(hk:Zp g dv vv ds vs k):∃o,w.heap[k]?=some o/\St o:=by
 rcases hk with rfl|hk|hk|⟨d,hd,hk⟩|⟨c,hc,hk⟩
 ·exact⟨_,h.blk,.inl rfl⟩
 ·obtain⟨cs,fr,e⟩:=X8 h.dr hk
  exact⟨_,e,.inr (.inl rfl)⟩
 ·obtain⟨cs,fr,e⟩:=X8 h.vr hk
  exact⟨_,e,.inr (.inr (.inl rfl))⟩
 ·obtain⟨i,hi⟩:=af hd
  rcases(h.dcs.at_ i d hi).kind hk with⟨cs,e,fr,he,h1|h1⟩|⟨es,clock,he⟩
  ·exact⟨_,he,.inr (.inr (.inr (.inl h1)))⟩
  ·exact⟨_,he,.inr (.inr (.inr (.inr (.inl h1))))⟩
  ·exact⟨_,he,trivial⟩
 ·obtain⟨i,hi⟩:=af hc
  rcases(h.cbs.at_ i c hi).kind hk with⟨cs,fr,he⟩|⟨es,clock,he⟩
  ·exact⟨_,he,.inr (.inr (.inr (.inr (.inr rfl))))⟩
  ·exact⟨_,he,trivial⟩
theorem LtM.Ywj(h:LtM w g X1 X2 X3 dv vv ds vs N Qs W m Cs cnt):dv.ownBlock≠some g:=Y7 h.dr h.blk (by decide)
theorem LtM.Yss(h:LtM w g X1 X2 X3 dv vv ds vs N Qs W m Cs cnt):vv.ownBlock≠some g:=Y7 h.vr h.blk (by decide)
theorem LtM.Yr0(h:LtM w g X1 X2 X3 dv vv ds vs N Qs W m Cs cnt){k:Nat}(hk:dv.ownBlock=some k):vv.ownBlock≠some k:=by
 obtain⟨cs,fr,e⟩:=X8 h.dr hk;exact Y7 h.vr e (by decide)
theorem LtM.d_g(h:LtM w g X1 X2 X3 dv vv ds vs N Qs W m Cs cnt){d:DAt}(hd:d∈ds):¬Vc d g:=λhk=>by
 obtain⟨i,hi⟩:=af hd
 have hb:w.heap[g]?=some (.cells _ _ _):=h.blk
 rcases(h.dcs.at_ i d hi).kind hk with⟨cs,e,fr,he,h1⟩|⟨es,clock,he⟩
 ·rw[hb]at he
  simp only[av,bj]at he
  rcases h1 with h1|h1 <;> (rw[<-he.2.1]at h1;exact absurd h1 (by decide))
 ·rw[hb]at he;cases he
theorem LtM.c_g(h:LtM w g X1 X2 X3 dv vv ds vs N Qs W m Cs cnt){c:CAt}(hc:c∈vs):¬Ui c g:=λhk=>by
 obtain⟨i,hi⟩:=af hc
 have hb:w.heap[g]?=some (.cells _ _ _):=h.blk
 rcases(h.cbs.at_ i c hi).kind hk with⟨cs,fr,he⟩|⟨es,clock,he⟩
 ·rw[hb]at he
  simp only[av,bj]at he;exact absurd he.2.1 (by decide)
 ·rw[hb]at he;cases he
theorem Tv{B size n':Nat}{e:TypeId}{v:Value}{xs:List Value}{base n:Nat}{Q:List Pth}{d:DAt}(hr:w.ownsRow B e size v n' xs)(h:Dc w base d.1 d.2.1 d.2.2 n Q)(h1:e≠160)(h2:e≠168){k:Nat}(hk:v.ownBlock=some k):¬Vc d k:=h.C8 hr h1 h2 k hk
theorem Rb{B size n':Nat}{e:TypeId}{v:Value}{xs:List Value}{C:Cub}{c:CAt}(hr:w.ownsRow B e size v n' xs)(h:Cb w c.1 c.2 W m C)(h1:e≠181){k:Nat}(hk:v.ownBlock=some k):¬Ui c k:=λhf=>by
 rcases h.kind hf with⟨cs,fr,he⟩|hm
 ·exact Y7 hr he h1 hk
 ·exact Yji hr hm hk
theorem LtM.c0(h:LtM w g X1 X2 X3 dv vv ds vs N Qs W m Cs cnt):w.cell? ⟨g,0,none⟩=some X1:=h.blk.cell 0
theorem LtM.c1(h:LtM w g X1 X2 X3 dv vv ds vs N Qs W m Cs cnt):w.cell? ⟨g,1,none⟩=some X2:=h.blk.cell 1
theorem LtM.c2(h:LtM w g X1 X2 X3 dv vv ds vs N Qs W m Cs cnt):w.cell? ⟨g,2,none⟩=some X3:=h.blk.cell 2
theorem LtM.c3(h:LtM w g X1 X2 X3 dv vv ds vs N Qs W m Cs cnt):w.cell? ⟨g,3,none⟩=some dv:=h.blk.cell 3
theorem LtM.c4(h:LtM w g X1 X2 X3 dv vv ds vs N Qs W m Cs cnt):w.cell? ⟨g,4,none⟩=some vv:=h.blk.cell 4
theorem LtM.c5(h:LtM w g X1 X2 X3 dv vv ds vs N Qs W m Cs cnt):w.cell? ⟨g,5,none⟩=some (.int .i64 cnt):=h.blk.cell 5
end
theorem Jh{gs:List Nat}(h:w.ownsRow B T 1 v gs.length (gs.map Wc)):∃A c,v=.slice A gs.length c/\gs.length<=c/\c<=maxLen/\∀i d,gs[i]?=some d->∃b,A=some ⟨b,0,none⟩∧v.ownBlock=some b/\b<w.heap.size/\w.cell? ⟨b,i,none⟩=some (Wc d):=by
 have h1:=h
 rcases h.2 with⟨rfl,h0⟩|⟨b,cap,cur,rfl,hb,hg,hnc,hcm,hcs,ht⟩
 ·exact⟨none,0,by rw[h0],by omega,by unfold maxLen;omega,λi d hi=>by
   have:=(ag.1 hi).1
   omega⟩
 ·refine⟨_,cap,rfl,hnc,hcm,λi d hi=>⟨b,rfl,rfl,(Array.getElem?_eq_some_iff.1 hg).1,?_⟩⟩
  have hcell:=ia h1 (g:=b) rfl i (Wc d) (by rw[bg,hi];rfl)
  rw[Yt]at hcell;simpa using hcell
/-! ### a schema,in blocks of R -/
abbrev N0:ElT Yk:=U4 Y9 1 (Zz Y9 1)
theorem Vw:N0.Ok:=Wu Ys (Wb Ys)
structure Vr (w:World) (R:Nat->Prop) (A1:Option Addr) (n1 c1:Nat) (A2:Option Addr) (n2 c2:Nat) (A3:Option Addr) (n3 c3:Nat) (D:List Yk) (M:List Txt) (V:List (List Int)):Prop where
 d:Row N0 2 w R A1 n1 c1 D
 m:Row Y9 1 w R A2 n2 c2 M
 v:Row (Zz Yy 1) 1 w R A3 n3 c3 V
section
variable {w w' : World}{R S:Nat->Prop}{A1 A2 A3:Option Addr}{n1 c1 n2 c2 n3 c3:Nat}{D:List Yk}{M:List Txt}{V:List (List Int)}
theorem Vr.mv{R':Nat->Prop}(h:Vr w R A1 n1 c1 A2 n2 c2 A3 n3 c3 D M V)(m:Mv w R w' R'):Vr w' R' A1 n1 c1 A2 n2 c2 A3 n3 c3 D M V:=⟨h.d.mv Vw m,h.m.mv Ys m,h.v.mv (Wb Yh) m⟩
theorem Vr.chg(h:Vr w R A1 n1 c1 A2 n2 c2 A3 n3 c3 D M V)(hc:Chg S w w')(hS:∀k,R k→¬S k):Vr w' R A1 n1 c1 A2 n2 c2 A3 n3 c3 D M V:=h.mv (Mv.chg hc hS)
theorem Vr.Yc(h:Vr w R A1 n1 c1 A2 n2 c2 A3 n3 c3 D M V)(hb:Below w.heap.size w w'):Vr w' R A1 n1 c1 A2 n2 c2 A3 n3 c3 D M V:=h.mv (Mv.Yc hb R)
theorem Row.Ywe{A:Option Addr}{n c:Nat}(h:Row N0 2 w R A n c D):Wg w w.heap.size A n c D:=by
 refine⟨h.1,h.cap,h.fit,h.void,λi hi=>?_⟩
 obtain⟨b,o,us,x,e,_,hl,h4,hc,⟨h5,A',n',c',h6,hr⟩,he⟩:=h.at_ hi
 have e1:D.getD i Wn=x:=by rw[aj,he.out];rfl
 rw[e1]
 match us,h4 with
 |[u0,u1],_=>
  simp only[fc,ft,ff,fu,Y9,List.cons.injEq,and_true]at h5 h6;subst h5 h6;exact⟨b,o,A',n',c',e,hl,hc 0 _ rfl,hc 1 _ rfl,hr.Ef⟩
theorem Vr.has(h:Vr w R A1 n1 c1 A2 n2 c2 A3 n3 c3 D M V):Pd w w.heap.size A1 n1 c1 A2 n2 c2 A3 n3 c3 D M V:=⟨h.d.Ywe,h.m.Ef,h.v.Yvr⟩
end
def Lt(w:World)(R:Nat->Prop)(g:Nat)(F:Nat->Prop)(D:List Yk)(M:List Txt)(V:List (List Int))(Qs:List (List Pth))(Cs:List Cub)(cnt:Int):Prop:=
 ∃dv vv ds vs A1 n1 c1 A2 n2 c2 A3 n3 c3,LtM w g (.slice A1 n1 c1) (.slice A2 n2 c2) (.slice A3 n3 c3) dv vv ds vs (Yj D) Qs D.length M.length Cs cnt/\Vr w R A1 n1 c1 A2 n2 c2 A3 n3 c3 D M V/\(∀k,F k↔Zp g dv vv ds vs k)/\(∀k,R k→¬F k)/\Wk D M V/\Cs.length=(Yg D V).length
section
variable {w w' : World}{R F S:Nat->Prop}{g:Nat}{D:List Yk}{M:List Txt}{V:List (List Int)}{Qs:List (List Pth)}{Cs:List Cub}{cnt:Int}
theorem Lt.chg(h:Lt w R g F D M V Qs Cs cnt)(hc:Chg S w w')(hF:∀k,F k→¬S k)(hR:∀k,R k→¬S k):Lt w' R g F D M V Qs Cs cnt:=by
 obtain⟨dv,vv,ds,vs,A1,n1,c1,A2,n2,c2,A3,n3,c3,h1,h2,h3,h4,h5⟩:=h;exact⟨dv,vv,ds,vs,A1,n1,c1,A2,n2,c2,A3,n3,c3,h1.chg hc λk hk=>hF k ((h3 k).2 hk),h2.chg hc hR,h3,h4,h5⟩
theorem Lt.below(h:Lt w R g F D M V Qs Cs cnt)(hb:Below w.heap.size w w'):Lt w' R g F D M V Qs Cs cnt:=h.chg (S:=λ_=>False) (Chg.Y2 hb (an _)) (λ_ _ h=>h) (λ_ _ h=>h)
theorem Lt.lt(h:Lt w R g F D M V Qs Cs cnt){k:Nat}(hk:F k):k<w.heap.size:=by
 obtain⟨dv,vv,ds,vs,A1,n1,c1,A2,n2,c2,A3,n3,c3,h1,h2,h3,h4⟩:=h;exact h1.lt ((h3 k).1 hk)
theorem Lt.kind(h:Lt w R g F D M V Qs Cs cnt){k:Nat}(hk:F k):∃o,w.heap[k]?=some o/\St o:=by
 obtain⟨dv,vv,ds,vs,A1,n1,c1,A2,n2,c2,A3,n3,c3,h1,h2,h3,h4⟩:=h;exact h1.kind ((h3 k).1 hk)
end
end
section
theorem Sl.E8{w:World}{B sz n:Nat}{T:TypeId}{v:Value}{vs:List Value}(h:w.ownsRow B T sz v n vs):∃A c,v=.slice A n c/\Sl w (λk=>B<=k/\v.ownBlock=some k) A n c sz vs:=by
 rcases h.2 with⟨rfl,h0⟩|⟨g,cap,cur,rfl,hb,hg,hnc,hcm,_⟩
 ·subst h0
  have:vs=[]:=az (by have:=h.1;omega)
  subst this;exact⟨none,0,rfl,Sl.none_ _ _ _⟩
 ·refine⟨_,cap,rfl,h.1,hnc,hcm,(λh=>by cases h),λ_=>⟨g,0,rfl,⟨hb,rfl⟩,(Array.getElem?_eq_some_iff.1 hg).1,λj u hu=>?_⟩⟩
  have:=h.cells (g:=g) rfl j u hu
  rwa [Yt]at this
def Ylk(T:TypeId)(sz n:Nat)(vs:List Value)(w:World)(e:Ending)(w':World):Prop:=∃A c,e=.returned (.slice A n c)/\w'.ownsRow w.heap.size T sz (.slice A n c) n vs/\Below w.heap.size w w'
theorem Mq(w:World)(T:TypeId)(sz:Nat):(w.alloc (.cells #[] T)).ownsRow w.heap.size T sz (.slice (some ⟨w.heap.size,0,none⟩) 0 0) 0 []:=
 ⟨by simp,.inr ⟨w.heap.size,0,#[],rfl,an _,heap_alloc_new w _,an _,ar _,by simp,by simp⟩⟩
/-! ### rows whose elements are put anew -/
def Zu{α:Type}(E:ElT α)(T:TypeId)(sz:Nat)(w:World)(B:Nat)(S:Nat->Prop)(v:Value)(n:Nat)(L:List α)(vs:List Value)(k:Nat):Prop:=
 L.length=n/\∃us:List Value,us.length=k*sz/\w.ownsRow B T sz v n (us++vs.drop (k*sz))/\∀i x,i<k->L[i]?=some x->E w (λb=>S b/\v.ownBlock≠some b) ((us.drop (i*sz)).take sz) x
section
variable {α:Type}{E:ElT α}{T:TypeId}{sz B n k g c:Nat}{w w' : World}{S:Nat->Prop}{v:Value}{L:List α}{vs:List Value}
theorem Zu.begin(h:w.ownsRow B T sz v n vs)(hl:L.length=n):Zu E T sz w B S v n L vs 0:=⟨hl,[],by simp,by simpa using h,λi x hi=>absurd hi (by omega)⟩
theorem Zu.end_(h:Zu E T sz w B S v n L vs k)(hk:n<=k)(hv:vs.length=n*sz):Yx E T sz w B S v L:=by
 obtain⟨h0,us,h1,h2,h3⟩:=h;rw[dx (by rw[hv];exact Nat.mul_le_mul_right sz hk),fq]at h2
 subst h0;exact⟨us,h2,λi x hi=>h3 i x (by have:=(ag.1 hi).1;omega) hi⟩
theorem Zu.below(hE:E.Ok)(h:Zu E T sz w B S v n L vs k)(hb:Below w.heap.size w w'):Zu E T sz w' B S v n L vs k:=by
 obtain⟨h0,us,h1,h2,h3⟩:=h;exact⟨h0,us,h1,Xp h2 hb,λi x hi hx=>hE _ _ _ _ _ _ (Mv.Yc hb _) (h3 i x hi hx)⟩
theorem Zu.lt(h:Zu E T sz w B S v n L vs k):∀g,v.ownBlock=some g->B<=g/\g<w.heap.size:=by
 obtain⟨h0,us,h1,h2,h3⟩:=h;exact bs h2
theorem Zu.free(h:Zu E T sz w B S (.slice (some ⟨g,0,none⟩) n c) n L vs k)(j:Nat):w.frozen? ⟨g,j,none⟩=false:=by
 obtain⟨h0,us,h1,h2,h3⟩:=h;exact h2.frozenAt j
theorem Zu.form(h:Zu E T sz w B S v n L vs k)(hn:0<n):∃g c,v=.slice (some ⟨g,0,none⟩) n c:=by
 obtain⟨h0,us,h1,h2,h3⟩:=h
 rcases h2.2 with⟨rfl,e0⟩|⟨g,cap,cur,rfl,_⟩
 ·omega
 ·exact⟨g,cap,rfl⟩
theorem Zu.old(h:Zu E T sz w B S (.slice (some ⟨g,0,none⟩) n c) n L vs k){j:Nat}(hj:k*sz<=j)(hj2:j<n*sz):w.cell? ⟨g,j,none⟩=vs[j]?:=by
 obtain⟨h0,us,h1,h2,h3⟩:=h;rw[h2.cellAt j hj2,List.getElem?_append_right (by omega),fg]
 congr 1
 omega
theorem Eu{us vs:List Value}{k:Nat}{u:Value}(h:us.length=k)(hk:k<vs.length):(us++vs.drop k).set k u=(us++[u])++vs.drop (k+1):=by
 rw[List.set_append_right _ _ (by omega),h,Nat.sub_self,List.drop_eq_getElem_cons hk,List.set_cons_zero,cw]
 rfl
theorem Zu.Yl2(hE:E.Ok)(h:Zu E T 1 w B S (.slice (some ⟨g,0,none⟩) n c) n L vs k)(hv:vs.length=n){x:α}(hx:L[k]?=some x){u:Value}(hu:E w (λb=>S b/\(ch (some ⟨g,0,none⟩) n c).ownBlock≠some b) [u] x):Zu E T 1 (w.setCell ⟨g,k,none⟩ u) B S (.slice (some ⟨g,0,none⟩) n c) n L vs (k+1):=by
 obtain⟨h0,us,h1,h2,h3⟩:=h
 have hk:=(ag.1 hx).1
 have hs:=(br h2 k u).1
 rw[cj]at h1 hs;rw[Eu h1 (by omega)]at hs
 have hm:Mv w (λb=>S b/\(ch (some ⟨g,0,none⟩) n c).ownBlock≠some b) (w.setCell ⟨g,k,none⟩ u) (λb=>S b/\(ch (some ⟨g,0,none⟩) n c).ownBlock≠some b):=Mv.set w g k u (λhb=>hb.2 rfl)
 refine⟨h0,us++[u],by simp[h1],by rw[cj];exact hs,λi y hi hy=>?_⟩
 rw[cj]
 by_cases hik:i<k
 ·have:=hE _ _ _ _ _ _ hm (h3 i y hik hy)
  rw[cj]at this;rw[dn (by omega),dm (by rw[fm];omega)]
  exact this
 ·obtain rfl:i=k:=by omega
  obtain rfl:x=y:=by rw[hx]at hy;exact ax hy
  have e:((us++[u]).drop i).take 1=[u]:=by rw[<-h1,fv];rfl
  rw[e];exact hE _ _ _ _ _ _ hm hu
theorem Zu.Yu9(hE:E.Ok)(h:Zu E T 2 w B S (.slice (some ⟨g,0,none⟩) n c) n L vs k)(hv:vs.length=n*2){x:α}(hx:L[k]?=some x){u u':Value}(hu:E w (λb=>S b/\(ch (some ⟨g,0,none⟩) n c).ownBlock≠some b) [u,u'] x):Zu E T 2 ((w.setCell ⟨g,k*2,none⟩ u).setCell ⟨g,k*2+1,none⟩ u') B S (.slice (some ⟨g,0,none⟩) n c) n L vs (k+1):=by
 obtain⟨h0,us,h1,h2,h3⟩:=h
 have hk:=(ag.1 hx).1
 have hs:=(br h2 (k*2) u).1
 rw[Eu h1 (by omega)]at hs
 have hs2:=(br hs (k*2+1) u').1
 rw[Eu (by simp[h1]) (by omega)]at hs2
 have hm:Mv w (λb=>S b/\(ch (some ⟨g,0,none⟩) n c).ownBlock≠some b) ((w.setCell ⟨g,k*2,none⟩ u).setCell ⟨g,k*2+1,none⟩ u') (λb=>S b/\(ch (some ⟨g,0,none⟩) n c).ownBlock≠some b):=(Mv.set w g (k*2) u (λhb=>hb.2 rfl)).trans (Mv.set _ g (k*2+1) u' (λhb=>hb.2 rfl))
 have e2:(k+1)*2=k*2+1+1:=by omega
 refine⟨h0,us++[u]++[u'],by simp[h1,e2],by rw[e2];exact hs2,λi y hi hy=>?_⟩
 by_cases hik:i<k
 ·have:=hE _ _ _ _ _ _ hm (h3 i y hik hy)
  rw[cw,dn (by omega),dm (by rw[fm];omega)]
  exact this
 ·obtain rfl:i=k:=by omega
  obtain rfl:x=y:=by rw[hx]at hy;exact ax hy
  have e:((us++[u]++[u']).drop (i*2)).take 2=[u,u']:=by rw[<-h1,cw,fv];rfl
  rw[e];exact hE _ _ _ _ _ _ hm hu
end
/-! ### slices.Clone -/
theorem Yo7:(ai.info? 9).map (λi=>(i.zero,i.size,i.bytes))=some (some (.string ByteArray.empty),1,16):=by kernel_rfl
theorem Yit(h:Sl w S A n c 1 vs)(hone:∀u∈vs,u.oneCell'=true)(hn:n<=1000):
  Calls ai 152 #[.slice A n c] w (Ylk 9 1 n vs w):=by
 obtain⟨i0,hi,hz0,hz1,hz2⟩:=info_parts Yo7
 rcases A with _|ad
 ·obtain rfl:=h.void rfl
  obtain rfl:n=0:=by have:=h.cap;omega
  obtain rfl:vs=[]:=az (by have:=h.len;omega)
  have q:∀W,(binOp .eql 23 (.slice none 0 0) (.slice none 0 0)).run ai W=.ok (.bool true) W:=λW=>aw W _ _ none 0 0 0 0 dh
  go_enter gw,fx;go_wp2;go_ret;exact⟨none,0,rfl,bz _ _ _ _,Below.refl _ _⟩
 ·have q:∀W,(binOp .eql 23 (.slice (some ad) n c) (.slice none 0 0)).run ai W=.ok (.bool false) W:=λW=>aw W _ _ (some ad) n c 0 0 dh
  have hcells:Hid (∀j u,vs[j]?=some u->(w.alloc (.cells #[] 9)).cell? (ad.add j)=some u):=hid λj u hu=>by
   have hpos:0<n:=by
    have h1:=(ag.1 hu).1
    have h2:=h.len
    omega
   obtain⟨b,o,e,_,hl,hc⟩:=(h.mv (Mv.alloc w (.cells #[] 9) S)).has hpos;injection e with e
   subst e;rw[Yt];exact hc j u hu
  have hl:=hid h.len
  clear h;go_enter gw,fx;go_wp2_with (at_builtin;refine wpList_append_own_at _ rfl _ _ 23 rfl w.heap.size 9 i0 _ 1 16 dh hi hz0 hz1 hz2 rfl (by decide) _ 0 [] rfl (Mq w _ _) ad n c vs rfl hl.out hcells.out hone (by unfold maxLen;omega) (by omega) (by simp) ?_)
  intro v2 w2 hO hG hnil _
  have hB2:Below w.heap.size w w2:=⟨hG.os,hG.tape,hG.output,ao (by simp) hG.size,λk hk=>(hG.block k (by simp;omega) (λe=>by simp[bp]at e;omega)).trans (Below.heap_alloc w _ k hk)⟩
  obtain⟨A2,c2,rfl,_⟩:=Sl.E8 hO
  have hF:=hid (show w2.ownsRow w.heap.size 9 1 (.slice A2 n c2) n vs/\Below w.heap.size w w2 from⟨hO,hB2⟩)
  clear hO hG hnil hB2 hcells;go_wp2;go_ret;exact⟨A2,c2,rfl,hF.out.1,hF.out.2⟩
theorem Yrl:(ai.info? 47).map (λi=>(i.zero,i.size,i.bytes))=some (some (.slice none 0 0),1,24):=by kernel_rfl
theorem Yjr(h:Sl w S A n c 1 vs)(hone:∀u∈vs,u.oneCell'=true)(hn:n<=1000):
  Calls ai 153 #[.slice A n c] w (Ylk 47 1 n vs w):=by
 obtain⟨i0,hi,hz0,hz1,hz2⟩:=info_parts Yrl
 rcases A with _|ad
 ·obtain rfl:=h.void rfl
  obtain rfl:n=0:=by have:=h.cap;omega
  obtain rfl:vs=[]:=az (by have:=h.len;omega)
  have q:∀W,(binOp .eql 24 (.slice none 0 0) (.slice none 0 0)).run ai W=.ok (.bool true) W:=λW=>aw W _ _ none 0 0 0 0 dg
  go_enter gn,fw;go_wp2;go_ret;exact⟨none,0,rfl,bz _ _ _ _,Below.refl _ _⟩
 ·have q:∀W,(binOp .eql 24 (.slice (some ad) n c) (.slice none 0 0)).run ai W=.ok (.bool false) W:=λW=>aw W _ _ (some ad) n c 0 0 dg
  have hcells:Hid (∀j u,vs[j]?=some u->(w.alloc (.cells #[] 47)).cell? (ad.add j)=some u):=hid λj u hu=>by
   have hpos:0<n:=by
    have h1:=(ag.1 hu).1
    have h2:=h.len
    omega
   obtain⟨b,o,e,_,hl,hc⟩:=(h.mv (Mv.alloc w (.cells #[] 47) S)).has hpos;injection e with e
   subst e;rw[Yt];exact hc j u hu
  have hl:=hid h.len
  clear h;go_enter gn,fw;go_wp2_with (at_builtin;refine wpList_append_own_at _ rfl _ _ 24 rfl w.heap.size 47 i0 _ 1 24 dg hi hz0 hz1 hz2 rfl (by decide) _ 0 [] rfl (Mq w _ _) ad n c vs rfl hl.out hcells.out hone (by unfold maxLen;omega) (by omega) (by simp) ?_)
  intro v2 w2 hO hG hnil _
  have hB2:Below w.heap.size w w2:=⟨hG.os,hG.tape,hG.output,ao (by simp) hG.size,λk hk=>(hG.block k (by simp;omega) (λe=>by simp[bp]at e;omega)).trans (Below.heap_alloc w _ k hk)⟩
  obtain⟨A2,c2,rfl,_⟩:=Sl.E8 hO
  have hF:=hid (show w2.ownsRow w.heap.size 47 1 (.slice A2 n c2) n vs/\Below w.heap.size w w2 from⟨hO,hB2⟩)
  clear hO hG hnil hB2 hcells;go_wp2;go_ret;exact⟨A2,c2,rfl,hF.out.1,hF.out.2⟩
theorem Ypx:(ai.info? 75).map (λi=>(i.zero,i.size,i.bytes))=some (some (.agg #[.string ByteArray.empty,.slice none 0 0]),2,40):=by kernel_rfl
theorem Yi3(h:Sl w S A n c 2 vs)(hone:∀u∈vs,u.oneCell'=true)(hn:n<=1000):
  Calls ai 150 #[.slice A n c] w (Ylk 75 2 n vs w):=by
 obtain⟨i0,hi,hz0,hz1,hz2⟩:=info_parts Ypx
 rcases A with _|ad
 ·obtain rfl:=h.void rfl
  obtain rfl:n=0:=by have:=h.cap;omega
  obtain rfl:vs=[]:=az (by have:=h.len;omega)
  have q:∀W,(binOp .eql 22 (.slice none 0 0) (.slice none 0 0)).run ai W=.ok (.bool true) W:=λW=>aw W _ _ none 0 0 0 0 di
  go_enter gy,fy;go_wp2;go_ret;exact⟨none,0,rfl,bz _ _ _ _,Below.refl _ _⟩
 ·have q:∀W,(binOp .eql 22 (.slice (some ad) n c) (.slice none 0 0)).run ai W=.ok (.bool false) W:=λW=>aw W _ _ (some ad) n c 0 0 di
  have hcells:Hid (∀j u,vs[j]?=some u->(w.alloc (.cells #[] 75)).cell? (ad.add j)=some u):=hid λj u hu=>by
   have hpos:0<n:=by
    have h1:=(ag.1 hu).1
    have h2:=h.len
    omega
   obtain⟨b,o,e,_,hl,hc⟩:=(h.mv (Mv.alloc w (.cells #[] 75) S)).has hpos;injection e with e
   subst e;rw[Yt];exact hc j u hu
  have hl:=hid h.len
  clear h;go_enter gy,fy;go_wp2_with (at_builtin;refine wpList_append_own_at _ rfl _ _ 22 rfl w.heap.size 75 i0 _ 2 40 di hi hz0 hz1 hz2 rfl (by decide) _ 0 [] rfl (Mq w _ _) ad n c vs rfl hl.out hcells.out hone (by unfold maxLen;omega) (by omega) (by simp) ?_)
  intro v2 w2 hO hG hnil _
  have hB2:Below w.heap.size w w2:=⟨hG.os,hG.tape,hG.output,ao (by simp) hG.size,λk hk=>(hG.block k (by simp;omega) (λe=>by simp[bp]at e;omega)).trans (Below.heap_alloc w _ k hk)⟩
  obtain⟨A2,c2,rfl,_⟩:=Sl.E8 hO
  have hF:=hid (show w2.ownsRow w.heap.size 75 2 (.slice A2 n c2) n vs/\Below w.heap.size w w2 from⟨hO,hB2⟩)
  clear hO hG hnil hB2 hcells;go_wp2;go_ret;exact⟨A2,c2,rfl,hF.out.1,hF.out.2⟩
theorem Ygu:(ai.info? 94).map (λi=>(i.zero,i.size,i.bytes))=some (some (.pointer none),1,8):=by kernel_rfl
theorem Yjd(h:Sl w S A n c 1 vs)(hone:∀u∈vs,u.oneCell'=true)(hn:n<=1000):
  Calls ai 100 #[.slice A n c] w (Ylk 94 1 n vs w):=by
 obtain⟨i0,hi,hz0,hz1,hz2⟩:=info_parts Ygu
 rcases A with _|ad
 ·obtain rfl:=h.void rfl
  obtain rfl:n=0:=by have:=h.cap;omega
  obtain rfl:vs=[]:=az (by have:=h.len;omega)
  have q:∀W,(binOp .eql 89 (.slice none 0 0) (.slice none 0 0)).run ai W=.ok (.bool true) W:=λW=>aw W _ _ none 0 0 0 0 dd
  go_enter gz,gg;go_wp2;go_ret;exact⟨none,0,rfl,bz _ _ _ _,Below.refl _ _⟩
 ·have q:∀W,(binOp .eql 89 (.slice (some ad) n c) (.slice none 0 0)).run ai W=.ok (.bool false) W:=λW=>aw W _ _ (some ad) n c 0 0 dd
  have hcells:Hid (∀j u,vs[j]?=some u->(w.alloc (.cells #[] 94)).cell? (ad.add j)=some u):=hid λj u hu=>by
   have hpos:0<n:=by
    have h1:=(ag.1 hu).1
    have h2:=h.len
    omega
   obtain⟨b,o,e,_,hl,hc⟩:=(h.mv (Mv.alloc w (.cells #[] 94) S)).has hpos;injection e with e
   subst e;rw[Yt];exact hc j u hu
  have hl:=hid h.len
  clear h;go_enter gz,gg;go_wp2_with (at_builtin;refine wpList_append_own_at _ rfl _ _ 89 rfl w.heap.size 94 i0 _ 1 8 dd hi hz0 hz1 hz2 rfl (by decide) _ 0 [] rfl (Mq w _ _) ad n c vs rfl hl.out hcells.out hone (by unfold maxLen;omega) (by omega) (by simp) ?_)
  intro v2 w2 hO hG hnil _
  have hB2:Below w.heap.size w w2:=⟨hG.os,hG.tape,hG.output,ao (by simp) hG.size,λk hk=>(hG.block k (by simp;omega) (λe=>by simp[bp]at e;omega)).trans (Below.heap_alloc w _ k hk)⟩
  obtain⟨A2,c2,rfl,_⟩:=Sl.E8 hO
  have hF:=hid (show w2.ownsRow w.heap.size 94 1 (.slice A2 n c2) n vs/\Below w.heap.size w w2 from⟨hO,hB2⟩)
  clear hO hG hnil hB2 hcells;go_wp2;go_ret;exact⟨A2,c2,rfl,hF.out.1,hF.out.2⟩
theorem Yre:(ai.info? 96).map (λi=>(i.zero,i.size,i.bytes))=some (some (.pointer none),1,8):=by kernel_rfl
end
theorem Ybb(h:Row Y9 1 w S A n c L)(hn:n<=1000)(hL:∀x∈L,x.length<=1000):
  Calls ai 89 #[.slice A n c,.func (.func 88) #[] #[]] w (Told Y9 9 1 w L):=by
 obtain⟨vs,hvs,hS⟩:=h.Yrc (G:=Wa) λ_ _ _ _ e=>e
 have hlen:=hid h.len
 have hvl:Hid (vs.length=n*1):=hid hS.len
 have hone:∀u∈vs,u.oneCell'=true:=by
  subst hvs;intro u hu;obtain⟨x,_,rfl⟩:=dw.1 hu;rfl
 have HC:=hid (Yit hS hone hn)
 have HR:Hid (Row Y9 1 w (λb=>S b/\b<w.heap.size) A n c L):=hid (h.mv Ys (Mv.to w λb hb hl=>⟨hb,hl⟩))
 have HS:∀b,(S b/\b<w.heap.size)->b<w.heap.size:=λb hb=>hb.2
 have HL:=hid hL
 have hnm:=h.Ym
 clear h hS hone hL hvs;go_enter Tryz.func89,Tryz.ntmps89;go_wp2_with fail;refine HC.out.mono ?_;rintro e w1 ⟨Ac,cc,rfl,hO,hB1⟩
 have hM:=hid (Zu.begin (E:=Y9) (S:=λb=>w.heap.size<=b) hO hlen.out)
 clear hO HC;go_wp2_with fail;go_loopw [12] (λi wr=>∃k:Nat,k<=n/\i=.int .i64 k/\Hid (Zu Y9 9 1 wr w.heap.size (λb=>w.heap.size<=b) (.slice Ac n cc) n L vs k)/\Below w.heap.size w wr) (λi _=>n-(intOf i).toNat)
 case atStart=>exact⟨0,ar _,rfl,hM,hB1⟩
 case round=>
  obtain⟨k,hk,rfl,hO,hB⟩:=hrel
  by_cases hlt:k<n
  ·obtain⟨b,o,us,x,rfl,_,_,_,hcell,hx,he⟩:=(HR.out.mv Ys (Mv.below hB HS)).at_ hlt
   have hx:us=[Wa x]:=hx
   subst hx
   have g0:wr.cell? ⟨b,o+k,none⟩=some (.string ⟨x.toArray⟩):=by
    have:=hcell 0 _ rfl
    rwa [cj,ig]at this
   obtain⟨g,cg,eg⟩:=hO.out.form (by omega)
   injection eg with eg1 eg2 eg3
   subst eg1 eg3
   have i0:(0:Int)<=(k:Int):=by omega
   have i1:(k:Int)<(n:Int):=by omega
   have HX:=hid (L4 ⟨x.toArray⟩ wr (by
    have:=HL.out x (ae he.out)
    show x.toArray.size<=_
    simp;omega))
   clear hcell;go_wp2_with fail;refine HX.out.mono ?_;rintro e w5 ⟨rfl,hb5⟩
   have hO5:=hO.out.below Ys hb5
   obtain⟨y,hy⟩: ∃y,vs[k]?=some y:=⟨_,aa (by rw[hvl.out];omega)⟩
   have c0:w5.cell? ⟨g,k,none⟩=some y:=(hO5.old (j:=k) (by omega) (by omega)).trans hy
   have f0:=hO5.free k
   have hgl:=(hO5.lt g rfl).1
   have hF:=hid (show Zu Y9 9 1 (w5.setCell ⟨g,k,none⟩ (.string ⟨x.toArray⟩)) w.heap.size (λb=>w.heap.size<=b) (.slice (some ⟨g,0,none⟩) n cc) n L vs (k+1)/\Below w.heap.size w (w5.setCell ⟨g,k,none⟩ (.string ⟨x.toArray⟩))from⟨hO5.Yl2 Ys (by rw[hvl.out,cj]) he.out rfl,(hB.trans (hb5.mono hB.size)).setCell (p:=⟨g,k,none⟩) hgl _⟩)
   clear hO5 hO hB hb5 HX hy;go_wp2_with fail;go_roundw
   case rel=>exact⟨k+1,by omega,by go_num,hid hF.out.1,hF.out.2⟩
   case measure=>simp[intOf];omega
  ·have hF:=hid (show Yx Y9 9 1 wr w.heap.size (λb=>w.heap.size<=b) (.slice Ac n cc) L/\Below w.heap.size w wr from⟨hO.out.end_ (by omega) hvl.out,hB⟩)
   clear hO hB;go_wp2_with fail;go_ret;exact⟨_,rfl,hF.out.1,hF.out.2⟩
theorem Yje{L:List (List Int)}(h:Row (Zz Yy 1) 1 w S A n c L):∃vs,Sl w S A n c 1 vs/\∀u∈vs,u.oneCell'=true:=by
 obtain⟨h0,vs,h1,h2⟩:=h;refine⟨vs,h1,λu hu=>?_⟩
 obtain⟨i,hi⟩:=af hu
 have hil:=(ag.1 hi).1
 have hlen:=h1.len
 obtain⟨A',n',c',e,_⟩:=h2 i _ (aa (by omega))
 have e2:=congrArg (λl=>l[0]?) e
 simp only[cj,List.getElem?_take,fg,Nat.lt_one_iff,if_true,ig,List.getElem?_cons_zero]at e2;rw[hi]at e2;injection e2 with e2
 rw[e2];rfl
theorem Yn0{L:List (List Int)}(h:Row (Zz Yy 1) 1 w S A n c L)(hn:n<=1000)(hL:∀x∈L,x.length<=1000):
  Calls ai 90 #[.slice A n c,.func (.func 91) #[] #[]] w (Told (Vy Yy 3 1) 47 1 w L):=by
 obtain⟨vs,hS,hone⟩:=Yje h
 have hlen:=hid h.len
 have hvl:Hid (vs.length=n*1):=hid hS.len
 have HC:=hid (Yjr hS hone hn)
 have HR:Hid (Row (Zz Yy 1) 1 w (λb=>S b/\b<w.heap.size) A n c L):=hid (h.mv (Wb Yh) (Mv.to w λb hb hl=>⟨hb,hl⟩))
 have HS:∀b,(S b/\b<w.heap.size)->b<w.heap.size:=λb hb=>hb.2
 have HL:=hid hL
 have hnm:=h.Ym
 clear h hS hone hL;go_enter Tryz.func90,Tryz.ntmps90;go_wp2_with fail;refine HC.out.mono ?_;rintro e w1 ⟨Ac,cc,rfl,hO,hB1⟩
 have hM:=hid (Zu.begin (E:=Vy Yy 3 1) (S:=λb=>w.heap.size<=b) hO hlen.out)
 clear hO HC;go_wp2_with fail;go_loopw [12] (λi wr=>∃k:Nat,k<=n/\i=.int .i64 k/\Hid (Zu (Vy Yy 3 1) 47 1 wr w.heap.size (λb=>w.heap.size<=b) (.slice Ac n cc) n L vs k)/\Below w.heap.size w wr) (λi _=>n-(intOf i).toNat)
 case atStart=>exact⟨0,ar _,rfl,hM,hB1⟩
 case round=>
  obtain⟨k,hk,rfl,hO,hB⟩:=hrel
  by_cases hlt:k<n
  ·obtain⟨b,o,A',n',c',x,rfl,_,_,g0,hl,he⟩:=(HR.out.mv (Wb Yh) (Mv.below hB HS)).at1 hlt
   obtain⟨g,cg,eg⟩:=hO.out.form (by omega)
   injection eg with eg1 eg2 eg3
   subst eg1 eg3
   have i0:(0:Int)<=(k:Int):=by omega
   have i1:(k:Int)<(n:Int):=by omega
   have HX:=hid (Tt hl.Ux (by
    have:=HL.out x (ae he.out)
    have:=hl.len
    omega))
   clear hl;go_wp2_with fail;refine HX.out.mono ?_;rintro e w5 ⟨⟨v,rfl,hv⟩,hb5⟩
   have hO5:=hO.out.below (Z0 Yh) hb5
   have hlo:=hO.out.lt
   have hz:=hB.size
   have hE:=Yx.el Yh (hv.Bb (S:=λk=>wr.heap.size<=k)) (u:=.slice (some ⟨g,0,none⟩) n cc) (λk e=>(hlo k e).2) hz
   obtain⟨Av,cv,rfl,_⟩:=hv.form;obtain⟨y,hy⟩: ∃y,vs[k]?=some y:=⟨_,aa (by rw[hvl.out];omega)⟩
   have c0:w5.cell? ⟨g,k,none⟩=some y:=(hO5.old (j:=k) (by omega) (by omega)).trans hy
   have f0:=hO5.free k
   have hgl:=(hO5.lt g rfl).1
   have hF:=hid (show Zu (Vy Yy 3 1) 47 1 (w5.setCell ⟨g,k,none⟩ (.slice Av x.length cv)) w.heap.size (λb=>w.heap.size<=b) (.slice (some ⟨g,0,none⟩) n cc) n L vs (k+1)/\Below w.heap.size w (w5.setCell ⟨g,k,none⟩ (.slice Av x.length cv))from⟨hO5.Yl2 (Z0 Yh) (by rw[hvl.out,cj]) he.out hE,(hB.trans (hb5.mono hB.size)).setCell (p:=⟨g,k,none⟩) hgl _⟩)
   clear hO5 hO hB hb5 HX hy hv hE hlo;go_wp2_with fail;go_roundw
   case rel=>exact⟨k+1,by omega,by go_num,hid hF.out.1,hF.out.2⟩
   case measure=>simp[intOf];omega
  ·have hF:=hid (show Yx (Vy Yy 3 1) 47 1 wr w.heap.size (λb=>w.heap.size<=b) (.slice Ac n cc) L/\Below w.heap.size w wr from⟨hO.out.end_ (by omega) hvl.out,hB⟩)
   clear hO hB;go_wp2_with fail;go_ret;exact⟨_,rfl,hF.out.1,hF.out.2⟩
abbrev Sa:ElT Yk:=U4 Y9 1 (Vy Y9 9 1)
theorem Xh:Sa.Ok:=Wu Ys (Z0 Ys)
theorem Yhd{d:Yk}(h:Sa w S us d):N0 w S us d:=⟨h.1,Rg Ys (λ_ _ h=>h) h.2⟩
theorem Ynu{L:List Yk}(h:Row N0 2 w S A n c L):∃vs,Sl w S A n c 2 vs/\∀u∈vs,u.oneCell'=true:=by
 obtain⟨h0,vs,h1,h2⟩:=h;refine⟨vs,h1,λu hu=>?_⟩
 obtain⟨i,hi⟩:=af hu
 have hil:=(ag.1 hi).1
 have hlen:=h1.len
 obtain⟨h3,A',n',c',h4,_⟩:=h2 (i/2) _ (aa (by omega))
 have e3:((vs.drop (i/2*2)).take 2).take 1=[Wa _]:=h3
 have e1:=congrArg (λl=>l[0]?) e3
 have e2:=congrArg (λl=>l[0]?) h4
 simp at e1 e2
 rcases Nat.mod_two_eq_zero_or_one i with h|h
 ·have:i/2*2=i:=by omega
  rw[this,hi]at e1;injection e1 with e1
  rw[e1];rfl
 ·have:i/2*2+1=i:=by omega
  rw[this,hi]at e2;injection e2 with e2
  rw[e2];rfl
theorem Yn6:(ai.info? 75).map (·.size)=some 2:=by kernel_rfl
def Ytf(w:World)(d:Yk)(e:Ending)(w':World):Prop:=
 ∃A n c,e=.returned (.agg #[.string ⟨d.1.toArray⟩,.slice A n c])/\Sa w' (λk=>w.heap.size<=k) [.string ⟨d.1.toArray⟩,.slice A n c] d/\Below w.heap.size w w'
theorem Yfm(h:Row Y9 1 w S A n c L)(hn:n<=1000)(hx:x.length<=1000)(hL:∀s∈L,s.length<=1000):
  Calls ai 87 #[.agg #[.string ⟨x.toArray⟩,.slice A n c]] w (Ytf w (x,L)):=by
 have hb0:=(Yb w (.cells #[.string ⟨x.toArray⟩,.slice A n c] 75))
 have hb1:=Ya hb0 (Yb (w.alloc (.cells #[.string ⟨x.toArray⟩,.slice A n c] 75)) (.cells #[.string ⟨#[]⟩,.slice none 0 0] 75))
 have hbl:=(Block.new w 75 #[.string ⟨x.toArray⟩,.slice A n c]).alloc (.cells #[.string ⟨#[]⟩,.slice none 0 0] 75)
 have hbr:=Block.new (w.alloc (.cells #[.string ⟨x.toArray⟩,.slice A n c] 75)) 75 #[.string ⟨#[]⟩,.slice none 0 0]
 have hq1:=hid (h.mv Ys (Mv.Yc hb1 S))
 have hsz:(w.alloc (.cells #[.string ⟨x.toArray⟩,.slice A n c] 75)).heap.size=w.heap.size+1:=by simp
 have HN:=hid hn
 have HL:=hid hL
 have HXl:Hid ((⟨x.toArray⟩:ByteArray).size<=281474976710656):=hid (by show x.toArray.size<=_;simp;omega)
 clear h hb0 hn hL;go_enter Tryz.func87,Tryz.ntmps87;go_wp2_with fail;rw[hsz]at hbr;generalize (w.alloc (.cells #[.string ⟨x.toArray⟩,.slice A n c] 75)).alloc (.cells #[.string ⟨#[]⟩,.slice none 0 0] 75)=W at hb1 hbl hbr hq1⊢;clear hsz
 have K:Hid (∀y,Below W.heap.size W y->y.cell? ⟨w.heap.size,0,none⟩=some (.string ⟨x.toArray⟩)/\y.cell? ⟨w.heap.size,1,none⟩=some (.slice A n c)):=hid λy hy=>⟨(hbl.below hy hbl.lt).cell 0,(hbl.below hy hbl.lt).cell 1⟩
 have k0:W.cell? ⟨w.heap.size,0,none⟩=some (.string ⟨x.toArray⟩):=hbl.cell 0
 have k1:W.cell? ⟨w.heap.size,1,none⟩=some (.slice A n c):=hbl.cell 1
 have HbR:=hid hbr
 have HR:=hid (λy (hy:Below W.heap.size W y)=>hbr.below hy hbr.lt)
 have HW:=hid hb1.size
 have HC:=hid (L4 ⟨x.toArray⟩ W.drew HXl.out)
 clear hbl hbr;go_region_held3 (λw'=>w'.cell? ⟨w.heap.size,0,none⟩=some (.string ⟨x.toArray⟩)/\w'.cell? ⟨w.heap.size,1,none⟩=some (.slice A n c))
  (first
   |go_keep
   |exact K.out _ hBB2
   |exact K.out _ hBB1)
  (first
   |(go_at_call 88;refine HC.out.mono ?_;rintro e w1 ⟨rfl,hB1⟩;have hBB1:Below W.heap.size W w1:=((below_drewN (Below.refl _ W) 1).trans hB1))
   |(go_at_call 89;refine(Ybb (hq1.out.mv Ys (Mv.Yc hBB1 S)) HN.out HL.out).mono ?_;rintro e w2 ⟨v2,rfl,hO2,hB2⟩;obtain⟨B2,d2,rfl⟩:=hO2.shape;have hBB2:=hBB1.trans (hB2.mono hBB1.size);have hr2:=HR.out _ hBB2;have d0:w2.cell? ⟨w.heap.size+1,0,none⟩=some (.string ⟨#[]⟩):=hr2.cell 0;have d1':w2.cell? ⟨w.heap.size+1,1,none⟩=some (.slice none 0 0):=hr2.cell 1;have f0:=hr2.free 0;have f1:=hr2.free 1))
 have hr2':=HR.out _ hBB2
 have hlt:=HbR.out.lt
 have hns:¬W.heap.size<=w.heap.size+1:=by omega
 have e2:Vy Y9 9 1 w2 (λk=>W.heap.size<=k) [.slice B2 L.length d2] L:=Z0 Ys _ _ _ _ _ _ (Mv.to w2 λb hb _=>ao hBB1.size hb) (⟨_,rfl,hO2.low (ar _),λk hk=>(hO2.lt k hk).1⟩)
 have m2:=Mv.trans (Mv.set w2 (w.heap.size+1) 0 (.string ⟨x.toArray⟩) hns) (Mv.set (w2.setCell ⟨w.heap.size+1,0,none⟩ (.string ⟨x.toArray⟩)) (w.heap.size+1) 1 (.slice B2 L.length d2) hns)
 have m3:=Mv.trans m2 (Mv.to _ (S':=λk=>w.heap.size<=k) λb hb _=>ao HW.out hb)
 have hF:=hid (show Sa ((w2.setCell ⟨w.heap.size+1,0,none⟩ (.string ⟨x.toArray⟩)).setCell ⟨w.heap.size+1,1,none⟩ (.slice B2 L.length d2)) (λk=>w.heap.size<=k) [.string ⟨x.toArray⟩,.slice B2 L.length d2] (x,L)from⟨rfl,Z0 Ys _ _ _ _ _ _ m3 e2⟩)
 have hG:=hid (((hb1.trans (hBB2.mono hb1.size)).setCell (p:=⟨w.heap.size+1,0,none⟩) (df _) (.string ⟨x.toArray⟩)).setCell (p:=⟨w.heap.size+1,1,none⟩) (df _) (.slice B2 L.length d2))
 have hR:=hid ((hr2'.Yz 0 (.string ⟨x.toArray⟩)).Yz 1 (.slice B2 L.length d2))
 clear e2 m2 m3 hO2 hB1 hB2 hBB1 hBB2 hr2 hr2' d0 d1' f0 f1 K HR HbR hb1 k0 k1;go_wp2_with fail;refine bodyPost_ret (Zh rfl _ _ (w.heap.size+1) _ _ rfl hR.out Tryz.underlying75 rfl Yn6) rfl ?_;exact⟨B2,_,d2,rfl,hF.out,hG.out⟩
theorem Yks(w:World)(x y:Value):Block (w.alloc (.cells #[x,y] 75)) w.heap.size 75 #[x,y]:=Block.new w _ _
def Ypo(d:Yk):Prop:=d.1.length<=1000/\d.2.length<=1000/\∀s∈d.2,s.length<=1000
theorem Row.atD{L:List Yk}(h:Row N0 2 w S A n c L){k:Nat}(hk:k<n):∃b o A' n' c' x l,A=some ⟨b,o,none⟩∧w.cell? ⟨b,o+k*2,none⟩=some (.string ⟨x.toArray⟩)/\w.cell? ⟨b,o+k*2+1,none⟩=some (.slice A' n' c')/\Row Y9 1 w S A' n' c' l/\Hid (L[k]?=some (x,l)):=by
 obtain⟨b,o,us,d,e,_,_,h4,hc,⟨h5,A',n',c',h6,hr⟩,he⟩:=h.at_ hk
 match us,h4 with
 |[u0,u1],_=>
  simp only[fc,ft,ff,fu,Y9,List.cons.injEq,and_true]at h5 h6;subst h5 h6;exact⟨b,o,A',n',c',d.1,d.2,e,hc 0 _ rfl,hc 1 _ rfl,hr,he⟩
theorem Yoo{L:List Yk}(h:Row N0 2 w S A n c L)(hn:n<=1000)(hL:∀d∈L,Ypo d):
  Calls ai 86 #[.slice A n c,.func (.func 87) #[] #[]] w (Told Sa 75 2 w L):=by
 obtain⟨vs,hS,hone⟩:=Ynu h
 have hlen:=hid h.len
 have hvl:Hid (vs.length=n*2):=hid hS.len
 have HC:=hid (Yi3 hS hone hn)
 have HR:Hid (Row N0 2 w (λb=>S b/\b<w.heap.size) A n c L):=hid (h.mv Vw (Mv.to w λb hb hl=>⟨hb,hl⟩))
 have HS:∀b,(S b/\b<w.heap.size)->b<w.heap.size:=λb hb=>hb.2
 have HL:=hid hL
 have hnm:=h.Ym
 clear h hS hone hL;go_enter Tryz.func86,Tryz.ntmps86;go_wp2_with fail;refine HC.out.mono ?_;rintro e w1 ⟨Ac,cc,rfl,hO,hB1⟩
 have hM:=hid (Zu.begin (E:=Sa) (S:=λb=>w.heap.size<=b) hO hlen.out)
 clear hO HC;go_wp2_with fail;go_loopw [12] (λi wr=>∃k:Nat,k<=n/\i=.int .i64 k/\Hid (Zu Sa 75 2 wr w.heap.size (λb=>w.heap.size<=b) (.slice Ac n cc) n L vs k)/\Below w.heap.size w wr) (λi _=>n-(intOf i).toNat)
 case atStart=>exact⟨0,ar _,rfl,hM,hB1⟩
 case round=>
  obtain⟨k,hk,rfl,hO,hB⟩:=hrel
  by_cases hlt:k<n
  ·obtain⟨b,o,A',n',c',x,l,rfl,g0,g1,hl,he⟩:=(HR.out.mv Vw (Mv.below hB HS)).atD hlt
   obtain⟨g,cg,eg⟩:=hO.out.form (by omega)
   injection eg with eg1 eg2 eg3
   subst eg1 eg3
   have i0:(0:Int)<=(k:Int):=by omega
   have i1:(k:Int)<(n:Int):=by omega
   obtain⟨s1,s2,s3⟩:=HL.out (x,l) (ae he.out)
   have hb0:=Yb wr (.cells #[.string ⟨x.toArray⟩,.slice A' n' c'] 75)
   have hbl:=Yks wr (.string ⟨x.toArray⟩) (.slice A' n' c')
   have HX:=hid (Yfm (hl.mv Ys (Mv.Yc hb0 _)) (by have:=hl.len;have:l.length<=1000:=s2;omega) s1 s3)
   have hO0:=hid (hO.out.below Xh hb0)
   have hB0:=hB.trans (hb0.mono hB.size)
   have d0:=hbl.cell 0
   have d1:=hbl.cell 1
   have hlo:=hO.out.lt
   have hz:=hB.size
   clear hl s1 s2 s3 hO hB;go_wp2_with fail;generalize wr.alloc (.cells #[.string ⟨x.toArray⟩,.slice A' n' c'] 75)=W at hb0 hbl HX hO0 hB0 d0 d1⊢;go_wp2_with fail;refine HX.out.mono ?_;rintro e w5 ⟨Av,nv,cv,rfl,hv,hb5⟩
   have hO5:=hO0.out.below Xh hb5
   have hE:Sa w5 (λb=>w.heap.size<=b/\(ch (some ⟨g,0,none⟩) n cc).ownBlock≠some b) [.string ⟨x.toArray⟩,.slice Av nv cv] (x,l):=Xh _ _ _ _ _ _ (Mv.to w5 λb hb _=>⟨ao hB0.size hb,λe=>by have:=(hlo b e).2;have:=hb0.size;omega⟩) hv
   obtain⟨y,hy⟩: ∃y,vs[k*2]?=some y:=⟨_,aa (by rw[hvl.out];omega)⟩
   obtain⟨y',hy'⟩: ∃y,vs[k*2+1]?=some y:=⟨_,aa (by rw[hvl.out];omega)⟩
   have c0:w5.cell? ⟨g,k*2,none⟩=some y:=(hO5.old (j:=k*2) (by omega) (by omega)).trans hy
   have c1:w5.cell? ⟨g,k*2+1,none⟩=some y':=(hO5.old (j:=k*2+1) (by omega) (by omega)).trans hy'
   have f0:=hO5.free (k*2)
   have f1:=hO5.free (k*2+1)
   have hgl:=(hO5.lt g rfl).1
   have hF:=hid (show Zu Sa 75 2 ((w5.setCell ⟨g,k*2,none⟩ (.string ⟨x.toArray⟩)).setCell ⟨g,k*2+1,none⟩ (.slice Av nv cv)) w.heap.size (λb=>w.heap.size<=b) (.slice (some ⟨g,0,none⟩) n cc) n L vs (k+1)/\Below w.heap.size w ((w5.setCell ⟨g,k*2,none⟩ (.string ⟨x.toArray⟩)).setCell ⟨g,k*2+1,none⟩ (.slice Av nv cv))from⟨hO5.Yu9 Xh hvl.out he.out hE,((hB0.trans (hb5.mono hB0.size)).setCell (p:=⟨g,k*2,none⟩) hgl _).setCell (p:=⟨g,k*2+1,none⟩) hgl _⟩)
   clear hO5 hO0 hB0 hb5 HX hy hy' hv hE hlo hb0 hbl;go_wp2_with fail;go_roundw
   case rel=>exact⟨k+1,by omega,by go_num,hid hF.out.1,hF.out.2⟩
   case measure=>simp[intOf];omega
  ·have hF:=hid (show Yx Sa 75 2 wr w.heap.size (λb=>w.heap.size<=b) (.slice Ac n cc) L/\Below w.heap.size w wr from⟨hO.out.end_ (by omega) hvl.out,hB⟩)
   clear hO hB;go_wp2_with fail;go_ret;exact⟨_,rfl,hF.out.1,hF.out.2⟩
/-! ### a schema's copy -/
structure Yqm (D:List Yk) (M:List Txt) (V:List (List Int)):Prop where
 d:D.length<=1000/\∀d∈D,Ypo d
 m:M.length<=1000/\∀s∈M,s.length<=1000
 v:V.length<=1000/\∀v∈V,v.length<=1000
theorem R1(h:Wk D M V):Yqm D M V:=by
 obtain⟨⟨h1,h2⟩,h3,h4⟩:=h
 have nm:∀s:Txt,Z6 s->s.length<=1000:=λs hs=>by have:=hs.2.1;omega
 refine⟨⟨?_,λd hd=>⟨?_,?_,λs hs=>nm s ((h1 d hd).2.2.1 s hs)⟩⟩,⟨?_,λs hs=>nm s (h3.2.2.1 s hs)⟩,?_,λv hv=>?_⟩
 ·have:=h2.2.1;rw[aq]at this;omega
 ·exact nm _ (h2.2.2.1 _ (dw.2 ⟨d,hd,rfl⟩))
 ·have:=(h1 d hd).2.1;omega
 ·have:=h3.2.1;omega
 ·have:=h4.1;omega
 ·have h5:=(h4.2.1 v hv).1
  have h6:=h2.2.1
  rw[aq]at h6;omega
structure Yf4 (w:World) (B:Nat) (v1 v2 v3:Value) (D:List Yk) (M:List Txt) (V:List (List Int)):Prop where
 d:Yx Sa 75 2 w B (λk=>B<=k) v1 D
 m:Yx Y9 9 1 w B (λk=>B<=k) v2 M
 v:Yx (Vy Yy 3 1) 47 1 w B (λk=>B<=k) v3 V
theorem Row.imp{α:Type}{E E':ElT α}{L:List α}(h:Row E sz w S A n c L)(hE:∀us x,E w S us x->E' w S us x):Row E' sz w S A n c L:=h.map hE
theorem Yf4.read{v1 v2 v3:Value}(h:Yf4 w B v1 v2 v3 D M V):∃A1 c1 A2 c2 A3 c3,v1=.slice A1 D.length c1/\v2=.slice A2 M.length c2/\v3=.slice A3 V.length c3/\Vr w (λk=>B<=k/\k<w.heap.size) A1 D.length c1 A2 M.length c2 A3 V.length c3 D M V:=by
 obtain⟨A1,c1,rfl,h1⟩:=h.d.read Xh;obtain⟨A2,c2,rfl,h2⟩:=h.m.read Ys;obtain⟨A3,c3,rfl,h3⟩:=h.v.read (Z0 Yh)
 have up:∀{v:Value},Mv w (λk=>(B<=k)∨(B<=k/\v.ownBlock=some k)) w (λk=>B<=k/\k<w.heap.size):=λ{v}=>Mv.to w λb hb hl=>⟨by rcases hb with hb|hb;exact hb;exact hb.1,hl⟩
 exact⟨A1,c1,A2,c2,A3,c3,rfl,rfl,rfl,(h1.mv Xh up).imp λ_ _ h=>Yhd h,h2.mv Ys up,(h3.mv (Z0 Yh) up).imp λ_ _ h=>Rg Yh (λ_ _ h=>h) h⟩
theorem Ygv:(ai.info? 26).map (·.size)=some 3:=by kernel_rfl
def Ypp(w:World)(D:List Yk)(M:List Txt)(V:List (List Int))(e:Ending)(w':World):Prop:=(∃v1 v2 v3,e=.returned (.agg #[v1,v2,v3])/\Yf4 w' w.heap.size v1 v2 v3 D M V)/\Below w.heap.size w w'
theorem Cp{c1 c2 c3:Nat}(h:Vr w R A1 n1 c1 A2 n2 c2 A3 n3 c3 D M V)(hs:Yqm D M V):
  Calls ai 41 #[Si A1 n1 c1 A2 n2 c2 A3 n3 c3] w (Ypp w D M V):=by
 have hb0:=(Yb w (.cells #[.slice A1 n1 c1,.slice A2 n2 c2,.slice A3 n3 c3] 26))
 have hb1:=Ya hb0 (Yb (w.alloc (.cells #[.slice A1 n1 c1,.slice A2 n2 c2,.slice A3 n3 c3] 26)) (.cells #[.slice none 0 0,.slice none 0 0,.slice none 0 0] 26))
 have hbl:=(Block.new w 26 #[.slice A1 n1 c1,.slice A2 n2 c2,.slice A3 n3 c3]).alloc (.cells #[.slice none 0 0,.slice none 0 0,.slice none 0 0] 26)
 have hbr:=Block.new (w.alloc (.cells #[.slice A1 n1 c1,.slice A2 n2 c2,.slice A3 n3 c3] 26)) 26 #[.slice none 0 0,.slice none 0 0,.slice none 0 0]
 have hq1:=hid (h.Yc hb1)
 have hsz:(w.alloc (.cells #[.slice A1 n1 c1,.slice A2 n2 c2,.slice A3 n3 c3] 26)).heap.size=w.heap.size+1:=by simp
 have HS:=hid hs
 have l1:=h.d.len
 have l2:=h.m.len
 have l3:=h.v.len
 have Hl1:Hid (n1<=1000/\n2<=1000/\n3<=1000):=hid (by have:=hs.d.1;have:=hs.m.1;have:=hs.v.1;omega)
 clear h hb0 hs l1 l2 l3;go_enter Tryz.func41,Tryz.ntmps41;go_wp2_with fail;rw[hsz]at hbr;generalize (w.alloc (.cells #[.slice A1 n1 c1,.slice A2 n2 c2,.slice A3 n3 c3] 26)).alloc (.cells #[.slice none 0 0,.slice none 0 0,.slice none 0 0] 26)=W at hb1 hbl hbr hq1⊢;clear hsz
 have K:Hid (∀y,Below W.heap.size W y->y.cell? ⟨w.heap.size,0,none⟩=some (.slice A1 n1 c1)/\y.cell? ⟨w.heap.size,1,none⟩=some (.slice A2 n2 c2)/\y.cell? ⟨w.heap.size,2,none⟩=some (.slice A3 n3 c3)):=hid λy hy=>⟨(hbl.below hy hbl.lt).cell 0,(hbl.below hy hbl.lt).cell 1,(hbl.below hy hbl.lt).cell 2⟩
 have k0:W.cell? ⟨w.heap.size,0,none⟩=some (.slice A1 n1 c1):=hbl.cell 0
 have k1:W.cell? ⟨w.heap.size,1,none⟩=some (.slice A2 n2 c2):=hbl.cell 1
 have k2:W.cell? ⟨w.heap.size,2,none⟩=some (.slice A3 n3 c3):=hbl.cell 2
 have HbR:=hid hbr
 have HR:=hid (λy (hy:Below W.heap.size W y)=>hbr.below hy hbr.lt)
 have HW:=hid hb1.size
 have HC:=hid (Yoo (hq1.out.d.mv Vw (Mv.drewN W 1 R)) Hl1.out.1 HS.out.d.2)
 clear hbl hbr;go_region_held3 (λw'=>w'.cell? ⟨w.heap.size,0,none⟩=some (.slice A1 n1 c1)/\w'.cell? ⟨w.heap.size,1,none⟩=some (.slice A2 n2 c2)/\w'.cell? ⟨w.heap.size,2,none⟩=some (.slice A3 n3 c3))
  (first
   |go_keep
   |exact K.out _ hBB3
   |exact K.out _ hBB2
   |exact K.out _ hBB1)
  (first
   |(go_at_call 86;refine HC.out.mono ?_;rintro e w1 ⟨v1,rfl,hO1,hB1⟩;obtain⟨B1,d1,rfl⟩:=hO1.shape;have hBB1:Below W.heap.size W w1:=((below_drewN (Below.refl _ W) 1).trans hB1))
   |(go_at_call 89;refine(Ybb (hq1.out.m.mv Ys (Mv.Yc hBB1 R)) Hl1.out.2.1 HS.out.m.2).mono ?_;rintro e w2 ⟨v2,rfl,hO2,hB2⟩;obtain⟨B2,d2,rfl⟩:=hO2.shape;have hBB2:=hBB1.trans (hB2.mono hBB1.size))
   |(go_at_call 90;refine(Yn0 (hq1.out.v.mv (Wb Yh) (Mv.Yc hBB2 R)) Hl1.out.2.2 HS.out.v.2).mono ?_;rintro e w3 ⟨v3,rfl,hO3,hB3⟩;obtain⟨B3,d3,rfl⟩:=hO3.shape;have hBB3:=hBB2.trans (hB3.mono hBB2.size);have hr3:=HR.out _ hBB3;have e0:w3.cell? ⟨w.heap.size+1,0,none⟩=some (.slice none 0 0):=hr3.cell 0;have e1':w3.cell? ⟨w.heap.size+1,1,none⟩=some (.slice none 0 0):=hr3.cell 1;have e2':w3.cell? ⟨w.heap.size+1,2,none⟩=some (.slice none 0 0):=hr3.cell 2;have f0:=hr3.free 0;have f1:=hr3.free 1;have f2:=hr3.free 2))
 have hr3':=HR.out _ hBB3
 have hlt:=HbR.out.lt
 have hns:¬W.heap.size<=w.heap.size+1:=by omega
 have q1:Yx Sa 75 2 w3 W.heap.size (λk=>W.heap.size<=k) (.slice B1 D.length d1) D:=Yx.below Xh (Yx.below Xh (show Yx Sa 75 2 w1 W.heap.size (λk=>W.heap.size<=k) (.slice B1 D.length d1) D from hO1) hB2) hB3
 have q2:Yx Y9 9 1 w3 W.heap.size (λk=>W.heap.size<=k) (.slice B2 M.length d2) M:=((hO2.low hBB1.size).to Ys λb hb _=>ao hBB1.size hb).below Ys hB3
 have q3:Yx (Vy Yy 3 1) 47 1 w3 W.heap.size (λk=>W.heap.size<=k) (.slice B3 V.length d3) V:=(hO3.low hBB2.size).to (Z0 Yh) λb hb _=>ao hBB2.size hb
 have st:∀{α:Type}{E:ElT α}{T:TypeId}{sz:Nat}{v:Value}{L:List α}{y:World}(i:Nat) (u:Value),E.Ok->Yx E T sz y W.heap.size (λk=>W.heap.size<=k) v L->Yx E T sz (y.setCell ⟨w.heap.size+1,i,none⟩ u) W.heap.size (λk=>W.heap.size<=k) v L:=λ{α}{E}{T}{sz}{v}{L}{y} i u hE hO=>hO.mv hE (λb hb hl=>⟨Below.heap_setCell _ _ _ _ (by
  show b≠w.heap.size+1
  rcases hb with hb|hb
  ·omega
  ·have:=(hO.lt b hb).1;omega),trivial⟩) (.inr ⟨w.heap.size+1,⟨rfl,rfl,rfl,by simp,λb _ hb=>Below.heap_setCell _ _ _ _ (λe=>hb (by rw[e]))⟩,λe=>by have:=(hO.lt _ e).1;omega⟩)
 have hF:=hid (show Yf4 (Ys2 w3 (w.heap.size+1) (.slice B1 D.length d1) (.slice B2 M.length d2) (.slice B3 V.length d3)) w.heap.size (.slice B1 D.length d1) (.slice B2 M.length d2) (.slice B3 V.length d3) D M V from
  ⟨((st 2 _ Xh (st 1 _ Xh (st 0 _ Xh q1))).low HW.out).to Xh λb hb _=>ao HW.out hb,((st 2 _ Ys (st 1 _ Ys (st 0 _ Ys q2))).low HW.out).to Ys λb hb _=>ao HW.out hb,((st 2 _ (Z0 Yh) (st 1 _ (Z0 Yh) (st 0 _ (Z0 Yh) q3))).low HW.out).to (Z0 Yh) λb hb _=>ao HW.out hb⟩)
 have hG:=hid ((((hb1.trans (hBB3.mono hb1.size)).setCell (p:=⟨w.heap.size+1,0,none⟩) (df _) (.slice B1 D.length d1)).setCell (p:=⟨w.heap.size+1,1,none⟩) (df _) (.slice B2 M.length d2)).setCell (p:=⟨w.heap.size+1,2,none⟩) (df _) (.slice B3 V.length d3))
 have hRR:=hid (((hr3'.Yz 0 (.slice B1 D.length d1)).Yz 1 (.slice B2 M.length d2)).Yz 2 (.slice B3 V.length d3))
 clear q1 q2 q3 st hO1 hO2 hO3 hB1 hB2 hB3 hBB1 hBB2 hBB3 hr3 hr3' e0 e1' e2' f0 f1 f2 K HR HbR HC hb1 k0 k1 k2;go_wp2_with fail;refine bodyPost_ret (Zh rfl _ _ (w.heap.size+1) _ _ rfl hRR.out fi rfl Ygv) rfl ?_;exact⟨⟨_,_,_,rfl,hF.out⟩,hG.out⟩
section
section
variable {w w' : World}{ds:List DAt}{N:List Nat}{Qs:List (List Pth)}{vs:List CAt}{W m:Nat}{Cs:List Cub}
theorem Dcs.Zk(w:World):Dcs w [] [] []:=⟨rfl,trivial,λi d h=>by simp at h,λi j d e h=>by simp at h⟩
theorem Cbs.Zk(w:World)(W m:Nat):Cbs w [] W m []:=⟨rfl,λi d h=>by simp at h,λi j d e h=>by simp at h⟩
theorem V4{α:Type}{L:List α}{x y:α}{i:Nat}:(L++[x]).getD i y=if i=L.length then x else L.getD i y:=by
 rw[aj,aj]
 by_cases h:i<L.length
 ·rw[dq h,if_neg (by omega)]
 ·by_cases h2:i=L.length
  ·subst h2;simp
  ·rw[ee (by simp;omega),ee (by omega),if_neg h2]
theorem Xu{α:Type}{L:List α}{x y:α}{i:Nat}(h:(L++[x])[i]?=some y):(i<L.length/\L[i]?=some y)∨(i=L.length/\x=y):=by
 by_cases hi:i<L.length
 ·rw[dq hi]at h
  exact .inl ⟨hi,h⟩
 ·have h2:=(ag.1 h).1
  rw[dc,dz]at h2;obtain rfl:i=L.length:=by omega
  simp at h;exact .inr ⟨rfl,h⟩
theorem Dcs.snoc(h:Dcs w ds N Qs)(hb:Below w.heap.size w w'){d:DAt}{n:Nat}{Q:List Pth}(hd:Dc w' 0 d.1 d.2.1 d.2.2 n Q)(hf:∀k,Vc d k->w.heap.size<=k):Dcs w' (ds++[d]) (N++[n]) (Qs++[Q]):=by
 have hl:=h.len
 have hq:=h.Yml
 have hgl:=h.good.len
 refine⟨by simp[hl],Xw.of (by simp;omega) λi hi=>?_,λi e hi=>?_,λi j x y hi hj hij k hx hy=>?_⟩
 ·rw[V4,V4,hgl]
  split
  ·exact hd.good
  ·refine h.good.get ?_
   rw[dc,dz]at hi;omega
 ·rw[V4,V4,hgl]
  rcases Xu hi with⟨h1,h2⟩|⟨h1,rfl⟩
  ·rw[if_neg (by omega),if_neg (by omega)]
   exact(h.at_ i e h2).below hb
  ·rw[if_pos (by omega),if_pos (by omega)]
   exact hd
 ·rcases Xu hi with⟨h1,h2⟩|⟨h1,rfl⟩
  ·rcases Xu hj with⟨h3,h4⟩|⟨h3,rfl⟩
   ·exact h.ne i j x y h2 h4 hij k hx hy
   ·have:=h.lt (ae h2) hx;have:=hf k hy;omega
  ·rcases Xu hj with⟨h3,h4⟩|⟨h3,rfl⟩
   ·have:=h.lt (ae h4) hy;have:=hf k hx;omega
   ·omega
theorem Cbs.snoc(h:Cbs w vs W m Cs)(hb:Below w.heap.size w w'){c:CAt}{C:Cub}(hd:Cb w' c.1 c.2 W m C)(hf:∀k,Ui c k->w.heap.size<=k):Cbs w' (vs++[c]) W m (Cs++[C]):=by
 have hl:=h.len
 refine⟨by simp[hl],λi e hi=>?_,λi j x y hi hj hij k hx hy=>?_⟩
 ·rw[V4]
  rcases Xu hi with⟨h1,h2⟩|⟨h1,rfl⟩
  ·rw[if_neg (by omega)]
   exact(h.at_ i e h2).Yc hb
  ·rw[if_pos (by omega)]
   exact hd
 ·rcases Xu hi with⟨h1,h2⟩|⟨h1,rfl⟩
  ·rcases Xu hj with⟨h3,h4⟩|⟨h3,rfl⟩
   ·exact h.ne i j x y h2 h4 hij k hx hy
   ·have:=h.lt (ae h2) hx;have:=hf k hy;omega
  ·rcases Xu hj with⟨h3,h4⟩|⟨h3,rfl⟩
   ·have:=h.lt (ae h4) hy;have:=hf k hx;omega
   ·omega
theorem Dcs.Ylj(h:Dcs w ds N Qs){B size n' g c i:Nat}{e:TypeId}{xs:List Value}(hr:w.ownsRow B e size (.slice (some ⟨g,0,none⟩) n' c) n' xs)(h1:e≠160)(h2:e≠168)(u:Value):Dcs (w.setCell ⟨g,i,none⟩ u) ds N Qs:=
 h.chg (S:=λk=>k=g) ((Chg.refl _ w).Yz g i u λ_=>rfl) λd hd k hk e=>by
  obtain⟨j,hj⟩:=af hd;exact Tv hr (h.at_ j d hj) h1 h2 (k:=g) rfl (e▸hk)
theorem Cbs.Ylj(h:Cbs w vs W m Cs){B size n' g c i:Nat}{e:TypeId}{xs:List Value}(hr:w.ownsRow B e size (.slice (some ⟨g,0,none⟩) n' c) n' xs)(h1:e≠181)(u:Value):Cbs (w.setCell ⟨g,i,none⟩ u) vs W m Cs:=
 h.chg (S:=λk=>k=g) ((Chg.refl _ w).Yz g i u λ_=>rfl) λd hd k hk e=>by
  obtain⟨j,hj⟩:=af hd;exact Rb hr (h.at_ j d hj) h1 (k:=g) rfl (e▸hk)
end
theorem Yap{α:Type}{L:List α}(x:α)(h:k<L.length):L.take (k+1)=L.take k++[L.getD k x]:=by
 rw[fj,aa h,aj,aa h];rfl
def Yev(T:TypeId)(w:World)(B:Nat)(v:Value)(n:Nat)(old new:List Nat)(k:Nat):Prop:=new.length=k/\w.ownsRow B T 1 v n (new.map Wc++(old.map Wc).drop k)
theorem Yev.Yz{x:Nat}{old new:List Nat}(h:Yev T w B (.slice (some ⟨g,0,none⟩) n c) n old new k)(ho:old.length=n)(hk:k<n):Yev T (w.setCell ⟨g,k,none⟩ (Wc x)) B (.slice (some ⟨g,0,none⟩) n c) n old (new++[x]) (k+1):=by
 obtain⟨h1,h2⟩:=h
 have hs:=(br h2 k (Wc x)).1
 rw[Eu (by rw[aq,h1]) (by rw[aq];omega)]at hs
 exact⟨by simp[h1],by rw[fp];exact hs⟩
theorem Ypy(gs:List Nat):∀u∈gs.map Wc,u.oneCell'=true:=by
 intro u hu;obtain⟨x,_,rfl⟩:=dw.1 hu;rfl
def Yo4(w:World)(n:Nat)(N:List Nat)(Qs:List (List Pth))(e:Ending)(w':World):Prop:=
 (∃A c ds,e=.returned (.slice A n c)/\w'.ownsRow w.heap.size 94 1 (.slice A n c) n (ds.map λd=>Wc d.1)/\Dcs w' ds N Qs/\∀d∈ds,∀k,Vc d k->w.heap.size<=k)/\Below w.heap.size w w'
theorem Ylv{ds:List DAt}(hr:w.ownsRow 0 94 1 (.slice A n c) n (ds.map λd=>Wc d.1))(hd:Dcs w ds N Qs)(hn:n<=1000):
  Calls ai 47 #[.slice A n c,.func (.func 48) #[] #[]] w (Yo4 w n N Qs):=by
 have hmap:ds.map (λd=>Wc d.1)=(ds.map (·.1)).map Wc:=by rw[dj];rfl
 have hdl:ds.length=n:=by have:=hr.1;rw[aq]at this;omega
 rw[hmap]at hr;obtain⟨A',c',e,hS⟩:=Sl.E8 hr;injection e with e1 e2 e3
 subst e1 e3
 have hol:Hid ((ds.map (·.1)).length=n):=hid (by rw[aq];exact hdl)
 obtain⟨A2,c2,e,hle,hcm,hat⟩:=Jh (by rw[hol.out];exact hr)
 rw[hol.out]at e hle;injection e with e1 e2 e3
 subst e1 e3
 have HC:=hid (Yjd hS (Ypy _) hn)
 have HA:=hid hat
 have HD:=hid hd
 have hNl:=hd.len
 have hQl:=hd.Yml
 have hnm:n<=9223372036854775807:=by omega
 clear hS hr hat hd hcm;go_enter Tryz.func47,Tryz.ntmps47;go_wp2_with fail;refine HC.out.mono ?_;rintro e w1 ⟨Ac,cc,rfl,hO,hB1⟩
 have hM:Yev 94 w1 w.heap.size (.slice Ac n cc) n (ds.map (·.1)) [] 0:=⟨rfl,by simpa using hO⟩
 have HM:=hid (show ∃es:List DAt,Yev 94 w1 w.heap.size (.slice Ac n cc) n (ds.map (·.1)) (es.map (·.1)) 0/\Dcs w1 es (N.take 0) (Qs.take 0)/\∀d∈es,∀k,Vc d k->w.heap.size<=k from⟨[],hM,Dcs.Zk _,λd hd=>by simp at hd⟩)
 clear hO HC hM;go_wp2_with fail;go_loopw [12] (λi wr=>∃k:Nat,k<=n/\i=.int .i64 k/\Hid (∃es:List DAt,Yev 94 wr w.heap.size (.slice Ac n cc) n (ds.map (·.1)) (es.map (·.1)) k/\Dcs wr es (N.take k) (Qs.take k)/\∀d∈es,∀k,Vc d k->w.heap.size<=k)/\Below w.heap.size w wr) (λi _=>n-(intOf i).toNat)
 case atStart=>exact⟨0,ar _,rfl,HM,hB1⟩
 case round=>
  obtain⟨k,hk,rfl,hO,hB⟩:=hrel
  by_cases hlt:k<n
  ·obtain⟨es,hX,hE,hfe⟩:=hO.out
   obtain⟨d,hdk⟩: ∃d,Hid (ds[k]?=some d):=⟨_,hid (aa (by omega))⟩
   obtain⟨b,rfl,_,hbl,hcell⟩:=HA.out k d.1 (by rw[bg,hdk.out];rfl)
   have g0:wr.cell? ⟨b,k,none⟩=some (.pointer (some ⟨d.1,0,none⟩)):=(hB.cell (p:=⟨b,k,none⟩) hbl).trans hcell
   have hDk:=(HD.out.at_ k d hdk.out).below hB
   obtain⟨g,cg,eg⟩: ∃g cg,(.slice Ac n cc:Value)=.slice (some ⟨g,0,none⟩) n cg:=by
    rcases hX.2.2 with⟨e,e0⟩|⟨g,cap,cur,e,_⟩
    ·omega
    ·exact⟨g,cap,e⟩
   injection eg with eg1 eg2 eg3
   subst eg1 eg3
   have i0:(0:Int)<=(k:Int):=by omega
   have i1:(k:Int)<(n:Int):=by omega
   have HX:=hid (Ypw hDk)
   have hlo:=bs hX.2
   clear hDk hcell;go_wp2_with fail;refine HX.out.mono ?_;rintro e w5 ⟨g',pv',bm',rfl,hn',hb5⟩
   have hO5:=Xp hX.2 hb5
   have hE5:=hE.below hb5
   have hz:=hB.size
   have hz5:=hb5.size
   obtain⟨y,hy⟩: ∃y,((es.map (·.1)).map Wc++((ds.map (·.1)).map Wc).drop k)[k]?=some y:=⟨_,aa (by have:=hX.2.1;omega)⟩
   have c0:w5.cell? ⟨g,k,none⟩=some y:=(hO5.cellAt k (by omega)).trans hy
   have f0:=hO5.frozenAt k
   have hgl:=(hlo g rfl).1
   have hfd:∀q,Vc (g',pv',bm') q->wr.heap.size<=q:=λq hq=>(hn'.Jy hq).1
   have hS5:=hE.snoc hb5 (d:=(g',pv',bm')) (hn'.low (ar _)) hfd
   rw[<-Yap 0 (by omega),<-Yap [] (by omega)]at hS5
   have hF:=hid (show(∃es:List DAt,Yev 94 (w5.setCell ⟨g,k,none⟩ (.pointer (some ⟨g',0,none⟩))) w.heap.size (.slice (some ⟨g,0,none⟩) n cc) n (ds.map (·.1)) (es.map (·.1)) (k+1)/\Dcs (w5.setCell ⟨g,k,none⟩ (.pointer (some ⟨g',0,none⟩))) es (N.take (k+1)) (Qs.take (k+1))/\∀d∈es,∀k,Vc d k->w.heap.size<=k)/\Below w.heap.size w (w5.setCell ⟨g,k,none⟩ (.pointer (some ⟨g',0,none⟩)))from
    ⟨⟨es++[(g',pv',bm')],by rw[fp];exact Yev.Yz ⟨hX.1,hO5⟩ hol.out hlt,hS5.Ylj hO5 (by decide) (by decide) _,λd hd q hq=>by
     rcases da.1 hd with hd|hd
     ·exact hfe d hd q hq
     ·rw[ay.1 hd]at hq
      exact ao hz (hfd q hq)⟩,(hB.trans (hb5.mono hB.size)).setCell (p:=⟨g,k,none⟩) hgl _⟩)
   clear hO5 hO hB hb5 HX hy hX hE hfe hE5 hfd hS5 hn' hlo;go_wp2_with fail;go_roundw
   case rel=>exact⟨k+1,by omega,by go_num,hid hF.out.1,hF.out.2⟩
   case measure=>simp[intOf];omega
  ·have hF:=hid (show Yo4 w n N Qs (.returned (.slice Ac n cc)) wr from by
    obtain⟨es,hX,hE,hfe⟩:=hO.out;obtain rfl:k=n:=by omega
    have h2:=hX.2
    rw[dx (by rw[aq,hol.out];exact an _),fq,dj]at h2
    rw[au (by omega),au (by omega)]at hE
    exact⟨⟨Ac,cc,es,rfl,h2,hE,hfe⟩,hB⟩)
   clear hO hB;go_wp2_with fail;go_ret;exact hF.out
end
section
section
variable {w:World}{R F:Nat->Prop}{g:Nat}{D:List Yk}{M:List Txt}{V:List (List Int)}{Qs:List (List Pth)}{Cs:List Cub}{cnt:Int}
theorem Ybo(h:Lt w R g F D M V Qs Cs cnt):Calls ai 24 #[.pointer (some ⟨g,0,none⟩)] w λe w'=>e=.returned (.int .i64 cnt)/\w=w':=by
 obtain⟨dv,vv,ds,vs,A1,n1,c1,A2,n2,c2,A3,n3,c3,h1,h2,h3,h4⟩:=h
 have k5:=h1.c5
 clear h1 h2 h3 h4;go_enter Tryz.func24,Tryz.ntmps24;go_wp2;go_ret;exact⟨rfl,rfl⟩
theorem Co{vv:Value}{A:Option Addr}{n c:Nat}(hv:vv=.slice A n c)(k4:w.cell? ⟨g,4,none⟩=some vv)(v:Int){r:Bool}(hr:Hid (decide (0<=v/\v<(n:Int))=r)):Calls ai 54 #[.pointer (some ⟨g,0,none⟩),.int .i64 v] w λe w'=>e=.returned (.bool r)/\w=w':=by
 subst hv
 by_cases h0:0<=v
 ·by_cases h1:v<(n:Int)
  ·obtain rfl:r=true:=hr.out.symm.trans (decide_eq_true ⟨h0,h1⟩)
   clear hr;go_enter ei,du;go_wp2;go_ret;exact⟨rfl,rfl⟩
  ·obtain rfl:r=false:=hr.out.symm.trans (decide_eq_false λh=>h1 h.2)
   clear hr;go_enter ei,du;go_wp2;go_ret;exact⟨rfl,rfl⟩
 ·obtain rfl:r=false:=hr.out.symm.trans (decide_eq_false λh=>h0 h.1)
  clear hr;go_enter ei,du;go_wp2;go_ret;exact⟨rfl,rfl⟩
theorem LtM.Yd1{X1 X2 X3 dv vv:Value}{ds:List DAt}{vs:List CAt}{N:List Nat}{W m:Nat}(h:LtM w g X1 X2 X3 dv vv ds vs N Qs W m Cs cnt):∃A c,vv=.slice A Cs.length c/\vs.length=Cs.length/\∀i cc,vs[i]?=some cc->∃b,A=some ⟨b,0,none⟩∧vv.ownBlock=some b/\b<w.heap.size/\w.cell? ⟨b,i,none⟩=some (.pointer (some ⟨cc.1,0,none⟩)):=by
 have hl:=h.cbs.len
 have hr:=h.vr
 rw[show vs.map (λc=>Wc c.1)=(vs.map (·.1)).map Wc by rw[dj];rfl]at hr
 have e:(vs.map (·.1)).length=vs.length:=by rw[aq]
 rw[<-e]at hr;obtain⟨A,c,ev,_,_,hat⟩:=Jh hr;rw[e]at ev;refine⟨A,c,by rw[ev,hl],hl,λi cc hi=>?_⟩
 obtain⟨b,q1,q2,q3,q4⟩:=hat i cc.1 (by rw[bg,hi];rfl)
 exact⟨b,q1,q2,q3,q4⟩
theorem LtM.K5{X1 X2 X3 dv vv:Value}{ds:List DAt}{vs:List CAt}{N:List Nat}{W m:Nat}(h:LtM w g X1 X2 X3 dv vv ds vs N Qs W m Cs cnt):∃A c,dv=.slice A N.length c/\ds.length=N.length/\∀i d,ds[i]?=some d->∃b,A=some ⟨b,0,none⟩∧dv.ownBlock=some b/\b<w.heap.size/\w.cell? ⟨b,i,none⟩=some (.pointer (some ⟨d.1,0,none⟩)):=by
 have hl:=h.dcs.len
 have hr:=h.dr
 rw[show ds.map (λc=>Wc c.1)=(ds.map (·.1)).map Wc by rw[dj];rfl]at hr
 have e:(ds.map (·.1)).length=ds.length:=by rw[aq]
 rw[<-e]at hr;obtain⟨A,c,ev,_,_,hat⟩:=Jh hr;rw[e]at ev;refine⟨A,c,by rw[ev,hl],hl,λi cc hi=>?_⟩
 obtain⟨b,q1,q2,q3,q4⟩:=hat i cc.1 (by rw[bg,hi];rfl)
 exact⟨b,q1,q2,q3,q4⟩
theorem W8{D:List Yk}{M:List Txt}{V:List (List Int)}(h:Wk D M V):(Yg D V).length<=7:=by
 have:=h.2.2.1
 unfold Yg;simp;omega
def Yiu(Cs:List Cub)(v:Int):Int×Int:=if 0<=v/\v<(Cs.length:Int)then (((Cs.getD v.toNat []).length:Int),0)else (0,17)
theorem Yad(h:Lt w R g F D M V Qs Cs cnt)(v:Int){a b:Int}(hab:Hid (Yiu Cs v=(a,b))):Calls ai 38 #[.pointer (some ⟨g,0,none⟩),.int .i64 v] w λe w'=>e=.returned (.tuple #[.int .i64 a,.int .i64 b])/\w=w':=by
 obtain⟨dv,vv,ds,vs,A1,n1,c1,A2,n2,c2,A3,n3,c3,h1,h2,h3,h4,hm,hcl⟩:=h;obtain⟨A,c,ev,hvl,hat⟩:=h1.Yd1
 have hfew:=W8 hm
 have hH:=hid (λr hr=>Co (r:=r) ev h1.c4 v hr)
 have k4:=h1.c4
 have HCb:=hid h1.cbs
 have hn7:Cs.length<=7:=by omega
 have HA:=hid hat
 subst ev;clear h2 h3 h4 hm hat h1
 by_cases hv:0<=v/\v<(Cs.length:Int)
 ·obtain⟨k,rfl⟩:=Int.eq_ofNat_of_zero_le hv.1
  have hk:k<Cs.length:=by omega
  obtain⟨cc,hcc⟩: ∃cc,Hid (vs[k]?=some cc):=⟨_,hid (aa (by omega))⟩
  obtain⟨b',rfl,_,_,g0⟩:=HA.out k cc hcc.out
  have HX:=hid (Cr (HCb.out.at_ k cc hcc.out))
  have hH:=hid (hH.out true (hid (decide_eq_true hv)))
  have hab2:=hab.out
  unfold Yiu at hab2;rw[if_pos hv]at hab2;obtain⟨ea,rfl⟩:=Prod.mk.inj hab2;rw[show((k:Int).toNat)=k from rfl]at ea
  rw[ea]at HX
  have i0:(0:Int)<=(k:Int):=by omega
  have i1:(k:Int)<(Cs.length:Int):=by omega
  clear hab hab2 ea hv;go_enter ib,gi;go_wp2_with fail;refine hH.out.mono ?_;rintro e w1 ⟨rfl,rfl⟩;go_wp2_with fail;refine HX.out.mono ?_;rintro e w1 ⟨rfl,rfl⟩;go_wp2_with fail;go_ret2;exact⟨rfl,rfl⟩
 ·have hH:=hid (hH.out false (hid (decide_eq_false hv)))
  have hab2:=hab.out
  unfold Yiu at hab2;rw[if_neg hv]at hab2;obtain⟨rfl,rfl⟩:=Prod.mk.inj hab2;clear hab hab2 hv;go_enter ib,gi;go_wp2_with fail;refine hH.out.mono ?_;rintro e w1 ⟨rfl,rfl⟩;go_wp2_with fail;go_ret2;exact⟨rfl,rfl⟩
theorem Yfg(h:Lt w R g F D M V Qs Cs cnt):Calls ai 15 #[.pointer (some ⟨g,0,none⟩)] w (Ypp w D M V):=by
 obtain⟨dv,vv,ds,vs,A1,n1,c1,A2,n2,c2,A3,n3,c3,h1,h2,h3,h4,hm,hcl⟩:=h
 have hb0:=Yb w (.cells #[.slice none 0 0,.slice none 0 0,.slice none 0 0] 26)
 have hbr:=Block.new w 26 #[.slice none 0 0,.slice none 0 0,.slice none 0 0]
 have h1':=h1.below hb0
 have k0:=h1'.c0
 have k1:=h1'.c1
 have k2:=h1'.c2
 have HX:=hid (Cp (h2.Yc hb0) (R1 hm))
 clear h1 h2 h3 h4 hm hcl h1';go_enter Tryz.func15,Tryz.ntmps15;go_wp2_with fail;generalize w.alloc (.cells #[.slice none 0 0,.slice none 0 0,.slice none 0 0] 26)=W0 at hb0 hbr k0 k1 k2 HX⊢;go_wp2_with fail;refine HX.out.mono ?_;rintro e w1 ⟨⟨v1,v2,v3,rfl,hO⟩,hB⟩
 have hs:=hb0.size
 have hr1:=hbr.below hB hbr.lt
 have hns:w.heap.size<W0.heap.size:=hbr.lt
 have st:∀{α:Type}{E:ElT α}{T:TypeId}{sz:Nat}{v:Value}{L:List α}{y:World}(i:Nat) (u:Value),E.Ok->Yx E T sz y W0.heap.size (λk=>W0.heap.size<=k) v L->Yx E T sz (y.setCell ⟨w.heap.size,i,none⟩ u) W0.heap.size (λk=>W0.heap.size<=k) v L:=λ{α}{E}{T}{sz}{v}{L}{y} i u hE hO=>hO.mv hE (λb hb hl=>⟨Below.heap_setCell _ _ _ _ (by
  show b≠w.heap.size
  rcases hb with hb|hb
  ·omega
  ·have:=(hO.lt b hb).1;omega),trivial⟩) (.inr ⟨w.heap.size,⟨rfl,rfl,rfl,by simp,λb _ hb=>Below.heap_setCell _ _ _ _ (λe=>hb (by rw[e]))⟩,λe=>by have:=(hO.lt _ e).1;omega⟩)
 have q1:=st 2 v3 Xh (st 1 v2 Xh (st 0 v1 Xh hO.d))
 have q2:=st 2 v3 Ys (st 1 v2 Ys (st 0 v1 Ys hO.m))
 have q3:=st 2 v3 (Z0 Yh) (st 1 v2 (Z0 Yh) (st 0 v1 (Z0 Yh) hO.v))
 obtain⟨B1,d1,rfl⟩:=hO.d.shape;obtain⟨B2,d2,rfl⟩:=hO.m.shape;obtain⟨B3,d3,rfl⟩:=hO.v.shape
 have hF:=hid (show Yf4 (Ys2 w1 w.heap.size (.slice B1 D.length d1) (.slice B2 M.length d2) (.slice B3 V.length d3)) w.heap.size (.slice B1 D.length d1) (.slice B2 M.length d2) (.slice B3 V.length d3) D M V from
  ⟨(q1.low (by omega)).to Xh λb hb _=>by omega,(q2.low (by omega)).to Ys λb hb _=>by omega,(q3.low (by omega)).to (Z0 Yh) λb hb _=>by omega⟩)
 have hG:=hid ((((hb0.trans (hB.mono hs)).setCell (p:=⟨w.heap.size,0,none⟩) (an _) (.slice B1 D.length d1)).setCell (p:=⟨w.heap.size,1,none⟩) (an _) (.slice B2 M.length d2)).setCell (p:=⟨w.heap.size,2,none⟩) (an _) (.slice B3 V.length d3))
 have hRR:=hid (((hr1.Yz 0 (.slice B1 D.length d1)).Yz 1 (.slice B2 M.length d2)).Yz 2 (.slice B3 V.length d3))
 have e0:w1.cell? ⟨w.heap.size,0,none⟩=some (.slice none 0 0):=hr1.cell 0
 have e1:w1.cell? ⟨w.heap.size,1,none⟩=some (.slice none 0 0):=hr1.cell 1
 have e2:w1.cell? ⟨w.heap.size,2,none⟩=some (.slice none 0 0):=hr1.cell 2
 have f0:=hr1.free 0
 have f1:=hr1.free 1
 have f2:=hr1.free 2
 clear q1 q2 q3 st hO hB hr1 hb0 HX hbr;go_wp2_with fail;refine bodyPost_ret (Zh rfl _ _ w.heap.size _ _ rfl hRR.out fi rfl Ygv) rfl ?_;exact⟨⟨_,_,_,rfl,hF.out⟩,hG.out⟩
end
end
section
theorem Gm{T TS:TypeId}{sz bytes:Nat}{z:Value}{w:World}{ops:Array Oper}{o:Oper}{a:Act}{Q:Exit->Act->World->Prop}{K:Act->World->Prop}{Fl:Prop}(hgd:o.guard=none)(s x:Operand)
  (ho:o.op=.call {callee:=.builtin .append,args:=#[s,x],argTypes:=#[TS,TS]}) (hinfo:(ai.info? T).map (λi=>(i.zero,i.size,i.bytes))=some (some z,sz,bytes)) (hTS:ai.underlying TS=some (.slice T)) (hzs:z.cells.size=sz) (hsz:0<sz/\sz<=100/\bytes<=1000)
  (base:Nat) (v:Value) (n:Nat) (vs:List Value) (hs:a.eval s=v) (hr:w.ownsRow base T sz v n vs) (g:Nat) (hx:a.eval x=.slice (some ⟨g,0,none⟩) 1 1) (us:List Value) (hus:us.length=sz)
  (hy:∀j u,us[j]?=some u->w.cell? ((⟨g,0,none⟩:Addr).add j)=some u) (hone:∀u∈us,u.oneCell'=true) (hlen:n<=1000000) (hbase:base<=w.heap.size)
  (h:∀v' w',w'.ownsRow base T sz v' (n+1) (vs++us)->Zl w v w' v'→K (a.put o.dst v') w'):
  if Region.wanted o (yielded ops a.tmps)=true then Oper.wp ai o a w K Q else Fl:=by
 have hw:Region.wanted o (yielded ops a.tmps)=true:=by simp[Region.wanted,hgd]
 rw[if_pos hw];obtain⟨i,hi,hz0,hz1,hz2⟩:=info_parts hinfo;obtain⟨v',w',hrun,h2,h3,_,h5⟩:=run_append_own_at (P:=ai) w base TS o.type T i _ sz bytes hTS hi hz0 hz1 hz2 hzs hsz.1 v n vs hr ⟨g,0,none⟩ 1 1 us (by rw[hus];omega) hy hone (by unfold maxLen;omega) (by have:=gh (show n+1<=1000001 by omega) hsz.2.2;omega) hbase
 unfold Oper.wp execOp;simp only[ho,resolve,invoke,builtin,Sem.run_bind,Sem.run_pure,Result.andThen_ok,List.map_toArray,List.map_cons,List.map_nil,hs,hx,hrun]
 have hG:Zl w v w' v':=⟨h3,λq hq=>by
  rcases h5 with h5|h5
  ·exact .inl (h5▸hq)
  ·rw[h5]at hq
   injection hq with hq
   exact .inr (Nat.le_of_eq hq)⟩
 exact h v' w' h2 hG
theorem Chg.Yv{S:Nat->Prop}{w w':World}{B:Nat}(h:Chg S w w')(hB:B<=w.heap.size)(hS:∀k,S k->B<=k):Below B w w':=h.below hB hS
theorem Ng{w w':World}{v v':Value}(hG:Zl w v w' v'):Chg (λk=>v.ownBlock=some k) w w':=Chg.W4 hG.1 λ_ hk _=>hk
theorem Rc{w:World}{B size n:Nat}{T:TypeId}{v:Value}{vs:List Value}(h:w.ownsRow B T size v n vs):∃A c,v=.slice A n c:=by
 rcases h.2 with⟨rfl,e0⟩|⟨g,cap,cur,rfl,_⟩
 ·exact⟨none,0,by rw[e0]⟩
 ·exact⟨_,_,rfl⟩
section
variable {w y w8:World}{g:Nat}{X1 X2 X3 dv vv v' : Value}{ds:List DAt}{vs:List CAt}{N:List Nat}{Qs:List (List Pth)}{W m:Nat}{Cs:List Cub}{cnt:Int}
def Hq(B g:Nat)(dv vv:Value)(ds:List DAt)(vs:List CAt):Prop:=∀k,Zp g dv vv ds vs k->B<=k
theorem LtM.Vi(h:LtM w g X1 X2 X3 dv vv ds vs N Qs W m Cs cnt)(hb:Below w.heap.size w y){d:DAt}{n:Nat}{Q:List Pth}(hd:Dc y 0 d.1 d.2.1 d.2.2 n Q)(hf:∀k,Vc d k->w.heap.size<=k)(hO:w8.ownsRow 0 94 1 v' (ds.length+1) (ds.map (λd=>Wc d.1)++[Wc d.1]))(hG:Zl y dv w8 v'):
  Block w8 g 92 #[X1,X2,X3,dv,vv,.int .i64 cnt]/\LtM (w8.setCell ⟨g,3,none⟩ v') g X1 X2 X3 v' vv (ds++[d]) vs (N++[n]) (Qs++[Q]) W m Cs cnt/\(∀B,Hq B g dv vv ds vs->B<=w.heap.size->Hq B g v' vv (ds++[d]) vs/\Below B w (w8.setCell ⟨g,3,none⟩ v')):=by
 have hz:=hb.size
 have h1:=h.below hb
 have hc:=Ng hG
 have b8:=h1.blk.chg hc h1.Ywj
 have hD:=h.dcs.snoc hb hd hf
 have hD8:Dcs w8 (ds++[d]) (N++[n]) (Qs++[Q]):=hD.chg hc λe he k hk hdv=>by
  obtain⟨i,hi⟩:=af he;exact Tv h1.dr (hD.at_ i e hi) (by decide) (by decide) hdv hk
 have hC8:Cbs w8 vs W m Cs:=h1.cbs.chg hc λe he k hk hdv=>by
  obtain⟨i,hi⟩:=af he;exact Rb h1.dr (h1.cbs.at_ i e hi) (by decide) hdv hk
 have hV8:=hc.row h1.vr λk hk hdv=>h1.Yr0 hdv hk
 have hs:Chg (λk=>k=g) w8 (w8.setCell ⟨g,3,none⟩ v'):=(Chg.refl _ w8).Yz g 3 v' λ_=>rfl
 have hvg:v'.ownBlock≠some g:=Y7 hO b8 (by decide)
 refine⟨b8,⟨b8.Yz 3 v',?_,?_,hD8.chg hs ?_,hC8.chg hs ?_,?_⟩,λB hF hB=>⟨?_,?_⟩⟩
 ·have:=hs.row hO λk hk e=>hvg (e▸hk)
  simpa using this
 ·exact hs.row hV8 λk hk e=>Y7 hV8 b8 (by decide) (e▸hk)
 ·intro e he k hk hkg
  subst hkg;obtain⟨i,hi⟩:=af he
  rcases(hD8.at_ i e hi).kind hk with⟨cs,e',fr,hh,h1'⟩|⟨es,clock,hh⟩
  ·have b8':w8.heap[k]?=some (.cells _ _ _):=b8
   rw[b8']at hh;simp only[av,bj]at hh
   rcases h1' with h1'|h1' <;> (rw[<-hh.2.1]at h1';exact absurd h1' (by decide))
  ·have b8':w8.heap[k]?=some (.cells _ _ _):=b8
   rw[b8']at hh;cases hh
 ·intro e he k hk hkg
  subst hkg;obtain⟨i,hi⟩:=af he
  have b8':w8.heap[k]?=some (.cells _ _ _):=b8
  rcases(hC8.at_ i e hi).kind hk with⟨cs,fr,hh⟩|⟨es,clock,hh⟩
  ·rw[b8']at hh
   simp only[av,bj]at hh;exact absurd hh.2.1 (by decide)
  ·rw[b8']at hh;cases hh
 ·intro e he c hc' k hk hkc
  rcases da.1 he with he|he
  ·exact h.apart e he c hc' k hk hkc
  ·rw[ay.1 he]at hk
   have:=hf k hk
   have:=h.cbs.lt hc' hkc
   omega
 ·rintro k (rfl|hk|hk|⟨e,he,hk⟩|hk)
  ·exact hF _ (.inl rfl)
  ·rcases hG.2 k hk with h2|h2
   ·exact hF _ (.inr (.inl h2))
   ·omega
  ·exact hF _ (.inr (.inr (.inl hk)))
  ·rcases da.1 he with he|he
   ·exact hF _ (.inr (.inr (.inr (.inl ⟨e,he,hk⟩))))
   ·rw[ay.1 he]at hk
    have:=hf k hk
    omega
  ·exact hF _ (.inr (.inr (.inr (.inr hk))))
 ·exact(((hb.mono hB).trans (hc.Yv (by omega) λk hk=>hF _ (.inr (.inl hk)))).trans (hs.Yv (by have:=hc.size;omega) λk e=>by rw[e];exact hF _ (.inl rfl)))
theorem LtM.Kv(h:LtM w g X1 X2 X3 dv vv ds vs N Qs W m Cs cnt)(hb:Below w.heap.size w y){c:CAt}{C:Cub}(hd:Cb y c.1 c.2 W m C)(hf:∀k,Ui c k->w.heap.size<=k)(hO:w8.ownsRow 0 96 1 v' (vs.length+1) (vs.map (λd=>Wc d.1)++[Wc c.1]))(hG:Zl y vv w8 v'):
  Block w8 g 92 #[X1,X2,X3,dv,vv,.int .i64 cnt]/\LtM (w8.setCell ⟨g,4,none⟩ v') g X1 X2 X3 dv v' ds (vs++[c]) N Qs W m (Cs++[C]) cnt/\(∀B,Hq B g dv vv ds vs->B<=w.heap.size->Hq B g dv v' ds (vs++[c])/\Below B w (w8.setCell ⟨g,4,none⟩ v')):=by
 have hz:=hb.size
 have h1:=h.below hb
 have hc:=Ng hG
 have b8:=h1.blk.chg hc h1.Yss
 have hD:=h.cbs.snoc hb hd hf
 have hC8:Cbs w8 (vs++[c]) W m (Cs++[C]):=hD.chg hc λe he k hk hdv=>by
  obtain⟨i,hi⟩:=af he;exact Rb h1.vr (hD.at_ i e hi) (by decide) hdv hk
 have hD8:Dcs w8 ds N Qs:=h1.dcs.chg hc λe he k hk hdv=>by
  obtain⟨i,hi⟩:=af he;exact Tv h1.vr (h1.dcs.at_ i e hi) (by decide) (by decide) hdv hk
 have hV8:=hc.row h1.dr λk hk hdv=>h1.Yr0 hk hdv
 have hs:Chg (λk=>k=g) w8 (w8.setCell ⟨g,4,none⟩ v'):=(Chg.refl _ w8).Yz g 4 v' λ_=>rfl
 have hvg:v'.ownBlock≠some g:=Y7 hO b8 (by decide)
 refine⟨b8,⟨b8.Yz 4 v',?_,?_,hD8.chg hs ?_,hC8.chg hs ?_,?_⟩,λB hF hB=>⟨?_,?_⟩⟩
 ·exact hs.row hV8 λk hk e=>Y7 hV8 b8 (by decide) (e▸hk)
 ·have:=hs.row hO λk hk e=>hvg (e▸hk)
  simpa using this
 ·intro e he k hk hkg
  subst hkg;obtain⟨i,hi⟩:=af he
  rcases(hD8.at_ i e hi).kind hk with⟨cs,e',fr,hh,h1'⟩|⟨es,clock,hh⟩
  ·have b8':w8.heap[k]?=some (.cells _ _ _):=b8
   rw[b8']at hh;simp only[av,bj]at hh
   rcases h1' with h1'|h1' <;> (rw[<-hh.2.1]at h1';exact absurd h1' (by decide))
  ·have b8':w8.heap[k]?=some (.cells _ _ _):=b8
   rw[b8']at hh;cases hh
 ·intro e he k hk hkg
  subst hkg;obtain⟨i,hi⟩:=af he
  have b8':w8.heap[k]?=some (.cells _ _ _):=b8
  rcases(hC8.at_ i e hi).kind hk with⟨cs,fr,hh⟩|⟨es,clock,hh⟩
  ·rw[b8']at hh
   simp only[av,bj]at hh;exact absurd hh.2.1 (by decide)
  ·rw[b8']at hh;cases hh
 ·intro e he c' hc' k hk hkc
  rcases da.1 hc' with hc'|hc'
  ·exact h.apart e he c' hc' k hk hkc
  ·rw[ay.1 hc']at hkc
   have:=hf k hkc
   have:=h.dcs.lt he hk
   omega
 ·rintro k (rfl|hk|hk|hk|⟨e,he,hk⟩)
  ·exact hF _ (.inl rfl)
  ·exact hF _ (.inr (.inl hk))
  ·rcases hG.2 k hk with h2|h2
   ·exact hF _ (.inr (.inr (.inl h2)))
   ·omega
  ·exact hF _ (.inr (.inr (.inr (.inl hk))))
  ·rcases da.1 he with he|he
   ·exact hF _ (.inr (.inr (.inr (.inr ⟨e,he,hk⟩))))
   ·rw[ay.1 he]at hk
    have:=hf k hk
    omega
 ·exact(((hb.mono hB).trans (hc.Yv (by omega) λk hk=>hF _ (.inr (.inr (.inl hk))))).trans (hs.Yv (by have:=hc.size;omega) λk e=>by rw[e];exact hF _ (.inl rfl)))
end
theorem Ww(h:Wk D M V):1<=D.length/\D.length<=3/\1<=M.length/\M.length<=2:=by
 obtain⟨⟨_,h2⟩,h3,_⟩:=h
 have a:=h2.1
 have b:=h2.2.1
 rw[aq]at a b;exact⟨a,b,h3.1,h3.2.1⟩
theorem Ai{c1 c2:Nat}(k0:w.cell? ⟨g,0,none⟩=some (.slice A1 W c1))(k1:w.cell? ⟨g,1,none⟩=some (.slice A2 m c2))(h:1<=W/\W<=3/\1<=m/\m<=2)(hg:g<w.heap.size):
  Calls ai 45 #[.pointer (some ⟨g,0,none⟩)] w λe w'=>(∃v,e=.returned v/\Ych w W m [] v w')/\Below w.heap.size w w':=by
 obtain⟨h1,h2,h3,h4⟩:=h
 have K:Hid (∀y,Below w.heap.size w y->y.cell? ⟨g,0,none⟩=some (.slice A1 W c1)/\y.cell? ⟨g,1,none⟩=some (.slice A2 m c2)):=hid λy hy=>⟨(hy.cell (p:=⟨g,0,none⟩) hg).trans k0,(hy.cell (p:=⟨g,1,none⟩) hg).trans k1⟩
 have HN:=hid (Yjh h1 h2 h3 h4 w.drew)
 have iW0:(0:Int)<=(W:Int):=by omega
 clear h1 h2 h3 h4;go_enter Tryz.func45,Tryz.ntmps45;go_wp2_with fail;go_region_held3 (λw'=>w'.cell? ⟨g,0,none⟩=some (.slice A1 W c1)/\w'.cell? ⟨g,1,none⟩=some (.slice A2 m c2))
  (first
   |go_keep
   |exact K.out _ hBB1)
  (first
   |(go_at_call 96;refine HN.out.mono ?_;rintro e w1 ⟨⟨v,rfl,hT⟩,hB1⟩;have hBB1:Below w.heap.size w w1:=((below_drewN (Below.refl _ w) 1).trans hB1)))
 have hF:=hid (show(∃v',(Ending.returned v)=.returned v'∧Ych w W m [] v' w1)/\Below w.heap.size w w1 from⟨⟨v,rfl,hT⟩,hBB1⟩)
 obtain⟨gq,bq,rfl,hq⟩:=hT;clear hq hB1 hBB1 K HN;go_wp2_with fail;go_ret;exact hF.out
end
def Hi(z:Value)(m:Nat):Array Value:=(ak m z).toArray
theorem Ygx{TS:TypeId}{z:Value}{bytes:Nat}(hz0:z.cells=#[z])(hinfo:(ai.info? T).map (λi=>(i.zero,i.size,i.bytes))=some (some z,1,bytes))(hTS:ai.underlying TS=some (.slice T))(hb:bytes<=1000)(m:Nat)(W:World)(hm:m<=1000000):
  (Instr.makeSlice TS (.int .i64 m) (.int .i64 m)).run ai W=.ok (.slice (some ⟨W.heap.size,0,none⟩) m m) (W.alloc (.cells (Hi z m) T)):=by
 obtain⟨i,hi,hz,hy,hx⟩:=info_parts hinfo
 have h:=run_make (P:=ai) W TS T i z hTS hi hz .i64 .i64 m m (by omega) (by omega) (by rw[hx];have h1:=gh hb hm;have h2:((bytes*m:Nat):Int)=(bytes:Int)*(m:Int):=Int.natCast_mul _ _;omega) (by omega)
 rw[hy,cj,Int.toNat_natCast]at h;rw[h]
 congr 2
 congr 1
 apply Array.ext
 ·simp[Hi,madeCells]
 ·intro k h1 h2
  simp[Hi,madeCells,hz0,Nat.mod_one]
theorem Ye1(w:World)(T:TypeId)(z:Value)(m:Nat)(hm:m<=1000000):(w.alloc (.cells (Hi z m) T)).ownsRow w.heap.size T 1 (.slice (some ⟨w.heap.size,0,none⟩) m m) m (ak m z):=
 ⟨by simp,.inr ⟨w.heap.size,m,Hi z m,rfl,an _,heap_alloc_new w _,an _,by unfold maxLen;omega,by simp[Hi],by simp[Hi]⟩⟩
abbrev Qi:ElT (List Txt):=Vy Y9 9 1
abbrev Yjt:ElT Zd:=Vy Qi 23 1
abbrev Qz:ElT (Zd×PC):=U4 Yjt 1 My
theorem Sw:Qi.Ok:=Z0 Ys
theorem Yco:Yjt.Ok:=Z0 Sw
theorem U7:Qz.Ok:=Wu Yco Lx
theorem Yd6(h:Qi w S us l):Z3 w S us l:=Rg Ys (λ_ _ h=>h) h
theorem Yg1{l:Zd}(h:Yjt w S us l):Yis w S us l:=Rg Sw (λ_ _ h=>Yd6 h) h
theorem O5{d:Zd×PC}(h:Qz w S us d):Vv w S us d:=⟨Yg1 h.1,Kp h.2⟩
theorem Yj5{ds:List DAt}{vs:List CAt}(h:LtM w g X1 X2 X3 dv vv ds vs N Qs W m Cs cnt)(hN:N.length<=3){A:Option Addr}{n c:Nat}{K:List Int}(hK:Y1 w w.heap.size A n c K)(hl:K.length=N.length)(hc:∀i,i<N.length->0<=K.getD i 0/\K.getD i 0<=((Qs.getD i []).length:Int)):
  Calls ai 57 #[.pointer (some ⟨g,0,none⟩),.slice A n c] w (Told Qi 23 1 w (Z2 Qs K)):=by
 obtain⟨Ad,cd,edv,hdl,hat⟩:=h.K5;subst edv
 have hnl:n=N.length:=by rw[<-hl];exact hK.len.symm
 subst hnl
 have hlq:Qs.length=N.length:=h.dcs.good.len
 have HK:=hid hK
 have HM:=hid h
 have HA:=hid hat
 have HC:=hid hc
 have HPl:Hid ((Z2 Qs K).length=N.length):=hid (by rw[O2 (by omega)];exact hlq)
 have HPg:=hid (λi (hi:i<N.length)=>Ls (Qs:=Qs) (k:=K) (i:=i) (by omega) (by omega))
 have hmk:∀W:World,(Instr.makeSlice 69 (.int .i64 (N.length:Int)) (.int .i64 (N.length:Int))).run ai W=.ok (.slice (some ⟨W.heap.size,0,none⟩) N.length N.length) (W.alloc (.cells (Hi (.slice none 0 0) N.length) 23)):=λW=>Ygx rfl Ybp fh (by decide) N.length W (by omega)
 have hM0:=hid (Zu.begin (E:=Qi) (S:=λb=>w.heap.size<=b) (Ye1 w 23 (.slice none 0 0) N.length (by omega)) HPl.out)
 have hb0:=Yb w (.cells (Hi (.slice none 0 0) N.length) 23)
 clear h hK hat hc;go_enter Tryz.func57,Tryz.ntmps57;go_wp2_with fail;clear hmk;generalize w.alloc (.cells (Hi (.slice none 0 0) N.length) 23)=W0 at hM0 hb0⊢;go_loopw [13] (λi wr=>∃k:Nat,k<=N.length/\i=.int .i64 k/\Hid (Zu Qi 23 1 wr w.heap.size (λb=>w.heap.size<=b) (.slice (some ⟨w.heap.size,0,none⟩) N.length N.length) N.length (Z2 Qs K) (ak N.length (.slice none 0 0)) k)/\Below w.heap.size w wr) (λi _=>N.length-(intOf i).toNat)
 case atStart=>exact⟨0,ar _,rfl,hM0,hb0⟩
 case round=>
  obtain⟨k,hk,rfl,hO,hB⟩:=hrel
  by_cases hlt:k<N.length
  ·have i0:(0:Int)<=(k:Int):=by omega
   have i1:(k:Int)<(N.length:Int):=by omega
   obtain⟨b,o,x,rfl,hbl,hcell,ex⟩:=HK.out.at_ hlt
   have g0:wr.cell? ⟨b,o+k,none⟩=some (.int .i64 x):=(hB.cell (p:=⟨b,o+k,none⟩) hbl).trans hcell
   have hx:=HC.out k hlt
   rw[<-ex.out]at hx;obtain⟨q,rfl⟩:=Int.eq_ofNat_of_zero_le hx.1;obtain⟨d,hdk⟩: ∃d,Hid (ds[k]?=some d):=⟨_,hid (aa (by omega))⟩
   obtain⟨bd,rfl,_,hbd,hcd⟩:=HA.out k d hdk.out
   have g1:wr.cell? ⟨bd,k,none⟩=some (.pointer (some ⟨d.1,0,none⟩)):=(hB.cell (p:=⟨bd,k,none⟩) hbd).trans hcd
   have c3:=(HM.out.below hB).c3
   have hpe:(Z2 Qs K)[k]?=some (pth (Qs.getD k []) q):=by
    have h1:=HPg.out k hlt
    rw[<-ex.out]at h1;rw[aj]at h1;obtain⟨z,hz⟩: ∃z,(Z2 Qs K)[k]?=some z:=⟨_,aa (by rw[HPl.out];exact hlt)⟩
    rw[hz]at h1⊢;exact congrArg some h1
   obtain⟨p,hp⟩: ∃p,Hid (pth (Qs.getD k []) q=p):=⟨_,hid rfl⟩;rw[hp.out]at hpe
   have hpe:=hid hpe
   have HX:=hid (Ydu ((HM.out.dcs.at_ k d hdk.out).below hB) q (by omega) hp)
   clear hcell hcd hx;go_wp2_with fail;refine HX.out.mono ?_;rintro e w5 ⟨v,rfl,hv,hb5⟩
   have hO5:=hO.out.below Sw hb5
   have hlo:=hO.out.lt
   have hz:=hB.size
   have hE:=Yx.el Ys (hv.Bb (S:=λk=>wr.heap.size<=k)) (u:=.slice (some ⟨w.heap.size,0,none⟩) N.length N.length) (λk e=>(hlo k e).2) hz
   obtain⟨Av,cv,rfl,_⟩:=hv.form
   have c0:w5.cell? ⟨w.heap.size,k,none⟩=some (.slice none 0 0):=(hO5.old (j:=k) (by omega) (by omega)).trans (by rw[dt,if_pos hlt])
   have f0:=hO5.free k
   have hF:=hid (show Zu Qi 23 1 (w5.setCell ⟨w.heap.size,k,none⟩ (.slice Av p.length cv)) w.heap.size (λb=>w.heap.size<=b) (.slice (some ⟨w.heap.size,0,none⟩) N.length N.length) N.length (Z2 Qs K) (ak N.length (.slice none 0 0)) (k+1)/\Below w.heap.size w (w5.setCell ⟨w.heap.size,k,none⟩ (.slice Av p.length cv))from⟨hO5.Yl2 Sw (by simp) hpe.out hE,(hB.trans (hb5.mono hB.size)).setCell (p:=⟨w.heap.size,k,none⟩) (an _) _⟩)
   clear hO5 hO hB hb5 HX hv hE hlo;go_wp2_with fail;go_roundw
   case rel=>exact⟨k+1,by omega,by go_num,hid hF.out.1,hF.out.2⟩
   case measure=>simp[intOf];omega
  ·have hF:=hid (show Yx Qi 23 1 wr w.heap.size (λb=>w.heap.size<=b) (.slice (some ⟨w.heap.size,0,none⟩) N.length N.length) (Z2 Qs K)/\Below w.heap.size w wr from⟨hO.out.end_ (by omega) (by simp),hB⟩)
   clear hO hB;go_wp2_with fail;go_ret;exact⟨_,rfl,hF.out.1,hF.out.2⟩
section
structure Ywg (D:List Yk) (m:Nat) (G:List Fct):Prop where
 small:∀f∈G,Bi f
 val:m<=2/\∀f∈G,isVal m f.2
 cell:∀f∈G,Yu m (Zb f)
 few:G.length<=8
 len:∀f∈G,f.1.length=(Yj D).length
 lev:∀f∈G,f.1.map List.length=Yj D
section
variable {D:List Yk}{M:List Txt}{V:List (List Int)}{G:List Fct}{Qs Rs:List (List Pth)}
theorem K8(D:List Yk):(Yj D).length=D.length:=by unfold Yj;rw[aq]
theorem Yun(hm:Wk D M V)(hb:Wf D M V G=0):Ywg D M.length G:=by
 have hd:=Ww hm
 have hf:=M5 hb
 refine⟨λf h=>⟨by have:=(hf f h).1.1;omega,λp hp=>by have:=((hf f h).1.2.1 p hp).1;omega,by have:=(hf f h).1.2.2.1;omega⟩,⟨hd.2.2.2,λf h=>Yc6 (hf f h)⟩,λf h=>Yg8 hd.2.2.2 (hf f h),?_,λf h=>by rw[K8];exact(hf f h).2.1,λf h=>Yc1 (hf f h)⟩
 unfold Wf at hb;rw[if_pos hm]at hb;exact(Jt.1 hb).2.1
theorem Yuf(hm:Wk D M V)(hB:Ywg D M.length G)(hg:Xw (Yj D) Qs)(ha:Zi (Yj D) Qs G=(Rs,0)):
  (∀(i:Nat) (f:Fct),G[i]?=some f->Pj (Yj D) Rs ((V1 (Yj D) Rs G).getD i [])/\∀v,Of (Yj D) v->upB Rs ((V1 (Yj D) Rs G).getD i []) v=kC Rs v f)/\∀v,Of (Yj D) v->∀f∈G,isKey D.length (kC Rs v f):=by
 obtain⟨h1,_,h3⟩:=Q7 hg ha;refine⟨λi f hi=>?_,λv hv f hf=>?_⟩
 ·have hf:=ae hi
  have hP:=h3 (Rr (Yj D)) (B6 _) f hf (hB.len f hf)
  rw[<-Ykn]at hP
  have hk:(V1 (Yj D) Rs G).getD i []=Xk Rs (Yn D) f.1:=by
   rw[aj,V1,bg,hi,Ykn];rfl
  rw[hk];exact⟨Hr h1 hP (hB.lev f hf) (Yld hm.1.1 (hB.lev f hf)),λv _=>Ytz h1 hP (hB.lev f hf)⟩
 ·have hk:=Dr h1 (h3 v hv f hf (hB.len f hf))
  rw[K8]at hk;exact hk
end
end
theorem Yoy{w':World}(h:w.ownsRow B T sz v n vs)(hb:Below w.heap.size w w'):w'.ownsRow B T sz v n vs:=(Chg.Y2 hb (an _)).row (S:=λ_=>False) h λ_ _ h=>h
theorem Hw{α:Type}(f:α->List UInt8)(b:Nat):∀{L:List α},(∀x∈L,(f x).length<=b)->(L.flatMap f).length<=b*L.length
 |[],_=>by simp
 |x::L,h=>by
  have h1:=Hw f b (L:=L) λy hy=>h y (List.mem_cons_of_mem _ hy)
  have h2:=h x (by simp)
  rw[List.flatMap_cons,dc,List.length_cons,Nat.mul_succ];omega
theorem Ynh{ds:List DAt}{vs:List CAt}(h:LtM w g X1 X2 X3 dv vv ds vs N Qs W m Cs cnt)(hN:N.length<=3)(h1:1<=Cs.length){A:Option Addr}{n c:Nat}{l:List UInt8}(hb:Xl w w.heap.size A n c l)(hn:n<=10000):
  Calls ai 23 #[.pointer (some ⟨g,0,none⟩),.slice A n c] w λe w'=>∃v,e=.returned v/\Zc w' w.heap.size 5 v (l++Yd7 m Qs (Cs.getD 0 []))/\Below w.heap.size w w':=by
 obtain⟨Ad,cd,edv,hdl,hat⟩:=h.K5;obtain⟨Av,cv,evv,hvl,hatv⟩:=h.Yd1;subst edv evv;obtain⟨nd,hnd⟩: ∃nd,N.length=nd:=⟨_,rfl⟩;obtain⟨nv,hnv⟩: ∃nv,Cs.length=nv:=⟨_,rfl⟩;rw[hnd]at h hdl hN;rw[hnv]at h hvl h1
 have HQ:Hid (Qs.length=nd):=hid (by rw[<-hnd];exact h.dcs.good.len)
 have HM:=hid h
 have HA:=hid hat
 have c3:=h.c3
 obtain⟨cc,hcc⟩: ∃cc,Hid (vs[0]?=some cc):=⟨_,hid (aa (by omega))⟩
 obtain⟨bv,rfl,_,hbv,hcell⟩:=hatv 0 cc hcc.out
 have KV:Hid (∀y,Below w.heap.size w y->y.cell? ⟨g,4,none⟩=some (.slice (some ⟨bv,0,none⟩) nv cv)/\y.cell? ⟨bv,0,none⟩=some (.pointer (some ⟨cc.1,0,none⟩))):=hid λy hy=>⟨(HM.out.below hy).c4,(hy.cell (p:=⟨bv,0,none⟩) hbv).trans hcell⟩
 have HB:=hid hb
 have HLl:=hid hb.len
 have hGd:Hid (∀Q∈Qs,(U5 Q).length<=2000):=hid λQ hQ=>by
  obtain⟨i,hi⟩:=af hQ
  have hil:=(ag.1 hi).1
  have h2:=h.dcs.good.get (i:=i) (by rw[hnd,<-HQ.out];exact hil)
  rw[show Qs.getD i []=Q by rw[aj,hi];rfl]at h2
  exact(Yhi h2).2
 have HLe:Hid (∀k,(l++(Qs.take k).flatMap U5).length<=16000):=hid λk=>by
  have h2:=Hw U5 2000 (L:=Qs.take k) λQ hQ=>hGd.out Q (fb hQ)
  have h3:(Qs.take k).length<=nd:=by rw[fl,HQ.out];exact Nat.min_le_right _ _
  have h4:=HLl.out
  rw[dc];omega
 clear h hat hatv hcell hb hnd hnv;go_enter Tryz.func23,Tryz.ntmps23;go_wp2_with fail;go_loopw [1,12] (λv i wr=>∃k:Nat,k<=nd/\i=.int .i64 k/\Hid (∃A' n' c',v=.slice A' n' c'∧Xl wr wr.heap.size A' n' c' (l++(Qs.take k).flatMap U5))/\Below w.heap.size w wr) (λ_ i _=>nd-(intOf i).toNat)
 case atStart=>exact⟨0,ar _,rfl,hid ⟨A,n,c,rfl,by simpa using HB.out⟩,Below.refl _ _⟩
 case round=>
  obtain⟨k,hk,rfl,hO,hB⟩:=hrel;obtain⟨A',n',c',rfl,hH⟩:=hO.out
  have hnl:n'<=16000:=by have h2:=hH.len;have h3:=HLe.out k;omega
  by_cases hlt:k<nd
  ·have i0:(0:Int)<=(k:Int):=by omega
   have i1:(k:Int)<(nd:Int):=by omega
   obtain⟨d,hdk⟩: ∃d,Hid (ds[k]?=some d):=⟨_,hid (aa (by omega))⟩
   obtain⟨bd,rfl,_,hbd,hcd⟩:=HA.out k d hdk.out
   have g1:wr.cell? ⟨bd,k,none⟩=some (.pointer (some ⟨d.1,0,none⟩)):=(hB.cell (p:=⟨bd,k,none⟩) hbd).trans hcd
   have HP:=hid (Yrs ((HM.out.dcs.at_ k d hdk.out).below hB) hH (by omega))
   have hT:Hid (l++(Qs.take k).flatMap U5++U5 (Qs.getD k [])=l++(Qs.take (k+1)).flatMap U5):=hid (by
    have h2:Qs[k]?=some (Qs.getD k []):=by rw[aj,aa (by have:=HQ.out;omega)];rfl
    rw[Z8 h2,List.flatMap_append,cw];simp)
   clear hcd hH hO;go_wp2_with fail;refine HP.out.mono ?_;rintro e w5 ⟨v,rfl,hO5,hb5⟩;rw[hT.out]at hO5;obtain⟨A5,n5,c5,rfl,hH5,_⟩:=hO5.Yr
   have hF:=hid (show Xl w5 w5.heap.size A5 n5 c5 (l++(Qs.take (k+1)).flatMap U5)/\Below w.heap.size w w5 from⟨hH5,hB.trans (hb5.mono hB.size)⟩)
   clear hO5 hH5 hb5 hB HP hT;go_wp2_with fail;go_roundw
   case rel=>exact⟨k+1,by omega,by go_num,hid ⟨_,_,_,rfl,hF.out.1⟩,hF.out.2⟩
   case measure=>simp[intOf];omega
  ·have hall:Qs.take k=Qs:=au (by have:=HQ.out;omega)
   rw[hall]at hH;obtain⟨k4,kp⟩:=KV.out wr hB
   have HP:=hid (Yej (HM.out.cbs.at_ 0 cc hcc.out |>.Yc hB) hH (by omega))
   have i1:(0:Int)<(nv:Int):=by omega
   clear hH hO;go_wp2_with fail;refine HP.out.mono ?_;rintro e w5 ⟨v,rfl,hO5,hb5⟩
   have hF:=hid (show Zc w5 w.heap.size 5 v (l++Yd7 m Qs (Cs.getD 0 []))/\Below w.heap.size w w5 from⟨by
    unfold Yd7;rw[<-cw];exact hO5.low hB.size,hB.trans (hb5.mono hB.size)⟩)
   clear hO5 hb5 hB HP;go_wp2_with fail;go_ret;exact⟨_,rfl,hF.out.1,hF.out.2⟩
theorem Ynm(h:Lt w R g F D M V Qs Cs cnt){A:Option Addr}{n c:Nat}{l:List UInt8}(hb:Xl w w.heap.size A n c l)(hn:n<=10000):
  Calls ai 23 #[.pointer (some ⟨g,0,none⟩),.slice A n c] w λe w'=>∃v,e=.returned v/\Zc w' w.heap.size 5 v (l++Yd7 M.length Qs (Cs.getD 0 []))/\Below w.heap.size w w':=by
 obtain⟨dv,vv,ds,vs,A1,n1,c1,A2,n2,c2,A3,n3,c3,h1,h2,h3,h4,hm,hCl⟩:=h
 have hd:=Ww hm
 exact Ynh h1 (by unfold Yj;rw[aq];exact hd.2.1) (by rw[hCl];simp[Yg]) hb hn
theorem Yly(h:Lt w R g F D M V Qs Cs cnt):
  Calls ai 23 #[.pointer (some ⟨g,0,none⟩),.slice none 0 0] w λe w'=>∃v,e=.returned v/\Zc w' w.heap.size 5 v (Yd7 M.length Qs (Cs.getD 0 []))/\Below w.heap.size w w':=
 Ynm (l:=[]) h ⟨rfl,an _,ar _,λ_=>rfl,Has.Zk⟩ (by decide)
def LxS(w:World):World:=(((((w.alloc (.cells #[.string ⟨#[108]⟩,.string ⟨#[109]⟩] 9)).alloc (.cells #[.string ⟨#[100]⟩,.slice (some ⟨w.heap.size,0,none⟩) 2 2] 75)).alloc (.cells #[.string ⟨#[118]⟩] 9)).alloc (.cells #[.int .i64 1] 3)).alloc (.cells #[.slice (some ⟨w.heap.size+1+1+1,0,none⟩) 1 1] 47)).alloc (.cells #[.slice (some ⟨w.heap.size+1,0,none⟩) 1 1,.slice (some ⟨w.heap.size+1+1,0,none⟩) 1 1,.slice (some ⟨w.heap.size+1+1+1+1,0,none⟩) 1 1] 26)
theorem Yov(w:World):Below w.heap.size w (LxS w):=Ya (Ya (Ya (Ya (Ya (Yb w _) (Yb _ _)) (Yb _ _)) (Yb _ _)) (Yb _ _)) (Yb _ _)
theorem Ysy(w:World):Vr (LxS w) (λb=>b<(LxS w).heap.size) (some ⟨w.heap.size+1,0,none⟩) 1 1 (some ⟨w.heap.size+1+1,0,none⟩) 1 1 (some ⟨w.heap.size+1+1+1+1,0,none⟩) 1 1 LxD LxM LxV:=by
 have a0:=(Zx.Yaq w [[108],[109]] #[.string ⟨#[108]⟩,.string ⟨#[109]⟩] rfl 9 2 rfl (by decide) w.heap.size rfl).row
 have a1:=Row.lit (E:=N0) (sz:=2) Vw (w.alloc (.cells #[.string ⟨#[108]⟩,.string ⟨#[109]⟩] 9)) #[.string ⟨#[100]⟩,.slice (some ⟨w.heap.size,0,none⟩) 2 2] 75 1 LxD rfl rfl (by decide) (w.heap.size+1) (by simp) (λi x hi=>by
  match i,hi with
  |0,hi=>simp[LxD]at hi;subst hi;exact⟨rfl,_,_,_,rfl,a0⟩
  |i+1,hi=>simp[LxD]at hi)
 generalize hw2:(w.alloc (.cells #[.string ⟨#[108]⟩,.string ⟨#[109]⟩] 9)).alloc (.cells #[.string ⟨#[100]⟩,.slice (some ⟨w.heap.size,0,none⟩) 2 2] 75)=w2 at a1
 have z2:w2.heap.size=w.heap.size+1+1:=by rw[<-hw2];simp
 have a2:=(Zx.Yaq w2 [[118]] #[.string ⟨#[118]⟩] rfl 9 1 rfl (by decide) (w.heap.size+1+1) (by rw[z2])).row
 have b1:=a1.up Vw (.cells #[.string ⟨#[118]⟩] 9)
 generalize hw3:w2.alloc (.cells #[.string ⟨#[118]⟩] 9)=w3 at a2 b1
 have z3:w3.heap.size=w.heap.size+1+1+1:=by rw[<-hw3,cz,z2]
 have a3:=Row.lit (E:=Yy) (sz:=1) Yh w3 #[.int .i64 1] 3 1 [1] rfl rfl (by decide) (w.heap.size+1+1+1) (by rw[z3]) (λi x hi=>by
  match i,hi with
  |0,hi=>simp at hi;subst hi;rfl
  |i+1,hi=>simp at hi)
 have b2:=a2.up Ys (.cells #[.int .i64 1] 3)
 have c1:=b1.up Vw (.cells #[.int .i64 1] 3)
 generalize hw4:w3.alloc (.cells #[.int .i64 1] 3)=w4 at a3 b2 c1
 have z4:w4.heap.size=w.heap.size+1+1+1+1:=by rw[<-hw4,cz,z3]
 have a4:=Row.lit (E:=Zz Yy 1) (sz:=1) (Wb Yh) w4 #[.slice (some ⟨w.heap.size+1+1+1,0,none⟩) 1 1] 47 1 LxV rfl rfl (by decide) (w.heap.size+1+1+1+1) (by rw[z4]) (λi x hi=>by
  match i,hi with
  |0,hi=>simp[LxV]at hi;subst hi;exact⟨_,_,_,rfl,a3⟩
  |i+1,hi=>simp[LxV]at hi)
 have b3:=b2.up Ys (.cells #[.slice (some ⟨w.heap.size+1+1+1,0,none⟩) 1 1] 47)
 have d1:=c1.up Vw (.cells #[.slice (some ⟨w.heap.size+1+1+1,0,none⟩) 1 1] 47)
 have hw:LxS w=(w4.alloc (.cells #[.slice (some ⟨w.heap.size+1+1+1,0,none⟩) 1 1] 47)).alloc (.cells #[.slice (some ⟨w.heap.size+1,0,none⟩) 1 1,.slice (some ⟨w.heap.size+1+1,0,none⟩) 1 1,.slice (some ⟨w.heap.size+1+1+1+1,0,none⟩) 1 1] 26):=by
  subst hw4 hw3 hw2;rfl
 rw[hw];exact⟨d1.up Vw _,b3.up Ys _,a4.up (Wb Yh) _⟩
theorem Yvp:Lz LxD:=by
 intro d hd;rw[ay.1 hd];exact⟨by decide,λs hs=>by
  rcases List.mem_cons.1 hs with rfl|hs
  ·decide
  ·rw[ay.1 hs];decide⟩
def U9(w:World)(g:Nat)(x y:Array UInt8)(v:Int):World:=((w.alloc (.cells #[.string ⟨x⟩,.string ⟨y⟩] 9)).alloc (.cells #[.slice (some ⟨g,0,none⟩) 2 2] 23)).alloc (.cells #[.int .i64 v] 3)
theorem Kb(w:World)(g:Nat)(x y:Array UInt8)(v:Int):(U9 w g x y v).heap.size=w.heap.size+1+1+1:=by simp[U9]
theorem Sm(w:World)(g:Nat)(x y:Array UInt8)(v:Int):Below w.heap.size w (U9 w g x y v):=Ya (Ya (Yb w _) (Yb _ _)) (Yb _ _)
theorem Row.Ys7{α:Type}{E:ElT α}(hE:E.Ok)(w:World)(C:Array Value)(T:TypeId)(n:Nat)(L:List α)(hL:L.length=n)(hC:C.size=n*sz)(hn:n<=1000000)(g:Nat)(hg:g=w.heap.size)(hS:S g)
  (hx:∀i x,L[i]?=some x->E w S ((C.toList.drop (i*sz)).take sz) x):Row E sz (w.alloc (.cells C T)) S (some ⟨g,0,none⟩) n n L:=by
 subst hg
 have hz:(w.alloc (.cells C T)).heap.size=w.heap.size+1:=by simp
 refine⟨hL,C.toList,⟨by simpa using hC,an _,by unfold maxLen;omega,(λh=>by cases h),λ_=>⟨w.heap.size,0,rfl,hS,by omega,λj u hu=>?_⟩⟩,λi x hi=>hE _ _ _ _ _ _ (Mv.alloc w _ S) (hx i x hi)⟩
 rw[ie,Zq];simpa using hu
theorem Ck(w:World)(g:Nat)(hg:g=w.heap.size)(B:Nat)(hB:B<=w.heap.size)(x y:Txt)(v:Int):Le (U9 w g x.toArray y.toArray v) (λb=>B<=b) [.slice (some ⟨g+1,0,none⟩) 1 1,.slice (some ⟨g+1+1,0,none⟩) 1 1] ([[x,y]],[v]):=by
 subst hg
 have a0:=Row.Ys7 (S:=λb=>B<=b) Ys (sz:=1) w #[.string ⟨x.toArray⟩,.string ⟨y.toArray⟩] 9 2 [x,y] rfl rfl (by decide) w.heap.size rfl hB (λi z hi=>by
  match i,hi with
  |0,hi=>simp at hi;subst hi;rfl
  |1,hi=>simp at hi;subst hi;rfl
  |i+2,hi=>simp at hi)
 have a1:=Row.Ys7 (S:=λb=>B<=b) (E:=Zz Y9 1) (sz:=1) (Wb Ys) (w.alloc (.cells #[.string ⟨x.toArray⟩,.string ⟨y.toArray⟩] 9)) #[.slice (some ⟨w.heap.size,0,none⟩) 2 2] 23 1 [[x,y]] rfl rfl (by decide) (w.heap.size+1) (by simp) (by omega) (λi z hi=>by
  match i,hi with
  |0,hi=>simp at hi;subst hi;exact⟨_,_,_,rfl,a0⟩
  |i+1,hi=>simp at hi)
 have a2:=Row.Ys7 (S:=λb=>B<=b) (E:=Yy) (sz:=1) Yh ((w.alloc (.cells #[.string ⟨x.toArray⟩,.string ⟨y.toArray⟩] 9)).alloc (.cells #[.slice (some ⟨w.heap.size,0,none⟩) 2 2] 23)) #[.int .i64 v] 3 1 [v] rfl rfl (by decide) (w.heap.size+1+1) (by simp) (by omega) (λi z hi=>by
  match i,hi with
  |0,hi=>simp at hi;subst hi;rfl
  |i+1,hi=>simp at hi)
 exact⟨⟨_,_,_,rfl,a1.mv (Wb Ys) (Mv.alloc _ _ _)⟩,⟨_,_,_,rfl,a2⟩⟩
def LxW(w:World):World:=(U9 (U9 (U9 w w.heap.size #[97] #[120] 5) (w.heap.size+1+1+1) #[97] #[121] 7) (w.heap.size+1+1+1+1+1+1) #[98] #[120] 1).alloc (.cells #[.slice (some ⟨w.heap.size+1,0,none⟩) 1 1,.slice (some ⟨w.heap.size+1+1,0,none⟩) 1 1,.slice (some ⟨w.heap.size+1+1+1+1,0,none⟩) 1 1,.slice (some ⟨w.heap.size+1+1+1+1+1,0,none⟩) 1 1,.slice (some ⟨w.heap.size+1+1+1+1+1+1+1,0,none⟩) 1 1,.slice (some ⟨w.heap.size+1+1+1+1+1+1+1+1,0,none⟩) 1 1] 83)
theorem Ylr(w:World):Below w.heap.size w (LxW w):=Ya (Ya (Ya (Sm w _ _ _ _) (Sm _ _ _ _ _)) (Sm _ _ _ _ _)) (Yb _ _)
theorem Ytu(w:World):Sz (LxW w) (λb=>w.heap.size<=b) (some ⟨w.heap.size+1+1+1+1+1+1+1+1+1,0,none⟩) 3 3 LxF:=by
 have z1:=Kb w w.heap.size #[97] #[120] 5
 have z2:=Kb (U9 w w.heap.size #[97] #[120] 5) (w.heap.size+1+1+1) #[97] #[121] 7
 have z3:=Kb (U9 (U9 w w.heap.size #[97] #[120] 5) (w.heap.size+1+1+1) #[97] #[121] 7) (w.heap.size+1+1+1+1+1+1) #[98] #[120] 1
 have e1:=Ck w w.heap.size rfl w.heap.size (an _) [97] [120] 5
 have e2:=Ck (U9 w w.heap.size #[97] #[120] 5) (w.heap.size+1+1+1) (by omega) w.heap.size (by omega) [97] [121] 7
 have e3:=Ck (U9 (U9 w w.heap.size #[97] #[120] 5) (w.heap.size+1+1+1) #[97] #[121] 7) (w.heap.size+1+1+1+1+1+1) (by omega) w.heap.size (by omega) [98] [120] 1
 have b3:=Sm (U9 (U9 w w.heap.size #[97] #[120] 5) (w.heap.size+1+1+1) #[97] #[121] 7) (w.heap.size+1+1+1+1+1+1) #[98] #[120] 1
 have m2:=Y3 _ _ _ _ _ _ ((Mv.Yc (Sm (U9 w w.heap.size #[97] #[120] 5) (w.heap.size+1+1+1) #[97] #[121] 7) _).trans (Mv.Yc b3 _)) e1
 have m3:=Y3 _ _ _ _ _ _ (Mv.Yc b3 _) e2
 exact Row.Ys7 (S:=λb=>w.heap.size<=b) (E:=Le) (sz:=2) Y3 (U9 (U9 (U9 w w.heap.size #[97] #[120] 5) (w.heap.size+1+1+1) #[97] #[121] 7) (w.heap.size+1+1+1+1+1+1) #[98] #[120] 1) _ 83 3 LxF rfl rfl (by decide) _ (by omega) (by omega) (λi x hi=>by
  match i,hi with
  |0,hi=>simp[LxF]at hi;subst hi;exact m2
  |1,hi=>simp[LxF]at hi;subst hi;exact m3
  |2,hi=>simp[LxF]at hi;subst hi;exact e3
  |i+3,hi=>simp[LxF]at hi)
theorem Yh4(hr:Zx w w.heap.size A n c L)(m:Int)(hs:n<=1000000):
  Calls ai 115 #[.slice A n c,.int .i64 m] w λe w'=>(∃v,e=.returned v/\Xi w' w.heap.size v (upP L m))/\Below w.heap.size w w':=by
 have hn:=hr.Ym
 have HL:=hid hr.len
 go_enter Tryz.func115,Tryz.ntmps115;go_wp2;go_loopw [5,6] (λv i wr=>∃k:Nat,k<=n/\k<=m.toNat/\i=.int .i64 k/\Xi wr w.heap.size v (L.take k)/\Below w.heap.size w wr) (λ_ i _=>n-(intOf i).toNat)
 case atStart=>exact⟨0,ar _,ar _,rfl,Xi.Zk w _,Below.refl _ _⟩
 case round=>
  obtain⟨k,hk,hkm,rfl,hO,hB⟩:=hrel
  by_cases hgo:k<n/\(k:Int)<m
  ·obtain⟨hlt,hltm⟩:=hgo
   obtain⟨b,o,x,rfl,hb,hc,ex⟩:=(hr.below hB (an _)).at_ hlt
   have hz:=hB.size
   have hlb:Hid ((L.take k).length<=1000000):=hid (ao (db k _) (by omega))
   have HT:=hid (Py (by have:=HL.out;omega) ex.out)
   have hlo:=λg e=>(hO.lt g e).1
   have hO1:=hO.alloc (.cells #[.string ⟨x.toArray⟩] 9)
   go_wp2_with (at_builtin;refine Qb rfl _ _ rfl w.heap.size _ _ rfl hO1 _ rfl x (N7 _ _ _ _ (by simp)) hlb.out (by rw[cz];omega) ?_)
   intro v' w2 hO2 hG2
   have hB2:=hid ((hB.alloc hz (.cells #[.string ⟨x.toArray⟩] 9)).trans (hG2.Yv (by rw[cz];omega) hlo))
   rw[HT.out]at hO2
   have hO3:=hid hO2
   clear hO hO1 hO2 hG2 hlo hB;go_wp2_with fail;go_roundw
   case rel=>exact⟨k+1,by omega,by omega,by go_num,hO3.out,hB2.out⟩
   case measure=>simp[intOf];omega
  ·have HT:Hid (L.take k=L.take m.toNat):=hid (by
    have:=HL.out
    by_cases h:k<n
    ·congr 1;omega
    ·rw[au (by omega),au (by omega)])
   have hv:=hO
   rw[HT.out]at hv;clear hO
   by_cases hlt:k<n
   ·have hm:¬(k:Int)<m:=by omega
    clear hgo;go_wp2;go_ret;exact⟨⟨_,rfl,hv⟩,hB⟩
   ·clear hgo
    go_wp2;go_ret;exact⟨⟨_,rfl,hv⟩,hB⟩
theorem Kw:∀{v:List Int}{P:List Pth},v.length<=P.length->(Vo v P).length=v.length
 |[],_,_=>by simp[Vo]
 |_::_,[],h=>by simp at h
 |x::v,p::P,h=>by
  have:=Kw (v:=v) (P:=P) (by simpa using h)
  simp[Vo,this]
theorem Ygl:∀{v:List Int}{P:List Pth}{i:Nat}{x:Int}{p:Pth},v[i]?=some x->P[i]?=some p->(Vo v P)[i]?=some (upP p x)
 |[],_,_,_,_,h,_=>by simp at h
 |_::_,[],_,_,_,_,h=>by simp at h
 |y::v,q::P,0,x,p,h,h'=>by
  simp at h h';subst h h';rfl
 |y::v,q::P,i+1,x,p,h,h'=>by
  have:=Ygl (v:=v) (P:=P) (i:=i) (x:=x) (p:=p) (by simpa using h) (by simpa using h')
  simpa[Vo]using this
theorem Ye2(w:World)(A:Option Addr)(n c:Nat)(t:TypeId)(g:Nat)(hg:g=w.heap.size):∀j u,[ch A n c][j]?=some u->(w.alloc (.cells #[.slice A n c] t)).cell? ((⟨g,0,none⟩:Addr).add j)=some u:=by
 subst hg;intro j u hj;rw[Yt,ie,(Block.new w t #[.slice A n c]).cell j];simpa using hj
theorem Ykm(A:Option Addr)(n c:Nat):∀u∈[ch A n c],u.oneCell'=true:=by
 intro u hu;simp at hu;subst hu;rfl
theorem De{P Q Av:Option Addr}{np cp nq cq nv cv:Nat}{f:List Pth}{v:List Int}(hp:Row Z3 1 w S P np cp f)(hv:Y1 w w.heap.size Av nv cv v)(hl:nv<=np)(hn:nv<=1000)(hs:∀p∈f,p.length<=1000000):
  Calls ai 60 #[.agg #[.slice P np cp,.slice Q nq cq],.slice Av nv cv] w (Told Z3 23 1 w (Vo v f)):=by
 have HVl:=hid hv.len
 have HPl:=hid hp.len
 have hb1:=Yb w (.cells #[.slice P np cp,.slice Q nq cq] 83)
 have hX:=Block.new w 83 #[.slice P np cp,.slice Q nq cq]
 have HP:=hid (hp.mv Zr (Mv.Yc hb1 S))
 have HV:=hid (hv.Yc hb1)
 have HKl:Hid ((Vo v f).length=nv):=hid (by rw[Kw (by rw[HVl.out,HPl.out];exact hl)];exact HVl.out)
 have HS:=hid hs
 clear hp hv hs;go_enter Tryz.func60,Tryz.ntmps60;go_wp2_with fail;obtain⟨bx,hbx⟩: ∃bx,w.heap.size=bx:=⟨_,rfl⟩
 have HB1:Hid (Below w.heap.size w (w.alloc (.cells #[.slice P np cp,.slice Q nq cq] 83))):=hid hb1
 clear hb1;rw[hbx]at hX⊢;generalize w.alloc (.cells #[.slice P np cp,.slice Q nq cq] 83)=w1 at hX HP HV HB1⊢
 have KX:Hid (∀y,Below w1.heap.size w1 y->y.cell? ⟨bx,0,none⟩=some (.slice P np cp)):=hid λy hy=>(hX.below hy hX.lt).cell 0
 have HBx:=hid hbx
 clear hX hbx;go_loopw [5,6] (λu i wr=>∃k:Nat,k<=nv/\i=.int .i64 k/\Hid (Yx Z3 23 1 wr w1.heap.size (λb=>w1.heap.size<=b) u ((Vo v f).take k))/\Below w1.heap.size w1 wr) (λ_ i _=>nv-(intOf i).toNat)
 case atStart=>exact⟨0,ar _,rfl,hid (Yx.Zk _ _ _),Below.refl _ _⟩
 case round=>
  obtain⟨k,hk,rfl,hO,hB⟩:=hrel
  have x0:=KX.out wr hB
  by_cases hlt:k<nv
  ·obtain⟨b,o,A',n',c',p,rfl,_,_,gk,hr,hpe⟩:=(HP.out.mv Zr (Mv.Yc hB S)).at1 (k:=k) (by omega)
   obtain⟨b2,o2,x,rfl,hb2,gx,ex⟩:=(HV.out.Yc hB).at_ hlt
   have i0:(0:Int)<=(k:Int):=by omega
   have i1:(k:Int)<(nv:Int):=by omega
   have i2:(k:Int)<(np:Int):=by omega
   have hxk:v[k]?=some x:=by
    have h1:k<v.length:=by rw[HVl.out];exact hlt
    rw[ex,aj,aa h1];rfl
   have hT:=hid (Z8 (Ygl hxk hpe.out))
   have hpl:n'<=1000000:=by have h1:=HS.out p (ae hpe.out);have h2:=hr.len;omega
   have HU:=hid (Yh4 (hr.Ef.drewN 1) x hpl)
   have hlo:=hO.out.lt
   have hz:=hB.size
   have hlb:Hid (((Vo v f).take k).length<=1000000):=hid (ao (db k _) (by omega))
   clear hr hxk ex hpe;go_wp2_with fail;go_region_law (first
    |(refine Gy Zr rfl _ _ rfl Ybp fh rfl (by decide) w1.heap.size _ _ _ rfl HO7.out _ rfl [.slice Ap na ca] rfl (upP p x) HC7.out (Ykm _ _ _) HE7.out hlb.out HS7.out ?_;intro v' w8 hO8 hG8)
    |(go_simp;go_at_call 115;refine HU.out.mono ?_;rintro e w6 ⟨⟨vp,rfl,hvp⟩,hb6⟩;have hb6':Below wr.heap.size wr w6:=(below_drewN (Below.refl _ wr) 1).trans hb6;obtain⟨Ap,na,ca,rfl,hrp⟩: ∃A n c,vp=.slice A n c/\Row Y9 1 w6 (λk=>wr.heap.size<=k/\vp.ownBlock=some k) A n c (upP p x):=(by obtain⟨A,c,e,h⟩:=hvp.row;exact⟨A,_,c,e,h⟩);have hb7:=hb6'.trans ((Yb w6 (.cells #[.slice Ap na ca] 23)).mono hb6'.size);have HB7:=hid hb7;have HO7:=hid (hO.out.below Zr hb7);have HC7:=hid (Ye2 w6 Ap na ca 23 w6.heap.size rfl);have HE7:Hid (Z3 (w6.alloc (.cells #[.slice Ap na ca] 23)) (λb=>w1.heap.size<=b/\u5.ownBlock≠some b) [.slice Ap na ca] (upP p x)):=hid ⟨Ap,na,ca,rfl,hrp.mv Ys ((Mv.alloc w6 _ _).trans (Mv.to _ λb hb _=>⟨ao hz hb.1,λe=>by have:=(hlo b e).2;have:=hb.1;omega⟩))⟩;have HS7:Hid (w1.heap.size<=(w6.alloc (.cells #[.slice Ap na ca] 23)).heap.size):=hid (ao hz hb7.size);clear hvp hrp hb6 hb6' hb7))
   all_goals
    have hF:=hid (show Yx Z3 23 1 w8 w1.heap.size (λb=>w1.heap.size<=b) v' ((Vo v f).take (k+1))/\Below w1.heap.size w1 w8 from⟨by rw[hT.out];exact hO8,(hB.trans (HB7.out.mono hz)).trans (hG8.Yv HS7.out λj e=>(hlo j e).1)⟩)
    clear hO8 hG8 HE7 HS7 HC7 HO7 HB7 x0 gk gx hO;go_wp2_with fail;go_roundw
    case rel=>exact⟨k+1,by omega,by go_num,hid hF.out.1,hF.out.2⟩
    case measure=>simp[intOf];omega
  ·have hall:(Vo v f).take k=Vo v f:=au (by have:=HKl.out;omega)
   have hz1:w.heap.size<=w1.heap.size:=HB1.out.size
   have hF:=hid (show Yx Z3 23 1 wr w.heap.size (λb=>w.heap.size<=b) u5 (Vo v f)/\Below w.heap.size w wr from⟨by
    have h1:=hO.out
    rw[hall]at h1;exact(h1.low hz1).to Zr λb hb _=>ao hz1 hb,Ya HB1.out hB⟩)
   clear hO hall;go_wp2_with fail;go_ret;exact⟨_,rfl,hF.out.1,hF.out.2⟩
theorem LtM.begin(W m:Nat)(h:Block w g 92 #[X1,X2,X3,.slice none 0 0,.slice none 0 0,.int .i64 0]):LtM w g X1 X2 X3 (.slice none 0 0) (.slice none 0 0) [] [] [] [] W m [] 0:=
 ⟨h,bz _ _ _ _,bz _ _ _ _,Dcs.Zk w,Cbs.Zk w W m,λd hd=>by simp at hd⟩
theorem Hq.begin(h:B<=g):Hq B g (.slice none 0 0) (.slice none 0 0) [] []:=by
 rintro k (rfl|hk|hk|⟨d,hd,_⟩|⟨d,hd,_⟩)
 ·exact h
 ·cases hk
 ·cases hk
 ·simp at hd
 ·simp at hd
theorem Mz(w:World)(y:Value)(t:TypeId)(g:Nat)(hg:g=w.heap.size):∀j u,[y][j]?=some u->(w.alloc (.cells #[y] t)).cell? ((⟨g,0,none⟩:Addr).add j)=some u:=by
 subst hg;intro j u hj
 match j,hj with
 |0,hj=>simp at hj;subst hj;simp[Yt,Zq]
 |j+1,hj=>simp at hj
theorem Ek(g:Nat):∀u∈[Wc g],u.oneCell'=true:=by
 intro u hu;rw[ay.1 hu];rfl
theorem Ycj(h:D[k]?=some (x,l)):(Yj D).take k++[l.length]=(Yj D).take (k+1):=by
 unfold Yj;rw[fj,bg,h];rfl
def Ylg(w:World)(D:List Yk)(M:List Txt)(V:List (List Int))(e:Ending)(w':World):Prop:=
 ∃g F R,e=.returned (.tuple #[.pointer (some ⟨g,0,none⟩),.int .i64 0])/\Lt w' R g F D M V (D.map λ_=>[]) ((Yg D V).map λ_=>[]) 0/\(∀k,F k->w.heap.size<=k)/\(∀k,R k->w.heap.size<=k/\k<w'.heap.size)/\Below w.heap.size w w'
theorem Ys9{c1 c2 c3:Nat}(h:Vr w R A1 n1 c1 A2 n2 c2 A3 n3 c3 D M V)(hf:Lz D)(hm:∀s∈M,s.length<=maxLen)(hn1:n1<=1000)(hno:¬Wk D M V):
  Calls ai 16 #[Si A1 n1 c1 A2 n2 c2 A3 n3 c3] w λe w'=>e=.returned (.tuple #[.pointer none,.int .i64 11])/\Below w.heap.size w w':=by
 have hb0:=(Yb w (.cells #[.slice A1 n1 c1,.slice A2 n2 c2,.slice A3 n3 c3] 26))
 have hbl:=(Block.new w 26 #[.slice A1 n1 c1,.slice A2 n2 c2,.slice A3 n3 c3])
 have HX:=hid (Qq (h.Yc hb0).has hf hm hn1)
 rw[decide_eq_false hno]at HX
 have k0:=hbl.cell 0
 have k1:=hbl.cell 1
 have k2:=hbl.cell 2
 clear h hf hm hno;go_enter ic,gm;go_wp2_with fail;generalize w.alloc (.cells #[.slice A1 n1 c1,.slice A2 n2 c2,.slice A3 n3 c3] 26)=W0 at hb0 hbl HX k0 k1 k2⊢;go_wp2_with fail;refine HX.out.mono ?_;rintro e w1 ⟨rfl,hB1⟩;go_wp2_with fail;go_ret2;exact⟨rfl,hb0.trans (hB1.mono hb0.size)⟩
theorem Yeh{c1 c2 c3:Nat}(h:Vr w R A1 n1 c1 A2 n2 c2 A3 n3 c3 D M V)(hf:Lz D)(hm:∀s∈M,s.length<=maxLen)(hyes:Wk D M V):
  Calls ai 16 #[Si A1 n1 c1 A2 n2 c2 A3 n3 c3] w (Ylg w D M V):=by
 have hb0:=(Yb w (.cells #[.slice A1 n1 c1,.slice A2 n2 c2,.slice A3 n3 c3] 26))
 have hbl:=(Block.new w 26 #[.slice A1 n1 c1,.slice A2 n2 c2,.slice A3 n3 c3])
 have hdims:=Ww hyes
 have hsm:=R1 hyes
 have hn1:=h.d.len
 have hn3:=h.v.len
 have HX:=hid (Qq (h.Yc hb0).has hf hm (by omega))
 rw[decide_eq_true hyes]at HX
 have HS0:=hid (h.Yc hb0)
 have HL3:Hid (∀d∈D,1<=d.2.length/\d.2.length<=3):=hid λd hd=>⟨(hyes.1.1 d hd).1,(hyes.1.1 d hd).2.1⟩
 have HV7:=hid (W8 hyes)
 have Hn:Hid (D.length=n1/\V.length=n3):=hid ⟨hn1,hn3⟩
 have hn3':n3<=1000:=by have:=hsm.v.1;omega
 have HSm:=hid hsm
 have HY:=hid hyes
 have k0:=hbl.cell 0
 have k1:=hbl.cell 1
 have k2:=hbl.cell 2
 have hd3:n1<=3:=by omega
 have hdW:Hid (1<=D.length/\D.length<=3/\1<=M.length/\M.length<=2):=hid hdims
 clear h hf hm hyes hdims hsm hn1 hn3;go_enter ic,gm;go_wp2_with fail;generalize w.alloc (.cells #[.slice A1 n1 c1,.slice A2 n2 c2,.slice A3 n3 c3] 26)=W0 at hb0 hbl HX HS0 k0 k1 k2⊢;go_wp2_with fail;refine HX.out.mono ?_;rintro e w1 ⟨rfl,hB1⟩
 have hbl1:=hbl.below hB1 hbl.lt
 have hB1':=hb0.trans (hB1.mono hb0.size)
 have k0:=hbl1.cell 0
 have k1:=hbl1.cell 1
 have k2:=hbl1.cell 2
 have HS1:=hid (HS0.out.Yc hB1)
 have HC:=hid (Cp HS1.out HSm.out)
 clear hbl HX HS0 hB1;go_wp2_with fail;refine HC.out.mono ?_;rintro e w2 ⟨⟨v1,v2,v3,rfl,hO⟩,hB2⟩
 have hbl2:=hbl1.below hB2 hbl1.lt
 have hlt1:=hbl1.lt
 have hz2:=hB2.size
 have HS2:=hid ((HS1.out.Yc hB2).mv (Mv.to w2 (S':=λb=>R b/\b<w2.heap.size) λb hb hl=>⟨hb,hl⟩))
 obtain⟨B1,d1,B2,d2,B3,d3,rfl,rfl,rfl,hSR⟩:=hO.read
 have HSR:=hid hSR
 have hb3:=Yb w2 (.cells #[.slice B1 D.length d1,.slice B2 M.length d2,.slice B3 V.length d3,.slice none 0 0,.slice none 0 0,.int .i64 0] 92)
 have hg3:=Block.new w2 92 #[.slice B1 D.length d1,.slice B2 M.length d2,.slice B3 V.length d3,.slice none 0 0,.slice none 0 0,.int .i64 0]
 have hbl3:=hbl2.below hb3 hbl2.lt
 have k0:=hbl3.cell 0
 have hLB:=LtM.begin D.length M.length hg3
 have hlt2:=hbl2.lt
 have HBl2:=hid hbl2
 obtain⟨w3,hw3⟩: ∃w3,w3=w2.alloc (.cells #[.slice B1 D.length d1,.slice B2 M.length d2,.slice B3 V.length d3,.slice none 0 0,.slice none 0 0,.int .i64 0] 92):=⟨_,rfl⟩
 have HL0:Hid (∃dv ds,LtM w3 w2.heap.size (.slice B1 D.length d1) (.slice B2 M.length d2) (.slice B3 V.length d3) dv (.slice none 0 0) ds [] ((Yj D).take 0) (ak 0 []) D.length M.length [] 0/\Hq w2.heap.size w2.heap.size dv (.slice none 0 0) ds []):=by rw[hw3];exact hid ⟨_,_,hLB,Hq.begin (an _)⟩
 clear hbl1 hO hSR HC hbl2 hg3 hLB hbl3;go_wp2_with fail;rw[<-hw3]at hb3 k0⊢;clear hw3;go_loopw [17] (λi wr=>∃k:Nat,k<=n1/\i=.int .i64 k/\Hid (∃dv ds,LtM wr w2.heap.size (.slice B1 D.length d1) (.slice B2 M.length d2) (.slice B3 V.length d3) dv (.slice none 0 0) ds [] ((Yj D).take k) (ak k []) D.length M.length [] 0/\Hq w2.heap.size w2.heap.size dv (.slice none 0 0) ds [])/\Below w2.heap.size w2 wr) (λi _=>n1-(intOf i).toNat)
 case atStart=>exact⟨0,ar _,rfl,HL0,hb3⟩
 case round=>
  obtain⟨k,hk,rfl,hO,hB⟩:=hrel
  by_cases hlt:k<n1
  ·obtain⟨b,o,A',n',c',x,l,rfl,g0,g1,hl,he⟩:=(HS2.out.d.mv Vw (Mv.below hB λb hb=>hb.2)).atD hlt
   have i0:(0:Int)<=(k:Int):=by omega
   have i1:(k:Int)<(n1:Int):=by omega
   obtain⟨s1,s2⟩:=HL3.out (x,l) (ae he.out)
   have hll:=hl.len
   have hT:=hid (Ycj he.out)
   obtain⟨dv,ds,hLt,hF⟩:=hO.out
   have hdl:=hLt.dcs.len
   rw[fl,show(Yj D).length=n1 from by unfold Yj;rw[aq,Hn.out.1]]at hdl
   have hdk:ds.length=k:=by omega
   obtain⟨Ad,cd,edv⟩:=Rc hLt.dr;rw[hdk]at edv;subst edv
   have hb0':=Yb wr (.cells #[.string ⟨x.toArray⟩,.slice A' n' c'] 75)
   have hdm:=Yks wr (.string ⟨x.toArray⟩) (.slice A' n' c')
   have e0:=hdm.cell 0
   have e1:=hdm.cell 1
   have hLt0:=hLt.below hb0'
   have hB0:=hB.trans (hb0'.mono hB.size)
   have p0:=hLt0.c3
   have HLt:=hid hLt0
   have HF:=hid hF
   clear hl hO hB hLt hLt0 hF hdl;go_wp2_with fail;generalize wr.alloc (.cells #[.string ⟨x.toArray⟩,.slice A' n' c'] 75)=W at hb0' hdm hB0 e0 e1 p0 HLt⊢
   have hn':1<=n'∧n'<=3:=by have h1:1<=l.length:=s1;have h2:l.length<=3:=s2;omega
   have HN:=hid (Yt5 W.drew hn')
   have hdr:=hid (show ∀y,Below W.heap.size W y->y.ownsRow 0 94 1 (.slice Ad k cd) k (ds.map λd=>Wc d.1)from λy hy=>by have:=(HLt.out.below hy).dr;rwa [hdk]at this)
   have HB0:=hid hB0
   clear hdm hb0' hB0 hn';go_region_law (first
    |(refine Gm rfl _ _ rfl Ygu dd rfl (by decide) 0 (.slice Ad k cd) k _ rfl HR7.out _ rfl [.pointer (some ⟨W.heap.size+1,0,none⟩)] rfl HC7.out (Ek _) (by omega) (ar _) ?_;intro v' w8 hO8 hG8;obtain⟨A8,c8,e8⟩:=Rc hO8;subst e8;obtain⟨hb8,hM8,hF8⟩:=HLt.out.Vi (d:=(W.heap.size+1,.slice none 0 0,W.heap.size)) (Q:=[]) HB7.out HD7.out HF7.out (by rw[hdk];exact hO8) hG8;have p8:w8.cell? ⟨w2.heap.size,3,none⟩=some (.slice Ad k cd):=hb8.cell 3;have f8:=hb8.free 3;have HM8:=hid hM8;have HF8:=hid (hF8 w2.heap.size HF.out HB0.out.size);clear hM8 hF8 hb8 hO8 hG8)
    |(go_simp;go_at_call 43;refine HN.out.mono ?_;rintro e w6 ⟨rfl,hd6,hB6⟩;have hb6:Below W.heap.size W w6:=(below_drewN (Below.refl _ W) 1).trans hB6;have p6:w6.cell? ⟨w2.heap.size,3,none⟩=some (.slice Ad k cd):=(HLt.out.below hb6).c3;have hb7:=hb6.trans ((Yb w6 (.cells #[.pointer (some ⟨W.heap.size+1,0,none⟩)] 94)).mono hb6.size);have HB7:=hid hb7;have pa:(w6.alloc (.cells #[.pointer (some ⟨W.heap.size+1,0,none⟩)] 94)).cell? ⟨w2.heap.size,3,none⟩=some (.slice Ad k cd):=(HLt.out.below hb7).c3;have HR7:=hid (hdr.out _ hb7);have HC7:=hid (Mz w6 (.pointer (some ⟨W.heap.size+1,0,none⟩)) 94 w6.heap.size rfl);have HD7:=hid ((hd6.below (Yb w6 (.cells #[.pointer (some ⟨W.heap.size+1,0,none⟩)] 94))).low (ar _));have HF7:Hid (∀q,Vc (W.heap.size+1,.slice none 0 0,W.heap.size) q->W.heap.size<=q):=hid (λq hq=>(hd6.Jy hq).1);clear hd6 hB6 hb6 hb7))
   all_goals
    have hFin:=hid (show(∃dv ds,LtM (w8.setCell ⟨w2.heap.size,3,none⟩ (.slice A8 (k+1) c8)) w2.heap.size (.slice B1 D.length d1) (.slice B2 M.length d2) (.slice B3 V.length d3) dv (.slice none 0 0) ds [] ((Yj D).take (k+1)) (ak (k+1) []) D.length M.length [] 0/\Hq w2.heap.size w2.heap.size dv (.slice none 0 0) ds [])/\Below w2.heap.size w2 (w8.setCell ⟨w2.heap.size,3,none⟩ (.slice A8 (k+1) c8))from
     ⟨⟨_,_,by have h:=HM8.out;rw[show(Yj D).take k++[n']=(Yj D).take (k+1)by rw[<-hT.out,hll],show ak k ([]:List Pth)++[[]]=ak (k+1) []from ez.symm]at h;exact h,HF8.out.1⟩,HB0.out.trans HF8.out.2⟩)
    clear HM8 HF8 p8 f8 p6 pa HB7 HR7 HC7 HD7 HF7 p0 HLt HF HN hdr HB0;go_wp2_with fail;go_roundw
    case rel=>exact⟨k+1,by omega,by go_num,hid hFin.out.1,hFin.out.2⟩
    case measure=>simp[intOf];omega
  ·obtain rfl:k=n1:=by omega
   obtain⟨dv,ds,hLt,hF⟩:=hO.out
   have hNl:(Yj D).length=k:=by unfold Yj;rw[aq,Hn.out.1]
   rw[au (by omega)]at hLt
   have hbs:=HBl2.out.below hB hlt2
   have k0:=hbs.cell 0
   have k1:=hbs.cell 1
   have k2:=hbs.cell 2
   have HSr:=hid (HS2.out.mv (Mv.below hB λb hb=>hb.2))
   have HVw:=hid (Ycc HSr.out.has (by omega) (by omega) HSm.out.v.2)
   have HLt:=hid hLt
   have HF:=hid hF
   clear hLt hF hO hbs;go_wp2_with fail;refine HVw.out.mono ?_;rintro e w4 ⟨⟨v,rfl,hv⟩,hB4⟩;obtain⟨Av,cv,rfl,_⟩:=hv.form;obtain⟨nv,hnv⟩: ∃nv,Hid ((Yg D V).length=nv):=⟨_,hid rfl⟩
   have hnv7:nv<=7:=by have:=HV7.out;rw[hnv.out]at this;exact this
   have hB5:=hB.trans (hB4.mono hB.size)
   have HL2:Hid (∃vv vs,LtM w4 w2.heap.size (.slice B1 D.length d1) (.slice B2 M.length d2) (.slice B3 V.length d3) dv vv ds vs (Yj D) (ak k []) D.length M.length (ak 0 []) 0/\Hq w2.heap.size w2.heap.size dv vv ds vs):=hid ⟨_,_,HLt.out.below hB4,HF.out⟩
   rw[hnv.out];clear hv HVw HLt HF hB4 hB;go_wp2_with fail;go_loopw [38] (λi wr=>∃j:Nat,j<=nv/\i=.int .i64 j/\Hid (∃vv vs,LtM wr w2.heap.size (.slice B1 D.length d1) (.slice B2 M.length d2) (.slice B3 V.length d3) dv vv ds vs (Yj D) (ak k []) D.length M.length (ak j []) 0/\Hq w2.heap.size w2.heap.size dv vv ds vs)/\Below w2.heap.size w2 wr) (λi _=>nv-(intOf i).toNat)
   case atStart=>exact⟨0,ar _,rfl,HL2,hB5⟩
   case round=>
    obtain⟨j,hj,rfl,hO,hB⟩:=hrel
    by_cases hlt:j<nv
    ·have i0:(0:Int)<=(j:Int):=by omega
     have i1:(j:Int)<(nv:Int):=by omega
     obtain⟨vv,vs,hLt,hF⟩:=hO.out
     have hvl:=hLt.cbs.len
     rw[List.length_replicate]at hvl;obtain⟨Ad,cd,edv⟩:=Rc hLt.vr;rw[hvl]at edv;subst edv
     have p0:=hLt.c4
     have hLd:=hLt.drewN 1
     have HN:=hid (Ai hLd.c0 hLd.c1 hdW.out (by have:=hLd.blk.lt;exact this))
     have hdr:=hid (show ∀y,Below wr.heap.size wr y->y.ownsRow 0 96 1 (.slice Ad j cd) j (vs.map λd=>Wc d.1)from λy hy=>by have:=(hLt.below hy).vr;rwa [hvl]at this)
     have HLt:=hid hLt
     have HF:=hid hF
     have HB0:=hid hB
     clear hO hB hLt hF hLd;go_wp2_with fail;go_region_law (first
      |(refine Gm rfl _ _ rfl Yre Tryz.underlying90 rfl (by decide) 0 (.slice Ad j cd) j _ rfl HR7.out _ rfl [.pointer (some ⟨gq,0,none⟩)] rfl HC7.out (Ek _) (by omega) (ar _) ?_;intro v' w8 hO8 hG8;obtain⟨A8,c8,e8⟩:=Rc hO8;subst e8;obtain⟨hb8,hM8,hF8⟩:=HLt.out.Kv (c:=(gq,bq)) (C:=[]) HB7.out HD7.out HF7.out (by rw[hvl];exact hO8) hG8;have p8:w8.cell? ⟨w2.heap.size,4,none⟩=some (.slice Ad j cd):=hb8.cell 4;have f8:=hb8.free 4;have HM8:=hid hM8;have HF8:=hid (hF8 w2.heap.size HF.out HB0.out.size);clear hM8 hF8 hb8 hO8 hG8)
      |(go_simp;go_at_call 45;refine HN.out.mono ?_;rintro e w6 ⟨⟨v,rfl,gq,bq,rfl,hd6,hg1,hg2⟩,hB6⟩;have hb6:Below wr.heap.size wr w6:=(below_drewN (Below.refl _ wr) 1).trans hB6;have p6:w6.cell? ⟨w2.heap.size,4,none⟩=some (.slice Ad j cd):=(HLt.out.below hb6).c4;have hb7:=hb6.trans ((Yb w6 (.cells #[.pointer (some ⟨gq,0,none⟩)] 96)).mono hb6.size);have HB7:=hid hb7;have pa:(w6.alloc (.cells #[.pointer (some ⟨gq,0,none⟩)] 96)).cell? ⟨w2.heap.size,4,none⟩=some (.slice Ad j cd):=(HLt.out.below hb7).c4;have HR7:=hid (hdr.out _ hb7);have HC7:=hid (Mz w6 (.pointer (some ⟨gq,0,none⟩)) 96 w6.heap.size rfl);have HD7:=hid (hd6.Yc (Yb w6 (.cells #[.pointer (some ⟨gq,0,none⟩)] 96)));have HF7:Hid (∀q,Ui (gq,bq) q->wr.heap.size<=q):=hid (λq hq=>by rcases hq with rfl|rfl;exact hg1;exact hg2);clear hd6 hB6 hb6 hb7 hg1 hg2))
     all_goals
      have hFin:=hid (show(∃vv vs,LtM (w8.setCell ⟨w2.heap.size,4,none⟩ (.slice A8 (j+1) c8)) w2.heap.size (.slice B1 D.length d1) (.slice B2 M.length d2) (.slice B3 V.length d3) dv vv ds vs (Yj D) (ak k []) D.length M.length (ak (j+1) []) 0/\Hq w2.heap.size w2.heap.size dv vv ds vs)/\Below w2.heap.size w2 (w8.setCell ⟨w2.heap.size,4,none⟩ (.slice A8 (j+1) c8))from
       ⟨⟨_,_,by have h:=HM8.out;rw[show ak j ([]:Cub)++[[]]=ak (j+1) []from ez.symm]at h;exact h,HF8.out.1⟩,HB0.out.trans HF8.out.2⟩)
      clear HM8 HF8 p8 f8 p6 pa HB7 HR7 HC7 HD7 HF7 p0 HLt HF HN hdr HB0;go_wp2_with fail;go_roundw
      case rel=>exact⟨j+1,by omega,by go_num,hid hFin.out.1,hFin.out.2⟩
      case measure=>simp[intOf];omega
    ·obtain rfl:j=nv:=by omega
     have hFin:=hid (show Ylg w D M V (.returned (.tuple #[.pointer (some ⟨w2.heap.size,0,none⟩),.int .i64 0])) wr from by
      obtain⟨vv,vs,hLt,hF⟩:=hO.out
      have hw:Below w.heap.size w w2:=hB1'.trans (hB2.mono hB1'.size)
      refine⟨w2.heap.size,Zp w2.heap.size dv vv ds vs,λq=>w1.heap.size<=q/\q<w2.heap.size,rfl,⟨dv,vv,ds,vs,B1,D.length,d1,B2,M.length,d2,B3,V.length,d3,?_,?_,λ_=>Iff.rfl,λq hq hq'=>?_,HY.out,by rw[aq]⟩,λq hq=>?_,λq hq=>⟨ao hB1'.size hq.1,Nat.lt_of_lt_of_le hq.2 hB.size⟩,hw.trans (hB.mono hw.size)⟩
      ·rw[show D.map (λ_=>([]:List Pth))=ak k []by rw[fo,Hn.out.1],show(Yg D V).map (λ_=>([]:Cub))=ak j []by rw[fo,hnv.out]]
       exact hLt
      ·exact HSR.out.mv (Mv.below hB λb hb=>hb.2)
      ·have:=hF q hq'
       omega
      ·have:=hF q hq
       have:=hw.size
       omega)
     clear hO hB;go_wp2_with fail;go_ret2;exact hFin.out
section
section
variable {w w' : World}{g:Nat}{X1 X2 X3 dv vv:Value}{ds:List DAt}{vs:List CAt}{N:List Nat}{Qs:List (List Pth)}{W m:Nat}{Cs:List Cub}{cnt:Int}
theorem Jp{α β:Type}{f:α->β}{L:List α}{i:Nat}{x y:α}(h:L[i]?=some x)(e:f y=f x):(L.set i y).map f=L.map f:=by
 refine fk λj=>?_
 rw[bg,bg,bo]
 by_cases hij:i=j
 ·subst hij
  rw[if_pos rfl,if_pos (ag.1 h).1,h];simp[e]
 ·rw[if_neg hij]
theorem LtM.Ytp(h:LtM w g X1 X2 X3 dv vv ds vs N Qs W m Cs cnt){i:Nat}{d:DAt}(hi:ds[i]?=some d)(hc:Chg (Vc d) w w'){pv':Value}{Q':List Pth}(hd:Dc w' 0 d.1 pv' d.2.2 (N.getD i 0) Q')(hf:∀k,pv'.ownBlock=some k->d.2.1.ownBlock=some k∨w.heap.size<=k):
  LtM w' g X1 X2 X3 dv vv (ds.set i (d.1,pv',d.2.2)) vs N (Qs.set i Q') W m Cs cnt/\∀k,Zp g dv vv (ds.set i (d.1,pv',d.2.2)) vs k->Zp g dv vv ds vs k∨w.heap.size<=k:=by
 have hm:=ae hi
 have hf': ∀k,Vc (d.1,pv',d.2.2) k->Vc d k∨w.heap.size<=k:=by
  rintro k (hk|hk|hk)
  ·exact .inl (.inl hk)
  ·rcases hf k hk with h2|h2
   ·exact .inl (.inr (.inl h2))
   ·exact .inr h2
  ·exact .inl (.inr (.inr hk))
 refine⟨⟨h.blk.chg hc (h.d_g hm),?_,hc.row h.vr λk hk hk'=>Tv h.vr (h.dcs.at_ i d hi) (by decide) (by decide) hk hk',h.dcs.Yz hi hc hd hf',h.cbs.chg hc λc hc' k hk hk'=>h.apart d hm c hc' k hk' hk,?_⟩,?_⟩
 ·rw[cn,Jp (f:=λd:DAt=>Wc d.1) (y:=(d.1,pv',d.2.2)) hi rfl]
  exact hc.row h.dr λk hk hk'=>Tv h.dr (h.dcs.at_ i d hi) (by decide) (by decide) hk hk'
 ·intro e he c hc' k hk hkc
  rcases bn he with he|rfl
  ·exact h.apart e he c hc' k hk hkc
  ·rcases hf' k hk with h2|h2
   ·exact h.apart d hm c hc' k h2 hkc
   ·have:=h.cbs.lt hc' hkc;omega
 ·rintro k (hk|hk|hk|⟨e,he,hk⟩|hk)
  ·exact .inl (.inl hk)
  ·exact .inl (.inr (.inl hk))
  ·exact .inl (.inr (.inr (.inl hk)))
  ·rcases bn he with he|rfl
   ·exact .inl (.inr (.inr (.inr (.inl ⟨e,he,hk⟩))))
   ·rcases hf' k hk with h2|h2
    ·exact .inl (.inr (.inr (.inr (.inl ⟨d,hm,h2⟩))))
    ·exact .inr h2
  ·exact .inl (.inr (.inr (.inr (.inr hk))))
theorem Yph{B size n':Nat}{e:TypeId}{v:Value}{xs:List Value}{base n:Nat}{Q:List Pth}{d:DAt}(hr:w.ownsRow B e size v n' xs)(hD:Dc w base d.1 d.2.1 d.2.2 n Q)(hc:Chg (Vc d) w w')(h1:e≠160)(h2:e≠168):w'.ownsRow B e size v n' xs:=hc.row hr λ_ hk hk'=>Tv hr hD h1 h2 hk hk'
end
structure X0 (w0:World) (F0:Nat->Prop) (w:World) (g:Nat) (X1 X2 X3 dv vv:Value) (ds:List DAt) (vs:List CAt) (N:List Nat) (Qs:List (List Pth)) (W m:Nat) (Cs:List Cub) (cnt:Int):Prop where
 lt:LtM w g X1 X2 X3 dv vv ds vs N Qs W m Cs cnt
 chg:Chg F0 w0 w
 Tf:∀k,Zp g dv vv ds vs k->F0 k∨w0.heap.size<=k
section
variable {w0 w w' : World}{F0:Nat->Prop}{g:Nat}{X1 X2 X3 dv vv:Value}{ds:List DAt}{vs:List CAt}{N:List Nat}{Qs:List (List Pth)}{W m:Nat}{Cs:List Cub}{cnt:Int}
theorem X0.begin(h:LtM w g X1 X2 X3 dv vv ds vs N Qs W m Cs cnt):X0 w (Zp g dv vv ds vs) w g X1 X2 X3 dv vv ds vs N Qs W m Cs cnt:=⟨h,Chg.refl _ _,λ_ hk=>.inl hk⟩
theorem X0.below(h:X0 w0 F0 w g X1 X2 X3 dv vv ds vs N Qs W m Cs cnt)(hb:Below w.heap.size w w'):X0 w0 F0 w' g X1 X2 X3 dv vv ds vs N Qs W m Cs cnt:=
 ⟨h.lt.below hb,h.chg.trans (S':=λ_=>False) (Chg.Y2 hb (an _)) (λ_ _ h=>h.elim),h.Tf⟩
theorem X0.Lq(h:X0 w0 F0 w g X1 X2 X3 dv vv ds vs N Qs W m Cs cnt){v v':Value}{B size n:Nat}{e:TypeId}{xs:List Value}(hr:w.ownsRow B e size v n xs)(hG:Zl w v w' v')(hB:w0.heap.size<=B)(h1:¬St (.cells #[] e (0,0))):X0 w0 F0 w' g X1 X2 X3 dv vv ds vs N Qs W m Cs cnt:=by
 have hc:=Ng hG
 refine⟨h.lt.chg hc λk hk hv=>?_,h.chg.trans hc λk hk hv=>?_,h.Tf⟩
 ·obtain⟨o,ho,hl⟩:=h.lt.kind hk
  obtain⟨cs,fr,he⟩:=X8 hr hv;rw[he]at ho;rw[<-ax ho]at hl;exact h1 hl
 ·have:=(bs hr k hv).1
  omega
theorem X0.Ytp(h:X0 w0 F0 w g X1 X2 X3 dv vv ds vs N Qs W m Cs cnt){i:Nat}{d:DAt}(hi:ds[i]?=some d)(hc:Chg (Vc d) w w'){pv':Value}{Q':List Pth}(hd:Dc w' 0 d.1 pv' d.2.2 (N.getD i 0) Q')(hf:∀k,pv'.ownBlock=some k->d.2.1.ownBlock=some k∨w.heap.size<=k):
  X0 w0 F0 w' g X1 X2 X3 dv vv (ds.set i (d.1,pv',d.2.2)) vs N (Qs.set i Q') W m Cs cnt:=by
 obtain⟨h1,h2⟩:=h.lt.Ytp hi hc hd hf
 have hz:=h.chg.size
 refine⟨h1,h.chg.trans hc λk hk hd'=>?_,λk hk=>?_⟩
 ·rcases h.Tf k (.inr (.inr (.inr (.inl ⟨d,ae hi,hd'⟩))))with h3|h3
  ·exact h3
  ·omega
 ·rcases h2 k hk with h3|h3
  ·exact h.Tf k h3
  ·exact .inr (by omega)
theorem X0.mv(h:X0 w0 F0 w g X1 X2 X3 dv vv ds vs N Qs W m Cs cnt){S:Nat->Prop}(hS:∀b,S b→¬F0 b):Mv w0 (λb=>S b/\b<w0.heap.size) w (λb=>S b/\b<w0.heap.size):=λb hb hl=>⟨h.chg.block b hl (hS b hb.1),hb⟩
theorem X0.far(h:X0 w0 F0 w g X1 X2 X3 dv vv ds vs N Qs W m Cs cnt){S:Nat->Prop}(hS:∀b,S b→¬F0 b){b:Nat}(hb:S b/\b<w0.heap.size):¬Zp g dv vv ds vs b:=λhk=>by
 rcases h.Tf b hk with h1|h1
 ·exact hS b hb.1 h1
 ·omega
end
section
variable {w0 w1 w w' : World}{F0:Nat->Prop}{g:Nat}{X1 X2 X3 dv vv:Value}{ds ds1:List DAt}{vs:List CAt}{N:List Nat}{Qs Rs:List (List Pth)}{W m:Nat}{Cs:List Cub}{cnt:Int}
theorem X0.trans(h:X0 w0 F0 w1 g X1 X2 X3 dv vv ds1 vs N Rs W m Cs cnt)(h':X0 w1 (Zp g dv vv ds1 vs) w g X1 X2 X3 dv vv ds vs N Qs W m Cs cnt):X0 w0 F0 w g X1 X2 X3 dv vv ds vs N Qs W m Cs cnt:=by
 have hz:=h.chg.size
 refine⟨h'.lt,h.chg.trans h'.chg λk hk hf=>?_,λk hk=>?_⟩
 ·rcases h.Tf k hf with h1|h1
  ·exact h1
  ·omega
 ·rcases h'.Tf k hk with h1|h1
  ·exact h.Tf k h1
  ·exact .inr (by omega)
theorem Yfd{B size n':Nat}{e:TypeId}{v:Value}{xs:List Value}(hr:w.ownsRow B e size v n' xs)(hL:LtM w g X1 X2 X3 dv vv ds vs N Qs W m Cs cnt)(hc:Chg (Zp g dv vv ds vs) w w')(h1:¬St (.cells #[] e (0,0))):w'.ownsRow B e size v n' xs:=hc.row hr λk hk hk'=>by
 obtain⟨o,ho,hl⟩:=hL.kind hk';obtain⟨cs,fr,he⟩:=X8 hr hk;rw[he]at ho;rw[<-ax ho]at hl;exact h1 hl
theorem Ya9:¬St (.cells #[] 3 (0,0)):=by unfold St;decide
theorem Bd:¬St (.cells #[] 47 (0,0)):=by unfold St;decide
theorem We.Yuz{B:Nat}{v:Value}{L:List (List Int)}(h:We w B v L)(hL:LtM w g X1 X2 X3 dv vv ds vs N Qs W m Cs cnt)(hc:Chg (Zp g dv vv ds vs) w w'):We w' B v L:=by
 obtain⟨xs,h1,h2⟩:=h;exact⟨xs,Yfd h1 hL hc Bd,λi q hi=>by
  obtain⟨x,e,hx⟩:=h2 i q hi;exact⟨x,e,Yfd hx hL hc Ya9⟩⟩
end
end
def Yaa(w:World)(F0:Nat->Prop)(g:Nat)(X1 X2 X3 dv vv:Value)(vs:List CAt)(N:List Nat)(Qs:List (List Pth))(W m:Nat)(Cs:List Cub)(cnt:Int)(G:List Fct)(e:Ending)(w':World):Prop:=
 ∃ds' Qs',X0 w F0 w' g X1 X2 X3 dv vv ds' vs N Qs' W m Cs cnt/\(((Zi N Qs G).2=0/\Qs'=(Zi N Qs G).1/\∃v,e=.returned (.tuple #[v,.int .i64 0])/\We w' w.heap.size v (V1 N Qs' G))∨((Zi N Qs G).2≠0/\e=.returned (.tuple #[.slice none 0 0,.int .i64 (((Zi N Qs G).2:Nat):Int)])))
theorem Ymo{ds:List DAt}{vs:List CAt}(h:LtM w g X1 X2 X3 dv vv ds vs N Qs W m Cs cnt){S:Nat->Prop}{A:Option Addr}{n c:Nat}{G:List Fct}(hF:Sz w S A n c G)(hS:∀b,S b→¬Zp g dv vv ds vs b)(hn:n<=1000)(hG:∀f∈G,f.1.length=N.length)(hN:N.length<=3):
  Calls ai 50 #[.pointer (some ⟨g,0,none⟩),.slice A n c] w (Yaa w (Zp g dv vv ds vs) g X1 X2 X3 dv vv vs N Qs W m Cs cnt G):=by
 have HF:Hid (Sz w (λb=>S b/\b<w.heap.size) A n c G):=hid (hF.mv Y3 (Mv.to w λb hb hl=>⟨hb,hl⟩))
 obtain⟨F0,hF0⟩: ∃F0,Hid (Zp g dv vv ds vs=F0):=⟨_,hid rfl⟩
 have hC0:=X0.begin h
 rw[hF0.out]at hC0 hS⊢
 have HC0:=hid hC0
 have HG:=hid hG
 have Hgood:=hid h.dcs.good
 have HNl:=hid hN
 have HS:=hid hS
 have Hlen:=hid hF.len
 obtain⟨Ad,cd,edv,_,_⟩:=h.K5;subst edv;clear h hF hC0 hG hS;go_enter Tryz.func50,Tryz.ntmps50;go_wp2_with fail;go_loopw [6,16] (λkv i wr=>∃(k:Nat) (ds1:List DAt) (Rs:List (List Pth)),k<=n/\i=.int .i64 k/\Hid (X0 w F0 wr g X1 X2 X3 (.slice Ad N.length cd) vv ds1 vs N Rs W m Cs cnt/\Zi N Qs (G.take k)=(Rs,0)/\We wr w.heap.size kv (V1 N Rs (G.take k)))) (λ_ i _=>n-(intOf i).toNat)
 case atStart=>exact⟨0,ds,Qs,ar _,rfl,hid ⟨HC0.out,rfl,We.Zk _ _⟩⟩
 case round=>
  obtain⟨k,ds1,Rs,hk,rfl,hO⟩:=hrel
  by_cases hlt:k<n
  ·obtain⟨b,o,A1,n1,c1,A2,n2,c2,P,q,rfl,hSb,hbl,g0w,g1w,hp,_,he⟩:=HF.out.at2 hlt
   obtain⟨hCm,hAd,hKs⟩:=hO.out
   have hkb:=hCm.chg.block b hbl (HS.out b hSb.1)
   have g0:wr.cell? ⟨b,o+k*2,none⟩=some (.slice A1 n1 c1):=(dy hkb).trans g0w
   have g1:wr.cell? ⟨b,o+k*2+1,none⟩=some (.slice A2 n2 c2):=(dy hkb).trans g1w
   have i0:(0:Int)<=(k:Int):=by omega
   have i1:(k:Int)<(n:Int):=by omega
   have hb1:=Yb wr (.cells #[.slice A1 n1 c1,.slice A2 n2 c2] 83)
   have f0:=(Block.new wr 83 #[.slice A1 n1 c1,.slice A2 n2 c2]).cell 0
   have HCm:=hid (hCm.below hb1)
   have HKs:=hid (hKs.below hb1)
   have hzw:=hCm.chg.size
   have hzb:=hb1.size
   have HAd:=hid hAd
   have hPl:=HG.out _ (ae he.out)
   have hPn:n1=N.length:=by rw[<-hPl];exact hp.len.symm
   subst hPn
   have HP:=hid hp
   have HPl:Hid (P.length=N.length):=hid hPl
   have hga:=Q7 Hgood.out hAd
   have HGa:=hid hga
   have hRl:Hid (Rs.length=N.length):=hid hga.1.len
   clear hO hCm hAd hKs hkb g0w g1w hp hPl hga hbl;go_wp2_with fail;generalize wr.alloc (.cells #[.slice A1 N.length c1,.slice A2 n2 c2] 83)=W0 at hb1 f0 HCm HKs hzb⊢
   have HL0:=hid (X0.begin HCm.out.lt)
   go_loopw [9,23] (λkv2 i2 w2=>∃(j:Nat) (ds2:List DAt),j<=N.length/\i2=.int .i64 j/\Hid (X0 W0 (Zp g (.slice Ad N.length cd) vv ds1 vs) w2 g X1 X2 X3 (.slice Ad N.length cd) vv ds2 vs N (Qh N Rs P j) W m Cs cnt/\(∀i,i<j->Ru N Rs P i=0)/\Yi w2 W0.heap.size kv2 ((Xk (Vi N Rs P) (Rr N) P).take j))) (λ_ i _=>N.length-(intOf i).toNat)
   case atStart=>exact⟨0,ds1,ar _,rfl,hid ⟨by rw[Cv];exact HL0.out,λi hi=>absurd hi (by omega),Yi.Zk _ _⟩⟩
   case round=>
    obtain⟨j,ds2,hj,rfl,hO2⟩:=hrel
    by_cases hlt2:j<N.length
    ·obtain⟨hC2,hE2,hK2⟩:=hO2.out
     have hCC:=HCm.out.trans hC2
     obtain⟨b1,o1,A',n',c',p,rfl,hSb1,_,gp,hpp,hpe⟩:=(HP.out.mv Wv (hCC.mv HS.out)).at1 hlt2;obtain⟨Ad',cd',edv,hdl,hat⟩:=hC2.lt.K5;injection edv with e1 _ e3
     subst e1 e3;obtain⟨d,hdk⟩: ∃d,Hid (ds2[j]?=some d):=⟨_,hid (aa (by omega))⟩
     obtain⟨bd,rfl,_,_,gd⟩:=hat j d hdk.out
     have c3:=hC2.lt.c3
     have hD:=hC2.lt.dcs.at_ j d hdk.out
     rw[Yb1 hRl.out HPl.out hlt2]at hD
     have epj:P.getD j []=p:=by rw[aj,hpe.out];rfl
     have hfar:0<n'→∀ad,A'=some ad→¬Tf d.1 d.2.1 d.2.2 ad.block:=λhn' ad ead hf=>by
      obtain⟨b9,o9,_,_,e9,hS9,_⟩:=hpp.at_ hn';rw[ead]at e9;injection e9 with e9
      rw[e9]at hf;exact hCC.far HS.out hS9 (.inr (.inr (.inr (.inl ⟨d,ae hdk.out,hf⟩))))
     obtain⟨er,her⟩: ∃er,Hid (Qm (N.getD j 0) (Rs.getD j []) p=er):=⟨_,hid rfl⟩
     have hX:=Yuk hD hpp.Ef hfar
     unfold Yki at hX;rw[her.out]at hX
     have hej:Hid (Ru N Rs P j=er):=hid (by show Qm _ _ (P.getD j [])=er;rw[epj];exact her.out)
     have HQj:Hid (Vt (N.getD j 0) (Rs.getD j []) p=C5 N Rs P j):=hid (by show _=Vt _ _ (P.getD j []);rw[epj])
     have j0:(0:Int)<=(j:Int):=by omega
     have j1:(j:Int)<(N.length:Int):=by omega
     have hnj:=(Hgood.out.get hlt2).lv
     have HC2:=hid hC2
     have HE2:=hid hE2
     have HK2:=hid hK2
     have HD:=hid hD
     by_cases hez:er=0
     ·subst hez
      have HX:=hid hX
      clear hX hfar hO2 hC2 hE2 hK2 hD hpp hat hCC;go_wp2_with fail;refine HX.out.mono ?_;rintro e w3 ⟨v3,pv3,rfl,hT3,hD3,hch3,hown3⟩;rw[HQj.out]at hD3
      have hC3:=HC2.out.Ytp hdk.out hch3 hD3 hown3
      rw[Cf hRl.out HPl.out hlt2]at hC3;obtain⟨A3,m3,c3',rfl,hI3,_⟩:=hT3.read;obtain⟨hl3,hv3⟩:=Ynd her.out hnj.1
      have hm3:m3=N.getD j 0:=by rw[<-hl3];exact hI3.len.symm
      obtain⟨r,hr⟩: ∃r,Hid (N.getD j 0=r+1):=⟨N.getD j 0-1,hid (by omega)⟩
      rw[hr.out]at hm3 hv3;subst hm3;rw[Nat.add_sub_cancel]at hv3;obtain⟨b3,o3,x3,rfl,_,gx,ex3⟩:=hI3.at_ (k:=r) (by omega)
      rw[hr.out]at ex3
      have hx3:Hid (x3=((fnd (C5 N Rs P j) (P.getD j []):Nat):Int)):=hid (by rw[ex3.out,hv3,epj,<-hr.out,HQj.out])
      have hK3:Yi w3 W0.heap.size u9 ((Xk (Vi N Rs P) (Rr N) P).take j):=Yph HK2.out HD.out hch3 (by decide) (by decide)
      have hb4:=Yb w3 (.cells #[.int .i64 x3] 3)
      have hC4:=hC3.below hb4
      have hK4:=dp hK3 (.cells #[.int .i64 x3] 3)
      have HC4:=hid hC4
      have HK4:Hid (Yi (w3.alloc (.cells #[.int .i64 x3] 3)) W0.heap.size u9 ((Xk (Vi N Rs P) (Rr N) P).take j)):=hid hK4
      have hrr:(r:Int)+1-1=(r:Int):=by omega
      have hr0:(0:Int)<=(r:Int):=by omega
      have hr2:r<=2:=by have:=hr.out;omega
      have hr1:(r:Int)<(r:Int)+1:=by omega
      have hlk:Hid (((Xk (Vi N Rs P) (Rr N) P).take j).length<=1000000):=hid (ao (db j _) (by have:=HNl.out;omega))
      have hbs:Hid (W0.heap.size<=(w3.alloc (.cells #[.int .i64 x3] 3)).heap.size):=hid hC4.chg.size
      have HPlj:Hid ((P.getD j []).length=N.getD j 0):=hid (by rw[epj];exact(Ylf her.out).1.1)
      clear hT3 hD3 hch3 hown3 hC3 hI3 hK3 hC4 hK4 HX hv3 hl3 epj;go_wp2_with (at_builtin;refine Yo rfl _ _ rfl W0.heap.size _ _ rfl HK4.out _ rfl x3 (Y6 _ _ _ _ rfl) hlk.out hbs.out ?_)
      intro v4 w4 hO5 hG5
      have hF5:=hid (show X0 W0 (Zp g (.slice (some ⟨bd,0,none⟩) N.length cd) vv ds1 vs) w4 g X1 X2 X3 (.slice (some ⟨bd,0,none⟩) N.length cd) vv (ds2.set j (d.1,pv3,d.2.2)) vs N (Qh N Rs P (j+1)) W m Cs cnt/\(∀i,i<j+1->Ru N Rs P i=0)/\Yi w4 W0.heap.size v4 ((Xk (Vi N Rs P) (Rr N) P).take (j+1))from
       ⟨HC4.out.Lq HK4.out hG5 (an _) Ya9,λi hi=>by
        by_cases hij:i<j
        ·exact HE2.out i hij
        ·obtain rfl:i=j:=by omega
         exact hej.out,by rw[<-Yuy hRl.out HPl.out hlt2 HPlj.out,<-hx3.out];exact hO5⟩)
      clear hO5 hG5 hb4;go_wp2_with fail;go_roundw
      case rel=>exact⟨j+1,_,by omega,by go_num,hF5⟩
      case measure=>simp[intOf];omega
     ·have hne:((er:Int) != 0)=true:=by simpa using hez
      have HX:=hid hX
      have hstop:Zi N Qs G=(Rs,er):=by
       have h1:=Pq he.out HAd.out
       have h2:=Ydx hlt2 hRl.out HPl.out hE2 (by rw[hej.out];exact hez)
       rw[h2,hej.out,if_pos hez]at h1
       have h3:=Du (N:=N) (Qs:=Qs) (G:=G) (i:=k+1) (by rw[h1];exact hez)
       rw[h3,h1]
      have Hst:=hid hstop
      clear hX hfar hO2 hC2 hE2 hK2 hD hpp hat hCC hez hstop;go_wp2_with fail;refine HX.out.mono ?_;rintro e w3 ⟨v3,pv3,rfl,hT3,hD3,hch3,hown3⟩
      have hC3:=HC2.out.Ytp hdk.out hch3 hD3 hown3
      have hF5:=hid (show Yaa w F0 g X1 X2 X3 (.slice (some ⟨bd,0,none⟩) N.length cd) vv vs N Qs W m Cs cnt G (.returned (.tuple #[.slice none 0 0,.int .i64 er])) w3 from⟨_,_,HCm.out.trans hC3,.inr ⟨by rw[Hst.out];intro e0;subst e0;simp at hne,by rw[Hst.out]⟩⟩)
      clear hT3 hD3 hch3 hown3 hC3 HX;go_wp2_with fail;go_ret2;exact hF5.out
    ·obtain rfl:j=N.length:=by omega
     obtain⟨hC2,hE2,hK2⟩:=hO2.out;rw[Ybu hRl.out HPl.out]at hC2
     have hal:=Sf hRl.out HPl.out
     rw[au (by rw[Qy (by rw[Cq];omega) (by rw[HPl.out,hal]),hal];exact an _)]at hK2
     have hed:=Gh hRl.out HPl.out hE2
     have hsn:=Pq he.out HAd.out
     rw[if_neg (λh=>h hed)]at hsn
     obtain⟨hg1,hg2,hg3⟩:=HGa.out
     have hkg:V1 N (Vi N Rs P) (G.take k)=V1 N Rs (G.take k):=Yfk (Ll N Rs P) (Md P hg1).Pa λf hf=>hg3 _ (B6 N) f hf (HG.out f (fb hf))
     have hks:=Yir (N:=N) (Rs:=Vi N Rs P) he.out
     have hKs2:=HKs.out.Yuz HL0.out.lt hC2.chg
     have hzz:=hC2.chg.size
     have hK2':=Yi.low hK2 (show w.heap.size<=W0.heap.size by omega)
     obtain⟨Ak,ck,ek,_⟩:=hK2'.form;obtain⟨lk,hlk⟩: ∃lk,Hid ((Xk (Vi N Rs P) (Rr N) P).length=lk):=⟨_,hid rfl⟩;rw[hlk.out]at ek;subst ek
     have hb4:=Yb wr (.cells #[.slice Ak lk ck] 47)
     have HC4:=hid (hC2.below hb4)
     have HK4:=hid (show Yi (wr.alloc (.cells #[.slice Ak lk ck] 47)) w.heap.size (.slice Ak lk ck) (Xk (Vi N Rs P) (Rr N) P)from dp hK2' _)
     have HKs4:=hid (hKs2.below hb4)
     have hlq:Hid ((V1 N Rs (G.take k)).length<=1000000):=hid (by unfold V1;rw[aq];exact ao (db k _) (by omega))
     have hbs:Hid (w.heap.size<=(wr.alloc (.cells #[.slice Ak lk ck] 47)).heap.size):=hid (by rw[cz];omega)
     have hEnd:=hid (show V1 N Rs (G.take k)++[Xk (Vi N Rs P) (Rr N) P]=V1 N (Vi N Rs P) (G.take (k+1))from by rw[<-hkg];exact hks)
     have Hsn:=hid hsn
     clear hO2 hC2 hE2 hK2 hK2' hKs2 hkg hks hg1 hg2 hg3 hed hsn hb4 hal;go_wp2_with (at_builtin;refine Ko rfl _ _ rfl w.heap.size _ _ rfl HKs4.out _ rfl _ _ (N7 wr (.slice Ak lk ck) 47 _ rfl) HK4.out hlq.out hbs.out ?_)
     intro v4 w4 hO5 hG5
     have hrow:∃xs,(wr.alloc (.cells #[.slice Ak lk ck] 47)).ownsRow w.heap.size 47 1 u6 (V1 N Rs (G.take k)).length xs:=by
      obtain⟨xs,h1,_⟩:=HKs4.out;exact⟨xs,h1⟩
     obtain⟨xs,hrow⟩:=hrow
     have hF5:=hid (show X0 w F0 w4 g X1 X2 X3 (.slice Ad N.length cd) vv ds2 vs N (Vi N Rs P) W m Cs cnt/\Zi N Qs (G.take (k+1))=(Vi N Rs P,0)/\We w4 w.heap.size v4 (V1 N (Vi N Rs P) (G.take (k+1)))from
      ⟨(HCm.out.trans HC4.out).Lq hrow hG5 (an _) Bd,Hsn.out,by rw[<-hEnd.out];exact hO5⟩)
     clear hO5 hG5 hrow;go_wp2_with fail;go_roundw
     case rel=>exact⟨k+1,_,_,by omega,by go_num,hF5⟩
     case measure=>simp[intOf];omega
  ·obtain rfl:k=n:=by omega
   have hF5:=hid (show Yaa w F0 g X1 X2 X3 (.slice Ad N.length cd) vv vs N Qs W m Cs cnt G (.returned (.tuple #[u6,.int .i64 0])) wr from by
    obtain⟨hCm,hAd,hKs⟩:=hO.out;rw[au (by have:=Hlen.out;omega)]at hAd hKs
    exact⟨_,_,hCm,.inl ⟨by rw[hAd],by rw[hAd],_,rfl,hKs⟩⟩)
   clear hO;go_wp2_with fail;go_ret2;exact hF5.out
theorem Yvl{Q:List Pth}{c k:Int}(hc:0<=c/\c<=(Q.length:Int))(hk:0<=k/\k<=((pth Q c.toNat).length:Int)):upA Q c k=(fnd Q ((pth Q c.toNat).take k.toNat),0):=by
 unfold upA;rw[if_pos hc,if_pos hk]
theorem Yuh{ds:List DAt}{vs:List CAt}(h:LtM w g X1 X2 X3 dv vv ds vs N Qs W m Cs cnt)(hN:N.length<=3){A A':Option Addr}{n c n' c':Nat}{K v:List Int}(hK:Y1 w w.heap.size A n c K)(hV:Y1 w w.heap.size A' n' c' v)(hf:Pj N Qs K)(hv:Of N v):
  Calls ai 165 #[.pointer (some ⟨g,0,none⟩),.slice A n c,.slice A' n' c'] w (Ylc w (upB Qs K v)):=by
 obtain⟨Ad,cd,edv,hdl,hat⟩:=h.K5;subst edv
 have hnl:n=N.length:=by rw[<-(M3 hf).2];exact hK.len.symm
 have hnl':n'=N.length:=by rw[<-hv.len];exact hV.len.symm
 subst hnl hnl'
 have HK:=hid hK
 have HV:=hid hV
 have HM:=hid h
 have HA:=hid hat
 have HPl:=hid (Yt7 hf hv)
 have HPg:=hid (λi (hi:i<N.length)=>Yub hf hv hi)
 have HFk:=hid (λi (hi:i<N.length)=>Ycn hf hi)
 have HLv:=hid (λi (hi:i<N.length)=>hv.get hi)
 have hmk:∀W:World,(Instr.makeSlice 47 (.int .i64 (N.length:Int)) (.int .i64 (N.length:Int))).run ai W=.ok (.slice (some ⟨W.heap.size,0,none⟩) N.length N.length) (W.alloc (.cells (Hi (.int .i64 0) N.length) 3)):=λW=>Ygx rfl Rm Tryz.underlying47 (by decide) N.length W (by omega)
 have hM0:=hid (Zu.begin (E:=Yy) (S:=λb=>w.heap.size<=b) (Ye1 w 3 (.int .i64 0) N.length (by omega)) HPl.out)
 have hb0:=Yb w (.cells (Hi (.int .i64 0) N.length) 3)
 clear h hK hV hat hf hv;go_enter Tryz.func165,Tryz.ntmps165;go_wp2_with fail;clear hmk;generalize w.alloc (.cells (Hi (.int .i64 0) N.length) 3)=W0 at hM0 hb0⊢;go_loopw [15] (λi wr=>∃k:Nat,k<=N.length/\i=.int .i64 k/\Hid (Zu Yy 3 1 wr w.heap.size (λb=>w.heap.size<=b) (.slice (some ⟨w.heap.size,0,none⟩) N.length N.length) N.length (upB Qs K v) (ak N.length (.int .i64 0)) k)/\Below w.heap.size w wr) (λi _=>N.length-(intOf i).toNat)
 case atStart=>exact⟨0,ar _,rfl,hM0,hb0⟩
 case round=>
  obtain⟨k,hk,rfl,hO,hB⟩:=hrel
  by_cases hlt:k<N.length
  ·have i0:(0:Int)<=(k:Int):=by omega
   have i1:(k:Int)<(N.length:Int):=by omega
   obtain⟨b,o,x,rfl,hbl,hcell,ex⟩:=HK.out.at_ hlt
   have g0:wr.cell? ⟨b,o+k,none⟩=some (.int .i64 x):=(hB.cell (p:=⟨b,o+k,none⟩) hbl).trans hcell
   obtain⟨b',o',y,rfl,hbl',hcell',ey⟩:=HV.out.at_ hlt
   have g2:wr.cell? ⟨b',o'+k,none⟩=some (.int .i64 y):=(hB.cell (p:=⟨b',o'+k,none⟩) hbl').trans hcell'
   obtain⟨d,hdk⟩: ∃d,Hid (ds[k]?=some d):=⟨_,hid (aa (by omega))⟩
   obtain⟨bd,rfl,_,hbd,hcd⟩:=HA.out k d hdk.out
   have g1:wr.cell? ⟨bd,k,none⟩=some (.pointer (some ⟨d.1,0,none⟩)):=(hB.cell (p:=⟨bd,k,none⟩) hbd).trans hcd
   have c3:=(HM.out.below hB).c3
   have hfk:=HFk.out k hlt
   have hlv:=HLv.out k hlt
   have hpg:=HPg.out k hlt
   rw[<-ex.out]at hfk hpg;rw[<-ey.out]at hlv hpg
   have hup:=Yvl (Q:=Qs.getD k []) (c:=x) (k:=y) ⟨by omega,hfk.2.1⟩ ⟨hlv.1,by rw[hfk.2.2];exact hlv.2⟩
   obtain⟨z,hz⟩: ∃z,Hid (fnd (Qs.getD k []) ((pth (Qs.getD k []) x.toNat).take y.toNat)=z):=⟨_,hid rfl⟩;rw[hz.out]at hup hpg
   have hpe:Hid ((upB Qs K v)[k]?=some (z:Int)):=hid (by
    obtain⟨q,hq⟩: ∃q,(upB Qs K v)[k]?=some q:=⟨_,aa (by rw[HPl.out];exact hlt)⟩
    rw[aj,hq]at hpg;rw[hq];exact congrArg some hpg)
   have hX:=Ys4 (((HM.out.dcs.at_ k d hdk.out).below hB).drewN 1) x y (hid hup)
   have HX:=hid hX
   have hO1:=hO
   have hlo:=hO.out.lt
   clear hcell hcell' hcd hfk hlv hpg hup hX hO;go_wp2_with fail;go_region_with (go_at_call 218;refine HX.out.mono ?_;rintro e w5 ⟨rfl,hb5⟩;have hb5':Below wr.heap.size wr w5:=(below_drewN (Below.refl _ wr) 1).trans hb5;have hO5:=hid (hO1.out.below Yh hb5');have c0:w5.cell? ⟨w.heap.size,k,none⟩=some (.int .i64 0):=(hO5.out.old (j:=k) (by omega) (by omega)).trans (by rw[dt,if_pos hlt]);have f0:=hO5.out.free k;have HB5:=hid (hB.trans (hb5'.mono hB.size));clear hb5 hb5')
   all_goals
    have hF:=hid (show Zu Yy 3 1 (w5.setCell ⟨w.heap.size,k,none⟩ (.int .i64 z)) w.heap.size (λb=>w.heap.size<=b) (.slice (some ⟨w.heap.size,0,none⟩) N.length N.length) N.length (upB Qs K v) (ak N.length (.int .i64 0)) (k+1)/\Below w.heap.size w (w5.setCell ⟨w.heap.size,k,none⟩ (.int .i64 z))from⟨hO5.out.Yl2 Yh (by simp) hpe.out rfl,HB5.out.setCell (p:=⟨w.heap.size,k,none⟩) (an _) _⟩)
    clear hO5 HB5 c0 f0 hO1 hB HX hlo;go_wp2_with fail;go_roundw
    case rel=>exact⟨k+1,by omega,by go_num,hid hF.out.1,hF.out.2⟩
    case measure=>simp[intOf];omega
  ·have hF:=hid (show Yi wr w.heap.size (.slice (some ⟨w.heap.size,0,none⟩) N.length N.length) (upB Qs K v)/\Below w.heap.size w wr from⟨(hO.out.end_ (by omega) (by simp)).ints,hB⟩)
   clear hO hB;go_wp2_with fail;go_ret;exact⟨⟨_,rfl,hF.out.1⟩,hF.out.2⟩
section
section
variable {w y w' : World}{g:Nat}{X1 X2 X3 dv vv:Value}{ds:List DAt}{vs:List CAt}{N:List Nat}{Qs:List (List Pth)}{W m:Nat}{Cs:List Cub}{cnt:Int}
theorem set_self{α:Type}{L:List α}{i:Nat}{x:α}(h:L[i]?=some x):L.set i x=L:=by
 refine fk λj=>?_
 rw[bo]
 by_cases hij:i=j
 ·subst hij
  rw[if_pos rfl,if_pos (ag.1 h).1,h]
 ·rw[if_neg hij]
theorem LtM.Yw8(h:LtM w g X1 X2 X3 dv vv ds vs N Qs W m Cs cnt){i:Nat}{c:CAt}{C':Cub}(hi:vs[i]?=some c)(hc:Chg (Ui c) w w')(hd:Cb w' c.1 c.2 W m C'):LtM w' g X1 X2 X3 dv vv ds vs N Qs W m (Cs.set i C') cnt:=by
 have hm:=ae hi
 have hcb:=h.cbs.at_ i c hi
 have hs:=h.cbs.Yz hi hc hd λk hk=>.inl hk
 rw[set_self hi]at hs;exact⟨h.blk.chg hc (h.c_g hm),hc.row h.dr λk hk=>Rb h.dr hcb (by decide) hk,hc.row h.vr λk hk=>Rb h.vr hcb (by decide) hk,h.dcs.chg hc λd hd' k hk hk'=>h.apart d hd' c hm k hk hk',hs,h.apart⟩
theorem LtM.Oc(h:LtM w g X1 X2 X3 dv vv ds vs N Qs W m Cs cnt)(hb:Below w.heap.size w y){i b:Nat}{c c':CAt}{C':Cub}(hi:vs[i]?=some c)(hv:vv.ownBlock=some b)(hd:Cb y c'.1 c'.2 W m C')(hf:∀k,Ui c' k->w.heap.size<=k):
  LtM (y.setCell ⟨b,i,none⟩ (Wc c'.1)) g X1 X2 X3 dv vv ds (vs.set i c') N Qs W m (Cs.set i C') cnt/\∀k,Zp g dv vv ds (vs.set i c') k->Zp g dv vv ds vs k∨w.heap.size<=k:=by
 have hm:=ae hi
 have hy:=h.below hb
 have hil:=(ag.1 hi).1
 have hs:Chg (λk=>k=b) y (y.setCell ⟨b,i,none⟩ (Wc c'.1)):=(Chg.refl _ y).Yz b i _ λ_=>rfl
 have hbl:b<w.heap.size:=(bs h.vr b hv).2
 have h2:=h.cbs.Yz (w':=y) hi (Chg.Y2 (S:=Ui c) hb (an _)) hd λk hk=>.inr (hf k hk)
 have hnc:∀e∈vs.set i c',∀k,Ui e k->k≠b:=λe he k hk hkb=>by
  subst hkb
  rcases bn he with he|rfl
  ·obtain⟨j,hj⟩:=af he
   exact Rb h.vr (h.cbs.at_ j e hj) (by decide) hv hk
  ·have:=hf k hk;omega
 have hst:(y.setCell ⟨b,i,none⟩ (Wc c'.1)).ownsRow 0 96 1 vv vs.length ((vs.map λc=>Wc c.1).set i (Wc c'.1)):=by
  have hr:=hy.vr
  rcases hr.2 with⟨e0,_⟩|⟨b',cap,cur,e0,_⟩
  ·rw[e0]at hv;cases hv
  ·rw[e0]at hv hr⊢
   have e3:b'=b:=by simpa[bp]using hv
   subst e3;exact(br hr i _).1
 refine⟨⟨hy.blk.chg hs λe=>h.Yss (by rw[hv,e]),hs.row hy.dr λk hk e=>h.Yr0 hk (by rw[hv,e]),?_,hy.dcs.chg hs λd hd' k hk e=>?_,h2.chg hs λe he k hk=>hnc e he k hk,?_⟩,?_⟩
 ·rw[cn,List.map_set]
  exact hst
 ·obtain⟨j,hj⟩:=af hd'
  exact Tv h.vr (h.dcs.at_ j d hj) (by decide) (by decide) (by rw[hv,e]) hk
 ·intro d hd' e he k hk hke
  rcases bn he with he|rfl
  ·exact h.apart d hd' e he k hk hke
  ·have:=h.dcs.lt hd' hk
   have:=hf k hke
   omega
 ·rintro k (hk|hk|hk|hk|⟨e,he,hk⟩)
  ·exact .inl (.inl hk)
  ·exact .inl (.inr (.inl hk))
  ·exact .inl (.inr (.inr (.inl hk)))
  ·exact .inl (.inr (.inr (.inr (.inl hk))))
  ·rcases bn he with he|rfl
   ·exact .inl (.inr (.inr (.inr (.inr ⟨e,he,hk⟩))))
   ·exact .inr (hf k hk)
end
end
section
section
variable {w:World}{g:Nat}{X1 X2 X3 dv vv dv' : Value}{ds ds' : List DAt}{vs:List CAt}{N:List Nat}{Qs Qs' : List (List Pth)}{W m:Nat}{Cs:List Cub}{cnt:Int}
theorem LtM.Yv7(h:LtM w g X1 X2 X3 dv vv ds vs N Qs W m Cs cnt)(hr:w.ownsRow 0 94 1 dv' ds'.length (ds'.map λd=>Wc d.1))(hd:Dcs w ds' N Qs')(hap:∀d∈ds',∀c∈vs,∀k,Vc d k→¬Ui c k):LtM (w.setCell ⟨g,3,none⟩ dv') g X1 X2 X3 dv' vv ds' vs N Qs' W m Cs cnt:=by
 have hs:Chg (λk=>k=g) w (w.setCell ⟨g,3,none⟩ dv'):=(Chg.refl _ w).Yz g 3 _ λ_=>rfl
 refine⟨h.blk.Yz 3 dv',hs.row hr λk hk e=>Y7 hr h.blk (by decide) (by rw[hk,e]),hs.row h.vr λk hk e=>h.Yss (by rw[hk,e]),hd.chg hs λd hd' k hk e=>?_,h.cbs.chg hs λc hc k hk e=>h.c_g hc (e▸hk),hap⟩
 subst e;obtain⟨i,hi⟩:=af hd'
 have hb:w.heap[k]?=some (.cells _ _ _):=h.blk
 rcases(hd.at_ i d hi).kind hk with⟨cs,e,fr,he,h1⟩|⟨es,clock,he⟩
 ·rw[hb]at he
  simp only[av,bj]at he
  rcases h1 with h1|h1 <;> (rw[<-he.2.1]at h1;exact absurd h1 (by decide))
 ·rw[hb]at he;cases he
theorem LtM.Yw1(h:LtM w g X1 X2 X3 dv vv ds vs N Qs W m Cs cnt)(n:Int):LtM (w.setCell ⟨g,5,none⟩ (.int .i64 n)) g X1 X2 X3 dv vv ds vs N Qs W m Cs n:=by
 have hs:Chg (λk=>k=g) w (w.setCell ⟨g,5,none⟩ (.int .i64 n)):=(Chg.refl _ w).Yz g 5 _ λ_=>rfl
 exact⟨h.blk.Yz 5 _,hs.row h.dr λk hk e=>h.Ywj (by rw[hk,e]),hs.row h.vr λk hk e=>h.Yss (by rw[hk,e]),h.dcs.chg hs λd hd k hk e=>h.d_g hd (e▸hk),h.cbs.chg hs λc hc k hk e=>h.c_g hc (e▸hk),h.apart⟩
end
end
end Go.Proofs.YtmepdkdeanbbaaaGreat
