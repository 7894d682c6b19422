/- LatA, LatB, LatC, LatD, LatF, LatG, LatH, LatI, LtA, LtV, LuB, LuC, LuF, LuJ, LvA -/
import Derived.Test.YtmepdkdeanbbaaaGreatJ43
import Derived.Test.YtmepdkdeanbbaaaGreatJ45
namespace Go.Proofs.YtmepdkdeanbbaaaGreat
set_option maxRecDepth 100000
set_option maxHeartbeats 8000000
open Go.RowKit
open List renaming getElem?_eq_getElem→aa,getElem?_of_mem→af,getElem?_eq_some_iff→ag,mem_of_getElem?→ai,getD_eq_getElem?_getD→aj,length_map→an,eq_nil_of_length_eq_zero→av,take_of_length_le→ax,mem_singleton→az,getElem?_map→bo,mem_append→bs,getElem?_set→cj,append_assoc→cn,map_map→cz,length_append→db,getElem?_drop→dc,drop_of_length_le→dg,length_set→dh,replicate→di,getElem?_take→dm,take_append_of_le_length→dw,drop_append_of_le_length→dx,map_append→dy,append_nil→dz,getElem?_append_left→ee,mem_map→ez,length_singleton→fb,getElem?_eq_none→fc,take_succ_cons→fg,length_take_le→fh,drop_succ_cons→fi,length_drop→fl,take_zero→fm,drop_zero→fo,drop_left→fp,length→ib
open Proofs.Tryz renaming prog→ae,underlying90→dn,underlying89→dp,underlying24→dq,underlying23→dt,underlying22→du,ntmps54→ei,func54→ff,underlying69→fj,underlying26→fk,ntmps153→fq,ntmps152→ft,ntmps150→fu,ntmps143→fv,ntmps100→fw,ntmps38→fy,func153→gg,func152→gh,func150→gi,func143→gm,func100→gn,func38→gy
open Nat renaming le_trans→ak,le_refl→ar,zero_le→aw,mul_one→br,le_succ→dj,mul_le_mul→fx,zero_add→gz,add_zero→ia
open Option.some renaming inj→ao,injEq→au
open Lib renaming run_eql_slice_nil→aq
open World renaming cell?_setCell_other→ay,ownsRow_nil→ch,frozen?_setCell→cw,cell?_setCell_same→dd,size_alloc→df
open World.ownsRow renaming lt→bg,stored→bz,cells→gw
open Value renaming ownBlock→bj,slice→bp
open Obj.cells renaming injEq→bn
open _root_.Array renaming getElem?_eq_some_iff→da
open Go.Lib (hid)
variable {w:World}{B W base c g k m n n1 n2 n3 size sz:Nat}{F R S:Nat->Prop}{A A1 A2 A3:Option Addr}{D:List Yk}{L M:List Txt}{V:List (List Int)}{Qs:List (List Pth)}{Cs:List Cub}{us vs xs:List Value}{cnt:Int}{X1 X2 X3 dv v v2 vv:Value}{T e:TypeId}{N:List Nat}
section
/-! ### frames -/
section
variable {S:Nat->Prop}{w w' : World}
theorem Cb.chg{g b W m:Nat}{C:Cub}(h:Cb w g b W m C)(hc:Chg S w w')(hg:¬S g)(hb:¬S b):Cb w' g b W m C:=
 ⟨(hc.block g h.blk.lt hg).trans h.blk,h.map.same (hc.block b h.map.lt hb),h.ok,h.w1,h.w3,h.m1,h.m2⟩
theorem Mv.chg{R:Nat->Prop}(hc:Chg S w w')(hS:∀k,R k→¬S k):Mv w R w' R:=λb hb hl=>⟨hc.block b hl (hS b hb),hb⟩
theorem Block.chg{g:Nat}{e:TypeId}{cs:Array Value}(h:Block w g e cs)(hc:Chg S w w')(hg:¬S g):Block w' g e cs:=(hc.block g h.lt hg).trans h
end
theorem Y8{e':TypeId}{cs:Array Value}{fr:Nat×Nat}(h:w.ownsRow B e size v n xs)(hb:w.heap[g]?=some (.cells cs e' fr))(hne:e≠e'):v.ownBlock≠some g:=by
 rcases h.2 with⟨rfl,_⟩|⟨g',cap,cur,rfl,_,hg,_⟩
 ·intro h;cases h
 ·intro hk
  simp only[bj,au]at hk;subst hk;rw[hb]at hg;simp only[au,bn]at hg;exact hne hg.2.1.symm
theorem Ykg(h:w.ownsRow B e size v n xs)(hb:∃es clock,w.heap[g]?=some (.map es clock)):v.ownBlock≠some g:=by
 obtain⟨es,clock,hb⟩:=hb
 rcases h.2 with⟨rfl,_⟩|⟨g',cap,cur,rfl,_,hg,_⟩
 ·intro h;cases h
 ·intro hk
  simp only[bj,au]at hk;subst hk;rw[hb]at hg
  cases hg
/-! ### dictionaries,cuboids,side by side -/
abbrev DAt:=Nat×Value×Nat
abbrev CAt:=Nat×Nat
def Xk(g:Nat):Value:=.pointer (some ⟨g,0,none⟩)
def W8(d:DAt)(k:Nat):Prop:=Th d.1 d.2.1 d.2.2 k
def Va(c:CAt)(k:Nat):Prop:=k=c.1∨k=c.2
structure Dcs (w:World) (ds:List DAt) (N:List Nat) (Qs:List (List Pth)):Prop where
 len:ds.length=N.length
 good:Xz N Qs
 at_:∀(i:Nat) (d:DAt),ds[i]?=some d->Dc w 0 d.1 d.2.1 d.2.2 (N.getD i 0) (Qs.getD i [])
 ne:∀(i j:Nat) (d e:DAt),ds[i]?=some d->ds[j]?=some e->i≠j->∀k,W8 d k→¬W8 e k
structure Cbs (w:World) (vs:List CAt) (W m:Nat) (Cs:List Cub):Prop where
 len:vs.length=Cs.length
 at_:∀(i:Nat) (c:CAt),vs[i]?=some c->Cb w c.1 c.2 W m (Cs.getD i [])
 ne:∀(i j:Nat) (c e:CAt),vs[i]?=some c->vs[j]?=some e->i≠j->∀k,Va c k→¬Va e k
section
variable {w w' : World}{S:Nat->Prop}{ds:List DAt}{N:List Nat}{Qs:List (List Pth)}{vs:List CAt}{W m:Nat}{Cs:List Cub}
theorem Dcs.lt(h:Dcs w ds N Qs){d:DAt}(hd:d∈ds){k:Nat}(hk:W8 d k):k<w.heap.size:=by
 obtain⟨i,hi⟩:=af hd;exact((h.at_ i d hi).Gt hk).2
theorem Cbs.lt(h:Cbs w vs W m Cs){c:CAt}(hd:c∈vs){k:Nat}(hk:Va c k):k<w.heap.size:=by
 obtain⟨i,hi⟩:=af hd
 have:=h.at_ i c hi
 rcases hk with rfl|rfl
 ·exact this.blk.lt
 ·exact this.map.lt
theorem Dcs.chg(h:Dcs w ds N Qs)(hc:Chg S w w')(hS:∀d∈ds,∀k,W8 d k→¬S k):Dcs w' ds N Qs:=
 ⟨h.len,h.good,λi d hi=>(h.at_ i d hi).chg hc (hS d (ai hi)),h.ne⟩
theorem Cbs.chg(h:Cbs w vs W m Cs)(hc:Chg S w w')(hS:∀c∈vs,∀k,Va c k→¬S k):Cbs w' vs W m Cs:=
 ⟨h.len,λi c hi=>(h.at_ i c hi).chg hc (hS c (ai hi) _ (.inl rfl)) (hS c (ai hi) _ (.inr rfl)),h.ne⟩
theorem Dcs.below(h:Dcs w ds N Qs)(hb:Below w.heap.size w w'):Dcs w' ds N Qs:=h.chg (S:=λ_=>False) (Chg.Y1 hb (ar _)) (λ_ _ _ _ h=>h)
theorem Cbs.below(h:Cbs w vs W m Cs)(hb:Below w.heap.size w w'):Cbs w' vs W m Cs:=h.chg (S:=λ_=>False) (Chg.Y1 hb (ar _)) (λ_ _ _ _ h=>h)
theorem Dcs.Ynm(h:Dcs w ds N Qs):Qs.length=ds.length:=by rw[h.good.len,h.len]
theorem Nj{α:Type}{L:List α}{i j:Nat}{x y:α}(hi:i<L.length):(L.set i x).getD j y=if i=j then x else L.getD j y:=by
 rw[aj,cj]
 by_cases h:i=j
 ·rw[if_pos h,if_pos h,if_pos (h▸hi)];rfl
 ·rw[if_neg h,if_neg h,aj]
theorem Dcs.Ys(h:Dcs w ds N Qs){i:Nat}{d d':DAt}{Q':List Pth}(hi:ds[i]?=some d)(hc:Chg (W8 d) w w')(hd:Dc w' 0 d'.1 d'.2.1 d'.2.2 (N.getD i 0) Q')(hf:∀k,W8 d' k->W8 d k∨w.heap.size<=k):Dcs w' (ds.set i d') N (Qs.set i Q'):=by
 have hil:=(ag.1 hi).1
 have hq:=h.Ynm
 have hl:=h.len
 refine⟨by rw[dh];exact h.len,Xz.of (by rw[dh,hq,hl]) λj hj=>?_,λj e hj=>?_,λa b x y ha hb hab k hx hy=>?_⟩
 ·rw[Nj (by omega)]
  by_cases hij:i=j
  ·subst hij;rw[if_pos rfl];exact hd.good
  ·rw[if_neg hij];exact h.good.get hj
 ·rw[Nj (by omega)]
  rw[cj]at hj
  by_cases hij:i=j
  ·subst hij
   rw[if_pos rfl,if_pos hil]at hj;obtain rfl:=ao hj;rw[if_pos rfl];exact hd
  ·rw[if_neg hij]at hj
   rw[if_neg hij];exact(h.at_ j e hj).chg hc λk hk hk'=>h.ne i j d e hi hj hij k hk' hk
 ·rw[cj]at ha hb
  by_cases h1:i=a
  ·subst h1
   rw[if_pos rfl,if_pos hil]at ha;obtain rfl:=ao ha;rw[if_neg hab]at hb
   rcases hf k hx with h2|h2
   ·exact h.ne i b d y hi hb hab k h2 hy
   ·have:=h.lt (ai hb) hy;omega
  ·rw[if_neg h1]at ha
   by_cases h2:i=b
   ·subst h2
    rw[if_pos rfl,if_pos hil]at hb;obtain rfl:=ao hb
    rcases hf k hy with h3|h3
    ·exact h.ne i a d x hi ha (λe=>hab e.symm) k h3 hx
    ·have:=h.lt (ai ha) hx;omega
   ·rw[if_neg h2]at hb
    exact h.ne a b x y ha hb hab k hx hy
theorem Cbs.Ys(h:Cbs w vs W m Cs){i:Nat}{c c':CAt}{C':Cub}(hi:vs[i]?=some c)(hc:Chg (Va c) w w')(hd:Cb w' c'.1 c'.2 W m C')(hf:∀k,Va c' k->Va c k∨w.heap.size<=k):Cbs w' (vs.set i c') W m (Cs.set i C'):=by
 have hil:=(ag.1 hi).1
 have hl:=h.len
 refine⟨by rw[dh,dh];exact h.len,λj e hj=>?_,λa b x y ha hb hab k hx hy=>?_⟩
 ·rw[Nj (by omega)]
  rw[cj]at hj
  by_cases hij:i=j
  ·subst hij
   rw[if_pos rfl,if_pos hil]at hj;obtain rfl:=ao hj;rw[if_pos rfl];exact hd
  ·rw[if_neg hij]at hj
   rw[if_neg hij];exact(h.at_ j e hj).chg hc (λhk=>h.ne i j c e hi hj hij _ hk (.inl rfl)) (λhk=>h.ne i j c e hi hj hij _ hk (.inr rfl))
 ·rw[cj]at ha hb
  by_cases h1:i=a
  ·subst h1
   rw[if_pos rfl,if_pos hil]at ha;obtain rfl:=ao ha;rw[if_neg hab]at hb
   rcases hf k hx with h2|h2
   ·exact h.ne i b c y hi hb hab k h2 hy
   ·have:=h.lt (ai hb) hy;omega
  ·rw[if_neg h1]at ha
   by_cases h2:i=b
   ·subst h2
    rw[if_pos rfl,if_pos hil]at hb;obtain rfl:=ao hb
    rcases hf k hy with h3|h3
    ·exact h.ne i a c x hi ha (λe=>hab e.symm) k h3 hx
    ·have:=h.lt (ai ha) hx;omega
   ·rw[if_neg h2]at hb
    exact h.ne a b x y ha hb hab k hx hy
end
/-! ### the lattice -/
structure LtM (w:World) (g:Nat) (X1 X2 X3 dv vv:Value) (ds:List DAt) (vs:List CAt) (N:List Nat) (Qs:List (List Pth)) (W m:Nat) (Cs:List Cub) (cnt:Int):Prop where
 blk:Block w g 92 #[X1,X2,X3,dv,vv,.int .i64 cnt]
 dr:w.ownsRow 0 94 1 dv ds.length (ds.map λd=>Xk d.1)
 vr:w.ownsRow 0 96 1 vv vs.length (vs.map λc=>Xk c.1)
 dcs:Dcs w ds N Qs
 cbs:Cbs w vs W m Cs
 apart:∀d∈ds,∀c∈vs,∀k,W8 d k→¬Va c k
def Zm(g:Nat)(dv vv:Value)(ds:List DAt)(vs:List CAt)(k:Nat):Prop:=k=g∨dv.ownBlock=some k∨vv.ownBlock=some k∨(∃d∈ds,W8 d k)∨∃c∈vs,Va c k
section
variable {w w' : World}{S:Nat->Prop}{g:Nat}{X1 X2 X3 dv vv:Value}{ds:List DAt}{vs:List CAt}{N:List Nat}{Qs:List (List Pth)}{W m:Nat}{Cs:List Cub}{cnt:Int}
theorem LtM.chg(h:LtM w g X1 X2 X3 dv vv ds vs N Qs W m Cs cnt)(hc:Chg S w w')(hS:∀k,Zm g dv vv ds vs k→¬S k):LtM w' g X1 X2 X3 dv vv ds vs N Qs W m Cs cnt:=
 ⟨h.blk.chg hc (hS g (.inl rfl)),hc.row h.dr λk hk=>hS k (.inr (.inl hk)),hc.row h.vr λk hk=>hS k (.inr (.inr (.inl hk))),h.dcs.chg hc λd hd k hk=>hS k (.inr (.inr (.inr (.inl ⟨d,hd,hk⟩)))),h.cbs.chg hc λc hc' k hk=>hS k (.inr (.inr (.inr (.inr ⟨c,hc',hk⟩)))),h.apart⟩
theorem LtM.below(h:LtM w g X1 X2 X3 dv vv ds vs N Qs W m Cs cnt)(hb:Below w.heap.size w w'):LtM w' g X1 X2 X3 dv vv ds vs N Qs W m Cs cnt:=h.chg (S:=λ_=>False) (Chg.Y1 hb (ar _)) (λ_ _ h=>h)
theorem LtM.drewN(h:LtM w g X1 X2 X3 dv vv ds vs N Qs W m Cs cnt)(k:Nat):LtM (w.drewN k) g X1 X2 X3 dv vv ds vs N Qs W m Cs cnt:=h.chg (S:=λ_=>False) ((Chg.refl _ w).drewN k) (λ_ _ h=>h)
theorem LtM.lt(h:LtM w g X1 X2 X3 dv vv ds vs N Qs W m Cs cnt){k:Nat}(hk:Zm g dv vv ds vs k):k<w.heap.size:=by
 rcases hk with rfl|hk|hk|⟨d,hd,hk⟩|⟨c,hc,hk⟩
 ·exact h.blk.lt
 ·exact(bg h.dr k hk).2
 ·exact(bg h.vr k hk).2
 ·exact h.dcs.lt hd hk
 ·exact h.cbs.lt hc hk
def St(o:Obj):Prop:=match o with
 | .cells _ e _=>e=92∨e=94∨e=96∨e=160∨e=168∨e=181
 | .map _ _=>True
 |_=>False
theorem Wb{w:World}{B size n k:Nat}{e:TypeId}{v:Value}{xs:List Value}(h:w.ownsRow B e size v n xs)(hk:v.ownBlock=some k):∃cs fr,w.heap[k]?=some (.cells cs e fr):=by
 rcases h.2 with⟨rfl,_⟩|⟨g',cap,cur,rfl,_,hg,_⟩
 ·cases hk
 ·simp only[bj,au]at hk
  subst hk;exact⟨_,_,hg⟩
theorem Dc.kind{base n:Nat}{Q:List Pth}{d:DAt}(h:Dc w base d.1 d.2.1 d.2.2 n Q){k:Nat}(hk:W8 d k):(∃cs e fr,w.heap[k]?=some (.cells cs e fr)/\(e=160∨e=168))∨∃es clock,w.heap[k]?=some (.map es clock):=by
 rcases hk with rfl|hk|rfl
 ·exact .inl ⟨_,_,_,h.block,.inl rfl⟩
 ·obtain⟨cs,fr,e⟩:=Wb h.row hk
  exact .inl ⟨cs,_,fr,e,.inr rfl⟩
 ·exact .inr h.map.R1
theorem Cb.kind{C:Cub}{c:CAt}(h:Cb w c.1 c.2 W m C){k:Nat}(hk:Va c k):(∃cs fr,w.heap[k]?=some (.cells cs 181 fr))∨∃es clock,w.heap[k]?=some (.map es clock):=by
 rcases hk with rfl|rfl
 ·exact .inl ⟨_,_,h.blk⟩
 ·exact .inr h.map.R1
theorem LtM.kind(h:LtM w g X1 X2 X3 dv vv ds vs N Qs W m Cs cnt){k:Nat}(hk:Zm g dv vv ds vs k):∃o,w.heap[k]?=some o/\St o:=by
 rcases hk with rfl|hk|hk|⟨d,hd,hk⟩|⟨c,hc,hk⟩
 ·exact⟨_,h.blk,.inl rfl⟩
 ·obtain⟨cs,fr,e⟩:=Wb h.dr hk
  exact⟨_,e,.inr (.inl rfl)⟩
 ·obtain⟨cs,fr,e⟩:=Wb h.vr hk
  exact⟨_,e,.inr (.inr (.inl rfl))⟩
 ·obtain⟨i,hi⟩:=af hd
  rcases(h.dcs.at_ i d hi).kind hk with⟨cs,e,fr,he,h1|h1⟩|⟨es,clock,he⟩
  ·exact⟨_,he,.inr (.inr (.inr (.inl h1)))⟩
  ·exact⟨_,he,.inr (.inr (.inr (.inr (.inl h1))))⟩
  ·exact⟨_,he,trivial⟩
 ·obtain⟨i,hi⟩:=af hc
  rcases(h.cbs.at_ i c hi).kind hk with⟨cs,fr,he⟩|⟨es,clock,he⟩
  ·exact⟨_,he,.inr (.inr (.inr (.inr (.inr rfl))))⟩
  ·exact⟨_,he,trivial⟩
theorem LtM.Ywm(h:LtM w g X1 X2 X3 dv vv ds vs N Qs W m Cs cnt):dv.ownBlock≠some g:=Y8 h.dr h.blk (by decide)
theorem LtM.Ytg(h:LtM w g X1 X2 X3 dv vv ds vs N Qs W m Cs cnt):vv.ownBlock≠some g:=Y8 h.vr h.blk (by decide)
theorem LtM.Yqb(h:LtM w g X1 X2 X3 dv vv ds vs N Qs W m Cs cnt){k:Nat}(hk:dv.ownBlock=some k):vv.ownBlock≠some k:=by
 obtain⟨cs,fr,e⟩:=Wb h.dr hk;exact Y8 h.vr e (by decide)
theorem LtM.d_g(h:LtM w g X1 X2 X3 dv vv ds vs N Qs W m Cs cnt){d:DAt}(hd:d∈ds):¬W8 d g:=λhk=>by
 obtain⟨i,hi⟩:=af hd
 have hb:w.heap[g]?=some (.cells _ _ _):=h.blk
 rcases(h.dcs.at_ i d hi).kind hk with⟨cs,e,fr,he,h1⟩|⟨es,clock,he⟩
 ·rw[hb]at he
  simp only[au,bn]at he
  rcases h1 with h1|h1 <;> (rw[<-he.2.1]at h1;exact absurd h1 (by decide))
 ·rw[hb]at he;cases he
theorem LtM.c_g(h:LtM w g X1 X2 X3 dv vv ds vs N Qs W m Cs cnt){c:CAt}(hc:c∈vs):¬Va c g:=λhk=>by
 obtain⟨i,hi⟩:=af hc
 have hb:w.heap[g]?=some (.cells _ _ _):=h.blk
 rcases(h.cbs.at_ i c hi).kind hk with⟨cs,fr,he⟩|⟨es,clock,he⟩
 ·rw[hb]at he
  simp only[au,bn]at he;exact absurd he.2.1 (by decide)
 ·rw[hb]at he;cases he
theorem Tv{B size n':Nat}{e:TypeId}{v:Value}{xs:List Value}{base n:Nat}{Q:List Pth}{d:DAt}(hr:w.ownsRow B e size v n' xs)(h:Dc w base d.1 d.2.1 d.2.2 n Q)(h1:e≠160)(h2:e≠168){k:Nat}(hk:v.ownBlock=some k):¬W8 d k:=h.Cc hr h1 h2 k hk
theorem Rg{B size n':Nat}{e:TypeId}{v:Value}{xs:List Value}{C:Cub}{c:CAt}(hr:w.ownsRow B e size v n' xs)(h:Cb w c.1 c.2 W m C)(h1:e≠181){k:Nat}(hk:v.ownBlock=some k):¬Va c k:=λhf=>by
 rcases h.kind hf with⟨cs,fr,he⟩|hm
 ·exact Y8 hr he h1 hk
 ·exact Ykg hr hm hk
theorem LtM.c0(h:LtM w g X1 X2 X3 dv vv ds vs N Qs W m Cs cnt):w.cell? ⟨g,0,none⟩=some X1:=h.blk.cell 0
theorem LtM.c1(h:LtM w g X1 X2 X3 dv vv ds vs N Qs W m Cs cnt):w.cell? ⟨g,1,none⟩=some X2:=h.blk.cell 1
theorem LtM.c2(h:LtM w g X1 X2 X3 dv vv ds vs N Qs W m Cs cnt):w.cell? ⟨g,2,none⟩=some X3:=h.blk.cell 2
theorem LtM.c3(h:LtM w g X1 X2 X3 dv vv ds vs N Qs W m Cs cnt):w.cell? ⟨g,3,none⟩=some dv:=h.blk.cell 3
theorem LtM.c4(h:LtM w g X1 X2 X3 dv vv ds vs N Qs W m Cs cnt):w.cell? ⟨g,4,none⟩=some vv:=h.blk.cell 4
theorem LtM.c5(h:LtM w g X1 X2 X3 dv vv ds vs N Qs W m Cs cnt):w.cell? ⟨g,5,none⟩=some (.int .i64 cnt):=h.blk.cell 5
end
theorem M0{gs:List Nat}(h:w.ownsRow B T 1 v gs.length (gs.map Xk)):∃A c,v=.slice A gs.length c/\gs.length<=c/\c<=maxLen/\∀i d,gs[i]?=some d->∃b,A=some ⟨b,0,none⟩∧v.ownBlock=some b/\b<w.heap.size/\w.cell? ⟨b,i,none⟩=some (Xk d):=by
 have h1:=h
 rcases h.2 with⟨rfl,h0⟩|⟨b,cap,cur,rfl,hb,hg,hnc,hcm,hcs,ht⟩
 ·exact⟨none,0,by rw[h0],by omega,by unfold maxLen;omega,λi d hi=>by
   have:=(ag.1 hi).1
   omega⟩
 ·refine⟨_,cap,rfl,hnc,hcm,λi d hi=>⟨b,rfl,rfl,(da.1 hg).1,?_⟩⟩
  have hcell:=gw h1 (g:=b) rfl i (Xk d) (by rw[bo,hi];rfl)
  rw[Yu]at hcell;simpa using hcell
/-! ### a schema,in blocks of R -/
abbrev Nz:ElT Yk:=U1 Y7 1 (Z0 Y7 1)
theorem Vz:Nz.Ok:=Wv Yt (Wc Yt)
structure Vw (w:World) (R:Nat->Prop) (A1:Option Addr) (n1 c1:Nat) (A2:Option Addr) (n2 c2:Nat) (A3:Option Addr) (n3 c3:Nat) (D:List Yk) (M:List Txt) (V:List (List Int)):Prop where
 d:Row Nz 2 w R A1 n1 c1 D
 m:Row Y7 1 w R A2 n2 c2 M
 v:Row (Z0 Yy 1) 1 w R A3 n3 c3 V
section
variable {w w' : World}{R S:Nat->Prop}{A1 A2 A3:Option Addr}{n1 c1 n2 c2 n3 c3:Nat}{D:List Yk}{M:List Txt}{V:List (List Int)}
theorem Vw.mv{R':Nat->Prop}(h:Vw w R A1 n1 c1 A2 n2 c2 A3 n3 c3 D M V)(m:Mv w R w' R'):Vw w' R' A1 n1 c1 A2 n2 c2 A3 n3 c3 D M V:=⟨h.d.mv Vz m,h.m.mv Yt m,h.v.mv (Wc Yh) m⟩
theorem Vw.chg(h:Vw w R A1 n1 c1 A2 n2 c2 A3 n3 c3 D M V)(hc:Chg S w w')(hS:∀k,R k→¬S k):Vw w' R A1 n1 c1 A2 n2 c2 A3 n3 c3 D M V:=h.mv (Mv.chg hc hS)
theorem Vw.Yc(h:Vw w R A1 n1 c1 A2 n2 c2 A3 n3 c3 D M V)(hb:Below w.heap.size w w'):Vw w' R A1 n1 c1 A2 n2 c2 A3 n3 c3 D M V:=h.mv (Mv.Yc hb R)
theorem Row.Yw8{A:Option Addr}{n c:Nat}(h:Row Nz 2 w R A n c D):Wg w w.heap.size A n c D:=by
 refine⟨h.1,h.cap,h.fit,h.void,λi hi=>?_⟩
 obtain⟨b,o,us,x,e,_,hl,h4,hc,⟨h5,A',n',c',h6,hr⟩,he⟩:=h.at_ hi
 have e1:D.getD i Wp=x:=by rw[aj,he.out];rfl
 rw[e1]
 match us,h4 with
 |[u0,u1],_=>
  simp only[fg,fm,fi,fo,Y7,List.cons.injEq,and_true]at h5 h6;subst h5 h6;exact⟨b,o,A',n',c',e,hl,hc 0 _ rfl,hc 1 _ rfl,hr.Eu⟩
theorem Vw.has(h:Vw w R A1 n1 c1 A2 n2 c2 A3 n3 c3 D M V):Pg w w.heap.size A1 n1 c1 A2 n2 c2 A3 n3 c3 D M V:=⟨h.d.Yw8,h.m.Eu,h.v.Ywg⟩
end
def Lt(w:World)(R:Nat->Prop)(g:Nat)(F:Nat->Prop)(D:List Yk)(M:List Txt)(V:List (List Int))(Qs:List (List Pth))(Cs:List Cub)(cnt:Int):Prop:=
 ∃dv vv ds vs A1 n1 c1 A2 n2 c2 A3 n3 c3,LtM w g (.slice A1 n1 c1) (.slice A2 n2 c2) (.slice A3 n3 c3) dv vv ds vs (Yj D) Qs D.length M.length Cs cnt/\Vw w R A1 n1 c1 A2 n2 c2 A3 n3 c3 D M V/\(∀k,F k↔Zm g dv vv ds vs k)/\(∀k,R k→¬F k)/\Wk D M V/\Cs.length=(Yg D V).length
section
variable {w w' : World}{R F S:Nat->Prop}{g:Nat}{D:List Yk}{M:List Txt}{V:List (List Int)}{Qs:List (List Pth)}{Cs:List Cub}{cnt:Int}
theorem Lt.chg(h:Lt w R g F D M V Qs Cs cnt)(hc:Chg S w w')(hF:∀k,F k→¬S k)(hR:∀k,R k→¬S k):Lt w' R g F D M V Qs Cs cnt:=by
 obtain⟨dv,vv,ds,vs,A1,n1,c1,A2,n2,c2,A3,n3,c3,h1,h2,h3,h4,h5⟩:=h;exact⟨dv,vv,ds,vs,A1,n1,c1,A2,n2,c2,A3,n3,c3,h1.chg hc λk hk=>hF k ((h3 k).2 hk),h2.chg hc hR,h3,h4,h5⟩
theorem Lt.below(h:Lt w R g F D M V Qs Cs cnt)(hb:Below w.heap.size w w'):Lt w' R g F D M V Qs Cs cnt:=h.chg (S:=λ_=>False) (Chg.Y1 hb (ar _)) (λ_ _ h=>h) (λ_ _ h=>h)
theorem Lt.lt(h:Lt w R g F D M V Qs Cs cnt){k:Nat}(hk:F k):k<w.heap.size:=by
 obtain⟨dv,vv,ds,vs,A1,n1,c1,A2,n2,c2,A3,n3,c3,h1,h2,h3,h4⟩:=h;exact h1.lt ((h3 k).1 hk)
theorem Lt.kind(h:Lt w R g F D M V Qs Cs cnt){k:Nat}(hk:F k):∃o,w.heap[k]?=some o/\St o:=by
 obtain⟨dv,vv,ds,vs,A1,n1,c1,A2,n2,c2,A3,n3,c3,h1,h2,h3,h4⟩:=h;exact h1.kind ((h3 k).1 hk)
end
end
section
theorem Sl.Kk{w:World}{B sz n:Nat}{T:TypeId}{v:Value}{vs:List Value}(h:w.ownsRow B T sz v n vs):∃A c,v=.slice A n c/\Sl w (λk=>B<=k/\v.ownBlock=some k) A n c sz vs:=by
 rcases h.2 with⟨rfl,h0⟩|⟨g,cap,cur,rfl,hb,hg,hnc,hcm,_⟩
 ·subst h0
  have:vs=[]:=av (by have:=h.1;omega)
  subst this;exact⟨none,0,rfl,Sl.none_ _ _ _⟩
 ·refine⟨_,cap,rfl,h.1,hnc,hcm,(λh=>by cases h),λ_=>⟨g,0,rfl,⟨hb,rfl⟩,(da.1 hg).1,λj u hu=>?_⟩⟩
  have:=h.cells (g:=g) rfl j u hu
  rwa [Yu]at this
def Yg5(T:TypeId)(sz n:Nat)(vs:List Value)(w:World)(e:Ending)(w':World):Prop:=∃A c,e=.returned (.slice A n c)/\w'.ownsRow w.heap.size T sz (.slice A n c) n vs/\Below w.heap.size w w'
theorem Qz(w:World)(T:TypeId)(sz:Nat):(w.alloc (.cells #[] T)).ownsRow w.heap.size T sz (.slice (some ⟨w.heap.size,0,none⟩) 0 0) 0 []:=
 ⟨by simp,.inr ⟨w.heap.size,0,#[],rfl,ar _,heap_alloc_new w _,ar _,aw _,by simp,by simp⟩⟩
/-! ### rows whose elements are put anew -/
def Zu{α:Type}(E:ElT α)(T:TypeId)(sz:Nat)(w:World)(B:Nat)(S:Nat->Prop)(v:Value)(n:Nat)(L:List α)(vs:List Value)(k:Nat):Prop:=
 L.length=n/\∃us:List Value,us.length=k*sz/\w.ownsRow B T sz v n (us++vs.drop (k*sz))/\∀i x,i<k->L[i]?=some x->E w (λb=>S b/\v.ownBlock≠some b) ((us.drop (i*sz)).take sz) x
section
variable {α:Type}{E:ElT α}{T:TypeId}{sz B n k g c:Nat}{w w' : World}{S:Nat->Prop}{v:Value}{L:List α}{vs:List Value}
theorem Zu.begin(h:w.ownsRow B T sz v n vs)(hl:L.length=n):Zu E T sz w B S v n L vs 0:=⟨hl,[],by simp,by simpa using h,λi x hi=>absurd hi (by omega)⟩
theorem Zu.end_(h:Zu E T sz w B S v n L vs k)(hk:n<=k)(hv:vs.length=n*sz):Yx E T sz w B S v L:=by
 obtain⟨h0,us,h1,h2,h3⟩:=h;rw[dg (by rw[hv];exact Nat.mul_le_mul_right sz hk),dz]at h2
 subst h0;exact⟨us,h2,λi x hi=>h3 i x (by have:=(ag.1 hi).1;omega) hi⟩
theorem Zu.below(hE:E.Ok)(h:Zu E T sz w B S v n L vs k)(hb:Below w.heap.size w w'):Zu E T sz w' B S v n L vs k:=by
 obtain⟨h0,us,h1,h2,h3⟩:=h;exact⟨h0,us,h1,Xi h2 hb,λi x hi hx=>hE _ _ _ _ _ _ (Mv.Yc hb _) (h3 i x hi hx)⟩
theorem Zu.lt(h:Zu E T sz w B S v n L vs k):∀g,v.ownBlock=some g->B<=g/\g<w.heap.size:=by
 obtain⟨h0,us,h1,h2,h3⟩:=h;exact bg h2
theorem Zu.free(h:Zu E T sz w B S (.slice (some ⟨g,0,none⟩) n c) n L vs k)(j:Nat):w.frozen? ⟨g,j,none⟩=false:=by
 obtain⟨h0,us,h1,h2,h3⟩:=h;exact h2.frozenAt j
theorem Zu.form(h:Zu E T sz w B S v n L vs k)(hn:0<n):∃g c,v=.slice (some ⟨g,0,none⟩) n c:=by
 obtain⟨h0,us,h1,h2,h3⟩:=h
 rcases h2.2 with⟨rfl,e0⟩|⟨g,cap,cur,rfl,_⟩
 ·omega
 ·exact⟨g,cap,rfl⟩
theorem Zu.old(h:Zu E T sz w B S (.slice (some ⟨g,0,none⟩) n c) n L vs k){j:Nat}(hj:k*sz<=j)(hj2:j<n*sz):w.cell? ⟨g,j,none⟩=vs[j]?:=by
 obtain⟨h0,us,h1,h2,h3⟩:=h;rw[h2.cellAt j hj2,List.getElem?_append_right (by omega),dc]
 congr 1
 omega
theorem E7{us vs:List Value}{k:Nat}{u:Value}(h:us.length=k)(hk:k<vs.length):(us++vs.drop k).set k u=(us++[u])++vs.drop (k+1):=by
 rw[List.set_append_right _ _ (by omega),h,Nat.sub_self,List.drop_eq_getElem_cons hk,List.set_cons_zero,cn]
 rfl
theorem Zu.Yoc(hE:E.Ok)(h:Zu E T 1 w B S (.slice (some ⟨g,0,none⟩) n c) n L vs k)(hv:vs.length=n){x:α}(hx:L[k]?=some x){u:Value}(hu:E w (λb=>S b/\(bp (some ⟨g,0,none⟩) n c).ownBlock≠some b) [u] x):Zu E T 1 (w.setCell ⟨g,k,none⟩ u) B S (.slice (some ⟨g,0,none⟩) n c) n L vs (k+1):=by
 obtain⟨h0,us,h1,h2,h3⟩:=h
 have hk:=(ag.1 hx).1
 have hs:=(bz h2 k u).1
 rw[br]at h1 hs;rw[E7 h1 (by omega)]at hs
 have hm:Mv w (λb=>S b/\(bp (some ⟨g,0,none⟩) n c).ownBlock≠some b) (w.setCell ⟨g,k,none⟩ u) (λb=>S b/\(bp (some ⟨g,0,none⟩) n c).ownBlock≠some b):=Mv.set w g k u (λhb=>hb.2 rfl)
 refine⟨h0,us++[u],by simp[h1],by rw[br];exact hs,λi y hi hy=>?_⟩
 rw[br]
 by_cases hik:i<k
 ·have:=hE _ _ _ _ _ _ hm (h3 i y hik hy)
  rw[br]at this;rw[dx (by omega),dw (by rw[fl];omega)]
  exact this
 ·obtain rfl:i=k:=by omega
  obtain rfl:x=y:=by rw[hx]at hy;exact ao hy
  have e:((us++[u]).drop i).take 1=[u]:=by rw[<-h1,fp];rfl
  rw[e];exact hE _ _ _ _ _ _ hm hu
theorem Zu.Yvh(hE:E.Ok)(h:Zu E T 2 w B S (.slice (some ⟨g,0,none⟩) n c) n L vs k)(hv:vs.length=n*2){x:α}(hx:L[k]?=some x){u u':Value}(hu:E w (λb=>S b/\(bp (some ⟨g,0,none⟩) n c).ownBlock≠some b) [u,u'] x):Zu E T 2 ((w.setCell ⟨g,k*2,none⟩ u).setCell ⟨g,k*2+1,none⟩ u') B S (.slice (some ⟨g,0,none⟩) n c) n L vs (k+1):=by
 obtain⟨h0,us,h1,h2,h3⟩:=h
 have hk:=(ag.1 hx).1
 have hs:=(bz h2 (k*2) u).1
 rw[E7 h1 (by omega)]at hs
 have hs2:=(bz hs (k*2+1) u').1
 rw[E7 (by simp[h1]) (by omega)]at hs2
 have hm:Mv w (λb=>S b/\(bp (some ⟨g,0,none⟩) n c).ownBlock≠some b) ((w.setCell ⟨g,k*2,none⟩ u).setCell ⟨g,k*2+1,none⟩ u') (λb=>S b/\(bp (some ⟨g,0,none⟩) n c).ownBlock≠some b):=(Mv.set w g (k*2) u (λhb=>hb.2 rfl)).trans (Mv.set _ g (k*2+1) u' (λhb=>hb.2 rfl))
 have e2:(k+1)*2=k*2+1+1:=by omega
 refine⟨h0,us++[u]++[u'],by simp[h1,e2],by rw[e2];exact hs2,λi y hi hy=>?_⟩
 by_cases hik:i<k
 ·have:=hE _ _ _ _ _ _ hm (h3 i y hik hy)
  rw[cn,dx (by omega),dw (by rw[fl];omega)]
  exact this
 ·obtain rfl:i=k:=by omega
  obtain rfl:x=y:=by rw[hx]at hy;exact ao hy
  have e:((us++[u]++[u']).drop (i*2)).take 2=[u,u']:=by rw[<-h1,cn,fp];rfl
  rw[e];exact hE _ _ _ _ _ _ hm hu
end
/-! ### slices.Clone -/
theorem Yq6:(ae.info? 9).map (λi=>(i.zero,i.size,i.bytes))=some (some (.string ByteArray.empty),1,16):=by kernel_rfl
theorem Yjt(h:Sl w S A n c 1 vs)(hone:∀u∈vs,u.oneCell'=true)(hn:n<=1000):
  Calls ae 152 #[.slice A n c] w (Yg5 9 1 n vs w):=by
 obtain⟨i0,hi,hz0,hz1,hz2⟩:=info_parts Yq6
 rcases A with _|ad
 ·obtain rfl:=h.void rfl
  obtain rfl:n=0:=by have:=h.cap;omega
  obtain rfl:vs=[]:=av (by have:=h.len;omega)
  have q:∀W,(binOp .eql 23 (.slice none 0 0) (.slice none 0 0)).run ae W=.ok (.bool true) W:=λW=>aq W _ _ none 0 0 0 0 dt
  go_enter gh,ft;go_wp2;go_ret;exact⟨none,0,rfl,ch _ _ _ _,Below.refl _ _⟩
 ·have q:∀W,(binOp .eql 23 (.slice (some ad) n c) (.slice none 0 0)).run ae W=.ok (.bool false) W:=λW=>aq W _ _ (some ad) n c 0 0 dt
  have hcells:Hid (∀j u,vs[j]?=some u->(w.alloc (.cells #[] 9)).cell? (ad.add j)=some u):=hid λj u hu=>by
   have hpos:0<n:=by
    have h1:=(ag.1 hu).1
    have h2:=h.len
    omega
   obtain⟨b,o,e,_,hl,hc⟩:=(h.mv (Mv.alloc w (.cells #[] 9) S)).has hpos;injection e with e
   subst e;rw[Yu];exact hc j u hu
  have hl:=hid h.len
  clear h;go_enter gh,ft;go_wp2_with (at_builtin;refine wpList_append_own_at _ rfl _ _ 23 rfl w.heap.size 9 i0 _ 1 16 dt hi hz0 hz1 hz2 rfl (by decide) _ 0 [] rfl (Qz w _ _) ad n c vs rfl hl.out hcells.out hone (by unfold maxLen;omega) (by omega) (by simp) ?_)
  intro v2 w2 hO hG hnil _
  have hB2:Below w.heap.size w w2:=⟨hG.os,hG.tape,hG.output,ak (by simp) hG.size,λk hk=>(hG.block k (by simp;omega) (λe=>by simp[bj]at e;omega)).trans (Below.heap_alloc w _ k hk)⟩
  obtain⟨A2,c2,rfl,_⟩:=Sl.Kk hO
  have hF:=hid (show w2.ownsRow w.heap.size 9 1 (.slice A2 n c2) n vs/\Below w.heap.size w w2 from⟨hO,hB2⟩)
  clear hO hG hnil hB2 hcells;go_wp2;go_ret;exact⟨A2,c2,rfl,hF.out.1,hF.out.2⟩
theorem Yq7:(ae.info? 47).map (λi=>(i.zero,i.size,i.bytes))=some (some (.slice none 0 0),1,24):=by kernel_rfl
theorem Ykl(h:Sl w S A n c 1 vs)(hone:∀u∈vs,u.oneCell'=true)(hn:n<=1000):
  Calls ae 153 #[.slice A n c] w (Yg5 47 1 n vs w):=by
 obtain⟨i0,hi,hz0,hz1,hz2⟩:=info_parts Yq7
 rcases A with _|ad
 ·obtain rfl:=h.void rfl
  obtain rfl:n=0:=by have:=h.cap;omega
  obtain rfl:vs=[]:=av (by have:=h.len;omega)
  have q:∀W,(binOp .eql 24 (.slice none 0 0) (.slice none 0 0)).run ae W=.ok (.bool true) W:=λW=>aq W _ _ none 0 0 0 0 dq
  go_enter gg,fq;go_wp2;go_ret;exact⟨none,0,rfl,ch _ _ _ _,Below.refl _ _⟩
 ·have q:∀W,(binOp .eql 24 (.slice (some ad) n c) (.slice none 0 0)).run ae W=.ok (.bool false) W:=λW=>aq W _ _ (some ad) n c 0 0 dq
  have hcells:Hid (∀j u,vs[j]?=some u->(w.alloc (.cells #[] 47)).cell? (ad.add j)=some u):=hid λj u hu=>by
   have hpos:0<n:=by
    have h1:=(ag.1 hu).1
    have h2:=h.len
    omega
   obtain⟨b,o,e,_,hl,hc⟩:=(h.mv (Mv.alloc w (.cells #[] 47) S)).has hpos;injection e with e
   subst e;rw[Yu];exact hc j u hu
  have hl:=hid h.len
  clear h;go_enter gg,fq;go_wp2_with (at_builtin;refine wpList_append_own_at _ rfl _ _ 24 rfl w.heap.size 47 i0 _ 1 24 dq hi hz0 hz1 hz2 rfl (by decide) _ 0 [] rfl (Qz w _ _) ad n c vs rfl hl.out hcells.out hone (by unfold maxLen;omega) (by omega) (by simp) ?_)
  intro v2 w2 hO hG hnil _
  have hB2:Below w.heap.size w w2:=⟨hG.os,hG.tape,hG.output,ak (by simp) hG.size,λk hk=>(hG.block k (by simp;omega) (λe=>by simp[bj]at e;omega)).trans (Below.heap_alloc w _ k hk)⟩
  obtain⟨A2,c2,rfl,_⟩:=Sl.Kk hO
  have hF:=hid (show w2.ownsRow w.heap.size 47 1 (.slice A2 n c2) n vs/\Below w.heap.size w w2 from⟨hO,hB2⟩)
  clear hO hG hnil hB2 hcells;go_wp2;go_ret;exact⟨A2,c2,rfl,hF.out.1,hF.out.2⟩
theorem Yqd:(ae.info? 75).map (λi=>(i.zero,i.size,i.bytes))=some (some (.agg #[.string ByteArray.empty,.slice none 0 0]),2,40):=by kernel_rfl
theorem Yjn(h:Sl w S A n c 2 vs)(hone:∀u∈vs,u.oneCell'=true)(hn:n<=1000):
  Calls ae 150 #[.slice A n c] w (Yg5 75 2 n vs w):=by
 obtain⟨i0,hi,hz0,hz1,hz2⟩:=info_parts Yqd
 rcases A with _|ad
 ·obtain rfl:=h.void rfl
  obtain rfl:n=0:=by have:=h.cap;omega
  obtain rfl:vs=[]:=av (by have:=h.len;omega)
  have q:∀W,(binOp .eql 22 (.slice none 0 0) (.slice none 0 0)).run ae W=.ok (.bool true) W:=λW=>aq W _ _ none 0 0 0 0 du
  go_enter gi,fu;go_wp2;go_ret;exact⟨none,0,rfl,ch _ _ _ _,Below.refl _ _⟩
 ·have q:∀W,(binOp .eql 22 (.slice (some ad) n c) (.slice none 0 0)).run ae W=.ok (.bool false) W:=λW=>aq W _ _ (some ad) n c 0 0 du
  have hcells:Hid (∀j u,vs[j]?=some u->(w.alloc (.cells #[] 75)).cell? (ad.add j)=some u):=hid λj u hu=>by
   have hpos:0<n:=by
    have h1:=(ag.1 hu).1
    have h2:=h.len
    omega
   obtain⟨b,o,e,_,hl,hc⟩:=(h.mv (Mv.alloc w (.cells #[] 75) S)).has hpos;injection e with e
   subst e;rw[Yu];exact hc j u hu
  have hl:=hid h.len
  clear h;go_enter gi,fu;go_wp2_with (at_builtin;refine wpList_append_own_at _ rfl _ _ 22 rfl w.heap.size 75 i0 _ 2 40 du hi hz0 hz1 hz2 rfl (by decide) _ 0 [] rfl (Qz w _ _) ad n c vs rfl hl.out hcells.out hone (by unfold maxLen;omega) (by omega) (by simp) ?_)
  intro v2 w2 hO hG hnil _
  have hB2:Below w.heap.size w w2:=⟨hG.os,hG.tape,hG.output,ak (by simp) hG.size,λk hk=>(hG.block k (by simp;omega) (λe=>by simp[bj]at e;omega)).trans (Below.heap_alloc w _ k hk)⟩
  obtain⟨A2,c2,rfl,_⟩:=Sl.Kk hO
  have hF:=hid (show w2.ownsRow w.heap.size 75 2 (.slice A2 n c2) n vs/\Below w.heap.size w w2 from⟨hO,hB2⟩)
  clear hO hG hnil hB2 hcells;go_wp2;go_ret;exact⟨A2,c2,rfl,hF.out.1,hF.out.2⟩
theorem Yhk:(ae.info? 94).map (λi=>(i.zero,i.size,i.bytes))=some (some (.pointer none),1,8):=by kernel_rfl
theorem Yjq(h:Sl w S A n c 1 vs)(hone:∀u∈vs,u.oneCell'=true)(hn:n<=1000):
  Calls ae 100 #[.slice A n c] w (Yg5 94 1 n vs w):=by
 obtain⟨i0,hi,hz0,hz1,hz2⟩:=info_parts Yhk
 rcases A with _|ad
 ·obtain rfl:=h.void rfl
  obtain rfl:n=0:=by have:=h.cap;omega
  obtain rfl:vs=[]:=av (by have:=h.len;omega)
  have q:∀W,(binOp .eql 89 (.slice none 0 0) (.slice none 0 0)).run ae W=.ok (.bool true) W:=λW=>aq W _ _ none 0 0 0 0 dp
  go_enter gn,fw;go_wp2;go_ret;exact⟨none,0,rfl,ch _ _ _ _,Below.refl _ _⟩
 ·have q:∀W,(binOp .eql 89 (.slice (some ad) n c) (.slice none 0 0)).run ae W=.ok (.bool false) W:=λW=>aq W _ _ (some ad) n c 0 0 dp
  have hcells:Hid (∀j u,vs[j]?=some u->(w.alloc (.cells #[] 94)).cell? (ad.add j)=some u):=hid λj u hu=>by
   have hpos:0<n:=by
    have h1:=(ag.1 hu).1
    have h2:=h.len
    omega
   obtain⟨b,o,e,_,hl,hc⟩:=(h.mv (Mv.alloc w (.cells #[] 94) S)).has hpos;injection e with e
   subst e;rw[Yu];exact hc j u hu
  have hl:=hid h.len
  clear h;go_enter gn,fw;go_wp2_with (at_builtin;refine wpList_append_own_at _ rfl _ _ 89 rfl w.heap.size 94 i0 _ 1 8 dp hi hz0 hz1 hz2 rfl (by decide) _ 0 [] rfl (Qz w _ _) ad n c vs rfl hl.out hcells.out hone (by unfold maxLen;omega) (by omega) (by simp) ?_)
  intro v2 w2 hO hG hnil _
  have hB2:Below w.heap.size w w2:=⟨hG.os,hG.tape,hG.output,ak (by simp) hG.size,λk hk=>(hG.block k (by simp;omega) (λe=>by simp[bj]at e;omega)).trans (Below.heap_alloc w _ k hk)⟩
  obtain⟨A2,c2,rfl,_⟩:=Sl.Kk hO
  have hF:=hid (show w2.ownsRow w.heap.size 94 1 (.slice A2 n c2) n vs/\Below w.heap.size w w2 from⟨hO,hB2⟩)
  clear hO hG hnil hB2 hcells;go_wp2;go_ret;exact⟨A2,c2,rfl,hF.out.1,hF.out.2⟩
theorem Ygb:(ae.info? 96).map (λi=>(i.zero,i.size,i.bytes))=some (some (.pointer none),1,8):=by kernel_rfl
theorem Yks(h:Sl w S A n c 1 vs)(hone:∀u∈vs,u.oneCell'=true)(hn:n<=1000):
  Calls ae 143 #[.slice A n c] w (Yg5 96 1 n vs w):=by
 obtain⟨i0,hi,hz0,hz1,hz2⟩:=info_parts Ygb
 rcases A with _|ad
 ·obtain rfl:=h.void rfl
  obtain rfl:n=0:=by have:=h.cap;omega
  obtain rfl:vs=[]:=av (by have:=h.len;omega)
  have q:∀W,(binOp .eql 90 (.slice none 0 0) (.slice none 0 0)).run ae W=.ok (.bool true) W:=λW=>aq W _ _ none 0 0 0 0 dn
  go_enter gm,fv;go_wp2;go_ret;exact⟨none,0,rfl,ch _ _ _ _,Below.refl _ _⟩
 ·have q:∀W,(binOp .eql 90 (.slice (some ad) n c) (.slice none 0 0)).run ae W=.ok (.bool false) W:=λW=>aq W _ _ (some ad) n c 0 0 dn
  have hcells:Hid (∀j u,vs[j]?=some u->(w.alloc (.cells #[] 96)).cell? (ad.add j)=some u):=hid λj u hu=>by
   have hpos:0<n:=by
    have h1:=(ag.1 hu).1
    have h2:=h.len
    omega
   obtain⟨b,o,e,_,hl,hc⟩:=(h.mv (Mv.alloc w (.cells #[] 96) S)).has hpos;injection e with e
   subst e;rw[Yu];exact hc j u hu
  have hl:=hid h.len
  clear h;go_enter gm,fv;go_wp2_with (at_builtin;refine wpList_append_own_at _ rfl _ _ 90 rfl w.heap.size 96 i0 _ 1 8 dn hi hz0 hz1 hz2 rfl (by decide) _ 0 [] rfl (Qz w _ _) ad n c vs rfl hl.out hcells.out hone (by unfold maxLen;omega) (by omega) (by simp) ?_)
  intro v2 w2 hO hG hnil _
  have hB2:Below w.heap.size w w2:=⟨hG.os,hG.tape,hG.output,ak (by simp) hG.size,λk hk=>(hG.block k (by simp;omega) (λe=>by simp[bj]at e;omega)).trans (Below.heap_alloc w _ k hk)⟩
  obtain⟨A2,c2,rfl,_⟩:=Sl.Kk hO
  have hF:=hid (show w2.ownsRow w.heap.size 96 1 (.slice A2 n c2) n vs/\Below w.heap.size w w2 from⟨hO,hB2⟩)
  clear hO hG hnil hB2 hcells;go_wp2;go_ret;exact⟨A2,c2,rfl,hF.out.1,hF.out.2⟩
end
theorem Ycp(h:Row Y7 1 w S A n c L)(hn:n<=1000)(hL:∀x∈L,x.length<=1000):
  Calls ae 89 #[.slice A n c,.func (.func 88) #[] #[]] w (Told Y7 9 1 w L):=by
 obtain⟨vs,hvs,hS⟩:=h.Ysv (G:=Wa) λ_ _ _ _ e=>e
 have hlen:=hid h.len
 have hvl:Hid (vs.length=n*1):=hid hS.len
 have hone:∀u∈vs,u.oneCell'=true:=by
  subst hvs;intro u hu;obtain⟨x,_,rfl⟩:=ez.1 hu;rfl
 have HC:=hid (Yjt hS hone hn)
 have HR:Hid (Row Y7 1 w (λb=>S b/\b<w.heap.size) A n c L):=hid (h.mv Yt (Mv.to w λb hb hl=>⟨hb,hl⟩))
 have HS:∀b,(S b/\b<w.heap.size)->b<w.heap.size:=λb hb=>hb.2
 have HL:=hid hL
 have hnm:=h.Ym
 clear h hS hone hL hvs;go_enter Tryz.func89,Tryz.ntmps89;go_wp2_with fail;refine HC.out.mono ?_;rintro e w1 ⟨Ac,cc,rfl,hO,hB1⟩
 have hM:=hid (Zu.begin (E:=Y7) (S:=λb=>w.heap.size<=b) hO hlen.out)
 clear hO HC;go_wp2_with fail;go_loopw [12] (λi wr=>∃k:Nat,k<=n/\i=.int .i64 k/\Hid (Zu Y7 9 1 wr w.heap.size (λb=>w.heap.size<=b) (.slice Ac n cc) n L vs k)/\Below w.heap.size w wr) (λi _=>n-(intOf i).toNat)
 case atStart=>exact⟨0,aw _,rfl,hM,hB1⟩
 case round=>
  obtain⟨k,hk,rfl,hO,hB⟩:=hrel
  by_cases hlt:k<n
  ·obtain⟨b,o,us,x,rfl,_,_,_,hcell,hx,he⟩:=(HR.out.mv Yt (Mv.below hB HS)).at_ hlt
   have hx:us=[Wa x]:=hx
   subst hx
   have g0:wr.cell? ⟨b,o+k,none⟩=some (.string ⟨x.toArray⟩):=by
    have:=hcell 0 _ rfl
    rwa [br,ia]at this
   obtain⟨g,cg,eg⟩:=hO.out.form (by omega)
   injection eg with eg1 eg2 eg3
   subst eg1 eg3
   have i0:(0:Int)<=(k:Int):=by omega
   have i1:(k:Int)<(n:Int):=by omega
   have HX:=hid (L7 ⟨x.toArray⟩ wr (by
    have:=HL.out x (ai he.out)
    show x.toArray.size<=_
    simp;omega))
   clear hcell;go_wp2_with fail;refine HX.out.mono ?_;rintro e w5 ⟨rfl,hb5⟩
   have hO5:=hO.out.below Yt hb5
   obtain⟨y,hy⟩: ∃y,vs[k]?=some y:=⟨_,aa (by rw[hvl.out];omega)⟩
   have c0:w5.cell? ⟨g,k,none⟩=some y:=(hO5.old (j:=k) (by omega) (by omega)).trans hy
   have f0:=hO5.free k
   have hgl:=(hO5.lt g rfl).1
   have hF:=hid (show Zu Y7 9 1 (w5.setCell ⟨g,k,none⟩ (.string ⟨x.toArray⟩)) w.heap.size (λb=>w.heap.size<=b) (.slice (some ⟨g,0,none⟩) n cc) n L vs (k+1)/\Below w.heap.size w (w5.setCell ⟨g,k,none⟩ (.string ⟨x.toArray⟩))from⟨hO5.Yoc Yt (by rw[hvl.out,br]) he.out rfl,(hB.trans (hb5.mono hB.size)).setCell (p:=⟨g,k,none⟩) hgl _⟩)
   clear hO5 hO hB hb5 HX hy;go_wp2_with fail;go_roundw
   case rel=>exact⟨k+1,by omega,by go_num,hid hF.out.1,hF.out.2⟩
   case measure=>simp[intOf];omega
  ·have hF:=hid (show Yx Y7 9 1 wr w.heap.size (λb=>w.heap.size<=b) (.slice Ac n cc) L/\Below w.heap.size w wr from⟨hO.out.end_ (by omega) hvl.out,hB⟩)
   clear hO hB;go_wp2_with fail;go_ret;exact⟨_,rfl,hF.out.1,hF.out.2⟩
theorem Yjc{L:List (List Int)}(h:Row (Z0 Yy 1) 1 w S A n c L):∃vs,Sl w S A n c 1 vs/\∀u∈vs,u.oneCell'=true:=by
 obtain⟨h0,vs,h1,h2⟩:=h;refine⟨vs,h1,λu hu=>?_⟩
 obtain⟨i,hi⟩:=af hu
 have hil:=(ag.1 hi).1
 have hlen:=h1.len
 obtain⟨A',n',c',e,_⟩:=h2 i _ (aa (by omega))
 have e2:=congrArg (λl=>l[0]?) e
 simp only[br,dm,dc,Nat.lt_one_iff,if_true,ia,List.getElem?_cons_zero]at e2;rw[hi]at e2;injection e2 with e2
 rw[e2];rfl
theorem Ym7{L:List (List Int)}(h:Row (Z0 Yy 1) 1 w S A n c L)(hn:n<=1000)(hL:∀x∈L,x.length<=1000):
  Calls ae 90 #[.slice A n c,.func (.func 91) #[] #[]] w (Told (Vl Yy 3 1) 47 1 w L):=by
 obtain⟨vs,hS,hone⟩:=Yjc h
 have hlen:=hid h.len
 have hvl:Hid (vs.length=n*1):=hid hS.len
 have HC:=hid (Ykl hS hone hn)
 have HR:Hid (Row (Z0 Yy 1) 1 w (λb=>S b/\b<w.heap.size) A n c L):=hid (h.mv (Wc Yh) (Mv.to w λb hb hl=>⟨hb,hl⟩))
 have HS:∀b,(S b/\b<w.heap.size)->b<w.heap.size:=λb hb=>hb.2
 have HL:=hid hL
 have hnm:=h.Ym
 clear h hS hone hL;go_enter Tryz.func90,Tryz.ntmps90;go_wp2_with fail;refine HC.out.mono ?_;rintro e w1 ⟨Ac,cc,rfl,hO,hB1⟩
 have hM:=hid (Zu.begin (E:=Vl Yy 3 1) (S:=λb=>w.heap.size<=b) hO hlen.out)
 clear hO HC;go_wp2_with fail;go_loopw [12] (λi wr=>∃k:Nat,k<=n/\i=.int .i64 k/\Hid (Zu (Vl Yy 3 1) 47 1 wr w.heap.size (λb=>w.heap.size<=b) (.slice Ac n cc) n L vs k)/\Below w.heap.size w wr) (λi _=>n-(intOf i).toNat)
 case atStart=>exact⟨0,aw _,rfl,hM,hB1⟩
 case round=>
  obtain⟨k,hk,rfl,hO,hB⟩:=hrel
  by_cases hlt:k<n
  ·obtain⟨b,o,A',n',c',x,rfl,_,_,g0,hl,he⟩:=(HR.out.mv (Wc Yh) (Mv.below hB HS)).at1 hlt
   obtain⟨g,cg,eg⟩:=hO.out.form (by omega)
   injection eg with eg1 eg2 eg3
   subst eg1 eg3
   have i0:(0:Int)<=(k:Int):=by omega
   have i1:(k:Int)<(n:Int):=by omega
   have HX:=hid (Tn hl.Uy (by
    have:=HL.out x (ai he.out)
    have:=hl.len
    omega))
   clear hl;go_wp2_with fail;refine HX.out.mono ?_;rintro e w5 ⟨⟨v,rfl,hv⟩,hb5⟩
   have hO5:=hO.out.below (Zz Yh) hb5
   have hlo:=hO.out.lt
   have hz:=hB.size
   have hE:=Yx.el Yh (hv.Bc (S:=λk=>wr.heap.size<=k)) (u:=.slice (some ⟨g,0,none⟩) n cc) (λk e=>(hlo k e).2) hz
   obtain⟨Av,cv,rfl,_⟩:=hv.form;obtain⟨y,hy⟩: ∃y,vs[k]?=some y:=⟨_,aa (by rw[hvl.out];omega)⟩
   have c0:w5.cell? ⟨g,k,none⟩=some y:=(hO5.old (j:=k) (by omega) (by omega)).trans hy
   have f0:=hO5.free k
   have hgl:=(hO5.lt g rfl).1
   have hF:=hid (show Zu (Vl Yy 3 1) 47 1 (w5.setCell ⟨g,k,none⟩ (.slice Av x.length cv)) w.heap.size (λb=>w.heap.size<=b) (.slice (some ⟨g,0,none⟩) n cc) n L vs (k+1)/\Below w.heap.size w (w5.setCell ⟨g,k,none⟩ (.slice Av x.length cv))from⟨hO5.Yoc (Zz Yh) (by rw[hvl.out,br]) he.out hE,(hB.trans (hb5.mono hB.size)).setCell (p:=⟨g,k,none⟩) hgl _⟩)
   clear hO5 hO hB hb5 HX hy hv hE hlo;go_wp2_with fail;go_roundw
   case rel=>exact⟨k+1,by omega,by go_num,hid hF.out.1,hF.out.2⟩
   case measure=>simp[intOf];omega
  ·have hF:=hid (show Yx (Vl Yy 3 1) 47 1 wr w.heap.size (λb=>w.heap.size<=b) (.slice Ac n cc) L/\Below w.heap.size w wr from⟨hO.out.end_ (by omega) hvl.out,hB⟩)
   clear hO hB;go_wp2_with fail;go_ret;exact⟨_,rfl,hF.out.1,hF.out.2⟩
abbrev Ta:ElT Yk:=U1 Y7 1 (Vl Y7 9 1)
theorem Xh:Ta.Ok:=Wv Yt (Zz Yt)
theorem Yeq{d:Yk}(h:Ta w S us d):Nz w S us d:=⟨h.1,Re Yt (λ_ _ h=>h) h.2⟩
theorem Yms{L:List Yk}(h:Row Nz 2 w S A n c L):∃vs,Sl w S A n c 2 vs/\∀u∈vs,u.oneCell'=true:=by
 obtain⟨h0,vs,h1,h2⟩:=h;refine⟨vs,h1,λu hu=>?_⟩
 obtain⟨i,hi⟩:=af hu
 have hil:=(ag.1 hi).1
 have hlen:=h1.len
 obtain⟨h3,A',n',c',h4,_⟩:=h2 (i/2) _ (aa (by omega))
 have e3:((vs.drop (i/2*2)).take 2).take 1=[Wa _]:=h3
 have e1:=congrArg (λl=>l[0]?) e3
 have e2:=congrArg (λl=>l[0]?) h4
 simp at e1 e2
 rcases Nat.mod_two_eq_zero_or_one i with h|h
 ·have:i/2*2=i:=by omega
  rw[this,hi]at e1;injection e1 with e1
  rw[e1];rfl
 ·have:i/2*2+1=i:=by omega
  rw[this,hi]at e2;injection e2 with e2
  rw[e2];rfl
theorem Yml:(ae.info? 75).map (·.size)=some 2:=by kernel_rfl
def Ytn(w:World)(d:Yk)(e:Ending)(w':World):Prop:=
 ∃A n c,e=.returned (.agg #[.string ⟨d.1.toArray⟩,.slice A n c])/\Ta w' (λk=>w.heap.size<=k) [.string ⟨d.1.toArray⟩,.slice A n c] d/\Below w.heap.size w w'
theorem Yhn{x:Txt}(h:Row Y7 1 w S A n c L)(hn:n<=1000)(hx:x.length<=1000)(hL:∀s∈L,s.length<=1000):
  Calls ae 87 #[.agg #[.string ⟨x.toArray⟩,.slice A n c]] w (Ytn w (x,L)):=by
 have hb0:=(Yb w (.cells #[.string ⟨x.toArray⟩,.slice A n c] 75))
 have hb1:=Ya hb0 (Yb (w.alloc (.cells #[.string ⟨x.toArray⟩,.slice A n c] 75)) (.cells #[.string ⟨#[]⟩,.slice none 0 0] 75))
 have hbl:=(Block.new w 75 #[.string ⟨x.toArray⟩,.slice A n c]).alloc (.cells #[.string ⟨#[]⟩,.slice none 0 0] 75)
 have hbr:=Block.new (w.alloc (.cells #[.string ⟨x.toArray⟩,.slice A n c] 75)) 75 #[.string ⟨#[]⟩,.slice none 0 0]
 have hq1:=hid (h.mv Yt (Mv.Yc hb1 S))
 have hsz:(w.alloc (.cells #[.string ⟨x.toArray⟩,.slice A n c] 75)).heap.size=w.heap.size+1:=by simp
 have HN:=hid hn
 have HL:=hid hL
 have HXl:Hid ((⟨x.toArray⟩:ByteArray).size<=281474976710656):=hid (by show x.toArray.size<=_;simp;omega)
 clear h hb0 hn hL;go_enter Tryz.func87,Tryz.ntmps87;go_wp2_with fail;rw[hsz]at hbr;generalize (w.alloc (.cells #[.string ⟨x.toArray⟩,.slice A n c] 75)).alloc (.cells #[.string ⟨#[]⟩,.slice none 0 0] 75)=W at hb1 hbl hbr hq1⊢;clear hsz
 have K:Hid (∀y,Below W.heap.size W y->y.cell? ⟨w.heap.size,0,none⟩=some (.string ⟨x.toArray⟩)/\y.cell? ⟨w.heap.size,1,none⟩=some (.slice A n c)):=hid λy hy=>⟨(hbl.below hy hbl.lt).cell 0,(hbl.below hy hbl.lt).cell 1⟩
 have k0:W.cell? ⟨w.heap.size,0,none⟩=some (.string ⟨x.toArray⟩):=hbl.cell 0
 have k1:W.cell? ⟨w.heap.size,1,none⟩=some (.slice A n c):=hbl.cell 1
 have HbR:=hid hbr
 have HR:=hid (λy (hy:Below W.heap.size W y)=>hbr.below hy hbr.lt)
 have HW:=hid hb1.size
 have HC:=hid (L7 ⟨x.toArray⟩ W.drew HXl.out)
 clear hbl hbr;go_region_held3 (λw'=>w'.cell? ⟨w.heap.size,0,none⟩=some (.string ⟨x.toArray⟩)/\w'.cell? ⟨w.heap.size,1,none⟩=some (.slice A n c))
  (first
   |go_keep
   |exact K.out _ hBB2
   |exact K.out _ hBB1)
  (first
   |(go_at_call 88;refine HC.out.mono ?_;rintro e w1 ⟨rfl,hB1⟩;have hBB1:Below W.heap.size W w1:=((below_drewN (Below.refl _ W) 1).trans hB1))
   |(go_at_call 89;refine(Ycp (hq1.out.mv Yt (Mv.Yc hBB1 S)) HN.out HL.out).mono ?_;rintro e w2 ⟨v2,rfl,hO2,hB2⟩;obtain⟨B2,d2,rfl⟩:=hO2.shape;have hBB2:=hBB1.trans (hB2.mono hBB1.size);have hr2:=HR.out _ hBB2;have d0:w2.cell? ⟨w.heap.size+1,0,none⟩=some (.string ⟨#[]⟩):=hr2.cell 0;have d1':w2.cell? ⟨w.heap.size+1,1,none⟩=some (.slice none 0 0):=hr2.cell 1;have f0:=hr2.free 0;have f1:=hr2.free 1))
 have hr2':=HR.out _ hBB2
 have hlt:=HbR.out.lt
 have hns:¬W.heap.size<=w.heap.size+1:=by omega
 have e2:Vl Y7 9 1 w2 (λk=>W.heap.size<=k) [.slice B2 L.length d2] L:=Zz Yt _ _ _ _ _ _ (Mv.to w2 λb hb _=>ak hBB1.size hb) (⟨_,rfl,hO2.low (aw _),λk hk=>(hO2.lt k hk).1⟩)
 have m2:=Mv.trans (Mv.set w2 (w.heap.size+1) 0 (.string ⟨x.toArray⟩) hns) (Mv.set (w2.setCell ⟨w.heap.size+1,0,none⟩ (.string ⟨x.toArray⟩)) (w.heap.size+1) 1 (.slice B2 L.length d2) hns)
 have m3:=Mv.trans m2 (Mv.to _ (S':=λk=>w.heap.size<=k) λb hb _=>ak HW.out hb)
 have hF:=hid (show Ta ((w2.setCell ⟨w.heap.size+1,0,none⟩ (.string ⟨x.toArray⟩)).setCell ⟨w.heap.size+1,1,none⟩ (.slice B2 L.length d2)) (λk=>w.heap.size<=k) [.string ⟨x.toArray⟩,.slice B2 L.length d2] (x,L)from⟨rfl,Zz Yt _ _ _ _ _ _ m3 e2⟩)
 have hG:=hid (((hb1.trans (hBB2.mono hb1.size)).setCell (p:=⟨w.heap.size+1,0,none⟩) (dj _) (.string ⟨x.toArray⟩)).setCell (p:=⟨w.heap.size+1,1,none⟩) (dj _) (.slice B2 L.length d2))
 have hR:=hid ((hr2'.Ys 0 (.string ⟨x.toArray⟩)).Ys 1 (.slice B2 L.length d2))
 clear e2 m2 m3 hO2 hB1 hB2 hBB1 hBB2 hr2 hr2' d0 d1' f0 f1 K HR HbR hb1 k0 k1;go_wp2_with fail;refine bodyPost_ret (Zi rfl _ _ (w.heap.size+1) _ _ rfl hR.out Tryz.underlying75 rfl Yml) rfl ?_;exact⟨B2,_,d2,rfl,hF.out,hG.out⟩
theorem Ylh(w:World)(x y:Value):Block (w.alloc (.cells #[x,y] 75)) w.heap.size 75 #[x,y]:=Block.new w _ _
def Ypn(d:Yk):Prop:=d.1.length<=1000/\d.2.length<=1000/\∀s∈d.2,s.length<=1000
theorem Row.atD{L:List Yk}(h:Row Nz 2 w S A n c L){k:Nat}(hk:k<n):∃b o A' n' c' x l,A=some ⟨b,o,none⟩∧w.cell? ⟨b,o+k*2,none⟩=some (.string ⟨x.toArray⟩)/\w.cell? ⟨b,o+k*2+1,none⟩=some (.slice A' n' c')/\Row Y7 1 w S A' n' c' l/\Hid (L[k]?=some (x,l)):=by
 obtain⟨b,o,us,d,e,_,_,h4,hc,⟨h5,A',n',c',h6,hr⟩,he⟩:=h.at_ hk
 match us,h4 with
 |[u0,u1],_=>
  simp only[fg,fm,fi,fo,Y7,List.cons.injEq,and_true]at h5 h6;subst h5 h6;exact⟨b,o,A',n',c',d.1,d.2,e,hc 0 _ rfl,hc 1 _ rfl,hr,he⟩
theorem Yo0{L:List Yk}(h:Row Nz 2 w S A n c L)(hn:n<=1000)(hL:∀d∈L,Ypn d):
  Calls ae 86 #[.slice A n c,.func (.func 87) #[] #[]] w (Told Ta 75 2 w L):=by
 obtain⟨vs,hS,hone⟩:=Yms h
 have hlen:=hid h.len
 have hvl:Hid (vs.length=n*2):=hid hS.len
 have HC:=hid (Yjn hS hone hn)
 have HR:Hid (Row Nz 2 w (λb=>S b/\b<w.heap.size) A n c L):=hid (h.mv Vz (Mv.to w λb hb hl=>⟨hb,hl⟩))
 have HS:∀b,(S b/\b<w.heap.size)->b<w.heap.size:=λb hb=>hb.2
 have HL:=hid hL
 have hnm:=h.Ym
 clear h hS hone hL;go_enter Tryz.func86,Tryz.ntmps86;go_wp2_with fail;refine HC.out.mono ?_;rintro e w1 ⟨Ac,cc,rfl,hO,hB1⟩
 have hM:=hid (Zu.begin (E:=Ta) (S:=λb=>w.heap.size<=b) hO hlen.out)
 clear hO HC;go_wp2_with fail;go_loopw [12] (λi wr=>∃k:Nat,k<=n/\i=.int .i64 k/\Hid (Zu Ta 75 2 wr w.heap.size (λb=>w.heap.size<=b) (.slice Ac n cc) n L vs k)/\Below w.heap.size w wr) (λi _=>n-(intOf i).toNat)
 case atStart=>exact⟨0,aw _,rfl,hM,hB1⟩
 case round=>
  obtain⟨k,hk,rfl,hO,hB⟩:=hrel
  by_cases hlt:k<n
  ·obtain⟨b,o,A',n',c',x,l,rfl,g0,g1,hl,he⟩:=(HR.out.mv Vz (Mv.below hB HS)).atD hlt
   obtain⟨g,cg,eg⟩:=hO.out.form (by omega)
   injection eg with eg1 eg2 eg3
   subst eg1 eg3
   have i0:(0:Int)<=(k:Int):=by omega
   have i1:(k:Int)<(n:Int):=by omega
   obtain⟨s1,s2,s3⟩:=HL.out (x,l) (ai he.out)
   have hb0:=Yb wr (.cells #[.string ⟨x.toArray⟩,.slice A' n' c'] 75)
   have hbl:=Ylh wr (.string ⟨x.toArray⟩) (.slice A' n' c')
   have HX:=hid (Yhn (hl.mv Yt (Mv.Yc hb0 _)) (by have:=hl.len;have:l.length<=1000:=s2;omega) s1 s3)
   have hO0:=hid (hO.out.below Xh hb0)
   have hB0:=hB.trans (hb0.mono hB.size)
   have d0:=hbl.cell 0
   have d1:=hbl.cell 1
   have hlo:=hO.out.lt
   have hz:=hB.size
   clear hl s1 s2 s3 hO hB;go_wp2_with fail;generalize wr.alloc (.cells #[.string ⟨x.toArray⟩,.slice A' n' c'] 75)=W at hb0 hbl HX hO0 hB0 d0 d1⊢;go_wp2_with fail;refine HX.out.mono ?_;rintro e w5 ⟨Av,nv,cv,rfl,hv,hb5⟩
   have hO5:=hO0.out.below Xh hb5
   have hE:Ta w5 (λb=>w.heap.size<=b/\(bp (some ⟨g,0,none⟩) n cc).ownBlock≠some b) [.string ⟨x.toArray⟩,.slice Av nv cv] (x,l):=Xh _ _ _ _ _ _ (Mv.to w5 λb hb _=>⟨ak hB0.size hb,λe=>by have:=(hlo b e).2;have:=hb0.size;omega⟩) hv
   obtain⟨y,hy⟩: ∃y,vs[k*2]?=some y:=⟨_,aa (by rw[hvl.out];omega)⟩
   obtain⟨y',hy'⟩: ∃y,vs[k*2+1]?=some y:=⟨_,aa (by rw[hvl.out];omega)⟩
   have c0:w5.cell? ⟨g,k*2,none⟩=some y:=(hO5.old (j:=k*2) (by omega) (by omega)).trans hy
   have c1:w5.cell? ⟨g,k*2+1,none⟩=some y':=(hO5.old (j:=k*2+1) (by omega) (by omega)).trans hy'
   have f0:=hO5.free (k*2)
   have f1:=hO5.free (k*2+1)
   have hgl:=(hO5.lt g rfl).1
   have hF:=hid (show Zu Ta 75 2 ((w5.setCell ⟨g,k*2,none⟩ (.string ⟨x.toArray⟩)).setCell ⟨g,k*2+1,none⟩ (.slice Av nv cv)) w.heap.size (λb=>w.heap.size<=b) (.slice (some ⟨g,0,none⟩) n cc) n L vs (k+1)/\Below w.heap.size w ((w5.setCell ⟨g,k*2,none⟩ (.string ⟨x.toArray⟩)).setCell ⟨g,k*2+1,none⟩ (.slice Av nv cv))from⟨hO5.Yvh Xh hvl.out he.out hE,((hB0.trans (hb5.mono hB0.size)).setCell (p:=⟨g,k*2,none⟩) hgl _).setCell (p:=⟨g,k*2+1,none⟩) hgl _⟩)
   clear hO5 hO0 hB0 hb5 HX hy hy' hv hE hlo hb0 hbl;go_wp2_with fail;go_roundw
   case rel=>exact⟨k+1,by omega,by go_num,hid hF.out.1,hF.out.2⟩
   case measure=>simp[intOf];omega
  ·have hF:=hid (show Yx Ta 75 2 wr w.heap.size (λb=>w.heap.size<=b) (.slice Ac n cc) L/\Below w.heap.size w wr from⟨hO.out.end_ (by omega) hvl.out,hB⟩)
   clear hO hB;go_wp2_with fail;go_ret;exact⟨_,rfl,hF.out.1,hF.out.2⟩
/-! ### a schema's copy -/
structure Yrz (D:List Yk) (M:List Txt) (V:List (List Int)):Prop where
 d:D.length<=1000/\∀d∈D,Ypn d
 m:M.length<=1000/\∀s∈M,s.length<=1000
 v:V.length<=1000/\∀v∈V,v.length<=1000
theorem Rw(h:Wk D M V):Yrz D M V:=by
 obtain⟨⟨h1,h2⟩,h3,h4⟩:=h
 have nm:∀s:Txt,Z6 s->s.length<=1000:=λs hs=>by have:=hs.2.1;omega
 refine⟨⟨?_,λd hd=>⟨?_,?_,λs hs=>nm s ((h1 d hd).2.2.1 s hs)⟩⟩,⟨?_,λs hs=>nm s (h3.2.2.1 s hs)⟩,?_,λv hv=>?_⟩
 ·have:=h2.2.1;rw[an]at this;omega
 ·exact nm _ (h2.2.2.1 _ (ez.2 ⟨d,hd,rfl⟩))
 ·have:=(h1 d hd).2.1;omega
 ·have:=h3.2.1;omega
 ·have:=h4.1;omega
 ·have h5:=(h4.2.1 v hv).1
  have h6:=h2.2.1
  rw[an]at h6;omega
structure Ya7 (w:World) (B:Nat) (v1 v2 v3:Value) (D:List Yk) (M:List Txt) (V:List (List Int)):Prop where
 d:Yx Ta 75 2 w B (λk=>B<=k) v1 D
 m:Yx Y7 9 1 w B (λk=>B<=k) v2 M
 v:Yx (Vl Yy 3 1) 47 1 w B (λk=>B<=k) v3 V
theorem Row.imp{α:Type}{E E':ElT α}{L:List α}(h:Row E sz w S A n c L)(hE:∀us x,E w S us x->E' w S us x):Row E' sz w S A n c L:=h.map hE
theorem Ya7.read{v1 v3:Value}(h:Ya7 w B v1 v2 v3 D M V):∃A1 c1 A2 c2 A3 c3,v1=.slice A1 D.length c1/\v2=.slice A2 M.length c2/\v3=.slice A3 V.length c3/\Vw w (λk=>B<=k/\k<w.heap.size) A1 D.length c1 A2 M.length c2 A3 V.length c3 D M V:=by
 obtain⟨A1,c1,rfl,h1⟩:=h.d.read Xh;obtain⟨A2,c2,rfl,h2⟩:=h.m.read Yt;obtain⟨A3,c3,rfl,h3⟩:=h.v.read (Zz Yh)
 have up:∀{v:Value},Mv w (λk=>(B<=k)∨(B<=k/\v.ownBlock=some k)) w (λk=>B<=k/\k<w.heap.size):=λ{v}=>Mv.to w λb hb hl=>⟨by rcases hb with hb|hb;exact hb;exact hb.1,hl⟩
 exact⟨A1,c1,A2,c2,A3,c3,rfl,rfl,rfl,(h1.mv Xh up).imp λ_ _ h=>Yeq h,h2.mv Yt up,(h3.mv (Zz Yh) up).imp λ_ _ h=>Re Yh (λ_ _ h=>h) h⟩
theorem Yh0:(ae.info? 26).map (·.size)=some 3:=by kernel_rfl
def Ysi(w:World)(D:List Yk)(M:List Txt)(V:List (List Int))(e:Ending)(w':World):Prop:=(∃v1 v2 v3,e=.returned (.agg #[v1,v2,v3])/\Ya7 w' w.heap.size v1 v2 v3 D M V)/\Below w.heap.size w w'
theorem Dl{c1 c2 c3:Nat}(h:Vw w R A1 n1 c1 A2 n2 c2 A3 n3 c3 D M V)(hs:Yrz D M V):
  Calls ae 41 #[Sy A1 n1 c1 A2 n2 c2 A3 n3 c3] w (Ysi w D M V):=by
 have hb0:=(Yb w (.cells #[.slice A1 n1 c1,.slice A2 n2 c2,.slice A3 n3 c3] 26))
 have hb1:=Ya hb0 (Yb (w.alloc (.cells #[.slice A1 n1 c1,.slice A2 n2 c2,.slice A3 n3 c3] 26)) (.cells #[.slice none 0 0,.slice none 0 0,.slice none 0 0] 26))
 have hbl:=(Block.new w 26 #[.slice A1 n1 c1,.slice A2 n2 c2,.slice A3 n3 c3]).alloc (.cells #[.slice none 0 0,.slice none 0 0,.slice none 0 0] 26)
 have hbr:=Block.new (w.alloc (.cells #[.slice A1 n1 c1,.slice A2 n2 c2,.slice A3 n3 c3] 26)) 26 #[.slice none 0 0,.slice none 0 0,.slice none 0 0]
 have hq1:=hid (h.Yc hb1)
 have hsz:(w.alloc (.cells #[.slice A1 n1 c1,.slice A2 n2 c2,.slice A3 n3 c3] 26)).heap.size=w.heap.size+1:=by simp
 have HS:=hid hs
 have l1:=h.d.len
 have l2:=h.m.len
 have l3:=h.v.len
 have Hl1:Hid (n1<=1000/\n2<=1000/\n3<=1000):=hid (by have:=hs.d.1;have:=hs.m.1;have:=hs.v.1;omega)
 clear h hb0 hs l1 l2 l3;go_enter Tryz.func41,Tryz.ntmps41;go_wp2_with fail;rw[hsz]at hbr;generalize (w.alloc (.cells #[.slice A1 n1 c1,.slice A2 n2 c2,.slice A3 n3 c3] 26)).alloc (.cells #[.slice none 0 0,.slice none 0 0,.slice none 0 0] 26)=W at hb1 hbl hbr hq1⊢;clear hsz
 have K:Hid (∀y,Below W.heap.size W y->y.cell? ⟨w.heap.size,0,none⟩=some (.slice A1 n1 c1)/\y.cell? ⟨w.heap.size,1,none⟩=some (.slice A2 n2 c2)/\y.cell? ⟨w.heap.size,2,none⟩=some (.slice A3 n3 c3)):=hid λy hy=>⟨(hbl.below hy hbl.lt).cell 0,(hbl.below hy hbl.lt).cell 1,(hbl.below hy hbl.lt).cell 2⟩
 have k0:W.cell? ⟨w.heap.size,0,none⟩=some (.slice A1 n1 c1):=hbl.cell 0
 have k1:W.cell? ⟨w.heap.size,1,none⟩=some (.slice A2 n2 c2):=hbl.cell 1
 have k2:W.cell? ⟨w.heap.size,2,none⟩=some (.slice A3 n3 c3):=hbl.cell 2
 have HbR:=hid hbr
 have HR:=hid (λy (hy:Below W.heap.size W y)=>hbr.below hy hbr.lt)
 have HW:=hid hb1.size
 have HC:=hid (Yo0 (hq1.out.d.mv Vz (Mv.drewN W 1 R)) Hl1.out.1 HS.out.d.2)
 clear hbl hbr;go_region_held3 (λw'=>w'.cell? ⟨w.heap.size,0,none⟩=some (.slice A1 n1 c1)/\w'.cell? ⟨w.heap.size,1,none⟩=some (.slice A2 n2 c2)/\w'.cell? ⟨w.heap.size,2,none⟩=some (.slice A3 n3 c3))
  (first
   |go_keep
   |exact K.out _ hBB3
   |exact K.out _ hBB2
   |exact K.out _ hBB1)
  (first
   |(go_at_call 86;refine HC.out.mono ?_;rintro e w1 ⟨v1,rfl,hO1,hB1⟩;obtain⟨B1,d1,rfl⟩:=hO1.shape;have hBB1:Below W.heap.size W w1:=((below_drewN (Below.refl _ W) 1).trans hB1))
   |(go_at_call 89;refine(Ycp (hq1.out.m.mv Yt (Mv.Yc hBB1 R)) Hl1.out.2.1 HS.out.m.2).mono ?_;rintro e w2 ⟨v2,rfl,hO2,hB2⟩;obtain⟨B2,d2,rfl⟩:=hO2.shape;have hBB2:=hBB1.trans (hB2.mono hBB1.size))
   |(go_at_call 90;refine(Ym7 (hq1.out.v.mv (Wc Yh) (Mv.Yc hBB2 R)) Hl1.out.2.2 HS.out.v.2).mono ?_;rintro e w3 ⟨v3,rfl,hO3,hB3⟩;obtain⟨B3,d3,rfl⟩:=hO3.shape;have hBB3:=hBB2.trans (hB3.mono hBB2.size);have hr3:=HR.out _ hBB3;have e0:w3.cell? ⟨w.heap.size+1,0,none⟩=some (.slice none 0 0):=hr3.cell 0;have e1':w3.cell? ⟨w.heap.size+1,1,none⟩=some (.slice none 0 0):=hr3.cell 1;have e2':w3.cell? ⟨w.heap.size+1,2,none⟩=some (.slice none 0 0):=hr3.cell 2;have f0:=hr3.free 0;have f1:=hr3.free 1;have f2:=hr3.free 2))
 have hr3':=HR.out _ hBB3
 have hlt:=HbR.out.lt
 have hns:¬W.heap.size<=w.heap.size+1:=by omega
 have q1:Yx Ta 75 2 w3 W.heap.size (λk=>W.heap.size<=k) (.slice B1 D.length d1) D:=Yx.below Xh (Yx.below Xh (show Yx Ta 75 2 w1 W.heap.size (λk=>W.heap.size<=k) (.slice B1 D.length d1) D from hO1) hB2) hB3
 have q2:Yx Y7 9 1 w3 W.heap.size (λk=>W.heap.size<=k) (.slice B2 M.length d2) M:=((hO2.low hBB1.size).to Yt λb hb _=>ak hBB1.size hb).below Yt hB3
 have q3:Yx (Vl Yy 3 1) 47 1 w3 W.heap.size (λk=>W.heap.size<=k) (.slice B3 V.length d3) V:=(hO3.low hBB2.size).to (Zz Yh) λb hb _=>ak hBB2.size hb
 have st:∀{α:Type}{E:ElT α}{T:TypeId}{sz:Nat}{v:Value}{L:List α}{y:World}(i:Nat) (u:Value),E.Ok->Yx E T sz y W.heap.size (λk=>W.heap.size<=k) v L->Yx E T sz (y.setCell ⟨w.heap.size+1,i,none⟩ u) W.heap.size (λk=>W.heap.size<=k) v L:=λ{α}{E}{T}{sz}{v}{L}{y} i u hE hO=>hO.mv hE (λb hb hl=>⟨Below.heap_setCell _ _ _ _ (by
  show b≠w.heap.size+1
  rcases hb with hb|hb
  ·omega
  ·have:=(hO.lt b hb).1;omega),trivial⟩) (.inr ⟨w.heap.size+1,⟨rfl,rfl,rfl,by simp,λb _ hb=>Below.heap_setCell _ _ _ _ (λe=>hb (by rw[e]))⟩,λe=>by have:=(hO.lt _ e).1;omega⟩)
 have hF:=hid (show Ya7 (Ys7 w3 (w.heap.size+1) (.slice B1 D.length d1) (.slice B2 M.length d2) (.slice B3 V.length d3)) w.heap.size (.slice B1 D.length d1) (.slice B2 M.length d2) (.slice B3 V.length d3) D M V from
  ⟨((st 2 _ Xh (st 1 _ Xh (st 0 _ Xh q1))).low HW.out).to Xh λb hb _=>ak HW.out hb,((st 2 _ Yt (st 1 _ Yt (st 0 _ Yt q2))).low HW.out).to Yt λb hb _=>ak HW.out hb,((st 2 _ (Zz Yh) (st 1 _ (Zz Yh) (st 0 _ (Zz Yh) q3))).low HW.out).to (Zz Yh) λb hb _=>ak HW.out hb⟩)
 have hG:=hid ((((hb1.trans (hBB3.mono hb1.size)).setCell (p:=⟨w.heap.size+1,0,none⟩) (dj _) (.slice B1 D.length d1)).setCell (p:=⟨w.heap.size+1,1,none⟩) (dj _) (.slice B2 M.length d2)).setCell (p:=⟨w.heap.size+1,2,none⟩) (dj _) (.slice B3 V.length d3))
 have hRR:=hid (((hr3'.Ys 0 (.slice B1 D.length d1)).Ys 1 (.slice B2 M.length d2)).Ys 2 (.slice B3 V.length d3))
 clear q1 q2 q3 st hO1 hO2 hO3 hB1 hB2 hB3 hBB1 hBB2 hBB3 hr3 hr3' e0 e1' e2' f0 f1 f2 K HR HbR HC hb1 k0 k1 k2;go_wp2_with fail;refine bodyPost_ret (Zi rfl _ _ (w.heap.size+1) _ _ rfl hRR.out fk rfl Yh0) rfl ?_;exact⟨⟨_,_,_,rfl,hF.out⟩,hG.out⟩
section
section
variable {w w' : World}{ds:List DAt}{N:List Nat}{Qs:List (List Pth)}{vs:List CAt}{W m:Nat}{Cs:List Cub}
theorem Dcs.Zj(w:World):Dcs w [] [] []:=⟨rfl,trivial,λi d h=>by simp at h,λi j d e h=>by simp at h⟩
theorem Cbs.Zj(w:World)(W m:Nat):Cbs w [] W m []:=⟨rfl,λi d h=>by simp at h,λi j d e h=>by simp at h⟩
theorem V7{α:Type}{L:List α}{x y:α}{i:Nat}:(L++[x]).getD i y=if i=L.length then x else L.getD i y:=by
 rw[aj,aj]
 by_cases h:i<L.length
 ·rw[ee h,if_neg (by omega)]
 ·by_cases h2:i=L.length
  ·subst h2;simp
  ·rw[fc (by simp;omega),fc (by omega),if_neg h2]
theorem Xy{α:Type}{L:List α}{x y:α}{i:Nat}(h:(L++[x])[i]?=some y):(i<L.length/\L[i]?=some y)∨(i=L.length/\x=y):=by
 by_cases hi:i<L.length
 ·rw[ee hi]at h
  exact .inl ⟨hi,h⟩
 ·have h2:=(ag.1 h).1
  rw[db,fb]at h2;obtain rfl:i=L.length:=by omega
  simp at h;exact .inr ⟨rfl,h⟩
theorem Dcs.snoc(h:Dcs w ds N Qs)(hb:Below w.heap.size w w'){d:DAt}{n:Nat}{Q:List Pth}(hd:Dc w' 0 d.1 d.2.1 d.2.2 n Q)(hf:∀k,W8 d k->w.heap.size<=k):Dcs w' (ds++[d]) (N++[n]) (Qs++[Q]):=by
 have hl:=h.len
 have hq:=h.Ynm
 have hgl:=h.good.len
 refine⟨by simp[hl],Xz.of (by simp;omega) λi hi=>?_,λi e hi=>?_,λi j x y hi hj hij k hx hy=>?_⟩
 ·rw[V7,V7,hgl]
  split
  ·exact hd.good
  ·refine h.good.get ?_
   rw[db,fb]at hi;omega
 ·rw[V7,V7,hgl]
  rcases Xy hi with⟨h1,h2⟩|⟨h1,rfl⟩
  ·rw[if_neg (by omega),if_neg (by omega)]
   exact(h.at_ i e h2).below hb
  ·rw[if_pos (by omega),if_pos (by omega)]
   exact hd
 ·rcases Xy hi with⟨h1,h2⟩|⟨h1,rfl⟩
  ·rcases Xy hj with⟨h3,h4⟩|⟨h3,rfl⟩
   ·exact h.ne i j x y h2 h4 hij k hx hy
   ·have:=h.lt (ai h2) hx;have:=hf k hy;omega
  ·rcases Xy hj with⟨h3,h4⟩|⟨h3,rfl⟩
   ·have:=h.lt (ai h4) hy;have:=hf k hx;omega
   ·omega
theorem Cbs.snoc(h:Cbs w vs W m Cs)(hb:Below w.heap.size w w'){c:CAt}{C:Cub}(hd:Cb w' c.1 c.2 W m C)(hf:∀k,Va c k->w.heap.size<=k):Cbs w' (vs++[c]) W m (Cs++[C]):=by
 have hl:=h.len
 refine⟨by simp[hl],λi e hi=>?_,λi j x y hi hj hij k hx hy=>?_⟩
 ·rw[V7]
  rcases Xy hi with⟨h1,h2⟩|⟨h1,rfl⟩
  ·rw[if_neg (by omega)]
   exact(h.at_ i e h2).Yc hb
  ·rw[if_pos (by omega)]
   exact hd
 ·rcases Xy hi with⟨h1,h2⟩|⟨h1,rfl⟩
  ·rcases Xy hj with⟨h3,h4⟩|⟨h3,rfl⟩
   ·exact h.ne i j x y h2 h4 hij k hx hy
   ·have:=h.lt (ai h2) hx;have:=hf k hy;omega
  ·rcases Xy hj with⟨h3,h4⟩|⟨h3,rfl⟩
   ·have:=h.lt (ai h4) hy;have:=hf k hx;omega
   ·omega
theorem Dcs.Yc8(h:Dcs w ds N Qs){B size n' g c i:Nat}{e:TypeId}{xs:List Value}(hr:w.ownsRow B e size (.slice (some ⟨g,0,none⟩) n' c) n' xs)(h1:e≠160)(h2:e≠168)(u:Value):Dcs (w.setCell ⟨g,i,none⟩ u) ds N Qs:=
 h.chg (S:=λk=>k=g) ((Chg.refl _ w).Ys g i u λ_=>rfl) λd hd k hk e=>by
  obtain⟨j,hj⟩:=af hd;exact Tv hr (h.at_ j d hj) h1 h2 (k:=g) rfl (e▸hk)
theorem Cbs.Yc8(h:Cbs w vs W m Cs){B size n' g c i:Nat}{e:TypeId}{xs:List Value}(hr:w.ownsRow B e size (.slice (some ⟨g,0,none⟩) n' c) n' xs)(h1:e≠181)(u:Value):Cbs (w.setCell ⟨g,i,none⟩ u) vs W m Cs:=
 h.chg (S:=λk=>k=g) ((Chg.refl _ w).Ys g i u λ_=>rfl) λd hd k hk e=>by
  obtain⟨j,hj⟩:=af hd;exact Rg hr (h.at_ j d hj) h1 (k:=g) rfl (e▸hk)
end
theorem Gl{α:Type}{L:List α}(x:α)(h:k<L.length):L.take (k+1)=L.take k++[L.getD k x]:=by
 rw[List.take_add_one,aa h,aj,aa h];rfl
def Hd(T:TypeId)(w:World)(B:Nat)(v:Value)(n:Nat)(old new:List Nat)(k:Nat):Prop:=new.length=k/\w.ownsRow B T 1 v n (new.map Xk++(old.map Xk).drop k)
theorem Hd.Ys{x:Nat}{old new:List Nat}(h:Hd T w B (.slice (some ⟨g,0,none⟩) n c) n old new k)(ho:old.length=n)(hk:k<n):Hd T (w.setCell ⟨g,k,none⟩ (Xk x)) B (.slice (some ⟨g,0,none⟩) n c) n old (new++[x]) (k+1):=by
 obtain⟨h1,h2⟩:=h
 have hs:=(bz h2 k (Xk x)).1
 rw[E7 (by rw[an,h1]) (by rw[an];omega)]at hs
 exact⟨by simp[h1],by rw[dy];exact hs⟩
theorem Yh2(gs:List Nat):∀u∈gs.map Xk,u.oneCell'=true:=by
 intro u hu;obtain⟨x,_,rfl⟩:=ez.1 hu;rfl
def Yi5(w:World)(n:Nat)(N:List Nat)(Qs:List (List Pth))(e:Ending)(w':World):Prop:=
 (∃A c ds,e=.returned (.slice A n c)/\w'.ownsRow w.heap.size 94 1 (.slice A n c) n (ds.map λd=>Xk d.1)/\Dcs w' ds N Qs/\∀d∈ds,∀k,W8 d k->w.heap.size<=k)/\Below w.heap.size w w'
theorem Ycv{ds:List DAt}(hr:w.ownsRow 0 94 1 (.slice A n c) n (ds.map λd=>Xk d.1))(hd:Dcs w ds N Qs)(hn:n<=1000):
  Calls ae 47 #[.slice A n c,.func (.func 48) #[] #[]] w (Yi5 w n N Qs):=by
 have hmap:ds.map (λd=>Xk d.1)=(ds.map (·.1)).map Xk:=by rw[cz];rfl
 have hdl:ds.length=n:=by have:=hr.1;rw[an]at this;omega
 rw[hmap]at hr;obtain⟨A',c',e,hS⟩:=Sl.Kk hr;injection e with e1 e2 e3
 subst e1 e3
 have hol:Hid ((ds.map (·.1)).length=n):=hid (by rw[an];exact hdl)
 obtain⟨A2,c2,e,hle,hcm,hat⟩:=M0 (by rw[hol.out];exact hr)
 rw[hol.out]at e hle;injection e with e1 e2 e3
 subst e1 e3
 have HC:=hid (Yjq hS (Yh2 _) hn)
 have HA:=hid hat
 have HD:=hid hd
 have hNl:=hd.len
 have hQl:=hd.Ynm
 have hnm:n<=9223372036854775807:=by omega
 clear hS hr hat hd hcm;go_enter Tryz.func47,Tryz.ntmps47;go_wp2_with fail;refine HC.out.mono ?_;rintro e w1 ⟨Ac,cc,rfl,hO,hB1⟩
 have hM:Hd 94 w1 w.heap.size (.slice Ac n cc) n (ds.map (·.1)) [] 0:=⟨rfl,by simpa using hO⟩
 have HM:=hid (show ∃es:List DAt,Hd 94 w1 w.heap.size (.slice Ac n cc) n (ds.map (·.1)) (es.map (·.1)) 0/\Dcs w1 es (N.take 0) (Qs.take 0)/\∀d∈es,∀k,W8 d k->w.heap.size<=k from⟨[],hM,Dcs.Zj _,λd hd=>by simp at hd⟩)
 clear hO HC hM;go_wp2_with fail;go_loopw [12] (λi wr=>∃k:Nat,k<=n/\i=.int .i64 k/\Hid (∃es:List DAt,Hd 94 wr w.heap.size (.slice Ac n cc) n (ds.map (·.1)) (es.map (·.1)) k/\Dcs wr es (N.take k) (Qs.take k)/\∀d∈es,∀k,W8 d k->w.heap.size<=k)/\Below w.heap.size w wr) (λi _=>n-(intOf i).toNat)
 case atStart=>exact⟨0,aw _,rfl,HM,hB1⟩
 case round=>
  obtain⟨k,hk,rfl,hO,hB⟩:=hrel
  by_cases hlt:k<n
  ·obtain⟨es,hX,hE,hfe⟩:=hO.out
   obtain⟨d,hdk⟩: ∃d,Hid (ds[k]?=some d):=⟨_,hid (aa (by omega))⟩
   obtain⟨b,rfl,_,hbl,hcell⟩:=HA.out k d.1 (by rw[bo,hdk.out];rfl)
   have g0:wr.cell? ⟨b,k,none⟩=some (.pointer (some ⟨d.1,0,none⟩)):=(hB.cell (p:=⟨b,k,none⟩) hbl).trans hcell
   have hDk:=(HD.out.at_ k d hdk.out).below hB
   obtain⟨g,cg,eg⟩: ∃g cg,(.slice Ac n cc:Value)=.slice (some ⟨g,0,none⟩) n cg:=by
    rcases hX.2.2 with⟨e,e0⟩|⟨g,cap,cur,e,_⟩
    ·omega
    ·exact⟨g,cap,e⟩
   injection eg with eg1 eg2 eg3
   subst eg1 eg3
   have i0:(0:Int)<=(k:Int):=by omega
   have i1:(k:Int)<(n:Int):=by omega
   have HX:=hid (Yp8 hDk)
   have hlo:=bg hX.2
   clear hDk hcell;go_wp2_with fail;refine HX.out.mono ?_;rintro e w5 ⟨g',pv',bm',rfl,hn',hb5⟩
   have hO5:=Xi hX.2 hb5
   have hE5:=hE.below hb5
   have hz:=hB.size
   have hz5:=hb5.size
   obtain⟨y,hy⟩: ∃y,((es.map (·.1)).map Xk++((ds.map (·.1)).map Xk).drop k)[k]?=some y:=⟨_,aa (by have:=hX.2.1;omega)⟩
   have c0:w5.cell? ⟨g,k,none⟩=some y:=(hO5.cellAt k (by omega)).trans hy
   have f0:=hO5.frozenAt k
   have hgl:=(hlo g rfl).1
   have hfd:∀q,W8 (g',pv',bm') q->wr.heap.size<=q:=λq hq=>(hn'.Gt hq).1
   have hS5:=hE.snoc hb5 (d:=(g',pv',bm')) (hn'.low (aw _)) hfd
   rw[<-Gl 0 (by omega),<-Gl [] (by omega)]at hS5
   have hF:=hid (show(∃es:List DAt,Hd 94 (w5.setCell ⟨g,k,none⟩ (.pointer (some ⟨g',0,none⟩))) w.heap.size (.slice (some ⟨g,0,none⟩) n cc) n (ds.map (·.1)) (es.map (·.1)) (k+1)/\Dcs (w5.setCell ⟨g,k,none⟩ (.pointer (some ⟨g',0,none⟩))) es (N.take (k+1)) (Qs.take (k+1))/\∀d∈es,∀k,W8 d k->w.heap.size<=k)/\Below w.heap.size w (w5.setCell ⟨g,k,none⟩ (.pointer (some ⟨g',0,none⟩)))from
    ⟨⟨es++[(g',pv',bm')],by rw[dy];exact Hd.Ys ⟨hX.1,hO5⟩ hol.out hlt,hS5.Yc8 hO5 (by decide) (by decide) _,λd hd q hq=>by
     rcases bs.1 hd with hd|hd
     ·exact hfe d hd q hq
     ·rw[az.1 hd]at hq
      exact ak hz (hfd q hq)⟩,(hB.trans (hb5.mono hB.size)).setCell (p:=⟨g,k,none⟩) hgl _⟩)
   clear hO5 hO hB hb5 HX hy hX hE hfe hE5 hfd hS5 hn' hlo;go_wp2_with fail;go_roundw
   case rel=>exact⟨k+1,by omega,by go_num,hid hF.out.1,hF.out.2⟩
   case measure=>simp[intOf];omega
  ·have hF:=hid (show Yi5 w n N Qs (.returned (.slice Ac n cc)) wr from by
    obtain⟨es,hX,hE,hfe⟩:=hO.out;obtain rfl:k=n:=by omega
    have h2:=hX.2
    rw[dg (by rw[an,hol.out];exact ar _),dz,cz]at h2
    rw[ax (by omega),ax (by omega)]at hE
    exact⟨⟨Ac,cc,es,rfl,h2,hE,hfe⟩,hB⟩)
   clear hO hB;go_wp2_with fail;go_ret;exact hF.out
def Yj0(w:World)(n W m:Nat)(Cs:List Cub)(e:Ending)(w':World):Prop:=
 (∃A c vs,e=.returned (.slice A n c)/\w'.ownsRow w.heap.size 96 1 (.slice A n c) n (vs.map λd=>Xk d.1)/\Cbs w' vs W m Cs/\∀d∈vs,∀k,Va d k->w.heap.size<=k)/\Below w.heap.size w w'
theorem Yow{vs:List CAt}(hr:w.ownsRow 0 96 1 (.slice A n c) n (vs.map λd=>Xk d.1))(hd:Cbs w vs W m Cs)(hn:n<=1000):
  Calls ae 77 #[.slice A n c,.func (.func 78) #[] #[]] w (Yj0 w n W m Cs):=by
 have hmap:vs.map (λd=>Xk d.1)=(vs.map (·.1)).map Xk:=by rw[cz];rfl
 have hdl:vs.length=n:=by have:=hr.1;rw[an]at this;omega
 rw[hmap]at hr;obtain⟨A',c',e,hS⟩:=Sl.Kk hr;injection e with e1 e2 e3
 subst e1 e3
 have hol:Hid ((vs.map (·.1)).length=n):=hid (by rw[an];exact hdl)
 obtain⟨A2,c2,e,hle,hcm,hat⟩:=M0 (by rw[hol.out];exact hr)
 rw[hol.out]at e hle;injection e with e1 e2 e3
 subst e1 e3
 have HC:=hid (Yks hS (Yh2 _) hn)
 have HA:=hid hat
 have HD:=hid hd
 have hNl:=hd.len
 have hnm:n<=9223372036854775807:=by omega
 clear hS hr hat hd hcm;go_enter Tryz.func77,Tryz.ntmps77;go_wp2_with fail;refine HC.out.mono ?_;rintro e w1 ⟨Ac,cc,rfl,hO,hB1⟩
 have hM:Hd 96 w1 w.heap.size (.slice Ac n cc) n (vs.map (·.1)) [] 0:=⟨rfl,by simpa using hO⟩
 have HM:=hid (show ∃es:List CAt,Hd 96 w1 w.heap.size (.slice Ac n cc) n (vs.map (·.1)) (es.map (·.1)) 0/\Cbs w1 es W m (Cs.take 0)/\∀d∈es,∀k,Va d k->w.heap.size<=k from⟨[],hM,Cbs.Zj _ _ _,λd hd=>by simp at hd⟩)
 clear hO HC hM;go_wp2_with fail;go_loopw [12] (λi wr=>∃k:Nat,k<=n/\i=.int .i64 k/\Hid (∃es:List CAt,Hd 96 wr w.heap.size (.slice Ac n cc) n (vs.map (·.1)) (es.map (·.1)) k/\Cbs wr es W m (Cs.take k)/\∀d∈es,∀k,Va d k->w.heap.size<=k)/\Below w.heap.size w wr) (λi _=>n-(intOf i).toNat)
 case atStart=>exact⟨0,aw _,rfl,HM,hB1⟩
 case round=>
  obtain⟨k,hk,rfl,hO,hB⟩:=hrel
  by_cases hlt:k<n
  ·obtain⟨es,hX,hE,hfe⟩:=hO.out
   obtain⟨d,hdk⟩: ∃d,Hid (vs[k]?=some d):=⟨_,hid (aa (by omega))⟩
   obtain⟨b,rfl,_,hbl,hcell⟩:=HA.out k d.1 (by rw[bo,hdk.out];rfl)
   have g0:wr.cell? ⟨b,k,none⟩=some (.pointer (some ⟨d.1,0,none⟩)):=(hB.cell (p:=⟨b,k,none⟩) hbl).trans hcell
   have hDk:=(HD.out.at_ k d hdk.out).Yc hB
   obtain⟨g,cg,eg⟩: ∃g cg,(.slice Ac n cc:Value)=.slice (some ⟨g,0,none⟩) n cg:=by
    rcases hX.2.2 with⟨e,e0⟩|⟨g,cap,cur,e,_⟩
    ·omega
    ·exact⟨g,cap,e⟩
   injection eg with eg1 eg2 eg3
   subst eg1 eg3
   have i0:(0:Int)<=(k:Int):=by omega
   have i1:(k:Int)<(n:Int):=by omega
   have HX:=hid (Yez hDk)
   have hlo:=bg hX.2
   clear hDk hcell;go_wp2_with fail;refine HX.out.mono ?_;rintro e w5 ⟨⟨v,rfl,g',b',rfl,hn',hg1,hg2⟩,hb5⟩
   have hO5:=Xi hX.2 hb5
   have hE5:=hE.below hb5
   have hz:=hB.size
   have hz5:=hb5.size
   obtain⟨y,hy⟩: ∃y,((es.map (·.1)).map Xk++((vs.map (·.1)).map Xk).drop k)[k]?=some y:=⟨_,aa (by have:=hX.2.1;omega)⟩
   have c0:w5.cell? ⟨g,k,none⟩=some y:=(hO5.cellAt k (by omega)).trans hy
   have f0:=hO5.frozenAt k
   have hgl:=(hlo g rfl).1
   have hfd:∀q,Va (g',b') q->wr.heap.size<=q:=λq hq=>by rcases hq with rfl|rfl;exact hg1;exact hg2
   have hS5:=hE.snoc hb5 (c:=(g',b')) hn' hfd
   rw[<-Gl [] (by omega)]at hS5
   have hF:=hid (show(∃es:List CAt,Hd 96 (w5.setCell ⟨g,k,none⟩ (.pointer (some ⟨g',0,none⟩))) w.heap.size (.slice (some ⟨g,0,none⟩) n cc) n (vs.map (·.1)) (es.map (·.1)) (k+1)/\Cbs (w5.setCell ⟨g,k,none⟩ (.pointer (some ⟨g',0,none⟩))) es W m (Cs.take (k+1))/\∀d∈es,∀k,Va d k->w.heap.size<=k)/\Below w.heap.size w (w5.setCell ⟨g,k,none⟩ (.pointer (some ⟨g',0,none⟩)))from
    ⟨⟨es++[(g',b')],by rw[dy];exact Hd.Ys ⟨hX.1,hO5⟩ hol.out hlt,hS5.Yc8 hO5 (by decide) _,λd hd q hq=>by
     rcases bs.1 hd with hd|hd
     ·exact hfe d hd q hq
     ·rw[az.1 hd]at hq
      exact ak hz (hfd q hq)⟩,(hB.trans (hb5.mono hB.size)).setCell (p:=⟨g,k,none⟩) hgl _⟩)
   clear hO5 hO hB hb5 HX hy hX hE hfe hE5 hfd hS5 hn' hlo;go_wp2_with fail;go_roundw
   case rel=>exact⟨k+1,by omega,by go_num,hid hF.out.1,hF.out.2⟩
   case measure=>simp[intOf];omega
  ·have hF:=hid (show Yj0 w n W m Cs (.returned (.slice Ac n cc)) wr from by
    obtain⟨es,hX,hE,hfe⟩:=hO.out;obtain rfl:k=n:=by omega
    have h2:=hX.2
    rw[dg (by rw[an,hol.out];exact ar _),dz,cz]at h2
    rw[ax (by omega)]at hE
    exact⟨⟨Ac,cc,es,rfl,h2,hE,hfe⟩,hB⟩)
   clear hO hB;go_wp2_with fail;go_ret;exact hF.out
end
section
section
variable {w:World}{R F:Nat->Prop}{g:Nat}{D:List Yk}{M:List Txt}{V:List (List Int)}{Qs:List (List Pth)}{Cs:List Cub}{cnt:Int}
theorem Ya4(h:Lt w R g F D M V Qs Cs cnt):Calls ae 24 #[.pointer (some ⟨g,0,none⟩)] w λe w'=>e=.returned (.int .i64 cnt)/\w=w':=by
 obtain⟨dv,vv,ds,vs,A1,n1,c1,A2,n2,c2,A3,n3,c3,h1,h2,h3,h4⟩:=h
 have k5:=h1.c5
 clear h1 h2 h3 h4;go_enter Tryz.func24,Tryz.ntmps24;go_wp2;go_ret;exact⟨rfl,rfl⟩
theorem Ch{vv:Value}{A:Option Addr}{n c:Nat}(hv:vv=.slice A n c)(k4:w.cell? ⟨g,4,none⟩=some vv)(v:Int){r:Bool}(hr:Hid (decide (0<=v/\v<(n:Int))=r)):Calls ae 54 #[.pointer (some ⟨g,0,none⟩),.int .i64 v] w λe w'=>e=.returned (.bool r)/\w=w':=by
 subst hv
 by_cases h0:0<=v
 ·by_cases h1:v<(n:Int)
  ·obtain rfl:r=true:=hr.out.symm.trans (decide_eq_true ⟨h0,h1⟩)
   clear hr;go_enter ff,ei;go_wp2;go_ret;exact⟨rfl,rfl⟩
  ·obtain rfl:r=false:=hr.out.symm.trans (decide_eq_false λh=>h1 h.2)
   clear hr;go_enter ff,ei;go_wp2;go_ret;exact⟨rfl,rfl⟩
 ·obtain rfl:r=false:=hr.out.symm.trans (decide_eq_false λh=>h0 h.1)
  clear hr;go_enter ff,ei;go_wp2;go_ret;exact⟨rfl,rfl⟩
theorem LtM.Yat{X1 X2 X3 dv vv:Value}{ds:List DAt}{vs:List CAt}{N:List Nat}{W m:Nat}(h:LtM w g X1 X2 X3 dv vv ds vs N Qs W m Cs cnt):∃A c,vv=.slice A Cs.length c/\vs.length=Cs.length/\∀i cc,vs[i]?=some cc->∃b,A=some ⟨b,0,none⟩∧vv.ownBlock=some b/\b<w.heap.size/\w.cell? ⟨b,i,none⟩=some (.pointer (some ⟨cc.1,0,none⟩)):=by
 have hl:=h.cbs.len
 have hr:=h.vr
 rw[show vs.map (λc=>Xk c.1)=(vs.map (·.1)).map Xk by rw[cz];rfl]at hr
 have e:(vs.map (·.1)).length=vs.length:=by rw[an]
 rw[<-e]at hr;obtain⟨A,c,ev,_,_,hat⟩:=M0 hr;rw[e]at ev;refine⟨A,c,by rw[ev,hl],hl,λi cc hi=>?_⟩
 obtain⟨b,q1,q2,q3,q4⟩:=hat i cc.1 (by rw[bo,hi];rfl)
 exact⟨b,q1,q2,q3,q4⟩
theorem LtM.Ki{X1 X2 X3 dv vv:Value}{ds:List DAt}{vs:List CAt}{N:List Nat}{W m:Nat}(h:LtM w g X1 X2 X3 dv vv ds vs N Qs W m Cs cnt):∃A c,dv=.slice A N.length c/\ds.length=N.length/\∀i d,ds[i]?=some d->∃b,A=some ⟨b,0,none⟩∧dv.ownBlock=some b/\b<w.heap.size/\w.cell? ⟨b,i,none⟩=some (.pointer (some ⟨d.1,0,none⟩)):=by
 have hl:=h.dcs.len
 have hr:=h.dr
 rw[show ds.map (λc=>Xk c.1)=(ds.map (·.1)).map Xk by rw[cz];rfl]at hr
 have e:(ds.map (·.1)).length=ds.length:=by rw[an]
 rw[<-e]at hr;obtain⟨A,c,ev,_,_,hat⟩:=M0 hr;rw[e]at ev;refine⟨A,c,by rw[ev,hl],hl,λi cc hi=>?_⟩
 obtain⟨b,q1,q2,q3,q4⟩:=hat i cc.1 (by rw[bo,hi];rfl)
 exact⟨b,q1,q2,q3,q4⟩
theorem Wx{D:List Yk}{M:List Txt}{V:List (List Int)}(h:Wk D M V):(Yg D V).length<=7:=by
 have:=h.2.2.1
 unfold Yg;simp;omega
def Yi0(Cs:List Cub)(v:Int):Int×Int:=if 0<=v/\v<(Cs.length:Int)then (((Cs.getD v.toNat []).length:Int),0)else (0,17)
theorem Cy(h:Lt w R g F D M V Qs Cs cnt)(v:Int){a b:Int}(hab:Hid (Yi0 Cs v=(a,b))):Calls ae 38 #[.pointer (some ⟨g,0,none⟩),.int .i64 v] w λe w'=>e=.returned (.tuple #[.int .i64 a,.int .i64 b])/\w=w':=by
 obtain⟨dv,vv,ds,vs,A1,n1,c1,A2,n2,c2,A3,n3,c3,h1,h2,h3,h4,hm,hcl⟩:=h;obtain⟨A,c,ev,hvl,hat⟩:=h1.Yat
 have hfew:=Wx hm
 have hH:=hid (λr hr=>Ch (r:=r) ev h1.c4 v hr)
 have k4:=h1.c4
 have HCb:=hid h1.cbs
 have hn7:Cs.length<=7:=by omega
 have HA:=hid hat
 subst ev;clear h2 h3 h4 hm hat h1
 by_cases hv:0<=v/\v<(Cs.length:Int)
 ·obtain⟨k,rfl⟩:=Int.eq_ofNat_of_zero_le hv.1
  have hk:k<Cs.length:=by omega
  obtain⟨cc,hcc⟩: ∃cc,Hid (vs[k]?=some cc):=⟨_,hid (aa (by omega))⟩
  obtain⟨b',rfl,_,_,g0⟩:=HA.out k cc hcc.out
  have HX:=hid (Yap (HCb.out.at_ k cc hcc.out))
  have hH:=hid (hH.out true (hid (decide_eq_true hv)))
  have hab2:=hab.out
  unfold Yi0 at hab2;rw[if_pos hv]at hab2;obtain⟨ea,rfl⟩:=Prod.mk.inj hab2;rw[show((k:Int).toNat)=k from rfl]at ea
  rw[ea]at HX
  have i0:(0:Int)<=(k:Int):=by omega
  have i1:(k:Int)<(Cs.length:Int):=by omega
  clear hab hab2 ea hv;go_enter gy,fy;go_wp2_with fail;refine hH.out.mono ?_;rintro e w1 ⟨rfl,rfl⟩;go_wp2_with fail;refine HX.out.mono ?_;rintro e w1 ⟨rfl,rfl⟩;go_wp2_with fail;go_ret2;exact⟨rfl,rfl⟩
 ·have hH:=hid (hH.out false (hid (decide_eq_false hv)))
  have hab2:=hab.out
  unfold Yi0 at hab2;rw[if_neg hv]at hab2;obtain⟨rfl,rfl⟩:=Prod.mk.inj hab2;clear hab hab2 hv;go_enter gy,fy;go_wp2_with fail;refine hH.out.mono ?_;rintro e w1 ⟨rfl,rfl⟩;go_wp2_with fail;go_ret2;exact⟨rfl,rfl⟩
theorem Ygp(h:Lt w R g F D M V Qs Cs cnt):Calls ae 15 #[.pointer (some ⟨g,0,none⟩)] w (Ysi w D M V):=by
 obtain⟨dv,vv,ds,vs,A1,n1,c1,A2,n2,c2,A3,n3,c3,h1,h2,h3,h4,hm,hcl⟩:=h
 have hb0:=Yb w (.cells #[.slice none 0 0,.slice none 0 0,.slice none 0 0] 26)
 have hbr:=Block.new w 26 #[.slice none 0 0,.slice none 0 0,.slice none 0 0]
 have h1':=h1.below hb0
 have k0:=h1'.c0
 have k1:=h1'.c1
 have k2:=h1'.c2
 have HX:=hid (Dl (h2.Yc hb0) (Rw hm))
 clear h1 h2 h3 h4 hm hcl h1';go_enter Tryz.func15,Tryz.ntmps15;go_wp2_with fail;generalize w.alloc (.cells #[.slice none 0 0,.slice none 0 0,.slice none 0 0] 26)=W0 at hb0 hbr k0 k1 k2 HX⊢;go_wp2_with fail;refine HX.out.mono ?_;rintro e w1 ⟨⟨v1,v2,v3,rfl,hO⟩,hB⟩
 have hs:=hb0.size
 have hr1:=hbr.below hB hbr.lt
 have hns:w.heap.size<W0.heap.size:=hbr.lt
 have st:∀{α:Type}{E:ElT α}{T:TypeId}{sz:Nat}{v:Value}{L:List α}{y:World}(i:Nat) (u:Value),E.Ok->Yx E T sz y W0.heap.size (λk=>W0.heap.size<=k) v L->Yx E T sz (y.setCell ⟨w.heap.size,i,none⟩ u) W0.heap.size (λk=>W0.heap.size<=k) v L:=λ{α}{E}{T}{sz}{v}{L}{y} i u hE hO=>hO.mv hE (λb hb hl=>⟨Below.heap_setCell _ _ _ _ (by
  show b≠w.heap.size
  rcases hb with hb|hb
  ·omega
  ·have:=(hO.lt b hb).1;omega),trivial⟩) (.inr ⟨w.heap.size,⟨rfl,rfl,rfl,by simp,λb _ hb=>Below.heap_setCell _ _ _ _ (λe=>hb (by rw[e]))⟩,λe=>by have:=(hO.lt _ e).1;omega⟩)
 have q1:=st 2 v3 Xh (st 1 v2 Xh (st 0 v1 Xh hO.d))
 have q2:=st 2 v3 Yt (st 1 v2 Yt (st 0 v1 Yt hO.m))
 have q3:=st 2 v3 (Zz Yh) (st 1 v2 (Zz Yh) (st 0 v1 (Zz Yh) hO.v))
 obtain⟨B1,d1,rfl⟩:=hO.d.shape;obtain⟨B2,d2,rfl⟩:=hO.m.shape;obtain⟨B3,d3,rfl⟩:=hO.v.shape
 have hF:=hid (show Ya7 (Ys7 w1 w.heap.size (.slice B1 D.length d1) (.slice B2 M.length d2) (.slice B3 V.length d3)) w.heap.size (.slice B1 D.length d1) (.slice B2 M.length d2) (.slice B3 V.length d3) D M V from
  ⟨(q1.low (by omega)).to Xh λb hb _=>by omega,(q2.low (by omega)).to Yt λb hb _=>by omega,(q3.low (by omega)).to (Zz Yh) λb hb _=>by omega⟩)
 have hG:=hid ((((hb0.trans (hB.mono hs)).setCell (p:=⟨w.heap.size,0,none⟩) (ar _) (.slice B1 D.length d1)).setCell (p:=⟨w.heap.size,1,none⟩) (ar _) (.slice B2 M.length d2)).setCell (p:=⟨w.heap.size,2,none⟩) (ar _) (.slice B3 V.length d3))
 have hRR:=hid (((hr1.Ys 0 (.slice B1 D.length d1)).Ys 1 (.slice B2 M.length d2)).Ys 2 (.slice B3 V.length d3))
 have e0:w1.cell? ⟨w.heap.size,0,none⟩=some (.slice none 0 0):=hr1.cell 0
 have e1:w1.cell? ⟨w.heap.size,1,none⟩=some (.slice none 0 0):=hr1.cell 1
 have e2:w1.cell? ⟨w.heap.size,2,none⟩=some (.slice none 0 0):=hr1.cell 2
 have f0:=hr1.free 0
 have f1:=hr1.free 1
 have f2:=hr1.free 2
 clear q1 q2 q3 st hO hB hr1 hb0 HX hbr;go_wp2_with fail;refine bodyPost_ret (Zi rfl _ _ w.heap.size _ _ rfl hRR.out fk rfl Yh0) rfl ?_;exact⟨⟨_,_,_,rfl,hF.out⟩,hG.out⟩
end
end
section
theorem Gx{T TS:TypeId}{sz bytes:Nat}{z:Value}{w:World}{ops:Array Oper}{o:Oper}{a:Act}{Q:Exit->Act->World->Prop}{K:Act->World->Prop}{Fl:Prop}(hgd:o.guard=none)(s x:Operand)
  (ho:o.op=.call {callee:=.builtin .append,args:=#[s,x],argTypes:=#[TS,TS]}) (hinfo:(ae.info? T).map (λi=>(i.zero,i.size,i.bytes))=some (some z,sz,bytes)) (hTS:ae.underlying TS=some (.slice T)) (hzs:z.cells.size=sz) (hsz:0<sz/\sz<=100/\bytes<=1000)
  (base:Nat) (v:Value) (n:Nat) (vs:List Value) (hs:a.eval s=v) (hr:w.ownsRow base T sz v n vs) (g:Nat) (hx:a.eval x=.slice (some ⟨g,0,none⟩) 1 1) (us:List Value) (hus:us.length=sz)
  (hy:∀j u,us[j]?=some u->w.cell? ((⟨g,0,none⟩:Addr).add j)=some u) (hone:∀u∈us,u.oneCell'=true) (hlen:n<=1000000) (hbase:base<=w.heap.size)
  (h:∀v' w',w'.ownsRow base T sz v' (n+1) (vs++us)->Zl w v w' v'→K (a.put o.dst v') w'):
  if Region.wanted o (yielded ops a.tmps)=true then Oper.wp ae o a w K Q else Fl:=by
 have hw:Region.wanted o (yielded ops a.tmps)=true:=by simp[Region.wanted,hgd]
 rw[if_pos hw];obtain⟨i,hi,hz0,hz1,hz2⟩:=info_parts hinfo;obtain⟨v',w',hrun,h2,h3,_,h5⟩:=run_append_own_at (P:=ae) w base TS o.type T i _ sz bytes hTS hi hz0 hz1 hz2 hzs hsz.1 v n vs hr ⟨g,0,none⟩ 1 1 us (by rw[hus];omega) hy hone (by unfold maxLen;omega) (by have:=fx (show n+1<=1000001 by omega) hsz.2.2;omega) hbase
 unfold Oper.wp execOp;simp only[ho,resolve,invoke,builtin,Sem.run_bind,Sem.run_pure,Result.andThen_ok,List.map_toArray,List.map_cons,List.map_nil,hs,hx,hrun]
 have hG:Zl w v w' v':=⟨h3,λq hq=>by
  rcases h5 with h5|h5
  ·exact .inl (h5▸hq)
  ·rw[h5]at hq
   injection hq with hq
   exact .inr (Nat.le_of_eq hq)⟩
 exact h v' w' h2 hG
theorem Chg.Yw{S:Nat->Prop}{w w':World}{B:Nat}(h:Chg S w w')(hB:B<=w.heap.size)(hS:∀k,S k->B<=k):Below B w w':=h.below hB hS
theorem Ns{w w':World}{v v':Value}(hG:Zl w v w' v'):Chg (λk=>v.ownBlock=some k) w w':=Chg.W5 hG.1 λ_ hk _=>hk
theorem Rc{w:World}{B size n:Nat}{T:TypeId}{v:Value}{vs:List Value}(h:w.ownsRow B T size v n vs):∃A c,v=.slice A n c:=by
 rcases h.2 with⟨rfl,e0⟩|⟨g,cap,cur,rfl,_⟩
 ·exact⟨none,0,by rw[e0]⟩
 ·exact⟨_,_,rfl⟩
section
variable {w y w8:World}{g:Nat}{X1 X2 X3 dv vv v' : Value}{ds:List DAt}{vs:List CAt}{N:List Nat}{Qs:List (List Pth)}{W m:Nat}{Cs:List Cub}{cnt:Int}
def Fb(B g:Nat)(dv vv:Value)(ds:List DAt)(vs:List CAt):Prop:=∀k,Zm g dv vv ds vs k->B<=k
theorem LtM.Vj(h:LtM w g X1 X2 X3 dv vv ds vs N Qs W m Cs cnt)(hb:Below w.heap.size w y){d:DAt}{n:Nat}{Q:List Pth}(hd:Dc y 0 d.1 d.2.1 d.2.2 n Q)(hf:∀k,W8 d k->w.heap.size<=k)(hO:w8.ownsRow 0 94 1 v' (ds.length+1) (ds.map (λd=>Xk d.1)++[Xk d.1]))(hG:Zl y dv w8 v'):
  Block w8 g 92 #[X1,X2,X3,dv,vv,.int .i64 cnt]/\LtM (w8.setCell ⟨g,3,none⟩ v') g X1 X2 X3 v' vv (ds++[d]) vs (N++[n]) (Qs++[Q]) W m Cs cnt/\(∀B,Fb B g dv vv ds vs->B<=w.heap.size->Fb B g v' vv (ds++[d]) vs/\Below B w (w8.setCell ⟨g,3,none⟩ v')):=by
 have hz:=hb.size
 have h1:=h.below hb
 have hc:=Ns hG
 have b8:=h1.blk.chg hc h1.Ywm
 have hD:=h.dcs.snoc hb hd hf
 have hD8:Dcs w8 (ds++[d]) (N++[n]) (Qs++[Q]):=hD.chg hc λe he k hk hdv=>by
  obtain⟨i,hi⟩:=af he;exact Tv h1.dr (hD.at_ i e hi) (by decide) (by decide) hdv hk
 have hC8:Cbs w8 vs W m Cs:=h1.cbs.chg hc λe he k hk hdv=>by
  obtain⟨i,hi⟩:=af he;exact Rg h1.dr (h1.cbs.at_ i e hi) (by decide) hdv hk
 have hV8:=hc.row h1.vr λk hk hdv=>h1.Yqb hdv hk
 have hs:Chg (λk=>k=g) w8 (w8.setCell ⟨g,3,none⟩ v'):=(Chg.refl _ w8).Ys g 3 v' λ_=>rfl
 have hvg:v'.ownBlock≠some g:=Y8 hO b8 (by decide)
 refine⟨b8,⟨b8.Ys 3 v',?_,?_,hD8.chg hs ?_,hC8.chg hs ?_,?_⟩,λB hF hB=>⟨?_,?_⟩⟩
 ·have:=hs.row hO λk hk e=>hvg (e▸hk)
  simpa using this
 ·exact hs.row hV8 λk hk e=>Y8 hV8 b8 (by decide) (e▸hk)
 ·intro e he k hk hkg
  subst hkg;obtain⟨i,hi⟩:=af he
  rcases(hD8.at_ i e hi).kind hk with⟨cs,e',fr,hh,h1'⟩|⟨es,clock,hh⟩
  ·have b8':w8.heap[k]?=some (.cells _ _ _):=b8
   rw[b8']at hh;simp only[au,bn]at hh
   rcases h1' with h1'|h1' <;> (rw[<-hh.2.1]at h1';exact absurd h1' (by decide))
  ·have b8':w8.heap[k]?=some (.cells _ _ _):=b8
   rw[b8']at hh;cases hh
 ·intro e he k hk hkg
  subst hkg;obtain⟨i,hi⟩:=af he
  have b8':w8.heap[k]?=some (.cells _ _ _):=b8
  rcases(hC8.at_ i e hi).kind hk with⟨cs,fr,hh⟩|⟨es,clock,hh⟩
  ·rw[b8']at hh
   simp only[au,bn]at hh;exact absurd hh.2.1 (by decide)
  ·rw[b8']at hh;cases hh
 ·intro e he c hc' k hk hkc
  rcases bs.1 he with he|he
  ·exact h.apart e he c hc' k hk hkc
  ·rw[az.1 he]at hk
   have:=hf k hk
   have:=h.cbs.lt hc' hkc
   omega
 ·rintro k (rfl|hk|hk|⟨e,he,hk⟩|hk)
  ·exact hF _ (.inl rfl)
  ·rcases hG.2 k hk with h2|h2
   ·exact hF _ (.inr (.inl h2))
   ·omega
  ·exact hF _ (.inr (.inr (.inl hk)))
  ·rcases bs.1 he with he|he
   ·exact hF _ (.inr (.inr (.inr (.inl ⟨e,he,hk⟩))))
   ·rw[az.1 he]at hk
    have:=hf k hk
    omega
  ·exact hF _ (.inr (.inr (.inr (.inr hk))))
 ·exact(((hb.mono hB).trans (hc.Yw (by omega) λk hk=>hF _ (.inr (.inl hk)))).trans (hs.Yw (by have:=hc.size;omega) λk e=>by rw[e];exact hF _ (.inl rfl)))
theorem LtM.Jo(h:LtM w g X1 X2 X3 dv vv ds vs N Qs W m Cs cnt)(hb:Below w.heap.size w y){c:CAt}{C:Cub}(hd:Cb y c.1 c.2 W m C)(hf:∀k,Va c k->w.heap.size<=k)(hO:w8.ownsRow 0 96 1 v' (vs.length+1) (vs.map (λd=>Xk d.1)++[Xk c.1]))(hG:Zl y vv w8 v'):
  Block w8 g 92 #[X1,X2,X3,dv,vv,.int .i64 cnt]/\LtM (w8.setCell ⟨g,4,none⟩ v') g X1 X2 X3 dv v' ds (vs++[c]) N Qs W m (Cs++[C]) cnt/\(∀B,Fb B g dv vv ds vs->B<=w.heap.size->Fb B g dv v' ds (vs++[c])/\Below B w (w8.setCell ⟨g,4,none⟩ v')):=by
 have hz:=hb.size
 have h1:=h.below hb
 have hc:=Ns hG
 have b8:=h1.blk.chg hc h1.Ytg
 have hD:=h.cbs.snoc hb hd hf
 have hC8:Cbs w8 (vs++[c]) W m (Cs++[C]):=hD.chg hc λe he k hk hdv=>by
  obtain⟨i,hi⟩:=af he;exact Rg h1.vr (hD.at_ i e hi) (by decide) hdv hk
 have hD8:Dcs w8 ds N Qs:=h1.dcs.chg hc λe he k hk hdv=>by
  obtain⟨i,hi⟩:=af he;exact Tv h1.vr (h1.dcs.at_ i e hi) (by decide) (by decide) hdv hk
 have hV8:=hc.row h1.dr λk hk hdv=>h1.Yqb hk hdv
 have hs:Chg (λk=>k=g) w8 (w8.setCell ⟨g,4,none⟩ v'):=(Chg.refl _ w8).Ys g 4 v' λ_=>rfl
 have hvg:v'.ownBlock≠some g:=Y8 hO b8 (by decide)
 refine⟨b8,⟨b8.Ys 4 v',?_,?_,hD8.chg hs ?_,hC8.chg hs ?_,?_⟩,λB hF hB=>⟨?_,?_⟩⟩
 ·exact hs.row hV8 λk hk e=>Y8 hV8 b8 (by decide) (e▸hk)
 ·have:=hs.row hO λk hk e=>hvg (e▸hk)
  simpa using this
 ·intro e he k hk hkg
  subst hkg;obtain⟨i,hi⟩:=af he
  rcases(hD8.at_ i e hi).kind hk with⟨cs,e',fr,hh,h1'⟩|⟨es,clock,hh⟩
  ·have b8':w8.heap[k]?=some (.cells _ _ _):=b8
   rw[b8']at hh;simp only[au,bn]at hh
   rcases h1' with h1'|h1' <;> (rw[<-hh.2.1]at h1';exact absurd h1' (by decide))
  ·have b8':w8.heap[k]?=some (.cells _ _ _):=b8
   rw[b8']at hh;cases hh
 ·intro e he k hk hkg
  subst hkg;obtain⟨i,hi⟩:=af he
  have b8':w8.heap[k]?=some (.cells _ _ _):=b8
  rcases(hC8.at_ i e hi).kind hk with⟨cs,fr,hh⟩|⟨es,clock,hh⟩
  ·rw[b8']at hh
   simp only[au,bn]at hh;exact absurd hh.2.1 (by decide)
  ·rw[b8']at hh;cases hh
 ·intro e he c' hc' k hk hkc
  rcases bs.1 hc' with hc'|hc'
  ·exact h.apart e he c' hc' k hk hkc
  ·rw[az.1 hc']at hkc
   have:=hf k hkc
   have:=h.dcs.lt he hk
   omega
 ·rintro k (rfl|hk|hk|hk|⟨e,he,hk⟩)
  ·exact hF _ (.inl rfl)
  ·exact hF _ (.inr (.inl hk))
  ·rcases hG.2 k hk with h2|h2
   ·exact hF _ (.inr (.inr (.inl h2)))
   ·omega
  ·exact hF _ (.inr (.inr (.inr (.inl hk))))
  ·rcases bs.1 he with he|he
   ·exact hF _ (.inr (.inr (.inr (.inr ⟨e,he,hk⟩))))
   ·rw[az.1 he]at hk
    have:=hf k hk
    omega
 ·exact(((hb.mono hB).trans (hc.Yw (by omega) λk hk=>hF _ (.inr (.inr (.inl hk))))).trans (hs.Yw (by have:=hc.size;omega) λk e=>by rw[e];exact hF _ (.inl rfl)))
end
theorem Wl(h:Wk D M V):1<=D.length/\D.length<=3/\1<=M.length/\M.length<=2:=by
 obtain⟨⟨_,h2⟩,h3,_⟩:=h
 have a:=h2.1
 have b:=h2.2.1
 rw[an]at a b;exact⟨a,b,h3.1,h3.2.1⟩
theorem B9{c1 c2:Nat}(k0:w.cell? ⟨g,0,none⟩=some (.slice A1 W c1))(k1:w.cell? ⟨g,1,none⟩=some (.slice A2 m c2))(h:1<=W/\W<=3/\1<=m/\m<=2)(hg:g<w.heap.size):
  Calls ae 45 #[.pointer (some ⟨g,0,none⟩)] w λe w'=>(∃v,e=.returned v/\Eh w W m [] v w')/\Below w.heap.size w w':=by
 obtain⟨h1,h2,h3,h4⟩:=h
 have K:Hid (∀y,Below w.heap.size w y->y.cell? ⟨g,0,none⟩=some (.slice A1 W c1)/\y.cell? ⟨g,1,none⟩=some (.slice A2 m c2)):=hid λy hy=>⟨(hy.cell (p:=⟨g,0,none⟩) hg).trans k0,(hy.cell (p:=⟨g,1,none⟩) hg).trans k1⟩
 have HN:=hid (Yi7 h1 h2 h3 h4 w.drew)
 have iW0:(0:Int)<=(W:Int):=by omega
 clear h1 h2 h3 h4;go_enter Tryz.func45,Tryz.ntmps45;go_wp2_with fail;go_region_held3 (λw'=>w'.cell? ⟨g,0,none⟩=some (.slice A1 W c1)/\w'.cell? ⟨g,1,none⟩=some (.slice A2 m c2))
  (first
   |go_keep
   |exact K.out _ hBB1)
  (first
   |(go_at_call 96;refine HN.out.mono ?_;rintro e w1 ⟨⟨v,rfl,hT⟩,hB1⟩;have hBB1:Below w.heap.size w w1:=((below_drewN (Below.refl _ w) 1).trans hB1)))
 have hF:=hid (show(∃v',(Ending.returned v)=.returned v'∧Eh w W m [] v' w1)/\Below w.heap.size w w1 from⟨⟨v,rfl,hT⟩,hBB1⟩)
 obtain⟨gq,bq,rfl,hq⟩:=hT;clear hq hB1 hBB1 K HN;go_wp2_with fail;go_ret;exact hF.out
end
def J6(z:Value)(m:Nat):Array Value:=(di m z).toArray
theorem Yf1{TS:TypeId}{z:Value}{bytes:Nat}(hz0:z.cells=#[z])(hinfo:(ae.info? T).map (λi=>(i.zero,i.size,i.bytes))=some (some z,1,bytes))(hTS:ae.underlying TS=some (.slice T))(hb:bytes<=1000)(m:Nat)(W:World)(hm:m<=1000000):
  (Instr.makeSlice TS (.int .i64 m) (.int .i64 m)).run ae W=.ok (.slice (some ⟨W.heap.size,0,none⟩) m m) (W.alloc (.cells (J6 z m) T)):=by
 obtain⟨i,hi,hz,hy,hx⟩:=info_parts hinfo
 have h:=run_make (P:=ae) W TS T i z hTS hi hz .i64 .i64 m m (by omega) (by omega) (by rw[hx];have h1:=fx hb hm;have h2:((bytes*m:Nat):Int)=(bytes:Int)*(m:Int):=Int.natCast_mul _ _;omega) (by omega)
 rw[hy,br,Int.toNat_natCast]at h;rw[h]
 congr 2
 congr 1
 apply Array.ext
 ·simp[J6,madeCells]
 ·intro k h1 h2
  simp[J6,madeCells,hz0,Nat.mod_one]
theorem Yhj(w:World)(T:TypeId)(z:Value)(m:Nat)(hm:m<=1000000):(w.alloc (.cells (J6 z m) T)).ownsRow w.heap.size T 1 (.slice (some ⟨w.heap.size,0,none⟩) m m) m (di m z):=
 ⟨by simp,.inr ⟨w.heap.size,m,J6 z m,rfl,ar _,heap_alloc_new w _,ar _,by unfold maxLen;omega,by simp[J6],by simp[J6]⟩⟩
abbrev Qc:ElT (List Txt):=Vl Y7 9 1
abbrev Ykp:ElT Zd:=Vl Qc 23 1
abbrev R7:ElT (Zd×PC):=U1 Ykp 1 M2
theorem Sz:Qc.Ok:=Zz Yt
theorem Yb1:Ykp.Ok:=Zz Sz
theorem U5:R7.Ok:=Wv Yb1 Ls
theorem Ydg{l:List Txt}(h:Qc w S us l):Z4 w S us l:=Re Yt (λ_ _ h=>h) h
theorem Yhs{l:Zd}(h:Ykp w S us l):Yjd w S us l:=Re Sz (λ_ _ h=>Ydg h) h
theorem P3{d:Zd×PC}(h:R7 w S us d):V6 w S us d:=⟨Yhs h.1,Ko h.2⟩
theorem Yi1{ds:List DAt}{vs:List CAt}(h:LtM w g X1 X2 X3 dv vv ds vs N Qs W m Cs cnt)(hN:N.length<=3){A:Option Addr}{n c:Nat}{K:List Int}(hK:Y2 w w.heap.size A n c K)(hl:K.length=N.length)(hc:∀i,i<N.length->0<=K.getD i 0/\K.getD i 0<=((Qs.getD i []).length:Int)):
  Calls ae 57 #[.pointer (some ⟨g,0,none⟩),.slice A n c] w (Told Qc 23 1 w (Z1 Qs K)):=by
 obtain⟨Ad,cd,edv,hdl,hat⟩:=h.Ki;subst edv
 have hnl:n=N.length:=by rw[<-hl];exact hK.len.symm
 subst hnl
 have hlq:Qs.length=N.length:=h.dcs.good.len
 have HK:=hid hK
 have HM:=hid h
 have HA:=hid hat
 have HC:=hid hc
 have HPl:Hid ((Z1 Qs K).length=N.length):=hid (by rw[O5 (by omega)];exact hlq)
 have HPg:=hid (λi (hi:i<N.length)=>Kg (Qs:=Qs) (k:=K) (i:=i) (by omega) (by omega))
 have hmk:∀W:World,(Instr.makeSlice 69 (.int .i64 (N.length:Int)) (.int .i64 (N.length:Int))).run ae W=.ok (.slice (some ⟨W.heap.size,0,none⟩) N.length N.length) (W.alloc (.cells (J6 (.slice none 0 0) N.length) 23)):=λW=>Yf1 rfl Ycu fj (by decide) N.length W (by omega)
 have hM0:=hid (Zu.begin (E:=Qc) (S:=λb=>w.heap.size<=b) (Yhj w 23 (.slice none 0 0) N.length (by omega)) HPl.out)
 have hb0:=Yb w (.cells (J6 (.slice none 0 0) N.length) 23)
 clear h hK hat hc;go_enter Tryz.func57,Tryz.ntmps57;go_wp2_with fail;clear hmk;generalize w.alloc (.cells (J6 (.slice none 0 0) N.length) 23)=W0 at hM0 hb0⊢;go_loopw [13] (λi wr=>∃k:Nat,k<=N.length/\i=.int .i64 k/\Hid (Zu Qc 23 1 wr w.heap.size (λb=>w.heap.size<=b) (.slice (some ⟨w.heap.size,0,none⟩) N.length N.length) N.length (Z1 Qs K) (di N.length (.slice none 0 0)) k)/\Below w.heap.size w wr) (λi _=>N.length-(intOf i).toNat)
 case atStart=>exact⟨0,aw _,rfl,hM0,hb0⟩
 case round=>
  obtain⟨k,hk,rfl,hO,hB⟩:=hrel
  by_cases hlt:k<N.length
  ·have i0:(0:Int)<=(k:Int):=by omega
   have i1:(k:Int)<(N.length:Int):=by omega
   obtain⟨b,o,x,rfl,hbl,hcell,ex⟩:=HK.out.at_ hlt
   have g0:wr.cell? ⟨b,o+k,none⟩=some (.int .i64 x):=(hB.cell (p:=⟨b,o+k,none⟩) hbl).trans hcell
   have hx:=HC.out k hlt
   rw[<-ex.out]at hx;obtain⟨q,rfl⟩:=Int.eq_ofNat_of_zero_le hx.1;obtain⟨d,hdk⟩: ∃d,Hid (ds[k]?=some d):=⟨_,hid (aa (by omega))⟩
   obtain⟨bd,rfl,_,hbd,hcd⟩:=HA.out k d hdk.out
   have g1:wr.cell? ⟨bd,k,none⟩=some (.pointer (some ⟨d.1,0,none⟩)):=(hB.cell (p:=⟨bd,k,none⟩) hbd).trans hcd
   have c3:=(HM.out.below hB).c3
   have hpe:(Z1 Qs K)[k]?=some (pth (Qs.getD k []) q):=by
    have h1:=HPg.out k hlt
    rw[<-ex.out]at h1;rw[aj]at h1;obtain⟨z,hz⟩: ∃z,(Z1 Qs K)[k]?=some z:=⟨_,aa (by rw[HPl.out];exact hlt)⟩
    rw[hz]at h1⊢;exact congrArg some h1
   obtain⟨p,hp⟩: ∃p,Hid (pth (Qs.getD k []) q=p):=⟨_,hid rfl⟩;rw[hp.out]at hpe
   have hpe:=hid hpe
   have HX:=hid (Ydk ((HM.out.dcs.at_ k d hdk.out).below hB) q (by omega) hp)
   clear hcell hcd hx;go_wp2_with fail;refine HX.out.mono ?_;rintro e w5 ⟨v,rfl,hv,hb5⟩
   have hO5:=hO.out.below Sz hb5
   have hlo:=hO.out.lt
   have hz:=hB.size
   have hE:=Yx.el Yt (hv.Bc (S:=λk=>wr.heap.size<=k)) (u:=.slice (some ⟨w.heap.size,0,none⟩) N.length N.length) (λk e=>(hlo k e).2) hz
   obtain⟨Av,cv,rfl,_⟩:=hv.form
   have c0:w5.cell? ⟨w.heap.size,k,none⟩=some (.slice none 0 0):=(hO5.old (j:=k) (by omega) (by omega)).trans (by rw[List.getElem?_replicate,if_pos hlt])
   have f0:=hO5.free k
   have hF:=hid (show Zu Qc 23 1 (w5.setCell ⟨w.heap.size,k,none⟩ (.slice Av p.length cv)) w.heap.size (λb=>w.heap.size<=b) (.slice (some ⟨w.heap.size,0,none⟩) N.length N.length) N.length (Z1 Qs K) (di N.length (.slice none 0 0)) (k+1)/\Below w.heap.size w (w5.setCell ⟨w.heap.size,k,none⟩ (.slice Av p.length cv))from⟨hO5.Yoc Sz (by simp) hpe.out hE,(hB.trans (hb5.mono hB.size)).setCell (p:=⟨w.heap.size,k,none⟩) (ar _) _⟩)
   clear hO5 hO hB hb5 HX hv hE hlo;go_wp2_with fail;go_roundw
   case rel=>exact⟨k+1,by omega,by go_num,hid hF.out.1,hF.out.2⟩
   case measure=>simp[intOf];omega
  ·have hF:=hid (show Yx Qc 23 1 wr w.heap.size (λb=>w.heap.size<=b) (.slice (some ⟨w.heap.size,0,none⟩) N.length N.length) (Z1 Qs K)/\Below w.heap.size w wr from⟨hO.out.end_ (by omega) (by simp),hB⟩)
   clear hO hB;go_wp2_with fail;go_ret;exact⟨_,rfl,hF.out.1,hF.out.2⟩
section
structure Ywl (D:List Yk) (m:Nat) (G:List Fct):Prop where
 small:∀f∈G,Yai f
 val:m<=2/\∀f∈G,isVal m f.2
 cell:∀f∈G,Yv m (Zb f)
 few:G.length<=8
 len:∀f∈G,f.1.length=(Yj D).length
 lev:∀f∈G,f.1.map ib=Yj D
section
variable {D:List Yk}{M:List Txt}{V:List (List Int)}{G:List Fct}{Qs Rs:List (List Pth)}
theorem Kz(D:List Yk):(Yj D).length=D.length:=by unfold Yj;rw[an]
theorem Yu6(hm:Wk D M V)(hb:Wf D M V G=0):Ywl D M.length G:=by
 have hd:=Wl hm
 have hf:=Mb hb
 refine⟨λf h=>⟨by have:=(hf f h).1.1;omega,λp hp=>by have:=((hf f h).1.2.1 p hp).1;omega,by have:=(hf f h).1.2.2.1;omega⟩,⟨hd.2.2.2,λf h=>Yeh (hf f h)⟩,λf h=>Yhl hd.2.2.2 (hf f h),?_,λf h=>by rw[Kz];exact(hf f h).2.1,λf h=>Yd7 (hf f h)⟩
 unfold Wf at hb;rw[if_pos hm]at hb;exact(Jm.1 hb).2.1
theorem Yuh(hm:Wk D M V)(hB:Ywl D M.length G)(hg:Xz (Yj D) Qs)(ha:Zh (Yj D) Qs G=(Rs,0)):
  (∀(i:Nat) (f:Fct),G[i]?=some f->Q8 (Yj D) Rs ((Vy (Yj D) Rs G).getD i [])/\∀v,On (Yj D) v->upB Rs ((Vy (Yj D) Rs G).getD i []) v=kC Rs v f)/\∀v,On (Yj D) v->∀f∈G,isKey D.length (kC Rs v f):=by
 obtain⟨h1,_,h3⟩:=Pa hg ha;refine⟨λi f hi=>?_,λv hv f hf=>?_⟩
 ·have hf:=ai hi
  have hP:=h3 (R4 (Yj D)) (Da _) f hf (hB.len f hf)
  rw[<-Yl3]at hP
  have hk:(Vy (Yj D) Rs G).getD i []=Xn Rs (Yn D) f.1:=by
   rw[aj,Vy,bo,hi,Yl3];rfl
  rw[hk];exact⟨He h1 hP (hB.lev f hf) (Ylg hm.1.1 (hB.lev f hf)),λv _=>Yuv h1 hP (hB.lev f hf)⟩
 ·have hk:=Bi h1 (h3 v hv f hf (hB.len f hf))
  rw[Kz]at hk;exact hk
end
end
theorem M5{w':World}(h:w.ownsRow B T sz v n vs)(hb:Below w.heap.size w w'):w'.ownsRow B T sz v n vs:=(Chg.Y1 hb (ar _)).row (S:=λ_=>False) h λ_ _ h=>h
theorem LtM.made{w1 w2:World}{c1 c2:Nat}{ds:List DAt}{vs:List CAt}(hb1:Below w.heap.size w w1)(hb2:Below w1.heap.size w1 w2)
  (hr1:w1.ownsRow w.heap.size 94 1 (.slice A1 n1 c1) n1 (ds.map λd=>Xk d.1)) (hd:Dcs w1 ds N Qs) (hf1:∀d∈ds,∀k,W8 d k->w.heap.size<=k)
  (hr2:w2.ownsRow w1.heap.size 96 1 (.slice A2 n2 c2) n2 (vs.map λd=>Xk d.1)) (hc:Cbs w2 vs W m Cs) (hf2:∀d∈vs,∀k,Va d k->w1.heap.size<=k):
  LtM (w2.alloc (.cells #[X1,X2,X3,.slice A1 n1 c1,.slice A2 n2 c2,.int .i64 cnt] 92)) w2.heap.size X1 X2 X3 (.slice A1 n1 c1) (.slice A2 n2 c2) ds vs N Qs W m Cs cnt/\∀k,Zm w2.heap.size (.slice A1 n1 c1) (.slice A2 n2 c2) ds vs k->w.heap.size<=k:=by
 have hl1:ds.length=n1:=by have:=hr1.1;simp at this;exact this
 have hl2:vs.length=n2:=by have:=hr2.1;simp at this;exact this
 have hz1:=hb1.size
 have hz2:=hb2.size
 refine⟨⟨Block.new w2 _ _,?_,?_,((hd.below hb2).below (Yb w2 _)),(hc.below (Yb w2 _)),λd hd' c hc' k h1 h2=>?_⟩,λk hk=>?_⟩
 ·rw[hl1]
  exact Vu (M5 (M5 hr1 hb2) (Yb w2 _)) (aw _)
 ·rw[hl2]
  exact Vu (M5 hr2 (Yb w2 _)) (aw _)
 ·have h3:=hd.lt hd' h1
  have h4:=hf2 c hc' k h2
  omega
 ·rcases hk with rfl|hk|hk|⟨d,hd',hk⟩|⟨c,hc',hk⟩
  ·omega
  ·exact(bg hr1 k hk).1
  ·have:=(bg hr2 k hk).1;omega
  ·exact hf1 d hd' k hk
  ·have:=hf2 c hc' k hk;omega
theorem Yjw(h:Lt w R g F D M V Qs Cs cnt)(hRl:∀k,R k->k<w.heap.size):
  Calls ae 32 #[.pointer (some ⟨g,0,none⟩)] w λe w'=>∃g' F',e=.returned (.pointer (some ⟨g',0,none⟩))/\Lt w' R g' F' D M V Qs Cs cnt/\(∀k,F' k->w.heap.size<=k)/\Below w.heap.size w w':=by
 obtain⟨dv,vv,ds,vs,A1,n1,c1,A2,n2,c2,A3,n3,c3,h1,h2,h3,h4,hm,hCl⟩:=h
 have hd:=Wl hm
 have h7:=Wx hm
 obtain⟨Ad,cd,edv,hdl,_⟩:=h1.Ki;obtain⟨Av,cv,evv,hvl,_⟩:=h1.Yat;subst edv evv;obtain⟨nd,hnd⟩: ∃nd,(Yj D).length=nd:=⟨_,rfl⟩;obtain⟨nv,hnv⟩: ∃nv,Cs.length=nv:=⟨_,rfl⟩
 have hN3:nd<=3:=by rw[<-hnd];unfold Yj;rw[an];exact hd.2.1
 rw[hnd]at h1 hdl;rw[hnv]at h1 hvl
 have H1:=hid h1
 have K:Hid (∀y,Below w.heap.size w y->y.cell? ⟨g,0,none⟩=some (.slice A1 n1 c1)/\y.cell? ⟨g,1,none⟩=some (.slice A2 n2 c2)/\y.cell? ⟨g,2,none⟩=some (.slice A3 n3 c3)/\y.cell? ⟨g,3,none⟩=some (.slice Ad nd cd)/\y.cell? ⟨g,4,none⟩=some (.slice Av nv cv)/\y.cell? ⟨g,5,none⟩=some (.int .i64 cnt)):=hid λy hy=>by
  have h:=H1.out.below hy
  exact⟨h.c0,h.c1,h.c2,h.c3,h.c4,h.c5⟩
 have HD:Hid (∀y,Below w.heap.size w y->Calls ae 47 #[.slice Ad nd cd,.func (.func 48) #[] #[]] y (Yi5 y nd (Yj D) Qs)):=hid λy hy=>by
  have h:=(H1.out.below hy).dr
  rw[hdl]at h;exact Ycv h (H1.out.below hy).dcs (by omega)
 have HC:Hid (∀y,Below w.heap.size w y->Calls ae 77 #[.slice Av nv cv,.func (.func 78) #[] #[]] y (Yj0 y nv D.length M.length Cs)):=hid λy hy=>by
  have h:=(H1.out.below hy).vr
  rw[hvl]at h;exact Yow h (H1.out.below hy).cbs (by omega)
 obtain⟨k0,k1,k2,k3,k4,k5⟩:=K.out w (Below.refl _ _)
 have HS:=hid h2
 have HR:=hid hRl
 clear h1 h2 h3 h4 hdl hvl hd h7 hnd;go_enter Tryz.func32,Tryz.ntmps32;go_wp2_with fail;go_region_held3 (λy=>y.cell? ⟨g,0,none⟩=some (.slice A1 n1 c1)/\y.cell? ⟨g,1,none⟩=some (.slice A2 n2 c2)/\y.cell? ⟨g,2,none⟩=some (.slice A3 n3 c3)/\y.cell? ⟨g,3,none⟩=some (.slice Ad nd cd)/\y.cell? ⟨g,4,none⟩=some (.slice Av nv cv)/\y.cell? ⟨g,5,none⟩=some (.int .i64 cnt))
  (first
   |go_keep
   |exact K.out _ hBB2
   |exact K.out _ hBB1)
  (first
   |(go_at_call 47;refine(HD.out _ (below_drewN (Below.refl _ w) 1)).mono ?_;rintro e w1 ⟨⟨B1,d1,ds1,rfl,hr1,hd1,hf1⟩,hB1⟩;have hBB1:Below w.heap.size w w1:=((below_drewN (Below.refl _ w) 1).trans hB1))
   |(go_at_call 77;refine(HC.out _ hBB1).mono ?_;rintro e w2 ⟨⟨B2,d2,vs2,rfl,hr2,hd2,hf2⟩,hB2⟩;have hBB2:=hBB1.trans (hB2.mono hBB1.size)))
 have hmd:=LtM.made (X1:=.slice A1 n1 c1) (X2:=.slice A2 n2 c2) (X3:=.slice A3 n3 c3) (cnt:=cnt) hBB1 hB2 hr1 hd1 hf1 hr2 hd2 hf2
 have hB3:=hBB2.alloc hBB2.size (.cells #[.slice A1 n1 c1,.slice A2 n2 c2,.slice A3 n3 c3,.slice B1 nd d1,.slice B2 nv d2,.int .i64 cnt] 92)
 have hF:=hid (show ∃F',Lt (w2.alloc (.cells #[.slice A1 n1 c1,.slice A2 n2 c2,.slice A3 n3 c3,.slice B1 nd d1,.slice B2 nv d2,.int .i64 cnt] 92)) R w2.heap.size F' D M V Qs Cs cnt/\(∀k,F' k->w.heap.size<=k)/\Below w.heap.size w (w2.alloc (.cells #[.slice A1 n1 c1,.slice A2 n2 c2,.slice A3 n3 c3,.slice B1 nd d1,.slice B2 nv d2,.int .i64 cnt] 92))from
  ⟨_,⟨_,_,_,_,_,_,_,_,_,_,_,_,_,hmd.1,HS.out.Yc hB3,λk=>Iff.rfl,λk hk hf=>by have h1:=HR.out k hk;have h2:=hmd.2 k hf;omega,hm,hCl⟩,hmd.2,hB3⟩)
 clear hr1 hd1 hf1 hr2 hd2 hf2 hB1 hB2 hBB1 hBB2 hmd hB3;go_wp2_with fail;go_ret;obtain⟨F',h1,h2,h3⟩:=hF.out;exact⟨_,F',rfl,h1,h2,h3⟩
theorem J8{α:Type}(f:α->List UInt8)(b:Nat):∀{L:List α},(∀x∈L,(f x).length<=b)->(L.flatMap f).length<=b*L.length
 |[],_=>by simp
 |x::L,h=>by
  have h1:=J8 f b (L:=L) λy hy=>h y (List.mem_cons_of_mem _ hy)
  have h2:=h x (by simp)
  rw[List.flatMap_cons,db,List.length_cons,Nat.mul_succ];omega
theorem Yok{ds:List DAt}{vs:List CAt}(h:LtM w g X1 X2 X3 dv vv ds vs N Qs W m Cs cnt)(hN:N.length<=3)(h1:1<=Cs.length){A:Option Addr}{n c:Nat}{l:List UInt8}(hb:Xo w w.heap.size A n c l)(hn:n<=10000):
  Calls ae 23 #[.pointer (some ⟨g,0,none⟩),.slice A n c] w λe w'=>∃v,e=.returned v/\Zc w' w.heap.size 5 v (l++Yen m Qs (Cs.getD 0 []))/\Below w.heap.size w w':=by
 obtain⟨Ad,cd,edv,hdl,hat⟩:=h.Ki;obtain⟨Av,cv,evv,hvl,hatv⟩:=h.Yat;subst edv evv;obtain⟨nd,hnd⟩: ∃nd,N.length=nd:=⟨_,rfl⟩;obtain⟨nv,hnv⟩: ∃nv,Cs.length=nv:=⟨_,rfl⟩;rw[hnd]at h hdl hN;rw[hnv]at h hvl h1
 have HQ:Hid (Qs.length=nd):=hid (by rw[<-hnd];exact h.dcs.good.len)
 have HM:=hid h
 have HA:=hid hat
 have c3:=h.c3
 obtain⟨cc,hcc⟩: ∃cc,Hid (vs[0]?=some cc):=⟨_,hid (aa (by omega))⟩
 obtain⟨bv,rfl,_,hbv,hcell⟩:=hatv 0 cc hcc.out
 have KV:Hid (∀y,Below w.heap.size w y->y.cell? ⟨g,4,none⟩=some (.slice (some ⟨bv,0,none⟩) nv cv)/\y.cell? ⟨bv,0,none⟩=some (.pointer (some ⟨cc.1,0,none⟩))):=hid λy hy=>⟨(HM.out.below hy).c4,(hy.cell (p:=⟨bv,0,none⟩) hbv).trans hcell⟩
 have HB:=hid hb
 have HLl:=hid hb.len
 have hGd:Hid (∀Q∈Qs,(U6 Q).length<=2000):=hid λQ hQ=>by
  obtain⟨i,hi⟩:=af hQ
  have hil:=(ag.1 hi).1
  have h2:=h.dcs.good.get (i:=i) (by rw[hnd,<-HQ.out];exact hil)
  rw[show Qs.getD i []=Q by rw[aj,hi];rfl]at h2
  exact(Yf7 h2).2
 have HLe:Hid (∀k,(l++(Qs.take k).flatMap U6).length<=16000):=hid λk=>by
  have h2:=J8 U6 2000 (L:=Qs.take k) λQ hQ=>hGd.out Q (List.mem_of_mem_take hQ)
  have h3:(Qs.take k).length<=nd:=by rw[List.length_take,HQ.out];exact Nat.min_le_right _ _
  have h4:=HLl.out
  rw[db];omega
 clear h hat hatv hcell hb hnd hnv;go_enter Tryz.func23,Tryz.ntmps23;go_wp2_with fail;go_loopw [1,12] (λv i wr=>∃k:Nat,k<=nd/\i=.int .i64 k/\Hid (∃A' n' c',v=.slice A' n' c'∧Xo wr wr.heap.size A' n' c' (l++(Qs.take k).flatMap U6))/\Below w.heap.size w wr) (λ_ i _=>nd-(intOf i).toNat)
 case atStart=>exact⟨0,aw _,rfl,hid ⟨A,n,c,rfl,by simpa using HB.out⟩,Below.refl _ _⟩
 case round=>
  obtain⟨k,hk,rfl,hO,hB⟩:=hrel;obtain⟨A',n',c',rfl,hH⟩:=hO.out
  have hnl:n'<=16000:=by have h2:=hH.len;have h3:=HLe.out k;omega
  by_cases hlt:k<nd
  ·have i0:(0:Int)<=(k:Int):=by omega
   have i1:(k:Int)<(nd:Int):=by omega
   obtain⟨d,hdk⟩: ∃d,Hid (ds[k]?=some d):=⟨_,hid (aa (by omega))⟩
   obtain⟨bd,rfl,_,hbd,hcd⟩:=HA.out k d hdk.out
   have g1:wr.cell? ⟨bd,k,none⟩=some (.pointer (some ⟨d.1,0,none⟩)):=(hB.cell (p:=⟨bd,k,none⟩) hbd).trans hcd
   have HP:=hid (Ypm ((HM.out.dcs.at_ k d hdk.out).below hB) hH (by omega))
   have hT:Hid (l++(Qs.take k).flatMap U6++U6 (Qs.getD k [])=l++(Qs.take (k+1)).flatMap U6):=hid (by
    have h2:Qs[k]?=some (Qs.getD k []):=by rw[aj,aa (by have:=HQ.out;omega)];rfl
    rw[Z8 h2,List.flatMap_append,cn];simp)
   clear hcd hH hO;go_wp2_with fail;refine HP.out.mono ?_;rintro e w5 ⟨v,rfl,hO5,hb5⟩;rw[hT.out]at hO5;obtain⟨A5,n5,c5,rfl,hH5,_⟩:=hO5.Yr
   have hF:=hid (show Xo w5 w5.heap.size A5 n5 c5 (l++(Qs.take (k+1)).flatMap U6)/\Below w.heap.size w w5 from⟨hH5,hB.trans (hb5.mono hB.size)⟩)
   clear hO5 hH5 hb5 hB HP hT;go_wp2_with fail;go_roundw
   case rel=>exact⟨k+1,by omega,by go_num,hid ⟨_,_,_,rfl,hF.out.1⟩,hF.out.2⟩
   case measure=>simp[intOf];omega
  ·have hall:Qs.take k=Qs:=ax (by have:=HQ.out;omega)
   rw[hall]at hH;obtain⟨k4,kp⟩:=KV.out wr hB
   have HP:=hid (Yes (HM.out.cbs.at_ 0 cc hcc.out |>.Yc hB) hH (by omega))
   have i1:(0:Int)<(nv:Int):=by omega
   clear hH hO;go_wp2_with fail;refine HP.out.mono ?_;rintro e w5 ⟨v,rfl,hO5,hb5⟩
   have hF:=hid (show Zc w5 w.heap.size 5 v (l++Yen m Qs (Cs.getD 0 []))/\Below w.heap.size w w5 from⟨by
    unfold Yen;rw[<-cn];exact hO5.low hB.size,hB.trans (hb5.mono hB.size)⟩)
   clear hO5 hb5 hB HP;go_wp2_with fail;go_ret;exact⟨_,rfl,hF.out.1,hF.out.2⟩
theorem Yol(h:Lt w R g F D M V Qs Cs cnt){A:Option Addr}{n c:Nat}{l:List UInt8}(hb:Xo w w.heap.size A n c l)(hn:n<=10000):
  Calls ae 23 #[.pointer (some ⟨g,0,none⟩),.slice A n c] w λe w'=>∃v,e=.returned v/\Zc w' w.heap.size 5 v (l++Yen M.length Qs (Cs.getD 0 []))/\Below w.heap.size w w':=by
 obtain⟨dv,vv,ds,vs,A1,n1,c1,A2,n2,c2,A3,n3,c3,h1,h2,h3,h4,hm,hCl⟩:=h
 have hd:=Wl hm
 exact Yok h1 (by unfold Yj;rw[an];exact hd.2.1) (by rw[hCl];simp[Yg]) hb hn
theorem Ymv(h:Lt w R g F D M V Qs Cs cnt):
  Calls ae 23 #[.pointer (some ⟨g,0,none⟩),.slice none 0 0] w λe w'=>∃v,e=.returned v/\Zc w' w.heap.size 5 v (Yen M.length Qs (Cs.getD 0 []))/\Below w.heap.size w w':=
 Yol (l:=[]) h ⟨rfl,ar _,aw _,λ_=>rfl,Has.Zj⟩ (by decide)
def LxS(w:World):World:=(((((w.alloc (.cells #[.string ⟨#[108]⟩,.string ⟨#[109]⟩] 9)).alloc (.cells #[.string ⟨#[100]⟩,.slice (some ⟨w.heap.size,0,none⟩) 2 2] 75)).alloc (.cells #[.string ⟨#[118]⟩] 9)).alloc (.cells #[.int .i64 1] 3)).alloc (.cells #[.slice (some ⟨w.heap.size+1+1+1,0,none⟩) 1 1] 47)).alloc (.cells #[.slice (some ⟨w.heap.size+1,0,none⟩) 1 1,.slice (some ⟨w.heap.size+1+1,0,none⟩) 1 1,.slice (some ⟨w.heap.size+1+1+1+1,0,none⟩) 1 1] 26)
theorem Ym5(w:World):Below w.heap.size w (LxS w):=Ya (Ya (Ya (Ya (Ya (Yb w _) (Yb _ _)) (Yb _ _)) (Yb _ _)) (Yb _ _)) (Yb _ _)
theorem Ytt(w:World):Vw (LxS w) (λb=>b<(LxS w).heap.size) (some ⟨w.heap.size+1,0,none⟩) 1 1 (some ⟨w.heap.size+1+1,0,none⟩) 1 1 (some ⟨w.heap.size+1+1+1+1,0,none⟩) 1 1 LxD LxM LxV:=by
 have a0:=(Zx.Yb3 w [[108],[109]] #[.string ⟨#[108]⟩,.string ⟨#[109]⟩] rfl 9 2 rfl (by decide) w.heap.size rfl).row
 have a1:=Row.lit (E:=Nz) (sz:=2) Vz (w.alloc (.cells #[.string ⟨#[108]⟩,.string ⟨#[109]⟩] 9)) #[.string ⟨#[100]⟩,.slice (some ⟨w.heap.size,0,none⟩) 2 2] 75 1 LxD rfl rfl (by decide) (w.heap.size+1) (by simp) (λi x hi=>by
  match i,hi with
  |0,hi=>simp[LxD]at hi;subst hi;exact⟨rfl,_,_,_,rfl,a0⟩
  |i+1,hi=>simp[LxD]at hi)
 generalize hw2:(w.alloc (.cells #[.string ⟨#[108]⟩,.string ⟨#[109]⟩] 9)).alloc (.cells #[.string ⟨#[100]⟩,.slice (some ⟨w.heap.size,0,none⟩) 2 2] 75)=w2 at a1
 have z2:w2.heap.size=w.heap.size+1+1:=by rw[<-hw2];simp
 have a2:=(Zx.Yb3 w2 [[118]] #[.string ⟨#[118]⟩] rfl 9 1 rfl (by decide) (w.heap.size+1+1) (by rw[z2])).row
 have b1:=a1.up Vz (.cells #[.string ⟨#[118]⟩] 9)
 generalize hw3:w2.alloc (.cells #[.string ⟨#[118]⟩] 9)=w3 at a2 b1
 have z3:w3.heap.size=w.heap.size+1+1+1:=by rw[<-hw3,df,z2]
 have a3:=Row.lit (E:=Yy) (sz:=1) Yh w3 #[.int .i64 1] 3 1 [1] rfl rfl (by decide) (w.heap.size+1+1+1) (by rw[z3]) (λi x hi=>by
  match i,hi with
  |0,hi=>simp at hi;subst hi;rfl
  |i+1,hi=>simp at hi)
 have b2:=a2.up Yt (.cells #[.int .i64 1] 3)
 have c1:=b1.up Vz (.cells #[.int .i64 1] 3)
 generalize hw4:w3.alloc (.cells #[.int .i64 1] 3)=w4 at a3 b2 c1
 have z4:w4.heap.size=w.heap.size+1+1+1+1:=by rw[<-hw4,df,z3]
 have a4:=Row.lit (E:=Z0 Yy 1) (sz:=1) (Wc Yh) w4 #[.slice (some ⟨w.heap.size+1+1+1,0,none⟩) 1 1] 47 1 LxV rfl rfl (by decide) (w.heap.size+1+1+1+1) (by rw[z4]) (λi x hi=>by
  match i,hi with
  |0,hi=>simp[LxV]at hi;subst hi;exact⟨_,_,_,rfl,a3⟩
  |i+1,hi=>simp[LxV]at hi)
 have b3:=b2.up Yt (.cells #[.slice (some ⟨w.heap.size+1+1+1,0,none⟩) 1 1] 47)
 have d1:=c1.up Vz (.cells #[.slice (some ⟨w.heap.size+1+1+1,0,none⟩) 1 1] 47)
 have hw:LxS w=(w4.alloc (.cells #[.slice (some ⟨w.heap.size+1+1+1,0,none⟩) 1 1] 47)).alloc (.cells #[.slice (some ⟨w.heap.size+1,0,none⟩) 1 1,.slice (some ⟨w.heap.size+1+1,0,none⟩) 1 1,.slice (some ⟨w.heap.size+1+1+1+1,0,none⟩) 1 1] 26):=by
  subst hw4 hw3 hw2;rfl
 rw[hw];exact⟨d1.up Vz _,b3.up Yt _,a4.up (Wc Yh) _⟩
theorem Yvj:L5 LxD:=by
 intro d hd;rw[az.1 hd];exact⟨by decide,λs hs=>by
  rcases List.mem_cons.1 hs with rfl|hs
  ·decide
  ·rw[az.1 hs];decide⟩
def Td(w:World)(g:Nat)(x y:Array UInt8)(v:Int):World:=((w.alloc (.cells #[.string ⟨x⟩,.string ⟨y⟩] 9)).alloc (.cells #[.slice (some ⟨g,0,none⟩) 2 2] 23)).alloc (.cells #[.int .i64 v] 3)
theorem Lu(w:World)(g:Nat)(x y:Array UInt8)(v:Int):(Td w g x y v).heap.size=w.heap.size+1+1+1:=by simp[Td]
theorem Sk(w:World)(g:Nat)(x y:Array UInt8)(v:Int):Below w.heap.size w (Td w g x y v):=Ya (Ya (Yb w _) (Yb _ _)) (Yb _ _)
theorem Row.Ytm{α:Type}{E:ElT α}(hE:E.Ok)(w:World)(C:Array Value)(T:TypeId)(n:Nat)(L:List α)(hL:L.length=n)(hC:C.size=n*sz)(hn:n<=1000000)(g:Nat)(hg:g=w.heap.size)(hS:S g)
  (hx:∀i x,L[i]?=some x->E w S ((C.toList.drop (i*sz)).take sz) x):Row E sz (w.alloc (.cells C T)) S (some ⟨g,0,none⟩) n n L:=by
 subst hg
 have hz:(w.alloc (.cells C T)).heap.size=w.heap.size+1:=by simp
 refine⟨hL,C.toList,⟨by simpa using hC,ar _,by unfold maxLen;omega,(λh=>by cases h),λ_=>⟨w.heap.size,0,rfl,hS,by omega,λj u hu=>?_⟩⟩,λi x hi=>hE _ _ _ _ _ _ (Mv.alloc w _ S) (hx i x hi)⟩
 rw[gz,Zq];simpa using hu
theorem Bn(w:World)(g:Nat)(hg:g=w.heap.size)(B:Nat)(hB:B<=w.heap.size)(x y:Txt)(v:Int):Ll (Td w g x.toArray y.toArray v) (λb=>B<=b) [.slice (some ⟨g+1,0,none⟩) 1 1,.slice (some ⟨g+1+1,0,none⟩) 1 1] ([[x,y]],[v]):=by
 subst hg
 have a0:=Row.Ytm (S:=λb=>B<=b) Yt (sz:=1) w #[.string ⟨x.toArray⟩,.string ⟨y.toArray⟩] 9 2 [x,y] rfl rfl (by decide) w.heap.size rfl hB (λi z hi=>by
  match i,hi with
  |0,hi=>simp at hi;subst hi;rfl
  |1,hi=>simp at hi;subst hi;rfl
  |i+2,hi=>simp at hi)
 have a1:=Row.Ytm (S:=λb=>B<=b) (E:=Z0 Y7 1) (sz:=1) (Wc Yt) (w.alloc (.cells #[.string ⟨x.toArray⟩,.string ⟨y.toArray⟩] 9)) #[.slice (some ⟨w.heap.size,0,none⟩) 2 2] 23 1 [[x,y]] rfl rfl (by decide) (w.heap.size+1) (by simp) (by omega) (λi z hi=>by
  match i,hi with
  |0,hi=>simp at hi;subst hi;exact⟨_,_,_,rfl,a0⟩
  |i+1,hi=>simp at hi)
 have a2:=Row.Ytm (S:=λb=>B<=b) (E:=Yy) (sz:=1) Yh ((w.alloc (.cells #[.string ⟨x.toArray⟩,.string ⟨y.toArray⟩] 9)).alloc (.cells #[.slice (some ⟨w.heap.size,0,none⟩) 2 2] 23)) #[.int .i64 v] 3 1 [v] rfl rfl (by decide) (w.heap.size+1+1) (by simp) (by omega) (λi z hi=>by
  match i,hi with
  |0,hi=>simp at hi;subst hi;rfl
  |i+1,hi=>simp at hi)
 exact⟨⟨_,_,_,rfl,a1.mv (Wc Yt) (Mv.alloc _ _ _)⟩,⟨_,_,_,rfl,a2⟩⟩
def LxW(w:World):World:=(Td (Td (Td w w.heap.size #[97] #[120] 5) (w.heap.size+1+1+1) #[97] #[121] 7) (w.heap.size+1+1+1+1+1+1) #[98] #[120] 1).alloc (.cells #[.slice (some ⟨w.heap.size+1,0,none⟩) 1 1,.slice (some ⟨w.heap.size+1+1,0,none⟩) 1 1,.slice (some ⟨w.heap.size+1+1+1+1,0,none⟩) 1 1,.slice (some ⟨w.heap.size+1+1+1+1+1,0,none⟩) 1 1,.slice (some ⟨w.heap.size+1+1+1+1+1+1+1,0,none⟩) 1 1,.slice (some ⟨w.heap.size+1+1+1+1+1+1+1+1,0,none⟩) 1 1] 83)
theorem Yom(w:World):Below w.heap.size w (LxW w):=Ya (Ya (Ya (Sk w _ _ _ _) (Sk _ _ _ _ _)) (Sk _ _ _ _ _)) (Yb _ _)
theorem Ytk(w:World):S0 (LxW w) (λb=>w.heap.size<=b) (some ⟨w.heap.size+1+1+1+1+1+1+1+1+1,0,none⟩) 3 3 LxF:=by
 have z1:=Lu w w.heap.size #[97] #[120] 5
 have z2:=Lu (Td w w.heap.size #[97] #[120] 5) (w.heap.size+1+1+1) #[97] #[121] 7
 have z3:=Lu (Td (Td w w.heap.size #[97] #[120] 5) (w.heap.size+1+1+1) #[97] #[121] 7) (w.heap.size+1+1+1+1+1+1) #[98] #[120] 1
 have e1:=Bn w w.heap.size rfl w.heap.size (ar _) [97] [120] 5
 have e2:=Bn (Td w w.heap.size #[97] #[120] 5) (w.heap.size+1+1+1) (by omega) w.heap.size (by omega) [97] [121] 7
 have e3:=Bn (Td (Td w w.heap.size #[97] #[120] 5) (w.heap.size+1+1+1) #[97] #[121] 7) (w.heap.size+1+1+1+1+1+1) (by omega) w.heap.size (by omega) [98] [120] 1
 have b3:=Sk (Td (Td w w.heap.size #[97] #[120] 5) (w.heap.size+1+1+1) #[97] #[121] 7) (w.heap.size+1+1+1+1+1+1) #[98] #[120] 1
 have m2:=Y3 _ _ _ _ _ _ ((Mv.Yc (Sk (Td w w.heap.size #[97] #[120] 5) (w.heap.size+1+1+1) #[97] #[121] 7) _).trans (Mv.Yc b3 _)) e1
 have m3:=Y3 _ _ _ _ _ _ (Mv.Yc b3 _) e2
 exact Row.Ytm (S:=λb=>w.heap.size<=b) (E:=Ll) (sz:=2) Y3 (Td (Td (Td w w.heap.size #[97] #[120] 5) (w.heap.size+1+1+1) #[97] #[121] 7) (w.heap.size+1+1+1+1+1+1) #[98] #[120] 1) _ 83 3 LxF rfl rfl (by decide) _ (by omega) (by omega) (λi x hi=>by
  match i,hi with
  |0,hi=>simp[LxF]at hi;subst hi;exact m2
  |1,hi=>simp[LxF]at hi;subst hi;exact m3
  |2,hi=>simp[LxF]at hi;subst hi;exact e3
  |i+3,hi=>simp[LxF]at hi)
theorem Yjp(hr:Zx w w.heap.size A n c L)(m:Int)(hs:n<=1000000):
  Calls ae 115 #[.slice A n c,.int .i64 m] w λe w'=>(∃v,e=.returned v/\Xj w' w.heap.size v (upP L m))/\Below w.heap.size w w':=by
 have hn:=hr.Ym
 have HL:=hid hr.len
 go_enter Tryz.func115,Tryz.ntmps115;go_wp2;go_loopw [5,6] (λv i wr=>∃k:Nat,k<=n/\k<=m.toNat/\i=.int .i64 k/\Xj wr w.heap.size v (L.take k)/\Below w.heap.size w wr) (λ_ i _=>n-(intOf i).toNat)
 case atStart=>exact⟨0,aw _,aw _,rfl,Xj.Zj w _,Below.refl _ _⟩
 case round=>
  obtain⟨k,hk,hkm,rfl,hO,hB⟩:=hrel
  by_cases hgo:k<n/\(k:Int)<m
  ·obtain⟨hlt,hltm⟩:=hgo
   obtain⟨b,o,x,rfl,hb,hc,ex⟩:=(hr.below hB (ar _)).at_ hlt
   have hz:=hB.size
   have hlb:Hid ((L.take k).length<=1000000):=hid (ak (fh k _) (by omega))
   have HT:=hid (Ou (by have:=HL.out;omega) ex.out)
   have hlo:=λg e=>(hO.lt g e).1
   have hO1:=hO.alloc (.cells #[.string ⟨x.toArray⟩] 9)
   go_wp2_with (at_builtin;refine Qk rfl _ _ rfl w.heap.size _ _ rfl hO1 _ rfl x (Mq _ _ _ _ (by simp)) hlb.out (by rw[df];omega) ?_)
   intro v' w2 hO2 hG2
   have hB2:=hid ((hB.alloc hz (.cells #[.string ⟨x.toArray⟩] 9)).trans (hG2.Yw (by rw[df];omega) hlo))
   rw[HT.out]at hO2
   have hO3:=hid hO2
   clear hO hO1 hO2 hG2 hlo hB;go_wp2_with fail;go_roundw
   case rel=>exact⟨k+1,by omega,by omega,by go_num,hO3.out,hB2.out⟩
   case measure=>simp[intOf];omega
  ·have HT:Hid (L.take k=L.take m.toNat):=hid (by
    have:=HL.out
    by_cases h:k<n
    ·congr 1;omega
    ·rw[ax (by omega),ax (by omega)])
   have hv:=hO
   rw[HT.out]at hv;clear hO
   by_cases hlt:k<n
   ·have hm:¬(k:Int)<m:=by omega
    clear hgo;go_wp2;go_ret;exact⟨⟨_,rfl,hv⟩,hB⟩
   ·clear hgo
    go_wp2;go_ret;exact⟨⟨_,rfl,hv⟩,hB⟩
theorem Kx:∀{v:List Int}{P:List Pth},v.length<=P.length->(Vo v P).length=v.length
 |[],_,_=>by simp[Vo]
 |_::_,[],h=>by simp at h
 |x::v,p::P,h=>by
  have:=Kx (v:=v) (P:=P) (by simpa using h)
  simp[Vo,this]
theorem Ye4:∀{v:List Int}{P:List Pth}{i:Nat}{x:Int}{p:Pth},v[i]?=some x->P[i]?=some p->(Vo v P)[i]?=some (upP p x)
 |[],_,_,_,_,h,_=>by simp at h
 |_::_,[],_,_,_,_,h=>by simp at h
 |y::v,q::P,0,x,p,h,h'=>by
  simp at h h';subst h h';rfl
 |y::v,q::P,i+1,x,p,h,h'=>by
  have:=Ye4 (v:=v) (P:=P) (i:=i) (x:=x) (p:=p) (by simpa using h) (by simpa using h')
  simpa[Vo]using this
theorem Yhu(w:World)(A:Option Addr)(n c:Nat)(t:TypeId)(g:Nat)(hg:g=w.heap.size):∀j u,[bp A n c][j]?=some u->(w.alloc (.cells #[.slice A n c] t)).cell? ((⟨g,0,none⟩:Addr).add j)=some u:=by
 subst hg;intro j u hj;rw[Yu,gz,(Block.new w t #[.slice A n c]).cell j];simpa using hj
theorem Yk2(A:Option Addr)(n c:Nat):∀u∈[bp A n c],u.oneCell'=true:=by
 intro u hu;simp at hu;subst hu;rfl
theorem Cx{P Q Av:Option Addr}{np cp nq cq nv cv:Nat}{f:List Pth}{v:List Int}(hp:Row Z4 1 w S P np cp f)(hv:Y2 w w.heap.size Av nv cv v)(hl:nv<=np)(hn:nv<=1000)(hs:∀p∈f,p.length<=1000000):
  Calls ae 60 #[.agg #[.slice P np cp,.slice Q nq cq],.slice Av nv cv] w (Told Z4 23 1 w (Vo v f)):=by
 have HVl:=hid hv.len
 have HPl:=hid hp.len
 have hb1:=Yb w (.cells #[.slice P np cp,.slice Q nq cq] 83)
 have hX:=Block.new w 83 #[.slice P np cp,.slice Q nq cq]
 have HP:=hid (hp.mv Zr (Mv.Yc hb1 S))
 have HV:=hid (hv.Yc hb1)
 have HKl:Hid ((Vo v f).length=nv):=hid (by rw[Kx (by rw[HVl.out,HPl.out];exact hl)];exact HVl.out)
 have HS:=hid hs
 clear hp hv hs;go_enter Tryz.func60,Tryz.ntmps60;go_wp2_with fail;obtain⟨bx,hbx⟩: ∃bx,w.heap.size=bx:=⟨_,rfl⟩
 have HB1:Hid (Below w.heap.size w (w.alloc (.cells #[.slice P np cp,.slice Q nq cq] 83))):=hid hb1
 clear hb1;rw[hbx]at hX⊢;generalize w.alloc (.cells #[.slice P np cp,.slice Q nq cq] 83)=w1 at hX HP HV HB1⊢
 have KX:Hid (∀y,Below w1.heap.size w1 y->y.cell? ⟨bx,0,none⟩=some (.slice P np cp)):=hid λy hy=>(hX.below hy hX.lt).cell 0
 have HBx:=hid hbx
 clear hX hbx;go_loopw [5,6] (λu i wr=>∃k:Nat,k<=nv/\i=.int .i64 k/\Hid (Yx Z4 23 1 wr w1.heap.size (λb=>w1.heap.size<=b) u ((Vo v f).take k))/\Below w1.heap.size w1 wr) (λ_ i _=>nv-(intOf i).toNat)
 case atStart=>exact⟨0,aw _,rfl,hid (Yx.Zj _ _ _),Below.refl _ _⟩
 case round=>
  obtain⟨k,hk,rfl,hO,hB⟩:=hrel
  have x0:=KX.out wr hB
  by_cases hlt:k<nv
  ·obtain⟨b,o,A',n',c',p,rfl,_,_,gk,hr,hpe⟩:=(HP.out.mv Zr (Mv.Yc hB S)).at1 (k:=k) (by omega)
   obtain⟨b2,o2,x,rfl,hb2,gx,ex⟩:=(HV.out.Yc hB).at_ hlt
   have i0:(0:Int)<=(k:Int):=by omega
   have i1:(k:Int)<(nv:Int):=by omega
   have i2:(k:Int)<(np:Int):=by omega
   have hxk:v[k]?=some x:=by
    have h1:k<v.length:=by rw[HVl.out];exact hlt
    rw[ex,aj,aa h1];rfl
   have hT:=hid (Z8 (Ye4 hxk hpe.out))
   have hpl:n'<=1000000:=by have h1:=HS.out p (ai hpe.out);have h2:=hr.len;omega
   have HU:=hid (Yjp (hr.Eu.drewN 1) x hpl)
   have hlo:=hO.out.lt
   have hz:=hB.size
   have hlb:Hid (((Vo v f).take k).length<=1000000):=hid (ak (fh k _) (by omega))
   clear hr hxk ex hpe;go_wp2_with fail;go_region_law (first
    |(refine Hr Zr rfl _ _ rfl Ycu fj rfl (by decide) w1.heap.size _ _ _ rfl HO7.out _ rfl [.slice Ap na ca] rfl (upP p x) HC7.out (Yk2 _ _ _) HE7.out hlb.out HS7.out ?_;intro v' w8 hO8 hG8)
    |(go_simp;go_at_call 115;refine HU.out.mono ?_;rintro e w6 ⟨⟨vp,rfl,hvp⟩,hb6⟩;have hb6':Below wr.heap.size wr w6:=(below_drewN (Below.refl _ wr) 1).trans hb6;obtain⟨Ap,na,ca,rfl,hrp⟩: ∃A n c,vp=.slice A n c/\Row Y7 1 w6 (λk=>wr.heap.size<=k/\vp.ownBlock=some k) A n c (upP p x):=(by obtain⟨A,c,e,h⟩:=hvp.row;exact⟨A,_,c,e,h⟩);have hb7:=hb6'.trans ((Yb w6 (.cells #[.slice Ap na ca] 23)).mono hb6'.size);have HB7:=hid hb7;have HO7:=hid (hO.out.below Zr hb7);have HC7:=hid (Yhu w6 Ap na ca 23 w6.heap.size rfl);have HE7:Hid (Z4 (w6.alloc (.cells #[.slice Ap na ca] 23)) (λb=>w1.heap.size<=b/\u5.ownBlock≠some b) [.slice Ap na ca] (upP p x)):=hid ⟨Ap,na,ca,rfl,hrp.mv Yt ((Mv.alloc w6 _ _).trans (Mv.to _ λb hb _=>⟨ak hz hb.1,λe=>by have:=(hlo b e).2;have:=hb.1;omega⟩))⟩;have HS7:Hid (w1.heap.size<=(w6.alloc (.cells #[.slice Ap na ca] 23)).heap.size):=hid (ak hz hb7.size);clear hvp hrp hb6 hb6' hb7))
   all_goals
    have hF:=hid (show Yx Z4 23 1 w8 w1.heap.size (λb=>w1.heap.size<=b) v' ((Vo v f).take (k+1))/\Below w1.heap.size w1 w8 from⟨by rw[hT.out];exact hO8,(hB.trans (HB7.out.mono hz)).trans (hG8.Yw HS7.out λj e=>(hlo j e).1)⟩)
    clear hO8 hG8 HE7 HS7 HC7 HO7 HB7 x0 gk gx hO;go_wp2_with fail;go_roundw
    case rel=>exact⟨k+1,by omega,by go_num,hid hF.out.1,hF.out.2⟩
    case measure=>simp[intOf];omega
  ·have hall:(Vo v f).take k=Vo v f:=ax (by have:=HKl.out;omega)
   have hz1:w.heap.size<=w1.heap.size:=HB1.out.size
   have hF:=hid (show Yx Z4 23 1 wr w.heap.size (λb=>w.heap.size<=b) u5 (Vo v f)/\Below w.heap.size w wr from⟨by
    have h1:=hO.out
    rw[hall]at h1;exact(h1.low hz1).to Zr λb hb _=>ak hz1 hb,Ya HB1.out hB⟩)
   clear hO hall;go_wp2_with fail;go_ret;exact⟨_,rfl,hF.out.1,hF.out.2⟩
section
def isStr(u:Value):Prop:=∃s,u=.string s
def isI(u:Value):Prop:=∃x,u=.int .i64 x
def Yve(u:Value):Prop:=∃A n c,u=.slice A n c
def WrK(K:Value->Prop)(w:World)(base:Nat)(A:Option Addr)(n:Nat):Prop:=∀k,k<n->∃g o u,A=some ⟨g,o,none⟩∧base<=g/\w.cell? ⟨g,o+k,none⟩=some u/\w.frozen? ⟨g,o+k,none⟩=false/\K u
def RsK(K:Value->Prop)(w:World)(base:Nat)(A:Option Addr)(n:Nat):Prop:=∀k,k<n->∃g o P np cp,A=some ⟨g,o,none⟩∧w.cell? ⟨g,o+k,none⟩=some (.slice P np cp)/\(np<=cp/\cp<=9223372036854775807)/\WrK K w base P np
def TRw(w:World)(base:Nat)(A:Option Addr)(n:Nat):Prop:=∀k,k<n->∃g o A0 n0 c0 A1 n1 c1,A=some ⟨g,o,none⟩∧w.cell? ⟨g,o+k*5,none⟩=some (.slice A0 n0 c0)/\w.cell? ⟨g,o+k*5+2,none⟩=some (.slice A1 n1 c1)/\(n0<=c0/\c0<=9223372036854775807)/\(n1<=c1/\c1<=9223372036854775807)/\RsK isStr w base A0 n0/\WrK isI w base A1 n1
def DmW(w:World)(base:Nat)(A:Option Addr)(n:Nat):Prop:=∀k,k<n->∃g o u P np cp,A=some ⟨g,o,none⟩∧base<=g/\w.cell? ⟨g,o+k*2,none⟩=some u/\isStr u/\w.cell? ⟨g,o+k*2+1,none⟩=some (.slice P np cp)/\w.frozen? ⟨g,o+k*2,none⟩=false/\w.frozen? ⟨g,o+k*2+1,none⟩=false
def SlK(w w':World):Prop:=∀p A n c,w.cell? p=some (.slice A n c)->w'.cell? p=some (.slice A n c)
section
variable {K:Value->Prop}{w w' : World}{base n:Nat}{A:Option Addr}{p:Addr}{u0 v:Value}
theorem Tp{q:Addr}{u:Value}(hq:w.cell? q=some u)(hp:w.cell? p=some u0)(hne:u≠u0):(w.setCell p v).cell? q=some u:=
 (ay _ _ _ _ (λe=>by subst e;rw[hp]at hq;exact hne (ao hq).symm)).trans hq
theorem WrK.Ys(h:WrK K w base A n)(hp:w.cell? p=some u0)(hK:K u0->K v):WrK K (w.setCell p v) base A n:=λk hk=>by
 obtain⟨g,o,u,e,hb,hc,hf,hu⟩:=h k hk
 by_cases e':p=⟨g,o+k,none⟩
 ·subst e'
  rw[hp]at hc;obtain rfl:=ao hc;exact⟨g,o,v,e,hb,dd _ _ _ hp,by rw[cw];exact hf,hK hu⟩
 ·exact⟨g,o,u,e,hb,(ay _ _ _ _ e').trans hc,by rw[cw];exact hf,hu⟩
theorem RsK.Ys(h:RsK K w base A n)(hp:w.cell? p=some u0)(hs:(∀g o,A=some ⟨g,o,none⟩→p.block≠g)∨∀A n c,u0≠.slice A n c)(hK:K u0->K v):RsK K (w.setCell p v) base A n:=λk hk=>by
 obtain⟨g,o,P,np,cp,e,hc,hl,hw⟩:=h k hk;refine⟨g,o,P,np,cp,e,?_,hl,hw.Ys hp hK⟩
 rcases hs with hs|hs
 ·exact(ay _ _ _ _ (λe'=>hs g o e (by rw[e']))).trans hc
 ·exact Tp hc hp λe'=>hs _ _ _ e'.symm
theorem TRw.Ys(h:TRw w base A n)(hp:w.cell? p=some u0)(hs:∀A n c,u0≠.slice A n c)(h1:isStr u0->isStr v)(h2:isI u0->isI v):TRw (w.setCell p v) base A n:=λk hk=>by
 obtain⟨g,o,A0,n0,c0,A1,n1,c1,e,e0,e1,l0,l1,q0,q1⟩:=h k hk;exact⟨g,o,A0,n0,c0,A1,n1,c1,e,Tp e0 hp λe'=>hs _ _ _ e'.symm,Tp e1 hp λe'=>hs _ _ _ e'.symm,l0,l1,q0.Ys hp (.inr hs) h1,q1.Ys hp h2⟩
theorem DmW.Ys(h:DmW w base A n)(hp:w.cell? p=some u0)(h1:isStr u0->isStr v)(h2:Yve u0->Yve v):DmW (w.setCell p v) base A n:=λk hk=>by
 obtain⟨g,o,u,P,np,cp,e,hb,hc,hu,hd,f0,f1⟩:=h k hk
 have h3:∃u',(w.setCell p v).cell? ⟨g,o+k*2,none⟩=some u'∧isStr u':=by
  by_cases e':p=⟨g,o+k*2,none⟩
  ·subst e'
   rw[hp]at hc;obtain rfl:=ao hc;exact⟨v,dd _ _ _ hp,h1 hu⟩
  ·exact⟨u,(ay _ _ _ _ e').trans hc,hu⟩
 have h4:∃P np cp,(w.setCell p v).cell? ⟨g,o+k*2+1,none⟩=some (.slice P np cp):=by
  by_cases e':p=⟨g,o+k*2+1,none⟩
  ·subst e'
   rw[hp]at hd;obtain rfl:=ao hd;obtain⟨P',n',c',rfl⟩:=h2 ⟨_,_,_,rfl⟩;exact⟨P',n',c',dd _ _ _ hp⟩
  ·exact⟨P,np,cp,(ay _ _ _ _ e').trans hd⟩
 obtain⟨u',h3,h3'⟩:=h3;obtain⟨P',n',c',h4⟩:=h4;exact⟨g,o,u',P',n',c',e,hb,h3,h3',h4,by rw[cw];exact f0,by rw[cw];exact f1⟩
theorem SlK.refl(w:World):SlK w w:=λ_ _ _ _ h=>h
theorem SlK.Ys(h:SlK w w')(hp:w'.cell? p=some u0)(hs:∀A n c,u0≠.slice A n c):SlK w (w'.setCell p v):=λq A n c hq=>Tp (h q A n c hq) hp λe'=>hs _ _ _ e'.symm
theorem Yel(h:w.cell? p=some u0):p.block<w.heap.size:=by
 unfold World.cell? at h
 split at h
 ·rename_i h1
  exact(da.1 h1).1
 ·cases h
theorem O0(h:w.cell? p=some u0)(hb:Below w.heap.size w w'):w'.cell? p=some u0:=(hb.cell (Yel h)).trans h
theorem Lq(h:w.cell? p=some u0)(hb:Below w.heap.size w w')(hf:w.frozen? p=false):w'.frozen? p=false:=(hb.frozen (Yel h)).trans hf
theorem WrK.below(h:WrK K w base A n)(hb:Below w.heap.size w w'):WrK K w' base A n:=λk hk=>by
 obtain⟨g,o,u,e,h1,hc,hf,hu⟩:=h k hk;exact⟨g,o,u,e,h1,O0 hc hb,Lq hc hb hf,hu⟩
theorem RsK.below(h:RsK K w base A n)(hb:Below w.heap.size w w'):RsK K w' base A n:=λk hk=>by
 obtain⟨g,o,P,np,cp,e,hc,hl,hw⟩:=h k hk;exact⟨g,o,P,np,cp,e,O0 hc hb,hl,hw.below hb⟩
theorem DmW.below(h:DmW w base A n)(hb:Below w.heap.size w w'):DmW w' base A n:=λk hk=>by
 obtain⟨g,o,u,P,np,cp,e,h1,hc,hu,hd,f0,f1⟩:=h k hk;exact⟨g,o,u,P,np,cp,e,h1,O0 hc hb,hu,O0 hd hb,Lq hc hb f0,Lq hd hb f1⟩
theorem DmW.low(h:DmW w base A n)(hn:0<n){g o:Nat}(e:A=some ⟨g,o,none⟩):g<w.heap.size:=by
 obtain⟨g',o',u,P,np,cp,e',h1,hc,_⟩:=h 0 hn;rw[e]at e';injection e' with e'
 injection e' with e1 _
 subst e1;exact Yel hc
/-! ### what is told is so -/
theorem Yr1{α:Type}{E:ElT α}{T:TypeId}{S:Nat->Prop}{us:List Value}{L:List α}(hE:∀w S us y,E w S us y->∃u,us=[u]/\K u)(h:Vl E T 1 w S us L)(hS:∀k,S k->base<=k):∃A n c,us=[.slice A n c]/\(n<=c/\c<=9223372036854775807)/\WrK K w base A n:=by
 obtain⟨v,rfl,h1,h2⟩:=h;obtain⟨A,c,rfl,hc1,hc2,hk⟩:=h1.cells;refine⟨A,L.length,c,rfl,⟨hc1,hc2⟩,λk hkl=>?_⟩
 obtain⟨g,cs,e1,_,e3,e4,e5,e6⟩:=hk k _ (aa hkl);obtain⟨u,hu,hK⟩:=hE _ _ _ _ e6;exact⟨g,0,u,e1,hS g (h2 g e4),(e5.cell _).trans (take_one hu),e5.free _,hK⟩
theorem Ylw{α:Type}{E:ElT α}{T T':TypeId}{S:Nat->Prop}{v:Value}{B:Nat}{L:List (List α)}(hE:∀w S us y,E w S us y->∃u,us=[u]/\K u)(h1:Yx (Vl E T' 1) T 1 w B S v L)(hS:∀k,S k->base<=k):∃A c,v=.slice A L.length c/\(L.length<=c/\c<=9223372036854775807)/\RsK K w base A L.length:=by
 obtain⟨A,c,rfl,hc1,hc2,hk⟩:=h1.cells;refine⟨A,c,rfl,⟨hc1,hc2⟩,λk hkl=>?_⟩
 obtain⟨g,cs,e1,_,e3,e4,e5,e6⟩:=hk k _ (aa hkl);obtain⟨P,np,cp,hu,q1,q2⟩:=Yr1 hE e6 λb hb=>hS b hb.1
 exact⟨g,0,P,np,cp,e1,(e5.cell _).trans (take_one hu),q1,q2⟩
end
theorem Yuk:∀w S us y,Y7 w S us y->∃u,us=[u]/\isStr u:=λ_ _ _ _ h=>⟨_,h,_,rfl⟩
theorem Yu8:∀w S us y,Yy w S us y->∃u,us=[u]/\isI u:=λ_ _ _ _ h=>⟨_,h,_,rfl⟩
theorem Yvw{L:Rws}(h:Row R7 5 w S A n c L)(hS:∀k,S k->base<=k):TRw w base A n:=λk hk=>by
 obtain⟨b,o,us,x,rfl,hb,hl,hus,hc,hx,_⟩:=h.at_ hk;obtain⟨v0,e0,hr,hf⟩:=hx.1;obtain⟨A0,c0,rfl,p1,p2⟩:=Ylw (base:=base) Yuk hr hS;obtain⟨A1,n1,c1,e1,q1,q2⟩:=Yr1 (base:=base) Yu8 hx.2.2.1 hS
 match us,hus with
 |[u0,u1,u2,u3,u4],_=>
  simp at e0 e1;subst e0 e1;exact⟨b,o,A0,_,c0,A1,n1,c1,rfl,hc 0 _ rfl,hc 2 _ rfl,p1,q1,p2,q2⟩
theorem Yvq(h:Yx Ta 75 2 w B S v D)(hB:base<=B):∃A c,v=.slice A D.length c/\(D.length<=c/\c<=9223372036854775807)/\DmW w base A D.length:=by
 obtain⟨A,c,rfl,hc1,hc2,hk⟩:=h.cells;refine⟨A,c,rfl,⟨hc1,hc2⟩,λk hkl=>?_⟩
 obtain⟨g,cs,e1,e2,e3,e4,e5,e6⟩:=hk k _ (aa hkl);obtain⟨h1,v1,h2,h3,_⟩:=e6;obtain⟨P,cp,rfl,_⟩:=h3.cells;generalize ib _=np at h2;obtain⟨s,h1⟩: ∃s,((cs.toList.drop (k*2)).take 2).take 1=[.string s]:=⟨_,h1⟩
 have t1:cs[0+k*2]?=some (.string s):=by
  have h4:=congrArg (λl=>l[0]?) h1
  simpa[dm,dc]using h4
 have t2:cs[0+k*2+1]?=some (.slice P np cp):=by
  have h4:=congrArg (λl=>l[0]?) h2
  simpa[dm,dc]using h4
 exact⟨g,0,_,P,np,cp,e1,ak hB e2,(e5.cell _).trans t1,⟨_,rfl⟩,(e5.cell _).trans t2,e5.free _,e5.free _⟩
theorem Yrw{c1 c3:Nat}(h:Ya7 w B (.slice A1 n1 c1) v2 (.slice A3 n3 c3) D M V){g o g' o':Nat}(h1:A1=some ⟨g,o,none⟩)(h3:A3=some ⟨g',o',none⟩):g≠g':=by
 obtain⟨vs1,r1,_⟩:=h.d;obtain⟨vs3,r3,_⟩:=h.v;subst h1 h3
 rcases V3 r1 r3 (by decide)with h4|h4
 ·cases h4
 ·intro e
  subst e;exact h4 rfl
/-! ### while they are written over -/
section
variable {w w' w0:World}{base n:Nat}{A:Option Addr}{p:Addr}{u0 v:Value}
theorem TRw.key{g o:Nat}(h:TRw w base (some ⟨g,o,none⟩) n){k:Nat}(hk:k<n){A0:Option Addr}{n0 c0:Nat}(hc:w.cell? ⟨g,o+k*5,none⟩=some (.slice A0 n0 c0)):RsK isStr w base A0 n0:=by
 obtain⟨g',o',A0',n0',c0',_,_,_,e,e0,_,_,_,q0,_⟩:=h k hk;injection e with e
 injection e with e1 e2
 subst e1 e2;rw[hc]at e0;injection ao e0 with ea eb _
 subst ea eb;exact q0
theorem TRw.Yxg{g o:Nat}(h:TRw w base (some ⟨g,o,none⟩) n){k:Nat}(hk:k<n){A0:Option Addr}{n0 c0:Nat}(hc:w.cell? ⟨g,o+k*5+2,none⟩=some (.slice A0 n0 c0)):WrK isI w base A0 n0:=by
 obtain⟨g',o',_,_,_,A1',n1',c1',e,_,e1,_,_,_,q1⟩:=h k hk;injection e with e
 injection e with e3 e4
 subst e3 e4;rw[hc]at e1;injection ao e1 with ea eb _
 subst ea eb;exact q1
theorem RsK.get{K:Value->Prop}{g o:Nat}(h:RsK K w base (some ⟨g,o,none⟩) n){k:Nat}(hk:k<n){A0:Option Addr}{n0 c0:Nat}(hc:w.cell? ⟨g,o+k,none⟩=some (.slice A0 n0 c0)):WrK K w base A0 n0:=by
 obtain⟨g',o',P,np,cp,e,e0,_,q⟩:=h k hk;injection e with e
 injection e with e1 e2
 subst e1 e2;rw[hc]at e0;injection ao e0 with ea eb _
 subst ea eb;exact q
structure Ce (w0:World) (base:Nat) (A:Option Addr) (n:Nat) (w:World):Prop where
 r:TRw w base A n
 bel:Below base w0 w
theorem Ce.str(h:Ce w0 base A n w){g o:Nat}(hp:w.cell? ⟨g,o,none⟩=some u0)(hu:isStr u0)(hb:base<=g)(s:ByteArray):Ce w0 base A n (w.setCell ⟨g,o,none⟩ (.string s)):=by
 obtain⟨t,rfl⟩:=hu;exact⟨h.r.Ys hp (λ_ _ _ e=>by cases e) (λ_=>⟨_,rfl⟩) (fun⟨_,e⟩=>by cases e),h.bel.setCell (p:=⟨g,o,none⟩) hb _⟩
theorem Ce.int(h:Ce w0 base A n w){g o:Nat}(hp:w.cell? ⟨g,o,none⟩=some u0)(hu:isI u0)(hb:base<=g)(x:Int):Ce w0 base A n (w.setCell ⟨g,o,none⟩ (.int .i64 x)):=by
 obtain⟨t,rfl⟩:=hu;exact⟨h.r.Ys hp (λ_ _ _ e=>by cases e) (fun⟨_,e⟩=>by cases e) (λ_=>⟨_,rfl⟩),h.bel.setCell (p:=⟨g,o,none⟩) hb _⟩
theorem Yhg(h:isStr u0):∀A n c,u0≠.slice A n c:=by
 obtain⟨s,rfl⟩:=h;intro _ _ _ e
 cases e
theorem Yrj(h:isI u0):∀A n c,u0≠.slice A n c:=by
 obtain⟨s,rfl⟩:=h;intro _ _ _ e
 cases e
structure Ya2 (w0:World) (base:Nat) (A1:Option Addr) (n1:Nat) (A3:Option Addr) (n3:Nat) (b:Nat) (X1 X3:Value) (w:World):Prop where
 d:DmW w base A1 n1
 v:RsK isI w base A3 n3
 t0:w.cell? ⟨b,0,none⟩=some X1
 t2:w.cell? ⟨b,2,none⟩=some X3
 bel:Below base w0 w
theorem Ya2.dim{A1 A3:Option Addr}{n1 n3 b:Nat}{X1 X3:Value}(h:Ya2 w0 base A1 n1 A3 n3 b X1 X3 w){g o:Nat}(hv:∀g' o',A3=some ⟨g',o',none⟩→g≠g')(hb:g≠b)(hg:base<=g){k:Nat}{u:Value}(hu:isStr u)(hc:w.cell? ⟨g,o+k*2,none⟩=some u){P:Option Addr}{np cp:Nat}(hd:w.cell? ⟨g,o+k*2+1,none⟩=some (.slice P np cp))(s:ByteArray):
  Ya2 w0 base A1 n1 A3 n3 b X1 X3 ((w.setCell ⟨g,o+k*2,none⟩ (.string s)).setCell ⟨g,o+k*2+1,none⟩ (.slice none 0 0)):=by
 obtain⟨t,rfl⟩:=hu
 have hd':(w.setCell ⟨g,o+k*2,none⟩ (.string s)).cell? ⟨g,o+k*2+1,none⟩=some (.slice P np cp):=Tp hd hc (λe=>by cases e)
 have hne:∀{x:World}{i j:Nat}{y:Value},(x.setCell ⟨g,i,none⟩ y).cell? ⟨b,j,none⟩=x.cell? ⟨b,j,none⟩:=ay _ _ _ _ λe=>hb (by injection e)
 refine⟨?_,?_,by rw[hne,hne];exact h.t0,by rw[hne,hne];exact h.t2,(h.bel.setCell (p:=⟨g,o+k*2,none⟩) hg _).setCell (p:=⟨g,o+k*2+1,none⟩) hg _⟩
 ·exact(h.d.Ys hc (λ_=>⟨_,rfl⟩) (fun⟨_,_,_,e⟩=>by cases e)).Ys hd' (fun⟨_,e⟩=>by cases e) (λ_=>⟨_,_,_,rfl⟩)
 ·exact(h.v.Ys hc (.inl λg' o' e=>hv g' o' e) (fun⟨_,e⟩=>by cases e)).Ys hd' (.inl λg' o' e=>hv g' o' e) (fun⟨_,e⟩=>by cases e)
theorem Ya2.int{A1 A3:Option Addr}{n1 n3 b:Nat}{C1 C3 D1 D3:Nat}(h:Ya2 w0 base A1 n1 A3 n3 b (.slice A1 C1 D1) (.slice A3 C3 D3) w){g o:Nat}(hp:w.cell? ⟨g,o,none⟩=some u0)(hu:isI u0)(hb:base<=g)(x:Int):Ya2 w0 base A1 n1 A3 n3 b (.slice A1 C1 D1) (.slice A3 C3 D3) (w.setCell ⟨g,o,none⟩ (.int .i64 x)):=by
 obtain⟨t,rfl⟩:=hu;exact⟨h.d.Ys hp (fun⟨_,e⟩=>by cases e) (fun⟨_,_,_,e⟩=>by cases e),h.v.Ys hp (.inr λ_ _ _ e=>by cases e) (λ_=>⟨_,rfl⟩),Tp h.t0 hp (λe=>by cases e),Tp h.t2 hp (λe=>by cases e),h.bel.setCell (p:=⟨g,o,none⟩) hb _⟩
end
end
end Go.Proofs.YtmepdkdeanbbaaaGreat
