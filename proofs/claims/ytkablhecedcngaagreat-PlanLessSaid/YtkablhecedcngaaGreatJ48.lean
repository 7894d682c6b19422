/- LatA, LatB, LatC, LatD, LatF, LatG, LatH, LatI, LtA, LtV, LuB, LuC, LuF, LuJ, PlnE, LatJ, LatK, LtE, LtF, LtG, LtO, LtU -/
import Derived.Test.YtkablhecedcngaaGreatJ40
import Derived.Test.YtkablhecedcngaaGreatJ43
import Derived.Test.YtkablhecedcngaaGreatJ45
import Derived.Test.YtkablhecedcngaaGreatJ47
namespace Go.Proofs.YtkablhecedcngaaGreat
set_option maxRecDepth 100000
set_option maxHeartbeats 8000000
open Go.RowKit
open Go.Lib (hid)
variable {w:World}{B W c g k m n n1 n2 n3 size sz:Nat}{R S:Nat→Prop}{A A1 A2 A3:Option Addr}{D L:List Yg}{M:List Txt}{V:List (List Int)}{vs xs:List Value}{X1 X2 X3 dv v vv:Value}{T e:TypeId}{N:List Nat}{Qs:List (List Pth)}{x:Txt}{Cs:List Cub}{cnt:Int}
section
/-! ### frames -/
section
variable {S:Nat→Prop}{w w' : World}
theorem Cb.chg {g b W m:Nat}{C:Cub}(h:Cb w g b W m C) (hc:Chg S w w') (hg:¬ S g) (hb:¬ S b):Cb w' g b W m C :=
 ⟨(hc.block g h.blk.lt hg).trans h.blk,h.map.same (hc.block b h.map.lt hb),h.ok,h.w1,h.w3,h.m1,h.m2⟩
theorem Mv.chg {R:Nat→Prop}(hc:Chg S w w') (hS:∀ k,R k→¬ S k):Mv w R w' R:=fun b hb hl=>⟨hc.block b hl (hS b hb),hb⟩
theorem Block.chg {g:Nat}{e:TypeId}{cs:Array Value}(h:Block w g e cs) (hc:Chg S w w') (hg:¬ S g):Block w' g e cs:=(hc.block g h.lt hg).trans h
end
theorem Y6 {e':TypeId}{cs:Array Value}{fr:Nat × Nat} (h:w.ownsRow B e size v n xs) (hb:w.heap[g]?=some (.cells cs e' fr)) (hne:e≠e'):v.ownBlock≠some g:=by
 rcases h.2 with ⟨rfl,_⟩ | ⟨g',cap,cur,rfl,_,hg,_⟩
 ·intro h; cases h
 ·intro hk
  simp only [Value.ownBlock,Option.some.injEq] at hk;subst hk;rw [hb] at hg;simp only [Option.some.injEq,Obj.cells.injEq] at hg;exact hne hg.2.1.symm
theorem Ygv (h:w.ownsRow B e size v n xs) (hb:∃ es clock,w.heap[g]?=some (.map es clock)):v.ownBlock≠some g:=by
 obtain ⟨es,clock,hb⟩:=hb
 rcases h.2 with ⟨rfl,_⟩ | ⟨g',cap,cur,rfl,_,hg,_⟩
 ·intro h; cases h
 ·intro hk
  simp only [Value.ownBlock,Option.some.injEq] at hk;subst hk;rw [hb] at hg
  cases hg
/-! ### dictionaries,cuboids,side by side -/
abbrev DAt:=Nat × Value × Nat
abbrev CAt:=Nat × Nat
def Xo (g:Nat):Value:=.pointer (some ⟨g,0,none⟩)
def Wo (d:DAt) (k:Nat):Prop:=U0 d.1 d.2.1 d.2.2 k
def V2 (c:CAt) (k:Nat):Prop:=k=c.1∨k=c.2
structure Dcs (w:World) (ds:List DAt) (N:List Nat) (Qs:List (List Pth)):Prop where
 len:ds.length=N.length
 good:Xj N Qs
 at_:∀ (i:Nat) (d:DAt),ds[i]?=some d→Dc w 0 d.1 d.2.1 d.2.2 (N.getD i 0) (Qs.getD i [])
 ne:∀ (i j:Nat) (d e:DAt),ds[i]?=some d→ds[j]?=some e→i≠j→∀ k,Wo d k→¬ Wo e k
structure Cbs (w:World) (vs:List CAt) (W m:Nat) (Cs:List Cub):Prop where
 len:vs.length=Cs.length
 at_:∀ (i:Nat) (c:CAt),vs[i]?=some c→Cb w c.1 c.2 W m (Cs.getD i [])
 ne:∀ (i j:Nat) (c e:CAt),vs[i]?=some c→vs[j]?=some e→i≠j→∀ k,V2 c k→¬ V2 e k
section
variable {w w' : World}{S:Nat→Prop}{ds:List DAt}{N:List Nat}{Qs:List (List Pth)}{vs:List CAt}{W m:Nat}{Cs:List Cub}
theorem Dcs.lt (h:Dcs w ds N Qs) {d:DAt}(hd:d∈ds) {k:Nat}(hk:Wo d k):k<w.heap.size:=by
 obtain ⟨i,hi⟩:=List.getElem?_of_mem hd;exact ((h.at_ i d hi).Ki hk).2
theorem Cbs.lt (h:Cbs w vs W m Cs) {c:CAt}(hd:c∈vs) {k:Nat}(hk:V2 c k):k<w.heap.size:=by
 obtain ⟨i,hi⟩:=List.getElem?_of_mem hd
 have:=h.at_ i c hi
 rcases hk with rfl | rfl
 ·exact this.blk.lt
 ·exact this.map.lt
theorem Dcs.chg (h:Dcs w ds N Qs) (hc:Chg S w w') (hS:∀ d∈ds,∀ k,Wo d k→¬ S k):Dcs w' ds N Qs :=
 ⟨h.len,h.good,fun i d hi=>(h.at_ i d hi).chg hc (hS d (List.mem_of_getElem? hi)),h.ne⟩
theorem Cbs.chg (h:Cbs w vs W m Cs) (hc:Chg S w w') (hS:∀ c∈vs,∀ k,V2 c k→¬ S k):Cbs w' vs W m Cs :=
 ⟨h.len,fun i c hi=>(h.at_ i c hi).chg hc (hS c (List.mem_of_getElem? hi) _ (.inl rfl)) (hS c (List.mem_of_getElem? hi) _ (.inr rfl)),h.ne⟩
theorem Dcs.below (h:Dcs w ds N Qs) (hb:Below w.heap.size w w'):Dcs w' ds N Qs:=h.chg (S:=fun _=>False) (Chg.Yz hb (Nat.le_refl _)) (fun _ _ _ _ h=>h)
theorem Dcs.Ykj (h:Dcs w ds N Qs):Qs.length=ds.length:=by rw [h.good.len,h.len]
theorem Pr {α:Type}{L:List α}{i j:Nat}{x y:α}(hi:i<L.length):(L.set i x).getD j y=if i=j then x else L.getD j y:=by
 rw [List.getD_eq_getElem?_getD,List.getElem?_set]
 by_cases h:i=j
 ·rw [if_pos h,if_pos h,if_pos (h ▸ hi)]; rfl
 ·rw [if_neg h,if_neg h,List.getD_eq_getElem?_getD]
theorem Dcs.Yo (h:Dcs w ds N Qs) {i:Nat}{d d' : DAt}{Q' : List Pth}(hi:ds[i]?=some d) (hc:Chg (Wo d) w w') (hd:Dc w' 0 d'.1 d'.2.1 d'.2.2 (N.getD i 0) Q') (hf:∀ k,Wo d' k→Wo d k∨w.heap.size≤k):Dcs w' (ds.set i d') N (Qs.set i Q'):=by
 have hil:=(List.getElem?_eq_some_iff.1 hi).1
 have hq:=h.Ykj
 have hl:=h.len
 refine ⟨by rw [List.length_set]; exact h.len,Xj.of (by rw [List.length_set,hq,hl]) fun j hj=>?_,fun j e hj=>?_,fun a b x y ha hb hab k hx hy=>?_⟩
 ·rw [Pr (by omega)]
  by_cases hij:i=j
  ·subst hij; rw [if_pos rfl]; exact hd.good
  ·rw [if_neg hij]; exact h.good.get hj
 ·rw [Pr (by omega)]
  rw [List.getElem?_set] at hj
  by_cases hij:i=j
  ·subst hij
   rw [if_pos rfl,if_pos hil] at hj;obtain rfl:=Option.some.inj hj;rw [if_pos rfl]; exact hd
  ·rw [if_neg hij] at hj
   rw [if_neg hij];exact (h.at_ j e hj).chg hc fun k hk hk'=>h.ne i j d e hi hj hij k hk' hk
 ·rw [List.getElem?_set] at ha hb
  by_cases h1:i=a
  ·subst h1
   rw [if_pos rfl,if_pos hil] at ha;obtain rfl:=Option.some.inj ha;rw [if_neg hab] at hb
   rcases hf k hx with h2 | h2
   ·exact h.ne i b d y hi hb hab k h2 hy
   ·have:=h.lt (List.mem_of_getElem? hb) hy; omega
  ·rw [if_neg h1] at ha
   by_cases h2:i=b
   ·subst h2
    rw [if_pos rfl,if_pos hil] at hb;obtain rfl:=Option.some.inj hb
    rcases hf k hy with h3 | h3
    ·exact h.ne i a d x hi ha (fun e=>hab e.symm) k h3 hx
    ·have:=h.lt (List.mem_of_getElem? ha) hx; omega
   ·rw [if_neg h2] at hb
    exact h.ne a b x y ha hb hab k hx hy
theorem Cbs.Yo (h:Cbs w vs W m Cs) {i:Nat}{c c' : CAt}{C' : Cub}(hi:vs[i]?=some c) (hc:Chg (V2 c) w w') (hd:Cb w' c'.1 c'.2 W m C') (hf:∀ k,V2 c' k→V2 c k∨w.heap.size≤k):Cbs w' (vs.set i c') W m (Cs.set i C'):=by
 have hil:=(List.getElem?_eq_some_iff.1 hi).1
 have hl:=h.len
 refine ⟨by rw [List.length_set,List.length_set]; exact h.len,fun j e hj=>?_,fun a b x y ha hb hab k hx hy=>?_⟩
 ·rw [Pr (by omega)]
  rw [List.getElem?_set] at hj
  by_cases hij:i=j
  ·subst hij
   rw [if_pos rfl,if_pos hil] at hj;obtain rfl:=Option.some.inj hj;rw [if_pos rfl]; exact hd
  ·rw [if_neg hij] at hj
   rw [if_neg hij];exact (h.at_ j e hj).chg hc (fun hk=>h.ne i j c e hi hj hij _ hk (.inl rfl)) (fun hk=>h.ne i j c e hi hj hij _ hk (.inr rfl))
 ·rw [List.getElem?_set] at ha hb
  by_cases h1:i=a
  ·subst h1
   rw [if_pos rfl,if_pos hil] at ha;obtain rfl:=Option.some.inj ha;rw [if_neg hab] at hb
   rcases hf k hx with h2 | h2
   ·exact h.ne i b c y hi hb hab k h2 hy
   ·have:=h.lt (List.mem_of_getElem? hb) hy; omega
  ·rw [if_neg h1] at ha
   by_cases h2:i=b
   ·subst h2
    rw [if_pos rfl,if_pos hil] at hb;obtain rfl:=Option.some.inj hb
    rcases hf k hy with h3 | h3
    ·exact h.ne i a c x hi ha (fun e=>hab e.symm) k h3 hx
    ·have:=h.lt (List.mem_of_getElem? ha) hx; omega
   ·rw [if_neg h2] at hb
    exact h.ne a b x y ha hb hab k hx hy
end
/-! ### the lattice -/
structure LtM (w:World) (g:Nat) (X1 X2 X3 dv vv:Value) (ds:List DAt) (vs:List CAt) (N:List Nat) (Qs:List (List Pth)) (W m:Nat) (Cs:List Cub) (cnt:Int):Prop where
 blk:Block w g 82 #[X1,X2,X3,dv,vv,.int .i64 cnt]
 dr:w.ownsRow 0 91 1 dv ds.length (ds.map fun d=>Xo d.1)
 vr:w.ownsRow 0 78 1 vv vs.length (vs.map fun c=>Xo c.1)
 dcs:Dcs w ds N Qs
 cbs:Cbs w vs W m Cs
 apart:∀ d∈ds,∀ c∈vs,∀ k,Wo d k→¬ V2 c k
def Zg (g:Nat) (dv vv:Value) (ds:List DAt) (vs:List CAt) (k:Nat):Prop:=k=g∨dv.ownBlock=some k∨vv.ownBlock=some k∨(∃ d∈ds,Wo d k)∨∃ c∈vs,V2 c k
section
variable {w w' : World}{S:Nat→Prop}{g:Nat}{X1 X2 X3 dv vv:Value}{ds:List DAt}{vs:List CAt}{N:List Nat}{Qs:List (List Pth)}{W m:Nat}{Cs:List Cub}{cnt:Int}
theorem LtM.chg (h:LtM w g X1 X2 X3 dv vv ds vs N Qs W m Cs cnt) (hc:Chg S w w') (hS:∀ k,Zg g dv vv ds vs k→¬ S k):LtM w' g X1 X2 X3 dv vv ds vs N Qs W m Cs cnt :=
 ⟨h.blk.chg hc (hS g (.inl rfl)),hc.row h.dr fun k hk=>hS k (.inr (.inl hk)),hc.row h.vr fun k hk=>hS k (.inr (.inr (.inl hk))),h.dcs.chg hc fun d hd k hk=>hS k (.inr (.inr (.inr (.inl ⟨d,hd,hk⟩)))),h.cbs.chg hc fun c hc' k hk=>hS k (.inr (.inr (.inr (.inr ⟨c,hc',hk⟩)))),h.apart⟩
theorem LtM.below (h:LtM w g X1 X2 X3 dv vv ds vs N Qs W m Cs cnt) (hb:Below w.heap.size w w'):LtM w' g X1 X2 X3 dv vv ds vs N Qs W m Cs cnt:=h.chg (S:=fun _=>False) (Chg.Yz hb (Nat.le_refl _)) (fun _ _ h=>h)
theorem LtM.drewN (h:LtM w g X1 X2 X3 dv vv ds vs N Qs W m Cs cnt) (k:Nat):LtM (w.drewN k) g X1 X2 X3 dv vv ds vs N Qs W m Cs cnt:=h.chg (S:=fun _=>False) ((Chg.refl _ w).drewN k) (fun _ _ h=>h)
theorem LtM.lt (h:LtM w g X1 X2 X3 dv vv ds vs N Qs W m Cs cnt) {k:Nat}(hk:Zg g dv vv ds vs k):k<w.heap.size:=by
 rcases hk with rfl | hk | hk | ⟨d,hd,hk⟩ | ⟨c,hc,hk⟩
 ·exact h.blk.lt
 ·exact (World.ownsRow.lt h.dr k hk).2
 ·exact (World.ownsRow.lt h.vr k hk).2
 ·exact h.dcs.lt hd hk
 ·exact h.cbs.lt hc hk
def Tt (o:Obj):Prop:=match o with
 | .cells _ e _=>e=82∨e=91∨e=78∨e=131∨e=139∨e=119
 | .map _ _=>True
 | _=>False
theorem Xn {w:World}{B size n k:Nat}{e:TypeId}{v:Value}{xs:List Value}(h:w.ownsRow B e size v n xs) (hk:v.ownBlock=some k):∃ cs fr,w.heap[k]?=some (.cells cs e fr):=by
 rcases h.2 with ⟨rfl,_⟩ | ⟨g',cap,cur,rfl,_,hg,_⟩
 ·cases hk
 ·simp only [Value.ownBlock,Option.some.injEq] at hk
  subst hk;exact ⟨_,_,hg⟩
theorem Dc.kind {base n:Nat}{Q:List Pth}{d:DAt}(h:Dc w base d.1 d.2.1 d.2.2 n Q) {k:Nat}(hk:Wo d k):(∃ cs e fr,w.heap[k]?=some (.cells cs e fr)∧(e=131∨e=139))∨∃ es clock,w.heap[k]?=some (.map es clock):=by
 rcases hk with rfl | hk | rfl
 ·exact .inl ⟨_,_,_,h.block,.inl rfl⟩
 ·obtain ⟨cs,fr,e⟩:=Xn h.row hk
  exact .inl ⟨cs,_,fr,e,.inr rfl⟩
 ·exact .inr h.map.Rt
theorem Cb.kind {C:Cub}{c:CAt}(h:Cb w c.1 c.2 W m C) {k:Nat}(hk:V2 c k):(∃ cs fr,w.heap[k]?=some (.cells cs 119 fr))∨∃ es clock,w.heap[k]?=some (.map es clock):=by
 rcases hk with rfl | rfl
 ·exact .inl ⟨_,_,h.blk⟩
 ·exact .inr h.map.Rt
theorem LtM.kind (h:LtM w g X1 X2 X3 dv vv ds vs N Qs W m Cs cnt) {k:Nat}(hk:Zg g dv vv ds vs k):∃ o,w.heap[k]?=some o∧Tt o:=by
 rcases hk with rfl | hk | hk | ⟨d,hd,hk⟩ | ⟨c,hc,hk⟩
 ·exact ⟨_,h.blk,.inl rfl⟩
 ·obtain ⟨cs,fr,e⟩:=Xn h.dr hk
  exact ⟨_,e,.inr (.inl rfl)⟩
 ·obtain ⟨cs,fr,e⟩:=Xn h.vr hk
  exact ⟨_,e,.inr (.inr (.inl rfl))⟩
 ·obtain ⟨i,hi⟩:=List.getElem?_of_mem hd
  rcases (h.dcs.at_ i d hi).kind hk with ⟨cs,e,fr,he,h1 | h1⟩ | ⟨es,clock,he⟩
  ·exact ⟨_,he,.inr (.inr (.inr (.inl h1)))⟩
  ·exact ⟨_,he,.inr (.inr (.inr (.inr (.inl h1))))⟩
  ·exact ⟨_,he,trivial⟩
 ·obtain ⟨i,hi⟩:=List.getElem?_of_mem hc
  rcases (h.cbs.at_ i c hi).kind hk with ⟨cs,fr,he⟩ | ⟨es,clock,he⟩
  ·exact ⟨_,he,.inr (.inr (.inr (.inr (.inr rfl))))⟩
  ·exact ⟨_,he,trivial⟩
theorem LtM.Ytj (h:LtM w g X1 X2 X3 dv vv ds vs N Qs W m Cs cnt):dv.ownBlock≠some g:=Y6 h.dr h.blk (by decide)
theorem LtM.Yqr (h:LtM w g X1 X2 X3 dv vv ds vs N Qs W m Cs cnt):vv.ownBlock≠some g:=Y6 h.vr h.blk (by decide)
theorem LtM.Ymo (h:LtM w g X1 X2 X3 dv vv ds vs N Qs W m Cs cnt) {k:Nat}(hk:dv.ownBlock=some k):vv.ownBlock≠some k:=by
 obtain ⟨cs,fr,e⟩:=Xn h.dr hk;exact Y6 h.vr e (by decide)
theorem LtM.d_g (h:LtM w g X1 X2 X3 dv vv ds vs N Qs W m Cs cnt) {d:DAt}(hd:d∈ds):¬ Wo d g:=fun hk=>by
 obtain ⟨i,hi⟩:=List.getElem?_of_mem hd
 have hb:w.heap[g]?=some (.cells _ _ _):=h.blk
 rcases (h.dcs.at_ i d hi).kind hk with ⟨cs,e,fr,he,h1⟩ | ⟨es,clock,he⟩
 ·rw [hb] at he
  simp only [Option.some.injEq,Obj.cells.injEq] at he
  rcases h1 with h1 | h1 <;> (rw [← he.2.1] at h1; exact absurd h1 (by decide))
 ·rw [hb] at he; cases he
theorem LtM.c_g (h:LtM w g X1 X2 X3 dv vv ds vs N Qs W m Cs cnt) {c:CAt}(hc:c∈vs):¬ V2 c g:=fun hk=>by
 obtain ⟨i,hi⟩:=List.getElem?_of_mem hc
 have hb:w.heap[g]?=some (.cells _ _ _):=h.blk
 rcases (h.cbs.at_ i c hi).kind hk with ⟨cs,fr,he⟩ | ⟨es,clock,he⟩
 ·rw [hb] at he
  simp only [Option.some.injEq,Obj.cells.injEq] at he;exact absurd he.2.1 (by decide)
 ·rw [hb] at he; cases he
theorem Te {B size n' : Nat}{e:TypeId}{v:Value}{xs:List Value}{base n:Nat}{Q:List Pth}{d:DAt}(hr:w.ownsRow B e size v n' xs) (h:Dc w base d.1 d.2.1 d.2.2 n Q) (h1:e≠131) (h2:e≠139) {k:Nat}(hk:v.ownBlock=some k):¬ Wo d k:=h.Fw hr h1 h2 k hk
theorem Si {B size n' : Nat}{e:TypeId}{v:Value}{xs:List Value}{C:Cub}{c:CAt}(hr:w.ownsRow B e size v n' xs) (h:Cb w c.1 c.2 W m C) (h1:e≠119) {k:Nat}(hk:v.ownBlock=some k):¬ V2 c k:=fun hf=>by
 rcases h.kind hf with ⟨cs,fr,he⟩ | hm
 ·exact Y6 hr he h1 hk
 ·exact Ygv hr hm hk
theorem LtM.c0 (h:LtM w g X1 X2 X3 dv vv ds vs N Qs W m Cs cnt):w.cell? ⟨g,0,none⟩=some X1:=h.blk.cell 0
theorem LtM.c1 (h:LtM w g X1 X2 X3 dv vv ds vs N Qs W m Cs cnt):w.cell? ⟨g,1,none⟩=some X2:=h.blk.cell 1
theorem LtM.c2 (h:LtM w g X1 X2 X3 dv vv ds vs N Qs W m Cs cnt):w.cell? ⟨g,2,none⟩=some X3:=h.blk.cell 2
theorem LtM.c3 (h:LtM w g X1 X2 X3 dv vv ds vs N Qs W m Cs cnt):w.cell? ⟨g,3,none⟩=some dv:=h.blk.cell 3
theorem LtM.c4 (h:LtM w g X1 X2 X3 dv vv ds vs N Qs W m Cs cnt):w.cell? ⟨g,4,none⟩=some vv:=h.blk.cell 4
theorem LtM.c5 (h:LtM w g X1 X2 X3 dv vv ds vs N Qs W m Cs cnt):w.cell? ⟨g,5,none⟩=some (.int .i64 cnt):=h.blk.cell 5
end
theorem Lj {gs:List Nat} (h:w.ownsRow B T 1 v gs.length (gs.map Xo)):∃ A c,v=.slice A gs.length c∧gs.length≤c∧c≤maxLen∧∀ i d,gs[i]?=some d→∃ b,A=some ⟨b,0,none⟩∧v.ownBlock=some b∧b<w.heap.size∧w.cell? ⟨b,i,none⟩=some (Xo d):=by
 have h1:=h
 rcases h.2 with ⟨rfl,h0⟩ | ⟨b,cap,cur,rfl,hb,hg,hnc,hcm,hcs,ht⟩
 ·exact ⟨none,0,by rw [h0],by omega,by unfold maxLen; omega,fun i d hi=>by
   have:=(List.getElem?_eq_some_iff.1 hi).1
   omega⟩
 ·refine ⟨_,cap,rfl,hnc,hcm,fun i d hi=>⟨b,rfl,rfl,(Array.getElem?_eq_some_iff.1 hg).1,?_⟩⟩
  have hcell:=World.ownsRow.cells h1 (g:=b) rfl i (Xo d) (by rw [List.getElem?_map,hi]; rfl)
  rw [Yt] at hcell;simpa using hcell
/-! ### a schema,in blocks of R -/
abbrev Po:ElT Yg:=Ua Yy 1 (Zf Yy 1)
theorem Wy:Po.Ok:=Vo Yp (Xm Yp)
structure Wm (w:World) (R:Nat→Prop) (A1:Option Addr) (n1 c1:Nat) (A2:Option Addr) (n2 c2:Nat) (A3:Option Addr) (n3 c3:Nat) (D:List Yg) (M:List Txt) (V:List (List Int)):Prop where
 d:Row Po 2 w R A1 n1 c1 D
 m:Row Yy 1 w R A2 n2 c2 M
 v:Row (Zf Yr 1) 1 w R A3 n3 c3 V
section
variable {w w' : World}{R S:Nat→Prop}{A1 A2 A3:Option Addr}{n1 c1 n2 c2 n3 c3:Nat}{D:List Yg}{M:List Txt}{V:List (List Int)}
theorem Wm.mv {R' : Nat→Prop}(h:Wm w R A1 n1 c1 A2 n2 c2 A3 n3 c3 D M V) (m:Mv w R w' R'):Wm w' R' A1 n1 c1 A2 n2 c2 A3 n3 c3 D M V:=⟨h.d.mv Wy m,h.m.mv Yp m,h.v.mv (Xm Yh) m⟩
theorem Wm.chg (h:Wm w R A1 n1 c1 A2 n2 c2 A3 n3 c3 D M V) (hc:Chg S w w') (hS:∀ k,R k→¬ S k):Wm w' R A1 n1 c1 A2 n2 c2 A3 n3 c3 D M V:=h.mv (Mv.chg hc hS)
theorem Wm.Yc (h:Wm w R A1 n1 c1 A2 n2 c2 A3 n3 c3 D M V) (hb:Below w.heap.size w w'):Wm w' R A1 n1 c1 A2 n2 c2 A3 n3 c3 D M V:=h.mv (Mv.Yc hb R)
theorem Row.Ytl {A:Option Addr}{n c:Nat}(h:Row Po 2 w R A n c D):Xf w w.heap.size A n c D:=by
 refine ⟨h.1,h.cap,h.fit,h.void,fun i hi=>?_⟩
 obtain ⟨b,o,us,x,e,_,hl,h4,hc,⟨h5,A',n',c',h6,hr⟩,he⟩:=h.at_ hi
 have e1:D.getD i Xv=x:=by rw [List.getD_eq_getElem?_getD,he.out]; rfl
 rw [e1]
 match us,h4 with
 | [u0,u1],_ =>
  simp only [List.take_succ_cons,List.take_zero,List.drop_succ_cons,List.drop_zero,Yy,List.cons.injEq,and_true] at h5 h6;subst h5 h6;exact ⟨b,o,A',n',c',e,hl,hc 0 _ rfl,hc 1 _ rfl,hr.Ea⟩
theorem Wm.has (h:Wm w R A1 n1 c1 A2 n2 c2 A3 n3 c3 D M V):Tx w w.heap.size A1 n1 c1 A2 n2 c2 A3 n3 c3 D M V:=⟨h.d.Ytl,h.m.Ea,h.v.Ytm⟩
end
def Lt (w:World) (R:Nat→Prop) (g:Nat) (F:Nat→Prop) (D:List Yg) (M:List Txt) (V:List (List Int)) (Qs:List (List Pth)) (Cs:List Cub) (cnt:Int):Prop :=
 ∃ dv vv ds vs A1 n1 c1 A2 n2 c2 A3 n3 c3,LtM w g (.slice A1 n1 c1) (.slice A2 n2 c2) (.slice A3 n3 c3) dv vv ds vs (Yk D) Qs D.length M.length Cs cnt∧Wm w R A1 n1 c1 A2 n2 c2 A3 n3 c3 D M V∧(∀ k,F k↔Zg g dv vv ds vs k)∧(∀ k,R k→¬ F k)∧Z3 D M V∧Cs.length=(Ye D V).length
section
variable {w w' : World}{R F S:Nat→Prop}{g:Nat}{D:List Yg}{M:List Txt}{V:List (List Int)}{Qs:List (List Pth)}{Cs:List Cub}{cnt:Int}
theorem Lt.chg (h:Lt w R g F D M V Qs Cs cnt) (hc:Chg S w w') (hF:∀ k,F k→¬ S k) (hR:∀ k,R k→¬ S k):Lt w' R g F D M V Qs Cs cnt:=by
 obtain ⟨dv,vv,ds,vs,A1,n1,c1,A2,n2,c2,A3,n3,c3,h1,h2,h3,h4,h5⟩:=h;exact ⟨dv,vv,ds,vs,A1,n1,c1,A2,n2,c2,A3,n3,c3,h1.chg hc fun k hk=>hF k ((h3 k).2 hk),h2.chg hc hR,h3,h4,h5⟩
theorem Lt.below (h:Lt w R g F D M V Qs Cs cnt) (hb:Below w.heap.size w w'):Lt w' R g F D M V Qs Cs cnt:=h.chg (S:=fun _=>False) (Chg.Yz hb (Nat.le_refl _)) (fun _ _ h=>h) (fun _ _ h=>h)
theorem Lt.lt (h:Lt w R g F D M V Qs Cs cnt) {k:Nat}(hk:F k):k<w.heap.size:=by
 obtain ⟨dv,vv,ds,vs,A1,n1,c1,A2,n2,c2,A3,n3,c3,h1,h2,h3,h4⟩:=h;exact h1.lt ((h3 k).1 hk)
theorem Lt.kind (h:Lt w R g F D M V Qs Cs cnt) {k:Nat}(hk:F k):∃ o,w.heap[k]?=some o∧Tt o:=by
 obtain ⟨dv,vv,ds,vs,A1,n1,c1,A2,n2,c2,A3,n3,c3,h1,h2,h3,h4⟩:=h;exact h1.kind ((h3 k).1 hk)
end
end
section
theorem Sl.Et {w:World}{B sz n:Nat}{T:TypeId}{v:Value}{vs:List Value}(h:w.ownsRow B T sz v n vs):∃ A c,v=.slice A n c∧Sl w (fun k=>B≤k∧v.ownBlock=some k) A n c sz vs:=by
 rcases h.2 with ⟨rfl,h0⟩ | ⟨g,cap,cur,rfl,hb,hg,hnc,hcm,_⟩
 ·subst h0
  have:vs=[]:=List.eq_nil_of_length_eq_zero (by have:=h.1; omega)
  subst this;exact ⟨none,0,rfl,Sl.none_ _ _ _⟩
 ·refine ⟨_,cap,rfl,h.1,hnc,hcm,(fun h=>by cases h),fun _=>⟨g,0,rfl,⟨hb,rfl⟩,(Array.getElem?_eq_some_iff.1 hg).1,fun j u hu=>?_⟩⟩
  have:=h.cells (g:=g) rfl j u hu
  rwa [Yt] at this
def Yhn (T:TypeId) (sz n:Nat) (vs:List Value) (w:World) (e:Ending) (w' : World):Prop:=∃ A c,e=.returned (.slice A n c)∧w'.ownsRow w.heap.size T sz (.slice A n c) n vs∧Below w.heap.size w w'
theorem O0 (w:World) (T:TypeId) (sz:Nat):(w.alloc (.cells #[] T)).ownsRow w.heap.size T sz (.slice (some ⟨w.heap.size,0,none⟩) 0 0) 0 [] :=
 ⟨by simp,.inr ⟨w.heap.size,0,#[],rfl,Nat.le_refl _,heap_alloc_new w _,Nat.le_refl _,Nat.zero_le _,by simp,by simp⟩⟩
/-! ### rows whose elements are put anew -/
def Zq {α:Type}(E:ElT α) (T:TypeId) (sz:Nat) (w:World) (B:Nat) (S:Nat→Prop) (v:Value) (n:Nat) (L:List α) (vs:List Value) (k:Nat):Prop :=
 L.length=n∧∃ us:List Value,us.length=k*sz∧w.ownsRow B T sz v n (us++vs.drop (k*sz))∧∀ i x,i<k→L[i]?=some x→E w (fun b=>S b∧v.ownBlock≠some b) ((us.drop (i*sz)).take sz) x
section
variable {α:Type}{E:ElT α}{T:TypeId}{sz B n k g c:Nat}{w w' : World}{S:Nat→Prop}{v:Value}{L:List α}{vs:List Value}
theorem Zq.begin (h:w.ownsRow B T sz v n vs) (hl:L.length=n):Zq E T sz w B S v n L vs 0:=⟨hl,[],by simp,by simpa using h,fun i x hi=>absurd hi (by omega)⟩
theorem Zq.end_ (h:Zq E T sz w B S v n L vs k) (hk:n≤k) (hv:vs.length=n*sz):Ys E T sz w B S v L:=by
 obtain ⟨h0,us,h1,h2,h3⟩:=h;rw [List.drop_of_length_le (by rw [hv]; exact Nat.mul_le_mul_right sz hk),List.append_nil] at h2
 subst h0;exact ⟨us,h2,fun i x hi=>h3 i x (by have:=(List.getElem?_eq_some_iff.1 hi).1; omega) hi⟩
theorem Zq.below (hE:E.Ok) (h:Zq E T sz w B S v n L vs k) (hb:Below w.heap.size w w'):Zq E T sz w' B S v n L vs k:=by
 obtain ⟨h0,us,h1,h2,h3⟩:=h;exact ⟨h0,us,h1,Z8 h2 hb,fun i x hi hx=>hE _ _ _ _ _ _ (Mv.Yc hb _) (h3 i x hi hx)⟩
theorem Zq.lt (h:Zq E T sz w B S v n L vs k):∀ g,v.ownBlock=some g→B≤g∧g<w.heap.size:=by
 obtain ⟨h0,us,h1,h2,h3⟩:=h;exact World.ownsRow.lt h2
theorem Zq.free (h:Zq E T sz w B S (.slice (some ⟨g,0,none⟩) n c) n L vs k) (j:Nat):w.frozen? ⟨g,j,none⟩=false:=by
 obtain ⟨h0,us,h1,h2,h3⟩:=h;exact h2.frozenAt j
theorem Zq.form (h:Zq E T sz w B S v n L vs k) (hn:0<n):∃ g c,v=.slice (some ⟨g,0,none⟩) n c:=by
 obtain ⟨h0,us,h1,h2,h3⟩:=h
 rcases h2.2 with ⟨rfl,e0⟩ | ⟨g,cap,cur,rfl,_⟩
 ·omega
 ·exact ⟨g,cap,rfl⟩
theorem Zq.old (h:Zq E T sz w B S (.slice (some ⟨g,0,none⟩) n c) n L vs k) {j:Nat}(hj:k*sz≤j) (hj2:j<n*sz):w.cell? ⟨g,j,none⟩=vs[j]?:=by
 obtain ⟨h0,us,h1,h2,h3⟩:=h;rw [h2.cellAt j hj2,List.getElem?_append_right (by omega),List.getElem?_drop]
 congr 1
 omega
theorem H7 {us vs:List Value}{k:Nat}{u:Value}(h:us.length=k) (hk:k<vs.length):(us++vs.drop k).set k u=(us++[u])++vs.drop (k+1):=by
 rw [List.set_append_right _ _ (by omega),h,Nat.sub_self,List.drop_eq_getElem_cons hk,List.set_cons_zero,List.append_assoc]
 rfl
theorem Zq.Ypi (hE:E.Ok) (h:Zq E T 1 w B S (.slice (some ⟨g,0,none⟩) n c) n L vs k) (hv:vs.length=n) {x:α}(hx:L[k]?=some x) {u:Value}(hu:E w (fun b=>S b∧(Value.slice (some ⟨g,0,none⟩) n c).ownBlock≠some b) [u] x):Zq E T 1 (w.setCell ⟨g,k,none⟩ u) B S (.slice (some ⟨g,0,none⟩) n c) n L vs (k+1):=by
 obtain ⟨h0,us,h1,h2,h3⟩:=h
 have hk:=(List.getElem?_eq_some_iff.1 hx).1
 have hs:=(World.ownsRow.stored h2 k u).1
 rw [Nat.mul_one] at h1 hs;rw [H7 h1 (by omega)] at hs
 have hm:Mv w (fun b=>S b∧(Value.slice (some ⟨g,0,none⟩) n c).ownBlock≠some b) (w.setCell ⟨g,k,none⟩ u) (fun b=>S b∧(Value.slice (some ⟨g,0,none⟩) n c).ownBlock≠some b):=Mv.set w g k u (fun hb=>hb.2 rfl)
 refine ⟨h0,us++[u],by simp [h1],by rw [Nat.mul_one]; exact hs,fun i y hi hy=>?_⟩
 rw [Nat.mul_one]
 by_cases hik:i<k
 ·have:=hE _ _ _ _ _ _ hm (h3 i y hik hy)
  rw [Nat.mul_one] at this;rw [List.drop_append_of_le_length (by omega),List.take_append_of_le_length (by rw [List.length_drop]; omega)]
  exact this
 ·obtain rfl:i=k:=by omega
  obtain rfl:x=y:=by rw [hx] at hy; exact Option.some.inj hy
  have e:((us++[u]).drop i).take 1=[u]:=by rw [← h1,List.drop_left]; rfl
  rw [e];exact hE _ _ _ _ _ _ hm hu
theorem Zq.Ysz (hE:E.Ok) (h:Zq E T 2 w B S (.slice (some ⟨g,0,none⟩) n c) n L vs k) (hv:vs.length=n*2) {x:α}(hx:L[k]?=some x) {u u' : Value}(hu:E w (fun b=>S b∧(Value.slice (some ⟨g,0,none⟩) n c).ownBlock≠some b) [u,u'] x):Zq E T 2 ((w.setCell ⟨g,k*2,none⟩ u).setCell ⟨g,k*2+1,none⟩ u') B S (.slice (some ⟨g,0,none⟩) n c) n L vs (k+1):=by
 obtain ⟨h0,us,h1,h2,h3⟩:=h
 have hk:=(List.getElem?_eq_some_iff.1 hx).1
 have hs:=(World.ownsRow.stored h2 (k*2) u).1
 rw [H7 h1 (by omega)] at hs
 have hs2:=(World.ownsRow.stored hs (k*2+1) u').1
 rw [H7 (by simp [h1]) (by omega)] at hs2
 have hm:Mv w (fun b=>S b∧(Value.slice (some ⟨g,0,none⟩) n c).ownBlock≠some b) ((w.setCell ⟨g,k*2,none⟩ u).setCell ⟨g,k*2+1,none⟩ u') (fun b=>S b∧(Value.slice (some ⟨g,0,none⟩) n c).ownBlock≠some b):=(Mv.set w g (k*2) u (fun hb=>hb.2 rfl)).trans (Mv.set _ g (k*2+1) u' (fun hb=>hb.2 rfl))
 have e2:(k+1)*2=k*2+1+1:=by omega
 refine ⟨h0,us++[u]++[u'],by simp [h1,e2],by rw [e2]; exact hs2,fun i y hi hy=>?_⟩
 by_cases hik:i<k
 ·have:=hE _ _ _ _ _ _ hm (h3 i y hik hy)
  rw [List.append_assoc,List.drop_append_of_le_length (by omega),List.take_append_of_le_length (by rw [List.length_drop]; omega)]
  exact this
 ·obtain rfl:i=k:=by omega
  obtain rfl:x=y:=by rw [hx] at hy; exact Option.some.inj hy
  have e:((us++[u]++[u']).drop (i*2)).take 2=[u,u']:=by rw [← h1,List.append_assoc,List.drop_left]; rfl
  rw [e];exact hE _ _ _ _ _ _ hm hu
end
/-! ### slices.Clone -/
theorem Ynn:(Tryz.prog.info? 9).map (fun i=>(i.zero,i.size,i.bytes))=some (some (.string ByteArray.empty),1,16):=by kernel_rfl
theorem Yfr (h:Sl w S A n c 1 vs) (hone:∀ u∈vs,u.oneCell'=true) (hn:n≤1000) :
  Calls Tryz.prog 97 #[.slice A n c] w (Yhn 9 1 n vs w):=by
 obtain ⟨i0,hi,hz0,hz1,hz2⟩:=info_parts Ynn
 rcases A with _ | ad
 ·obtain rfl:=h.void rfl
  obtain rfl:n=0:=by have:=h.cap; omega
  obtain rfl:vs=[]:=List.eq_nil_of_length_eq_zero (by have:=h.len; omega)
  have q:∀ W,(binOp .eql 23 (.slice none 0 0) (.slice none 0 0)).run Tryz.prog W=.ok (.bool true) W:=fun W=>Lib.run_eql_slice_nil W _ _ none 0 0 0 0 Tryz.underlying23
  go_enter Tryz.func97,Tryz.ntmps97;go_wp2;go_ret;exact ⟨none,0,rfl,World.ownsRow_nil _ _ _ _,Below.refl _ _⟩
 ·have q:∀ W,(binOp .eql 23 (.slice (some ad) n c) (.slice none 0 0)).run Tryz.prog W=.ok (.bool false) W:=fun W=>Lib.run_eql_slice_nil W _ _ (some ad) n c 0 0 Tryz.underlying23
  have hcells:Hid (∀ j u,vs[j]?=some u→(w.alloc (.cells #[] 9)).cell? (ad.add j)=some u):=hid fun j u hu=>by
   have hpos:0<n:=by
    have h1:=(List.getElem?_eq_some_iff.1 hu).1
    have h2:=h.len
    omega
   obtain ⟨b,o,e,_,hl,hc⟩:=(h.mv (Mv.alloc w (.cells #[] 9) S)).has hpos;injection e with e
   subst e;rw [Yt];exact hc j u hu
  have hl:=hid h.len
  clear h;go_enter Tryz.func97,Tryz.ntmps97;go_wp2_with (at_builtin; refine wpList_append_own_at _ rfl _ _ 23 rfl w.heap.size 9 i0 _ 1 16 Tryz.underlying23 hi hz0 hz1 hz2 rfl (by decide) _ 0 [] rfl (O0 w _ _) ad n c vs rfl hl.out hcells.out hone (by unfold maxLen; omega) (by omega) (by simp) ?_)
  intro v2 w2 hO hG hnil _
  have hB2:Below w.heap.size w w2:=⟨hG.os,hG.tape,hG.output,Nat.le_trans (by simp) hG.size,fun k hk=>(hG.block k (by simp; omega) (fun e=>by simp [Value.ownBlock] at e; omega)).trans (Below.heap_alloc w _ k hk)⟩
  obtain ⟨A2,c2,rfl,_⟩:=Sl.Et hO
  have hF:=hid (show w2.ownsRow w.heap.size 9 1 (.slice A2 n c2) n vs∧Below w.heap.size w w2 from ⟨hO,hB2⟩)
  clear hO hG hnil hB2 hcells;go_wp2;go_ret;exact ⟨A2,c2,rfl,hF.out.1,hF.out.2⟩
theorem Ynl:(Tryz.prog.info? 27).map (fun i=>(i.zero,i.size,i.bytes))=some (some (.slice none 0 0),1,24):=by kernel_rfl
theorem Yfo (h:Sl w S A n c 1 vs) (hone:∀ u∈vs,u.oneCell'=true) (hn:n≤1000) :
  Calls Tryz.prog 98 #[.slice A n c] w (Yhn 27 1 n vs w):=by
 obtain ⟨i0,hi,hz0,hz1,hz2⟩:=info_parts Ynl
 rcases A with _ | ad
 ·obtain rfl:=h.void rfl
  obtain rfl:n=0:=by have:=h.cap; omega
  obtain rfl:vs=[]:=List.eq_nil_of_length_eq_zero (by have:=h.len; omega)
  have q:∀ W,(binOp .eql 24 (.slice none 0 0) (.slice none 0 0)).run Tryz.prog W=.ok (.bool true) W:=fun W=>Lib.run_eql_slice_nil W _ _ none 0 0 0 0 Tryz.underlying24
  go_enter Tryz.func98,Tryz.ntmps98;go_wp2;go_ret;exact ⟨none,0,rfl,World.ownsRow_nil _ _ _ _,Below.refl _ _⟩
 ·have q:∀ W,(binOp .eql 24 (.slice (some ad) n c) (.slice none 0 0)).run Tryz.prog W=.ok (.bool false) W:=fun W=>Lib.run_eql_slice_nil W _ _ (some ad) n c 0 0 Tryz.underlying24
  have hcells:Hid (∀ j u,vs[j]?=some u→(w.alloc (.cells #[] 27)).cell? (ad.add j)=some u):=hid fun j u hu=>by
   have hpos:0<n:=by
    have h1:=(List.getElem?_eq_some_iff.1 hu).1
    have h2:=h.len
    omega
   obtain ⟨b,o,e,_,hl,hc⟩:=(h.mv (Mv.alloc w (.cells #[] 27) S)).has hpos;injection e with e
   subst e;rw [Yt];exact hc j u hu
  have hl:=hid h.len
  clear h;go_enter Tryz.func98,Tryz.ntmps98;go_wp2_with (at_builtin; refine wpList_append_own_at _ rfl _ _ 24 rfl w.heap.size 27 i0 _ 1 24 Tryz.underlying24 hi hz0 hz1 hz2 rfl (by decide) _ 0 [] rfl (O0 w _ _) ad n c vs rfl hl.out hcells.out hone (by unfold maxLen; omega) (by omega) (by simp) ?_)
  intro v2 w2 hO hG hnil _
  have hB2:Below w.heap.size w w2:=⟨hG.os,hG.tape,hG.output,Nat.le_trans (by simp) hG.size,fun k hk=>(hG.block k (by simp; omega) (fun e=>by simp [Value.ownBlock] at e; omega)).trans (Below.heap_alloc w _ k hk)⟩
  obtain ⟨A2,c2,rfl,_⟩:=Sl.Et hO
  have hF:=hid (show w2.ownsRow w.heap.size 27 1 (.slice A2 n c2) n vs∧Below w.heap.size w w2 from ⟨hO,hB2⟩)
  clear hO hG hnil hB2 hcells;go_wp2;go_ret;exact ⟨A2,c2,rfl,hF.out.1,hF.out.2⟩
theorem Ynk:(Tryz.prog.info? 54).map (fun i=>(i.zero,i.size,i.bytes))=some (some (.agg #[.string ByteArray.empty,.slice none 0 0]),2,40):=by kernel_rfl
theorem Yfm (h:Sl w S A n c 2 vs) (hone:∀ u∈vs,u.oneCell'=true) (hn:n≤1000) :
  Calls Tryz.prog 95 #[.slice A n c] w (Yhn 54 2 n vs w):=by
 obtain ⟨i0,hi,hz0,hz1,hz2⟩:=info_parts Ynk
 rcases A with _ | ad
 ·obtain rfl:=h.void rfl
  obtain rfl:n=0:=by have:=h.cap; omega
  obtain rfl:vs=[]:=List.eq_nil_of_length_eq_zero (by have:=h.len; omega)
  have q:∀ W,(binOp .eql 22 (.slice none 0 0) (.slice none 0 0)).run Tryz.prog W=.ok (.bool true) W:=fun W=>Lib.run_eql_slice_nil W _ _ none 0 0 0 0 Tryz.underlying22
  go_enter Tryz.func95,Tryz.ntmps95;go_wp2;go_ret;exact ⟨none,0,rfl,World.ownsRow_nil _ _ _ _,Below.refl _ _⟩
 ·have q:∀ W,(binOp .eql 22 (.slice (some ad) n c) (.slice none 0 0)).run Tryz.prog W=.ok (.bool false) W:=fun W=>Lib.run_eql_slice_nil W _ _ (some ad) n c 0 0 Tryz.underlying22
  have hcells:Hid (∀ j u,vs[j]?=some u→(w.alloc (.cells #[] 54)).cell? (ad.add j)=some u):=hid fun j u hu=>by
   have hpos:0<n:=by
    have h1:=(List.getElem?_eq_some_iff.1 hu).1
    have h2:=h.len
    omega
   obtain ⟨b,o,e,_,hl,hc⟩:=(h.mv (Mv.alloc w (.cells #[] 54) S)).has hpos;injection e with e
   subst e;rw [Yt];exact hc j u hu
  have hl:=hid h.len
  clear h;go_enter Tryz.func95,Tryz.ntmps95;go_wp2_with (at_builtin; refine wpList_append_own_at _ rfl _ _ 22 rfl w.heap.size 54 i0 _ 2 40 Tryz.underlying22 hi hz0 hz1 hz2 rfl (by decide) _ 0 [] rfl (O0 w _ _) ad n c vs rfl hl.out hcells.out hone (by unfold maxLen; omega) (by omega) (by simp) ?_)
  intro v2 w2 hO hG hnil _
  have hB2:Below w.heap.size w w2:=⟨hG.os,hG.tape,hG.output,Nat.le_trans (by simp) hG.size,fun k hk=>(hG.block k (by simp; omega) (fun e=>by simp [Value.ownBlock] at e; omega)).trans (Below.heap_alloc w _ k hk)⟩
  obtain ⟨A2,c2,rfl,_⟩:=Sl.Et hO
  have hF:=hid (show w2.ownsRow w.heap.size 54 2 (.slice A2 n c2) n vs∧Below w.heap.size w w2 from ⟨hO,hB2⟩)
  clear hO hG hnil hB2 hcells;go_wp2;go_ret;exact ⟨A2,c2,rfl,hF.out.1,hF.out.2⟩
theorem Ydc:(Tryz.prog.info? 91).map (fun i=>(i.zero,i.size,i.bytes))=some (some (.pointer none),1,8):=by kernel_rfl
theorem Yfq (h:Sl w S A n c 1 vs) (hone:∀ u∈vs,u.oneCell'=true) (hn:n≤1000) :
  Calls Tryz.prog 74 #[.slice A n c] w (Yhn 91 1 n vs w):=by
 obtain ⟨i0,hi,hz0,hz1,hz2⟩:=info_parts Ydc
 rcases A with _ | ad
 ·obtain rfl:=h.void rfl
  obtain rfl:n=0:=by have:=h.cap; omega
  obtain rfl:vs=[]:=List.eq_nil_of_length_eq_zero (by have:=h.len; omega)
  have q:∀ W,(binOp .eql 79 (.slice none 0 0) (.slice none 0 0)).run Tryz.prog W=.ok (.bool true) W:=fun W=>Lib.run_eql_slice_nil W _ _ none 0 0 0 0 Tryz.underlying79
  go_enter Tryz.func74,Tryz.ntmps74;go_wp2;go_ret;exact ⟨none,0,rfl,World.ownsRow_nil _ _ _ _,Below.refl _ _⟩
 ·have q:∀ W,(binOp .eql 79 (.slice (some ad) n c) (.slice none 0 0)).run Tryz.prog W=.ok (.bool false) W:=fun W=>Lib.run_eql_slice_nil W _ _ (some ad) n c 0 0 Tryz.underlying79
  have hcells:Hid (∀ j u,vs[j]?=some u→(w.alloc (.cells #[] 91)).cell? (ad.add j)=some u):=hid fun j u hu=>by
   have hpos:0<n:=by
    have h1:=(List.getElem?_eq_some_iff.1 hu).1
    have h2:=h.len
    omega
   obtain ⟨b,o,e,_,hl,hc⟩:=(h.mv (Mv.alloc w (.cells #[] 91) S)).has hpos;injection e with e
   subst e;rw [Yt];exact hc j u hu
  have hl:=hid h.len
  clear h;go_enter Tryz.func74,Tryz.ntmps74;go_wp2_with (at_builtin; refine wpList_append_own_at _ rfl _ _ 79 rfl w.heap.size 91 i0 _ 1 8 Tryz.underlying79 hi hz0 hz1 hz2 rfl (by decide) _ 0 [] rfl (O0 w _ _) ad n c vs rfl hl.out hcells.out hone (by unfold maxLen; omega) (by omega) (by simp) ?_)
  intro v2 w2 hO hG hnil _
  have hB2:Below w.heap.size w w2:=⟨hG.os,hG.tape,hG.output,Nat.le_trans (by simp) hG.size,fun k hk=>(hG.block k (by simp; omega) (fun e=>by simp [Value.ownBlock] at e; omega)).trans (Below.heap_alloc w _ k hk)⟩
  obtain ⟨A2,c2,rfl,_⟩:=Sl.Et hO
  have hF:=hid (show w2.ownsRow w.heap.size 91 1 (.slice A2 n c2) n vs∧Below w.heap.size w w2 from ⟨hO,hB2⟩)
  clear hO hG hnil hB2 hcells;go_wp2;go_ret;exact ⟨A2,c2,rfl,hF.out.1,hF.out.2⟩
theorem Ynm:(Tryz.prog.info? 78).map (fun i=>(i.zero,i.size,i.bytes))=some (some (.pointer none),1,8):=by kernel_rfl
end
theorem B6 {L:List Txt} (h:Row Yy 1 w S A n c L) (hn:n≤1000) (hL:∀ x∈L,x.length≤1000) :
  Calls Tryz.prog 68 #[.slice A n c,.func (.func 67) #[] #[]] w (Told Yy 9 1 w L):=by
 obtain ⟨vs,hvs,hS⟩:=h.Ymd (G:=Xp) fun _ _ _ _ e=>e
 have hlen:=hid h.len
 have hvl:Hid (vs.length=n*1):=hid hS.len
 have hone:∀ u∈vs,u.oneCell'=true:=by
  subst hvs;intro u hu;obtain ⟨x,_,rfl⟩:=List.mem_map.1 hu;rfl
 have HC:=hid (Yfr hS hone hn)
 have HR:Hid (Row Yy 1 w (fun b=>S b∧b<w.heap.size) A n c L):=hid (h.mv Yp (Mv.to w fun b hb hl=>⟨hb,hl⟩))
 have HS:∀ b,(S b∧b<w.heap.size)→b<w.heap.size:=fun b hb=>hb.2
 have HL:=hid hL
 have hnm:=h.Yn
 clear h hS hone hL hvs;go_enter Tryz.func68,Tryz.ntmps68;go_wp2_with fail;refine HC.out.mono ?_;rintro e w1 ⟨Ac,cc,rfl,hO,hB1⟩
 have hM:=hid (Zq.begin (E:=Yy) (S:=fun b=>w.heap.size≤b) hO hlen.out)
 clear hO HC;go_wp2_with fail;go_loopw [12] (fun i wr=>∃ k:Nat,k≤n∧i=.int .i64 k∧Hid (Zq Yy 9 1 wr w.heap.size (fun b=>w.heap.size≤b) (.slice Ac n cc) n L vs k)∧Below w.heap.size w wr) (fun i _=>n - (intOf i).toNat)
 case atStart=>exact ⟨0,Nat.zero_le _,rfl,hM,hB1⟩
 case round =>
  obtain ⟨k,hk,rfl,hO,hB⟩:=hrel
  by_cases hlt:k<n
  ·obtain ⟨b,o,us,x,rfl,_,_,_,hcell,hx,he⟩:=(HR.out.mv Yp (Mv.below hB HS)).at_ hlt
   have hx:us=[Xp x]:=hx
   subst hx
   have g0:wr.cell? ⟨b,o+k,none⟩=some (.string ⟨x.toArray⟩):=by
    have:=hcell 0 _ rfl
    rwa [Nat.mul_one,Nat.add_zero] at this
   obtain ⟨g,cg,eg⟩:=hO.out.form (by omega)
   injection eg with eg1 eg2 eg3
   subst eg1 eg3
   have i0:(0:Int)≤(k:Int):=by omega
   have i1:(k:Int)<(n:Int):=by omega
   have HX:=hid (Np ⟨x.toArray⟩ wr (by
    have:=HL.out x (List.mem_of_getElem? he.out)
    show x.toArray.size≤_
    simp; omega))
   clear hcell;go_wp2_with fail;refine HX.out.mono ?_;rintro e w5 ⟨rfl,hb5⟩
   have hO5:=hO.out.below Yp hb5
   obtain ⟨y,hy⟩ : ∃ y,vs[k]?=some y:=⟨_,List.getElem?_eq_getElem (by rw [hvl.out]; omega)⟩
   have c0:w5.cell? ⟨g,k,none⟩=some y:=(hO5.old (j:=k) (by omega) (by omega)).trans hy
   have f0:=hO5.free k
   have hgl:=(hO5.lt g rfl).1
   have hF:=hid (show Zq Yy 9 1 (w5.setCell ⟨g,k,none⟩ (.string ⟨x.toArray⟩)) w.heap.size (fun b=>w.heap.size≤b) (.slice (some ⟨g,0,none⟩) n cc) n L vs (k+1)∧Below w.heap.size w (w5.setCell ⟨g,k,none⟩ (.string ⟨x.toArray⟩)) from ⟨hO5.Ypi Yp (by rw [hvl.out,Nat.mul_one]) he.out rfl,(hB.trans (hb5.mono hB.size)).setCell (p:=⟨g,k,none⟩) hgl _⟩)
   clear hO5 hO hB hb5 HX hy;go_wp2_with fail;go_roundw
   case rel=>exact ⟨k+1,by omega,by go_num,hid hF.out.1,hF.out.2⟩
   case measure=>simp [intOf]; omega
  ·have hF:=hid (show Ys Yy 9 1 wr w.heap.size (fun b=>w.heap.size≤b) (.slice Ac n cc) L∧Below w.heap.size w wr from ⟨hO.out.end_ (by omega) hvl.out,hB⟩)
   clear hO hB;go_wp2_with fail;go_ret;exact ⟨_,rfl,hF.out.1,hF.out.2⟩
theorem Ygf {L:List (List Int)} (h:Row (Zf Yr 1) 1 w S A n c L):∃ vs,Sl w S A n c 1 vs∧∀ u∈vs,u.oneCell'=true:=by
 obtain ⟨h0,vs,h1,h2⟩:=h;refine ⟨vs,h1,fun u hu=>?_⟩
 obtain ⟨i,hi⟩:=List.getElem?_of_mem hu
 have hil:=(List.getElem?_eq_some_iff.1 hi).1
 have hlen:=h1.len
 obtain ⟨A',n',c',e,_⟩:=h2 i _ (List.getElem?_eq_getElem (by omega))
 have e2:=congrArg (fun l=>l[0]?) e
 simp only [Nat.mul_one,List.getElem?_take,List.getElem?_drop,Nat.lt_one_iff,if_true,Nat.add_zero,List.getElem?_cons_zero] at e2;rw [hi] at e2;injection e2 with e2
 rw [e2];rfl
theorem Yk3 {L:List (List Int)} (h:Row (Zf Yr 1) 1 w S A n c L) (hn:n≤1000) (hL:∀ x∈L,x.length≤1000) :
  Calls Tryz.prog 69 #[.slice A n c,.func (.func 37) #[] #[]] w (Told (Vg Yr 3 1) 27 1 w L):=by
 obtain ⟨vs,hS,hone⟩:=Ygf h
 have hlen:=hid h.len
 have hvl:Hid (vs.length=n*1):=hid hS.len
 have HC:=hid (Yfo hS hone hn)
 have HR:Hid (Row (Zf Yr 1) 1 w (fun b=>S b∧b<w.heap.size) A n c L):=hid (h.mv (Xm Yh) (Mv.to w fun b hb hl=>⟨hb,hl⟩))
 have HS:∀ b,(S b∧b<w.heap.size)→b<w.heap.size:=fun b hb=>hb.2
 have HL:=hid hL
 have hnm:=h.Yn
 clear h hS hone hL;go_enter Tryz.func69,Tryz.ntmps69;go_wp2_with fail;refine HC.out.mono ?_;rintro e w1 ⟨Ac,cc,rfl,hO,hB1⟩
 have hM:=hid (Zq.begin (E:=Vg Yr 3 1) (S:=fun b=>w.heap.size≤b) hO hlen.out)
 clear hO HC;go_wp2_with fail;go_loopw [12] (fun i wr=>∃ k:Nat,k≤n∧i=.int .i64 k∧Hid (Zq (Vg Yr 3 1) 27 1 wr w.heap.size (fun b=>w.heap.size≤b) (.slice Ac n cc) n L vs k)∧Below w.heap.size w wr) (fun i _=>n - (intOf i).toNat)
 case atStart=>exact ⟨0,Nat.zero_le _,rfl,hM,hB1⟩
 case round =>
  obtain ⟨k,hk,rfl,hO,hB⟩:=hrel
  by_cases hlt:k<n
  ·obtain ⟨b,o,A',n',c',x,rfl,_,_,g0,hl,he⟩:=(HR.out.mv (Xm Yh) (Mv.below hB HS)).at1 hlt
   obtain ⟨g,cg,eg⟩:=hO.out.form (by omega)
   injection eg with eg1 eg2 eg3
   subst eg1 eg3
   have i0:(0:Int)≤(k:Int):=by omega
   have i1:(k:Int)<(n:Int):=by omega
   have HX:=hid (V9 hl.Qr (by
    have:=HL.out x (List.mem_of_getElem? he.out)
    have:=hl.len
    omega))
   clear hl;go_wp2_with fail;refine HX.out.mono ?_;rintro e w5 ⟨⟨v,rfl,hv⟩,hb5⟩
   have hO5:=hO.out.below (Zw Yh) hb5
   have hlo:=hO.out.lt
   have hz:=hB.size
   have hE:=Ys.el Yh (hv.Yk6 (S:=fun k=>wr.heap.size≤k)) (u:=.slice (some ⟨g,0,none⟩) n cc) (fun k e=>(hlo k e).2) hz
   obtain ⟨Av,cv,rfl,_⟩:=hv.form;obtain ⟨y,hy⟩ : ∃ y,vs[k]?=some y:=⟨_,List.getElem?_eq_getElem (by rw [hvl.out]; omega)⟩
   have c0:w5.cell? ⟨g,k,none⟩=some y:=(hO5.old (j:=k) (by omega) (by omega)).trans hy
   have f0:=hO5.free k
   have hgl:=(hO5.lt g rfl).1
   have hF:=hid (show Zq (Vg Yr 3 1) 27 1 (w5.setCell ⟨g,k,none⟩ (.slice Av x.length cv)) w.heap.size (fun b=>w.heap.size≤b) (.slice (some ⟨g,0,none⟩) n cc) n L vs (k+1)∧Below w.heap.size w (w5.setCell ⟨g,k,none⟩ (.slice Av x.length cv)) from ⟨hO5.Ypi (Zw Yh) (by rw [hvl.out,Nat.mul_one]) he.out hE,(hB.trans (hb5.mono hB.size)).setCell (p:=⟨g,k,none⟩) hgl _⟩)
   clear hO5 hO hB hb5 HX hy hv hE hlo;go_wp2_with fail;go_roundw
   case rel=>exact ⟨k+1,by omega,by go_num,hid hF.out.1,hF.out.2⟩
   case measure=>simp [intOf]; omega
  ·have hF:=hid (show Ys (Vg Yr 3 1) 27 1 wr w.heap.size (fun b=>w.heap.size≤b) (.slice Ac n cc) L∧Below w.heap.size w wr from ⟨hO.out.end_ (by omega) hvl.out,hB⟩)
   clear hO hB;go_wp2_with fail;go_ret;exact ⟨_,rfl,hF.out.1,hF.out.2⟩
abbrev Tb:ElT Yg:=Ua Yy 1 (Vg Yy 9 1)
theorem Z6:Tb.Ok:=Vo Yp (Zw Yp)
theorem Ycv {us:List Value}{d:Yg} (h:Tb w S us d):Po w S us d:=⟨h.1,Og Yp (fun _ _ h=>h) h.2⟩
theorem Yjj (h:Row Po 2 w S A n c L):∃ vs,Sl w S A n c 2 vs∧∀ u∈vs,u.oneCell'=true:=by
 obtain ⟨h0,vs,h1,h2⟩:=h;refine ⟨vs,h1,fun u hu=>?_⟩
 obtain ⟨i,hi⟩:=List.getElem?_of_mem hu
 have hil:=(List.getElem?_eq_some_iff.1 hi).1
 have hlen:=h1.len
 obtain ⟨h3,A',n',c',h4,_⟩:=h2 (i / 2) _ (List.getElem?_eq_getElem (by omega))
 have e3:((vs.drop (i / 2*2)).take 2).take 1=[Xp _]:=h3
 have e1:=congrArg (fun l=>l[0]?) e3
 have e2:=congrArg (fun l=>l[0]?) h4
 simp at e1 e2
 rcases Nat.mod_two_eq_zero_or_one i with h | h
 ·have:i / 2*2=i:=by omega
  rw [this,hi] at e1;injection e1 with e1
  rw [e1]; rfl
 ·have:i / 2*2+1=i:=by omega
  rw [this,hi] at e2;injection e2 with e2
  rw [e2]; rfl
theorem Yka:(Tryz.prog.info? 54).map (·.size)=some 2:=by kernel_rfl
def Yp4 (w:World) (d:Yg) (e:Ending) (w' : World):Prop :=
 ∃ A n c,e=.returned (.agg #[.string ⟨d.1.toArray⟩,.slice A n c])∧Tb w' (fun k=>w.heap.size≤k) [.string ⟨d.1.toArray⟩,.slice A n c] d∧Below w.heap.size w w'
theorem Yct {L:List Txt} (h:Row Yy 1 w S A n c L) (hn:n≤1000) (hx:x.length≤1000) (hL:∀ s∈L,s.length≤1000) :
  Calls Tryz.prog 66 #[.agg #[.string ⟨x.toArray⟩,.slice A n c]] w (Yp4 w (x,L)):=by
 have hb0:=(Ya w (.cells #[.string ⟨x.toArray⟩,.slice A n c] 54))
 have hb1:=Yb hb0 (Ya (w.alloc (.cells #[.string ⟨x.toArray⟩,.slice A n c] 54)) (.cells #[.string ⟨#[]⟩,.slice none 0 0] 54))
 have hbl:=(Block.new w 54 #[.string ⟨x.toArray⟩,.slice A n c]).alloc (.cells #[.string ⟨#[]⟩,.slice none 0 0] 54)
 have hbr:=Block.new (w.alloc (.cells #[.string ⟨x.toArray⟩,.slice A n c] 54)) 54 #[.string ⟨#[]⟩,.slice none 0 0]
 have hq1:=hid (h.mv Yp (Mv.Yc hb1 S))
 have hsz:(w.alloc (.cells #[.string ⟨x.toArray⟩,.slice A n c] 54)).heap.size=w.heap.size+1:=by simp
 have HN:=hid hn
 have HL:=hid hL
 have HXl:Hid ((⟨x.toArray⟩ : ByteArray).size≤281474976710656):=hid (by show x.toArray.size≤_; simp; omega)
 clear h hb0 hn hL;go_enter Tryz.func66,Tryz.ntmps66;go_wp2_with fail;rw [hsz] at hbr;generalize (w.alloc (.cells #[.string ⟨x.toArray⟩,.slice A n c] 54)).alloc (.cells #[.string ⟨#[]⟩,.slice none 0 0] 54)=W at hb1 hbl hbr hq1 ⊢;clear hsz
 have K:Hid (∀ y,Below W.heap.size W y→y.cell? ⟨w.heap.size,0,none⟩=some (.string ⟨x.toArray⟩)∧y.cell? ⟨w.heap.size,1,none⟩=some (.slice A n c)):=hid fun y hy=>⟨(hbl.below hy hbl.lt).cell 0,(hbl.below hy hbl.lt).cell 1⟩
 have k0:W.cell? ⟨w.heap.size,0,none⟩=some (.string ⟨x.toArray⟩):=hbl.cell 0
 have k1:W.cell? ⟨w.heap.size,1,none⟩=some (.slice A n c):=hbl.cell 1
 have HbR:=hid hbr
 have HR:=hid (fun y (hy:Below W.heap.size W y)=>hbr.below hy hbr.lt)
 have HW:=hid hb1.size
 have HC:=hid (Np ⟨x.toArray⟩ W.drew HXl.out)
 clear hbl hbr;go_region_held3 (fun w'=>w'.cell? ⟨w.heap.size,0,none⟩=some (.string ⟨x.toArray⟩)∧w'.cell? ⟨w.heap.size,1,none⟩=some (.slice A n c))
  (first
   | go_keep
   | exact K.out _ hBB2
   | exact K.out _ hBB1)
  (first
   | (go_at_call 67; refine HC.out.mono ?_; rintro e w1 ⟨rfl,hB1⟩; have hBB1:Below W.heap.size W w1:=((below_drewN (Below.refl _ W) 1).trans hB1))
   | (go_at_call 68; refine (B6 (hq1.out.mv Yp (Mv.Yc hBB1 S)) HN.out HL.out).mono ?_; rintro e w2 ⟨v2,rfl,hO2,hB2⟩; obtain ⟨B2,d2,rfl⟩:=hO2.shape; have hBB2:=hBB1.trans (hB2.mono hBB1.size); have hr2:=HR.out _ hBB2; have d0:w2.cell? ⟨w.heap.size+1,0,none⟩=some (.string ⟨#[]⟩):=hr2.cell 0; have d1' : w2.cell? ⟨w.heap.size+1,1,none⟩=some (.slice none 0 0):=hr2.cell 1; have f0:=hr2.free 0; have f1:=hr2.free 1))
 have hr2':=HR.out _ hBB2
 have hlt:=HbR.out.lt
 have hns:¬ W.heap.size≤w.heap.size+1:=by omega
 have e2:Vg Yy 9 1 w2 (fun k=>W.heap.size≤k) [.slice B2 L.length d2] L:=Zw Yp _ _ _ _ _ _ (Mv.to w2 fun b hb _=>Nat.le_trans hBB1.size hb) (⟨_,rfl,hO2.low (Nat.zero_le _),fun k hk=>(hO2.lt k hk).1⟩)
 have m2:=Mv.trans (Mv.set w2 (w.heap.size+1) 0 (.string ⟨x.toArray⟩) hns) (Mv.set (w2.setCell ⟨w.heap.size+1,0,none⟩ (.string ⟨x.toArray⟩)) (w.heap.size+1) 1 (.slice B2 L.length d2) hns)
 have m3:=Mv.trans m2 (Mv.to _ (S':=fun k=>w.heap.size≤k) fun b hb _=>Nat.le_trans HW.out hb)
 have hF:=hid (show Tb ((w2.setCell ⟨w.heap.size+1,0,none⟩ (.string ⟨x.toArray⟩)).setCell ⟨w.heap.size+1,1,none⟩ (.slice B2 L.length d2)) (fun k=>w.heap.size≤k) [.string ⟨x.toArray⟩,.slice B2 L.length d2] (x,L) from ⟨rfl,Zw Yp _ _ _ _ _ _ m3 e2⟩)
 have hG:=hid (((hb1.trans (hBB2.mono hb1.size)).setCell (p:=⟨w.heap.size+1,0,none⟩) (Nat.le_succ _) (.string ⟨x.toArray⟩)).setCell (p:=⟨w.heap.size+1,1,none⟩) (Nat.le_succ _) (.slice B2 L.length d2))
 have hR:=hid ((hr2'.Yo 0 (.string ⟨x.toArray⟩)).Yo 1 (.slice B2 L.length d2))
 clear e2 m2 m3 hO2 hB1 hB2 hBB1 hBB2 hr2 hr2' d0 d1' f0 f1 K HR HbR hb1 k0 k1;go_wp2_with fail;refine bodyPost_ret (Za rfl _ _ (w.heap.size+1) _ _ rfl hR.out Tryz.underlying54 rfl Yka) rfl ?_;exact ⟨B2,_,d2,rfl,hF.out,hG.out⟩
theorem Yhy (w:World) (x y:Value):Block (w.alloc (.cells #[x,y] 54)) w.heap.size 54 #[x,y]:=Block.new w _ _
def Ylx (d:Yg):Prop:=d.1.length≤1000∧d.2.length≤1000∧∀ s∈d.2,s.length≤1000
theorem Row.atD (h:Row Po 2 w S A n c L) {k:Nat}(hk:k<n):∃ b o A' n' c' x l,A=some ⟨b,o,none⟩∧w.cell? ⟨b,o+k*2,none⟩=some (.string ⟨x.toArray⟩)∧w.cell? ⟨b,o+k*2+1,none⟩=some (.slice A' n' c')∧Row Yy 1 w S A' n' c' l∧Hid (L[k]?=some (x,l)):=by
 obtain ⟨b,o,us,d,e,_,_,h4,hc,⟨h5,A',n',c',h6,hr⟩,he⟩:=h.at_ hk
 match us,h4 with
 | [u0,u1],_ =>
  simp only [List.take_succ_cons,List.take_zero,List.drop_succ_cons,List.drop_zero,Yy,List.cons.injEq,and_true] at h5 h6;subst h5 h6;exact ⟨b,o,A',n',c',d.1,d.2,e,hc 0 _ rfl,hc 1 _ rfl,hr,he⟩
theorem Yk2 (h:Row Po 2 w S A n c L) (hn:n≤1000) (hL:∀ d∈L,Ylx d) :
  Calls Tryz.prog 65 #[.slice A n c,.func (.func 66) #[] #[]] w (Told Tb 54 2 w L):=by
 obtain ⟨vs,hS,hone⟩:=Yjj h
 have hlen:=hid h.len
 have hvl:Hid (vs.length=n*2):=hid hS.len
 have HC:=hid (Yfm hS hone hn)
 have HR:Hid (Row Po 2 w (fun b=>S b∧b<w.heap.size) A n c L):=hid (h.mv Wy (Mv.to w fun b hb hl=>⟨hb,hl⟩))
 have HS:∀ b,(S b∧b<w.heap.size)→b<w.heap.size:=fun b hb=>hb.2
 have HL:=hid hL
 have hnm:=h.Yn
 clear h hS hone hL;go_enter Tryz.func65,Tryz.ntmps65;go_wp2_with fail;refine HC.out.mono ?_;rintro e w1 ⟨Ac,cc,rfl,hO,hB1⟩
 have hM:=hid (Zq.begin (E:=Tb) (S:=fun b=>w.heap.size≤b) hO hlen.out)
 clear hO HC;go_wp2_with fail;go_loopw [12] (fun i wr=>∃ k:Nat,k≤n∧i=.int .i64 k∧Hid (Zq Tb 54 2 wr w.heap.size (fun b=>w.heap.size≤b) (.slice Ac n cc) n L vs k)∧Below w.heap.size w wr) (fun i _=>n - (intOf i).toNat)
 case atStart=>exact ⟨0,Nat.zero_le _,rfl,hM,hB1⟩
 case round =>
  obtain ⟨k,hk,rfl,hO,hB⟩:=hrel
  by_cases hlt:k<n
  ·obtain ⟨b,o,A',n',c',x,l,rfl,g0,g1,hl,he⟩:=(HR.out.mv Wy (Mv.below hB HS)).atD hlt
   obtain ⟨g,cg,eg⟩:=hO.out.form (by omega)
   injection eg with eg1 eg2 eg3
   subst eg1 eg3
   have i0:(0:Int)≤(k:Int):=by omega
   have i1:(k:Int)<(n:Int):=by omega
   obtain ⟨s1,s2,s3⟩:=HL.out (x,l) (List.mem_of_getElem? he.out)
   have hb0:=Ya wr (.cells #[.string ⟨x.toArray⟩,.slice A' n' c'] 54)
   have hbl:=Yhy wr (.string ⟨x.toArray⟩) (.slice A' n' c')
   have HX:=hid (Yct (hl.mv Yp (Mv.Yc hb0 _)) (by have:=hl.len; have:l.length≤1000:=s2; omega) s1 s3)
   have hO0:=hid (hO.out.below Z6 hb0)
   have hB0:=hB.trans (hb0.mono hB.size)
   have d0:=hbl.cell 0
   have d1:=hbl.cell 1
   have hlo:=hO.out.lt
   have hz:=hB.size
   clear hl s1 s2 s3 hO hB;go_wp2_with fail;generalize wr.alloc (.cells #[.string ⟨x.toArray⟩,.slice A' n' c'] 54)=W at hb0 hbl HX hO0 hB0 d0 d1 ⊢;go_wp2_with fail;refine HX.out.mono ?_;rintro e w5 ⟨Av,nv,cv,rfl,hv,hb5⟩
   have hO5:=hO0.out.below Z6 hb5
   have hE:Tb w5 (fun b=>w.heap.size≤b∧(Value.slice (some ⟨g,0,none⟩) n cc).ownBlock≠some b) [.string ⟨x.toArray⟩,.slice Av nv cv] (x,l):=Z6 _ _ _ _ _ _ (Mv.to w5 fun b hb _=>⟨Nat.le_trans hB0.size hb,fun e=>by have:=(hlo b e).2; have:=hb0.size; omega⟩) hv
   obtain ⟨y,hy⟩ : ∃ y,vs[k*2]?=some y:=⟨_,List.getElem?_eq_getElem (by rw [hvl.out]; omega)⟩
   obtain ⟨y',hy'⟩ : ∃ y,vs[k*2+1]?=some y:=⟨_,List.getElem?_eq_getElem (by rw [hvl.out]; omega)⟩
   have c0:w5.cell? ⟨g,k*2,none⟩=some y:=(hO5.old (j:=k*2) (by omega) (by omega)).trans hy
   have c1:w5.cell? ⟨g,k*2+1,none⟩=some y':=(hO5.old (j:=k*2+1) (by omega) (by omega)).trans hy'
   have f0:=hO5.free (k*2)
   have f1:=hO5.free (k*2+1)
   have hgl:=(hO5.lt g rfl).1
   have hF:=hid (show Zq Tb 54 2 ((w5.setCell ⟨g,k*2,none⟩ (.string ⟨x.toArray⟩)).setCell ⟨g,k*2+1,none⟩ (.slice Av nv cv)) w.heap.size (fun b=>w.heap.size≤b) (.slice (some ⟨g,0,none⟩) n cc) n L vs (k+1)∧Below w.heap.size w ((w5.setCell ⟨g,k*2,none⟩ (.string ⟨x.toArray⟩)).setCell ⟨g,k*2+1,none⟩ (.slice Av nv cv)) from ⟨hO5.Ysz Z6 hvl.out he.out hE,((hB0.trans (hb5.mono hB0.size)).setCell (p:=⟨g,k*2,none⟩) hgl _).setCell (p:=⟨g,k*2+1,none⟩) hgl _⟩)
   clear hO5 hO0 hB0 hb5 HX hy hy' hv hE hlo hb0 hbl;go_wp2_with fail;go_roundw
   case rel=>exact ⟨k+1,by omega,by go_num,hid hF.out.1,hF.out.2⟩
   case measure=>simp [intOf]; omega
  ·have hF:=hid (show Ys Tb 54 2 wr w.heap.size (fun b=>w.heap.size≤b) (.slice Ac n cc) L∧Below w.heap.size w wr from ⟨hO.out.end_ (by omega) hvl.out,hB⟩)
   clear hO hB;go_wp2_with fail;go_ret;exact ⟨_,rfl,hF.out.1,hF.out.2⟩
/-! ### a schema's copy -/
structure Yly (D:List Yg) (M:List Txt) (V:List (List Int)):Prop where
 d:D.length≤1000∧∀ d∈D,Ylx d
 m:M.length≤1000∧∀ s∈M,s.length≤1000
 v:V.length≤1000∧∀ v∈V,v.length≤1000
theorem S8 (h:Z3 D M V):Yly D M V:=by
 obtain ⟨⟨h1,h2⟩,h3,h4⟩:=h
 have nm:∀ s:Txt,Zx s→s.length≤1000:=fun s hs=>by have:=hs.2.1; omega
 refine ⟨⟨?_,fun d hd=>⟨?_,?_,fun s hs=>nm s ((h1 d hd).2.2.1 s hs)⟩⟩,⟨?_,fun s hs=>nm s (h3.2.2.1 s hs)⟩,?_,fun v hv=>?_⟩
 ·have:=h2.2.1; rw [List.length_map] at this; omega
 ·exact nm _ (h2.2.2.1 _ (List.mem_map.2 ⟨d,hd,rfl⟩))
 ·have:=(h1 d hd).2.1; omega
 ·have:=h3.2.1; omega
 ·have:=h4.1; omega
 ·have h5:=(h4.2.1 v hv).1
  have h6:=h2.2.1
  rw [List.length_map] at h6;omega
structure Yb3 (w:World) (B:Nat) (v1 v2 v3:Value) (D:List Yg) (M:List Txt) (V:List (List Int)):Prop where
 d:Ys Tb 54 2 w B (fun k=>B≤k) v1 D
 m:Ys Yy 9 1 w B (fun k=>B≤k) v2 M
 v:Ys (Vg Yr 3 1) 27 1 w B (fun k=>B≤k) v3 V
theorem Row.imp {α:Type}{E E':ElT α}{L:List α} (h:Row E sz w S A n c L) (hE:∀ us x,E w S us x→E' w S us x):Row E' sz w S A n c L:=h.map hE
theorem Yb3.read {v1 v2 v3:Value} (h:Yb3 w B v1 v2 v3 D M V):∃ A1 c1 A2 c2 A3 c3,v1=.slice A1 D.length c1∧v2=.slice A2 M.length c2∧v3=.slice A3 V.length c3∧Wm w (fun k=>B≤k∧k<w.heap.size) A1 D.length c1 A2 M.length c2 A3 V.length c3 D M V:=by
 obtain ⟨A1,c1,rfl,h1⟩:=h.d.read Z6;obtain ⟨A2,c2,rfl,h2⟩:=h.m.read Yp;obtain ⟨A3,c3,rfl,h3⟩:=h.v.read (Zw Yh)
 have up:∀ {v:Value},Mv w (fun k=>(B≤k)∨(B≤k∧v.ownBlock=some k)) w (fun k=>B≤k∧k<w.heap.size):=fun {v}=>Mv.to w fun b hb hl=>⟨by rcases hb with hb | hb; exact hb; exact hb.1,hl⟩
 exact ⟨A1,c1,A2,c2,A3,c3,rfl,rfl,rfl,(h1.mv Z6 up).imp fun _ _ h=>Ycv h,h2.mv Yp up,(h3.mv (Zw Yh) up).imp fun _ _ h=>Og Yh (fun _ _ h=>h) h⟩
theorem Ydg:(Tryz.prog.info? 26).map (·.size)=some 3:=by kernel_rfl
def Yl3 (w:World) (D:List Yg) (M:List Txt) (V:List (List Int)) (e:Ending) (w' : World):Prop:=(∃ v1 v2 v3,e=.returned (.agg #[v1,v2,v3])∧Yb3 w' w.heap.size v1 v2 v3 D M V)∧Below w.heap.size w w'
theorem Fb {c1 c2 c3:Nat} (h:Wm w R A1 n1 c1 A2 n2 c2 A3 n3 c3 D M V) (hs:Yly D M V) :
  Calls Tryz.prog 44 #[V6 A1 n1 c1 A2 n2 c2 A3 n3 c3] w (Yl3 w D M V):=by
 have hb0:=(Ya w (.cells #[.slice A1 n1 c1,.slice A2 n2 c2,.slice A3 n3 c3] 26))
 have hb1:=Yb hb0 (Ya (w.alloc (.cells #[.slice A1 n1 c1,.slice A2 n2 c2,.slice A3 n3 c3] 26)) (.cells #[.slice none 0 0,.slice none 0 0,.slice none 0 0] 26))
 have hbl:=(Block.new w 26 #[.slice A1 n1 c1,.slice A2 n2 c2,.slice A3 n3 c3]).alloc (.cells #[.slice none 0 0,.slice none 0 0,.slice none 0 0] 26)
 have hbr:=Block.new (w.alloc (.cells #[.slice A1 n1 c1,.slice A2 n2 c2,.slice A3 n3 c3] 26)) 26 #[.slice none 0 0,.slice none 0 0,.slice none 0 0]
 have hq1:=hid (h.Yc hb1)
 have hsz:(w.alloc (.cells #[.slice A1 n1 c1,.slice A2 n2 c2,.slice A3 n3 c3] 26)).heap.size=w.heap.size+1:=by simp
 have HS:=hid hs
 have l1:=h.d.len
 have l2:=h.m.len
 have l3:=h.v.len
 have Hl1:Hid (n1≤1000∧n2≤1000∧n3≤1000):=hid (by have:=hs.d.1; have:=hs.m.1; have:=hs.v.1; omega)
 clear h hb0 hs l1 l2 l3;go_enter Tryz.func44,Tryz.ntmps44;go_wp2_with fail;rw [hsz] at hbr;generalize (w.alloc (.cells #[.slice A1 n1 c1,.slice A2 n2 c2,.slice A3 n3 c3] 26)).alloc (.cells #[.slice none 0 0,.slice none 0 0,.slice none 0 0] 26)=W at hb1 hbl hbr hq1 ⊢;clear hsz
 have K:Hid (∀ y,Below W.heap.size W y→y.cell? ⟨w.heap.size,0,none⟩=some (.slice A1 n1 c1)∧y.cell? ⟨w.heap.size,1,none⟩=some (.slice A2 n2 c2)∧y.cell? ⟨w.heap.size,2,none⟩=some (.slice A3 n3 c3)):=hid fun y hy=>⟨(hbl.below hy hbl.lt).cell 0,(hbl.below hy hbl.lt).cell 1,(hbl.below hy hbl.lt).cell 2⟩
 have k0:W.cell? ⟨w.heap.size,0,none⟩=some (.slice A1 n1 c1):=hbl.cell 0
 have k1:W.cell? ⟨w.heap.size,1,none⟩=some (.slice A2 n2 c2):=hbl.cell 1
 have k2:W.cell? ⟨w.heap.size,2,none⟩=some (.slice A3 n3 c3):=hbl.cell 2
 have HbR:=hid hbr
 have HR:=hid (fun y (hy:Below W.heap.size W y)=>hbr.below hy hbr.lt)
 have HW:=hid hb1.size
 have HC:=hid (Yk2 (hq1.out.d.mv Wy (Mv.drewN W 1 R)) Hl1.out.1 HS.out.d.2)
 clear hbl hbr;go_region_held3 (fun w'=>w'.cell? ⟨w.heap.size,0,none⟩=some (.slice A1 n1 c1)∧w'.cell? ⟨w.heap.size,1,none⟩=some (.slice A2 n2 c2)∧w'.cell? ⟨w.heap.size,2,none⟩=some (.slice A3 n3 c3))
  (first
   | go_keep
   | exact K.out _ hBB3
   | exact K.out _ hBB2
   | exact K.out _ hBB1)
  (first
   | (go_at_call 65; refine HC.out.mono ?_; rintro e w1 ⟨v1,rfl,hO1,hB1⟩; obtain ⟨B1,d1,rfl⟩:=hO1.shape; have hBB1:Below W.heap.size W w1:=((below_drewN (Below.refl _ W) 1).trans hB1))
   | (go_at_call 68; refine (B6 (hq1.out.m.mv Yp (Mv.Yc hBB1 R)) Hl1.out.2.1 HS.out.m.2).mono ?_; rintro e w2 ⟨v2,rfl,hO2,hB2⟩; obtain ⟨B2,d2,rfl⟩:=hO2.shape; have hBB2:=hBB1.trans (hB2.mono hBB1.size))
   | (go_at_call 69; refine (Yk3 (hq1.out.v.mv (Xm Yh) (Mv.Yc hBB2 R)) Hl1.out.2.2 HS.out.v.2).mono ?_; rintro e w3 ⟨v3,rfl,hO3,hB3⟩; obtain ⟨B3,d3,rfl⟩:=hO3.shape; have hBB3:=hBB2.trans (hB3.mono hBB2.size); have hr3:=HR.out _ hBB3; have e0:w3.cell? ⟨w.heap.size+1,0,none⟩=some (.slice none 0 0):=hr3.cell 0; have e1' : w3.cell? ⟨w.heap.size+1,1,none⟩=some (.slice none 0 0):=hr3.cell 1; have e2' : w3.cell? ⟨w.heap.size+1,2,none⟩=some (.slice none 0 0):=hr3.cell 2; have f0:=hr3.free 0; have f1:=hr3.free 1; have f2:=hr3.free 2))
 have hr3':=HR.out _ hBB3
 have hlt:=HbR.out.lt
 have hns:¬ W.heap.size≤w.heap.size+1:=by omega
 have q1:Ys Tb 54 2 w3 W.heap.size (fun k=>W.heap.size≤k) (.slice B1 D.length d1) D:=Ys.below Z6 (Ys.below Z6 (show Ys Tb 54 2 w1 W.heap.size (fun k=>W.heap.size≤k) (.slice B1 D.length d1) D from hO1) hB2) hB3
 have q2:Ys Yy 9 1 w3 W.heap.size (fun k=>W.heap.size≤k) (.slice B2 M.length d2) M:=((hO2.low hBB1.size).to Yp fun b hb _=>Nat.le_trans hBB1.size hb).below Yp hB3
 have q3:Ys (Vg Yr 3 1) 27 1 w3 W.heap.size (fun k=>W.heap.size≤k) (.slice B3 V.length d3) V:=(hO3.low hBB2.size).to (Zw Yh) fun b hb _=>Nat.le_trans hBB2.size hb
 have st:∀ {α:Type}{E:ElT α}{T:TypeId}{sz:Nat}{v:Value}{L:List α}{y:World}(i:Nat) (u:Value),E.Ok→Ys E T sz y W.heap.size (fun k=>W.heap.size≤k) v L→Ys E T sz (y.setCell ⟨w.heap.size+1,i,none⟩ u) W.heap.size (fun k=>W.heap.size≤k) v L:=fun {α}{E}{T}{sz}{v}{L}{y} i u hE hO=>hO.mv hE (fun b hb hl=>⟨Below.heap_setCell _ _ _ _ (by
  show b≠w.heap.size+1
  rcases hb with hb | hb
  ·omega
  ·have:=(hO.lt b hb).1; omega),trivial⟩) (.inr ⟨w.heap.size+1,⟨rfl,rfl,rfl,by simp,fun b _ hb=>Below.heap_setCell _ _ _ _ (fun e=>hb (by rw [e]))⟩,fun e=>by have:=(hO.lt _ e).1; omega⟩)
 have hF:=hid (show Yb3 (Yrn w3 (w.heap.size+1) (.slice B1 D.length d1) (.slice B2 M.length d2) (.slice B3 V.length d3)) w.heap.size (.slice B1 D.length d1) (.slice B2 M.length d2) (.slice B3 V.length d3) D M V from
  ⟨((st 2 _ Z6 (st 1 _ Z6 (st 0 _ Z6 q1))).low HW.out).to Z6 fun b hb _=>Nat.le_trans HW.out hb,((st 2 _ Yp (st 1 _ Yp (st 0 _ Yp q2))).low HW.out).to Yp fun b hb _=>Nat.le_trans HW.out hb,((st 2 _ (Zw Yh) (st 1 _ (Zw Yh) (st 0 _ (Zw Yh) q3))).low HW.out).to (Zw Yh) fun b hb _=>Nat.le_trans HW.out hb⟩)
 have hG:=hid ((((hb1.trans (hBB3.mono hb1.size)).setCell (p:=⟨w.heap.size+1,0,none⟩) (Nat.le_succ _) (.slice B1 D.length d1)).setCell (p:=⟨w.heap.size+1,1,none⟩) (Nat.le_succ _) (.slice B2 M.length d2)).setCell (p:=⟨w.heap.size+1,2,none⟩) (Nat.le_succ _) (.slice B3 V.length d3))
 have hRR:=hid (((hr3'.Yo 0 (.slice B1 D.length d1)).Yo 1 (.slice B2 M.length d2)).Yo 2 (.slice B3 V.length d3))
 clear q1 q2 q3 st hO1 hO2 hO3 hB1 hB2 hB3 hBB1 hBB2 hBB3 hr3 hr3' e0 e1' e2' f0 f1 f2 K HR HbR HC hb1 k0 k1 k2;go_wp2_with fail;refine bodyPost_ret (Za rfl _ _ (w.heap.size+1) _ _ rfl hRR.out Tryz.underlying26 rfl Ydg) rfl ?_;exact ⟨⟨_,_,_,rfl,hF.out⟩,hG.out⟩
section
section
variable {w w' : World}{ds:List DAt}{N:List Nat}{Qs:List (List Pth)}{vs:List CAt}{W m:Nat}{Cs:List Cub}
theorem Dcs.Zj (w:World):Dcs w [] [] []:=⟨rfl,trivial,fun i d h=>by simp at h,fun i j d e h=>by simp at h⟩
theorem Cbs.Zj (w:World) (W m:Nat):Cbs w [] W m []:=⟨rfl,fun i d h=>by simp at h,fun i j d e h=>by simp at h⟩
theorem Vq {α:Type}{L:List α}{x y:α}{i:Nat} : (L++[x]).getD i y=if i=L.length then x else L.getD i y:=by
 rw [List.getD_eq_getElem?_getD,List.getD_eq_getElem?_getD]
 by_cases h:i<L.length
 ·rw [List.getElem?_append_left h,if_neg (by omega)]
 ·by_cases h2:i=L.length
  ·subst h2; simp
  ·rw [List.getElem?_eq_none (by simp; omega),List.getElem?_eq_none (by omega),if_neg h2]
theorem Xd {α:Type}{L:List α}{x y:α}{i:Nat}(h:(L++[x])[i]?=some y):(i<L.length∧L[i]?=some y)∨(i=L.length∧x=y):=by
 by_cases hi:i<L.length
 ·rw [List.getElem?_append_left hi] at h
  exact .inl ⟨hi,h⟩
 ·have h2:=(List.getElem?_eq_some_iff.1 h).1
  rw [List.length_append,List.length_singleton] at h2;obtain rfl:i=L.length:=by omega
  simp at h;exact .inr ⟨rfl,h⟩
theorem Dcs.snoc (h:Dcs w ds N Qs) (hb:Below w.heap.size w w') {d:DAt}{n:Nat}{Q:List Pth}(hd:Dc w' 0 d.1 d.2.1 d.2.2 n Q) (hf:∀ k,Wo d k→w.heap.size≤k):Dcs w' (ds++[d]) (N++[n]) (Qs++[Q]):=by
 have hl:=h.len
 have hq:=h.Ykj
 have hgl:=h.good.len
 refine ⟨by simp [hl],Xj.of (by simp; omega) fun i hi=>?_,fun i e hi=>?_,fun i j x y hi hj hij k hx hy=>?_⟩
 ·rw [Vq,Vq,hgl]
  split
  ·exact hd.good
  ·refine h.good.get ?_
   rw [List.length_append,List.length_singleton] at hi;omega
 ·rw [Vq,Vq,hgl]
  rcases Xd hi with ⟨h1,h2⟩ | ⟨h1,rfl⟩
  ·rw [if_neg (by omega),if_neg (by omega)]
   exact (h.at_ i e h2).below hb
  ·rw [if_pos (by omega),if_pos (by omega)]
   exact hd
 ·rcases Xd hi with ⟨h1,h2⟩ | ⟨h1,rfl⟩
  ·rcases Xd hj with ⟨h3,h4⟩ | ⟨h3,rfl⟩
   ·exact h.ne i j x y h2 h4 hij k hx hy
   ·have:=h.lt (List.mem_of_getElem? h2) hx; have:=hf k hy; omega
  ·rcases Xd hj with ⟨h3,h4⟩ | ⟨h3,rfl⟩
   ·have:=h.lt (List.mem_of_getElem? h4) hy; have:=hf k hx; omega
   ·omega
theorem Cbs.snoc (h:Cbs w vs W m Cs) (hb:Below w.heap.size w w') {c:CAt}{C:Cub}(hd:Cb w' c.1 c.2 W m C) (hf:∀ k,V2 c k→w.heap.size≤k):Cbs w' (vs++[c]) W m (Cs++[C]):=by
 have hl:=h.len
 refine ⟨by simp [hl],fun i e hi=>?_,fun i j x y hi hj hij k hx hy=>?_⟩
 ·rw [Vq]
  rcases Xd hi with ⟨h1,h2⟩ | ⟨h1,rfl⟩
  ·rw [if_neg (by omega)]
   exact (h.at_ i e h2).Yc hb
  ·rw [if_pos (by omega)]
   exact hd
 ·rcases Xd hi with ⟨h1,h2⟩ | ⟨h1,rfl⟩
  ·rcases Xd hj with ⟨h3,h4⟩ | ⟨h3,rfl⟩
   ·exact h.ne i j x y h2 h4 hij k hx hy
   ·have:=h.lt (List.mem_of_getElem? h2) hx; have:=hf k hy; omega
  ·rcases Xd hj with ⟨h3,h4⟩ | ⟨h3,rfl⟩
   ·have:=h.lt (List.mem_of_getElem? h4) hy; have:=hf k hx; omega
   ·omega
theorem Dcs.Yij (h:Dcs w ds N Qs) {B size n' g c i:Nat}{e:TypeId}{xs:List Value}(hr:w.ownsRow B e size (.slice (some ⟨g,0,none⟩) n' c) n' xs) (h1:e≠131) (h2:e≠139) (u:Value):Dcs (w.setCell ⟨g,i,none⟩ u) ds N Qs :=
 h.chg (S:=fun k=>k=g) ((Chg.refl _ w).Yo g i u fun _=>rfl) fun d hd k hk e=>by
  obtain ⟨j,hj⟩:=List.getElem?_of_mem hd;exact Te hr (h.at_ j d hj) h1 h2 (k:=g) rfl (e ▸ hk)
theorem Cbs.Yij (h:Cbs w vs W m Cs) {B size n' g c i:Nat}{e:TypeId}{xs:List Value}(hr:w.ownsRow B e size (.slice (some ⟨g,0,none⟩) n' c) n' xs) (h1:e≠119) (u:Value):Cbs (w.setCell ⟨g,i,none⟩ u) vs W m Cs :=
 h.chg (S:=fun k=>k=g) ((Chg.refl _ w).Yo g i u fun _=>rfl) fun d hd k hk e=>by
  obtain ⟨j,hj⟩:=List.getElem?_of_mem hd;exact Si hr (h.at_ j d hj) h1 (k:=g) rfl (e ▸ hk)
end
theorem Yad {α:Type}{L:List α} (x:α) (h:k<L.length):L.take (k+1)=L.take k++[L.getD k x]:=by
 rw [List.take_add_one,List.getElem?_eq_getElem h,List.getD_eq_getElem?_getD,List.getElem?_eq_getElem h];rfl
def Yb2 (T:TypeId) (w:World) (B:Nat) (v:Value) (n:Nat) (old new:List Nat) (k:Nat):Prop:=new.length=k∧w.ownsRow B T 1 v n (new.map Xo++(old.map Xo).drop k)
theorem Yb2.Yo {x:Nat}{old new:List Nat} (h:Yb2 T w B (.slice (some ⟨g,0,none⟩) n c) n old new k) (ho:old.length=n) (hk:k<n):Yb2 T (w.setCell ⟨g,k,none⟩ (Xo x)) B (.slice (some ⟨g,0,none⟩) n c) n old (new++[x]) (k+1):=by
 obtain ⟨h1,h2⟩:=h
 have hs:=(World.ownsRow.stored h2 k (Xo x)).1
 rw [H7 (by rw [List.length_map,h1]) (by rw [List.length_map]; omega)] at hs
 exact ⟨by simp [h1],by rw [List.map_append]; exact hs⟩
theorem Ypb (gs:List Nat):∀ u∈gs.map Xo,u.oneCell'=true:=by
 intro u hu;obtain ⟨x,_,rfl⟩:=List.mem_map.1 hu;rfl
def Yl0 (w:World) (n:Nat) (N:List Nat) (Qs:List (List Pth)) (e:Ending) (w' : World):Prop :=
 (∃ A c ds,e=.returned (.slice A n c)∧w'.ownsRow w.heap.size 91 1 (.slice A n c) n (ds.map fun d=>Xo d.1)∧Dcs w' ds N Qs∧∀ d∈ds,∀ k,Wo d k→w.heap.size≤k)∧Below w.heap.size w w'
theorem Yk5 {ds:List DAt} (hr:w.ownsRow 0 91 1 (.slice A n c) n (ds.map fun d=>Xo d.1)) (hd:Dcs w ds N Qs) (hn:n≤1000) :
  Calls Tryz.prog 48 #[.slice A n c,.func (.func 49) #[] #[]] w (Yl0 w n N Qs):=by
 have hmap:ds.map (fun d=>Xo d.1)=(ds.map (·.1)).map Xo:=by rw [List.map_map]; rfl
 have hdl:ds.length=n:=by have:=hr.1; rw [List.length_map] at this; omega
 rw [hmap] at hr;obtain ⟨A',c',e,hS⟩:=Sl.Et hr;injection e with e1 e2 e3
 subst e1 e3
 have hol:Hid ((ds.map (·.1)).length=n):=hid (by rw [List.length_map]; exact hdl)
 obtain ⟨A2,c2,e,hle,hcm,hat⟩:=Lj (by rw [hol.out]; exact hr)
 rw [hol.out] at e hle;injection e with e1 e2 e3
 subst e1 e3
 have HC:=hid (Yfq hS (Ypb _) hn)
 have HA:=hid hat
 have HD:=hid hd
 have hNl:=hd.len
 have hQl:=hd.Ykj
 have hnm:n≤9223372036854775807:=by omega
 clear hS hr hat hd hcm;go_enter Tryz.func48,Tryz.ntmps48;go_wp2_with fail;refine HC.out.mono ?_;rintro e w1 ⟨Ac,cc,rfl,hO,hB1⟩
 have hM:Yb2 91 w1 w.heap.size (.slice Ac n cc) n (ds.map (·.1)) [] 0:=⟨rfl,by simpa using hO⟩
 have HM:=hid (show ∃ es:List DAt,Yb2 91 w1 w.heap.size (.slice Ac n cc) n (ds.map (·.1)) (es.map (·.1)) 0∧Dcs w1 es (N.take 0) (Qs.take 0)∧∀ d∈es,∀ k,Wo d k→w.heap.size≤k from ⟨[],hM,Dcs.Zj _,fun d hd=>by simp at hd⟩)
 clear hO HC hM;go_wp2_with fail;go_loopw [12] (fun i wr=>∃ k:Nat,k≤n∧i=.int .i64 k∧Hid (∃ es:List DAt,Yb2 91 wr w.heap.size (.slice Ac n cc) n (ds.map (·.1)) (es.map (·.1)) k∧Dcs wr es (N.take k) (Qs.take k)∧∀ d∈es,∀ k,Wo d k→w.heap.size≤k)∧Below w.heap.size w wr) (fun i _=>n - (intOf i).toNat)
 case atStart=>exact ⟨0,Nat.zero_le _,rfl,HM,hB1⟩
 case round =>
  obtain ⟨k,hk,rfl,hO,hB⟩:=hrel
  by_cases hlt:k<n
  ·obtain ⟨es,hX,hE,hfe⟩:=hO.out
   obtain ⟨d,hdk⟩ : ∃ d,Hid (ds[k]?=some d):=⟨_,hid (List.getElem?_eq_getElem (by omega))⟩
   obtain ⟨b,rfl,_,hbl,hcell⟩:=HA.out k d.1 (by rw [List.getElem?_map,hdk.out]; rfl)
   have g0:wr.cell? ⟨b,k,none⟩=some (.pointer (some ⟨d.1,0,none⟩)):=(hB.cell (p:=⟨b,k,none⟩) hbl).trans hcell
   have hDk:=(HD.out.at_ k d hdk.out).below hB
   obtain ⟨g,cg,eg⟩ : ∃ g cg,(.slice Ac n cc:Value)=.slice (some ⟨g,0,none⟩) n cg:=by
    rcases hX.2.2 with ⟨e,e0⟩ | ⟨g,cap,cur,e,_⟩
    ·omega
    ·exact ⟨g,cap,e⟩
   injection eg with eg1 eg2 eg3
   subst eg1 eg3
   have i0:(0:Int)≤(k:Int):=by omega
   have i1:(k:Int)<(n:Int):=by omega
   have HX:=hid (Yml hDk)
   have hlo:=World.ownsRow.lt hX.2
   clear hDk hcell;go_wp2_with fail;refine HX.out.mono ?_;rintro e w5 ⟨g',pv',bm',rfl,hn',hb5⟩
   have hO5:=Z8 hX.2 hb5
   have hE5:=hE.below hb5
   have hz:=hB.size
   have hz5:=hb5.size
   obtain ⟨y,hy⟩ : ∃ y,((es.map (·.1)).map Xo++((ds.map (·.1)).map Xo).drop k)[k]?=some y:=⟨_,List.getElem?_eq_getElem (by have:=hX.2.1; omega)⟩
   have c0:w5.cell? ⟨g,k,none⟩=some y:=(hO5.cellAt k (by omega)).trans hy
   have f0:=hO5.frozenAt k
   have hgl:=(hlo g rfl).1
   have hfd:∀ q,Wo (g',pv',bm') q→wr.heap.size≤q:=fun q hq=>(hn'.Ki hq).1
   have hS5:=hE.snoc hb5 (d:=(g',pv',bm')) (hn'.low (Nat.zero_le _)) hfd
   rw [← Yad 0 (by omega),← Yad [] (by omega)] at hS5
   have hF:=hid (show (∃ es:List DAt,Yb2 91 (w5.setCell ⟨g,k,none⟩ (.pointer (some ⟨g',0,none⟩))) w.heap.size (.slice (some ⟨g,0,none⟩) n cc) n (ds.map (·.1)) (es.map (·.1)) (k+1)∧Dcs (w5.setCell ⟨g,k,none⟩ (.pointer (some ⟨g',0,none⟩))) es (N.take (k+1)) (Qs.take (k+1))∧∀ d∈es,∀ k,Wo d k→w.heap.size≤k)∧Below w.heap.size w (w5.setCell ⟨g,k,none⟩ (.pointer (some ⟨g',0,none⟩))) from
    ⟨⟨es++[(g',pv',bm')],by rw [List.map_append]; exact Yb2.Yo ⟨hX.1,hO5⟩ hol.out hlt,hS5.Yij hO5 (by decide) (by decide) _,fun d hd q hq=>by
     rcases List.mem_append.1 hd with hd | hd
     ·exact hfe d hd q hq
     ·rw [List.mem_singleton.1 hd] at hq
      exact Nat.le_trans hz (hfd q hq)⟩,(hB.trans (hb5.mono hB.size)).setCell (p:=⟨g,k,none⟩) hgl _⟩)
   clear hO5 hO hB hb5 HX hy hX hE hfe hE5 hfd hS5 hn' hlo;go_wp2_with fail;go_roundw
   case rel=>exact ⟨k+1,by omega,by go_num,hid hF.out.1,hF.out.2⟩
   case measure=>simp [intOf]; omega
  ·have hF:=hid (show Yl0 w n N Qs (.returned (.slice Ac n cc)) wr from by
    obtain ⟨es,hX,hE,hfe⟩:=hO.out;obtain rfl:k=n:=by omega
    have h2:=hX.2
    rw [List.drop_of_length_le (by rw [List.length_map,hol.out]; exact Nat.le_refl _),List.append_nil,List.map_map] at h2
    rw [List.take_of_length_le (by omega),List.take_of_length_le (by omega)] at hE
    exact ⟨⟨Ac,cc,es,rfl,h2,hE,hfe⟩,hB⟩)
   clear hO hB;go_wp2_with fail;go_ret;exact hF.out
end
section
section
variable {w:World}{R F:Nat→Prop}{g:Nat}{D:List Yg}{M:List Txt}{V:List (List Int)}{Qs:List (List Pth)}{Cs:List Cub}{cnt:Int}
theorem Ynf {vv:Value}{A:Option Addr}{n c:Nat}(hv:vv=.slice A n c) (k4:w.cell? ⟨g,4,none⟩=some vv) (v:Int) {r:Bool}(hr:Hid (decide (0≤v∧v<(n:Int))=r)):Calls Tryz.prog 34 #[.pointer (some ⟨g,0,none⟩),.int .i64 v] w fun e w'=>e=.returned (.bool r)∧w=w':=by
 subst hv
 by_cases h0:0≤v
 ·by_cases h1:v<(n:Int)
  ·obtain rfl:r=true:=hr.out.symm.trans (decide_eq_true ⟨h0,h1⟩)
   clear hr;go_enter Tryz.func34,Tryz.ntmps34;go_wp2;go_ret;exact ⟨rfl,rfl⟩
  ·obtain rfl:r=false:=hr.out.symm.trans (decide_eq_false fun h=>h1 h.2)
   clear hr;go_enter Tryz.func34,Tryz.ntmps34;go_wp2;go_ret;exact ⟨rfl,rfl⟩
 ·obtain rfl:r=false:=hr.out.symm.trans (decide_eq_false fun h=>h0 h.1)
  clear hr;go_enter Tryz.func34,Tryz.ntmps34;go_wp2;go_ret;exact ⟨rfl,rfl⟩
theorem LtM.Ykk {X1 X2 X3 dv vv:Value}{ds:List DAt}{vs:List CAt}{N:List Nat}{W m:Nat}(h:LtM w g X1 X2 X3 dv vv ds vs N Qs W m Cs cnt):∃ A c,vv=.slice A Cs.length c∧vs.length=Cs.length∧∀ i cc,vs[i]?=some cc→∃ b,A=some ⟨b,0,none⟩∧vv.ownBlock=some b∧b<w.heap.size∧w.cell? ⟨b,i,none⟩=some (.pointer (some ⟨cc.1,0,none⟩)):=by
 have hl:=h.cbs.len
 have hr:=h.vr
 rw [show vs.map (fun c=>Xo c.1)=(vs.map (·.1)).map Xo by rw [List.map_map]; rfl] at hr
 have e:(vs.map (·.1)).length=vs.length:=by rw [List.length_map]
 rw [← e] at hr;obtain ⟨A,c,ev,_,_,hat⟩:=Lj hr;rw [e] at ev;refine ⟨A,c,by rw [ev,hl],hl,fun i cc hi=>?_⟩
 obtain ⟨b,q1,q2,q3,q4⟩:=hat i cc.1 (by rw [List.getElem?_map,hi]; rfl)
 exact ⟨b,q1,q2,q3,q4⟩
theorem LtM.Ydr {X1 X2 X3 dv vv:Value}{ds:List DAt}{vs:List CAt}{N:List Nat}{W m:Nat}(h:LtM w g X1 X2 X3 dv vv ds vs N Qs W m Cs cnt):∃ A c,dv=.slice A N.length c∧ds.length=N.length∧∀ i d,ds[i]?=some d→∃ b,A=some ⟨b,0,none⟩∧dv.ownBlock=some b∧b<w.heap.size∧w.cell? ⟨b,i,none⟩=some (.pointer (some ⟨d.1,0,none⟩)):=by
 have hl:=h.dcs.len
 have hr:=h.dr
 rw [show ds.map (fun c=>Xo c.1)=(ds.map (·.1)).map Xo by rw [List.map_map]; rfl] at hr
 have e:(ds.map (·.1)).length=ds.length:=by rw [List.length_map]
 rw [← e] at hr;obtain ⟨A,c,ev,_,_,hat⟩:=Lj hr;rw [e] at ev;refine ⟨A,c,by rw [ev,hl],hl,fun i cc hi=>?_⟩
 obtain ⟨b,q1,q2,q3,q4⟩:=hat i cc.1 (by rw [List.getElem?_map,hi]; rfl)
 exact ⟨b,q1,q2,q3,q4⟩
theorem Vt {D:List Yg}{M:List Txt}{V:List (List Int)}(h:Z3 D M V):(Ye D V).length≤7:=by
 have:=h.2.2.1
 unfold Ye;simp; omega
def Yge (Cs:List Cub) (v:Int):Int × Int:=if 0≤v∧v<(Cs.length:Int) then (((Cs.getD v.toNat []).length:Int),0) else (0,17)
theorem Yds (h:Lt w R g F D M V Qs Cs cnt) (v:Int) {a b:Int}(hab:Hid (Yge Cs v=(a,b))):Calls Tryz.prog 16 #[.pointer (some ⟨g,0,none⟩),.int .i64 v] w fun e w'=>e=.returned (.tuple #[.int .i64 a,.int .i64 b])∧w=w':=by
 obtain ⟨dv,vv,ds,vs,A1,n1,c1,A2,n2,c2,A3,n3,c3,h1,h2,h3,h4,hm,hcl⟩:=h;obtain ⟨A,c,ev,hvl,hat⟩:=h1.Ykk
 have hfew:=Vt hm
 have hH:=hid (fun r hr=>Ynf (r:=r) ev h1.c4 v hr)
 have k4:=h1.c4
 have HCb:=hid h1.cbs
 have hn7:Cs.length≤7:=by omega
 have HA:=hid hat
 subst ev;clear h2 h3 h4 hm hat h1
 by_cases hv:0≤v∧v<(Cs.length:Int)
 ·obtain ⟨k,rfl⟩:=Int.eq_ofNat_of_zero_le hv.1
  have hk:k<Cs.length:=by omega
  obtain ⟨cc,hcc⟩ : ∃ cc,Hid (vs[k]?=some cc):=⟨_,hid (List.getElem?_eq_getElem (by omega))⟩
  obtain ⟨b',rfl,_,_,g0⟩:=HA.out k cc hcc.out
  have HX:=hid (Yfv (HCb.out.at_ k cc hcc.out))
  have hH:=hid (hH.out true (hid (decide_eq_true hv)))
  have hab2:=hab.out
  unfold Yge at hab2;rw [if_pos hv] at hab2;obtain ⟨ea,rfl⟩:=Prod.mk.inj hab2;rw [show ((k:Int).toNat)=k from rfl] at ea
  rw [ea] at HX
  have i0:(0:Int)≤(k:Int):=by omega
  have i1:(k:Int)<(Cs.length:Int):=by omega
  clear hab hab2 ea hv;go_enter Tryz.func16,Tryz.ntmps16;go_wp2_with fail;refine hH.out.mono ?_;rintro e w1 ⟨rfl,rfl⟩;go_wp2_with fail;refine HX.out.mono ?_;rintro e w1 ⟨rfl,rfl⟩;go_wp2_with fail;go_ret2;exact ⟨rfl,rfl⟩
 ·have hH:=hid (hH.out false (hid (decide_eq_false hv)))
  have hab2:=hab.out
  unfold Yge at hab2;rw [if_neg hv] at hab2;obtain ⟨rfl,rfl⟩:=Prod.mk.inj hab2;clear hab hab2 hv;go_enter Tryz.func16,Tryz.ntmps16;go_wp2_with fail;refine hH.out.mono ?_;rintro e w1 ⟨rfl,rfl⟩;go_wp2_with fail;go_ret2;exact ⟨rfl,rfl⟩
theorem J9 (h:Lt w R g F D M V Qs Cs cnt):Calls Tryz.prog 28 #[.pointer (some ⟨g,0,none⟩)] w (Yl3 w D M V):=by
 obtain ⟨dv,vv,ds,vs,A1,n1,c1,A2,n2,c2,A3,n3,c3,h1,h2,h3,h4,hm,hcl⟩:=h
 have hb0:=Ya w (.cells #[.slice none 0 0,.slice none 0 0,.slice none 0 0] 26)
 have hbr:=Block.new w 26 #[.slice none 0 0,.slice none 0 0,.slice none 0 0]
 have h1':=h1.below hb0
 have k0:=h1'.c0
 have k1:=h1'.c1
 have k2:=h1'.c2
 have HX:=hid (Fb (h2.Yc hb0) (S8 hm))
 clear h1 h2 h3 h4 hm hcl h1';go_enter Tryz.func28,Tryz.ntmps28;go_wp2_with fail;generalize w.alloc (.cells #[.slice none 0 0,.slice none 0 0,.slice none 0 0] 26)=W0 at hb0 hbr k0 k1 k2 HX ⊢;go_wp2_with fail;refine HX.out.mono ?_;rintro e w1 ⟨⟨v1,v2,v3,rfl,hO⟩,hB⟩
 have hs:=hb0.size
 have hr1:=hbr.below hB hbr.lt
 have hns:w.heap.size<W0.heap.size:=hbr.lt
 have st:∀ {α:Type}{E:ElT α}{T:TypeId}{sz:Nat}{v:Value}{L:List α}{y:World}(i:Nat) (u:Value),E.Ok→Ys E T sz y W0.heap.size (fun k=>W0.heap.size≤k) v L→Ys E T sz (y.setCell ⟨w.heap.size,i,none⟩ u) W0.heap.size (fun k=>W0.heap.size≤k) v L:=fun {α}{E}{T}{sz}{v}{L}{y} i u hE hO=>hO.mv hE (fun b hb hl=>⟨Below.heap_setCell _ _ _ _ (by
  show b≠w.heap.size
  rcases hb with hb | hb
  ·omega
  ·have:=(hO.lt b hb).1; omega),trivial⟩) (.inr ⟨w.heap.size,⟨rfl,rfl,rfl,by simp,fun b _ hb=>Below.heap_setCell _ _ _ _ (fun e=>hb (by rw [e]))⟩,fun e=>by have:=(hO.lt _ e).1; omega⟩)
 have q1:=st 2 v3 Z6 (st 1 v2 Z6 (st 0 v1 Z6 hO.d))
 have q2:=st 2 v3 Yp (st 1 v2 Yp (st 0 v1 Yp hO.m))
 have q3:=st 2 v3 (Zw Yh) (st 1 v2 (Zw Yh) (st 0 v1 (Zw Yh) hO.v))
 obtain ⟨B1,d1,rfl⟩:=hO.d.shape;obtain ⟨B2,d2,rfl⟩:=hO.m.shape;obtain ⟨B3,d3,rfl⟩:=hO.v.shape
 have hF:=hid (show Yb3 (Yrn w1 w.heap.size (.slice B1 D.length d1) (.slice B2 M.length d2) (.slice B3 V.length d3)) w.heap.size (.slice B1 D.length d1) (.slice B2 M.length d2) (.slice B3 V.length d3) D M V from
  ⟨(q1.low (by omega)).to Z6 fun b hb _=>by omega,(q2.low (by omega)).to Yp fun b hb _=>by omega,(q3.low (by omega)).to (Zw Yh) fun b hb _=>by omega⟩)
 have hG:=hid ((((hb0.trans (hB.mono hs)).setCell (p:=⟨w.heap.size,0,none⟩) (Nat.le_refl _) (.slice B1 D.length d1)).setCell (p:=⟨w.heap.size,1,none⟩) (Nat.le_refl _) (.slice B2 M.length d2)).setCell (p:=⟨w.heap.size,2,none⟩) (Nat.le_refl _) (.slice B3 V.length d3))
 have hRR:=hid (((hr1.Yo 0 (.slice B1 D.length d1)).Yo 1 (.slice B2 M.length d2)).Yo 2 (.slice B3 V.length d3))
 have e0:w1.cell? ⟨w.heap.size,0,none⟩=some (.slice none 0 0):=hr1.cell 0
 have e1:w1.cell? ⟨w.heap.size,1,none⟩=some (.slice none 0 0):=hr1.cell 1
 have e2:w1.cell? ⟨w.heap.size,2,none⟩=some (.slice none 0 0):=hr1.cell 2
 have f0:=hr1.free 0
 have f1:=hr1.free 1
 have f2:=hr1.free 2
 clear q1 q2 q3 st hO hB hr1 hb0 HX hbr;go_wp2_with fail;refine bodyPost_ret (Za rfl _ _ w.heap.size _ _ rfl hRR.out Tryz.underlying26 rfl Ydg) rfl ?_;exact ⟨⟨_,_,_,rfl,hF.out⟩,hG.out⟩
end
end
section
theorem Ja {T TS:TypeId}{sz bytes:Nat}{z:Value}{w:World}{ops:Array Oper}{o:Oper}{a:Act}{Q:Exit→Act→World→Prop}{K:Act→World→Prop}{Fl:Prop}(hgd:o.guard=none) (s x:Operand)
  (ho:o.op=.call { callee:=.builtin .append,args:=#[s,x],argTypes:=#[TS,TS] }) (hinfo:(Tryz.prog.info? T).map (fun i=>(i.zero,i.size,i.bytes))=some (some z,sz,bytes)) (hTS:Tryz.prog.underlying TS=some (.slice T)) (hzs:z.cells.size=sz) (hsz:0<sz∧sz≤100∧bytes≤1000)
  (base:Nat) (v:Value) (n:Nat) (vs:List Value) (hs:a.eval s=v) (hr:w.ownsRow base T sz v n vs) (g:Nat) (hx:a.eval x=.slice (some ⟨g,0,none⟩) 1 1) (us:List Value) (hus:us.length=sz)
  (hy:∀ j u,us[j]?=some u→w.cell? ((⟨g,0,none⟩ : Addr).add j)=some u) (hone:∀ u∈us,u.oneCell'=true) (hlen:n≤1000000) (hbase:base≤w.heap.size)
  (h:∀ v' w',w'.ownsRow base T sz v' (n+1) (vs++us)→Z7 w v w' v'→K (a.put o.dst v') w') :
  if Region.wanted o (yielded ops a.tmps)=true then Oper.wp Tryz.prog o a w K Q else Fl:=by
 have hw:Region.wanted o (yielded ops a.tmps)=true:=by simp [Region.wanted,hgd]
 rw [if_pos hw];obtain ⟨i,hi,hz0,hz1,hz2⟩:=info_parts hinfo;obtain ⟨v',w',hrun,h2,h3,_,h5⟩:=run_append_own_at (P:=Tryz.prog) w base TS o.type T i _ sz bytes hTS hi hz0 hz1 hz2 hzs hsz.1 v n vs hr ⟨g,0,none⟩ 1 1 us (by rw [hus]; omega) hy hone (by unfold maxLen; omega) (by have:=Nat.mul_le_mul (show n+1≤1000001 by omega) hsz.2.2; omega) hbase
 unfold Oper.wp execOp;simp only [ho,resolve,invoke,builtin,Sem.run_bind,Sem.run_pure,Result.andThen_ok,List.map_toArray,List.map_cons,List.map_nil,hs,hx,hrun]
 have hG:Z7 w v w' v':=⟨h3,fun q hq=>by
  rcases h5 with h5 | h5
  ·exact .inl (h5 ▸ hq)
  ·rw [h5] at hq
   injection hq with hq
   exact .inr (Nat.le_of_eq hq)⟩
 exact h v' w' h2 hG
theorem Chg.Y4 {S:Nat→Prop}{w w' : World}{B:Nat}(h:Chg S w w') (hB:B≤w.heap.size) (hS:∀ k,S k→B≤k):Below B w w':=h.below hB hS
theorem Pm {w w' : World}{v v' : Value}(hG:Z7 w v w' v'):Chg (fun k=>v.ownBlock=some k) w w':=Chg.Wl hG.1 fun _ hk _=>hk
theorem Sj {w:World}{B size n:Nat}{T:TypeId}{v:Value}{vs:List Value}(h:w.ownsRow B T size v n vs):∃ A c,v=.slice A n c:=by
 rcases h.2 with ⟨rfl,e0⟩ | ⟨g,cap,cur,rfl,_⟩
 ·exact ⟨none,0,by rw [e0]⟩
 ·exact ⟨_,_,rfl⟩
section
variable {w y w8:World}{g:Nat}{X1 X2 X3 dv vv v' : Value}{ds:List DAt}{vs:List CAt}{N:List Nat}{Qs:List (List Pth)}{W m:Nat}{Cs:List Cub}{cnt:Int}
def Lu (B g:Nat) (dv vv:Value) (ds:List DAt) (vs:List CAt):Prop:=∀ k,Zg g dv vv ds vs k→B≤k
theorem LtM.Wx (h:LtM w g X1 X2 X3 dv vv ds vs N Qs W m Cs cnt) (hb:Below w.heap.size w y) {d:DAt}{n:Nat}{Q:List Pth}(hd:Dc y 0 d.1 d.2.1 d.2.2 n Q) (hf:∀ k,Wo d k→w.heap.size≤k) (hO:w8.ownsRow 0 91 1 v' (ds.length+1) (ds.map (fun d=>Xo d.1)++[Xo d.1])) (hG:Z7 y dv w8 v') :
  Block w8 g 82 #[X1,X2,X3,dv,vv,.int .i64 cnt]∧LtM (w8.setCell ⟨g,3,none⟩ v') g X1 X2 X3 v' vv (ds++[d]) vs (N++[n]) (Qs++[Q]) W m Cs cnt∧(∀ B,Lu B g dv vv ds vs→B≤w.heap.size→Lu B g v' vv (ds++[d]) vs∧Below B w (w8.setCell ⟨g,3,none⟩ v')):=by
 have hz:=hb.size
 have h1:=h.below hb
 have hc:=Pm hG
 have b8:=h1.blk.chg hc h1.Ytj
 have hD:=h.dcs.snoc hb hd hf
 have hD8:Dcs w8 (ds++[d]) (N++[n]) (Qs++[Q]):=hD.chg hc fun e he k hk hdv=>by
  obtain ⟨i,hi⟩:=List.getElem?_of_mem he;exact Te h1.dr (hD.at_ i e hi) (by decide) (by decide) hdv hk
 have hC8:Cbs w8 vs W m Cs:=h1.cbs.chg hc fun e he k hk hdv=>by
  obtain ⟨i,hi⟩:=List.getElem?_of_mem he;exact Si h1.dr (h1.cbs.at_ i e hi) (by decide) hdv hk
 have hV8:=hc.row h1.vr fun k hk hdv=>h1.Ymo hdv hk
 have hs:Chg (fun k=>k=g) w8 (w8.setCell ⟨g,3,none⟩ v'):=(Chg.refl _ w8).Yo g 3 v' fun _=>rfl
 have hvg:v'.ownBlock≠some g:=Y6 hO b8 (by decide)
 refine ⟨b8,⟨b8.Yo 3 v',?_,?_,hD8.chg hs ?_,hC8.chg hs ?_,?_⟩,fun B hF hB=>⟨?_,?_⟩⟩
 ·have:=hs.row hO fun k hk e=>hvg (e ▸ hk)
  simpa using this
 ·exact hs.row hV8 fun k hk e=>Y6 hV8 b8 (by decide) (e ▸ hk)
 ·intro e he k hk hkg
  subst hkg;obtain ⟨i,hi⟩:=List.getElem?_of_mem he
  rcases (hD8.at_ i e hi).kind hk with ⟨cs,e',fr,hh,h1'⟩ | ⟨es,clock,hh⟩
  ·have b8' : w8.heap[k]?=some (.cells _ _ _):=b8
   rw [b8'] at hh;simp only [Option.some.injEq,Obj.cells.injEq] at hh
   rcases h1' with h1' | h1' <;> (rw [← hh.2.1] at h1'; exact absurd h1' (by decide))
  ·have b8' : w8.heap[k]?=some (.cells _ _ _):=b8
   rw [b8'] at hh; cases hh
 ·intro e he k hk hkg
  subst hkg;obtain ⟨i,hi⟩:=List.getElem?_of_mem he
  have b8' : w8.heap[k]?=some (.cells _ _ _):=b8
  rcases (hC8.at_ i e hi).kind hk with ⟨cs,fr,hh⟩ | ⟨es,clock,hh⟩
  ·rw [b8'] at hh
   simp only [Option.some.injEq,Obj.cells.injEq] at hh;exact absurd hh.2.1 (by decide)
  ·rw [b8'] at hh; cases hh
 ·intro e he c hc' k hk hkc
  rcases List.mem_append.1 he with he | he
  ·exact h.apart e he c hc' k hk hkc
  ·rw [List.mem_singleton.1 he] at hk
   have:=hf k hk
   have:=h.cbs.lt hc' hkc
   omega
 ·rintro k (rfl | hk | hk | ⟨e,he,hk⟩ | hk)
  ·exact hF _ (.inl rfl)
  ·rcases hG.2 k hk with h2 | h2
   ·exact hF _ (.inr (.inl h2))
   ·omega
  ·exact hF _ (.inr (.inr (.inl hk)))
  ·rcases List.mem_append.1 he with he | he
   ·exact hF _ (.inr (.inr (.inr (.inl ⟨e,he,hk⟩))))
   ·rw [List.mem_singleton.1 he] at hk
    have:=hf k hk
    omega
  ·exact hF _ (.inr (.inr (.inr (.inr hk))))
 ·exact (((hb.mono hB).trans (hc.Y4 (by omega) fun k hk=>hF _ (.inr (.inl hk)))).trans (hs.Y4 (by have:=hc.size; omega) fun k e=>by rw [e]; exact hF _ (.inl rfl)))
theorem LtM.Mg (h:LtM w g X1 X2 X3 dv vv ds vs N Qs W m Cs cnt) (hb:Below w.heap.size w y) {c:CAt}{C:Cub}(hd:Cb y c.1 c.2 W m C) (hf:∀ k,V2 c k→w.heap.size≤k) (hO:w8.ownsRow 0 78 1 v' (vs.length+1) (vs.map (fun d=>Xo d.1)++[Xo c.1])) (hG:Z7 y vv w8 v') :
  Block w8 g 82 #[X1,X2,X3,dv,vv,.int .i64 cnt]∧LtM (w8.setCell ⟨g,4,none⟩ v') g X1 X2 X3 dv v' ds (vs++[c]) N Qs W m (Cs++[C]) cnt∧(∀ B,Lu B g dv vv ds vs→B≤w.heap.size→Lu B g dv v' ds (vs++[c])∧Below B w (w8.setCell ⟨g,4,none⟩ v')):=by
 have hz:=hb.size
 have h1:=h.below hb
 have hc:=Pm hG
 have b8:=h1.blk.chg hc h1.Yqr
 have hD:=h.cbs.snoc hb hd hf
 have hC8:Cbs w8 (vs++[c]) W m (Cs++[C]):=hD.chg hc fun e he k hk hdv=>by
  obtain ⟨i,hi⟩:=List.getElem?_of_mem he;exact Si h1.vr (hD.at_ i e hi) (by decide) hdv hk
 have hD8:Dcs w8 ds N Qs:=h1.dcs.chg hc fun e he k hk hdv=>by
  obtain ⟨i,hi⟩:=List.getElem?_of_mem he;exact Te h1.vr (h1.dcs.at_ i e hi) (by decide) (by decide) hdv hk
 have hV8:=hc.row h1.dr fun k hk hdv=>h1.Ymo hk hdv
 have hs:Chg (fun k=>k=g) w8 (w8.setCell ⟨g,4,none⟩ v'):=(Chg.refl _ w8).Yo g 4 v' fun _=>rfl
 have hvg:v'.ownBlock≠some g:=Y6 hO b8 (by decide)
 refine ⟨b8,⟨b8.Yo 4 v',?_,?_,hD8.chg hs ?_,hC8.chg hs ?_,?_⟩,fun B hF hB=>⟨?_,?_⟩⟩
 ·exact hs.row hV8 fun k hk e=>Y6 hV8 b8 (by decide) (e ▸ hk)
 ·have:=hs.row hO fun k hk e=>hvg (e ▸ hk)
  simpa using this
 ·intro e he k hk hkg
  subst hkg;obtain ⟨i,hi⟩:=List.getElem?_of_mem he
  rcases (hD8.at_ i e hi).kind hk with ⟨cs,e',fr,hh,h1'⟩ | ⟨es,clock,hh⟩
  ·have b8' : w8.heap[k]?=some (.cells _ _ _):=b8
   rw [b8'] at hh;simp only [Option.some.injEq,Obj.cells.injEq] at hh
   rcases h1' with h1' | h1' <;> (rw [← hh.2.1] at h1'; exact absurd h1' (by decide))
  ·have b8' : w8.heap[k]?=some (.cells _ _ _):=b8
   rw [b8'] at hh; cases hh
 ·intro e he k hk hkg
  subst hkg;obtain ⟨i,hi⟩:=List.getElem?_of_mem he
  have b8' : w8.heap[k]?=some (.cells _ _ _):=b8
  rcases (hC8.at_ i e hi).kind hk with ⟨cs,fr,hh⟩ | ⟨es,clock,hh⟩
  ·rw [b8'] at hh
   simp only [Option.some.injEq,Obj.cells.injEq] at hh;exact absurd hh.2.1 (by decide)
  ·rw [b8'] at hh; cases hh
 ·intro e he c' hc' k hk hkc
  rcases List.mem_append.1 hc' with hc' | hc'
  ·exact h.apart e he c' hc' k hk hkc
  ·rw [List.mem_singleton.1 hc'] at hkc
   have:=hf k hkc
   have:=h.dcs.lt he hk
   omega
 ·rintro k (rfl | hk | hk | hk | ⟨e,he,hk⟩)
  ·exact hF _ (.inl rfl)
  ·exact hF _ (.inr (.inl hk))
  ·rcases hG.2 k hk with h2 | h2
   ·exact hF _ (.inr (.inr (.inl h2)))
   ·omega
  ·exact hF _ (.inr (.inr (.inr (.inl hk))))
  ·rcases List.mem_append.1 he with he | he
   ·exact hF _ (.inr (.inr (.inr (.inr ⟨e,he,hk⟩))))
   ·rw [List.mem_singleton.1 he] at hk
    have:=hf k hk
    omega
 ·exact (((hb.mono hB).trans (hc.Y4 (by omega) fun k hk=>hF _ (.inr (.inr (.inl hk))))).trans (hs.Y4 (by have:=hc.size; omega) fun k e=>by rw [e]; exact hF _ (.inl rfl)))
end
theorem W4 (h:Z3 D M V):1≤D.length∧D.length≤3∧1≤M.length∧M.length≤2:=by
 obtain ⟨⟨_,h2⟩,h3,_⟩:=h
 have a:=h2.1
 have b:=h2.2.1
 rw [List.length_map] at a b;exact ⟨a,b,h3.1,h3.2.1⟩
theorem Fq {c1 c2:Nat} (k0:w.cell? ⟨g,0,none⟩=some (.slice A1 W c1)) (k1:w.cell? ⟨g,1,none⟩=some (.slice A2 m c2)) (h:1≤W∧W≤3∧1≤m∧m≤2) (hg:g<w.heap.size) :
  Calls Tryz.prog 46 #[.pointer (some ⟨g,0,none⟩)] w fun e w'=>(∃ v,e=.returned v∧D8 w W m [] v w')∧Below w.heap.size w w':=by
 obtain ⟨h1,h2,h3,h4⟩:=h
 have K:Hid (∀ y,Below w.heap.size w y→y.cell? ⟨g,0,none⟩=some (.slice A1 W c1)∧y.cell? ⟨g,1,none⟩=some (.slice A2 m c2)):=hid fun y hy=>⟨(hy.cell (p:=⟨g,0,none⟩) hg).trans k0,(hy.cell (p:=⟨g,1,none⟩) hg).trans k1⟩
 have HN:=hid (Yfw h1 h2 h3 h4 w.drew)
 have iW0:(0:Int)≤(W:Int):=by omega
 clear h1 h2 h3 h4;go_enter Tryz.func46,Tryz.ntmps46;go_wp2_with fail;go_region_held3 (fun w'=>w'.cell? ⟨g,0,none⟩=some (.slice A1 W c1)∧w'.cell? ⟨g,1,none⟩=some (.slice A2 m c2))
  (first
   | go_keep
   | exact K.out _ hBB1)
  (first
   | (go_at_call 70; refine HN.out.mono ?_; rintro e w1 ⟨⟨v,rfl,hT⟩,hB1⟩; have hBB1:Below w.heap.size w w1:=((below_drewN (Below.refl _ w) 1).trans hB1)))
 have hF:=hid (show (∃ v',(Ending.returned v)=.returned v'∧D8 w W m [] v' w1)∧Below w.heap.size w w1 from ⟨⟨v,rfl,hT⟩,hBB1⟩)
 obtain ⟨gq,bq,rfl,hq⟩:=hT;clear hq hB1 hBB1 K HN;go_wp2_with fail;go_ret;exact hF.out
end
def D6 (z:Value) (m:Nat):Array Value:=(List.replicate m z).toArray
theorem Yog {TS:TypeId}{z:Value}{bytes:Nat} (hz0:z.cells=#[z]) (hinfo:(Tryz.prog.info? T).map (fun i=>(i.zero,i.size,i.bytes))=some (some z,1,bytes)) (hTS:Tryz.prog.underlying TS=some (.slice T)) (hb:bytes≤1000) (m:Nat) (W:World) (hm:m≤1000000) :
  (Instr.makeSlice TS (.int .i64 m) (.int .i64 m)).run Tryz.prog W=.ok (.slice (some ⟨W.heap.size,0,none⟩) m m) (W.alloc (.cells (D6 z m) T)):=by
 obtain ⟨i,hi,hz,hy,hx⟩:=info_parts hinfo
 have h:=run_make (P:=Tryz.prog) W TS T i z hTS hi hz .i64 .i64 m m (by omega) (by omega) (by rw [hx]; have h1:=Nat.mul_le_mul hb hm; have h2:((bytes*m:Nat):Int)=(bytes:Int)*(m:Int):=Int.natCast_mul _ _; omega) (by omega)
 rw [hy,Nat.mul_one,Int.toNat_natCast] at h;rw [h]
 congr 2
 congr 1
 apply Array.ext
 ·simp [D6,madeCells]
 ·intro k h1 h2
  simp [D6,madeCells,hz0,Nat.mod_one]
theorem Yo7 (w:World) (T:TypeId) (z:Value) (m:Nat) (hm:m≤1000000):(w.alloc (.cells (D6 z m) T)).ownsRow w.heap.size T 1 (.slice (some ⟨w.heap.size,0,none⟩) m m) m (List.replicate m z) :=
 ⟨by simp,.inr ⟨w.heap.size,m,D6 z m,rfl,Nat.le_refl _,heap_alloc_new w _,Nat.le_refl _,by unfold maxLen; omega,by simp [D6],by simp [D6]⟩⟩
abbrev Yqm:ElT (List Txt):=Vg Yy 9 1
abbrev Ysh:ElT Zd:=Vg Yqm 23 1
abbrev Yr7:ElT (Zd × PC):=Ua Ysh 1 Yhz
section
structure Ys1 (D:List Yg) (m:Nat) (G:List Fct):Prop where
 small:∀ f∈G,Ge f
 val:m≤2∧∀ f∈G,isVal m f.2
 cell:∀ f∈G,Yw m (Y8 f)
 few:G.length≤8
 len:∀ f∈G,f.1.length=(Yk D).length
 lev:∀ f∈G,f.1.map List.length=Yk D
section
variable {D:List Yg}{M:List Txt}{V:List (List Int)}{G:List Fct}{Qs Rs:List (List Pth)}
theorem M6 (D:List Yg):(Yk D).length=D.length:=by unfold Yk; rw [List.length_map]
theorem Yr5 (hm:Z3 D M V) (hb:Xu D M V G=0):Ys1 D M.length G:=by
 have hd:=W4 hm
 have hf:=Ou hb
 refine ⟨fun f h=>⟨by have:=(hf f h).1.1; omega,fun p hp=>by have:=((hf f h).1.2.1 p hp).1; omega,by have:=(hf f h).1.2.2.1; omega⟩,⟨hd.2.2.2,fun f h=>Yay (hf f h)⟩,fun f h=>Ycx hd.2.2.2 (hf f h),?_,fun f h=>by rw [M6]; exact (hf f h).2.1,fun f h=>Yax (hf f h)⟩
 unfold Xu at hb;rw [if_pos hm] at hb;exact (Lb.1 hb).2.1
theorem Yqd (hm:Z3 D M V) (hB:Ys1 D M.length G) (hg:Xj (Yk D) Qs) (ha:Zc (Yk D) Qs G=(Rs,0)) :
  (∀ (i:Nat) (f:Fct),G[i]?=some f→O9 (Yk D) Rs ((Vk (Yk D) Rs G).getD i [])∧∀ v,Qb (Yk D) v→upB Rs ((Vk (Yk D) Rs G).getD i []) v=kC Rs v f)∧∀ v,Qb (Yk D) v→∀ f∈G,isKey D.length (kC Rs v f):=by
 obtain ⟨h1,_,h3⟩:=Ry hg ha;refine ⟨fun i f hi=>?_,fun v hv f hf=>?_⟩
 ·have hf:=List.mem_of_getElem? hi
  have hP:=h3 (Sy (Yk D)) (Gu _) f hf (hB.len f hf)
  rw [← Yht] at hP
  have hk:(Vk (Yk D) Rs G).getD i []=W9 Rs (Zv D) f.1:=by
   rw [List.getD_eq_getElem?_getD,Vk,List.getElem?_map,hi,Yht];rfl
  rw [hk];exact ⟨D9 h1 hP (hB.lev f hf) (Yq1 hm.1.1 (hB.lev f hf)),fun v _=>Yrx h1 hP (hB.lev f hf)⟩
 ·have hk:=Eh h1 (h3 v hv f hf (hB.len f hf))
  rw [M6] at hk;exact hk
end
end
theorem Yk7 {w':World} (h:w.ownsRow B T sz v n vs) (hb:Below w.heap.size w w'):w'.ownsRow B T sz v n vs:=(Chg.Yz hb (Nat.le_refl _)).row (S:=fun _=>False) h fun _ _ h=>h
theorem Yob:Sq LxD:=by
 intro d hd;rw [List.mem_singleton.1 hd];exact ⟨by decide,fun s hs=>by
  rcases List.mem_cons.1 hs with rfl | hs
  ·decide
  ·rw [List.mem_singleton.1 hs]; decide⟩
def Uq (w:World) (g:Nat) (x y:Array UInt8) (v:Int):World:=((w.alloc (.cells #[.string ⟨x⟩,.string ⟨y⟩] 9)).alloc (.cells #[.slice (some ⟨g,0,none⟩) 2 2] 23)).alloc (.cells #[.int .i64 v] 3)
theorem Nx (w:World) (g:Nat) (x y:Array UInt8) (v:Int):(Uq w g x y v).heap.size=w.heap.size+1+1+1:=by simp [Uq]
theorem Tu (w:World) (g:Nat) (x y:Array UInt8) (v:Int):Below w.heap.size w (Uq w g x y v):=Yb (Yb (Ya w _) (Ya _ _)) (Ya _ _)
theorem El (w:World) (g:Nat) (hg:g=w.heap.size) (B:Nat) (hB:B≤w.heap.size) (x y:Txt) (v:Int):O8 (Uq w g x.toArray y.toArray v) (fun b=>B≤b) [.slice (some ⟨g+1,0,none⟩) 1 1,.slice (some ⟨g+1+1,0,none⟩) 1 1] ([[x,y]],[v]):=by
 subst hg
 have a0:=Row.Yq2 (S:=fun b=>B≤b) Yp (sz:=1) w #[.string ⟨x.toArray⟩,.string ⟨y.toArray⟩] 9 2 [x,y] rfl rfl (by decide) w.heap.size rfl hB (fun i z hi=>by
  match i,hi with
  | 0,hi=>simp at hi; subst hi; rfl
  | 1,hi=>simp at hi; subst hi; rfl
  | i+2,hi=>simp at hi)
 have a1:=Row.Yq2 (S:=fun b=>B≤b) (E:=Zf Yy 1) (sz:=1) (Xm Yp) (w.alloc (.cells #[.string ⟨x.toArray⟩,.string ⟨y.toArray⟩] 9)) #[.slice (some ⟨w.heap.size,0,none⟩) 2 2] 23 1 [[x,y]] rfl rfl (by decide) (w.heap.size+1) (by simp) (by omega) (fun i z hi=>by
  match i,hi with
  | 0,hi=>simp at hi; subst hi; exact ⟨_,_,_,rfl,a0⟩
  | i+1,hi=>simp at hi)
 have a2:=Row.Yq2 (S:=fun b=>B≤b) (E:=Yr) (sz:=1) Yh ((w.alloc (.cells #[.string ⟨x.toArray⟩,.string ⟨y.toArray⟩] 9)).alloc (.cells #[.slice (some ⟨w.heap.size,0,none⟩) 2 2] 23)) #[.int .i64 v] 3 1 [v] rfl rfl (by decide) (w.heap.size+1+1) (by simp) (by omega) (fun i z hi=>by
  match i,hi with
  | 0,hi=>simp at hi; subst hi; rfl
  | i+1,hi=>simp at hi)
 exact ⟨⟨_,_,_,rfl,a1.mv (Xm Yp) (Mv.alloc _ _ _)⟩,⟨_,_,_,rfl,a2⟩⟩
def LxW (w:World):World:=(Uq (Uq (Uq w w.heap.size #[97] #[120] 5) (w.heap.size+1+1+1) #[97] #[121] 7) (w.heap.size+1+1+1+1+1+1) #[98] #[120] 1).alloc (.cells #[.slice (some ⟨w.heap.size+1,0,none⟩) 1 1,.slice (some ⟨w.heap.size+1+1,0,none⟩) 1 1,.slice (some ⟨w.heap.size+1+1+1+1,0,none⟩) 1 1,.slice (some ⟨w.heap.size+1+1+1+1+1,0,none⟩) 1 1,.slice (some ⟨w.heap.size+1+1+1+1+1+1+1,0,none⟩) 1 1,.slice (some ⟨w.heap.size+1+1+1+1+1+1+1+1,0,none⟩) 1 1] 60)
theorem Yio (w:World):Below w.heap.size w (LxW w):=Yb (Yb (Yb (Tu w _ _ _ _) (Tu _ _ _ _ _)) (Tu _ _ _ _ _)) (Ya _ _)
theorem Ypy (w:World):Tj (LxW w) (fun b=>w.heap.size≤b) (some ⟨w.heap.size+1+1+1+1+1+1+1+1+1,0,none⟩) 3 3 LxF:=by
 have z1:=Nx w w.heap.size #[97] #[120] 5
 have z2:=Nx (Uq w w.heap.size #[97] #[120] 5) (w.heap.size+1+1+1) #[97] #[121] 7
 have z3:=Nx (Uq (Uq w w.heap.size #[97] #[120] 5) (w.heap.size+1+1+1) #[97] #[121] 7) (w.heap.size+1+1+1+1+1+1) #[98] #[120] 1
 have e1:=El w w.heap.size rfl w.heap.size (Nat.le_refl _) [97] [120] 5
 have e2:=El (Uq w w.heap.size #[97] #[120] 5) (w.heap.size+1+1+1) (by omega) w.heap.size (by omega) [97] [121] 7
 have e3:=El (Uq (Uq w w.heap.size #[97] #[120] 5) (w.heap.size+1+1+1) #[97] #[121] 7) (w.heap.size+1+1+1+1+1+1) (by omega) w.heap.size (by omega) [98] [120] 1
 have b3:=Tu (Uq (Uq w w.heap.size #[97] #[120] 5) (w.heap.size+1+1+1) #[97] #[121] 7) (w.heap.size+1+1+1+1+1+1) #[98] #[120] 1
 have m2:=Y1 _ _ _ _ _ _ ((Mv.Yc (Tu (Uq w w.heap.size #[97] #[120] 5) (w.heap.size+1+1+1) #[97] #[121] 7) _).trans (Mv.Yc b3 _)) e1
 have m3:=Y1 _ _ _ _ _ _ (Mv.Yc b3 _) e2
 exact Row.Yq2 (S:=fun b=>w.heap.size≤b) (E:=O8) (sz:=2) Y1 (Uq (Uq (Uq w w.heap.size #[97] #[120] 5) (w.heap.size+1+1+1) #[97] #[121] 7) (w.heap.size+1+1+1+1+1+1) #[98] #[120] 1) _ 60 3 LxF rfl rfl (by decide) _ (by omega) (by omega) (fun i x hi=>by
  match i,hi with
  | 0,hi=>simp [LxF] at hi; subst hi; exact m2
  | 1,hi=>simp [LxF] at hi; subst hi; exact m3
  | 2,hi=>simp [LxF] at hi; subst hi; exact e3
  | i+3,hi=>simp [LxF] at hi)
theorem M3:∀ {v:List Int}{P:List Pth},v.length≤P.length→(U1 v P).length=v.length
 | [],_,_=>by simp [U1]
 | _ :: _,[],h=>by simp at h
 | x :: v,p :: P,h=>by
  have:=M3 (v:=v) (P:=P) (by simpa using h)
  simp [U1,this]
theorem Ydm:∀ {v:List Int}{P:List Pth}{i:Nat}{x:Int}{p:Pth},v[i]?=some x→P[i]?=some p→(U1 v P)[i]?=some (upP p x)
 | [],_,_,_,_,h,_=>by simp at h
 | _ :: _,[],_,_,_,_,h=>by simp at h
 | y :: v,q :: P,0,x,p,h,h'=>by
  simp at h h';subst h h';rfl
 | y :: v,q :: P,i+1,x,p,h,h'=>by
  have:=Ydm (v:=v) (P:=P) (i:=i) (x:=x) (p:=p) (by simpa using h) (by simpa using h')
  simpa [U1] using this
theorem Ycj (w:World) (A:Option Addr) (n c:Nat) (t:TypeId) (g:Nat) (hg:g=w.heap.size):∀ j u,[Value.slice A n c][j]?=some u→(w.alloc (.cells #[.slice A n c] t)).cell? ((⟨g,0,none⟩ : Addr).add j)=some u:=by
 subst hg;intro j u hj;rw [Yt,Nat.zero_add,(Block.new w t #[.slice A n c]).cell j];simpa using hj
theorem Yil (A:Option Addr) (n c:Nat):∀ u∈[Value.slice A n c],u.oneCell'=true:=by
 intro u hu;simp at hu;subst hu;rfl
theorem E5 {P Q Av:Option Addr}{np cp nq cq nv cv:Nat}{f:List Pth}{v:List Int} (hp:Row Xr 1 w S P np cp f) (hv:Yx w w.heap.size Av nv cv v) (hl:nv≤np) (hn:nv≤1000) (hs:∀ p∈f,p.length≤1000000) :
  Calls Tryz.prog 85 #[.agg #[.slice P np cp,.slice Q nq cq],.slice Av nv cv] w (Told Xr 23 1 w (U1 v f)):=by
 have HVl:=hid hv.len
 have HPl:=hid hp.len
 have hb1:=Ya w (.cells #[.slice P np cp,.slice Q nq cq] 60)
 have hX:=Block.new w 60 #[.slice P np cp,.slice Q nq cq]
 have HP:=hid (hp.mv Z2 (Mv.Yc hb1 S))
 have HV:=hid (hv.Yc hb1)
 have HKl:Hid ((U1 v f).length=nv):=hid (by rw [M3 (by rw [HVl.out,HPl.out]; exact hl)]; exact HVl.out)
 have HS:=hid hs
 clear hp hv hs;go_enter Tryz.func85,Tryz.ntmps85;go_wp2_with fail;obtain ⟨bx,hbx⟩ : ∃ bx,w.heap.size=bx:=⟨_,rfl⟩
 have HB1:Hid (Below w.heap.size w (w.alloc (.cells #[.slice P np cp,.slice Q nq cq] 60))):=hid hb1
 clear hb1;rw [hbx] at hX ⊢;generalize w.alloc (.cells #[.slice P np cp,.slice Q nq cq] 60)=w1 at hX HP HV HB1 ⊢
 have KX:Hid (∀ y,Below w1.heap.size w1 y→y.cell? ⟨bx,0,none⟩=some (.slice P np cp)):=hid fun y hy=>(hX.below hy hX.lt).cell 0
 have HBx:=hid hbx
 clear hX hbx;go_loopw [5,6] (fun u i wr=>∃ k:Nat,k≤nv∧i=.int .i64 k∧Hid (Ys Xr 23 1 wr w1.heap.size (fun b=>w1.heap.size≤b) u ((U1 v f).take k))∧Below w1.heap.size w1 wr) (fun _ i _=>nv - (intOf i).toNat)
 case atStart=>exact ⟨0,Nat.zero_le _,rfl,hid (Ys.Zj _ _ _),Below.refl _ _⟩
 case round =>
  obtain ⟨k,hk,rfl,hO,hB⟩:=hrel
  have x0:=KX.out wr hB
  by_cases hlt:k<nv
  ·obtain ⟨b,o,A',n',c',p,rfl,_,_,gk,hr,hpe⟩:=(HP.out.mv Z2 (Mv.Yc hB S)).at1 (k:=k) (by omega)
   obtain ⟨b2,o2,x,rfl,hb2,gx,ex⟩:=(HV.out.Yc hB).at_ hlt
   have i0:(0:Int)≤(k:Int):=by omega
   have i1:(k:Int)<(nv:Int):=by omega
   have i2:(k:Int)<(np:Int):=by omega
   have hxk:v[k]?=some x:=by
    have h1:k<v.length:=by rw [HVl.out]; exact hlt
    rw [ex,List.getD_eq_getElem?_getD,List.getElem?_eq_getElem h1];rfl
   have hT:=hid (Xi (Ydm hxk hpe.out))
   have hpl:n'≤1000000:=by have h1:=HS.out p (List.mem_of_getElem? hpe.out); have h2:=hr.len; omega
   have HU:=hid (Yg3 (hr.Ea.drewN 1) x hpl)
   have hlo:=hO.out.lt
   have hz:=hB.size
   have hlb:Hid (((U1 v f).take k).length≤1000000):=hid (Nat.le_trans (List.length_take_le k _) (by omega))
   clear hr hxk ex hpe;go_wp2_with fail;go_region_law (first
    | (refine Az Z2 rfl _ _ rfl Ykd Tryz.underlying58 rfl (by decide) w1.heap.size _ _ _ rfl HO7.out _ rfl [.slice Ap na ca] rfl (upP p x) HC7.out (Yil _ _ _) HE7.out hlb.out HS7.out ?_; intro v' w8 hO8 hG8)
    | (go_simp; go_at_call 124; refine HU.out.mono ?_; rintro e w6 ⟨⟨vp,rfl,hvp⟩,hb6⟩; have hb6' : Below wr.heap.size wr w6:=(below_drewN (Below.refl _ wr) 1).trans hb6; obtain ⟨Ap,na,ca,rfl,hrp⟩ : ∃ A n c,vp=.slice A n c∧Row Yy 1 w6 (fun k=>wr.heap.size≤k∧vp.ownBlock=some k) A n c (upP p x):=(by obtain ⟨A,c,e,h⟩:=hvp.row; exact ⟨A,_,c,e,h⟩); have hb7:=hb6'.trans ((Ya w6 (.cells #[.slice Ap na ca] 23)).mono hb6'.size); have HB7:=hid hb7; have HO7:=hid (hO.out.below Z2 hb7); have HC7:=hid (Ycj w6 Ap na ca 23 w6.heap.size rfl); have HE7:Hid (Xr (w6.alloc (.cells #[.slice Ap na ca] 23)) (fun b=>w1.heap.size≤b∧u5.ownBlock≠some b) [.slice Ap na ca] (upP p x)):=hid ⟨Ap,na,ca,rfl,hrp.mv Yp ((Mv.alloc w6 _ _).trans (Mv.to _ fun b hb _=>⟨Nat.le_trans hz hb.1,fun e=>by have:=(hlo b e).2; have:=hb.1; omega⟩))⟩; have HS7:Hid (w1.heap.size≤(w6.alloc (.cells #[.slice Ap na ca] 23)).heap.size):=hid (Nat.le_trans hz hb7.size); clear hvp hrp hb6 hb6' hb7))
   all_goals
    have hF:=hid (show Ys Xr 23 1 w8 w1.heap.size (fun b=>w1.heap.size≤b) v' ((U1 v f).take (k+1))∧Below w1.heap.size w1 w8 from ⟨by rw [hT.out]; exact hO8,(hB.trans (HB7.out.mono hz)).trans (hG8.Y4 HS7.out fun j e=>(hlo j e).1)⟩)
    clear hO8 hG8 HE7 HS7 HC7 HO7 HB7 x0 gk gx hO;go_wp2_with fail;go_roundw
    case rel=>exact ⟨k+1,by omega,by go_num,hid hF.out.1,hF.out.2⟩
    case measure=>simp [intOf]; omega
  ·have hall:(U1 v f).take k=U1 v f:=List.take_of_length_le (by have:=HKl.out; omega)
   have hz1:w.heap.size≤w1.heap.size:=HB1.out.size
   have hF:=hid (show Ys Xr 23 1 wr w.heap.size (fun b=>w.heap.size≤b) u5 (U1 v f)∧Below w.heap.size w wr from ⟨by
    have h1:=hO.out
    rw [hall] at h1;exact (h1.low hz1).to Z2 fun b hb _=>Nat.le_trans hz1 hb,Yb HB1.out hB⟩)
   clear hO hall;go_wp2_with fail;go_ret;exact ⟨_,rfl,hF.out.1,hF.out.2⟩
def LyT (w:World):World:=(((((w.alloc (.cells #[.string ⟨#[108]⟩,.string ⟨#[109]⟩] 9)).alloc (.cells #[.string ⟨#[100]⟩,.slice (some ⟨w.heap.size,0,none⟩) 2 2] 54)).alloc (.cells #[.string ⟨#[118]⟩] 9)).alloc (.cells #[.int .i64 1] 3)).alloc (.cells #[.int .i64 0] 3)).alloc (.cells #[.slice (some ⟨w.heap.size+1+1+1,0,none⟩) 1 1,.slice (some ⟨w.heap.size+1+1+1+1,0,none⟩) 1 1] 27)
def LyS (w:World):World:=(LyT w).alloc (.cells #[.slice (some ⟨w.heap.size+1,0,none⟩) 1 1,.slice (some ⟨w.heap.size+1+1,0,none⟩) 1 1,.slice (some ⟨w.heap.size+1+1+1+1+1,0,none⟩) 2 2] 26)
theorem Yb1 (w:World):(LyT w).heap.size=w.heap.size+1+1+1+1+1+1:=by simp [LyT]
theorem Yis (w:World):Below w.heap.size w (LyT w):=Yb (Yb (Yb (Yb (Yb (Ya w _) (Ya _ _)) (Ya _ _)) (Ya _ _)) (Ya _ _)) (Ya _ _)
theorem Yir (w:World):Below w.heap.size w (LyS w):=Yb (Yis w) (Ya _ _)
theorem Yp1 (w:World):Wm (LyT w) (fun b=>b<(LyT w).heap.size) (some ⟨w.heap.size+1,0,none⟩) 1 1 (some ⟨w.heap.size+1+1,0,none⟩) 1 1 (some ⟨w.heap.size+1+1+1+1+1,0,none⟩) 2 2 LxD LxM LyV:=by
 have a0:=(Zn.Yh9 w [[108],[109]] #[.string ⟨#[108]⟩,.string ⟨#[109]⟩] rfl 9 2 rfl (by decide) w.heap.size rfl).row
 have a1:=Row.lit (E:=Po) (sz:=2) Wy (w.alloc (.cells #[.string ⟨#[108]⟩,.string ⟨#[109]⟩] 9)) #[.string ⟨#[100]⟩,.slice (some ⟨w.heap.size,0,none⟩) 2 2] 54 1 LxD rfl rfl (by decide) (w.heap.size+1) (by simp) (fun i x hi=>by
  match i,hi with
  | 0,hi=>simp [LxD] at hi; subst hi; exact ⟨rfl,_,_,_,rfl,a0⟩
  | i+1,hi=>simp [LxD] at hi)
 generalize hw2:(w.alloc (.cells #[.string ⟨#[108]⟩,.string ⟨#[109]⟩] 9)).alloc (.cells #[.string ⟨#[100]⟩,.slice (some ⟨w.heap.size,0,none⟩) 2 2] 54)=w2 at a1
 have z2:w2.heap.size=w.heap.size+1+1:=by rw [← hw2]; simp
 have a2:=(Zn.Yh9 w2 [[118]] #[.string ⟨#[118]⟩] rfl 9 1 rfl (by decide) (w.heap.size+1+1) (by rw [z2])).row
 have b1:=a1.up Wy (.cells #[.string ⟨#[118]⟩] 9)
 generalize hw3:w2.alloc (.cells #[.string ⟨#[118]⟩] 9)=w3 at a2 b1
 have z3:w3.heap.size=w.heap.size+1+1+1:=by rw [← hw3,World.size_alloc,z2]
 have a3:=Row.lit (E:=Yr) (sz:=1) Yh w3 #[.int .i64 1] 3 1 [1] rfl rfl (by decide) (w.heap.size+1+1+1) (by rw [z3]) (fun i x hi=>by
  match i,hi with
  | 0,hi=>simp at hi; subst hi; rfl
  | i+1,hi=>simp at hi)
 have b2:=a2.up Yp (.cells #[.int .i64 1] 3)
 have c1:=b1.up Wy (.cells #[.int .i64 1] 3)
 generalize hw4:w3.alloc (.cells #[.int .i64 1] 3)=w4 at a3 b2 c1
 have z4:w4.heap.size=w.heap.size+1+1+1+1:=by rw [← hw4,World.size_alloc,z3]
 have a5:=Row.lit (E:=Yr) (sz:=1) Yh w4 #[.int .i64 0] 3 1 [0] rfl rfl (by decide) (w.heap.size+1+1+1+1) (by rw [z4]) (fun i x hi=>by
  match i,hi with
  | 0,hi=>simp at hi; subst hi; rfl
  | i+1,hi=>simp at hi)
 have b4:=a3.up Yh (.cells #[.int .i64 0] 3)
 have b3:=b2.up Yp (.cells #[.int .i64 0] 3)
 have d1:=c1.up Wy (.cells #[.int .i64 0] 3)
 generalize hw5:w4.alloc (.cells #[.int .i64 0] 3)=w5 at a5 b4 b3 d1
 have z5:w5.heap.size=w.heap.size+1+1+1+1+1:=by rw [← hw5,World.size_alloc,z4]
 have a4:=Row.lit (E:=Zf Yr 1) (sz:=1) (Xm Yh) w5 #[.slice (some ⟨w.heap.size+1+1+1,0,none⟩) 1 1,.slice (some ⟨w.heap.size+1+1+1+1,0,none⟩) 1 1] 27 2 LyV rfl rfl (by decide) (w.heap.size+1+1+1+1+1) (by rw [z5]) (fun i x hi=>by
  match i,hi with
  | 0,hi=>simp [LyV] at hi; subst hi; exact ⟨_,_,_,rfl,b4⟩
  | 1,hi=>simp [LyV] at hi; subst hi; exact ⟨_,_,_,rfl,a5⟩
  | i+2,hi=>simp [LyV] at hi)
 have hw:LyT w=w5.alloc (.cells #[.slice (some ⟨w.heap.size+1+1+1,0,none⟩) 1 1,.slice (some ⟨w.heap.size+1+1+1+1,0,none⟩) 1 1] 27):=by
  subst hw5 hw4 hw3 hw2;rfl
 rw [hw];exact ⟨d1.up Wy _,b3.up Yp _,a4⟩
theorem Yp0 (w:World):Wm (LyS w) (fun b=>b<(LyS w).heap.size) (some ⟨w.heap.size+1,0,none⟩) 1 1 (some ⟨w.heap.size+1+1,0,none⟩) 1 1 (some ⟨w.heap.size+1+1+1+1+1,0,none⟩) 2 2 LxD LxM LyV:=by
 have h:=Yp1 w
 exact ⟨h.d.up Wy _,h.m.up Yp _,h.v.up (Xm Yh) _⟩
theorem D7 (w:World):Block (LyS w) (w.heap.size+1+1+1+1+1+1) 26 #[.slice (some ⟨w.heap.size+1,0,none⟩) 1 1,.slice (some ⟨w.heap.size+1+1,0,none⟩) 1 1,.slice (some ⟨w.heap.size+1+1+1+1+1,0,none⟩) 2 2]:=by
 have h:=Block.new (LyT w) 26 #[.slice (some ⟨w.heap.size+1,0,none⟩) 1 1,.slice (some ⟨w.heap.size+1+1,0,none⟩) 1 1,.slice (some ⟨w.heap.size+1+1+1+1+1,0,none⟩) 2 2]
 rwa [Yb1] at h
def LyQ (w:World) (n:Nat):World:=(w.alloc (.cells #[.int .i64 1] 3)).alloc (.cells #[.slice (some ⟨n,0,none⟩) 1 1,.slice none 0 0] 30)
theorem Yip (w:World) (n:Nat):Below w.heap.size w (LyQ w n):=Yb (Ya w _) (Ya _ _)
theorem Ypz (w:World) (n:Nat) (hn:n=w.heap.size):V0 (LyQ w n) (fun b=>b<(LyQ w n).heap.size) (some ⟨n,0,none⟩) 1 1 none 0 0 ([1],[]):=by
 subst hn;exact ⟨(Row.lit (E:=Yr) (sz:=1) Yh w #[.int .i64 1] 3 1 [1] rfl rfl (by decide) w.heap.size rfl (fun i x hi=>by
  match i,hi with
  | 0,hi=>simp at hi; subst hi; rfl
  | i+1,hi=>simp at hi)).up Yh _,Row.none_ _ _⟩
theorem Yiq (w:World) (n:Nat) (hn:n=w.heap.size):Block (LyQ w n) (n+1) 30 #[.slice (some ⟨n,0,none⟩) 1 1,.slice none 0 0]:=by
 subst hn
 have h:=Block.new (w.alloc (.cells #[.int .i64 1] 3)) 30 #[.slice (some ⟨w.heap.size,0,none⟩) 1 1,.slice none 0 0]
 rwa [World.size_alloc] at h
theorem LtM.begin (W m:Nat) (h:Block w g 82 #[X1,X2,X3,.slice none 0 0,.slice none 0 0,.int .i64 0]):LtM w g X1 X2 X3 (.slice none 0 0) (.slice none 0 0) [] [] [] [] W m [] 0 :=
 ⟨h,World.ownsRow_nil _ _ _ _,World.ownsRow_nil _ _ _ _,Dcs.Zj w,Cbs.Zj w W m,fun d hd=>by simp at hd⟩
theorem Lu.begin (h:B≤g):Lu B g (.slice none 0 0) (.slice none 0 0) [] []:=by
 rintro k (rfl | hk | hk | ⟨d,hd,_⟩ | ⟨d,hd,_⟩)
 ·exact h
 ·cases hk
 ·cases hk
 ·simp at hd
 ·simp at hd
theorem Ob (w:World) (y:Value) (t:TypeId) (g:Nat) (hg:g=w.heap.size):∀ j u,[y][j]?=some u→(w.alloc (.cells #[y] t)).cell? ((⟨g,0,none⟩ : Addr).add j)=some u:=by
 subst hg;intro j u hj
 match j,hj with
 | 0,hj=>simp at hj; subst hj; simp [Yt,Zk]
 | j+1,hj=>simp at hj
theorem H8 (g:Nat):∀ u∈[Xo g],u.oneCell'=true:=by
 intro u hu;rw [List.mem_singleton.1 hu];rfl
theorem Bh {l:List Txt} (h:D[k]?=some (x,l)):(Yk D).take k++[l.length]=(Yk D).take (k+1):=by
 unfold Yk;rw [List.take_add_one,List.getElem?_map,h];rfl
def Yhm (w:World) (D:List Yg) (M:List Txt) (V:List (List Int)) (e:Ending) (w' : World):Prop :=
 ∃ g F R,e=.returned (.tuple #[.pointer (some ⟨g,0,none⟩),.int .i64 0])∧Lt w' R g F D M V (D.map fun _=>[]) ((Ye D V).map fun _=>[]) 0∧(∀ k,F k→w.heap.size≤k)∧(∀ k,R k→w.heap.size≤k∧k<w'.heap.size)∧Below w.heap.size w w'
theorem Yra {c1 c2 c3:Nat} (h:Wm w R A1 n1 c1 A2 n2 c2 A3 n3 c3 D M V) (hf:Sq D) (hm:∀ s∈M,s.length≤maxLen) (hn1:n1≤1000) (hno:¬ Z3 D M V) :
  Calls Tryz.prog 24 #[V6 A1 n1 c1 A2 n2 c2 A3 n3 c3] w fun e w'=>e=.returned (.tuple #[.pointer none,.int .i64 11])∧Below w.heap.size w w':=by
 have hb0:=(Ya w (.cells #[.slice A1 n1 c1,.slice A2 n2 c2,.slice A3 n3 c3] 26))
 have hbl:=(Block.new w 26 #[.slice A1 n1 c1,.slice A2 n2 c2,.slice A3 n3 c3])
 have HX:=hid (Ti (h.Yc hb0).has hf hm hn1)
 rw [decide_eq_false hno] at HX
 have k0:=hbl.cell 0
 have k1:=hbl.cell 1
 have k2:=hbl.cell 2
 clear h hf hm hno;go_enter Tryz.func24,Tryz.ntmps24;go_wp2_with fail;generalize w.alloc (.cells #[.slice A1 n1 c1,.slice A2 n2 c2,.slice A3 n3 c3] 26)=W0 at hb0 hbl HX k0 k1 k2 ⊢;go_wp2_with fail;refine HX.out.mono ?_;rintro e w1 ⟨rfl,hB1⟩;go_wp2_with fail;go_ret2;exact ⟨rfl,hb0.trans (hB1.mono hb0.size)⟩
theorem Yov {c1 c2 c3:Nat} (h:Wm w R A1 n1 c1 A2 n2 c2 A3 n3 c3 D M V) (hf:Sq D) (hm:∀ s∈M,s.length≤maxLen) (hyes:Z3 D M V) :
  Calls Tryz.prog 24 #[V6 A1 n1 c1 A2 n2 c2 A3 n3 c3] w (Yhm w D M V):=by
 have hb0:=(Ya w (.cells #[.slice A1 n1 c1,.slice A2 n2 c2,.slice A3 n3 c3] 26))
 have hbl:=(Block.new w 26 #[.slice A1 n1 c1,.slice A2 n2 c2,.slice A3 n3 c3])
 have hdims:=W4 hyes
 have hsm:=S8 hyes
 have hn1:=h.d.len
 have hn3:=h.v.len
 have HX:=hid (Ti (h.Yc hb0).has hf hm (by omega))
 rw [decide_eq_true hyes] at HX
 have HS0:=hid (h.Yc hb0)
 have HL3:Hid (∀ d∈D,1≤d.2.length∧d.2.length≤3):=hid fun d hd=>⟨(hyes.1.1 d hd).1,(hyes.1.1 d hd).2.1⟩
 have HV7:=hid (Vt hyes)
 have Hn:Hid (D.length=n1∧V.length=n3):=hid ⟨hn1,hn3⟩
 have hn3' : n3≤1000:=by have:=hsm.v.1; omega
 have HSm:=hid hsm
 have HY:=hid hyes
 have k0:=hbl.cell 0
 have k1:=hbl.cell 1
 have k2:=hbl.cell 2
 have hd3:n1≤3:=by omega
 have hdW:Hid (1≤D.length∧D.length≤3∧1≤M.length∧M.length≤2):=hid hdims
 clear h hf hm hyes hdims hsm hn1 hn3;go_enter Tryz.func24,Tryz.ntmps24;go_wp2_with fail;generalize w.alloc (.cells #[.slice A1 n1 c1,.slice A2 n2 c2,.slice A3 n3 c3] 26)=W0 at hb0 hbl HX HS0 k0 k1 k2 ⊢;go_wp2_with fail;refine HX.out.mono ?_;rintro e w1 ⟨rfl,hB1⟩
 have hbl1:=hbl.below hB1 hbl.lt
 have hB1':=hb0.trans (hB1.mono hb0.size)
 have k0:=hbl1.cell 0
 have k1:=hbl1.cell 1
 have k2:=hbl1.cell 2
 have HS1:=hid (HS0.out.Yc hB1)
 have HC:=hid (Fb HS1.out HSm.out)
 clear hbl HX HS0 hB1;go_wp2_with fail;refine HC.out.mono ?_;rintro e w2 ⟨⟨v1,v2,v3,rfl,hO⟩,hB2⟩
 have hbl2:=hbl1.below hB2 hbl1.lt
 have hlt1:=hbl1.lt
 have hz2:=hB2.size
 have HS2:=hid ((HS1.out.Yc hB2).mv (Mv.to w2 (S':=fun b=>R b∧b<w2.heap.size) fun b hb hl=>⟨hb,hl⟩))
 obtain ⟨B1,d1,B2,d2,B3,d3,rfl,rfl,rfl,hSR⟩:=hO.read
 have HSR:=hid hSR
 have hb3:=Ya w2 (.cells #[.slice B1 D.length d1,.slice B2 M.length d2,.slice B3 V.length d3,.slice none 0 0,.slice none 0 0,.int .i64 0] 82)
 have hg3:=Block.new w2 82 #[.slice B1 D.length d1,.slice B2 M.length d2,.slice B3 V.length d3,.slice none 0 0,.slice none 0 0,.int .i64 0]
 have hbl3:=hbl2.below hb3 hbl2.lt
 have k0:=hbl3.cell 0
 have hLB:=LtM.begin D.length M.length hg3
 have hlt2:=hbl2.lt
 have HBl2:=hid hbl2
 obtain ⟨w3,hw3⟩ : ∃ w3,w3=w2.alloc (.cells #[.slice B1 D.length d1,.slice B2 M.length d2,.slice B3 V.length d3,.slice none 0 0,.slice none 0 0,.int .i64 0] 82):=⟨_,rfl⟩
 have HL0:Hid (∃ dv ds,LtM w3 w2.heap.size (.slice B1 D.length d1) (.slice B2 M.length d2) (.slice B3 V.length d3) dv (.slice none 0 0) ds [] ((Yk D).take 0) (List.replicate 0 []) D.length M.length [] 0∧Lu w2.heap.size w2.heap.size dv (.slice none 0 0) ds []):=by rw [hw3]; exact hid ⟨_,_,hLB,Lu.begin (Nat.le_refl _)⟩
 clear hbl1 hO hSR HC hbl2 hg3 hLB hbl3;go_wp2_with fail;rw [← hw3] at hb3 k0 ⊢;clear hw3;go_loopw [17] (fun i wr=>∃ k:Nat,k≤n1∧i=.int .i64 k∧Hid (∃ dv ds,LtM wr w2.heap.size (.slice B1 D.length d1) (.slice B2 M.length d2) (.slice B3 V.length d3) dv (.slice none 0 0) ds [] ((Yk D).take k) (List.replicate k []) D.length M.length [] 0∧Lu w2.heap.size w2.heap.size dv (.slice none 0 0) ds [])∧Below w2.heap.size w2 wr) (fun i _=>n1 - (intOf i).toNat)
 case atStart=>exact ⟨0,Nat.zero_le _,rfl,HL0,hb3⟩
 case round =>
  obtain ⟨k,hk,rfl,hO,hB⟩:=hrel
  by_cases hlt:k<n1
  ·obtain ⟨b,o,A',n',c',x,l,rfl,g0,g1,hl,he⟩:=(HS2.out.d.mv Wy (Mv.below hB fun b hb=>hb.2)).atD hlt
   have i0:(0:Int)≤(k:Int):=by omega
   have i1:(k:Int)<(n1:Int):=by omega
   obtain ⟨s1,s2⟩:=HL3.out (x,l) (List.mem_of_getElem? he.out)
   have hll:=hl.len
   have hT:=hid (Bh he.out)
   obtain ⟨dv,ds,hLt,hF⟩:=hO.out
   have hdl:=hLt.dcs.len
   rw [List.length_take,show (Yk D).length=n1 from by unfold Yk; rw [List.length_map,Hn.out.1]] at hdl
   have hdk:ds.length=k:=by omega
   obtain ⟨Ad,cd,edv⟩:=Sj hLt.dr;rw [hdk] at edv;subst edv
   have hb0':=Ya wr (.cells #[.string ⟨x.toArray⟩,.slice A' n' c'] 54)
   have hdm:=Yhy wr (.string ⟨x.toArray⟩) (.slice A' n' c')
   have e0:=hdm.cell 0
   have e1:=hdm.cell 1
   have hLt0:=hLt.below hb0'
   have hB0:=hB.trans (hb0'.mono hB.size)
   have p0:=hLt0.c3
   have HLt:=hid hLt0
   have HF:=hid hF
   clear hl hO hB hLt hLt0 hF hdl;go_wp2_with fail;generalize wr.alloc (.cells #[.string ⟨x.toArray⟩,.slice A' n' c'] 54)=W at hb0' hdm hB0 e0 e1 p0 HLt ⊢
   have hn' : 1≤n'∧n'≤3:=by have h1:1≤l.length:=s1; have h2:l.length≤3:=s2; omega
   have HN:=hid (Yrb W.drew hn')
   have hdr:=hid (show ∀ y,Below W.heap.size W y→y.ownsRow 0 91 1 (.slice Ad k cd) k (ds.map fun d=>Xo d.1) from fun y hy=>by have:=(HLt.out.below hy).dr; rwa [hdk] at this)
   have HB0:=hid hB0
   clear hdm hb0' hB0 hn';go_region_law (first
    | (refine Ja rfl _ _ rfl Ydc Tryz.underlying79 rfl (by decide) 0 (.slice Ad k cd) k _ rfl HR7.out _ rfl [.pointer (some ⟨W.heap.size+1,0,none⟩)] rfl HC7.out (H8 _) (by omega) (Nat.zero_le _) ?_; intro v' w8 hO8 hG8; obtain ⟨A8,c8,e8⟩:=Sj hO8; subst e8; obtain ⟨hb8,hM8,hF8⟩:=HLt.out.Wx (d:=(W.heap.size+1,.slice none 0 0,W.heap.size)) (Q:=[]) HB7.out HD7.out HF7.out (by rw [hdk]; exact hO8) hG8; have p8:w8.cell? ⟨w2.heap.size,3,none⟩=some (.slice Ad k cd):=hb8.cell 3; have f8:=hb8.free 3; have HM8:=hid hM8; have HF8:=hid (hF8 w2.heap.size HF.out HB0.out.size); clear hM8 hF8 hb8 hO8 hG8)
    | (go_simp; go_at_call 45; refine HN.out.mono ?_; rintro e w6 ⟨rfl,hd6,hB6⟩; have hb6:Below W.heap.size W w6:=(below_drewN (Below.refl _ W) 1).trans hB6; have p6:w6.cell? ⟨w2.heap.size,3,none⟩=some (.slice Ad k cd):=(HLt.out.below hb6).c3; have hb7:=hb6.trans ((Ya w6 (.cells #[.pointer (some ⟨W.heap.size+1,0,none⟩)] 91)).mono hb6.size); have HB7:=hid hb7; have pa:(w6.alloc (.cells #[.pointer (some ⟨W.heap.size+1,0,none⟩)] 91)).cell? ⟨w2.heap.size,3,none⟩=some (.slice Ad k cd):=(HLt.out.below hb7).c3; have HR7:=hid (hdr.out _ hb7); have HC7:=hid (Ob w6 (.pointer (some ⟨W.heap.size+1,0,none⟩)) 91 w6.heap.size rfl); have HD7:=hid ((hd6.below (Ya w6 (.cells #[.pointer (some ⟨W.heap.size+1,0,none⟩)] 91))).low (Nat.zero_le _)); have HF7:Hid (∀ q,Wo (W.heap.size+1,.slice none 0 0,W.heap.size) q→W.heap.size≤q):=hid (fun q hq=>(hd6.Ki hq).1); clear hd6 hB6 hb6 hb7))
   all_goals
    have hFin:=hid (show (∃ dv ds,LtM (w8.setCell ⟨w2.heap.size,3,none⟩ (.slice A8 (k+1) c8)) w2.heap.size (.slice B1 D.length d1) (.slice B2 M.length d2) (.slice B3 V.length d3) dv (.slice none 0 0) ds [] ((Yk D).take (k+1)) (List.replicate (k+1) []) D.length M.length [] 0∧Lu w2.heap.size w2.heap.size dv (.slice none 0 0) ds [])∧Below w2.heap.size w2 (w8.setCell ⟨w2.heap.size,3,none⟩ (.slice A8 (k+1) c8)) from
     ⟨⟨_,_,by have h:=HM8.out; rw [show (Yk D).take k++[n']=(Yk D).take (k+1) by rw [← hT.out,hll],show List.replicate k ([] : List Pth)++[[]]=List.replicate (k+1) [] from List.replicate_succ'.symm] at h; exact h,HF8.out.1⟩,HB0.out.trans HF8.out.2⟩)
    clear HM8 HF8 p8 f8 p6 pa HB7 HR7 HC7 HD7 HF7 p0 HLt HF HN hdr HB0;go_wp2_with fail;go_roundw
    case rel=>exact ⟨k+1,by omega,by go_num,hid hFin.out.1,hFin.out.2⟩
    case measure=>simp [intOf]; omega
  ·obtain rfl:k=n1:=by omega
   obtain ⟨dv,ds,hLt,hF⟩:=hO.out
   have hNl:(Yk D).length=k:=by unfold Yk; rw [List.length_map,Hn.out.1]
   rw [List.take_of_length_le (by omega)] at hLt
   have hbs:=HBl2.out.below hB hlt2
   have k0:=hbs.cell 0
   have k1:=hbs.cell 1
   have k2:=hbs.cell 2
   have HSr:=hid (HS2.out.mv (Mv.below hB fun b hb=>hb.2))
   have HVw:=hid (Jf HSr.out.has (by omega) (by omega) HSm.out.v.2)
   have HLt:=hid hLt
   have HF:=hid hF
   clear hLt hF hO hbs;go_wp2_with fail;refine HVw.out.mono ?_;rintro e w4 ⟨⟨v,rfl,hv⟩,hB4⟩;obtain ⟨Av,cv,rfl,_⟩:=hv.form;obtain ⟨nv,hnv⟩ : ∃ nv,Hid ((Ye D V).length=nv):=⟨_,hid rfl⟩
   have hnv7:nv≤7:=by have:=HV7.out; rw [hnv.out] at this; exact this
   have hB5:=hB.trans (hB4.mono hB.size)
   have HL2:Hid (∃ vv vs,LtM w4 w2.heap.size (.slice B1 D.length d1) (.slice B2 M.length d2) (.slice B3 V.length d3) dv vv ds vs (Yk D) (List.replicate k []) D.length M.length (List.replicate 0 []) 0∧Lu w2.heap.size w2.heap.size dv vv ds vs):=hid ⟨_,_,HLt.out.below hB4,HF.out⟩
   rw [hnv.out];clear hv HVw HLt HF hB4 hB;go_wp2_with fail;go_loopw [38] (fun i wr=>∃ j:Nat,j≤nv∧i=.int .i64 j∧Hid (∃ vv vs,LtM wr w2.heap.size (.slice B1 D.length d1) (.slice B2 M.length d2) (.slice B3 V.length d3) dv vv ds vs (Yk D) (List.replicate k []) D.length M.length (List.replicate j []) 0∧Lu w2.heap.size w2.heap.size dv vv ds vs)∧Below w2.heap.size w2 wr) (fun i _=>nv - (intOf i).toNat)
   case atStart=>exact ⟨0,Nat.zero_le _,rfl,HL2,hB5⟩
   case round =>
    obtain ⟨j,hj,rfl,hO,hB⟩:=hrel
    by_cases hlt:j<nv
    ·have i0:(0:Int)≤(j:Int):=by omega
     have i1:(j:Int)<(nv:Int):=by omega
     obtain ⟨vv,vs,hLt,hF⟩:=hO.out
     have hvl:=hLt.cbs.len
     rw [List.length_replicate] at hvl;obtain ⟨Ad,cd,edv⟩:=Sj hLt.vr;rw [hvl] at edv;subst edv
     have p0:=hLt.c4
     have hLd:=hLt.drewN 1
     have HN:=hid (Fq hLd.c0 hLd.c1 hdW.out (by have:=hLd.blk.lt; exact this))
     have hdr:=hid (show ∀ y,Below wr.heap.size wr y→y.ownsRow 0 78 1 (.slice Ad j cd) j (vs.map fun d=>Xo d.1) from fun y hy=>by have:=(hLt.below hy).vr; rwa [hvl] at this)
     have HLt:=hid hLt
     have HF:=hid hF
     have HB0:=hid hB
     clear hO hB hLt hF hLd;go_wp2_with fail;go_region_law (first
      | (refine Ja rfl _ _ rfl Ynm Tryz.underlying80 rfl (by decide) 0 (.slice Ad j cd) j _ rfl HR7.out _ rfl [.pointer (some ⟨gq,0,none⟩)] rfl HC7.out (H8 _) (by omega) (Nat.zero_le _) ?_; intro v' w8 hO8 hG8; obtain ⟨A8,c8,e8⟩:=Sj hO8; subst e8; obtain ⟨hb8,hM8,hF8⟩:=HLt.out.Mg (c:=(gq,bq)) (C:=[]) HB7.out HD7.out HF7.out (by rw [hvl]; exact hO8) hG8; have p8:w8.cell? ⟨w2.heap.size,4,none⟩=some (.slice Ad j cd):=hb8.cell 4; have f8:=hb8.free 4; have HM8:=hid hM8; have HF8:=hid (hF8 w2.heap.size HF.out HB0.out.size); clear hM8 hF8 hb8 hO8 hG8)
      | (go_simp; go_at_call 46; refine HN.out.mono ?_; rintro e w6 ⟨⟨v,rfl,gq,bq,rfl,hd6,hg1,hg2⟩,hB6⟩; have hb6:Below wr.heap.size wr w6:=(below_drewN (Below.refl _ wr) 1).trans hB6; have p6:w6.cell? ⟨w2.heap.size,4,none⟩=some (.slice Ad j cd):=(HLt.out.below hb6).c4; have hb7:=hb6.trans ((Ya w6 (.cells #[.pointer (some ⟨gq,0,none⟩)] 78)).mono hb6.size); have HB7:=hid hb7; have pa:(w6.alloc (.cells #[.pointer (some ⟨gq,0,none⟩)] 78)).cell? ⟨w2.heap.size,4,none⟩=some (.slice Ad j cd):=(HLt.out.below hb7).c4; have HR7:=hid (hdr.out _ hb7); have HC7:=hid (Ob w6 (.pointer (some ⟨gq,0,none⟩)) 78 w6.heap.size rfl); have HD7:=hid (hd6.Yc (Ya w6 (.cells #[.pointer (some ⟨gq,0,none⟩)] 78))); have HF7:Hid (∀ q,V2 (gq,bq) q→wr.heap.size≤q):=hid (fun q hq=>by rcases hq with rfl | rfl; exact hg1; exact hg2); clear hd6 hB6 hb6 hb7 hg1 hg2))
     all_goals
      have hFin:=hid (show (∃ vv vs,LtM (w8.setCell ⟨w2.heap.size,4,none⟩ (.slice A8 (j+1) c8)) w2.heap.size (.slice B1 D.length d1) (.slice B2 M.length d2) (.slice B3 V.length d3) dv vv ds vs (Yk D) (List.replicate k []) D.length M.length (List.replicate (j+1) []) 0∧Lu w2.heap.size w2.heap.size dv vv ds vs)∧Below w2.heap.size w2 (w8.setCell ⟨w2.heap.size,4,none⟩ (.slice A8 (j+1) c8)) from
       ⟨⟨_,_,by have h:=HM8.out; rw [show List.replicate j ([] : Cub)++[[]]=List.replicate (j+1) [] from List.replicate_succ'.symm] at h; exact h,HF8.out.1⟩,HB0.out.trans HF8.out.2⟩)
      clear HM8 HF8 p8 f8 p6 pa HB7 HR7 HC7 HD7 HF7 p0 HLt HF HN hdr HB0;go_wp2_with fail;go_roundw
      case rel=>exact ⟨j+1,by omega,by go_num,hid hFin.out.1,hFin.out.2⟩
      case measure=>simp [intOf]; omega
    ·obtain rfl:j=nv:=by omega
     have hFin:=hid (show Yhm w D M V (.returned (.tuple #[.pointer (some ⟨w2.heap.size,0,none⟩),.int .i64 0])) wr from by
      obtain ⟨vv,vs,hLt,hF⟩:=hO.out
      have hw:Below w.heap.size w w2:=hB1'.trans (hB2.mono hB1'.size)
      refine ⟨w2.heap.size,Zg w2.heap.size dv vv ds vs,fun q=>w1.heap.size≤q∧q<w2.heap.size,rfl,⟨dv,vv,ds,vs,B1,D.length,d1,B2,M.length,d2,B3,V.length,d3,?_,?_,fun _=>Iff.rfl,fun q hq hq'=>?_,HY.out,by rw [List.length_map]⟩,fun q hq=>?_,fun q hq=>⟨Nat.le_trans hB1'.size hq.1,Nat.lt_of_lt_of_le hq.2 hB.size⟩,hw.trans (hB.mono hw.size)⟩
      ·rw [show D.map (fun _=>([] : List Pth))=List.replicate k [] by rw [List.map_const',Hn.out.1],show (Ye D V).map (fun _=>([] : Cub))=List.replicate j [] by rw [List.map_const',hnv.out]]
       exact hLt
      ·exact HSR.out.mv (Mv.below hB fun b hb=>hb.2)
      ·have:=hF q hq'
       omega
      ·have:=hF q hq
       have:=hw.size
       omega)
     clear hO hB;go_wp2_with fail;go_ret2;exact hFin.out
section
section
variable {w w' : World}{g:Nat}{X1 X2 X3 dv vv:Value}{ds:List DAt}{vs:List CAt}{N:List Nat}{Qs:List (List Pth)}{W m:Nat}{Cs:List Cub}{cnt:Int}
theorem M7 {α β:Type}{f:α→β}{L:List α}{i:Nat}{x y:α}(h:L[i]?=some x) (e:f y=f x):(L.set i y).map f=L.map f:=by
 refine List.ext_getElem? fun j=>?_
 rw [List.getElem?_map,List.getElem?_map,List.getElem?_set]
 by_cases hij:i=j
 ·subst hij
  rw [if_pos rfl,if_pos (List.getElem?_eq_some_iff.1 h).1,h];simp [e]
 ·rw [if_neg hij]
theorem LtM.Yrt (h:LtM w g X1 X2 X3 dv vv ds vs N Qs W m Cs cnt) {i:Nat}{d:DAt}(hi:ds[i]?=some d) (hc:Chg (Wo d) w w') {pv' : Value}{Q' : List Pth}(hd:Dc w' 0 d.1 pv' d.2.2 (N.getD i 0) Q') (hf:∀ k,pv'.ownBlock=some k→d.2.1.ownBlock=some k∨w.heap.size≤k) :
  LtM w' g X1 X2 X3 dv vv (ds.set i (d.1,pv',d.2.2)) vs N (Qs.set i Q') W m Cs cnt∧∀ k,Zg g dv vv (ds.set i (d.1,pv',d.2.2)) vs k→Zg g dv vv ds vs k∨w.heap.size≤k:=by
 have hm:=List.mem_of_getElem? hi
 have hf' : ∀ k,Wo (d.1,pv',d.2.2) k→Wo d k∨w.heap.size≤k:=by
  rintro k (hk | hk | hk)
  ·exact .inl (.inl hk)
  ·rcases hf k hk with h2 | h2
   ·exact .inl (.inr (.inl h2))
   ·exact .inr h2
  ·exact .inl (.inr (.inr hk))
 refine ⟨⟨h.blk.chg hc (h.d_g hm),?_,hc.row h.vr fun k hk hk'=>Te h.vr (h.dcs.at_ i d hi) (by decide) (by decide) hk hk',h.dcs.Yo hi hc hd hf',h.cbs.chg hc fun c hc' k hk hk'=>h.apart d hm c hc' k hk' hk,?_⟩,?_⟩
 ·rw [List.length_set,M7 (f:=fun d:DAt=>Xo d.1) (y:=(d.1,pv',d.2.2)) hi rfl]
  exact hc.row h.dr fun k hk hk'=>Te h.dr (h.dcs.at_ i d hi) (by decide) (by decide) hk hk'
 ·intro e he c hc' k hk hkc
  rcases List.mem_or_eq_of_mem_set he with he | rfl
  ·exact h.apart e he c hc' k hk hkc
  ·rcases hf' k hk with h2 | h2
   ·exact h.apart d hm c hc' k h2 hkc
   ·have:=h.cbs.lt hc' hkc; omega
 ·rintro k (hk | hk | hk | ⟨e,he,hk⟩ | hk)
  ·exact .inl (.inl hk)
  ·exact .inl (.inr (.inl hk))
  ·exact .inl (.inr (.inr (.inl hk)))
  ·rcases List.mem_or_eq_of_mem_set he with he | rfl
   ·exact .inl (.inr (.inr (.inr (.inl ⟨e,he,hk⟩))))
   ·rcases hf' k hk with h2 | h2
    ·exact .inl (.inr (.inr (.inr (.inl ⟨d,hm,h2⟩))))
    ·exact .inr h2
  ·exact .inl (.inr (.inr (.inr (.inr hk))))
theorem Yo5 {B size n' : Nat}{e:TypeId}{v:Value}{xs:List Value}{base n:Nat}{Q:List Pth}{d:DAt}(hr:w.ownsRow B e size v n' xs) (hD:Dc w base d.1 d.2.1 d.2.2 n Q) (hc:Chg (Wo d) w w') (h1:e≠131) (h2:e≠139):w'.ownsRow B e size v n' xs:=hc.row hr fun _ hk hk'=>Te hr hD h1 h2 hk hk'
end
structure Xc (w0:World) (F0:Nat→Prop) (w:World) (g:Nat) (X1 X2 X3 dv vv:Value) (ds:List DAt) (vs:List CAt) (N:List Nat) (Qs:List (List Pth)) (W m:Nat) (Cs:List Cub) (cnt:Int):Prop where
 lt:LtM w g X1 X2 X3 dv vv ds vs N Qs W m Cs cnt
 chg:Chg F0 w0 w
 U0:∀ k,Zg g dv vv ds vs k→F0 k∨w0.heap.size≤k
section
variable {w0 w w' : World}{F0:Nat→Prop}{g:Nat}{X1 X2 X3 dv vv:Value}{ds:List DAt}{vs:List CAt}{N:List Nat}{Qs:List (List Pth)}{W m:Nat}{Cs:List Cub}{cnt:Int}
theorem Xc.begin (h:LtM w g X1 X2 X3 dv vv ds vs N Qs W m Cs cnt):Xc w (Zg g dv vv ds vs) w g X1 X2 X3 dv vv ds vs N Qs W m Cs cnt:=⟨h,Chg.refl _ _,fun _ hk=>.inl hk⟩
theorem Xc.below (h:Xc w0 F0 w g X1 X2 X3 dv vv ds vs N Qs W m Cs cnt) (hb:Below w.heap.size w w'):Xc w0 F0 w' g X1 X2 X3 dv vv ds vs N Qs W m Cs cnt :=
 ⟨h.lt.below hb,h.chg.trans (S':=fun _=>False) (Chg.Yz hb (Nat.le_refl _)) (fun _ _ h=>h.elim),h.U0⟩
theorem Xc.Kk (h:Xc w0 F0 w g X1 X2 X3 dv vv ds vs N Qs W m Cs cnt) {v v' : Value}{B size n:Nat}{e:TypeId}{xs:List Value}(hr:w.ownsRow B e size v n xs) (hG:Z7 w v w' v') (hB:w0.heap.size≤B) (h1:¬ Tt (.cells #[] e (0,0))):Xc w0 F0 w' g X1 X2 X3 dv vv ds vs N Qs W m Cs cnt:=by
 have hc:=Pm hG
 refine ⟨h.lt.chg hc fun k hk hv=>?_,h.chg.trans hc fun k hk hv=>?_,h.U0⟩
 ·obtain ⟨o,ho,hl⟩:=h.lt.kind hk
  obtain ⟨cs,fr,he⟩:=Xn hr hv;rw [he] at ho;rw [← Option.some.inj ho] at hl;exact h1 hl
 ·have:=(World.ownsRow.lt hr k hv).1
  omega
theorem Xc.Yrt (h:Xc w0 F0 w g X1 X2 X3 dv vv ds vs N Qs W m Cs cnt) {i:Nat}{d:DAt}(hi:ds[i]?=some d) (hc:Chg (Wo d) w w') {pv' : Value}{Q' : List Pth}(hd:Dc w' 0 d.1 pv' d.2.2 (N.getD i 0) Q') (hf:∀ k,pv'.ownBlock=some k→d.2.1.ownBlock=some k∨w.heap.size≤k) :
  Xc w0 F0 w' g X1 X2 X3 dv vv (ds.set i (d.1,pv',d.2.2)) vs N (Qs.set i Q') W m Cs cnt:=by
 obtain ⟨h1,h2⟩:=h.lt.Yrt hi hc hd hf
 have hz:=h.chg.size
 refine ⟨h1,h.chg.trans hc fun k hk hd'=>?_,fun k hk=>?_⟩
 ·rcases h.U0 k (.inr (.inr (.inr (.inl ⟨d,List.mem_of_getElem? hi,hd'⟩)))) with h3 | h3
  ·exact h3
  ·omega
 ·rcases h2 k hk with h3 | h3
  ·exact h.U0 k h3
  ·exact .inr (by omega)
theorem Xc.mv (h:Xc w0 F0 w g X1 X2 X3 dv vv ds vs N Qs W m Cs cnt) {S:Nat→Prop}(hS:∀ b,S b→¬ F0 b):Mv w0 (fun b=>S b∧b<w0.heap.size) w (fun b=>S b∧b<w0.heap.size):=fun b hb hl=>⟨h.chg.block b hl (hS b hb.1),hb⟩
theorem Xc.far (h:Xc w0 F0 w g X1 X2 X3 dv vv ds vs N Qs W m Cs cnt) {S:Nat→Prop}(hS:∀ b,S b→¬ F0 b) {b:Nat}(hb:S b∧b<w0.heap.size):¬ Zg g dv vv ds vs b:=fun hk=>by
 rcases h.U0 b hk with h1 | h1
 ·exact hS b hb.1 h1
 ·omega
end
section
variable {w0 w1 w w' : World}{F0:Nat→Prop}{g:Nat}{X1 X2 X3 dv vv:Value}{ds ds1:List DAt}{vs:List CAt}{N:List Nat}{Qs Rs:List (List Pth)}{W m:Nat}{Cs:List Cub}{cnt:Int}
theorem Xc.trans (h:Xc w0 F0 w1 g X1 X2 X3 dv vv ds1 vs N Rs W m Cs cnt) (h' : Xc w1 (Zg g dv vv ds1 vs) w g X1 X2 X3 dv vv ds vs N Qs W m Cs cnt):Xc w0 F0 w g X1 X2 X3 dv vv ds vs N Qs W m Cs cnt:=by
 have hz:=h.chg.size
 refine ⟨h'.lt,h.chg.trans h'.chg fun k hk hf=>?_,fun k hk=>?_⟩
 ·rcases h.U0 k hf with h1 | h1
  ·exact h1
  ·omega
 ·rcases h'.U0 k hk with h1 | h1
  ·exact h.U0 k h1
  ·exact .inr (by omega)
theorem Yee {B size n' : Nat}{e:TypeId}{v:Value}{xs:List Value}(hr:w.ownsRow B e size v n' xs) (hL:LtM w g X1 X2 X3 dv vv ds vs N Qs W m Cs cnt) (hc:Chg (Zg g dv vv ds vs) w w') (h1:¬ Tt (.cells #[] e (0,0))):w'.ownsRow B e size v n' xs:=hc.row hr fun k hk hk'=>by
 obtain ⟨o,ho,hl⟩:=hL.kind hk';obtain ⟨cs,fr,he⟩:=Xn hr hk;rw [he] at ho;rw [← Option.some.inj ho] at hl;exact h1 hl
theorem Bv:¬ Tt (.cells #[] 3 (0,0)):=by unfold Tt; decide
theorem Es:¬ Tt (.cells #[] 27 (0,0)):=by unfold Tt; decide
theorem Xk.Ysf {B:Nat}{v:Value}{L:List (List Int)}(h:Xk w B v L) (hL:LtM w g X1 X2 X3 dv vv ds vs N Qs W m Cs cnt) (hc:Chg (Zg g dv vv ds vs) w w'):Xk w' B v L:=by
 obtain ⟨xs,h1,h2⟩:=h;exact ⟨xs,Yee h1 hL hc Es,fun i q hi=>by
  obtain ⟨x,e,hx⟩:=h2 i q hi;exact ⟨x,e,Yee hx hL hc Bv⟩⟩
end
end
def Gc (w:World) (F0:Nat→Prop) (g:Nat) (X1 X2 X3 dv vv:Value) (vs:List CAt) (N:List Nat) (Qs:List (List Pth)) (W m:Nat) (Cs:List Cub) (cnt:Int) (G:List Fct) (e:Ending) (w' : World):Prop :=
 ∃ ds' Qs',Xc w F0 w' g X1 X2 X3 dv vv ds' vs N Qs' W m Cs cnt∧(((Zc N Qs G).2=0∧Qs'=(Zc N Qs G).1∧∃ v,e=.returned (.tuple #[v,.int .i64 0])∧Xk w' w.heap.size v (Vk N Qs' G))∨((Zc N Qs G).2≠0∧e=.returned (.tuple #[.slice none 0 0,.int .i64 (((Zc N Qs G).2:Nat):Int)])))
theorem Yjf {ds:List DAt}{vs:List CAt} (h:LtM w g X1 X2 X3 dv vv ds vs N Qs W m Cs cnt) {S:Nat→Prop}{A:Option Addr}{n c:Nat}{G:List Fct}(hF:Tj w S A n c G) (hS:∀ b,S b→¬ Zg g dv vv ds vs b) (hn:n≤1000) (hG:∀ f∈G,f.1.length=N.length) (hN:N.length≤3) :
  Calls Tryz.prog 51 #[.pointer (some ⟨g,0,none⟩),.slice A n c] w (Gc w (Zg g dv vv ds vs) g X1 X2 X3 dv vv vs N Qs W m Cs cnt G):=by
 have HF:Hid (Tj w (fun b=>S b∧b<w.heap.size) A n c G):=hid (hF.mv Y1 (Mv.to w fun b hb hl=>⟨hb,hl⟩))
 obtain ⟨F0,hF0⟩ : ∃ F0,Hid (Zg g dv vv ds vs=F0):=⟨_,hid rfl⟩
 have hC0:=Xc.begin h
 rw [hF0.out] at hC0 hS ⊢
 have HC0:=hid hC0
 have HG:=hid hG
 have Hgood:=hid h.dcs.good
 have HNl:=hid hN
 have HS:=hid hS
 have Hlen:=hid hF.len
 obtain ⟨Ad,cd,edv,_,_⟩:=h.Ydr;subst edv;clear h hF hC0 hG hS;go_enter Tryz.func51,Tryz.ntmps51;go_wp2_with fail;go_loopw [6,16] (fun kv i wr=>∃ (k:Nat) (ds1:List DAt) (Rs:List (List Pth)),k≤n∧i=.int .i64 k∧Hid (Xc w F0 wr g X1 X2 X3 (.slice Ad N.length cd) vv ds1 vs N Rs W m Cs cnt∧Zc N Qs (G.take k)=(Rs,0)∧Xk wr w.heap.size kv (Vk N Rs (G.take k)))) (fun _ i _=>n - (intOf i).toNat)
 case atStart=>exact ⟨0,ds,Qs,Nat.zero_le _,rfl,hid ⟨HC0.out,rfl,Xk.Zj _ _⟩⟩
 case round =>
  obtain ⟨k,ds1,Rs,hk,rfl,hO⟩:=hrel
  by_cases hlt:k<n
  ·obtain ⟨b,o,A1,n1,c1,A2,n2,c2,P,q,rfl,hSb,hbl,g0w,g1w,hp,_,he⟩:=HF.out.at2 hlt
   obtain ⟨hCm,hAd,hKs⟩:=hO.out
   have hkb:=hCm.chg.block b hbl (HS.out b hSb.1)
   have g0:wr.cell? ⟨b,o+k*2,none⟩=some (.slice A1 n1 c1):=(World.cell?_of_block hkb).trans g0w
   have g1:wr.cell? ⟨b,o+k*2+1,none⟩=some (.slice A2 n2 c2):=(World.cell?_of_block hkb).trans g1w
   have i0:(0:Int)≤(k:Int):=by omega
   have i1:(k:Int)<(n:Int):=by omega
   have hb1:=Ya wr (.cells #[.slice A1 n1 c1,.slice A2 n2 c2] 60)
   have f0:=(Block.new wr 60 #[.slice A1 n1 c1,.slice A2 n2 c2]).cell 0
   have HCm:=hid (hCm.below hb1)
   have HKs:=hid (hKs.below hb1)
   have hzw:=hCm.chg.size
   have hzb:=hb1.size
   have HAd:=hid hAd
   have hPl:=HG.out _ (List.mem_of_getElem? he.out)
   have hPn:n1=N.length:=by rw [← hPl]; exact hp.len.symm
   subst hPn
   have HP:=hid hp
   have HPl:Hid (P.length=N.length):=hid hPl
   have hga:=Ry Hgood.out hAd
   have HGa:=hid hga
   have hRl:Hid (Rs.length=N.length):=hid hga.1.len
   clear hO hCm hAd hKs hkb g0w g1w hp hPl hga hbl;go_wp2_with fail;generalize wr.alloc (.cells #[.slice A1 N.length c1,.slice A2 n2 c2] 60)=W0 at hb1 f0 HCm HKs hzb ⊢
   have HL0:=hid (Xc.begin HCm.out.lt)
   go_loopw [9,23] (fun kv2 i2 w2=>∃ (j:Nat) (ds2:List DAt),j≤N.length∧i2=.int .i64 j∧Hid (Xc W0 (Zg g (.slice Ad N.length cd) vv ds1 vs) w2 g X1 X2 X3 (.slice Ad N.length cd) vv ds2 vs N (Ri N Rs P j) W m Cs cnt∧(∀ i,i<j→St N Rs P i=0)∧Yf w2 W0.heap.size kv2 ((W9 (Wx N Rs P) (Sy N) P).take j))) (fun _ i _=>N.length - (intOf i).toNat)
   case atStart=>exact ⟨0,ds1,Nat.zero_le _,rfl,hid ⟨by rw [Fa]; exact HL0.out,fun i hi=>absurd hi (by omega),Yf.Zj _ _⟩⟩
   case round =>
    obtain ⟨j,ds2,hj,rfl,hO2⟩:=hrel
    by_cases hlt2:j<N.length
    ·obtain ⟨hC2,hE2,hK2⟩:=hO2.out
     have hCC:=HCm.out.trans hC2
     obtain ⟨b1,o1,A',n',c',p,rfl,hSb1,_,gp,hpp,hpe⟩:=(HP.out.mv Zr (hCC.mv HS.out)).at1 hlt2;obtain ⟨Ad',cd',edv,hdl,hat⟩:=hC2.lt.Ydr;injection edv with e1 _ e3
     subst e1 e3;obtain ⟨d,hdk⟩ : ∃ d,Hid (ds2[j]?=some d):=⟨_,hid (List.getElem?_eq_getElem (by omega))⟩
     obtain ⟨bd,rfl,_,_,gd⟩:=hat j d hdk.out
     have c3:=hC2.lt.c3
     have hD:=hC2.lt.dcs.at_ j d hdk.out
     rw [Cn hRl.out HPl.out hlt2] at hD
     have epj:P.getD j []=p:=by rw [List.getD_eq_getElem?_getD,hpe.out]; rfl
     have hfar:0<n'→∀ ad,A'=some ad→¬ U0 d.1 d.2.1 d.2.2 ad.block:=fun hn' ad ead hf=>by
      obtain ⟨b9,o9,_,_,e9,hS9,_⟩:=hpp.at_ hn';rw [ead] at e9;injection e9 with e9
      rw [e9] at hf;exact hCC.far HS.out hS9 (.inr (.inr (.inr (.inl ⟨d,List.mem_of_getElem? hdk.out,hf⟩))))
     obtain ⟨er,her⟩ : ∃ er,Hid (Rp (N.getD j 0) (Rs.getD j []) p=er):=⟨_,hid rfl⟩
     have hX:=Yqb hD hpp.Ea hfar
     unfold Yhl at hX;rw [her.out] at hX
     have hej:Hid (St N Rs P j=er):=hid (by show Rp _ _ (P.getD j [])=er; rw [epj]; exact her.out)
     have HQj:Hid (Vc (N.getD j 0) (Rs.getD j []) p=Gj N Rs P j):=hid (by show _=Vc _ _ (P.getD j []); rw [epj])
     have j0:(0:Int)≤(j:Int):=by omega
     have j1:(j:Int)<(N.length:Int):=by omega
     have hnj:=(Hgood.out.get hlt2).lv
     have HC2:=hid hC2
     have HE2:=hid hE2
     have HK2:=hid hK2
     have HD:=hid hD
     by_cases hez:er=0
     ·subst hez
      have HX:=hid hX
      clear hX hfar hO2 hC2 hE2 hK2 hD hpp hat hCC;go_wp2_with fail;refine HX.out.mono ?_;rintro e w3 ⟨v3,pv3,rfl,hT3,hD3,hch3,hown3⟩;rw [HQj.out] at hD3
      have hC3:=HC2.out.Yrt hdk.out hch3 hD3 hown3
      rw [G9 hRl.out HPl.out hlt2] at hC3;obtain ⟨A3,m3,c3',rfl,hI3,_⟩:=hT3.read;obtain ⟨hl3,hv3⟩:=Yiu her.out hnj.1
      have hm3:m3=N.getD j 0:=by rw [← hl3]; exact hI3.len.symm
      obtain ⟨r,hr⟩ : ∃ r,Hid (N.getD j 0=r+1):=⟨N.getD j 0 - 1,hid (by omega)⟩
      rw [hr.out] at hm3 hv3;subst hm3;rw [Nat.add_sub_cancel] at hv3;obtain ⟨b3,o3,x3,rfl,_,gx,ex3⟩:=hI3.at_ (k:=r) (by omega)
      rw [hr.out] at ex3
      have hx3:Hid (x3=((fnd (Gj N Rs P j) (P.getD j []):Nat):Int)):=hid (by rw [ex3.out,hv3,epj,← hr.out,HQj.out])
      have hK3:Yf w3 W0.heap.size u9 ((W9 (Wx N Rs P) (Sy N) P).take j):=Yo5 HK2.out HD.out hch3 (by decide) (by decide)
      have hb4:=Ya w3 (.cells #[.int .i64 x3] 3)
      have hC4:=hC3.below hb4
      have hK4:=World.ownsRow.alloc hK3 (.cells #[.int .i64 x3] 3)
      have HC4:=hid hC4
      have HK4:Hid (Yf (w3.alloc (.cells #[.int .i64 x3] 3)) W0.heap.size u9 ((W9 (Wx N Rs P) (Sy N) P).take j)):=hid hK4
      have hrr:(r:Int)+1 - 1=(r:Int):=by omega
      have hr0:(0:Int)≤(r:Int):=by omega
      have hr2:r≤2:=by have:=hr.out; omega
      have hr1:(r:Int)<(r:Int)+1:=by omega
      have hlk:Hid (((W9 (Wx N Rs P) (Sy N) P).take j).length≤1000000):=hid (Nat.le_trans (List.length_take_le j _) (by have:=HNl.out; omega))
      have hbs:Hid (W0.heap.size≤(w3.alloc (.cells #[.int .i64 x3] 3)).heap.size):=hid hC4.chg.size
      have HPlj:Hid ((P.getD j []).length=N.getD j 0):=hid (by rw [epj]; exact (Yhp her.out).1.1)
      clear hT3 hD3 hch3 hown3 hC3 hI3 hK3 hC4 hK4 HX hv3 hl3 epj;go_wp2_with (at_builtin; refine Y9 rfl _ _ rfl W0.heap.size _ _ rfl HK4.out _ rfl x3 (Zs _ _ _ _ rfl) hlk.out hbs.out ?_)
      intro v4 w4 hO5 hG5
      have hF5:=hid (show Xc W0 (Zg g (.slice (some ⟨bd,0,none⟩) N.length cd) vv ds1 vs) w4 g X1 X2 X3 (.slice (some ⟨bd,0,none⟩) N.length cd) vv (ds2.set j (d.1,pv3,d.2.2)) vs N (Ri N Rs P (j+1)) W m Cs cnt∧(∀ i,i<j+1→St N Rs P i=0)∧Yf w4 W0.heap.size v4 ((W9 (Wx N Rs P) (Sy N) P).take (j+1)) from
       ⟨HC4.out.Kk HK4.out hG5 (Nat.le_refl _) Bv,fun i hi=>by
        by_cases hij:i<j
        ·exact HE2.out i hij
        ·obtain rfl:i=j:=by omega
         exact hej.out,by rw [← Ysn hRl.out HPl.out hlt2 HPlj.out,← hx3.out]; exact hO5⟩)
      clear hO5 hG5 hb4;go_wp2_with fail;go_roundw
      case rel=>exact ⟨j+1,_,by omega,by go_num,hF5⟩
      case measure=>simp [intOf]; omega
     ·have hne:((er:Int) != 0)=true:=by simpa using hez
      have HX:=hid hX
      have hstop:Zc N Qs G=(Rs,er):=by
       have h1:=Qd he.out HAd.out
       have h2:=Yaw hlt2 hRl.out HPl.out hE2 (by rw [hej.out]; exact hez)
       rw [h2,hej.out,if_pos hez] at h1
       have h3:=Gk (N:=N) (Qs:=Qs) (G:=G) (i:=k+1) (by rw [h1]; exact hez)
       rw [h3,h1]
      have Hst:=hid hstop
      clear hX hfar hO2 hC2 hE2 hK2 hD hpp hat hCC hez hstop;go_wp2_with fail;refine HX.out.mono ?_;rintro e w3 ⟨v3,pv3,rfl,hT3,hD3,hch3,hown3⟩
      have hC3:=HC2.out.Yrt hdk.out hch3 hD3 hown3
      have hF5:=hid (show Gc w F0 g X1 X2 X3 (.slice (some ⟨bd,0,none⟩) N.length cd) vv vs N Qs W m Cs cnt G (.returned (.tuple #[.slice none 0 0,.int .i64 er])) w3 from ⟨_,_,HCm.out.trans hC3,.inr ⟨by rw [Hst.out]; intro e0; subst e0; simp at hne,by rw [Hst.out]⟩⟩)
      clear hT3 hD3 hch3 hown3 hC3 HX;go_wp2_with fail;go_ret2;exact hF5.out
    ·obtain rfl:j=N.length:=by omega
     obtain ⟨hC2,hE2,hK2⟩:=hO2.out;rw [Cm hRl.out HPl.out] at hC2
     have hal:=Tm hRl.out HPl.out
     rw [List.take_of_length_le (by rw [M2 (by rw [Gt]; omega) (by rw [HPl.out,hal]),hal]; exact Nat.le_refl _)] at hK2
     have hed:=Kg hRl.out HPl.out hE2
     have hsn:=Qd he.out HAd.out
     rw [if_neg (fun h=>h hed)] at hsn
     obtain ⟨hg1,hg2,hg3⟩:=HGa.out
     have hkg:Vk N (Wx N Rs P) (G.take k)=Vk N Rs (G.take k):=Ydn (Nf N Rs P) (Oa P hg1).J1 fun f hf=>hg3 _ (Gu N) f hf (HG.out f (List.mem_of_mem_take hf))
     have hks:=Ygc (N:=N) (Rs:=Wx N Rs P) he.out
     have hKs2:=HKs.out.Ysf HL0.out.lt hC2.chg
     have hzz:=hC2.chg.size
     have hK2':=Yf.low hK2 (show w.heap.size≤W0.heap.size by omega)
     obtain ⟨Ak,ck,ek,_⟩:=hK2'.form;obtain ⟨lk,hlk⟩ : ∃ lk,Hid ((W9 (Wx N Rs P) (Sy N) P).length=lk):=⟨_,hid rfl⟩;rw [hlk.out] at ek;subst ek
     have hb4:=Ya wr (.cells #[.slice Ak lk ck] 27)
     have HC4:=hid (hC2.below hb4)
     have HK4:=hid (show Yf (wr.alloc (.cells #[.slice Ak lk ck] 27)) w.heap.size (.slice Ak lk ck) (W9 (Wx N Rs P) (Sy N) P) from World.ownsRow.alloc hK2' _)
     have HKs4:=hid (hKs2.below hb4)
     have hlq:Hid ((Vk N Rs (G.take k)).length≤1000000):=hid (by unfold Vk; rw [List.length_map]; exact Nat.le_trans (List.length_take_le k _) (by omega))
     have hbs:Hid (w.heap.size≤(wr.alloc (.cells #[.slice Ak lk ck] 27)).heap.size):=hid (by rw [World.size_alloc]; omega)
     have hEnd:=hid (show Vk N Rs (G.take k)++[W9 (Wx N Rs P) (Sy N) P]=Vk N (Wx N Rs P) (G.take (k+1)) from by rw [← hkg]; exact hks)
     have Hsn:=hid hsn
     clear hO2 hC2 hE2 hK2 hK2' hKs2 hkg hks hg1 hg2 hg3 hed hsn hb4 hal;go_wp2_with (at_builtin; refine Lq rfl _ _ rfl w.heap.size _ _ rfl HKs4.out _ rfl _ _ (L9 wr (.slice Ak lk ck) 27 _ rfl) HK4.out hlq.out hbs.out ?_)
     intro v4 w4 hO5 hG5
     have hrow:∃ xs,(wr.alloc (.cells #[.slice Ak lk ck] 27)).ownsRow w.heap.size 27 1 u6 (Vk N Rs (G.take k)).length xs:=by
      obtain ⟨xs,h1,_⟩:=HKs4.out;exact ⟨xs,h1⟩
     obtain ⟨xs,hrow⟩:=hrow
     have hF5:=hid (show Xc w F0 w4 g X1 X2 X3 (.slice Ad N.length cd) vv ds2 vs N (Wx N Rs P) W m Cs cnt∧Zc N Qs (G.take (k+1))=(Wx N Rs P,0)∧Xk w4 w.heap.size v4 (Vk N (Wx N Rs P) (G.take (k+1))) from
      ⟨(HCm.out.trans HC4.out).Kk hrow hG5 (Nat.le_refl _) Es,Hsn.out,by rw [← hEnd.out]; exact hO5⟩)
     clear hO5 hG5 hrow;go_wp2_with fail;go_roundw
     case rel=>exact ⟨k+1,_,_,by omega,by go_num,hF5⟩
     case measure=>simp [intOf]; omega
  ·obtain rfl:k=n:=by omega
   have hF5:=hid (show Gc w F0 g X1 X2 X3 (.slice Ad N.length cd) vv vs N Qs W m Cs cnt G (.returned (.tuple #[u6,.int .i64 0])) wr from by
    obtain ⟨hCm,hAd,hKs⟩:=hO.out;rw [List.take_of_length_le (by have:=Hlen.out; omega)] at hAd hKs
    exact ⟨_,_,hCm,.inl ⟨by rw [hAd],by rw [hAd],_,rfl,hKs⟩⟩)
   clear hO;go_wp2_with fail;go_ret2;exact hF5.out
theorem Ys0 {Q:List Pth}{c k:Int} (hc:0≤c∧c≤(Q.length:Int)) (hk:0≤k∧k≤((pth Q c.toNat).length:Int)):upA Q c k=(fnd Q ((pth Q c.toNat).take k.toNat),0):=by
 unfold upA;rw [if_pos hc,if_pos hk]
theorem Yrz {ds:List DAt}{vs:List CAt} (h:LtM w g X1 X2 X3 dv vv ds vs N Qs W m Cs cnt) (hN:N.length≤3) {A A' : Option Addr}{n c n' c' : Nat}{K v:List Int}(hK:Yx w w.heap.size A n c K) (hV:Yx w w.heap.size A' n' c' v) (hf:O9 N Qs K) (hv:Qb N v) :
  Calls Tryz.prog 106 #[.pointer (some ⟨g,0,none⟩),.slice A n c,.slice A' n' c'] w (Yb4 w (upB Qs K v)):=by
 obtain ⟨Ad,cd,edv,hdl,hat⟩:=h.Ydr;subst edv
 have hnl:n=N.length:=by rw [← (On hf).2]; exact hK.len.symm
 have hnl' : n'=N.length:=by rw [← hv.len]; exact hV.len.symm
 subst hnl hnl'
 have HK:=hid hK
 have HV:=hid hV
 have HM:=hid h
 have HA:=hid hat
 have HPl:=hid (Yry hf hv)
 have HPg:=hid (fun i (hi:i<N.length)=>Yrw hf hv hi)
 have HFk:=hid (fun i (hi:i<N.length)=>C7 hf hi)
 have HLv:=hid (fun i (hi:i<N.length)=>hv.get hi)
 have hmk:∀ W:World,(Instr.makeSlice 27 (.int .i64 (N.length:Int)) (.int .i64 (N.length:Int))).run Tryz.prog W=.ok (.slice (some ⟨W.heap.size,0,none⟩) N.length N.length) (W.alloc (.cells (D6 (.int .i64 0) N.length) 3)):=fun W=>Yog rfl S7 Tryz.underlying27 (by decide) N.length W (by omega)
 have hM0:=hid (Zq.begin (E:=Yr) (S:=fun b=>w.heap.size≤b) (Yo7 w 3 (.int .i64 0) N.length (by omega)) HPl.out)
 have hb0:=Ya w (.cells (D6 (.int .i64 0) N.length) 3)
 clear h hK hV hat hf hv;go_enter Tryz.func106,Tryz.ntmps106;go_wp2_with fail;clear hmk;generalize w.alloc (.cells (D6 (.int .i64 0) N.length) 3)=W0 at hM0 hb0 ⊢;go_loopw [15] (fun i wr=>∃ k:Nat,k≤N.length∧i=.int .i64 k∧Hid (Zq Yr 3 1 wr w.heap.size (fun b=>w.heap.size≤b) (.slice (some ⟨w.heap.size,0,none⟩) N.length N.length) N.length (upB Qs K v) (List.replicate N.length (.int .i64 0)) k)∧Below w.heap.size w wr) (fun i _=>N.length - (intOf i).toNat)
 case atStart=>exact ⟨0,Nat.zero_le _,rfl,hM0,hb0⟩
 case round =>
  obtain ⟨k,hk,rfl,hO,hB⟩:=hrel
  by_cases hlt:k<N.length
  ·have i0:(0:Int)≤(k:Int):=by omega
   have i1:(k:Int)<(N.length:Int):=by omega
   obtain ⟨b,o,x,rfl,hbl,hcell,ex⟩:=HK.out.at_ hlt
   have g0:wr.cell? ⟨b,o+k,none⟩=some (.int .i64 x):=(hB.cell (p:=⟨b,o+k,none⟩) hbl).trans hcell
   obtain ⟨b',o',y,rfl,hbl',hcell',ey⟩:=HV.out.at_ hlt
   have g2:wr.cell? ⟨b',o'+k,none⟩=some (.int .i64 y):=(hB.cell (p:=⟨b',o'+k,none⟩) hbl').trans hcell'
   obtain ⟨d,hdk⟩ : ∃ d,Hid (ds[k]?=some d):=⟨_,hid (List.getElem?_eq_getElem (by omega))⟩
   obtain ⟨bd,rfl,_,hbd,hcd⟩:=HA.out k d hdk.out
   have g1:wr.cell? ⟨bd,k,none⟩=some (.pointer (some ⟨d.1,0,none⟩)):=(hB.cell (p:=⟨bd,k,none⟩) hbd).trans hcd
   have c3:=(HM.out.below hB).c3
   have hfk:=HFk.out k hlt
   have hlv:=HLv.out k hlt
   have hpg:=HPg.out k hlt
   rw [← ex.out] at hfk hpg;rw [← ey.out] at hlv hpg
   have hup:=Ys0 (Q:=Qs.getD k []) (c:=x) (k:=y) ⟨by omega,hfk.2.1⟩ ⟨hlv.1,by rw [hfk.2.2]; exact hlv.2⟩
   obtain ⟨z,hz⟩ : ∃ z,Hid (fnd (Qs.getD k []) ((pth (Qs.getD k []) x.toNat).take y.toNat)=z):=⟨_,hid rfl⟩;rw [hz.out] at hup hpg
   have hpe:Hid ((upB Qs K v)[k]?=some (z:Int)):=hid (by
    obtain ⟨q,hq⟩ : ∃ q,(upB Qs K v)[k]?=some q:=⟨_,List.getElem?_eq_getElem (by rw [HPl.out]; exact hlt)⟩
    rw [List.getD_eq_getElem?_getD,hq] at hpg;rw [hq];exact congrArg some hpg)
   have hX:=Yql (((HM.out.dcs.at_ k d hdk.out).below hB).drewN 1) x y (hid hup)
   have HX:=hid hX
   have hO1:=hO
   have hlo:=hO.out.lt
   clear hcell hcell' hcd hfk hlv hpg hup hX hO;go_wp2_with fail;go_region_with (go_at_call 133; refine HX.out.mono ?_; rintro e w5 ⟨rfl,hb5⟩; have hb5' : Below wr.heap.size wr w5:=(below_drewN (Below.refl _ wr) 1).trans hb5; have hO5:=hid (hO1.out.below Yh hb5'); have c0:w5.cell? ⟨w.heap.size,k,none⟩=some (.int .i64 0):=(hO5.out.old (j:=k) (by omega) (by omega)).trans (by rw [List.getElem?_replicate,if_pos hlt]); have f0:=hO5.out.free k; have HB5:=hid (hB.trans (hb5'.mono hB.size)); clear hb5 hb5')
   all_goals
    have hF:=hid (show Zq Yr 3 1 (w5.setCell ⟨w.heap.size,k,none⟩ (.int .i64 z)) w.heap.size (fun b=>w.heap.size≤b) (.slice (some ⟨w.heap.size,0,none⟩) N.length N.length) N.length (upB Qs K v) (List.replicate N.length (.int .i64 0)) (k+1)∧Below w.heap.size w (w5.setCell ⟨w.heap.size,k,none⟩ (.int .i64 z)) from ⟨hO5.out.Ypi Yh (by simp) hpe.out rfl,HB5.out.setCell (p:=⟨w.heap.size,k,none⟩) (Nat.le_refl _) _⟩)
    clear hO5 HB5 c0 f0 hO1 hB HX hlo;go_wp2_with fail;go_roundw
    case rel=>exact ⟨k+1,by omega,by go_num,hid hF.out.1,hF.out.2⟩
    case measure=>simp [intOf]; omega
  ·have hF:=hid (show Yf wr w.heap.size (.slice (some ⟨w.heap.size,0,none⟩) N.length N.length) (upB Qs K v)∧Below w.heap.size w wr from ⟨(hO.out.end_ (by omega) (by simp)).ints,hB⟩)
   clear hO hB;go_wp2_with fail;go_ret;exact ⟨⟨_,rfl,hF.out.1⟩,hF.out.2⟩
section
section
variable {w y w' : World}{g:Nat}{X1 X2 X3 dv vv:Value}{ds:List DAt}{vs:List CAt}{N:List Nat}{Qs:List (List Pth)}{W m:Nat}{Cs:List Cub}{cnt:Int}
theorem set_self {α:Type}{L:List α}{i:Nat}{x:α}(h:L[i]?=some x):L.set i x=L:=by
 refine List.ext_getElem? fun j=>?_
 rw [List.getElem?_set]
 by_cases hij:i=j
 ·subst hij
  rw [if_pos rfl,if_pos (List.getElem?_eq_some_iff.1 h).1,h]
 ·rw [if_neg hij]
theorem LtM.Yue (h:LtM w g X1 X2 X3 dv vv ds vs N Qs W m Cs cnt) {i:Nat}{c:CAt}{C' : Cub}(hi:vs[i]?=some c) (hc:Chg (V2 c) w w') (hd:Cb w' c.1 c.2 W m C'):LtM w' g X1 X2 X3 dv vv ds vs N Qs W m (Cs.set i C') cnt:=by
 have hm:=List.mem_of_getElem? hi
 have hcb:=h.cbs.at_ i c hi
 have hs:=h.cbs.Yo hi hc hd fun k hk=>.inl hk
 rw [set_self hi] at hs;exact ⟨h.blk.chg hc (h.c_g hm),hc.row h.dr fun k hk=>Si h.dr hcb (by decide) hk,hc.row h.vr fun k hk=>Si h.vr hcb (by decide) hk,h.dcs.chg hc fun d hd' k hk hk'=>h.apart d hd' c hm k hk hk',hs,h.apart⟩
theorem LtM.Pd (h:LtM w g X1 X2 X3 dv vv ds vs N Qs W m Cs cnt) (hb:Below w.heap.size w y) {i b:Nat}{c c' : CAt}{C' : Cub}(hi:vs[i]?=some c) (hv:vv.ownBlock=some b) (hd:Cb y c'.1 c'.2 W m C') (hf:∀ k,V2 c' k→w.heap.size≤k) :
  LtM (y.setCell ⟨b,i,none⟩ (Xo c'.1)) g X1 X2 X3 dv vv ds (vs.set i c') N Qs W m (Cs.set i C') cnt∧∀ k,Zg g dv vv ds (vs.set i c') k→Zg g dv vv ds vs k∨w.heap.size≤k:=by
 have hm:=List.mem_of_getElem? hi
 have hy:=h.below hb
 have hil:=(List.getElem?_eq_some_iff.1 hi).1
 have hs:Chg (fun k=>k=b) y (y.setCell ⟨b,i,none⟩ (Xo c'.1)):=(Chg.refl _ y).Yo b i _ fun _=>rfl
 have hbl:b<w.heap.size:=(World.ownsRow.lt h.vr b hv).2
 have h2:=h.cbs.Yo (w':=y) hi (Chg.Yz (S:=V2 c) hb (Nat.le_refl _)) hd fun k hk=>.inr (hf k hk)
 have hnc:∀ e∈vs.set i c',∀ k,V2 e k→k≠b:=fun e he k hk hkb=>by
  subst hkb
  rcases List.mem_or_eq_of_mem_set he with he | rfl
  ·obtain ⟨j,hj⟩:=List.getElem?_of_mem he
   exact Si h.vr (h.cbs.at_ j e hj) (by decide) hv hk
  ·have:=hf k hk; omega
 have hst:(y.setCell ⟨b,i,none⟩ (Xo c'.1)).ownsRow 0 78 1 vv vs.length ((vs.map fun c=>Xo c.1).set i (Xo c'.1)):=by
  have hr:=hy.vr
  rcases hr.2 with ⟨e0,_⟩ | ⟨b',cap,cur,e0,_⟩
  ·rw [e0] at hv; cases hv
  ·rw [e0] at hv hr ⊢
   have e3:b'=b:=by simpa [Value.ownBlock] using hv
   subst e3;exact (World.ownsRow.stored hr i _).1
 refine ⟨⟨hy.blk.chg hs fun e=>h.Yqr (by rw [hv,e]),hs.row hy.dr fun k hk e=>h.Ymo hk (by rw [hv,e]),?_,hy.dcs.chg hs fun d hd' k hk e=>?_,h2.chg hs fun e he k hk=>hnc e he k hk,?_⟩,?_⟩
 ·rw [List.length_set,List.map_set]
  exact hst
 ·obtain ⟨j,hj⟩:=List.getElem?_of_mem hd'
  exact Te h.vr (h.dcs.at_ j d hj) (by decide) (by decide) (by rw [hv,e]) hk
 ·intro d hd' e he k hk hke
  rcases List.mem_or_eq_of_mem_set he with he | rfl
  ·exact h.apart d hd' e he k hk hke
  ·have:=h.dcs.lt hd' hk
   have:=hf k hke
   omega
 ·rintro k (hk | hk | hk | hk | ⟨e,he,hk⟩)
  ·exact .inl (.inl hk)
  ·exact .inl (.inr (.inl hk))
  ·exact .inl (.inr (.inr (.inl hk)))
  ·exact .inl (.inr (.inr (.inr (.inl hk))))
  ·rcases List.mem_or_eq_of_mem_set he with he | rfl
   ·exact .inl (.inr (.inr (.inr (.inr ⟨e,he,hk⟩))))
   ·exact .inr (hf k hk)
end
end
section
section
variable {w:World}{g:Nat}{X1 X2 X3 dv vv dv' : Value}{ds ds' : List DAt}{vs:List CAt}{N:List Nat}{Qs Qs' : List (List Pth)}{W m:Nat}{Cs:List Cub}{cnt:Int}
theorem LtM.Yty (h:LtM w g X1 X2 X3 dv vv ds vs N Qs W m Cs cnt) (hr:w.ownsRow 0 91 1 dv' ds'.length (ds'.map fun d=>Xo d.1)) (hd:Dcs w ds' N Qs') (hap:∀ d∈ds',∀ c∈vs,∀ k,Wo d k→¬ V2 c k):LtM (w.setCell ⟨g,3,none⟩ dv') g X1 X2 X3 dv' vv ds' vs N Qs' W m Cs cnt:=by
 have hs:Chg (fun k=>k=g) w (w.setCell ⟨g,3,none⟩ dv'):=(Chg.refl _ w).Yo g 3 _ fun _=>rfl
 refine ⟨h.blk.Yo 3 dv',hs.row hr fun k hk e=>Y6 hr h.blk (by decide) (by rw [hk,e]),hs.row h.vr fun k hk e=>h.Yqr (by rw [hk,e]),hd.chg hs fun d hd' k hk e=>?_,h.cbs.chg hs fun c hc k hk e=>h.c_g hc (e ▸ hk),hap⟩
 subst e;obtain ⟨i,hi⟩:=List.getElem?_of_mem hd'
 have hb:w.heap[k]?=some (.cells _ _ _):=h.blk
 rcases (hd.at_ i d hi).kind hk with ⟨cs,e,fr,he,h1⟩ | ⟨es,clock,he⟩
 ·rw [hb] at he
  simp only [Option.some.injEq,Obj.cells.injEq] at he
  rcases h1 with h1 | h1 <;> (rw [← he.2.1] at h1; exact absurd h1 (by decide))
 ·rw [hb] at he; cases he
theorem LtM.Yuf (h:LtM w g X1 X2 X3 dv vv ds vs N Qs W m Cs cnt) (n:Int):LtM (w.setCell ⟨g,5,none⟩ (.int .i64 n)) g X1 X2 X3 dv vv ds vs N Qs W m Cs n:=by
 have hs:Chg (fun k=>k=g) w (w.setCell ⟨g,5,none⟩ (.int .i64 n)):=(Chg.refl _ w).Yo g 5 _ fun _=>rfl
 exact ⟨h.blk.Yo 5 _,hs.row h.dr fun k hk e=>h.Ytj (by rw [hk,e]),hs.row h.vr fun k hk e=>h.Yqr (by rw [hk,e]),h.dcs.chg hs fun d hd k hk e=>h.d_g hd (e ▸ hk),h.cbs.chg hs fun c hc k hk e=>h.c_g hc (e ▸ hk),h.apart⟩
end
end
end Go.Proofs.YtkablhecedcngaaGreat
