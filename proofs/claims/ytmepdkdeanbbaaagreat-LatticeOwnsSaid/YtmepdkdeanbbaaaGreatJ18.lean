/- DictT -/
import Derived.Test.YtmepdkdeanbbaaaGreatJ17
namespace Go.Proofs.YtmepdkdeanbbaaaGreat
set_option maxRecDepth 100000
set_option maxHeartbeats 8000000
open Go.RowKit
open Proofs.Tryz renaming prog→aa,underlying69→ae
open List renaming eq_nil_of_length_eq_zero→af,getElem?_append_right→ag,getElem?_append_left→ai
section
def Zw(w:World)(base:Nat)(v:Value)(Q:List Pth):Prop:=
 ∃vs:List Value,w.ownsRow base 23 1 v Q.length vs/\∀(i:Nat) (q:Pth),Q[i]?=some q->∃x,vs[i]?=some x/\Xj w base x q
structure Yu5 (w:World) (A:Option Addr) (n c:Nat) (Q:List Pth):Prop where
 len:Q.length=n
 cap:n<=c
 fit:c<=maxLen
 void:A=none->c=0
 has:∀(i:Nat) (q:Pth),Q[i]?=some q->∃b o A' n' c',A=some ⟨b,o,none⟩∧b<w.heap.size/\w.cell? ⟨b,o+i,none⟩=some (.slice A' n' c')/\Zx w w.heap.size A' n' c' q
section
variable {w w' : World}{base:Nat}{v:Value}{Q:List Pth}
theorem Zw.Zj(w:World)(base:Nat):Zw w base (.slice none 0 0) []:=⟨[],World.ownsRow_nil w base _ 1,λi q h=>by simp at h⟩
theorem Zw.low{base':Nat}(h:Zw w base v Q)(hb:base'<=base):Zw w base' v Q:=by
 obtain⟨vs,h1,h2⟩:=h;exact⟨vs,Vu h1 hb,λi q hi=>by obtain⟨x,e,hx⟩:=h2 i q hi;exact⟨x,e,hx.low hb⟩⟩
theorem Zw.lt(h:Zw w base v Q):∀k,v.ownBlock=some k->base<=k/\k<w.heap.size:=by
 obtain⟨vs,h1,_⟩:=h;exact World.ownsRow.lt h1
theorem Zw.form(h:Zw w base v Q):∃A c,v=.slice A Q.length c/\Yu5 w A Q.length c Q:=by
 obtain⟨vs,h1,h2⟩:=h
 rcases h1.2 with⟨rfl,h0⟩|⟨g,cap,cur,rfl,hb,hg,hnc,hcm,hcs,ht⟩
 ·have hl:Q=[]:=af h0
  subst hl;exact⟨none,0,rfl,rfl,Nat.le_refl _,Nat.zero_le _,λ_=>rfl,λi q h=>by simp at h⟩
 ·refine⟨_,cap,rfl,rfl,hnc,hcm,(λh=>by cases h),λi q hi=>?_⟩
  obtain⟨x,e,hx⟩:=h2 i q hi;obtain⟨A',c',rfl,hT,_⟩:=hx.form
  have hc:=World.ownsRow.cells h1 (g:=g) rfl i _ e
  rw[Yu]at hc;exact⟨g,0,A',_,c',rfl,(Array.getElem?_eq_some_iff.1 hg).1,hc,hT⟩
def NoT(w:World)(S:Nat->Prop):Prop:=∀k,S k->∀cs e fr,w.heap[k]?=some (.cells cs e fr)->e≠23/\e≠9
theorem Ydz{B e size m:Nat}{xs:List Value}(h:w.ownsRow B e size v m xs){S:Nat->Prop}(hS:∀k,S k->∀cs e' fr,w.heap[k]?=some (.cells cs e' fr)->e'≠e):∀k,v.ownBlock=some k→¬S k:=by
 intro k hk hs
 rcases h.2 with⟨rfl,_⟩|⟨g,cap,cur,rfl,_,hg,_⟩
 ·cases hk
 ·simp only[Value.ownBlock,Option.some.injEq]at hk
  subst hk;exact hS _ hs _ _ _ hg rfl
theorem Xj.chg{S:Nat->Prop}{x:Value}{q:Pth}(h:Xj w base x q)(hc:Chg S w w')(hS:NoT w S):Xj w' base x q:=
 hc.row h (Ydz h λk hs cs e fr he=>(hS k hs cs e fr he).2)
theorem Zw.chg{S:Nat->Prop}(h:Zw w base v Q)(hc:Chg S w w')(hS:NoT w S):Zw w' base v Q:=by
 obtain⟨vs,h1,h2⟩:=h;exact⟨vs,hc.row h1 (Ydz h1 λk hs cs e fr he=>(hS k hs cs e fr he).1),λi q hi=>by obtain⟨x,e,hx⟩:=h2 i q hi;exact⟨x,e,hx.chg hc hS⟩⟩
theorem NoT.none(w:World):NoT w (λ_=>False):=λ_ h=>h.elim
theorem Zw.below(h:Zw w base v Q)(hb:Below w.heap.size w w'):Zw w' base v Q:=h.chg (S:=λ_=>False) (Chg.Y1 hb (Nat.le_refl _)) (NoT.none w)
theorem Zw.drewN(h:Zw w base v Q)(k:Nat):Zw (w.drewN k) base v Q:=h
theorem Zw.alloc(h:Zw w base v Q)(o:Obj):Zw (w.alloc o) base v Q:=h.below (Yb w o)
theorem Zw.D4(h:Zw w base v Q){B:Nat}{x:Value}{q:Pth}(hx:Xj w B x q)(hg:w.grownBy w' v.ownBlock):Xj w' B x q:=by
 obtain⟨vs,h1,_⟩:=h;refine World.ownsRow.kept hx hg ?_
 rcases V3 hx h1 (by decide)with h2|h2
 ·exact .inl h2
 ·exact .inr h2
end
theorem Kl:(aa.info? 23).map (λi=>(i.zero,i.size,i.bytes))=some (some (.slice none 0 0),1,24):=by kernel_rfl
theorem Zw.more{w w':World}{base:Nat}{v v':Value}{Q P:List Pth}{vs us:List Value}(h1:w.ownsRow base 23 1 v Q.length vs)(h2:∀(i:Nat) (q:Pth),Q[i]?=some q->∃x,vs[i]?=some x/\Xj w base x q)
  (_hus:us.length=P.length) (h3:∀(i:Nat) (q:Pth),P[i]?=some q->∃x,us[i]?=some x/\Xj w base x q)
  (hown:w'.ownsRow base 23 1 v' (Q.length+P.length) (vs++us)) (hg:w.grownBy w' v.ownBlock):Zw w' base v' (Q++P):=by
 have hl:vs.length=Q.length:=by have:=h1.1;omega
 have V0:∀(x:Value) (q:Pth),Xj w base x q->Xj w' base x q:=λx q hx=>World.ownsRow.kept hx hg (V3 hx h1 (by decide))
 refine⟨vs++us,by rw[List.length_append];exact hown,λi q hi=>?_⟩
 by_cases hlt:i<Q.length
 ·rw[ai hlt]at hi
  obtain⟨x,e,hx⟩:=h2 i q hi;exact⟨x,by rw[ai (by omega)];exact e,V0 x q hx⟩
 ·rw[ag (by omega)]at hi
  obtain⟨x,e,hx⟩:=h3 _ q hi;exact⟨x,by rw[ag (by omega),hl];exact e,V0 x q hx⟩
section
variable {w:World}{ops:Array Oper}{rest:List Oper}{o:Oper}{a:Act}{K:Exit->Act->World->Prop}
theorem Ye8(hgd:o.guard=none)(s x:Operand)
  (ho:o.op=.call {callee:=.builtin .append,args:=#[s,x],argTypes:=#[69,69]})
  (base:Nat) (v:Value) (Q:List Pth) (hs:a.eval s=v) (hown:Zw w base v Q) (g:Nat) (hx:a.eval x=.slice (some ⟨g,0,none⟩) 1 1) (y:Value) (q:Pth) (hy:w.cell? ⟨g,0,none⟩=some y) (hyo:Xj w base y q) (hl:Q.length<=1000000) (hbase:base<=w.heap.size)
  (h:∀v' w',Zw w' base v' (Q++[q])->Zl w v w' v'→wpList aa ops K rest (a.put o.dst v') w'):wpList aa ops K (o::rest) a w:=by
 obtain⟨i,hi,hz0,hz1,hz2⟩:=info_parts Kl;obtain⟨vs,h1,h2⟩:=hown
 have hone:y.oneCell'=true:=by obtain⟨A',c',rfl,_⟩:=hyo.form;rfl
 refine wpList_append_own_at w hgd s x 69 ho base 23 i _ 1 24 ae hi hz0 hz1 hz2 rfl (by decide) v Q.length vs hs h1 ⟨g,0,none⟩ 1 1 [y] hx rfl (λj u hj=>?_) (λu hu=>?_) (by unfold maxLen;omega) (by omega) hbase ?_
 ·match j,hj with
  |0,hj=>simp at hj;subst hj;rw[Yu];exact hy
  |(j+1),hj=>simp at hj
 ·simp at hu;subst hu;exact hone
 ·intro v' w' e1 e2 _ e4
  refine h v' w' (Zw.more h1 h2 (us:=[y]) (P:=[q]) rfl (λi q' hi=>?_) e1 e2) ⟨e2,λk hk=>?_⟩
  ·match i,hi with
   |0,hi=>simp at hi;subst hi;exact⟨y,rfl,hyo⟩
   |(i+1),hi=>simp at hi
  ·rcases e4 with e4|e4
   ·exact .inl (e4▸hk)
   ·rw[e4]at hk
    injection hk with hk
    exact .inr (Nat.le_of_eq hk)
theorem Yd1(hgd:o.guard=none)(s x:Operand)
  (ho:o.op=.call {callee:=.builtin .append,args:=#[s,x],argTypes:=#[69,69]})
  (base:Nat) (v:Value) (Q:List Pth) (hs:a.eval s=v) (hown:Zw w base v Q) (u:Value) (P:List Pth) (hx:a.eval x=u) (hu:Zw w base u P) (hl:Q.length+P.length<=1000000) (hbase:base<=w.heap.size)
  (h:∀v' w',Zw w' base v' (Q++P)->Zl w v w' v'→wpList aa ops K rest (a.put o.dst v') w'):wpList aa ops K (o::rest) a w:=by
 obtain⟨i,hi,hz0,hz1,hz2⟩:=info_parts Kl
 have hown0:=hown
 obtain⟨vs,h1,h2⟩:=hown;obtain⟨us,u1,u2⟩:=hu
 have hul:us.length=P.length:=by have:=u1.1;omega
 rcases u1.2 with⟨rfl,h0⟩|⟨g,cap,cur,rfl,hb,hg,hnc,hcm,hcs,ht⟩
 ·obtain rfl:P=[]:=af h0
  refine wpList_plain hgd λK' hK=>?_
  have hrun:=run_append_owned_none (P:=aa) (w:=w) base 69 o.type 23 i 1 ae hi v Q.length vs h1
  unfold Oper.wp execOp;simp only[ho,resolve,invoke,builtin,Sem.run_bind,Sem.run_pure,Result.andThen_ok,List.map_toArray,List.map_cons,List.map_nil,hs,hx,hrun];exact hK _ _ (h v w (by rw[List.append_nil];exact hown0) (Zl.refl w v))
 ·have hcells:=World.ownsRow.cells u1 (g:=g) rfl
  have hones:∀x∈us,x.oneCell'=true:=λx hx=>by
   obtain⟨j,hj⟩:=List.getElem?_of_mem hx
   have hjl:j<P.length:=by have:=(List.getElem?_eq_some_iff.1 hj).1;omega
   obtain⟨x',e,hx'⟩:=u2 j _ (List.getElem?_eq_getElem hjl);rw[hj]at e;obtain rfl:=Option.some.inj e;obtain⟨A',c',rfl,_⟩:=hx'.form;rfl
  refine wpList_append_own_at w hgd s x 69 ho base 23 i _ 1 24 ae hi hz0 hz1 hz2 rfl (by decide) v Q.length vs hs h1 ⟨g,0,none⟩ P.length cap us hx (by omega) hcells hones (by unfold maxLen;omega) (by omega) hbase ?_
  intro v' w' e1 e2 _ e4;refine h v' w' (Zw.more h1 h2 hul u2 e1 e2) ⟨e2,λk hk=>?_⟩
  rcases e4 with e4|e4
  ·exact .inl (e4▸hk)
  ·rw[e4]at hk
   injection hk with hk
   exact .inr (Nat.le_of_eq hk)
end
end
end Go.Proofs.YtmepdkdeanbbaaaGreat
