/- DictT, SchemaA -/
import Derived.Test.YtkablhecedcngaaGreatJ19
import Derived.Test.YtkablhecedcngaaGreatJ20
import Derived.Laws.CopyOwn
namespace Go.Proofs.YtkablhecedcngaaGreat
set_option maxRecDepth 100000
set_option maxHeartbeats 8000000
open Go.RowKit
open Go.Lib (hid)
variable {w:World}
section
def Zl (w:World) (base:Nat) (v:Value) (Q:List Pth):Prop :=
 ∃ vs:List Value,w.ownsRow base 23 1 v Q.length vs∧∀ (i:Nat) (q:Pth),Q[i]?=some q→∃ x,vs[i]?=some x∧Xb w base x q
structure Ys3 (w:World) (A:Option Addr) (n c:Nat) (Q:List Pth):Prop where
 len:Q.length=n
 cap:n≤c
 fit:c≤maxLen
 void:A=none→c=0
 has:∀ (i:Nat) (q:Pth),Q[i]?=some q→∃ b o A' n' c',A=some ⟨b,o,none⟩∧b<w.heap.size∧w.cell? ⟨b,o+i,none⟩=some (.slice A' n' c')∧Zn w w.heap.size A' n' c' q
section
variable {w w' : World}{base:Nat}{v:Value}{Q:List Pth}
theorem Zl.Zj (w:World) (base:Nat):Zl w base (.slice none 0 0) []:=⟨[],World.ownsRow_nil w base _ 1,fun i q h=>by simp at h⟩
theorem Zl.low {base' : Nat}(h:Zl w base v Q) (hb:base'≤base):Zl w base' v Q:=by
 obtain ⟨vs,h1,h2⟩:=h;exact ⟨vs,Uv h1 hb,fun i q hi=>by obtain ⟨x,e,hx⟩:=h2 i q hi; exact ⟨x,e,hx.low hb⟩⟩
theorem Zl.lt (h:Zl w base v Q):∀ k,v.ownBlock=some k→base≤k∧k<w.heap.size:=by
 obtain ⟨vs,h1,_⟩:=h;exact World.ownsRow.lt h1
theorem Zl.form (h:Zl w base v Q):∃ A c,v=.slice A Q.length c∧Ys3 w A Q.length c Q:=by
 obtain ⟨vs,h1,h2⟩:=h
 rcases h1.2 with ⟨rfl,h0⟩ | ⟨g,cap,cur,rfl,hb,hg,hnc,hcm,hcs,ht⟩
 ·have hl:Q=[]:=List.eq_nil_of_length_eq_zero h0
  subst hl;exact ⟨none,0,rfl,rfl,Nat.le_refl _,Nat.zero_le _,fun _=>rfl,fun i q h=>by simp at h⟩
 ·refine ⟨_,cap,rfl,rfl,hnc,hcm,(fun h=>by cases h),fun i q hi=>?_⟩
  obtain ⟨x,e,hx⟩:=h2 i q hi;obtain ⟨A',c',rfl,hT,_⟩:=hx.form
  have hc:=World.ownsRow.cells h1 (g:=g) rfl i _ e
  rw [Yt] at hc;exact ⟨g,0,A',_,c',rfl,(Array.getElem?_eq_some_iff.1 hg).1,hc,hT⟩
def NoT (w:World) (S:Nat→Prop):Prop:=∀ k,S k→∀ cs e fr,w.heap[k]?=some (.cells cs e fr)→e≠23∧e≠9
theorem Ybo {B e size m:Nat}{xs:List Value}(h:w.ownsRow B e size v m xs) {S:Nat→Prop}(hS:∀ k,S k→∀ cs e' fr,w.heap[k]?=some (.cells cs e' fr)→e'≠e):∀ k,v.ownBlock=some k→¬ S k:=by
 intro k hk hs
 rcases h.2 with ⟨rfl,_⟩ | ⟨g,cap,cur,rfl,_,hg,_⟩
 ·cases hk
 ·simp only [Value.ownBlock,Option.some.injEq] at hk
  subst hk;exact hS _ hs _ _ _ hg rfl
theorem Xb.chg {S:Nat→Prop}{x:Value}{q:Pth}(h:Xb w base x q) (hc:Chg S w w') (hS:NoT w S):Xb w' base x q :=
 hc.row h (Ybo h fun k hs cs e fr he=>(hS k hs cs e fr he).2)
theorem Zl.chg {S:Nat→Prop}(h:Zl w base v Q) (hc:Chg S w w') (hS:NoT w S):Zl w' base v Q:=by
 obtain ⟨vs,h1,h2⟩:=h;exact ⟨vs,hc.row h1 (Ybo h1 fun k hs cs e fr he=>(hS k hs cs e fr he).1),fun i q hi=>by obtain ⟨x,e,hx⟩:=h2 i q hi; exact ⟨x,e,hx.chg hc hS⟩⟩
theorem NoT.none (w:World):NoT w (fun _=>False):=fun _ h=>h.elim
theorem Zl.below (h:Zl w base v Q) (hb:Below w.heap.size w w'):Zl w' base v Q:=h.chg (S:=fun _=>False) (Chg.Yz hb (Nat.le_refl _)) (NoT.none w)
theorem Zl.drewN (h:Zl w base v Q) (k:Nat):Zl (w.drewN k) base v Q:=h
theorem Zl.alloc (h:Zl w base v Q) (o:Obj):Zl (w.alloc o) base v Q:=h.below (Ya w o)
theorem Zl.Ee (h:Zl w base v Q) {B:Nat}{x:Value}{q:Pth}(hx:Xb w B x q) (hg:w.grownBy w' v.ownBlock):Xb w' B x q:=by
 obtain ⟨vs,h1,_⟩:=h;refine World.ownsRow.kept hx hg ?_
 rcases Vz hx h1 (by decide) with h2 | h2
 ·exact .inl h2
 ·exact .inr h2
end
theorem Nv:(Tryz.prog.info? 23).map (fun i=>(i.zero,i.size,i.bytes))=some (some (.slice none 0 0),1,24):=by kernel_rfl
theorem Zl.more {w':World}{base:Nat}{v v':Value}{Q P:List Pth}{vs us:List Value} (h1:w.ownsRow base 23 1 v Q.length vs) (h2:∀ (i:Nat) (q:Pth),Q[i]?=some q→∃ x,vs[i]?=some x∧Xb w base x q)
  (_hus:us.length=P.length) (h3:∀ (i:Nat) (q:Pth),P[i]?=some q→∃ x,us[i]?=some x∧Xb w base x q)
  (hown:w'.ownsRow base 23 1 v' (Q.length+P.length) (vs++us)) (hg:w.grownBy w' v.ownBlock):Zl w' base v' (Q++P):=by
 have hl:vs.length=Q.length:=by have:=h1.1; omega
 have Vj:∀ (x:Value) (q:Pth),Xb w base x q→Xb w' base x q:=fun x q hx=>World.ownsRow.kept hx hg (Vz hx h1 (by decide))
 refine ⟨vs++us,by rw [List.length_append]; exact hown,fun i q hi=>?_⟩
 by_cases hlt:i<Q.length
 ·rw [List.getElem?_append_left hlt] at hi
  obtain ⟨x,e,hx⟩:=h2 i q hi;exact ⟨x,by rw [List.getElem?_append_left (by omega)]; exact e,Vj x q hx⟩
 ·rw [List.getElem?_append_right (by omega)] at hi
  obtain ⟨x,e,hx⟩:=h3 _ q hi;exact ⟨x,by rw [List.getElem?_append_right (by omega),hl]; exact e,Vj x q hx⟩
section
variable {w:World}{ops:Array Oper}{rest:List Oper}{o:Oper}{a:Act}{K:Exit→Act→World→Prop}
theorem Ye8 (hgd:o.guard=none) (s x:Operand)
  (ho:o.op=.call { callee:=.builtin .append,args:=#[s,x],argTypes:=#[58,58] })
  (base:Nat) (v:Value) (Q:List Pth) (hs:a.eval s=v) (hown:Zl w base v Q) (g:Nat) (hx:a.eval x=.slice (some ⟨g,0,none⟩) 1 1) (y:Value) (q:Pth) (hy:w.cell? ⟨g,0,none⟩=some y) (hyo:Xb w base y q) (hl:Q.length≤1000000) (hbase:base≤w.heap.size)
  (h:∀ v' w',Zl w' base v' (Q++[q])→Z7 w v w' v'→wpList Tryz.prog ops K rest (a.put o.dst v') w'):wpList Tryz.prog ops K (o :: rest) a w:=by
 obtain ⟨i,hi,hz0,hz1,hz2⟩:=info_parts Nv;obtain ⟨vs,h1,h2⟩:=hown
 have hone:y.oneCell'=true:=by obtain ⟨A',c',rfl,_⟩:=hyo.form; rfl
 refine wpList_append_own_at w hgd s x 58 ho base 23 i _ 1 24 Tryz.underlying58 hi hz0 hz1 hz2 rfl (by decide) v Q.length vs hs h1 ⟨g,0,none⟩ 1 1 [y] hx rfl (fun j u hj=>?_) (fun u hu=>?_) (by unfold maxLen; omega) (by omega) hbase ?_
 ·match j,hj with
  | 0,hj=>simp at hj; subst hj; rw [Yt]; exact hy
  | (j+1),hj=>simp at hj
 ·simp at hu; subst hu; exact hone
 ·intro v' w' e1 e2 _ e4
  refine h v' w' (Zl.more h1 h2 (us:=[y]) (P:=[q]) rfl (fun i q' hi=>?_) e1 e2) ⟨e2,fun k hk=>?_⟩
  ·match i,hi with
   | 0,hi=>simp at hi; subst hi; exact ⟨y,rfl,hyo⟩
   | (i+1),hi=>simp at hi
  ·rcases e4 with e4 | e4
   ·exact .inl (e4 ▸ hk)
   ·rw [e4] at hk
    injection hk with hk
    exact .inr (Nat.le_of_eq hk)
theorem Yby (hgd:o.guard=none) (s x:Operand)
  (ho:o.op=.call { callee:=.builtin .append,args:=#[s,x],argTypes:=#[58,58] })
  (base:Nat) (v:Value) (Q:List Pth) (hs:a.eval s=v) (hown:Zl w base v Q) (u:Value) (P:List Pth) (hx:a.eval x=u) (hu:Zl w base u P) (hl:Q.length+P.length≤1000000) (hbase:base≤w.heap.size)
  (h:∀ v' w',Zl w' base v' (Q++P)→Z7 w v w' v'→wpList Tryz.prog ops K rest (a.put o.dst v') w'):wpList Tryz.prog ops K (o :: rest) a w:=by
 obtain ⟨i,hi,hz0,hz1,hz2⟩:=info_parts Nv
 have hown0:=hown
 obtain ⟨vs,h1,h2⟩:=hown;obtain ⟨us,u1,u2⟩:=hu
 have hul:us.length=P.length:=by have:=u1.1; omega
 rcases u1.2 with ⟨rfl,h0⟩ | ⟨g,cap,cur,rfl,hb,hg,hnc,hcm,hcs,ht⟩
 ·obtain rfl:P=[]:=List.eq_nil_of_length_eq_zero h0
  refine wpList_plain hgd fun K' hK=>?_
  have hrun:=run_append_owned_none (P:=Tryz.prog) (w:=w) base 58 o.type 23 i 1 Tryz.underlying58 hi v Q.length vs h1
  unfold Oper.wp execOp;simp only [ho,resolve,invoke,builtin,Sem.run_bind,Sem.run_pure,Result.andThen_ok,List.map_toArray,List.map_cons,List.map_nil,hs,hx,hrun];exact hK _ _ (h v w (by rw [List.append_nil]; exact hown0) (Z7.refl w v))
 ·have hcells:=World.ownsRow.cells u1 (g:=g) rfl
  have hones:∀ x∈us,x.oneCell'=true:=fun x hx=>by
   obtain ⟨j,hj⟩:=List.getElem?_of_mem hx
   have hjl:j<P.length:=by have:=(List.getElem?_eq_some_iff.1 hj).1; omega
   obtain ⟨x',e,hx'⟩:=u2 j _ (List.getElem?_eq_getElem hjl);rw [hj] at e;obtain rfl:=Option.some.inj e;obtain ⟨A',c',rfl,_⟩:=hx'.form;rfl
  refine wpList_append_own_at w hgd s x 58 ho base 23 i _ 1 24 Tryz.underlying58 hi hz0 hz1 hz2 rfl (by decide) v Q.length vs hs h1 ⟨g,0,none⟩ P.length cap us hx (by omega) hcells hones (by unfold maxLen; omega) (by omega) hbase ?_
  intro v' w' e1 e2 _ e4;refine h v' w' (Zl.more h1 h2 hul u2 e1 e2) ⟨e2,fun k hk=>?_⟩
  rcases e4 with e4 | e4
  ·exact .inl (e4 ▸ hk)
  ·rw [e4] at hk
   injection hk with hk
   exact .inr (Nat.le_of_eq hk)
end
end
section
open Go.RowKit Go.Maps
abbrev T3:=Int × Int × Int
def acs (t:T3):List Value:=[.int .i64 t.1,.int .i64 t.2.1,.int .i64 t.2.2]
def Yal (t:T3):Value:=.agg #[.int .i64 t.1,.int .i64 t.2.1,.int .i64 t.2.2]
def Qm (v:List Int):T3:=(v.getD 0 0,v.getD 1 0,v.getD 2 0)
theorem Ycz (l:List Int):splice [.int .i64 0,.int .i64 0,.int .i64 0] 0 ((l.take 3).map Xe)=acs (Qm l):=by
 match l with
 | []=>rfl
 | [a]=>rfl
 | [a,b]=>rfl
 | a :: b :: c :: r=>rfl
theorem Ykb:(Tryz.prog.info? 3).map (·.size)=some 1:=by kernel_rfl
theorem Ynj:(Tryz.prog.info? 155).map (·.size)=some 3:=by kernel_rfl
theorem Yc0 {A:Option Addr}{n c:Nat}{l:List Int}{w:World}(h:Yx w w.heap.size A n c l) {x y z:Int}(hx:Hid (Qm l=(x,y,z))) :
  Calls Tryz.prog 93 #[.slice A n c] w fun e w'=>e=.returned (.agg #[.int .i64 x,.int .i64 y,.int .i64 z])∧Below w.heap.size w w':=by
 have hb2:=We w (.cells #[.int .i64 0,.int .i64 0,.int .i64 0] 155) (.cells #[.int .i64 0,.int .i64 0,.int .i64 0] 155)
 have h1:=h.Yc hb2
 have hG:((w.alloc (.cells #[.int .i64 0,.int .i64 0,.int .i64 0] 155)).alloc (.cells #[.int .i64 0,.int .i64 0,.int .i64 0] 155)).heap[w.heap.size+1]?=some (.cells ([.int .i64 0,.int .i64 0,.int .i64 0] : List Value).toArray 155 (0,0)):=by
  have:=Block.new (w.alloc (.cells #[.int .i64 0,.int .i64 0,.int .i64 0] 155)) 155 #[.int .i64 0,.int .i64 0,.int .i64 0]
  rw [World.size_alloc] at this;exact this
 have hR:=(Block.new w 155 #[.int .i64 0,.int .i64 0,.int .i64 0]).alloc (.cells #[.int .i64 0,.int .i64 0,.int .i64 0] 155)
 obtain ⟨cs,hcs⟩ : ∃ cs,Hid ((l.take 3).map Xe=cs):=⟨_,hid rfl⟩
 have hn:Hid (cs.length=Nat.min n 3):=hid (by rw [← hcs.out,List.length_map,List.length_take,h.len,Nat.min_comm])
 have hsp:Hid (splice [.int .i64 0,.int .i64 0,.int .i64 0] 0 cs=[.int .i64 x,.int .i64 y,.int .i64 z]):=hid (by rw [← hcs.out,Ycz,hx.out]; rfl)
 have hfit:Hid (0+cs.length≤([.int .i64 0,.int .i64 0,.int .i64 0] : List Value).length):=hid (by rw [hn.out]; have:=Nat.min_le_right n 3; simp; exact this)
 have hone:Hid (∀ v∈cs,v.oneCell'=true):=hid (by rw [← hcs.out]; exact R4 _)
 have hpos:Hid (0<cs.length→∃ ad,A=some ad∧∀ j v,cs[j]?=some v→((w.alloc (.cells #[.int .i64 0,.int .i64 0,.int .i64 0] 155)).alloc (.cells #[.int .i64 0,.int .i64 0,.int .i64 0] 155)).cell? (ad.add j)=some v):=hid fun h0=>by
  have hl:0<(l.map Xe).length:=by
   rw [← hcs.out] at h0;simp at h0 ⊢;omega
  obtain ⟨b,o,e,_,hc⟩:=h1.has hl;refine ⟨_,e,fun j v hv=>?_⟩
  rw [Yt];refine hc j v ?_;rw [← hcs.out,List.map_take,List.getElem?_take] at hv
  split at hv
  ·exact hv
  ·cases hv
 have hgs:w.heap.size<((w.alloc (.cells #[.int .i64 0,.int .i64 0,.int .i64 0] 155)).alloc (.cells #[.int .i64 0,.int .i64 0,.int .i64 0] 155)).heap.size:=by simp; omega
 clear h h1 hcs hx;go_enter Tryz.func93,Tryz.ntmps93;go_wp2_with (refine wpList_copy_splice (o:=⟨some 6,_,_,_,_,_⟩) rfl _ _ 27 27 rfl 3 Tryz.underlying27 Ykb _ A 3 3 n c rfl rfl (w.heap.size+1) 0 [.int .i64 0,.int .i64 0,.int .i64 0] 155 hG cs hn.out (fun h0=>⟨rfl,hpos.out h0⟩) hfit.out hone.out (w.heap.size+1) _ (Below.refl _ _) (Nat.le_refl _) ?_)
 intro w2 HG2 hB2
 have hG2:Block w2 (w.heap.size+1) 155 #[.int .i64 x,.int .i64 y,.int .i64 z]:=by
  have:=HG2.out
  rw [hsp.out] at this;exact this
 have hR2:=hR.below hB2 (Nat.lt_succ_self _)
 have hbe:=hb2.trans (hB2.mono (Nat.le_succ _))
 have a0:w2.cell? ⟨w.heap.size+1,0,none⟩=some (.int .i64 x):=hG2.cell 0
 have a1:w2.cell? ⟨w.heap.size+1,1,none⟩=some (.int .i64 y):=hG2.cell 1
 have a2:w2.cell? ⟨w.heap.size+1,2,none⟩=some (.int .i64 z):=hG2.cell 2
 have r0:w2.cell? ⟨w.heap.size,0,none⟩=some (.int .i64 0):=hR2.cell 0
 have r1:w2.cell? ⟨w.heap.size,1,none⟩=some (.int .i64 0):=hR2.cell 1
 have r2:w2.cell? ⟨w.heap.size,2,none⟩=some (.int .i64 0):=hR2.cell 2
 have f0:=hR2.free 0
 have f1:=hR2.free 1
 have f2:=hR2.free 2
 have HR:=hid (hR2.Ypc (.int .i64 x) (.int .i64 y) (.int .i64 z))
 have HB:=hid (Nh hbe (Nat.le_refl _) (.int .i64 x) (.int .i64 y) (.int .i64 z))
 clear HG2 hG2 hR2 hbe hB2 hb2 hG hR hn hsp hfit hone hpos hgs;go_wp2_with fail;refine bodyPost_ret (Za rfl _ _ w.heap.size _ _ rfl HR.out Tryz.underlying155 rfl Ynj) rfl ?_;exact ⟨rfl,HB.out⟩
/-! ### Rows of them -/
structure Yfa (w:World) (B:Nat) (A:Option Addr) (n c:Nat) (L:List T3):Prop where
 len:L.length=n
 cap:n≤c
 fit:c≤maxLen
 void:A=none→c=0
 has:∀ i,i<n→∃ b o,A=some ⟨b,o,none⟩∧b<B∧w.cell? ⟨b,o+i*3,none⟩=some (.int .i64 (L.getD i (0,0,0)).1)∧w.cell? ⟨b,o+i*3+1,none⟩=some (.int .i64 (L.getD i (0,0,0)).2.1)∧w.cell? ⟨b,o+i*3+2,none⟩=some (.int .i64 (L.getD i (0,0,0)).2.2)
theorem Yp8 {L:List T3}{i:Nat}(h:i<L.length):(L.flatMap acs)[i*3]?=some (.int .i64 (L.getD i (0,0,0)).1)∧(L.flatMap acs)[i*3+1]?=some (.int .i64 (L.getD i (0,0,0)).2.1)∧(L.flatMap acs)[i*3+2]?=some (.int .i64 (L.getD i (0,0,0)).2.2):=by
 induction L generalizing i with
 | nil=>simp at h
 | cons e r ih =>
  cases i with
  | zero=>simp [List.flatMap_cons,acs]
  | succ i =>
   have:=ih (i:=i) (by simpa using h)
   rw [show (i+1)*3=i*3+1+1+1 by omega]
   simpa [List.flatMap_cons,acs] using this
def Pb (w:World) (base:Nat) (v:Value) (L:List T3):Prop:=w.ownsRow base 155 3 v L.length (L.flatMap acs)
section
variable {w w' : World}{base:Nat}{v:Value}{L:List T3}
theorem Pb.below (h:Pb w base v L) (hb:Below w.heap.size w w'):Pb w' base v L:=Z8 h hb
theorem Pb.alloc (h:Pb w base v L) (o:Obj):Pb (w.alloc o) base v L:=World.ownsRow.alloc h o
theorem Pb.lt (h:Pb w base v L):∀ k,v.ownBlock=some k→base≤k∧k<w.heap.size:=World.ownsRow.lt h
theorem Pb.form (h:Pb w base v L):∃ A c,v=.slice A L.length c∧Yfa w w.heap.size A L.length c L:=by
 rcases h.2 with ⟨rfl,h0⟩ | ⟨g,cap,cur,rfl,hb,hg,hnc,hcm,hcs,ht⟩
 ·have hl:L=[]:=List.eq_nil_of_length_eq_zero h0
  subst hl;exact ⟨none,0,rfl,rfl,Nat.le_refl _,Nat.zero_le _,fun _=>rfl,fun i h=>absurd h (by simp)⟩
 ·refine ⟨_,cap,rfl,rfl,hnc,hcm,(fun h=>by cases h),fun i hi=>?_⟩
  have hc:=World.ownsRow.cells h (g:=g) rfl
  obtain ⟨h1,h2,h3⟩:=Yp8 hi
  have e1:=hc _ _ h1
  have e2:=hc _ _ h2
  have e3:=hc _ _ h3
  rw [Yt] at e1 e2 e3;rw [← Nat.add_assoc] at e2 e3;exact ⟨g,0,rfl,(Array.getElem?_eq_some_iff.1 hg).1,e1,e2,e3⟩
theorem Pb.lit (w:World) (t:T3) (g:Nat) (hg:g=w.heap.size) (base:Nat) (hb:base≤g):Pb (w.alloc (.cells #[.int .i64 t.1,.int .i64 t.2.1,.int .i64 t.2.2] 155)) base (.slice (some ⟨g,0,none⟩) 1 1) [t]:=by
 subst hg;exact ⟨rfl,.inr ⟨w.heap.size,1,#[.int .i64 t.1,.int .i64 t.2.1,.int .i64 t.2.2],rfl,hb,heap_alloc_new w _,Nat.le_refl _,by decide,rfl,rfl⟩⟩
end
section
variable {w w' : World}{B B' n c:Nat}{A:Option Addr}{L:List T3}
theorem Yfa.below {C:Nat}(h:Yfa w B A n c L) (hb:Below C w w') (hC:B≤C):Yfa w' B A n c L :=
 ⟨h.len,h.cap,h.fit,h.void,fun i hi=>by
  obtain ⟨b,o,h1,h2,h3,h4,h5⟩:=h.has i hi;exact ⟨b,o,h1,h2,(hb.cell (p:=⟨b,o+i*3,none⟩) (Nat.lt_of_lt_of_le h2 hC)).trans h3,(hb.cell (p:=⟨b,o+i*3+1,none⟩) (Nat.lt_of_lt_of_le h2 hC)).trans h4,(hb.cell (p:=⟨b,o+i*3+2,none⟩) (Nat.lt_of_lt_of_le h2 hC)).trans h5⟩⟩
theorem Yfa.at_ (h:Yfa w B A n c L) {k:Nat}(hk:k<n):∃ b o x y z,A=some ⟨b,o,none⟩∧b<B∧w.cell? ⟨b,o+k*3,none⟩=some (.int .i64 x)∧w.cell? ⟨b,o+k*3+1,none⟩=some (.int .i64 y)∧w.cell? ⟨b,o+k*3+2,none⟩=some (.int .i64 z)∧Hid (L.getD k (0,0,0)=(x,y,z)):=by
 obtain ⟨b,o,h1,h2,h3,h4,h5⟩:=h.has k hk;exact ⟨b,o,_,_,_,h1,h2,h3,h4,h5,hid rfl⟩
end
theorem Yj9:(Tryz.prog.info? 155).map (fun i=>(i.zero,i.size,i.bytes))=some (some (.agg #[.int .i64 0,.int .i64 0,.int .i64 0]),3,24):=by kernel_rfl
theorem Yp9 (t:T3):∀ u∈acs t,u.oneCell'=true:=by
 intro u hu;simp [acs] at hu
 rcases hu with rfl | rfl | rfl <;> rfl
theorem Yme (w:World) (t:T3) (e:TypeId) (g:Nat) (hg:g=w.heap.size):∀ j u,(acs t)[j]?=some u→(w.alloc (.cells #[.int .i64 t.1,.int .i64 t.2.1,.int .i64 t.2.2] e)).cell? ((⟨g,0,none⟩ : Addr).add j)=some u:=by
 intro j u hj;subst hg;rw [Yt,Nat.zero_add,Zk];simpa [acs] using hj
theorem Ye5 {w:World}{ops:Array Oper}{rest:List Oper}{o:Oper}{a:Act}{Q:Exit→Act→World→Prop} (hgd:o.guard=none) (s x:Operand)
  (ho:o.op=.call { callee:=.builtin .append,args:=#[s,x],argTypes:=#[157,157] })
  (base:Nat) (v:Value) (L:List T3) (hs:a.eval s=v) (hown:Pb w base v L) (g:Nat) (hx:a.eval x=.slice (some ⟨g,0,none⟩) 1 1) (t:T3)
  (hy:∀ j u,(acs t)[j]?=some u→w.cell? ((⟨g,0,none⟩ : Addr).add j)=some u) (hl:L.length≤1000) (hbase:base≤w.heap.size)
  (h:∀ v' w',Pb w' base v' (L++[t])→Z7 w v w' v'→wpList Tryz.prog ops Q rest (a.put o.dst v') w'):wpList Tryz.prog ops Q (o :: rest) a w:=by
 obtain ⟨i,hi,hz0,hz1,hz2⟩:=info_parts Yj9;refine wpList_append_own_at w hgd s x 157 ho base 155 i _ 3 24 Tryz.underlying157 hi hz0 hz1 hz2 rfl (by decide) v L.length (L.flatMap acs) hs hown ⟨g,0,none⟩ 1 1 (acs t) hx rfl hy (Yp9 t) (by unfold maxLen; omega) (by omega) hbase ?_
 intro v' w' h1 h2 _ h4;refine h v' w' (by unfold Pb; simpa using h1) ⟨h2,fun k hk=>?_⟩
 rcases h4 with h4 | h4
 ·exact .inl (h4 ▸ hk)
 ·rw [h4] at hk
  injection hk with hk
  exact .inr (Nat.le_of_eq hk)
/-! ### None of them twice -/
theorem Yqv:Tryz.prog.keyTypeAt 4 155=true:=by kernel_rfl
theorem Ynt:Keyed Tryz.prog 155:=Keyed.of_law (deep_law_laid Ypj (m:=4) (by decide) (of_decide_eq_true (by kernel_rfl)) Yqv (by kernel_rfl))
theorem Ytn {x y z:Int} (hx:(Lit.int .i64 x).wf=true) (hy:(Lit.int .i64 y).wf=true) (hz:(Lit.int .i64 z).wf=true):∃ kl,keyOf Tryz.prog 155 (.agg #[.int .i64 x,.int .i64 y,.int .i64 z])=some kl:=by
 have h1:Tryz.prog.keyType 155=true:=by kernel_rfl
 have h3:Tryz.prog.cellsOf 155=3:=by kernel_rfl
 have h4:Tryz.prog.cellsOf 3=1:=by kernel_rfl
 have hf:(Value.agg #[.int .i64 x,.int .i64 y,.int .i64 z]).formed Tryz.prog 155=true:=by
  simp [Value.formed,Tryz.underlying155,h3]
 unfold keyOf;rw [Tryz.underlying155,h1,hf];simp only [Bool.and_self,if_true]
 have hl:∃ ls,Tryz.prog.keyLits (Tryz.prog.types.size+1) 155 (Value.agg #[.int .i64 x,.int .i64 y,.int .i64 z]).cells.toList=some ls:=by
  have h2:0<Tryz.prog.types.size:=of_decide_eq_true (by kernel_rfl)
  obtain ⟨d,hd⟩ : ∃ d,Tryz.prog.types.size+1=d+2:=⟨Tryz.prog.types.size - 1,by omega⟩
  rw [hd];clear hd h2 h1 hf
  have hr:List.range 3=[0,1,2]:=by decide
  simp [Program.keyLits,Tryz.underlying155,Tryz.underlying3,Value.cells,h3,h4,hr,hx,hy,hz]
 obtain ⟨ls,hl⟩:=hl;rw [hl];exact ⟨_,rfl⟩
theorem Ykn (w:World):(Instr.makeMap 195 none).run Tryz.prog w=.ok (.map (some w.heap.size)) (w.alloc (.map #[] 0)):=run_makeMap _ w
theorem Yl6 {a b:T3} (h:Yal a=Yal b):a=b:=by
 obtain ⟨a1,a2,a3⟩:=a;obtain ⟨b1,b2,b3⟩:=b;simp only [Yal,Value.agg.injEq,Array.mk.injEq,List.cons.injEq,Value.int.injEq,and_true,true_and] at h;obtain ⟨h1,h2,h3⟩:=h;rw [h1,h2,h3]
theorem Ylk {l:List T3}{k:Nat}{t:T3} (hk:k<l.length) (e:l.getD k (0,0,0)=t):(l.take k).map Yal++[Yal t]=(l.take (k+1)).map Yal:=by
 rw [List.take_succ_eq_append_getElem hk,List.map_append,← e,List.getD_eq_getElem?_getD,List.getElem?_eq_getElem hk];rfl
def Wf3 (t:T3):Prop:=(Lit.int .i64 t.1).wf=true∧(Lit.int .i64 t.2.1).wf=true∧(Lit.int .i64 t.2.2).wf=true
theorem Yhe {A:Option Addr}{n c:Nat}{L:List T3} (h:Yfa w w.heap.size A n c L) (hn:n≤1000) (hm:∀ t∈L,Wf3 t) :
  Calls Tryz.prog 94 #[.slice A n c] w fun e w'=>e=.returned (.bool (decide (¬ L.Nodup)))∧Below w.heap.size w w':=by
 have HL:=hid h.len
 have HM:=hid hm
 have hmk:=Ykn
 clear hm;go_enter Tryz.func94,Tryz.ntmps94;go_wp2_with fail
 have hK0:=R9.made w 155
 have hb0:=Ya w (.map #[] 0)
 clear hmk;generalize w.alloc (.map #[] 0)=w1 at hK0 hb0 ⊢;go_loopw [9] (fun i wr=>∃ k:Nat,k≤n∧i=.int .i64 k∧R9 wr 155 w.heap.size ((L.take k).map Yal)∧Below w.heap.size w wr) (fun i _=>n - (intOf i).toNat)
 case atStart=>exact ⟨0,Nat.zero_le _,rfl,hK0,hb0⟩
 case round =>
  obtain ⟨k,hk,rfl,hK,hB⟩:=hrel
  by_cases hlt:k<n
  ·obtain ⟨b,o,x,y,z,rfl,hb,g0,g1,g2,ex⟩:=(h.below hB (Nat.le_refl _)).at_ hlt
   have i0:(0:Int)≤(k:Int):=by omega
   have i1:(k:Int)<(n:Int):=by omega
   obtain ⟨kl,hkl⟩ : ∃ kl,keyOf Tryz.prog 155 (.agg #[.int .i64 x,.int .i64 y,.int .i64 z])=some kl:=by
    have h1:L.getD k (0,0,0)∈L:=by rw [List.getD_eq_getElem?_getD,List.getElem?_eq_getElem (by have:=HL.out; omega)]; exact List.getElem_mem _
    have h2:=HM.out _ h1
    rw [ex.out] at h2;exact Ytn h2.1 h2.2.1 h2.2.2
   obtain ⟨w2,hrun,hK2,hg2⟩:=(hK.alloc (.cells #[.int .i64 x,.int .i64 y,.int .i64 z] 155)).store Ynt Tryz.underlying195 hkl (by rw [List.length_map]; exact Nat.le_trans (List.length_take_le k _) (by omega))
   have hK2:R9 w2 155 w.heap.size ((L.take k).map Yal++[Yal (x,y,z)]):=hK2
   rw [Ylk (by have:=HL.out; omega) ex.out] at hK2
   have HK2:=hid hK2
   have hz:=hB.size
   have hB1:=hB.alloc hz (.cells #[.int .i64 x,.int .i64 y,.int .i64 z] 155)
   have HB2:=hid (hB1.grown hg2 hB1.size (fun j hj=>by cases hj; exact Nat.le_refl _))
   clear hK hK2 hg2 hB hB1 hkl;go_wp2_with fail;go_roundw
   case rel=>exact ⟨k+1,by omega,by go_num,HK2.out,HB2.out⟩
   case measure=>simp [intOf]; omega
  ·have e:L.take k=L:=List.take_of_length_le (by have:=HL.out; omega)
   rw [e] at hK;obtain ⟨N,m,Dm,hown,hsz,hle,hnd⟩:=hK.count Ynt;rw [Bz fun _ _=>Yl6,List.length_map,HL.out] at hnd
   rw [List.length_map,HL.out] at hle;clear e hK
   by_cases hno:L.Nodup
   ·obtain rfl:m=n:=hnd.2 hno
    have H:Hid (decide (¬ L.Nodup)=false):=hid (by simpa using hno)
    have hs:Hid (Maps.size Dm=m):=hid hsz
    clear hnd hno hsz;go_wp2_with (at_len; refine wpList_len_own _ rfl _ 195 rfl 155 194 Tryz.underlying195 (unitElem (H:=Unit)) w.heap.size N Dm rfl hown ?_; rw [hs.out]);go_ret;exact ⟨Yd H.out.symm,hB⟩
   ·have hlt2:m<n:=by
     have:m≠n:=fun e=>hno (hnd.1 e)
     omega
    have H:Hid (decide (¬ L.Nodup)=true):=hid (by simpa using hno)
    have hs:Hid (Maps.size Dm=m):=hid hsz
    have hlt3:(m:Int)<(n:Int):=by omega
    clear hnd hno hsz;go_wp2_with (at_len; refine wpList_len_own _ rfl _ 195 rfl 155 194 Tryz.underlying195 (unitElem (H:=Unit)) w.heap.size N Dm rfl hown ?_; rw [hs.out]);go_ret;exact ⟨Yd H.out.symm,hB⟩
end
end Go.Proofs.YtkablhecedcngaaGreat
