/- Reads, Texts -/
import Derived.Test.YtkablhecedcngaaGreatJ3
import Derived.Deep.Fields
namespace Go.Proofs.YtkablhecedcngaaGreat
set_option maxRecDepth 100000
set_option maxHeartbeats 8000000
open Go.RowKit
open Go.Lib (hid)
variable {w:World}{e t:TypeId}{a:Option Addr}{c n:Nat}{cs:List Value}
section
def RC (P:Program) (w:World) (t:TypeId) (cs:List Value):Prop :=
 ∃ (H:Type) (enc:TypeId × Value→H) (base:Nat) (spare:Nat→Bool) (held:Bool) (fuel:Nat) (x:DataW H × List MemPlace),DataW.trod enc P w base spare held fuel t cs=some x
section
variable {P:Program}{w:World}{t e:TypeId}{cs:List Value}
theorem RC.int {k:IntKind}(ht:P.underlying t=some (.int k)) (h:RC P w t cs):∃ n,cs=[.int k n]∧(Lit.int k n).wf=true:=by
 obtain ⟨_,_,_,_,_,_,_,h⟩:=h;obtain ⟨n,h1,_,h2⟩:=DataW.trod_int ht h;exact ⟨n,h1,h2⟩
theorem RC.field {fs:Array Field}(ht:P.underlying t=some (.struct fs)) (h:RC P w t cs) (i:Nat) (f:Field) (hf:fs[i]?=some f):RC P w f.type ((cs.drop f.offset).take (P.cellsOf f.type)):=by
 obtain ⟨H,enc,base,spare,held,fuel,x,h⟩:=h;obtain ⟨xs,n,_,_,_,hl,hx⟩:=DataW.trod_struct ht h
 have hi:i<fs.size:=(Array.getElem?_eq_some_iff.1 hf).1
 exact ⟨H,enc,base,spare,held,n,_,(hx i f hf).trans (List.getElem?_eq_getElem (by omega))⟩
theorem RC.len {fs:Array Field}(ht:P.underlying t=some (.struct fs)) (h:RC P w t cs):cs.length=P.cellsOf t:=by
 obtain ⟨H,enc,base,spare,held,fuel,x,h⟩:=h;obtain ⟨xs,n,_,_,hc,_⟩:=DataW.trod_struct ht h;exact hc
theorem RC.slice {a:Option Addr}{n c:Nat}(ht:P.underlying t=some (.slice e)) (h:RC P w t [.slice a n c]) :
  (a=none∧n=0∧c=0)∨∃ ad,a=some ad∧n≤c∧c≤maxLen∧∀ i,i<n→∃ cs,cs.length=P.cellsOf e∧(∀ j,j<P.cellsOf e→w.cell? (ad.add (i*P.cellsOf e+j))=cs[j]?)∧RC P w e cs:=by
 obtain ⟨H,enc,base,spare,held,fuel,x,h⟩:=h
 rcases Go.Deep.open_slice ht h with ⟨h1,_⟩ | ⟨ad,len,cap,m,k,D,Pl,h1,_,hl,hm,hmm,_,hi⟩
 ·injection h1 with h1 _
  injection h1 with h1 h2 h3
  exact .inl ⟨h1,h2,h3⟩
 ·injection h1 with h1 _
  injection h1 with h1 h2 h3
  subst h1 h2 h3;refine .inr ⟨ad,rfl,hl,hm,fun i hin=>?_⟩
  have him:i<m:=by rw [hmm]; split <;> omega
  obtain ⟨cs,hc,ht'⟩:=hi i him;obtain ⟨_,hcl,hat⟩:=World.cells?_some hc;refine ⟨cs,hcl,fun j hj=>?_,H,enc,base,spare,held,k,_,ht'⟩
  rw [← Go.Deep.add_add];exact hat j hj
end
theorem RC.rows {P:Program} (ht:P.underlying t=some (.slice e)) (hp:0<P.cellsOf e) (h:RC P w t [.slice a n c]) (hn:0<n) :
  ∃ b o,a=some ⟨b,o,none⟩∧b<w.heap.size∧n≤c∧c≤maxLen∧∀ i,i<n→∃ cs,cs.length=P.cellsOf e∧(∀ j,j<P.cellsOf e→w.cell? ⟨b,o+(i*P.cellsOf e+j),none⟩=cs[j]?)∧RC P w e cs:=by
 rcases h.slice ht with ⟨_,h0,_⟩ | ⟨ad,rfl,hnc,hcm,hi⟩
 ·omega
 ·obtain ⟨cs,hl,hc,_⟩:=hi 0 hn
  have h0:=hc 0 hp
  rw [List.getElem?_eq_getElem (by omega)] at h0
  obtain ⟨b,o,s⟩:=ad
  have hs:s=none:=by simpa [Addr.add] using World.cell?_spot h0
  subst hs
  have hb:b<w.heap.size:=by simpa [Addr.add] using World.block_lt_of_cell? w _ h0
  refine ⟨b,o,rfl,hb,hnc,hcm,fun i hin=>?_⟩
  obtain ⟨cs,hl,hc,hr⟩:=hi i hin;refine ⟨cs,hl,fun j hj=>?_,hr⟩
  rw [← hc j hj,Yt]
theorem RC.Uh {P:Program} (ht:P.underlying t=some (.slice e)) (h:RC P w t cs):∃ a n c,cs=[.slice a n c]:=by
 obtain ⟨H,enc,base,spare,held,fuel,x,h⟩:=h
 rcases Go.Deep.open_slice ht h with ⟨h1,_⟩ | ⟨ad,len,cap,m,k,D,Pl,h1,_⟩
 ·exact ⟨_,_,_,h1⟩
 ·exact ⟨_,_,_,h1⟩
theorem RC.bytes {P:Program} (ht:P.underlying t=some (.slice e)) (he:P.underlying e=some (.int .u8)) (hc:P.cellsOf e=1) (h:RC P w t [.slice a n c]):∃ l,Ysc w w.heap.size a n c l:=by
 have hs:=h.slice ht
 have hshape:n≤c∧c≤maxLen∧(a=none→c=0):=by
  rcases hs with ⟨h1,h2,h3⟩ | ⟨ad,h1,h2,h3,_⟩
  ·subst h2 h3; exact ⟨Nat.le_refl _,Nat.zero_le _,fun _=>rfl⟩
  ·exact ⟨h2,h3,fun e=>by rw [h1] at e; cases e⟩
 rcases Nat.eq_zero_or_pos n with h0 | h0
 ·subst h0
  exact ⟨[],rfl,Nat.zero_le _,hshape.2.1,hshape.2.2,Has.Zj⟩
 ·obtain ⟨b,o,rfl,hb,_,_,hi⟩:=h.rows ht (by omega) h0
  have key:∀ i,i<n→∃ u:UInt8,w.cell? ⟨b,o+i,none⟩=some (byt u):=fun i hin=>by
   obtain ⟨cs,hl,hcell,hr⟩:=hi i hin;obtain ⟨x,rfl,hw⟩:=hr.int he
   have h1:=hcell 0 (by omega)
   rw [hc,Nat.mul_one,Nat.add_zero] at h1
   have hx:=Yps hw
   refine ⟨UInt8.ofNat x.toNat,?_⟩;rw [h1];simp only [List.getElem?_cons_zero,byt,UInt8.toNat_ofNat',Option.some.injEq]
   congr 1
   omega
  refine ⟨(List.range n).map fun i=>match w.cell? ⟨b,o+i,none⟩ with | some (.int .u8 x)=>UInt8.ofNat x.toNat | _=>0,by simp,hshape.1,hshape.2.1,hshape.2.2,fun _=>⟨b,o,rfl,hb,fun j u hu=>?_⟩⟩
  rw [List.map_map,List.getElem?_map] at hu
  by_cases hj:j<n
  ·obtain ⟨v,hv⟩:=key j hj
   rw [List.getElem?_range hj] at hu;simp only [Option.map_some,Function.comp,hv,byt,Option.some.injEq] at hu;rw [hv,← hu];simp [byt]
  ·rw [List.getElem?_eq_none (by simp; omega)] at hu
   cases hu
end
section
def Xp (s:Txt):Value:=.string ⟨s.toArray⟩
theorem Ypm (l:List Txt):∀ u∈l.map Xp,u.oneCell'=true:=by
 intro u hu;obtain ⟨x,_,rfl⟩:=List.mem_map.1 hu;rfl
structure Zn (w:World) (B:Nat) (A:Option Addr) (n c:Nat) (l:List Txt):Prop where
 len:l.length=n
 cap:n≤c
 fit:c≤maxLen
 void:A=none→c=0
 has:Has w B A (l.map Xp)
section
variable {w w' : World}{B B' n c:Nat}{A:Option Addr}{l:List Txt}
theorem Zn.Vj (h:Zn w B A n c l) (hk:∀ b o,b<B→w'.cell? ⟨b,o,none⟩=w.cell? ⟨b,o,none⟩):Zn w' B A n c l:=⟨h.len,h.cap,h.fit,h.void,h.has.Vj hk⟩
theorem Zn.more (h:Zn w B A n c l) (hB:B≤B'):Zn w B' A n c l:=⟨h.len,h.cap,h.fit,h.void,h.has.more hB⟩
theorem Zn.below {C:Nat}(h:Zn w B A n c l) (hb:Below C w w') (hC:B≤C):Zn w' B A n c l:=⟨h.len,h.cap,h.fit,h.void,h.has.below hb hC⟩
theorem Zn.drewN (h:Zn w B A n c l) (k:Nat):Zn (w.drewN k) B A n c l:=⟨h.len,h.cap,h.fit,h.void,h.has⟩
theorem Zn.Yc (h:Zn w w.heap.size A n c l) (hb:Below w.heap.size w w'):Zn w' w'.heap.size A n c l:=(h.below hb (Nat.le_refl _)).more hb.size
theorem Zn.Yn (h:Zn w B A n c l):n≤9223372036854775807:=by
 have h1:=h.cap; have h2:=h.fit
 unfold maxLen at h2; omega
theorem Zn.Z1 (h:Zn w B A n c l):c≤9223372036854775807:=by
 have h2:=h.fit
 unfold maxLen at h2; omega
theorem Zn.at_ (h:Zn w B A n c l) {k:Nat}(hk:k<n) :
  ∃ b o x,A=some ⟨b,o,none⟩∧b<B∧w.cell? ⟨b,o+k,none⟩=some (.string ⟨x.toArray⟩)∧Hid (x=l.getD k []):=by
 obtain ⟨hl,_,_,_,hh⟩:=h;obtain ⟨b,o,e,hb,hc⟩:=hh (by simp; omega)
 refine ⟨b,o,l.getD k [],e,hb,hc k _ ?_,hid rfl⟩;simp [Xp,List.getElem?_map,List.getD_eq_getElem?_getD,List.getElem?_eq_getElem (show k<l.length by omega)]
theorem Zn.R8 (h:Zn w B A n c l) (k:Nat) (hk:k≤n):Zn w B A k c (l.take k) :=
 ⟨by have:=h.len; rw [List.length_take]; omega,by have:=h.cap; omega,h.fit,h.void,by rw [List.map_take]; exact h.has.R8 k⟩
end
theorem Zn.Yh9 (w:World) (l:List Txt) (C:Array Value) (hC:C=(l.map Xp).toArray) (e:TypeId) (n:Nat) (hn:n=l.length) (hl:n≤1000000) (g:Nat) (hg:g=w.heap.size) :
  Zn (w.alloc (.cells C e)) (w.alloc (.cells C e)).heap.size (some ⟨g,0,none⟩) n n l:=by
 subst hC hn hg;exact ⟨rfl,Nat.le_refl _,by unfold maxLen; omega,(fun h=>by cases h),fun _=>⟨w.heap.size,0,rfl,by simp,fun j u hu=>by
  rw [Nat.zero_add,Zk];simpa using hu⟩⟩
theorem RC.text {P:Program} (ht:P.underlying t=some .string) (h:RC P w t cs):∃ s:Txt,cs=[Xp s]∧s.length≤maxLen:=by
 obtain ⟨_,_,_,_,_,_,_,h⟩:=h;obtain ⟨b,h1,_,h2⟩:=DataW.trod_string ht h;exact ⟨b.data.toList,by rw [h1]; simp [Xp],by simpa using h2⟩
def Xb (w:World) (base:Nat) (v:Value) (l:List Txt):Prop:=w.ownsRow base 9 1 v l.length (l.map Xp)
section
variable {w w' : World}{base:Nat}{v:Value}{l:List Txt}
theorem Xb.Zj (w:World) (base:Nat):Xb w base (.slice none 0 0) []:=World.ownsRow_nil w base _ 1
theorem Xb.form (h:Xb w base v l):∃ A c,v=.slice A l.length c∧Zn w w.heap.size A l.length c l∧(∀ a,A=some a→base≤a.block):=by
 rcases h.2 with ⟨rfl,h0⟩ | ⟨g,cap,cur,rfl,hb,hg,hnc,hcm,hcs,ht⟩
 ·have hl:l=[]:=List.eq_nil_of_length_eq_zero h0
  subst hl;exact ⟨none,0,rfl,⟨rfl,Nat.le_refl _,Nat.zero_le _,fun _=>rfl,Has.Zj⟩,fun _ h=>by cases h⟩
 ·have hlt:g<w.heap.size:=(Array.getElem?_eq_some_iff.1 hg).1
  refine ⟨_,cap,rfl,⟨rfl,hnc,hcm,(fun h=>by cases h),fun _=>⟨g,0,rfl,hlt,fun j u hu=>?_⟩⟩,fun a ha=>by injection ha with ha; subst ha; exact hb⟩
  have:=World.ownsRow.cells h (g:=g) rfl j u hu
  rwa [Yt] at this
theorem Xb.Yu (h:Xb w base v l):∃ A n c,v=.slice A n c∧Zn w w.heap.size A n c l∧(∀ a,A=some a→base≤a.block):=by
 obtain ⟨A,c,h1,h2,h3⟩:=h.form;exact ⟨A,_,c,h1,h2,h3⟩
theorem Xb.alloc (h:Xb w base v l) (o:Obj):Xb (w.alloc o) base v l:=World.ownsRow.alloc h o
theorem Xb.drewN (h:Xb w base v l) (k:Nat):Xb (w.drewN k) base v l:=h
theorem Xb.lt (h:Xb w base v l):∀ k,v.ownBlock=some k→base≤k∧k<w.heap.size:=World.ownsRow.lt h
theorem Xb.below {C:Nat}(h:Xb w base v l) (hb:Below C w w') (hC:w.heap.size≤C):Xb w' base v l :=
 World.ownsRow.kept (row:=none) h ⟨hb.os,hb.tape,hb.output,hb.size,fun k hk _=>hb.block k (by omega)⟩ (by cases v.ownBlock <;> simp)
theorem Xb.low {base' : Nat}(h:Xb w base v l) (hb:base'≤base):Xb w base' v l:=Uv h hb
end
section
variable {w w' : World}{base:Nat}{v:Value}{l:List Txt}
end
end
end Go.Proofs.YtkablhecedcngaaGreat
