/- DictB, DictU, LatU, LatV, LatW, LatX, LatY, LatZ, LtD, LtT, LuD, LuK, PlnD -/
import Derived.Test.YtkablhecedcngaaGreatJ14
import Derived.Test.YtkablhecedcngaaGreatJ38
import Derived.Test.YtkablhecedcngaaGreatJ41
namespace Go.Proofs.YtkablhecedcngaaGreat
set_option maxRecDepth 100000
set_option maxHeartbeats 8000000
open Go.RowKit
variable {L:Rws}{K:Zd}{i j m n:Nat}{N:List Nat}{G:List Fct}{e:Zd × PC}{C:Cub}{k:List Int}{Qs Rs:List (List Pth)}{Cs:List Cub}{x:PC}{Q:List Pth}{p:Pth}{f:Fct}{v:Int}{cnt:Int→Nat}
section
def Off (gr base:Nat) (w w' : World):Prop:=Chg (fun k=>k=gr∨base≤k) w w'
section
variable {gr base:Nat}{w a b:World}
theorem Off.size (h:Off gr base w a):w.heap.size≤a.heap.size:=Chg.size h
end
end
section
def Qc:List Nat→List (List Pth)→Prop
 | n :: N,Q :: Qs=>Whole n Q∧Qc N Qs
 | _,_=>True
theorem Gi:∀ {N:List Nat}{Qs:List (List Pth)}(P:List Pth),Xj N Qs→Qc N Qs→Qc N (Wx N Qs P)
 | _ :: _,_ :: _,_ :: P,⟨g,g'⟩,⟨h,h'⟩=>⟨Whole.add g h,Gi P g' h'⟩
 | [],[],_,_,h=>h
 | _ :: _,_ :: _,[],_,h=>h
 | [],_ :: _,_,h,_=>h.elim
 | _ :: _,[],_,h,_=>h.elim
def O9:List Nat→List (List Pth)→List Int→Prop
 | n :: N,Q :: Qs,c :: k=>(0<c∧c≤(Q.length:Int)∧(pth Q c.toNat).length=n)∧O9 N Qs k
 | [],[],[]=>True
 | _,_,_=>False
theorem D9:∀ {D:List Yg}{Qs:List (List Pth)}{P:List Pth},Xj (Yk D) Qs→X4 Qs (Zv D) P→P.map List.length=Yk D→(∀ p∈P,p≠[])→O9 (Yk D) Qs (W9 Qs (Zv D) P)
 | [],[],[],_,_,_,_=>trivial
 | d :: D,Q :: Qs,p :: P,⟨g,g'⟩,⟨h,h'⟩,hl,hn=>by
  simp only [Yk,List.map_cons,List.cons.injEq] at hl
  have hp:p.take ((d.2.length:Int)).toNat=p:=List.take_of_length_le (by rw [Int.toNat_natCast,hl.1]; exact Nat.le_refl _)
  refine ⟨?_,D9 g' h' hl.2 fun q hq=>hn q (List.mem_cons_of_mem _ hq)⟩
  have hm:p∈Q:=by
   have h1:p.take ((d.2.length:Int)).toNat=[]∨p.take ((d.2.length:Int)).toNat∈Q:=h
   rw [hp] at h1;exact h1.resolve_left (hn p (by simp))
  show 0<((fnd Q (p.take ((d.2.length:Int)).toNat):Nat):Int)∧_∧_
  rw [hp,Int.toNat_natCast,Qz hm]
  have h1:=Vp.2 hm
  have h2:=Nt (L:=Q) (x:=p)
  exact ⟨by omega,by omega,hl.1⟩
 | [],[],_ :: _,_,h,_,_=>h.elim
 | [],_ :: _,_,h,_,_,_=>h.elim
 | _ :: _,[],_,h,_,_,_=>h.elim
 | _ :: _,_ :: _,[],_,h,_,_=>h.elim
theorem Bf:∀ {D:List Yg}{P:List Pth},P.map List.length=Yk D→U1 (Zv D) P=P
 | [],[],_=>rfl
 | d :: D,p :: P,h=>by
  simp only [Yk,List.map_cons,List.cons.injEq] at h
  have hp:p.take ((d.2.length:Int)).toNat=p:=List.take_of_length_le (by rw [Int.toNat_natCast,h.1]; exact Nat.le_refl _)
  show p.take ((d.2.length:Int)).toNat :: U1 (Zv D) P=_
  rw [hp,Bf h.2]
 | [],_ :: _,h=>by simp [Yk] at h
 | _ :: _,[],h=>by simp [Yk] at h
theorem Yq1 {D:List Yg}{P:List Pth}(hD:∀ d∈D,Ze d.2 3) (h:P.map List.length=Yk D):∀ p∈P,p≠[]:=by
 intro p hp e
 have h1:p.length∈P.map List.length:=List.mem_map.2 ⟨p,hp,rfl⟩
 rw [h] at h1;obtain ⟨d,hd,hl⟩:=List.mem_map.1 h1
 have h2:=(hD d hd).1
 rw [e] at hl;simp at hl;rw [hl] at h2;simp at h2
section
variable {D:List Yg}{M:List Txt}{V:List (List Int)}{E:List Hld}{Qs:List (List Pth)}{B:Cub}
end
end
section
theorem Jj {N:List Nat} : ∀ {F:List Fct}{Qs:List (List Pth)},Xj N Qs→Qc N Qs→Qc N (Zc N Qs F).1
 | [],_,_,h=>h
 | f :: F,Qs,g,h=>by
  rw [Zc]
  split
  ·exact h
  ·exact Jj (Oa f.1 g) (Gi f.1 g h)
theorem Ydz {D:List Yg}{M:List Txt}{V:List (List Int)}(h:Z3 D M V):∀ n∈Yk D,1≤n∧n≤3:=fun n hn=>by
 obtain ⟨d,hd,rfl⟩:=List.mem_map.1 hn;exact ⟨(h.1.1 d hd).1,(h.1.1 d hd).2.1⟩
section
variable {D:List Yg}{M:List Txt}{V:List (List Int)}{E:List Hld}{G:List Fct}{Qs:List (List Pth)}
theorem Yak (hg:Xj (Yk D) Qs) (h:Qc (Yk D) Qs) (G:List Fct):Qc (Yk D) (Y7 D M V E Qs G).1.2:=by
 unfold Y7
 split
 ·exact h
 split
 ·exact h
 split
 ·exact h
 split
 ·exact h
 ·exact Jj hg h
theorem Dk:∀ D:List Yg,Qc (Yk D) (D.map fun _=>[])
 | []=>trivial
 | _ :: D=>⟨Ylt _,Dk D⟩
end
end
section
/-! ### keys,place by place -/
theorem M2:∀ {Qs:List (List Pth)}{v:List Int}{P:List Pth},v.length=Qs.length→P.length=Qs.length→(W9 Qs v P).length=Qs.length
 | [],[],[],_,_=>rfl
 | Q :: Qs,n :: v,p :: P,h,h'=>by
  simp only [W9,List.length_cons] at h h' ⊢;rw [M2 (by omega) (by omega)]
 | [],_ :: _,_,h,_=>by simp at h
 | [],[],_ :: _,_,h=>by simp at h
 | _ :: _,[],_,h,_=>by simp at h
 | _ :: _,_ :: _,[],_,h=>by simp at h
theorem Eg:∀ {Qs:List (List Pth)}{v:List Int}{P:List Pth}{i:Nat},i<Qs.length→v.length=Qs.length→P.length=Qs.length→(W9 Qs v P).getD i 0=((fnd (Qs.getD i []) ((P.getD i []).take (v.getD i 0).toNat):Nat):Int)
 | Q :: Qs,n :: v,p :: P,0,_,_,_=>rfl
 | Q :: Qs,n :: v,p :: P,i+1,h,h1,h2=>by
  simp only [W9,List.length_cons,List.getD_cons_succ] at h h1 h2 ⊢;exact Eg (by omega) (by omega) (by omega)
 | [],_,_,_,h,_,_=>by simp at h
 | _ :: _,[],_,_,_,h,_=>by simp at h
 | _ :: _,_ :: _,[],_,_,_,h=>by simp at h
theorem N7:∀ {Qs:List (List Pth)}{k:List Int},k.length=Qs.length→(Us Qs k).length=Qs.length
 | [],[],_=>rfl
 | Q :: Qs,c :: k,h=>by
  simp only [Us,List.length_cons] at h ⊢;rw [N7 (by omega)]
 | [],_ :: _,h=>by simp at h
 | _ :: _,[],h=>by simp at h
theorem Ew:∀ {Qs:List (List Pth)}{k:List Int}{i:Nat},i<Qs.length→k.length=Qs.length→(Us Qs k).getD i []=pth (Qs.getD i []) (k.getD i 0).toNat
 | Q :: Qs,c :: k,0,_,_=>rfl
 | Q :: Qs,c :: k,i+1,h,h'=>by
  simp only [Us,List.length_cons,List.getD_cons_succ] at h h' ⊢;exact Ew (by omega) (by omega)
 | [],_,_,h,_=>by simp at h
 | _ :: _,[],_,_,h=>by simp at h
theorem Xj.len:∀ {N:List Nat}{Qs:List (List Pth)},Xj N Qs→Qs.length=N.length
 | [],[],_=>rfl
 | n :: N,Q :: Qs,h=>by simp [Xj.len h.2]
 | [],_ :: _,h=>h.elim
 | _ :: _,[],h=>h.elim
theorem Xj.get:∀ {N:List Nat}{Qs:List (List Pth)}{i:Nat},Xj N Qs→i<N.length→Good (N.getD i 0) (Qs.getD i [])
 | n :: N,Q :: Qs,0,h,_=>h.1
 | n :: N,Q :: Qs,i+1,h,hi=>by
  simp only [List.length_cons,List.getD_cons_succ] at hi ⊢;exact Xj.get h.2 (by omega)
 | [],_,_,_,hi=>by simp at hi
 | _ :: _,[],_,h,_=>h.elim
theorem Xj.of:∀ {N:List Nat}{Qs:List (List Pth)},Qs.length=N.length→(∀ i,i<N.length→Good (N.getD i 0) (Qs.getD i []))→Xj N Qs
 | [],[],_,_=>trivial
 | n :: N,Q :: Qs,hl,h=>⟨h 0 (by simp),Xj.of (by simpa using hl) fun i hi=>by
  have:=h (i+1) (by simpa using hi)
  simpa only [List.getD_cons_succ] using this⟩
 | [],_ :: _,hl,_=>by simp at hl
 | _ :: _,[],hl,_=>by simp at hl
theorem On:∀ {N:List Nat}{Qs:List (List Pth)}{k:List Int},O9 N Qs k→Qs.length=N.length∧k.length=N.length
 | [],[],[],_=>⟨rfl,rfl⟩
 | n :: N,Q :: Qs,c :: k,h=>by
  have:=On h.2
  simp [this.1,this.2]
 | [],_ :: _,_,h=>h.elim
 | [],[],_ :: _,h=>h.elim
 | _ :: _,[],_,h=>h.elim
 | _ :: _,_ :: _,[],h=>h.elim
theorem C7:∀ {N:List Nat}{Qs:List (List Pth)}{k:List Int}{i:Nat},O9 N Qs k→i<N.length→0<k.getD i 0∧k.getD i 0≤((Qs.getD i []).length:Int)∧(pth (Qs.getD i []) (k.getD i 0).toNat).length=N.getD i 0
 | n :: N,Q :: Qs,c :: k,0,h,_=>h.1
 | n :: N,Q :: Qs,c :: k,i+1,h,hi=>by
  simp only [List.length_cons,List.getD_cons_succ] at hi ⊢;exact C7 h.2 (by omega)
 | [],_,_,_,_,hi=>by simp at hi
 | _ :: _,[],_,_,h,_=>h.elim
 | _ :: _,_ :: _,[],_,h,_=>h.elim
theorem Qb.len:∀ {N:List Nat}{v:List Int},Qb N v→v.length=N.length
 | [],[],_=>rfl
 | n :: N,x :: v,h=>by simp [Qb.len h.2.2]
 | [],_ :: _,h=>h.elim
 | _ :: _,[],h=>h.elim
theorem Qb.get:∀ {N:List Nat}{v:List Int}{i:Nat},Qb N v→i<N.length→0≤v.getD i 0∧v.getD i 0≤((N.getD i 0:Nat):Int)
 | n :: N,x :: v,0,h,_=>⟨h.1,h.2.1⟩
 | n :: N,x :: v,i+1,h,hi=>by
  simp only [List.length_cons,List.getD_cons_succ] at hi ⊢;exact Qb.get h.2.2 (by omega)
 | [],_,_,_,hi=>by simp at hi
 | _ :: _,[],_,h,_=>h.elim
def upB (Qs:List (List Pth)) (k v:List Int):List Int:=W9 Qs v (Us Qs k)
theorem Yrx {D:List Yg}{Qs:List (List Pth)}{v:List Int}{P:List Pth}(hg:Xj (Yk D) Qs) (hP:X4 Qs (Zv D) P) (hl:P.map List.length=Yk D):upB Qs (W9 Qs (Zv D) P) v=W9 Qs v P:=by
 unfold upB;rw [N6 hg.J1 hP,Bf hl]
theorem Yry {N:List Nat}{Qs:List (List Pth)}{k v:List Int}(hk:O9 N Qs k) (hv:Qb N v):(upB Qs k v).length=N.length:=by
 have h1:=On hk
 have h2:=hv.len
 unfold upB;rw [M2 (by omega) (by rw [N7 (by omega)]),h1.1]
theorem Yrw {N:List Nat}{Qs:List (List Pth)}{k v:List Int}(hk:O9 N Qs k) (hv:Qb N v) {i:Nat}(hi:i<N.length):(upB Qs k v).getD i 0=((fnd (Qs.getD i []) ((pth (Qs.getD i []) (k.getD i 0).toNat).take (v.getD i 0).toNat):Nat):Int):=by
 have h1:=On hk
 have h2:=hv.len
 unfold upB;rw [Eg (by omega) (by omega) (by rw [N7 (by omega)]),Ew (by omega) (by omega)]
/-! ### what comes under each key -/
section
variable {α K:Type} [DecidableEq K] {κ:α→K}{c:α→PC}{G:List α}
theorem Xi {i:Nat}{f:α}(h:G[i]?=some f):G.take (i+1)=G.take i++[f]:=by rw [List.take_add_one,h]; rfl
theorem Rg {i:Nat}{f:α}(h:G[i]?=some f) (k:K):Yi κ c (G.take (i+1)) k=if κ f=k then Yi κ c (G.take i) k++[c f] else Yi κ c (G.take i) k:=by
 rw [Xi h,U9];unfold Yi
 by_cases hk:κ f=k
 ·simp [hk]
 ·simp [hk]
def X6 (κ:α→K) (c:α→PC) (G:List α):List (K × List PC):=(Vh κ G []).map fun k=>(k,Yi κ c G k)
theorem C8 (κ:α→K) (c:α→PC) (G:List α):(X6 κ c G).map (·.1)=Vh κ G []:=by
 unfold X6;rw [List.map_map];exact List.map_id _
theorem Ym9 {i:Nat}{f:α}(h:G[i]?=some f) {j:Nat}{M:List PC}(hj:(X6 κ c (G.take i))[j]?=some (κ f,M)):X6 κ c (G.take (i+1))=(X6 κ c (G.take i)).set j (κ f,M++[c f]):=by
 unfold X6 at hj ⊢;rw [List.getElem?_map,Option.map_eq_some_iff] at hj;obtain ⟨k,hk,e⟩:=hj;obtain ⟨rfl,rfl⟩:=Prod.mk.inj e
 have hn:=Qo κ (G.take i) [] List.nodup_nil
 rw [Om h,if_pos (List.mem_of_getElem? hk)];refine List.ext_getElem? fun q=>?_
 rw [List.getElem?_map,List.getElem?_set,List.length_map,List.getElem?_map]
 by_cases hq:j=q
 ·subst hq
  rw [if_pos rfl,if_pos (List.getElem?_eq_some_iff.1 hk).1,hk];simp only [Option.map_some,Rg h,if_pos]
 ·rw [if_neg hq]
  rcases hx:(Vh κ (G.take i) [])[q]? with _ | x
  ·rfl
  ·have hne:¬ κ f=x:=fun e=>hq (Bw hn hk (by rw [hx,e]))
   simp only [Option.map_some,Rg h,if_neg hne]
theorem Yna {i:Nat}{f:α}(h:G[i]?=some f) (hn:κ f∉Vh κ (G.take i) []):X6 κ c (G.take (i+1))=X6 κ c (G.take i)++[(κ f,[c f])]:=by
 unfold X6;rw [Om h,if_neg hn,List.map_append]
 have h0:Yi κ c (G.take i) (κ f)=[]:=by
  by_cases h' : Yi κ c (G.take i) (κ f)=[]
  ·exact h'
  ·obtain ⟨g,hg,e⟩:=Wg.1 h'
   exact absurd ((Tv κ _ [] _).2 (.inr ⟨g,hg,e⟩)) hn
 congr 1
 ·refine List.map_congr_left fun x hx=>?_
  have hne:¬ κ f=x:=fun e=>hn (e ▸ hx)
  rw [Rg h,if_neg hne]
 ·simp only [List.map_cons,List.map_nil,Rg h,if_pos,h0,List.nil_append]
theorem Ur {x:K × List PC} : x∈X6 κ c G↔(∃ f∈G,κ f=x.1)∧x.2=Yi κ c G x.1:=by
 unfold X6;rw [List.mem_map];constructor
 ·rintro ⟨k,hk,rfl⟩
  rcases (Tv κ G [] k).1 hk with h | h
  ·simp at h
  ·exact ⟨h,rfl⟩
 ·rintro ⟨h,e⟩
  exact ⟨x.1,(Tv κ G [] _).2 (.inr h),by rw [← e]⟩
theorem F8 (κ:α→K) (c:α→PC) (G:List α):(X6 κ c G).length≤G.length:=by
 unfold X6;rw [List.length_map];simpa using Fy κ G []
end
/-! ### what a cell is with the cells that Ysg -/
def Z5 (C:Cub) (k:List Int) (M:List PC):PC × Int:=V8 ((Zb C k).toList++M)
abbrev Chn:=(Nat × List Int) × (List PC × PC)
def O3 (v:Nat) (C:Cub) (L:List (List Int × List PC)):List Chn:=L.map fun x=>((v,x.1),(x.2,(Z5 C x.1 x.2).1))
def okV (C:Cub) (L:List (List Int × List PC)):Prop:=∀ x∈L,(Z5 C x.1 x.2).2=0
def E0 (Cs:List Cub) (x:Chn):List Cub:=Cs.set x.1.1 (Vn (Cs.getD x.1.1 []) x.1.2 x.2.2)
def Vm (Cs:List Cub) (L:List Chn):List Cub:=L.foldl E0 Cs
theorem Yeh (Cs:List Cub) (x:Chn):(E0 Cs x).length=Cs.length:=by unfold E0; rw [List.length_set]
theorem B9 (L:List Chn):∀ Cs:List Cub,(Vm Cs L).length=Cs.length:=by
 induction L with
 | nil=>exact fun _=>rfl
 | cons x L ih=>exact fun Cs=>(ih (E0 Cs x)).trans (Yeh Cs x)
theorem Ygy {L:List Chn}{x:Chn} (h:L[i]?=some x):Vm Cs (L.take (i+1))=E0 (Vm Cs (L.take i)) x:=by
 unfold Vm;rw [Xi h,List.foldl_append];rfl
theorem B8 {x:Chn} (hx:x.1.1<Cs.length) (v:Nat):(E0 Cs x).getD v []=if x.1.1=v then Vn (Cs.getD v []) x.1.2 x.2.2 else Cs.getD v []:=by
 unfold E0;rw [List.getD_eq_getElem?_getD,List.getElem?_set]
 by_cases h:x.1.1=v
 ·rw [if_pos h,if_pos h,if_pos (h ▸ hx),h]; rfl
 ·rw [if_neg h,if_neg h,List.getD_eq_getElem?_getD]
theorem K3 {n:Nat}(Wh:Nat→List Int→PC) (v:Nat) (k:List Int):∀ (L:List Chn) (Cs:List Cub),Cs.length=n→(∀ x∈L,x.1.1<n∧x.2.2=Wh x.1.1 x.1.2)→Zb ((Vm Cs L).getD v []) k=if ∃ x∈L,x.1=(v,k) then some (Wh v k) else Zb (Cs.getD v []) k
 | [],Cs,_,_=>by simp [Vm]
 | x :: L,Cs,hn,hL=>by
  show Zb ((Vm (E0 Cs x) L).getD v []) k=_
  rw [K3 Wh v k L (E0 Cs x) (by rw [Yeh,hn]) fun y hy=>hL y (List.mem_cons_of_mem _ hy),B8 (by rw [hn]; exact (hL x (by simp)).1)]
  by_cases h:∃ y∈L,y.1=(v,k)
  ·obtain ⟨y,hy,e⟩:=h
   rw [if_pos ⟨y,hy,e⟩,if_pos ⟨y,List.mem_cons_of_mem _ hy,e⟩]
  ·rw [if_neg h]
   by_cases hx:x.1=(v,k)
   ·rw [if_pos (show x.1.1=v by rw [hx]),Sf,if_pos (show k=x.1.2 by rw [hx]),if_pos ⟨x,by simp,hx⟩,(hL x (by simp)).2,hx]
   ·have hn' : ¬ ∃ y∈x :: L,y.1=(v,k):=by
     rintro ⟨y,hy,e⟩
     rcases List.mem_cons.1 hy with rfl | hy
     ·exact hx e
     ·exact h ⟨y,hy,e⟩
    rw [if_neg hn']
    by_cases h1:x.1.1=v
    ·rw [if_pos h1,Sf,if_neg fun e=>hx (Prod.ext h1 e.symm)]
    ·rw [if_neg h1]
theorem Ae:∀ (L:List Chn) (Cs:List Cub),(∀ v,Ris (Cs.getD v []))→∀ v,Ris ((Vm Cs L).getD v [])
 | [],Cs,h,v=>h v
 | x :: L,Cs,h,v=>Ae L (E0 Cs x) (fun q=>by
  by_cases hx:x.1.1<Cs.length
  ·rw [B8 hx]
   split
   ·exact Db (h q) _ _
   ·exact h q
  ·have e:E0 Cs x=Cs:=List.set_eq_of_length_le (by omega)
   rw [e];exact h q) v
end
section
theorem Nl {Rs:List (List Pth)}{v:List Int}(G:List Fct) (k:List Int):Yi (kC Rs v) Xl (G.map Zo) k=Yi (kC Rs v) Y8 G k:=by
 unfold Yi;rw [List.filter_map,List.map_map];rfl
theorem Eh:∀ {N:List Nat}{Qs:List (List Pth)}{v:List Int}{P:List Pth},Xj N Qs→X4 Qs v P→isKey N.length (W9 Qs v P)
 | [],[],[],[],_,_=>⟨rfl,fun c h=>by simp [W9] at h⟩
 | n :: N,Q :: Qs,x :: v,p :: P,hg,hp=>by
  obtain ⟨h1,h2⟩:=Eh hg.2 hp.2;refine ⟨by simp only [W9,List.length_cons,h1],fun c hc=>?_⟩
  simp only [W9,List.mem_cons] at hc
  rcases hc with rfl | hc
  ·have:=@Nt _ _ Q (p.take x.toNat)
   have:=hg.1.size
   omega
  ·exact h2 c hc
 | [],_ :: _,_,_,h,_=>h.elim
 | _ :: _,[],_,_,h,_=>h.elim
 | [],[],_ :: _,_,_,h=>h.elim
 | [],[],[],_ :: _,_,h=>h.elim
 | _ :: _,_ :: _,[],_,_,h=>h.elim
 | _ :: _,_ :: _,_ :: _,[],_,h=>h.elim
structure Wc (D:List Yg) (M:List Txt) (V:List (List Int)) (E:List Hld) (Qs:List (List Pth)) (Cs:List Cub):Prop where
 len:Cs.length=(Ye D V).length
 at_:∀ i v,(Ye D V)[i]?=some v→U3 M.length (kC Qs v) Xl E (Cs.getD i [])
def To (Rs:List (List Pth)) (Vs:List (List Int)) (Cs:List Cub) (G:List Fct) (n:Nat):List Chn:=(List.range n).flatMap fun i=>O3 i (Cs.getD i []) (X6 (kC Rs (Vs.getD i [])) Y8 G)
theorem Yjb (Rs:List (List Pth)) (Vs:List (List Int)) (Cs:List Cub) (G:List Fct):To Rs Vs Cs G 0=[]:=rfl
theorem Ka (Rs:List (List Pth)) (Vs:List (List Int)) (Cs:List Cub) (G:List Fct) (n:Nat):To Rs Vs Cs G (n+1)=To Rs Vs Cs G n++O3 n (Cs.getD n []) (X6 (kC Rs (Vs.getD n [])) Y8 G):=by
 unfold To;rw [List.range_succ,List.flatMap_append];simp
theorem R7 {Rs:List (List Pth)}{Vs:List (List Int)}{Cs:List Cub}{G:List Fct}{n:Nat}{x:Chn} : x∈To Rs Vs Cs G n↔x.1.1<n∧(∃ g∈G,kC Rs (Vs.getD x.1.1 []) g=x.1.2)∧x.2.1=Yi (kC Rs (Vs.getD x.1.1 [])) Y8 G x.1.2∧x.2.2=(Z5 (Cs.getD x.1.1 []) x.1.2 x.2.1).1:=by
 unfold To O3;rw [List.mem_flatMap];constructor
 ·rintro ⟨i,hi,hx⟩
  obtain ⟨y,hy,rfl⟩:=List.mem_map.1 hx;obtain ⟨h1,h2⟩:=Ur.1 hy;exact ⟨List.mem_range.1 hi,h1,h2,rfl⟩
 ·rintro ⟨h1,h2,h3,h4⟩
  refine ⟨x.1.1,List.mem_range.2 h1,List.mem_map.2 ⟨(x.1.2,x.2.1),Ur.2 ⟨h2,h3⟩,?_⟩⟩;rw [← h4]
theorem Ycn (Rs:List (List Pth)) (Vs:List (List Int)) (Cs:List Cub) (G:List Fct):∀ n,((To Rs Vs Cs G n).map (·.1)).Nodup
 | 0=>List.nodup_nil
 | n+1=>by
  rw [Ka,List.map_append];refine List.nodup_append.2 ⟨Ycn Rs Vs Cs G n,?_,?_⟩
  ·have e:(O3 n (Cs.getD n []) (X6 (kC Rs (Vs.getD n [])) Y8 G)).map (·.1)=(Vh (kC Rs (Vs.getD n [])) G []).map fun k=>(n,k):=by
    rw [← C8 (kC Rs (Vs.getD n [])) Y8 G];unfold O3;rw [List.map_map,List.map_map];rfl
   rw [e];exact List.Pairwise.map _ (fun a b h e=>h (Prod.mk.inj e).2) (Qo _ G [] List.nodup_nil)
  ·intro a ha b hb e
   subst e;obtain ⟨x,hx,rfl⟩:=List.mem_map.1 ha;obtain ⟨y,hy,e⟩:=List.mem_map.1 hb
   have h1:=(R7.1 hx).1
   unfold O3 at hy;obtain ⟨z,_,rfl⟩:=List.mem_map.1 hy
   have:=congrArg Prod.fst e
   simp at this;omega
section
variable {D:List Yg}{M:List Txt}{V:List (List Int)}{E:List Hld}{Qs Rs:List (List Pth)}{Cs:List Cub}{G:List Fct}
theorem Wc.begin (D:List Yg) (M:List Txt) (V:List (List Int)) (Qs:List (List Pth)):Wc D M V [] Qs ((Ye D V).map fun _=>[]) :=
 ⟨by rw [List.length_map],fun i v hi=>by
  rw [List.getD_eq_getElem?_getD,List.getElem?_map,hi];exact ⟨List.Pairwise.nil,fun x=>by simp⟩⟩
theorem Wc.grown (h:Wc D M V E Qs Cs) (hL:Tk D M V E Qs) (hg:Ws Qs Rs) (h0:Rw Rs):Wc D M V E Rs Cs :=
 ⟨h.len,fun i v hi=>(h.at_ i v hi).grown hg h0 (hL.has v (List.mem_of_getElem? hi))⟩
theorem Yr0 {v:List Int}{C:Cub}(hE:∀ e∈E,Yw M.length e.2) (hG:∀ f∈G,Yw M.length (Y8 f)) (hg:Rw Rs) (hPE:∀ e∈E,X4 Rs v e.1) (hPG:∀ f∈G,X4 Rs v f.1) (hC:U3 M.length (kC Rs v) Xl E C) (hok:okF M.length (kP v) Xl E) (hcell:∀ e∈C,Yw M.length e.2) :
  okV C (X6 (kC Rs v) Y8 G)↔okF M.length (kP v) Xl (E++G.map Zo):=by
 have hG' : ∀ f∈G.map Zo,Yw M.length (Xl f):=fun f hf=>by
  obtain ⟨g,hgm,rfl⟩:=List.mem_map.1 hf;exact hG g hgm
 have hP' : ∀ f∈E++G.map Zo,X4 Rs v f.1:=fun f hf=>by
  rcases List.mem_append.1 hf with hf | hf
  ·exact hPE f hf
  ·obtain ⟨g,hgm,rfl⟩:=List.mem_map.1 hf
   exact hPG g hgm
 rw [← B4 (Pw (β:=PC) hg hP'),Yo2 hE hG' hC ((B4 (Pw (β:=PC) hg hPE)).2 hok)]
 have key:∀ g∈G,((Z5 C (kC Rs v g) (Yi (kC Rs v) Y8 G (kC Rs v g))).2=0↔Zm (Yq M.length ((Zb C (kC Rs v g)).toList++Yi (kC Rs v) Y8 G (kC Rs v g)))):=fun g hgm=>by
  unfold Z5;rw [Qh (m:=M.length)]
  ·split
   ·rename_i h; exact ⟨fun _=>h,fun _=>rfl⟩
   ·rename_i h; exact ⟨fun h'=>by simp at h',fun h'=>absurd h' h⟩
  ·intro c hc
   rcases List.mem_append.1 hc with hc | hc
   ·rcases hq:Zb C (kC Rs v g) with _ | y
    ·rw [hq] at hc; simp at hc
    ·rw [hq] at hc
     simp at hc;subst hc;exact hcell _ (Xz hq)
   ·unfold Yi at hc
    obtain ⟨f,hf,rfl⟩:=List.mem_map.1 hc;exact hG f (List.mem_filter.1 hf).1
  ·intro e
   have:=(List.append_eq_nil_iff.1 e).2
   exact Wg.2 ⟨g,hgm,rfl⟩ this
 constructor
 ·intro h f hf
  obtain ⟨g,hgm,rfl⟩:=List.mem_map.1 hf;rw [Nl];exact (key g hgm).1 (h (kC Rs v g,_) (Ur.2 ⟨⟨g,hgm,rfl⟩,rfl⟩))
 ·intro h x hx
  obtain ⟨⟨g,hgm,e⟩,e2⟩:=Ur.1 hx
  have h1:=h (Zo g) (List.mem_map.2 ⟨g,hgm,rfl⟩)
  rw [Nl] at h1;rw [e2,← e];exact (key g hgm).2 h1
theorem Wc.put (hE:∀ e∈E,Yw M.length e.2) (hG:∀ f∈G,Yw M.length (Y8 f)) (h:Wc D M V E Rs Cs) (hris:∀ i,Ris (Cs.getD i [])) (hcell:∀ i,∀ e∈Cs.getD i [],Yw M.length e.2)
  (hok:∀ i v,(Ye D V)[i]?=some v→okV (Cs.getD i []) (X6 (kC Rs v) Y8 G)):Wc D M V (E++G.map Zo) Rs (Vm Cs (To Rs (Ye D V) Cs G (Ye D V).length)):=by
 refine ⟨by rw [B9]; exact h.len,fun i v hi=>?_⟩
 have hil:=(List.getElem?_eq_some_iff.1 hi).1
 have hv:(Ye D V).getD i []=v:=by rw [List.getD_eq_getElem?_getD,hi]; rfl
 refine U3.more (C:=Cs.getD i []) hE (fun f hf=>?_) (h.at_ i v hi) (Ae _ _ hris i) fun k=>?_
 ·obtain ⟨g,hgm,rfl⟩:=List.mem_map.1 hf
  exact hG g hgm
 ·rw [K3 (n:=(Ye D V).length) (fun v k=>(Z5 (Cs.getD v []) k (Yi (kC Rs ((Ye D V).getD v [])) Y8 G k)).1) i k _ Cs h.len (fun x hx=>by
   obtain ⟨h1,_,h3,h4⟩:=R7.1 hx;exact ⟨h1,by rw [h4,h3]⟩)]
  rw [Nl]
  have hiff:(∃ x∈To Rs (Ye D V) Cs G (Ye D V).length,x.1=(i,k))↔∃ g∈G,kC Rs v g=k:=by
   constructor
   ·rintro ⟨x,hx,e⟩
    obtain ⟨_,h2,_⟩:=R7.1 hx;rw [e,hv] at h2;exact h2
   ·rintro hg
    exact ⟨((i,k),(Yi (kC Rs v) Y8 G k,(Z5 (Cs.getD i []) k (Yi (kC Rs v) Y8 G k)).1)),R7.2 ⟨hil,by rw [hv]; exact hg,by rw [hv],rfl⟩,rfl⟩
  have hiff2:(∃ g∈G.map Zo,kC Rs v g=k)↔∃ g∈G,kC Rs v g=k:=by
   constructor
   ·rintro ⟨f,hf,e⟩
    obtain ⟨g,hgm,rfl⟩:=List.mem_map.1 hf;exact ⟨g,hgm,e⟩
   ·rintro ⟨g,hgm,e⟩
    exact ⟨Zo g,List.mem_map.2 ⟨g,hgm,rfl⟩,e⟩
  by_cases hk:∃ g∈G,kC Rs v g=k
  ·rw [if_pos (hiff.2 hk),if_pos (hiff2.2 hk),hv]
   have h2:=hok i v hi (k,Yi (kC Rs v) Y8 G k) (Ur.2 ⟨hk,rfl⟩)
   unfold Z5 at h2 ⊢
   have hcs:∀ c∈(Zb (Cs.getD i []) k).toList++Yi (kC Rs v) Y8 G k,Yw M.length c:=fun c hc=>by
    rcases List.mem_append.1 hc with hc | hc
    ·rcases hq:Zb (Cs.getD i []) k with _ | y
     ·rw [hq] at hc; simp at hc
     ·rw [hq] at hc
      simp at hc;subst hc;exact hcell i _ (Xz hq)
    ·unfold Yi at hc
     obtain ⟨f,hf,rfl⟩:=List.mem_map.1 hc;exact hG f (List.mem_filter.1 hf).1
   rw [(Q3 hcs (fun e=>Wg.2 hk (List.append_eq_nil_iff.1 e).2) h2).1]
  ·rw [if_neg fun h'=>hk (hiff.1 h'),if_neg fun h'=>hk (hiff2.1 h')]
end
/-! ### one change is put -/
theorem Ybr {y:PC}{L:List PC} (hy:Yw m y) (hL:∀ c∈L,Yw m c) (hn:L≠[]):Yq m [y,Yq m L]=Yq m (y :: L):=by
 have hF:∀ c∈L,Full m c:=Gz hL
 have hY:∀ c∈[y],Full m c:=fun c hc=>by rw [List.mem_singleton.1 hc]; exact hy.full
 have hs:Full m (Yq m L):=Ga hF hn
 rw [show Yq m [y,Yq m L]=Yq m [Yq m L,y] from Yaa (List.Perm.swap _ _ _) (fun c hc=>by
  simp at hc
  rcases hc with rfl | rfl
  ·exact hy.full
  ·exact hs) (by simp),Jb hF hY hn]
 exact Yaa List.perm_append_comm (fun c hc=>by
  rcases List.mem_append.1 hc with hc | hc
  ·exact hF c hc
  ·exact hY c hc) (by simp)
theorem Yix {W:Nat}{L:List PC} (hc:∀ e∈C,Yw m e.2) (hk:isKey W k) (hL:∀ c∈L,Yw m c) (hn:L≠[]) (h0:(V8 L).2=0) (hw:(Z5 C k L).2=0):Pg W m C k (V8 L).1=(Vn C k (Z5 C k L).1,0):=by
 obtain ⟨e1,i1⟩:=Q3 hL hn h0;rw [e1];unfold Z5 at hw ⊢
 rcases hq:Zb C k with _ | y
 ·rw [Mh ⟨hk,i1⟩ hq]
  show _=(Vn C k (V8 ([]++L)).1,0)
  rw [List.nil_append,e1]
 ·rw [hq] at hw
  have hy:=hc _ (Xz hq)
  have hyL:∀ c∈y :: L,Yw m c:=fun c h=>by
   rcases List.mem_cons.1 h with rfl | h
   ·exact hy
   ·exact hL c h
  have hw' : (V8 (y :: L)).2=0:=hw
  obtain ⟨e2,i2⟩:=Q3 hyL (by simp) hw'
  have hm:Xq y (Yq m L)=(Yq m (y :: L),0):=by
   rw [Jz hy i1,Ybr hy hL hn,if_pos i2.1]
  rw [Lw ⟨hk,i1⟩ hq (by rw [hm]),hm]
  show _=(Vn C k (V8 (y :: L)).1,0)
  rw [e2]
theorem Ax:∀ {C:Cub}{k:List Int}{x:PC},(∀ e∈C,Zp e.1 k=true)→Vn C k x=C++[(k,x)]
 | [],_,_,_=>rfl
 | e :: C,k,x,h=>by
  have h1:=h e (by simp)
  rw [Vn,if_neg (Uo h1),if_neg (by rw [Jy h1]; simp),Ax fun y hy=>h y (List.mem_cons_of_mem _ hy)]
  rfl
def U6 (C:Cub) (k:List Int) (x:PC):Cub:=C.map fun e=>if e.1=k then (k,x) else e
theorem Yaf:∀ {C:Cub}{k:List Int}{x:PC},Ris C→(Zb C k).isSome→U6 C k x=Vn C k x
 | [],_,_,_,h=>by simp [Zb] at h
 | e :: C,k,x,hr,h=>by
  obtain ⟨r1,r2⟩:=List.pairwise_cons.1 hr;unfold U6;rw [List.map_cons,Vn]
  by_cases he:e.1=k
  ·rw [if_pos he,if_pos he]
   congr 1
   conv=>rhs; rw [← List.map_id C]
   refine List.map_congr_left fun y hy=>?_
   rw [if_neg fun ey=>Uo (r1 y hy) (he.trans ey.symm)]
   rfl
  ·rw [Zb,if_neg he] at h
   obtain ⟨y,hy⟩:=Option.isSome_iff_exists.1 h
   have hl:Zp e.1 k=true:=r1 _ (Xz hy)
   rw [if_neg he,if_neg he,if_neg (by rw [Jy hl]; simp)]
   congr 1
   exact Yaf r2 h
theorem Ypq {e:List Int × PC} (h:C[i]?=some e):(U6 C k x).take (i+1)=(U6 C k x).take i++[(e.1,if e.1=k then x else e.2)]:=by
 have h1:(U6 C k x)[i]?=some (e.1,if e.1=k then x else e.2):=by
  unfold U6;rw [List.getElem?_map,h]
  show some _=some _
  by_cases he:e.1=k
  ·show some (if e.1=k then (k,x) else e)=_
   rw [if_pos he,if_pos he,he]
  ·show some (if e.1=k then (k,x) else e)=_
   rw [if_neg he,if_neg he]
 exact Xi h1
theorem Ye3 (hr:Ris C) {i:Nat}{e:List Int × PC}(h:C[i]?=some e):∀ y∈(U6 C k x).take i,Zp y.1 e.1=true:=by
 intro y hy;obtain ⟨j,hj⟩:=List.getElem?_of_mem hy
 have hji:j<i:=by
  have:=(List.getElem?_eq_some_iff.1 hj).1
  rw [List.length_take] at this;omega
 rw [List.getElem?_take,if_pos hji] at hj;unfold U6 at hj;rw [List.getElem?_map,Option.map_eq_some_iff] at hj;obtain ⟨z,hz,rfl⟩:=hj
 have hl:Zp z.1 e.1=true:=by
  have:=List.pairwise_iff_getElem.1 hr j i (List.getElem?_eq_some_iff.1 hz).1 (List.getElem?_eq_some_iff.1 h).1 hji
  rwa [(List.getElem?_eq_some_iff.1 hz).2,(List.getElem?_eq_some_iff.1 h).2] at this
 by_cases hk:z.1=k
 ·rw [if_pos hk,← hk]; exact hl
 ·rw [if_neg hk]; exact hl
end
section
def Sy (N:List Nat):List Int:=N.map fun (n:Nat)=>(n:Int)
theorem Yht (D:List Yg):Zv D=Sy (Yk D):=by
 unfold Zv Sy Yk;rw [List.map_map];rfl
theorem Gu:∀ N:List Nat,Qb N (Sy N)
 | []=>trivial
 | n :: N=>⟨Int.natCast_nonneg n,Int.le_refl _,Gu N⟩
theorem Gt (N:List Nat):(Sy N).length=N.length:=by unfold Sy; rw [List.length_map]
theorem Yma (N:List Nat) {j:Nat}(hj:j<N.length):(Sy N).getD j 0=((N.getD j 0:Nat):Int):=by
 unfold Sy;rw [List.getD_eq_getElem?_getD,List.getElem?_map,List.getElem?_eq_getElem hj,List.getD_eq_getElem?_getD,List.getElem?_eq_getElem hj];rfl
theorem Md {α:Type}{L:List α}{k:Nat}(x:α) (h:k<L.length):L.take (k+1)=L.take k++[L.getD k x]:=by
 rw [List.take_add_one,List.getElem?_eq_getElem h,List.getD_eq_getElem?_getD,List.getElem?_eq_getElem h];rfl
theorem Tm:∀ {N:List Nat}{Qs:List (List Pth)}{P:List Pth},Qs.length=N.length→P.length=N.length→(Wx N Qs P).length=N.length
 | [],[],[],_,_=>rfl
 | n :: N,Q :: Qs,p :: P,h,h'=>by
  simp only [Wx,List.length_cons] at h h' ⊢;rw [Tm (by omega) (by omega)]
 | [],_ :: _,_,h,_=>by simp at h
 | [],[],_ :: _,_,h=>by simp at h
 | _ :: _,[],_,h,_=>by simp at h
 | _ :: _,_ :: _,[],_,h=>by simp at h
abbrev St (N:List Nat) (Qs:List (List Pth)) (P:List Pth) (j:Nat):Nat:=Rp (N.getD j 0) (Qs.getD j []) (P.getD j [])
abbrev Gj (N:List Nat) (Qs:List (List Pth)) (P:List Pth) (j:Nat):List Pth:=Vc (N.getD j 0) (Qs.getD j []) (P.getD j [])
theorem Gh:∀ {N:List Nat}{Qs:List (List Pth)}{P:List Pth}{j:Nat},j<N.length→Qs.length=N.length→P.length=N.length→(Wx N Qs P).getD j []=Gj N Qs P j
 | n :: N,Q :: Qs,p :: P,0,_,_,_=>rfl
 | n :: N,Q :: Qs,p :: P,j+1,hj,h,h'=>by
  simp only [Wx,List.length_cons,List.getD_cons_succ] at hj h h' ⊢;rw [Gh (by omega) (by omega) (by omega)]
  simp only [Gj,List.getD_cons_succ]
 | [],_,_,_,hj,_,_=>by simp at hj
 | _ :: _,[],_,_,_,h,_=>by simp at h
 | _ :: _,_ :: _,[],_,_,_,h=>by simp at h
theorem Kg:∀ {N:List Nat}{Qs:List (List Pth)}{P:List Pth},Qs.length=N.length→P.length=N.length→(∀ i,i<N.length→St N Qs P i=0)→Pq N Qs P=0
 | [],[],[],_,_,_=>rfl
 | n :: N,Q :: Qs,p :: P,h,h',ha=>by
  rw [Pq,if_neg (fun h0=>h0 (ha 0 (by simp)))]
  exact Kg (by simpa using h) (by simpa using h') fun i hi=>by
   have:=ha (i+1) (by simpa using hi)
   simpa only [St,List.getD_cons_succ] using this
 | [],_ :: _,_,h,_,_=>by simp at h
 | [],[],_ :: _,_,h,_=>by simp at h
 | _ :: _,[],_,h,_,_=>by simp at h
 | _ :: _,_ :: _,[],_,h,_=>by simp at h
theorem Yaw:∀ {N:List Nat}{Qs:List (List Pth)}{P:List Pth}{j:Nat},j<N.length→Qs.length=N.length→P.length=N.length→(∀ i,i<j→St N Qs P i=0)→St N Qs P j≠0→Pq N Qs P=St N Qs P j
 | n :: N,Q :: Qs,p :: P,0,_,_,_,_,he=>by
  have he' : Rp n Q p≠0:=he
  rw [Pq,if_pos he'];rfl
 | n :: N,Q :: Qs,p :: P,j+1,hj,h,h',ha,he=>by
  rw [Pq,if_neg (fun h0=>h0 (ha 0 (by simp)))]
  have e:St (n :: N) (Q :: Qs) (p :: P) (j+1)=St N Qs P j:=by simp only [St,List.getD_cons_succ]
  rw [e] at he ⊢;exact Yaw (by simpa using hj) (by simpa using h) (by simpa using h') (fun i hi=>by
   have:=ha (i+1) (by omega)
   simpa only [St,List.getD_cons_succ] using this) he
 | [],_,_,_,hj,_,_,_,_=>by simp at hj
 | _ :: _,[],_,_,_,h,_,_,_=>by simp at h
 | _ :: _,_ :: _,[],_,_,_,h,_,_=>by simp at h
def Ri (N:List Nat) (Qs:List (List Pth)) (P:List Pth) (j:Nat):List (List Pth):=(Wx N Qs P).take j++Qs.drop j
section
variable {N:List Nat}{Qs:List (List Pth)}{P:List Pth}
theorem Fa:Ri N Qs P 0=Qs:=by simp [Ri]
theorem Cm (h:Qs.length=N.length) (h' : P.length=N.length):Ri N Qs P N.length=Wx N Qs P:=by
 unfold Ri;rw [List.take_of_length_le (by rw [Tm h h']; exact Nat.le_refl _),List.drop_of_length_le (by omega),List.append_nil]
theorem Cn (h:Qs.length=N.length) (h' : P.length=N.length) {j:Nat}(hj:j<N.length):(Ri N Qs P j).getD j []=Qs.getD j []:=by
 unfold Ri;rw [List.getD_eq_getElem?_getD,List.getElem?_append_right (by rw [List.length_take,Tm h h']; omega),List.length_take,Tm h h',List.getElem?_drop,List.getD_eq_getElem?_getD]
 congr 2
 omega
theorem G9 (h:Qs.length=N.length) (h' : P.length=N.length) {j:Nat}(hj:j<N.length):(Ri N Qs P j).set j (Gj N Qs P j)=Ri N Qs P (j+1):=by
 unfold Ri
 have hl:((Wx N Qs P).take j).length=j:=by rw [List.length_take,Tm h h']; omega
 rw [List.set_append_right _ _ (by omega),hl,Nat.sub_self,List.drop_eq_getElem_cons (by omega),List.set_cons_zero,Md [] (by rw [Tm h h']; exact hj),Gh hj h h',List.append_assoc]
 rfl
end
theorem Yhp (h:Rp n Q p=0):Rx n Q p:=Classical.byContradiction fun h'=>by
 unfold Rp at h;rw [if_neg h'] at h
 split at h <;> cases h
theorem Yiu (h:Rp n Q p=0) (hn:1≤n):(Mg n Q p).length=n∧(Mg n Q p).getD (n - 1) 0=((fnd (Vc n Q p) p:Nat):Int):=by
 have ho:=Yhp h
 have hl:=ho.1.1
 obtain ⟨e1,e2,_⟩:=Lx ho.1 ho.2;rw [e1,e2];refine ⟨by rw [List.length_map,Wz,hl],?_⟩
 rw [List.getD_eq_getElem?_getD,List.getElem?_map,V4 (by omega),show n - 1+1=n by omega,List.take_of_length_le (by omega)]
 rfl
theorem Ysn {P:List Pth} (h:Qs.length=N.length) (h' : P.length=N.length) {j:Nat}(hj:j<N.length) (hl:(P.getD j []).length=N.getD j 0):(W9 (Wx N Qs P) (Sy N) P).take j++[((fnd (Gj N Qs P j) (P.getD j []):Nat):Int)]=(W9 (Wx N Qs P) (Sy N) P).take (j+1):=by
 have hal:=Tm h h'
 have hkl:(W9 (Wx N Qs P) (Sy N) P).length=N.length:=by rw [M2 (by rw [Gt]; omega) (by omega),hal]
 have hg:=Eg (Qs:=Wx N Qs P) (v:=Sy N) (P:=P) (i:=j) (by omega) (by rw [Gt]; omega) (by omega)
 rw [Gh hj h h',Yma N hj,Int.toNat_natCast,List.take_of_length_le (by omega)] at hg
 rw [List.take_add_one,List.getElem?_eq_getElem (by omega)]
 rw [List.getD_eq_getElem?_getD,List.getElem?_eq_getElem (by omega)] at hg
 rw [← hg];rfl
theorem Ly (N:List Nat):∀ (F F' : List Fct) (Qs:List (List Pth)),Zc N Qs (F++F')=if (Zc N Qs F).2≠0 then Zc N Qs F else Zc N (Zc N Qs F).1 F'
 | [],F',Qs=>by simp [Zc]
 | f :: F,F',Qs=>by
  rw [List.cons_append,Zc,Zc]
  by_cases h:Pq N Qs f.1≠0
  ·rw [if_pos h,if_pos h,if_pos h]
  ·rw [if_neg h,if_neg h,Ly N F F']
theorem Qd (h:G[i]?=some f) (h0:Zc N Qs (G.take i)=(Rs,0)):Zc N Qs (G.take (i+1))=if Pq N Rs f.1≠0 then (Rs,Pq N Rs f.1) else (Wx N Rs f.1,0):=by
 rw [Xi h,Ly,h0,if_neg (by simp),Zc,Zc]
theorem Gk (h:(Zc N Qs (G.take i)).2≠0):Zc N Qs G=Zc N Qs (G.take i):=by
 conv=>lhs; rw [← List.take_append_drop i G]
 rw [Ly,if_pos h]
def Vk (N:List Nat) (Rs:List (List Pth)) (G:List Fct):List (List Int):=G.map fun f=>W9 Rs (Sy N) f.1
theorem Ydn {Ts:List (List Pth)} (hg:Ws Rs Ts) (h0:Rw Ts) (h:∀ f∈G,X4 Rs (Sy N) f.1):Vk N Ts G=Vk N Rs G:=by
 unfold Vk;exact List.map_congr_left fun f hf=>Nw hg h0 (h f hf)
theorem Ygc (h:G[i]?=some f):Vk N Rs (G.take i)++[W9 Rs (Sy N) f.1]=Vk N Rs (G.take (i+1)):=by
 unfold Vk;rw [Xi h,List.map_append];rfl
end
section
theorem Ygs {α:Type}{L:List α}(h:L.Nodup) {i:Nat}{a:α}(hi:L[i]?=some a):a∉L.take i:=by
 have h1:(L.take (i+1)).Nodup:=h.sublist (List.take_sublist _ _)
 rw [Xi hi,List.nodup_append] at h1;intro hm;exact h1.2.2 a hm a (List.mem_singleton.2 rfl) rfl
section
variable {Rs:List (List Pth)}{Vs:List (List Int)}{Cs:List Cub}{G:List Fct}{n W m i:Nat}{x:Chn}
structure Fits (W m n:Nat) (Cs:List Cub) (G:List Fct) (x:Chn):Prop where
 view:x.1.1<n
 key:isKey W x.1.2
 more:∀ c∈x.2.1,Yw m c
 some_:x.2.1≠[]
 few:x.2.1.length≤G.length
 whole:Yw m x.2.2
 sum:Z5 (Cs.getD x.1.1 []) x.1.2 x.2.1=(x.2.2,0)
theorem Ypg (hl:Cs.length=n) (hC:∀ v,v<n→Wr W m (Cs.getD v [])) (hok:∀ v,v<n→okV (Cs.getD v []) (X6 (kC Rs (Vs.getD v [])) Y8 G)) (hG:∀ f∈G,Yw m (Y8 f)) (hkey:∀ v,v<n→∀ f∈G,isKey W (kC Rs (Vs.getD v []) f)) (hx:(To Rs Vs Cs G n)[i]?=some x) :
  Fits W m n (Vm Cs ((To Rs Vs Cs G n).take i)) G x:=by
 have hm:=List.mem_of_getElem? hx
 obtain ⟨h1,⟨f,hf,hfk⟩,h3,h4⟩:=R7.1 hm
 have hM:∀ c∈x.2.1,Yw m c:=fun c hc=>by
  rw [h3] at hc;unfold Yi at hc;obtain ⟨f',hf',rfl⟩:=List.mem_map.1 hc;exact hG f' (List.mem_filter.1 hf').1
 have hne:x.2.1≠[]:=fun h0=>by
  have h5:Y8 f∈Yi (kC Rs (Vs.getD x.1.1 [])) Y8 G x.1.2:=by unfold Yi; exact List.mem_map.2 ⟨f,List.mem_filter.2 ⟨hf,decide_eq_true hfk⟩,rfl⟩
  rw [← h3,h0] at h5
  cases h5
 have h5:(Z5 (Cs.getD x.1.1 []) x.1.2 x.2.1).2=0:=hok x.1.1 h1 (x.1.2,x.2.1) (Ur.2 ⟨⟨f,hf,hfk⟩,h3⟩)
 have hall:∀ c∈(Zb (Cs.getD x.1.1 []) x.1.2).toList++x.2.1,Yw m c:=fun c hc=>by
  rcases List.mem_append.1 hc with hc | hc
  ·rcases hq:Zb (Cs.getD x.1.1 []) x.1.2 with _ | y
   ·rw [hq] at hc; simp at hc
   ·rw [hq] at hc
    simp at hc;subst hc;exact (hC x.1.1 h1).cell _ (Xz hq)
  ·exact hM c hc
 obtain ⟨e1,i1⟩:=Q3 hall (fun h0=>hne (List.append_eq_nil_iff.1 h0).2) h5
 have hg:=K3 (n:=n) (fun v k=>(Z5 (Cs.getD v []) k (Yi (kC Rs (Vs.getD v [])) Y8 G k)).1) x.1.1 x.1.2 ((To Rs Vs Cs G n).take i) Cs hl (fun y hy=>by
  obtain ⟨a1,_,a3,a4⟩:=R7.1 (List.mem_of_mem_take hy);exact ⟨a1,by rw [a4,a3]⟩)
 have hno:¬ ∃ y∈(To Rs Vs Cs G n).take i,y.1=(x.1.1,x.1.2):=by
  rintro ⟨y,hy,e⟩
  have h6:=Ygs (Ycn Rs Vs Cs G n) (i:=i) (a:=x.1) (by rw [List.getElem?_map,hx]; rfl)
  refine h6 ?_;rw [← List.map_take];exact List.mem_map.2 ⟨y,hy,e⟩
 rw [if_neg hno] at hg;refine ⟨h1,by rw [← hfk]; exact hkey x.1.1 h1 f hf,hM,hne,?_,?_,?_⟩
 ·rw [h3]; unfold Yi; rw [List.length_map]; exact List.length_filter_le _ _
 ·rw [h4]
  show Yw m (V8 _).1
  rw [e1];exact i1
 ·have e2:Z5 ((Vm Cs ((To Rs Vs Cs G n).take i)).getD x.1.1 []) x.1.2 x.2.1=Z5 (Cs.getD x.1.1 []) x.1.2 x.2.1:=by unfold Z5; rw [hg]
  rw [e2,h4];exact Prod.ext rfl h5
end
end
def LxD:List Yg:=[([100],[[108],[109]])]
def LxM:List Txt:=[[118]]
def LxF:List Fct:=[([[[97],[120]]],[5]),([[[97],[121]]],[7]),([[[98],[120]]],[1])]
def LxR:Rws:=[([[[97]]],(2,[12],[5],[7])),([[[98]]],(1,[1],[1],[1]))]
def LxB:Rws:=[([[[97],[120]]],(1,[5],[5],[5])),([[[97],[121]]],(1,[7],[7],[7])),([[[98],[120]]],(1,[1],[1],[1]))]
theorem Yq4:W7 1 (kP [2]) Xl (LxF.map Zo) LxB:=by
 refine ⟨by unfold Ds Z0; decide +kernel,fun x=>⟨fun hx=>?_,?_⟩⟩
 ·simp only [LxB,List.mem_cons,List.not_mem_nil,or_false] at hx
  rcases hx with rfl | rfl | rfl <;> decide +kernel
 ·rintro ⟨⟨f,hf,hk⟩,hc⟩
  obtain ⟨k,c⟩:=x;simp only at hk hc;subst hk;subst hc;simp only [LxF,List.map_cons,List.map_nil,List.mem_cons,List.not_mem_nil,or_false] at hf
  rcases hf with rfl | rfl | rfl <;> decide +kernel
section
def Vw (κ:Fct→Zd) (G:List Fct) (K:Zd) (i t:Nat):List (List Int):=(((G.take t).drop i).filter fun f=>decide (κ f=K)).map (·.2)
section
variable {κ:Fct→Zd}{G:List Fct}{K:Zd}{i t m:Nat}
theorem Yhj:Vw κ G K i i=[]:=by
 unfold Vw;rw [List.drop_eq_nil_of_le (by rw [List.length_take]; omega)]
 rfl
theorem Yhi {g:Fct}(h:G[t]?=some g) (hi:i≤t):Vw κ G K i (t+1)=if κ g=K then Vw κ G K i t++[g.2] else Vw κ G K i t:=by
 have hl:=(List.getElem?_eq_some_iff.1 h).1
 unfold Vw;rw [Xi h,List.drop_append_of_le_length (by rw [List.length_take]; omega),List.filter_append,List.map_append]
 by_cases hk:κ g=K
 ·rw [if_pos hk,List.filter_cons_of_pos (by simpa using hk)]
  rfl
 ·rw [if_neg hk,List.filter_cons_of_neg (by simpa using hk)]
  simp
theorem Je:(Vw κ G K i t).length≤G.length:=by
 unfold Vw;rw [List.length_map];refine Nat.le_trans (List.length_filter_le _ _) ?_;rw [List.length_drop,List.length_take];omega
theorem Ylp (ht:G.length≤t):(Vw κ G K i t).map Wb=Yi κ Y8 (G.drop i) K:=by
 unfold Vw Yi;rw [List.take_of_length_le ht,List.map_map];rfl
def okT (m:Nat) (κ:Fct→Zd) (G:List Fct) (i:Nat):Prop:=∀ f∈G.take i,Zm (Yq m (Yi κ Y8 G (κ f)))
theorem Yo3:okT m κ G 0:=fun f hf=>by simp at hf
theorem Yre {f:Fct}(h:okT m κ G i) (hf:G[i]?=some f) (hh:κ f∈Vh κ (G.take i) []):okT m κ G (i+1):=fun g hg=>by
 rw [Xi hf] at hg
 rcases List.mem_append.1 hg with hg | hg
 ·exact h g hg
 ·rw [List.mem_singleton.1 hg]
  rcases (Tv κ _ [] _).1 hh with h1 | ⟨g',hg',e⟩
  ·simp at h1
  ·rw [← e]
   exact h g' hg'
theorem Yrf {f:Fct}(h:okT m κ G i) (hf:G[i]?=some f) (hh:Zm (Yq m (Yi κ Y8 G (κ f)))):okT m κ G (i+1):=fun g hg=>by
 rw [Xi hf] at hg
 rcases List.mem_append.1 hg with hg | hg
 ·exact h g hg
 ·rw [List.mem_singleton.1 hg]
  exact hh
theorem Yrd (h:okT m κ G i) (hi:G.length≤i):okF m κ Y8 G:=fun f hf=>h f (by rw [List.take_of_length_le hi]; exact hf)
theorem Ym2 (hm:m≤2) (hG:∀ f∈G,isVal m f.2) (hn:G.length≤1000) (ht:G.length≤t) {f:Fct}(hf:G[i]?=some f) (hk:κ f=K) (hnew:K∉Vh κ (G.take i) []):Wn m (Vw κ G K i t)=if Zm (Yq m (Yi κ Y8 G K)) then (Yq m (Yi κ Y8 G K),0) else (Ym,14):=by
 have h1:(Vw κ G K i t).map Wb=Yi κ Y8 G K:=(Ylp ht).trans (Yck hnew)
 rw [Yc5 hm (Nat.le_trans Je hn) ?_ ?_,h1]
 ·intro h0
  rw [h0] at h1;exact Wg.2 ⟨f,List.mem_of_getElem? hf,hk⟩ h1.symm
 ·intro v hv
  unfold Vw at hv;obtain ⟨g,hg,rfl⟩:=List.mem_map.1 hv;exact hG g (List.mem_of_mem_take (List.mem_of_mem_drop (List.mem_filter.1 hg).1))
theorem Yjm {k:Zd} : (∃ t:Nat,∃ e:Zd × PC,(Vv m κ Y8 G i)[t]?=some e∧e.1=k)↔k∈Vh κ (G.take i) []:=by
 rw [← Fi m κ Y8 G i,List.mem_map];constructor
 ·rintro ⟨t,e,h,rfl⟩
  exact ⟨e,List.mem_of_getElem? h,rfl⟩
 ·rintro ⟨e,h,rfl⟩
  obtain ⟨t,ht⟩:=List.getElem?_of_mem h;exact ⟨t,e,ht,rfl⟩
theorem Yjl:(Vv m κ Y8 G i).length≤i:=by
 have h1:=congrArg List.length (Fi m κ Y8 G i)
 rw [List.length_map] at h1;rw [h1];refine Nat.le_trans (Fy κ _ []) ?_;rw [List.length_take];simp;omega
end
def Ynd (L:Rws) (K:Zd) (j:Nat):Prop:=∃ t e,t<j∧L[t]?=some e∧e.1=K
theorem Yj6 : ¬ Ynd L K 0:=fun ⟨t,e,h,_⟩=>by omega
theorem Kp (h:L[j]?=some e):Ynd L K (j+1)↔Ynd L K j∨e.1=K:=by
 constructor
 ·rintro ⟨t,x,ht,hx,hk⟩
  by_cases hj:t=j
  ·subst hj
   rw [h] at hx;injection hx with hx
   subst hx;exact .inr hk
  ·exact .inl ⟨t,x,by omega,hx,hk⟩
 ·rintro (⟨t,x,ht,hx,hk⟩ | hk)
  ·exact ⟨t,x,by omega,hx,hk⟩
  ·exact ⟨j,e,by omega,h,hk⟩
theorem Yne (hj:L.length≤j):Ynd L K j↔∃ t:Nat,∃ e:Zd × PC,L[t]?=some e∧e.1=K:=by
 constructor
 ·rintro ⟨t,e,_,h,k⟩
  exact ⟨t,e,h,k⟩
 ·rintro ⟨t,e,h,k⟩
  exact ⟨t,e,by have:=(List.getElem?_eq_some_iff.1 h).1; omega,h,k⟩
def F9 (L:Rws) (K:Zd) (j:Nat) (b:Bool):Prop:=b=true↔Ynd L K j
theorem Yj5 : F9 L K 0 false:=⟨fun h=>(nomatch h),fun h=>absurd h Yj6⟩
theorem Ync (h:L[j]?=some e) (hk:e.1=K):F9 L K (j+1) true:=⟨fun _=>(Kp h).2 (.inr hk),fun _=>rfl⟩
theorem Yqt (hb:F9 L K j false) (h:L[j]?=some e) (hk:e.1≠K):F9 L K (j+1) false:=⟨fun h=>(nomatch h),fun h1=>((Kp h).1 h1).elim (fun h2=>hb.2 h2) fun h2=>absurd h2 hk⟩
theorem Yj4 (hb:F9 L K j true) (h:L[j]?=some e):F9 L K (j+1) true:=⟨fun _=>(Kp h).2 (.inl (hb.1 rfl)),fun _=>rfl⟩
theorem Ynb {κ:Fct→Zd}{b:Bool} (hb:F9 (Vv m κ Y8 G i) K j b) (hj:(Vv m κ Y8 G i).length≤j):(b=true→K∈Vh κ (G.take i) [])∧(b=false→K∉Vh κ (G.take i) []):=by
 have h1:b=true↔K∈Vh κ (G.take i) []:=hb.trans ((Yne hj).trans Yjm)
 refine ⟨h1.1,fun h h2=>?_⟩
 rw [h1.2 h2] at h
 cases h
end
def LyV:List (List Int):=[[1],[0]]
theorem Ysq:Z3 LxD LxM LyV:=by decide +kernel
theorem Em:Ye LxD LyV=[[2],[1],[0]]:=by decide +kernel
theorem Hz:Wk LxD LxM LyV ([1],[])=0:=by decide +kernel
theorem Ygh:Vd LxD LyV ([1],[])=[0,1]:=by decide +kernel
theorem Yoc:(Y7 LxD LxM LyV [] (LxD.map fun _=>[]) LxF).2=0∧(Y7 LxD LxM LyV [] (LxD.map fun _=>[]) LxF).1.1=LxF.map Zo:=by decide +kernel
theorem Yf8 (m:Nat) (κ:Hld→Zd) (c:Hld→PC):W7 m κ c [] []:=⟨by unfold Ds Z0; decide +kernel,fun x=>⟨fun hx=>by simp at hx,fun h=>by obtain ⟨⟨f,hf,_⟩,_⟩:=h; simp at hf⟩⟩
theorem Yod (h0:cnt 0=0) (h:Va cnt [0,1] v):v=0:=by
 obtain ⟨h1,h2⟩:=h
 have:=h2 0 (by simp)
 simp at h1;omega
theorem Yoe (h0:cnt 0=3) (h3:cnt 1=2) (h:Va cnt [0,1] v):v=1:=by
 obtain ⟨h1,h2⟩:=h
 have h4:=h2 1 (by simp)
 simp at h1
 rcases h1 with rfl | rfl <;> omega
theorem Yq5:W7 1 (kP [1]) Xl (LxF.map Zo) LxR:=by
 refine ⟨by unfold Ds Z0; decide +kernel,fun x=>⟨fun hx=>?_,?_⟩⟩
 ·simp only [LxR,List.mem_cons,List.not_mem_nil,or_false] at hx
  rcases hx with rfl | rfl <;> decide +kernel
 ·rintro ⟨⟨f,hf,hk⟩,hc⟩
  obtain ⟨k,c⟩:=x;simp only at hk hc;subst hk;subst hc;simp only [LxF,List.map_cons,List.map_nil,List.mem_cons,List.not_mem_nil,or_false] at hf
  rcases hf with rfl | rfl | rfl <;> decide +kernel
end Go.Proofs.YtkablhecedcngaaGreat
