/- Te -/
import Derived.Test.YtmepdkdeanbbaaaGreatJ17
import Derived.Sort.MapsRangeIn
import Derived.WideKeyEntry
namespace Go.Proofs.YtmepdkdeanbbaaaGreat
set_option maxRecDepth 100000
set_option maxHeartbeats 8000000
open Go.RowKit
open ChangeMaps renaming setBlock→aa
open Proofs.Tryz renaming prog→ae
open MapKept renaming run_getObj_map→af
open Instr renaming lookup→ag,mapEntry→ai
section
open Go.RowKit Go.Maps
structure Te (K:TypeId) (kv:List Int->Value) (W:Nat) (w:World) (b:Nat) (F:Lit->Option Value) (J:List (List Int)):Prop where
 map:Se w K b J.length F
 nodup:J.Nodup
 key:∀k∈J,isKey W k
 has:∀k kl,isKey W k->keyOf ae K (kv k)=some kl->((F kl).isSome=true↔k∈J)
 back:∀kl v,F kl=some v->∃k,isKey W k/\keyOf ae K (kv k)=some kl
section
variable {w w' : World}{K:TypeId}{kv:List Int->Value}{W b:Nat}{F:Lit->Option Value}{J:List (List Int)}
theorem Te.lt(h:Te K kv W w b F J):b<w.heap.size:=h.map.lt
theorem Te.same(h:Te K kv W w b F J)(hb:w'.heap[b]?=w.heap[b]?):Te K kv W w' b F J:=⟨h.map.same hb,h.nodup,h.key,h.has,h.back⟩
theorem Te.below{C:Nat}(h:Te K kv W w b F J)(hb:Below C w w')(hC:b<C):Te K kv W w' b F J:=h.same (hb.block b hC)
theorem Te.made(w:World):Te K kv W (w.alloc (.map #[] 0)) w.heap.size (λ_=>none) []:=
 ⟨Se.made w K,List.nodup_nil,λ_ h=>by simp at h,λ_ _ _ _=>by simp,λ_ _ h=>by cases h⟩
open Classical in
noncomputable def Yax (J:List (List Int)) (k:List Int):List (List Int):=if k∈J then J else J++[k]
theorem Dw{J:List (List Int)}{k j:List Int}:j∈Yax J k↔j∈J∨j=k:=by
 unfold Yax
 split
 ·rename_i h
  exact⟨.inl,λh'=>h'.elim id λe=>e▸h⟩
 ·simp
theorem Yaj{J:List (List Int)}{k:List Int}(h:J.Nodup):(Yax J k).Nodup:=by
 unfold Yax
 split
 ·exact h
 ·rename_i hk
  exact List.nodup_append.2 ⟨h,by simp,λa ha c hc=>by
   rw[List.mem_singleton.1 hc];exact λe=>hk (e▸ha)⟩
theorem Te.put(h:Te K kv W w b F J)(T:Ev K kv W){k:List Int}{kl:Lit}{v:Value}(hk:isKey W k)(hkl:keyOf ae K (kv k)=some kl)(hown:Se w' K b (if (F kl).isSome then J.length else J.length+1) (Yj5 F kl v)):Te K kv W w' b (Yj5 F kl v) (Yax J k):=by
 have hh:=h.has k kl hk hkl
 refine⟨?_,Yaj h.nodup,λj hj=>?_,λj jl hj ej=>?_,λjl u hu=>?_⟩
 ·have e:(Yax J k).length=if (F kl).isSome then J.length else J.length+1:=by
   unfold Yax
   by_cases hm:k∈J
   ·rw[if_pos hm,if_pos (hh.2 hm)]
   ·rw[if_neg hm,if_neg (λhs=>hm (hh.1 hs))]
    simp
  rw[e];exact hown
 ·rcases Dw.1 hj with hj|hj
  ·exact h.key j hj
  ·rw[hj];exact hk
 ·rw[Dw]
  by_cases hjk:j=k
  ·subst hjk
   rw[hkl]at ej;injection ej with ej
   subst ej;rw[Gg];simp
  ·rw[Oi (λe2:jl=kl=>hjk (T.one hj hk (e2▸ej) hkl)),h.has j jl hj ej]
   simp[hjk]
 ·by_cases hjl:jl=kl
  ·subst hjl
   exact⟨k,hk,hkl⟩
  ·rw[Oi hjl]at hu
   exact h.back jl u hu
theorem Te.store{t e:TypeId}{v:Value}(h:Te K kv W w b F J)(T:Ev K kv W)(ht:ae.underlying t=some (.map K e))(hm:J.length<maxLen){k:List Int}{kl:Lit}(hk:isKey W k)(hkl:keyOf ae K (kv k)=some kl):
  ∃w',(Instr.mapUpdate t (.map (some b)) (kv k) v).run ae w=.ok () w'∧Te K kv W w' b (Yj5 F kl v) (Yax J k)/\w.grownBy w' (some b):=by
 obtain⟨w',hrun,hown,hg⟩:=h.map.store T.law ht hm hkl (v:=v);exact⟨w',hrun,h.put T hk hkl hown,hg⟩
open Go.WideElems in
theorem Te.entry{t e:TypeId}{z:Value}(h:Te K kv W w b F J)(T:Ev K kv W)(L:Go.WideMaps.KeyLaw ae K)(ht:ae.underlying t=some (.map K e))(hz:∀u,(zeroValue e).run ae u=.ok z u)(hm:J.length<maxLen){k:List Int}{kl:Lit}(hk:isKey W k)(hkl:keyOf ae K (kv k)=some kl):
  ∃(st:Int) (w1:World),(ai t (.map (some b)) (kv k)).run ae w=.ok (.tuple #[(F kl).getD z,.int .i64 st]) w1/\w.grownBy w1 (some b)/\w1.heap.size=w.heap.size∧
   ∀(w2:World) (v:Value),w2.heap[b]?=w1.heap[b]?→∃w3,(Instr.entryStore t (.map (some b)) (.int .i64 st) v).run ae w2=.ok () w3/\w2.grownBy w3 (some b)/\w3.heap.size=w2.heap.size/\Te K kv W w3 b (Yj5 F kl v) (Yax J k):=by
 have grownSet:∀(u:World) (o:Obj),u.grownBy (aa u b o) (some b):=λu o=>⟨rfl,rfl,rfl,by simp[aa],λj _ hj=>by
  have hne:b≠j:=λe=>hj (congrArg some e.symm)
  simp[aa,hne]⟩
 have sizeSet:∀(u:World) (o:Obj),(aa u b o).heap.size=u.heap.size:=λu o=>by simp[aa]
 have atSet:∀(u:World) (o:Obj),b<u.heap.size->(aa u b o).heap[b]?=some o:=λu o hb=>by
  simp[aa,hb]
 have hlook:=h.map.get T.law ht (hz w) hkl
 have hlt:=h.lt
 have hmm:=h.map
 obtain⟨D,⟨es,clock,h1,F1,h3,h4⟩,h5⟩:=h.map;obtain⟨v0,st,es1,clock1,hE,hv0,hS⟩:=entry_then_store L ht hz h1 F1 hkl;refine⟨(st:Int),aa w b (.map es1 clock1),?_,grownSet w _,sizeSet w _,λw2 v hw2=>?_⟩
 ·have e0:v0=(F kl).getD z:=by
   rcases L.find w hkl es.toList F1.keys with⟨f1,f2⟩|⟨j,e1,f1,f2,f3⟩
   ·have q1:(ag t (.map (some b)) (kv k) false).run ae w=.ok z w:=by simp[ag,run_underlying ht,af h1,L.check w _ hkl,f1,hz,Result.andThen]
    rw[q1]at hlook;injection hlook with hlook _
    rcases hv0 with⟨e2,g1,g2,_⟩|⟨_,g⟩
    ·exact absurd g2 (f2 e2 g1)
    ·rw[g,<-hlook]
   ·have q1:(ag t (.map (some b)) (kv k) false).run ae w=.ok e1.val w:=by simp[ag,run_underlying ht,af h1,L.check w _ hkl,f1,Result.andThen]
    rw[q1]at hlook;injection hlook with hlook _
    have hj:es[j]?=some e1:=by simpa using f2
    have q2:=hE
    simp[ai,run_underlying ht,af h1,L.check w false hkl,f1,hj,f3,L.stays w hkl,MapKept.run_setObj_map _ h1,Result.andThen]at q2;rw[<-q2.1.1,hlook]
  rw[hE,e0];rfl
 ·rw[atSet w _ hlt]at hw2
  obtain⟨es',clock',r1,r2⟩:=hS w2 v hw2;obtain⟨w',hrun,hown,hg⟩:=hmm.store T.law ht hm hkl (v:=v);rw[r2]at hrun;injection hrun with _ hrun
  refine⟨_,r1,grownSet w2 _,sizeSet w2 _,h.put T hk hkl (hown.same ?_)⟩;rw[<-hrun,atSet w _ hlt,atSet w2 _ (Array.getElem?_eq_some_iff.1 hw2).1]
end
end
end Go.Proofs.YtmepdkdeanbbaaaGreat
