/- Uy -/
import Derived.Test.YtkablhecedcngaaGreatJ20
import Derived.Sort.MapsRangeIn
import Derived.WideKeyEntry
namespace Go.Proofs.YtkablhecedcngaaGreat
set_option maxRecDepth 100000
set_option maxHeartbeats 8000000
open Go.RowKit
section
open Go.RowKit Go.Maps
structure Uy (K:TypeId) (kv:List Int→Value) (W:Nat) (w:World) (b:Nat) (F:Lit→Option Value) (J:List (List Int)):Prop where
 map:Tl w K b J.length F
 nodup:J.Nodup
 key:∀ k∈J,isKey W k
 has:∀ k kl,isKey W k→keyOf Tryz.prog K (kv k)=some kl→((F kl).isSome=true↔k∈J)
 back:∀ kl v,F kl=some v→∃ k,isKey W k∧keyOf Tryz.prog K (kv k)=some kl
section
variable {w w' : World}{K:TypeId}{kv:List Int→Value}{W b:Nat}{F:Lit→Option Value}{J:List (List Int)}
theorem Uy.lt (h:Uy K kv W w b F J):b<w.heap.size:=h.map.lt
theorem Uy.same (h:Uy K kv W w b F J) (hb:w'.heap[b]?=w.heap[b]?):Uy K kv W w' b F J:=⟨h.map.same hb,h.nodup,h.key,h.has,h.back⟩
theorem Uy.below {C:Nat}(h:Uy K kv W w b F J) (hb:Below C w w') (hC:b<C):Uy K kv W w' b F J:=h.same (hb.block b hC)
theorem Uy.made (w:World):Uy K kv W (w.alloc (.map #[] 0)) w.heap.size (fun _=>none) [] :=
 ⟨Tl.made w K,List.nodup_nil,fun _ h=>by simp at h,fun _ _ _ _=>by simp,fun _ _ h=>by cases h⟩
open Classical in
noncomputable def Dx (J:List (List Int)) (k:List Int):List (List Int):=if k∈J then J else J++[k]
theorem Eo {J:List (List Int)}{k j:List Int} : j∈Dx J k↔j∈J∨j=k:=by
 unfold Dx
 split
 ·rename_i h
  exact ⟨.inl,fun h'=>h'.elim id fun e=>e ▸ h⟩
 ·simp
theorem Ez {J:List (List Int)}{k:List Int}(h:J.Nodup):(Dx J k).Nodup:=by
 unfold Dx
 split
 ·exact h
 ·rename_i hk
  exact List.nodup_append.2 ⟨h,by simp,fun a ha c hc=>by
   rw [List.mem_singleton.1 hc];exact fun e=>hk (e ▸ ha)⟩
theorem Uy.put (h:Uy K kv W w b F J) (T:Hd K kv W) {k:List Int}{kl:Lit}{v:Value}(hk:isKey W k) (hkl:keyOf Tryz.prog K (kv k)=some kl) (hown:Tl w' K b (if (F kl).isSome then J.length else J.length+1) (Ygx F kl v)):Uy K kv W w' b (Ygx F kl v) (Dx J k):=by
 have hh:=h.has k kl hk hkl
 refine ⟨?_,Ez h.nodup,fun j hj=>?_,fun j jl hj ej=>?_,fun jl u hu=>?_⟩
 ·have e:(Dx J k).length=if (F kl).isSome then J.length else J.length+1:=by
   unfold Dx
   by_cases hm:k∈J
   ·rw [if_pos hm,if_pos (hh.2 hm)]
   ·rw [if_neg hm,if_neg (fun hs=>hm (hh.1 hs))]
    simp
  rw [e];exact hown
 ·rcases Eo.1 hj with hj | hj
  ·exact h.key j hj
  ·rw [hj]; exact hk
 ·rw [Eo]
  by_cases hjk:j=k
  ·subst hjk
   rw [hkl] at ej;injection ej with ej
   subst ej;rw [K1];simp
  ·rw [Q0 (fun e2:jl=kl=>hjk (T.one hj hk (e2 ▸ ej) hkl)),h.has j jl hj ej]
   simp [hjk]
 ·by_cases hjl:jl=kl
  ·subst hjl
   exact ⟨k,hk,hkl⟩
  ·rw [Q0 hjl] at hu
   exact h.back jl u hu
theorem Uy.store {t e:TypeId}{v:Value}(h:Uy K kv W w b F J) (T:Hd K kv W) (ht:Tryz.prog.underlying t=some (.map K e)) (hm:J.length<maxLen) {k:List Int}{kl:Lit}(hk:isKey W k) (hkl:keyOf Tryz.prog K (kv k)=some kl) :
  ∃ w',(Instr.mapUpdate t (.map (some b)) (kv k) v).run Tryz.prog w=.ok () w'∧Uy K kv W w' b (Ygx F kl v) (Dx J k)∧w.grownBy w' (some b):=by
 obtain ⟨w',hrun,hown,hg⟩:=h.map.store T.law ht hm hkl (v:=v);exact ⟨w',hrun,h.put T hk hkl hown,hg⟩
open Go.WideElems in
theorem Uy.entry {t e:TypeId}{z:Value}(h:Uy K kv W w b F J) (T:Hd K kv W) (L:Go.WideMaps.KeyLaw Tryz.prog K) (ht:Tryz.prog.underlying t=some (.map K e)) (hz:∀ u,(zeroValue e).run Tryz.prog u=.ok z u) (hm:J.length<maxLen) {k:List Int}{kl:Lit}(hk:isKey W k) (hkl:keyOf Tryz.prog K (kv k)=some kl) :
  ∃ (st:Int) (w1:World),(Instr.mapEntry t (.map (some b)) (kv k)).run Tryz.prog w=.ok (.tuple #[(F kl).getD z,.int .i64 st]) w1∧w.grownBy w1 (some b)∧w1.heap.size=w.heap.size ∧
   ∀ (w2:World) (v:Value),w2.heap[b]?=w1.heap[b]?→∃ w3,(Instr.entryStore t (.map (some b)) (.int .i64 st) v).run Tryz.prog w2=.ok () w3∧w2.grownBy w3 (some b)∧w3.heap.size=w2.heap.size∧Uy K kv W w3 b (Ygx F kl v) (Dx J k):=by
 have grownSet:∀ (u:World) (o:Obj),u.grownBy (Go.ChangeMaps.setBlock u b o) (some b):=fun u o=>⟨rfl,rfl,rfl,by simp [Go.ChangeMaps.setBlock],fun j _ hj=>by
  have hne:b≠j:=fun e=>hj (congrArg some e.symm)
  simp [Go.ChangeMaps.setBlock,hne]⟩
 have sizeSet:∀ (u:World) (o:Obj),(Go.ChangeMaps.setBlock u b o).heap.size=u.heap.size:=fun u o=>by simp [Go.ChangeMaps.setBlock]
 have atSet:∀ (u:World) (o:Obj),b<u.heap.size→(Go.ChangeMaps.setBlock u b o).heap[b]?=some o:=fun u o hb=>by
  simp [Go.ChangeMaps.setBlock,hb]
 have hlook:=h.map.get T.law ht (hz w) hkl
 have hlt:=h.lt
 have hmm:=h.map
 obtain ⟨D,⟨es,clock,h1,F1,h3,h4⟩,h5⟩:=h.map;obtain ⟨v0,st,es1,clock1,hE,hv0,hS⟩:=entry_then_store L ht hz h1 F1 hkl;refine ⟨(st:Int),Go.ChangeMaps.setBlock w b (.map es1 clock1),?_,grownSet w _,sizeSet w _,fun w2 v hw2=>?_⟩
 ·have e0:v0=(F kl).getD z:=by
   rcases L.find w hkl es.toList F1.keys with ⟨f1,f2⟩ | ⟨j,e1,f1,f2,f3⟩
   ·have q1:(Instr.lookup t (.map (some b)) (kv k) false).run Tryz.prog w=.ok z w:=by simp [Instr.lookup,run_underlying ht,MapKept.run_getObj_map h1,L.check w _ hkl,f1,hz,Result.andThen]
    rw [q1] at hlook;injection hlook with hlook _
    rcases hv0 with ⟨e2,g1,g2,_⟩ | ⟨_,g⟩
    ·exact absurd g2 (f2 e2 g1)
    ·rw [g,← hlook]
   ·have q1:(Instr.lookup t (.map (some b)) (kv k) false).run Tryz.prog w=.ok e1.val w:=by simp [Instr.lookup,run_underlying ht,MapKept.run_getObj_map h1,L.check w _ hkl,f1,Result.andThen]
    rw [q1] at hlook;injection hlook with hlook _
    have hj:es[j]?=some e1:=by simpa using f2
    have q2:=hE
    simp [Instr.mapEntry,run_underlying ht,MapKept.run_getObj_map h1,L.check w false hkl,f1,hj,f3,L.stays w hkl,MapKept.run_setObj_map _ h1,Result.andThen] at q2;rw [← q2.1.1,hlook]
  rw [hE,e0];rfl
 ·rw [atSet w _ hlt] at hw2
  obtain ⟨es',clock',r1,r2⟩:=hS w2 v hw2;obtain ⟨w',hrun,hown,hg⟩:=hmm.store T.law ht hm hkl (v:=v);rw [r2] at hrun;injection hrun with _ hrun
  refine ⟨_,r1,grownSet w2 _,sizeSet w2 _,h.put T hk hkl (hown.same ?_)⟩;rw [← hrun,atSet w _ hlt,atSet w2 _ (Array.getElem?_eq_some_iff.1 hw2).1]
end
end
end Go.Proofs.YtkablhecedcngaaGreat
