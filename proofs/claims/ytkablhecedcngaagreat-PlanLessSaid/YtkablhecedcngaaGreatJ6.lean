/- Lists -/
import Derived.Test.YtkablhecedcngaaGreatJ4
namespace Go.Proofs.YtkablhecedcngaaGreat
set_option maxRecDepth 100000
set_option maxHeartbeats 8000000
open Go.RowKit
open Go.Lib (hid)
section
theorem RC.ints {P:Program}{w:World}{t e:TypeId}{a:Option Addr}{n c:Nat}(ht:P.underlying t=some (.slice e)) (he:P.underlying e=some (.int .i64)) (hc:P.cellsOf e=1) (h:RC P w t [.slice a n c]) :
  ∃ l,Yx w w.heap.size a n c l∧∀ x∈l,-9223372036854775808≤x∧x≤9223372036854775807:=by
 have hs:=h.slice ht
 have hshape:n≤c∧c≤maxLen∧(a=none→c=0):=by
  rcases hs with ⟨h1,h2,h3⟩ | ⟨ad,h1,h2,h3,_⟩
  ·subst h2 h3; exact ⟨Nat.le_refl _,Nat.zero_le _,fun _=>rfl⟩
  ·exact ⟨h2,h3,fun e=>by rw [h1] at e; cases e⟩
 rcases Nat.eq_zero_or_pos n with h0 | h0
 ·subst h0
  exact ⟨[],⟨rfl,Nat.zero_le _,hshape.2.1,hshape.2.2,Has.Zj⟩,fun x hx=>by simp at hx⟩
 ·obtain ⟨b,o,rfl,hb,_,_,hi⟩:=h.rows ht (by omega) h0
  have key:∀ i,i<n→∃ x:Int,w.cell? ⟨b,o+i,none⟩=some (Xe x)∧-9223372036854775808≤x∧x≤9223372036854775807:=fun i hin=>by
   obtain ⟨cs,hl,hcell,hr⟩:=hi i hin;obtain ⟨x,rfl,hw⟩:=hr.int he
   have h1:=hcell 0 (by omega)
   rw [hc,Nat.mul_one,Nat.add_zero] at h1;exact ⟨x,by rw [h1]; rfl,Kq hw⟩
  refine ⟨(List.range n).map fun i=>match w.cell? ⟨b,o+i,none⟩ with | some (.int .i64 x)=>x | _=>0,⟨by simp,hshape.1,hshape.2.1,hshape.2.2,fun _=>⟨b,o,rfl,hb,fun j u hu=>?_⟩⟩,fun x hx=>?_⟩
  ·rw [List.map_map,List.getElem?_map] at hu
   by_cases hj:j<n
   ·obtain ⟨v,hv,_⟩:=key j hj
    rw [List.getElem?_range hj] at hu;simp only [Option.map_some,Function.comp,hv,Xe,Option.some.injEq] at hu;rw [hv,← hu];rfl
   ·rw [List.getElem?_eq_none (by simp; omega)] at hu
    cases hu
  ·obtain ⟨i,hi1,rfl⟩:=List.mem_map.1 hx
   obtain ⟨v,hv,h1,h2⟩:=key i (List.mem_range.1 hi1);simp only [hv,Xe];exact ⟨h1,h2⟩
structure Ux (w:World) (B:Nat) (A:Option Addr) (n c:Nat) (L:List (List Int)):Prop where
 len:L.length=n
 cap:n≤c
 fit:c≤maxLen
 void:A=none→c=0
 has:∀ i,i<n→∃ b o A' n' c',A=some ⟨b,o,none⟩∧b<B∧w.cell? ⟨b,o+i,none⟩=some (.slice A' n' c')∧Yx w B A' n' c' (L.getD i [])
section
variable {w w' : World}{B B' n c:Nat}{A:Option Addr}{L:List (List Int)}
theorem Ux.more (h:Ux w B A n c L) (hB:B≤B'):Ux w B' A n c L :=
 ⟨h.len,h.cap,h.fit,h.void,fun i hi=>by obtain ⟨b,o,A',n',c',h1,h2,h3,h4⟩:=h.has i hi; exact ⟨b,o,A',n',c',h1,Nat.lt_of_lt_of_le h2 hB,h3,h4.more hB⟩⟩
theorem Ux.Vj (h:Ux w B A n c L) (hk:∀ b o,b<B→w'.cell? ⟨b,o,none⟩=w.cell? ⟨b,o,none⟩):Ux w' B A n c L :=
 ⟨h.len,h.cap,h.fit,h.void,fun i hi=>by obtain ⟨b,o,A',n',c',h1,h2,h3,h4⟩:=h.has i hi; exact ⟨b,o,A',n',c',h1,h2,(hk b _ h2).trans h3,h4.Vj hk⟩⟩
theorem Ux.below {C:Nat}(h:Ux w B A n c L) (hb:Below C w w') (hC:B≤C):Ux w' B A n c L :=
 h.Vj fun b o hp=>hb.cell (p:=⟨b,o,none⟩) (Nat.lt_of_lt_of_le hp hC)
theorem Ux.Z1 (h:Ux w B A n c L):c≤9223372036854775807:=by
 have h2:=h.fit
 unfold maxLen at h2; omega
theorem Ux.at_ (h:Ux w B A n c L) {k:Nat}(hk:k<n):∃ b o A' n' c' l,A=some ⟨b,o,none⟩∧b<B∧w.cell? ⟨b,o+k,none⟩=some (.slice A' n' c')∧Yx w B A' n' c' l∧Hid (l=L.getD k []):=by
 obtain ⟨b,o,A',n',c',h1,h2,h3,h4⟩:=h.has k hk;exact ⟨b,o,A',n',c',_,h1,h2,h3,h4,hid rfl⟩
end
def Dr (w:World) (base C:Nat) (T:TypeId) (v:Value) (L:List (List Int)):Prop :=
 ∃ xs:List Value,w.ownsRow base T 1 v L.length xs∧∀ (i:Nat) (l:List Int),L[i]?=some l→∃ (A:Option Addr) (n c:Nat),xs[i]?=some (Value.slice A n c)∧Yx w C A n c l
section
variable {w w' : World}{base C:Nat}{T:TypeId}{v:Value}{L:List (List Int)}
theorem Dr.read (h:Dr w base C T v L) (hC:C≤w.heap.size):∃ A c,v=.slice A L.length c∧Ux w w.heap.size A L.length c L:=by
 obtain ⟨xs,h1,h2⟩:=h
 have hl:=h1.1
 rcases h1.2 with ⟨rfl,h0⟩ | ⟨g,cap,cur,rfl,hb,hg,hnc,hcm,_⟩
 ·rw [h0]
  exact ⟨none,0,rfl,h0,Nat.le_refl _,Nat.zero_le _,fun _=>rfl,fun i hi=>absurd hi (by omega)⟩
 ·refine ⟨_,cap,rfl,rfl,hnc,hcm,(fun h=>by cases h),fun i hi=>?_⟩
  obtain ⟨A,n,c,e,hh⟩:=h2 i _ (List.getElem?_eq_getElem hi);refine ⟨g,0,A,n,c,rfl,(Array.getElem?_eq_some_iff.1 hg).1,?_,?_⟩
  ·have:=h1.cells (g:=g) rfl i _ e
   rwa [Yt] at this
  ·rw [List.getD_eq_getElem?_getD,List.getElem?_eq_getElem hi]
   exact hh.more hC
end
end
end Go.Proofs.YtkablhecedcngaaGreat
