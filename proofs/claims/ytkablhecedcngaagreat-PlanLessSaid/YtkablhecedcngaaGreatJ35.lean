/- DictL -/
import Derived.Test.YtkablhecedcngaaGreatJ12
import Derived.Test.YtkablhecedcngaaGreatJ17
namespace Go.Proofs.YtkablhecedcngaaGreat
set_option maxRecDepth 100000
set_option maxHeartbeats 8000000
open Go.RowKit
open Go.Lib (hid)
variable {n:Nat}{Q:List Pth}
def Q1 (Q:List Pth) (q:Pth) (j:Nat):List Int:=(List.range j).map fun i=>((fnd Q (q.take (q.length - i)):Nat):Int)
theorem Ag (Q:List Pth) (q:Pth) (j:Nat):Q1 Q q (j+1)=Q1 Q q j++[((fnd Q (q.take (q.length - j)):Nat):Int)]:=by simp [Q1,List.range_succ]
theorem Uu (Q:List Pth) (q:Pth) (j:Nat):(Q1 Q q j).length=j:=by simp [Q1]
theorem Yei (Q:List Pth) (q:Pth):(Q1 Q q (q.length+1)).reverse=cds Q q (q.length+1):=by
 apply List.ext_getElem?;intro i
 by_cases h:i<q.length+1
 ·rw [List.getElem?_reverse (by rw [Uu]; exact h),Uu]
  unfold Q1 cds;rw [List.getElem?_map,List.getElem?_map,List.getElem?_range h,List.getElem?_range (by omega)]
  simp only [Option.map_some];rw [show q.length - (q.length+1 - 1 - i)=i by omega]
 ·rw [List.getElem?_eq_none (by simp [Uu]; omega),List.getElem?_eq_none (by rw [Xg]; omega)]
theorem Good.Yho (h:Good n Q) {q:Pth}(hq:q=[]∨q∈Q) {j c:Nat}(hj:j≤q.length) (hc:fnd Q (q.take (q.length - j))=c) :
  (c=0→j=q.length)∧(∀ k,c=k+1→j<q.length∧k<Q.length∧∃ s,(Un Q)[k]?=some (fnd Q (q.take (q.length - (j+1))),s)):=by
 constructor
 ·intro h0
  rw [h0] at hc
  rcases Nat.lt_or_ge j q.length with hlt | hge
  ·rcases hq with e | e
   ·subst e; simp at hlt
   ·exact absurd (h.P3 e (k:=q.length - j) (by omega) (by omega)) (Fv.1 hc)
  ·omega
 ·intro k hk
  have hm:q.take (q.length - j)∈Q:=Vp.1 (by omega)
  have hlt:j<q.length:=by
   rcases Nat.lt_or_ge j q.length with hlt | hge
   ·exact hlt
   ·rw [show q.length - j=0 by omega] at hm
    exact absurd hm h.ne_nil
  have hle:=Nt (L:=Q) (x:=q.take (q.length - j))
  refine ⟨hlt,by omega,(q.take (q.length - j)).getLastD [],?_⟩
  have hg:=Oj hm
  rw [hc,hk,Nat.add_sub_cancel] at hg
  have:=Yms hg
  rw [this]
  congr 2
  rw [List.dropLast_eq_take,List.take_take,List.length_take]
  congr 2
  omega
def Ysd (w0:World) (g:Nat) (Q:List Pth) (q:Pth) (a' : Act) (w' : World):Prop :=
 ∃ (v:Value) (c:Nat) (u6 u7 u8 u9 u10 u11 u12 u13 u14 u15 u16 u17 u18 u19 u20 u21 u22 u23:Value),a'={ tmps:=#[.pointer (some ⟨g,0,none⟩),.int .i64 c,undef,undef,.slice none 0 0,v,u6,u7,u8,u9,u10,u11,u12,u13,u14,u15,u16,u17,u18,u19,u20,u21,u22,u23],defers:=[] } ∧
  Hid (∃ j,j≤q.length∧fnd Q (q.take (q.length - j))=c∧Yf w' w0.heap.size v (Q1 Q q j)∧Below w0.heap.size w0 w')
def Yn7 (Q:List Pth) (a' : Act) (_:World):Nat:=(pth Q (intOf (a'.tmps.getD 1 undef)).toNat).length
theorem Yn8 {w:World}{base g:Nat}{pv:Value}{bm:Nat} (h:Dc w base g pv bm n Q) (c:Nat) (hc:c≤Q.length) {q:Pth}(hq:Hid (pth Q c=q)) :
  Calls Tryz.prog 150 #[.pointer (some ⟨g,0,none⟩),.int .i64 c] w fun e w'=>∃ v,e=.returned v∧Yf w' w.heap.size v (cds Q q (q.length+1))∧Below w.heap.size w w':=by
 have hqm:Hid (q=[]∨q∈Q):=hid (by
  rw [← hq.out]
  rcases Nat.eq_zero_or_pos c with h0 | h0
  ·left; rw [h0]; rfl
  ·right; exact Yif h0 hc)
 have hfq:Hid (fnd Q (q.take (q.length - 0))=c):=hid (by rw [Nat.sub_zero,List.take_length,← hq.out]; exact h.good.Ya0 hc)
 have hlt:=h.block.lt
 have hql:Hid (q.length≤3):=hid (by have:=h.good.Yrm (c:=c); have:=h.good.lv.2; rw [hq.out] at *; omega)
 clear hc;obtain ⟨A,cap,rfl,hE⟩:=h.form
 have hE':=hid hE
 have hcap:=hE.cap
 have hQl:=h.good.size
 have K:Hid (∀ y,Below w.heap.size w y→y.cell? ⟨g,1,none⟩=some (.slice A Q.length cap)):=hid fun y hy=>(hy.cell (p:=⟨g,1,none⟩) hlt).trans h.c1
 clear hE
 have hgood:=hid h.good
 -- one pass: the code is put behind the others; what stands Yho comes next,or the row is turned round
 go_enter Tryz.func150,Tryz.ntmps150;go_wp2;refine wp_scope_jumps 0 (Ysd w g Q q) (Yn7 Q) rfl ?_ ?_
 ·have hj:0≤q.length:=Nat.zero_le _
  have hO:Yf w w.heap.size (.slice none 0 0) (Q1 Q q 0):=Yf.Zj w _
  have hB:Below w.heap.size w w:=Below.refl _ _
  have hcj:=hfq
  have hsz:=hB.size
  have hlo:=fun k e=>(hO.lt k e).1
  have hll:Hid ((Q1 Q q 0).length≤1000000):=hid (by rw [Uu]; have:=hql.out; omega)
  have HJ:=hid (Ag Q q 0)
  rw [hcj.out] at HJ
  have hab:=Good.Yho hgood.out hqm.out hj hcj.out
  rcases c with _ | k
  ·have hjq:Hid (0=q.length):=hid (hab.1 rfl)
   clear hab
   have hO1:=hO.alloc (.cells #[.int .i64 0] 3)
   go_wp2;go_step3;go_wp2_with (at_builtin; refine Y9 rfl _ _ rfl w.heap.size _ _ rfl hO1 _ rfl 0 (Zs _ _ _ _ (by simp)) hll.out (by rw [World.size_alloc]; omega) ?_)
   intro v2 w2 hO2 hG2
   have hB2:=hid ((hB.alloc hsz (.cells #[.int .i64 0] 3)).trans (hG2.Y4 (by rw [World.size_alloc]; omega) hlo))
   have hO3:Yf w2 w.heap.size v2 (Q1 Q q (q.length+1)):=by rw [← hjq.out]; have:=HJ.out; rw [this]; exact hO2
   clear hO hO1 hO2 hG2 hlo hB hll HJ;obtain ⟨g2,cap2,rfl,hg2a,hg2b⟩ : ∃ g2 cap2,v2=.slice (some ⟨g2,0,none⟩) (Q1 Q q (q.length+1)).length cap2∧w.heap.size≤g2∧g2<w2.heap.size:=by
    rcases hO3.2 with ⟨_,h0⟩ | ⟨g2,cap2,cur,rfl,hb2,hg2,_⟩
    ·rw [Uu] at h0; omega
    ·exact ⟨g2,cap2,rfl,hb2,(Array.getElem?_eq_some_iff.1 hg2).1⟩
   have hr:=J7 hO3 (by rw [Uu]; have:=hql.out; omega)
   rw [Yei] at hr;clear hO3;generalize (Q1 Q q (q.length+1)).length=m2 at hr ⊢
   have hr2:=hid hr
   clear hr;go_wp2_with fail;refine hr2.out.mono ?_;rintro e w3 ⟨rfl,hO4,hG4⟩
   have hfin:=hid (show Yf w3 w.heap.size _ _∧Below w.heap.size w w3 from ⟨hO4,hB2.out.trans ⟨hG4.os,hG4.tape,hG4.output,hG4.size,fun k hk=>hG4.block k (by have:=hB2.out.size; omega) (fun e=>by injection e with e; omega)⟩⟩)
   clear hO4 hG4 hr2;go_wp2_with fail;simp only [Exit.jump];go_ret;exact ⟨_,rfl,hfin.out.1,hfin.out.2⟩
  ·obtain ⟨hjlt,hkQ,s,hent⟩:=hab.2 k rfl
   clear hab;obtain ⟨a,ha⟩ : ∃ a,Hid (fnd Q (q.take (q.length - (0+1)))=a):=⟨_,hid rfl⟩;rw [ha.out] at hent
   have hent2:=hid hent
   clear hent
   have hO1:=hO.alloc (.cells #[.int .i64 ((k:Int)+1)] 3)
   have hki:(0:Int)≤(k:Int):=by omega
   have hkn:((k:Int)+1 != 0)=true:=by simp; omega
   have hk1:(k:Int)+1 - 1=(k:Int):=by omega
   go_wp2;go_step3;go_wp2_with (at_builtin; refine Y9 rfl _ _ rfl w.heap.size _ _ rfl hO1 _ rfl ((k:Int)+1) (Zs _ _ _ _ (by simp)) hll.out (by rw [World.size_alloc]; omega) ?_)
   intro v2 w2 hO2 hG2
   have hB2:=hid ((hB.alloc hsz (.cells #[.int .i64 ((k:Int)+1)] 3)).trans (hG2.Y4 (by rw [World.size_alloc]; omega) hlo))
   have hO3:Hid (Yf w2 w.heap.size v2 (Q1 Q q (0+1))):=hid (by have:=HJ.out; rw [this]; exact hO2)
   clear hO hO1 hO2 hG2 hlo hB hll HJ
   have c1:=K.out w2 hB2.out
   obtain ⟨b,o,rfl,hb,hc0,_⟩:=(hE'.out.below hB2.out).has k a s hent2.out;go_wp2_with fail;go_step3;exact ⟨rfl,v2,a,_,_,_,_,_,_,_,_,_,_,_,_,_,_,_,_,_,_,rfl,hid ⟨0+1,hjlt,ha.out,hO3.out,hB2.out⟩⟩
 ·rintro a' w' ⟨v,c,u6,u7,u8,u9,u10,u11,u12,u13,u14,u15,u16,u17,u18,u19,u20,u21,u22,u23,rfl,hx⟩
  clear hfq;obtain ⟨j,hj,hcj0,hO,hB⟩:=hx.out
  have hcj:=hid hcj0
  clear hcj0 hx
  have hsz:=hB.size
  have hlo:=fun k e=>(hO.lt k e).1
  have hll:Hid ((Q1 Q q j).length≤1000000):=hid (by rw [Uu]; have:=hql.out; omega)
  have HJ:=hid (Ag Q q j)
  rw [hcj.out] at HJ
  have hab:=Good.Yho hgood.out hqm.out hj hcj.out
  rcases c with _ | k
  ·have hjq:Hid (j=q.length):=hid (hab.1 rfl)
   clear hab
   have hO1:=hO.alloc (.cells #[.int .i64 0] 3)
   go_wp2_with (at_builtin; refine Y9 rfl _ _ rfl w.heap.size _ _ rfl hO1 _ rfl 0 (Zs _ _ _ _ (by simp)) hll.out (by rw [World.size_alloc]; omega) ?_)
   intro v2 w2 hO2 hG2
   have hB2:=hid ((hB.alloc hsz (.cells #[.int .i64 0] 3)).trans (hG2.Y4 (by rw [World.size_alloc]; omega) hlo))
   have hO3:Yf w2 w.heap.size v2 (Q1 Q q (q.length+1)):=by rw [← hjq.out]; have:=HJ.out; rw [this]; exact hO2
   clear hO hO1 hO2 hG2 hlo hB hll HJ;obtain ⟨g2,cap2,rfl,hg2a,hg2b⟩ : ∃ g2 cap2,v2=.slice (some ⟨g2,0,none⟩) (Q1 Q q (q.length+1)).length cap2∧w.heap.size≤g2∧g2<w2.heap.size:=by
    rcases hO3.2 with ⟨_,h0⟩ | ⟨g2,cap2,cur,rfl,hb2,hg2,_⟩
    ·rw [Uu] at h0; omega
    ·exact ⟨g2,cap2,rfl,hb2,(Array.getElem?_eq_some_iff.1 hg2).1⟩
   have hr:=J7 hO3 (by rw [Uu]; have:=hql.out; omega)
   rw [Yei] at hr;clear hO3;generalize (Q1 Q q (q.length+1)).length=m2 at hr ⊢
   have hr2:=hid hr
   clear hr;go_wp2_with fail;refine hr2.out.mono ?_;rintro e w3 ⟨rfl,hO4,hG4⟩
   have hfin:=hid (show Yf w3 w.heap.size _ _∧Below w.heap.size w w3 from ⟨hO4,hB2.out.trans ⟨hG4.os,hG4.tape,hG4.output,hG4.size,fun k hk=>hG4.block k (by have:=hB2.out.size; omega) (fun e=>by injection e with e; omega)⟩⟩)
   clear hO4 hG4 hr2;go_wp2_with fail;simp only [Exit.jump];go_ret;exact ⟨_,rfl,hfin.out.1,hfin.out.2⟩
  ·obtain ⟨hjlt,hkQ,s,hent⟩:=hab.2 k rfl
   clear hab;obtain ⟨a,ha⟩ : ∃ a,Hid (fnd Q (q.take (q.length - (j+1)))=a):=⟨_,hid rfl⟩;rw [ha.out] at hent
   have hent2:=hid hent
   clear hent
   have hO1:=hO.alloc (.cells #[.int .i64 ((k:Int)+1)] 3)
   have hki:(0:Int)≤(k:Int):=by omega
   have hkn:((k:Int)+1 != 0)=true:=by simp; omega
   have hk1:(k:Int)+1 - 1=(k:Int):=by omega
   go_wp2_with (at_builtin; refine Y9 rfl _ _ rfl w.heap.size _ _ rfl hO1 _ rfl ((k:Int)+1) (Zs _ _ _ _ (by simp)) hll.out (by rw [World.size_alloc]; omega) ?_)
   intro v2 w2 hO2 hG2
   have hB2:=hid ((hB.alloc hsz (.cells #[.int .i64 ((k:Int)+1)] 3)).trans (hG2.Y4 (by rw [World.size_alloc]; omega) hlo))
   have hO3:Hid (Yf w2 w.heap.size v2 (Q1 Q q (j+1))):=hid (by have:=HJ.out; rw [this]; exact hO2)
   clear hO hO1 hO2 hG2 hlo hB hll HJ
   have c1:=K.out w2 hB2.out
   obtain ⟨b,o,rfl,hb,hc0,_⟩:=(hE'.out.below hB2.out).has k a s hent2.out;go_wp2_with fail;go_step3;exact ⟨rfl,⟨v2,a,_,_,_,_,_,_,_,_,_,_,_,_,_,_,_,_,_,_,rfl,hid ⟨j+1,hjlt,ha.out,hO3.out,hB2.out⟩⟩,by
    have e1:pth Q (k+1)=q.take (q.length - j):=by
     rw [← hcj.out];exact Qz (Vp.1 (by rw [hcj.out]; omega))
    have e2:pth Q a=q.take (q.length - (j+1)):=by
     rcases hqm.out with e | e
     ·rw [e] at hjlt; simp at hjlt
     ·rcases Nat.eq_zero_or_pos (q.length - (j+1)) with h0 | h0
      ·rw [← ha.out,h0]
       simp only [List.take_zero];rw [hgood.out.Ol]; rfl
      ·rw [← ha.out]
       exact Qz (hgood.out.P3 e h0 (by omega))
    have e3:(intOf (.int .i64 ((k:Int)+1))).toNat=k+1:=by simp [intOf]
    have e4:(intOf (.int .i64 a)).toNat=a:=by simp [intOf]
    show (pth Q (intOf (.int .i64 a)).toNat).length<(pth Q (intOf (.int .i64 ((k:Int)+1))).toNat).length
    rw [e3,e4,e1,e2];simp; omega⟩
end Go.Proofs.YtkablhecedcngaaGreat
