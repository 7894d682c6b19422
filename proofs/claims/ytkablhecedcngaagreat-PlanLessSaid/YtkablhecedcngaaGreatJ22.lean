/- SchemaB -/
import Derived.Test.YtkablhecedcngaaGreatJ12
import Derived.Test.YtkablhecedcngaaGreatJ13
namespace Go.Proofs.YtkablhecedcngaaGreat
set_option maxRecDepth 100000
set_option maxHeartbeats 8000000
open Go.RowKit
open Go.Lib (hid)
variable {D:List Yg}{v:List Int}{c c1 c2 c3 k n n1 n2 n3:Nat}{A A1 A2 A3:Option Addr}{w:World}{x:Txt}{L:List Txt}{y:Int}
theorem Ca (hk:k<D.length) (h:D.getD k Xv=(x,L)) (hn:L.length=n):(Zv D).take k++[(n:Int)]=(Zv D).take (k+1):=by
 have h1:(Zv D).getD k 0=(n:Int):=by rw [L4 hk,h,← hn]
 have h2:k<(Zv D).length:=by rw [U7]; exact hk
 rw [List.take_add_one,← h1,List.getD_eq_getElem?_getD,List.getElem?_eq_getElem h2];rfl
theorem Ycb (hk:D.length≤k):(Zv D).take k=Zv D:=List.take_of_length_le (by rw [U7]; exact hk)
theorem Ycc (h:Xf w w.heap.size A1 n1 c1 D) (hn:n1≤1000) :
  Calls Tryz.prog 38 #[V6 A1 n1 c1 A2 n2 c2 A3 n3 c3] w (Yb4 w (Zv D)):=by
 have HL:=hid h.len
 have hb0:=Ya w (.cells #[.slice A1 n1 c1,.slice A2 n2 c2,.slice A3 n3 c3] 26)
 have h1:=h.Yc hb0
 clear h;go_enter Tryz.func38,Tryz.ntmps38;go_wp2_with fail;generalize w.alloc (.cells #[.slice A1 n1 c1,.slice A2 n2 c2,.slice A3 n3 c3] 26)=w1 at hb0 h1 ⊢;go_loopw [3,9] (fun v i wr=>∃ k:Nat,k≤n1∧i=.int .i64 k∧Yf wr w1.heap.size v ((Zv D).take k)∧Below w1.heap.size w1 wr) (fun _ i _=>n1 - (intOf i).toNat)
 case atStart=>exact ⟨0,Nat.zero_le _,rfl,Yf.Zj w1 _,Below.refl _ _⟩
 case round =>
  obtain ⟨k,hk,rfl,hO,hB⟩:=hrel
  by_cases hlt:k<n1
  ·obtain ⟨b,o,x,A',n',c',L,rfl,hb,g0,g1,hT,he⟩:=(h1.below hB (Nat.le_refl _)).at_ hlt
   have i0:(0:Int)≤(k:Int):=by omega
   have i1:(k:Int)<(n1:Int):=by omega
   have hz:=hB.size
   have hlb:Hid (((Zv D).take k).length≤1000000):=hid (Nat.le_trans (List.length_take_le k _) (by omega))
   have HT:=hid (Ca (by have:=HL.out; omega) he.out hT.len)
   have hlo:=fun g e=>(hO.lt g e).1
   have hB1:=hB.alloc hz (.cells #[.string ⟨x.toArray⟩,.slice A' n' c'] 54)
   have hO1:=(hO.alloc (.cells #[.string ⟨x.toArray⟩,.slice A' n' c'] 54)).alloc (.cells #[.int .i64 (n' : Int)] 3)
   have hz1:=hB1.size
   clear hT;go_wp2_with (at_builtin; refine Y9 rfl _ _ rfl w1.heap.size _ _ rfl hO1 _ rfl (n' : Int) (Zs _ _ _ _ (by simp)) hlb.out (by rw [World.size_alloc]; omega) ?_)
   intro v' w2 hO2 hG2
   have hB2:=hid ((hB1.alloc hz1 (.cells #[.int .i64 (n' : Int)] 3)).trans (hG2.Y4 (by rw [World.size_alloc]; omega) hlo))
   rw [HT.out] at hO2
   have hO3:=hid hO2
   clear hO hO1 hO2 hG2 hlo hB hB1 g0 g1;go_wp2_with fail;go_roundw
   case rel=>exact ⟨k+1,by omega,by go_num,hO3.out,hB2.out⟩
   case measure=>simp [intOf]; omega
  ·have H:=hid (Ycb (D:=D) (k:=k) (by have:=HL.out; omega))
   rw [H.out] at hO
   have HO:=hid (hO.low hb0.size)
   have HB:=Yb hb0 hB
   clear hO;go_wp2;go_ret;exact ⟨⟨_,rfl,HO.out⟩,HB⟩
theorem J2 (h:Xf w w.heap.size A1 n1 c1 D) (hn:n1≤1000) :
  Calls Tryz.prog 42 #[V6 A1 n1 c1 A2 n2 c2 A3 n3 c3] w (Yb4 w (Zv D)):=by
 have HL:=hid h.len
 have hb0:=Ya w (.cells #[.slice A1 n1 c1,.slice A2 n2 c2,.slice A3 n3 c3] 26)
 have h1:=h.Yc hb0
 have hS:=Block.new w 26 #[.slice A1 n1 c1,.slice A2 n2 c2,.slice A3 n3 c3]
 clear h;go_enter Tryz.func42,Tryz.ntmps42;go_wp2_with fail;generalize w.alloc (.cells #[.slice A1 n1 c1,.slice A2 n2 c2,.slice A3 n3 c3] 26)=w1 at hb0 h1 hS ⊢;go_loopw [3,4] (fun v i wr=>∃ k:Nat,k≤n1∧i=.int .i64 k∧Yf wr w1.heap.size v ((Zv D).take k)∧Below w1.heap.size w1 wr) (fun _ i _=>n1 - (intOf i).toNat)
 case atStart=>exact ⟨0,Nat.zero_le _,rfl,Yf.Zj w1 _,Below.refl _ _⟩
 case round =>
  obtain ⟨k,hk,rfl,hO,hB⟩:=hrel
  have s0:wr.cell? ⟨w.heap.size,0,none⟩=some (.slice A1 n1 c1):=(hS.below hB hS.lt).cell 0
  by_cases hlt:k<n1
  ·obtain ⟨b,o,x,A',n',c',L,rfl,hb,g0,g1,hT,he⟩:=(h1.below hB (Nat.le_refl _)).at_ hlt
   have i0:(0:Int)≤(k:Int):=by omega
   have i1:(k:Int)<(n1:Int):=by omega
   have hz:=hB.size
   have hlb:Hid (((Zv D).take k).length≤1000000):=hid (Nat.le_trans (List.length_take_le k _) (by omega))
   have HT:=hid (Ca (by have:=HL.out; omega) he.out hT.len)
   have hlo:=fun g e=>(hO.lt g e).1
   have hO1:=hO.alloc (.cells #[.int .i64 (n' : Int)] 3)
   clear hT;go_wp2_with (at_builtin; refine Y9 rfl _ _ rfl w1.heap.size _ _ rfl hO1 _ rfl (n' : Int) (Zs _ _ _ _ (by simp)) hlb.out (by rw [World.size_alloc]; omega) ?_)
   intro v' w2 hO2 hG2
   have hB2:=hid ((hB.alloc hz (.cells #[.int .i64 (n' : Int)] 3)).trans (hG2.Y4 (by rw [World.size_alloc]; omega) hlo))
   rw [HT.out] at hO2
   have hO3:=hid hO2
   clear hO hO1 hO2 hG2 hlo hB g0 g1 s0;go_wp2_with fail;go_roundw
   case rel=>exact ⟨k+1,by omega,by go_num,hO3.out,hB2.out⟩
   case measure=>simp [intOf]; omega
  ·have H:=hid (Ycb (D:=D) (k:=k) (by have:=HL.out; omega))
   rw [H.out] at hO
   have HO:=hid (hO.low hb0.size)
   have HB:=Yb hb0 hB
   clear hO;go_wp2;go_ret;exact ⟨⟨_,rfl,HO.out⟩,HB⟩
/-! ### A corner -/
theorem Of (hk:k<v.length) (hv:y=v.getD k 0) (h:D.getD k Xv=(x,L)) (hn:L.length=n) (hy:y<0∨(n:Int)<y):decide (Zi D v)=false:=by
 rw [decide_eq_false_iff_not];intro hc
 have:=hc.2 k hk
 rw [h,← hv] at this
 have h2:((L.length:Nat):Int)=n:=by rw [hn]
 have h3:y≤(L.length:Int):=this.2
 omega
theorem Ju (ht:∀ i,i<k→0≤v.getD i 0∧v.getD i 0≤(((D.getD i Xv).2.length:Nat):Int)) (hv:y=v.getD k 0) (h:D.getD k Xv=(x,L)) (hn:L.length=n) (h0:¬ y<0) (h1:¬ (n:Int)<y) :
  ∀ i,i<k+1→0≤v.getD i 0∧v.getD i 0≤(((D.getD i Xv).2.length:Nat):Int):=fun i hi=>by
 by_cases hik:i<k
 ·exact ht i hik
 ·obtain rfl:i=k:=by omega
  rw [h,← hv]
  have h2:((L.length:Nat):Int)=n:=by rw [hn]
  exact ⟨by omega,show y≤(L.length:Int) by omega⟩
theorem Fg (hl:v.length=D.length) (hk:v.length≤k) (ht:∀ i,i<k→0≤v.getD i 0∧v.getD i 0≤(((D.getD i Xv).2.length:Nat):Int)):decide (Zi D v)=true:=by
 rw [decide_eq_true_eq];exact ⟨hl,fun i hi=>ht i (by omega)⟩
theorem Ff (hl:v.length≠D.length):decide (Zi D v)=false:=by
 rw [decide_eq_false_iff_not];intro h;exact hl h.1
theorem Fe (h:Xf w w.heap.size A1 n1 c1 D) (hv:Yx w w.heap.size A n c v) :
  Calls Tryz.prog 89 #[V6 A1 n1 c1 A2 n2 c2 A3 n3 c3,.slice A n c] w fun e w'=>e=.returned (.bool (decide (Zi D v)))∧Below w.heap.size w w':=by
 have hn1:=h.Yn
 have HL:=hid h.len
 have HV:=hid hv.len
 have hb0:=Ya w (.cells #[.slice A1 n1 c1,.slice A2 n2 c2,.slice A3 n3 c3] 26)
 have h1:=h.Yc hb0
 have hv1:=hv.Yc hb0
 have hS:=Block.new w 26 #[.slice A1 n1 c1,.slice A2 n2 c2,.slice A3 n3 c3]
 have hn:=hv.Yn
 clear h hv
 by_cases he:n=n1
 ·subst he
  have hne:((n:Int) != (n:Int))=false:=by simp
  go_enter Tryz.func89,Tryz.ntmps89;go_wp2_with fail;generalize w.alloc (.cells #[.slice A1 n c1,.slice A2 n2 c2,.slice A3 n3 c3] 26)=w1 at hb0 h1 hv1 hS ⊢;clear hne
  have s0:w1.cell? ⟨w.heap.size,0,none⟩=some (.slice A1 n c1):=hS.cell 0
  go_loop [15] (fun i=>∃ k:Nat,k≤n∧i=.int .i64 k∧Hid (∀ i,i<k→0≤v.getD i 0∧v.getD i 0≤(((D.getD i Xv).2.length:Nat):Int))) (fun i=>n - (intOf i).toNat)
  case atStart=>exact ⟨0,Nat.zero_le _,rfl,hid fun i hi=>absurd hi (by omega)⟩
  case round =>
   obtain ⟨k,hk,rfl,ht⟩:=hrel
   by_cases hlt:k<n
   ·obtain ⟨b,o,x,A',n',c',L,rfl,hb,g0,g1,hT,he⟩:=h1.at_ hlt
    obtain ⟨b2,o2,y,rfl,hb2,g2,ey⟩:=hv1.at_ hlt
    have i0:(0:Int)≤(k:Int):=by omega
    have i1:(k:Int)<(n:Int):=by omega
    by_cases hy:y<0
    ·have H:=hid (Of (by have:=HV.out; omega) ey.out he.out hT.len (.inl hy))
     clear hT;go_wp2;go_ret;exact ⟨Yd H.out.symm,hb0⟩
    ·by_cases hy2:(n' : Int)<y
     ·have H:=hid (Of (by have:=HV.out; omega) ey.out he.out hT.len (.inr hy2))
      clear hT;go_wp2;go_ret;exact ⟨Yd H.out.symm,hb0⟩
     ·have H:=hid (Ju ht.out ey.out he.out hT.len hy hy2)
      clear hT;go_wp2;go_round
      case rel=>exact ⟨k+1,by omega,by go_num,H⟩
      case measure=>simp [intOf]; omega
   ·have H:=hid (Fg (D:=D) (v:=v) (k:=k) (by rw [HV.out,HL.out]) (by have:=HV.out; omega) ht.out)
    go_wp2;go_ret;exact ⟨Yd H.out.symm,hb0⟩
 ·have hne:((n:Int) != (n1:Int))=true:=by simp; omega
  have H:=hid (Ff (D:=D) (v:=v) (by rw [HV.out,HL.out]; exact he))
  go_enter Tryz.func89,Tryz.ntmps89;go_wp2;go_ret;exact ⟨Yd H.out.symm,hb0⟩
theorem Nd (h:Xf w w.heap.size A1 n1 c1 D) (hv:Yx w w.heap.size A n c v) :
  Calls Tryz.prog 40 #[V6 A1 n1 c1 A2 n2 c2 A3 n3 c3,.slice A n c] w fun e w'=>e=.returned (.bool (decide (Zi D v)))∧Below w.heap.size w w':=by
 have hn1:=h.Yn
 have HL:=hid h.len
 have HV:=hid hv.len
 have hb0:=Ya w (.cells #[.slice A1 n1 c1,.slice A2 n2 c2,.slice A3 n3 c3] 26)
 have h1:=h.Yc hb0
 have hv1:=hv.Yc hb0
 have hS:=Block.new w 26 #[.slice A1 n1 c1,.slice A2 n2 c2,.slice A3 n3 c3]
 have hn:=hv.Yn
 clear h hv
 by_cases he:n=n1
 ·subst he
  have hne:((n:Int) != (n:Int))=false:=by simp
  go_enter Tryz.func40,Tryz.ntmps40;go_wp2_with fail;generalize w.alloc (.cells #[.slice A1 n c1,.slice A2 n2 c2,.slice A3 n3 c3] 26)=w1 at hb0 h1 hv1 hS ⊢;clear hne;go_loopw [5] (fun i wr=>∃ k q:Nat,k≤n∧i=.int .i64 k∧wr=w1.drewN q∧Hid (∀ i,i<k→0≤v.getD i 0∧v.getD i 0≤(((D.getD i Xv).2.length:Nat):Int))) (fun i _=>n - (intOf i).toNat)
  case atStart=>exact ⟨0,0,Nat.zero_le _,rfl,rfl,hid fun i hi=>absurd hi (by omega)⟩
  case round =>
   obtain ⟨k,q,hk,rfl,rfl,ht⟩:=hrel
   have s0:w1.cell? ⟨w.heap.size,0,none⟩=some (.slice A1 n c1):=hS.cell 0
   by_cases hlt:k<n
   ·obtain ⟨b,o,x,A',n',c',L,rfl,hb,g0,g1,hT,he⟩:=h1.at_ hlt
    obtain ⟨b2,o2,y,rfl,hb2,g2,ey⟩:=hv1.at_ hlt
    have i0:(0:Int)≤(k:Int):=by omega
    have i1:(k:Int)<(n:Int):=by omega
    by_cases hy:y<0
    ·have H:=hid (Of (by have:=HV.out; omega) ey.out he.out hT.len (.inl hy))
     clear hT;go_wp2;go_quiet (fail)
     have HB:=below_drewN (below_drewN hb0 q) nq
     go_wp2;go_ret;exact ⟨Yd H.out.symm,HB⟩
    ·have hyd:decide (y<0)=false:=by simp; omega
     by_cases hy2:(n' : Int)<y
     ·have H:=hid (Of (by have:=HV.out; omega) ey.out he.out hT.len (.inr hy2))
      clear hT;go_wp2;go_quiet (fail)
      have HB:=below_drewN (below_drewN hb0 q) nq
      go_wp2;go_ret;exact ⟨Yd H.out.symm,HB⟩
     ·have H:=hid (Ju ht.out ey.out he.out hT.len hy hy2)
      clear hT;go_wp2;go_quiet (fail);go_wp2;go_roundw
      case rel=>exact ⟨k+1,q+nq,by omega,by go_num,rfl,H⟩
      case measure=>simp [intOf]; omega
   ·have H:=hid (Fg (D:=D) (v:=v) (k:=k) (by rw [HV.out,HL.out]) (by have:=HV.out; omega) ht.out)
    have HB:=below_drewN hb0 q
    go_wp2;go_ret;exact ⟨Yd H.out.symm,HB⟩
 ·have hne:((n:Int) != (n1:Int))=true:=by simp; omega
  have H:=hid (Ff (D:=D) (v:=v) (by rw [HV.out,HL.out]; exact he))
  go_enter Tryz.func40,Tryz.ntmps40;go_wp2;go_ret;exact ⟨Yd H.out.symm,hb0⟩
end Go.Proofs.YtkablhecedcngaaGreat
