/- SchemaB -/
import Derived.Test.YtmepdkdeanbbaaaGreatJ12
import Derived.Test.YtmepdkdeanbbaaaGreatJ13
namespace Go.Proofs.YtmepdkdeanbbaaaGreat
set_option maxRecDepth 100000
set_option maxHeartbeats 8000000
open Go.RowKit
open World renaming size_alloc→aa
open Nat renaming zero_le→ae,le_trans→af,le_refl→ag
open Go.Lib (hid)
variable {D:List Yk}{v:List Int}{c c1 c2 c3 k n n1 n2 n3:Nat}{A A1 A2 A3:Option Addr}{w:World}{x:Txt}{L:List Txt}{y:Int}
theorem Ybk(hk:k<D.length)(h:D.getD k Wp=(x,L))(hn:L.length=n):(Yn D).take k++[(n:Int)]=(Yn D).take (k+1):=by
 have h1:(Yn D).getD k 0=(n:Int):=by rw[G7 hk,h,<-hn]
 have h2:k<(Yn D).length:=by rw[Tt];exact hk
 rw[List.take_add_one,<-h1,List.getD_eq_getElem?_getD,List.getElem?_eq_getElem h2];rfl
theorem Ygy(hk:D.length<=k):(Yn D).take k=Yn D:=List.take_of_length_le (by rw[Tt];exact hk)
theorem Yfk(h:Wg w w.heap.size A1 n1 c1 D)(hn:n1<=1000):
  Calls Tryz.prog 95 #[Sy A1 n1 c1 A2 n2 c2 A3 n3 c3] w (Yly w (Yn D)):=by
 have HL:=hid h.len
 have hb0:=Yb w (.cells #[.slice A1 n1 c1,.slice A2 n2 c2,.slice A3 n3 c3] 26)
 have h1:=h.Yc hb0
 clear h;go_enter Tryz.func95,Tryz.ntmps95;go_wp2_with fail;generalize w.alloc (.cells #[.slice A1 n1 c1,.slice A2 n2 c2,.slice A3 n3 c3] 26)=w1 at hb0 h1⊢;go_loopw [3,9] (λv i wr=>∃k:Nat,k<=n1/\i=.int .i64 k/\Yi wr w1.heap.size v ((Yn D).take k)/\Below w1.heap.size w1 wr) (λ_ i _=>n1-(intOf i).toNat)
 case atStart=>exact⟨0,ae _,rfl,Yi.Zj w1 _,Below.refl _ _⟩
 case round=>
  obtain⟨k,hk,rfl,hO,hB⟩:=hrel
  by_cases hlt:k<n1
  ·obtain⟨b,o,x,A',n',c',L,rfl,hb,g0,g1,hT,he⟩:=(h1.below hB (ag _)).at_ hlt
   have i0:(0:Int)<=(k:Int):=by omega
   have i1:(k:Int)<(n1:Int):=by omega
   have hz:=hB.size
   have hlb:Hid (((Yn D).take k).length<=1000000):=hid (af (List.length_take_le k _) (by omega))
   have HT:=hid (Ybk (by have:=HL.out;omega) he.out hT.len)
   have hlo:=λg e=>(hO.lt g e).1
   have hB1:=hB.alloc hz (.cells #[.string ⟨x.toArray⟩,.slice A' n' c'] 75)
   have hO1:=(hO.alloc (.cells #[.string ⟨x.toArray⟩,.slice A' n' c'] 75)).alloc (.cells #[.int .i64 (n':Int)] 3)
   have hz1:=hB1.size
   clear hT;go_wp2_with (at_builtin;refine Yo rfl _ _ rfl w1.heap.size _ _ rfl hO1 _ rfl (n':Int) (Y6 _ _ _ _ (by simp)) hlb.out (by rw[aa];omega) ?_)
   intro v' w2 hO2 hG2
   have hB2:=hid ((hB1.alloc hz1 (.cells #[.int .i64 (n':Int)] 3)).trans (hG2.Yw (by rw[aa];omega) hlo))
   rw[HT.out]at hO2
   have hO3:=hid hO2
   clear hO hO1 hO2 hG2 hlo hB hB1 g0 g1;go_wp2_with fail;go_roundw
   case rel=>exact⟨k+1,by omega,by go_num,hO3.out,hB2.out⟩
   case measure=>simp[intOf];omega
  ·have H:=hid (Ygy (D:=D) (k:=k) (by have:=HL.out;omega))
   rw[H.out]at hO
   have HO:=hid (hO.low hb0.size)
   have HB:=Ya hb0 hB
   clear hO;go_wp2;go_ret;exact⟨⟨_,rfl,HO.out⟩,HB⟩
theorem N0(h:Wg w w.heap.size A1 n1 c1 D)(hn:n1<=1000):
  Calls Tryz.prog 53 #[Sy A1 n1 c1 A2 n2 c2 A3 n3 c3] w (Yly w (Yn D)):=by
 have HL:=hid h.len
 have hb0:=Yb w (.cells #[.slice A1 n1 c1,.slice A2 n2 c2,.slice A3 n3 c3] 26)
 have h1:=h.Yc hb0
 have hS:=Block.new w 26 #[.slice A1 n1 c1,.slice A2 n2 c2,.slice A3 n3 c3]
 clear h;go_enter Tryz.func53,Tryz.ntmps53;go_wp2_with fail;generalize w.alloc (.cells #[.slice A1 n1 c1,.slice A2 n2 c2,.slice A3 n3 c3] 26)=w1 at hb0 h1 hS⊢;go_loopw [3,4] (λv i wr=>∃k:Nat,k<=n1/\i=.int .i64 k/\Yi wr w1.heap.size v ((Yn D).take k)/\Below w1.heap.size w1 wr) (λ_ i _=>n1-(intOf i).toNat)
 case atStart=>exact⟨0,ae _,rfl,Yi.Zj w1 _,Below.refl _ _⟩
 case round=>
  obtain⟨k,hk,rfl,hO,hB⟩:=hrel
  have s0:wr.cell? ⟨w.heap.size,0,none⟩=some (.slice A1 n1 c1):=(hS.below hB hS.lt).cell 0
  by_cases hlt:k<n1
  ·obtain⟨b,o,x,A',n',c',L,rfl,hb,g0,g1,hT,he⟩:=(h1.below hB (ag _)).at_ hlt
   have i0:(0:Int)<=(k:Int):=by omega
   have i1:(k:Int)<(n1:Int):=by omega
   have hz:=hB.size
   have hlb:Hid (((Yn D).take k).length<=1000000):=hid (af (List.length_take_le k _) (by omega))
   have HT:=hid (Ybk (by have:=HL.out;omega) he.out hT.len)
   have hlo:=λg e=>(hO.lt g e).1
   have hO1:=hO.alloc (.cells #[.int .i64 (n':Int)] 3)
   clear hT;go_wp2_with (at_builtin;refine Yo rfl _ _ rfl w1.heap.size _ _ rfl hO1 _ rfl (n':Int) (Y6 _ _ _ _ (by simp)) hlb.out (by rw[aa];omega) ?_)
   intro v' w2 hO2 hG2
   have hB2:=hid ((hB.alloc hz (.cells #[.int .i64 (n':Int)] 3)).trans (hG2.Yw (by rw[aa];omega) hlo))
   rw[HT.out]at hO2
   have hO3:=hid hO2
   clear hO hO1 hO2 hG2 hlo hB g0 g1 s0;go_wp2_with fail;go_roundw
   case rel=>exact⟨k+1,by omega,by go_num,hO3.out,hB2.out⟩
   case measure=>simp[intOf];omega
  ·have H:=hid (Ygy (D:=D) (k:=k) (by have:=HL.out;omega))
   rw[H.out]at hO
   have HO:=hid (hO.low hb0.size)
   have HB:=Ya hb0 hB
   clear hO;go_wp2;go_ret;exact⟨⟨_,rfl,HO.out⟩,HB⟩
/-! ### A corner -/
theorem Mj(hk:k<v.length)(hv:y=v.getD k 0)(h:D.getD k Wp=(x,L))(hn:L.length=n)(hy:y<0∨(n:Int)<y):decide (Z5 D v)=false:=by
 rw[decide_eq_false_iff_not];intro hc
 have:=hc.2 k hk
 rw[h,<-hv]at this
 have h2:((L.length:Nat):Int)=n:=by rw[hn]
 have h3:y<=(L.length:Int):=this.2
 omega
theorem Ei(ht:∀i,i<k->0<=v.getD i 0/\v.getD i 0<=(((D.getD i Wp).2.length:Nat):Int))(hv:y=v.getD k 0)(h:D.getD k Wp=(x,L))(hn:L.length=n)(h0:¬y<0)(h1:¬(n:Int)<y):
  ∀i,i<k+1->0<=v.getD i 0/\v.getD i 0<=(((D.getD i Wp).2.length:Nat):Int):=λi hi=>by
 by_cases hik:i<k
 ·exact ht i hik
 ·obtain rfl:i=k:=by omega
  rw[h,<-hv]
  have h2:((L.length:Nat):Int)=n:=by rw[hn]
  exact⟨by omega,show y<=(L.length:Int)by omega⟩
theorem Br(hl:v.length=D.length)(hk:v.length<=k)(ht:∀i,i<k->0<=v.getD i 0/\v.getD i 0<=(((D.getD i Wp).2.length:Nat):Int)):decide (Z5 D v)=true:=by
 rw[decide_eq_true_eq];exact⟨hl,λi hi=>ht i (by omega)⟩
theorem Cd(hl:v.length≠D.length):decide (Z5 D v)=false:=by
 rw[decide_eq_false_iff_not];intro h;exact hl h.1
theorem Yky(h:Wg w w.heap.size A1 n1 c1 D)(hv:Y2 w w.heap.size A n c v):
  Calls Tryz.prog 157 #[Sy A1 n1 c1 A2 n2 c2 A3 n3 c3,.slice A n c] w λe w'=>e=.returned (.bool (decide (Z5 D v)))/\Below w.heap.size w w':=by
 have hn1:=h.Ym
 have HL:=hid h.len
 have HV:=hid hv.len
 have hb0:=Yb w (.cells #[.slice A1 n1 c1,.slice A2 n2 c2,.slice A3 n3 c3] 26)
 have h1:=h.Yc hb0
 have hv1:=hv.Yc hb0
 have hS:=Block.new w 26 #[.slice A1 n1 c1,.slice A2 n2 c2,.slice A3 n3 c3]
 have hn:=hv.Ym
 clear h hv
 by_cases he:n=n1
 ·subst he
  have hne:((n:Int) != (n:Int))=false:=by simp
  go_enter Tryz.func157,Tryz.ntmps157;go_wp2_with fail;generalize w.alloc (.cells #[.slice A1 n c1,.slice A2 n2 c2,.slice A3 n3 c3] 26)=w1 at hb0 h1 hv1 hS⊢;clear hne
  have s0:w1.cell? ⟨w.heap.size,0,none⟩=some (.slice A1 n c1):=hS.cell 0
  go_loop [15] (λi=>∃k:Nat,k<=n/\i=.int .i64 k/\Hid (∀i,i<k->0<=v.getD i 0/\v.getD i 0<=(((D.getD i Wp).2.length:Nat):Int))) (λi=>n-(intOf i).toNat)
  case atStart=>exact⟨0,ae _,rfl,hid λi hi=>absurd hi (by omega)⟩
  case round=>
   obtain⟨k,hk,rfl,ht⟩:=hrel
   by_cases hlt:k<n
   ·obtain⟨b,o,x,A',n',c',L,rfl,hb,g0,g1,hT,he⟩:=h1.at_ hlt
    obtain⟨b2,o2,y,rfl,hb2,g2,ey⟩:=hv1.at_ hlt
    have i0:(0:Int)<=(k:Int):=by omega
    have i1:(k:Int)<(n:Int):=by omega
    by_cases hy:y<0
    ·have H:=hid (Mj (by have:=HV.out;omega) ey.out he.out hT.len (.inl hy))
     clear hT;go_wp2;go_ret;exact⟨Yd H.out.symm,hb0⟩
    ·by_cases hy2:(n':Int)<y
     ·have H:=hid (Mj (by have:=HV.out;omega) ey.out he.out hT.len (.inr hy2))
      clear hT;go_wp2;go_ret;exact⟨Yd H.out.symm,hb0⟩
     ·have H:=hid (Ei ht.out ey.out he.out hT.len hy hy2)
      clear hT;go_wp2;go_round
      case rel=>exact⟨k+1,by omega,by go_num,H⟩
      case measure=>simp[intOf];omega
   ·have H:=hid (Br (D:=D) (v:=v) (k:=k) (by rw[HV.out,HL.out]) (by have:=HV.out;omega) ht.out)
    go_wp2;go_ret;exact⟨Yd H.out.symm,hb0⟩
 ·have hne:((n:Int) != (n1:Int))=true:=by simp;omega
  have H:=hid (Cd (D:=D) (v:=v) (by rw[HV.out,HL.out];exact he))
  go_enter Tryz.func157,Tryz.ntmps157;go_wp2;go_ret;exact⟨Yd H.out.symm,hb0⟩
theorem Ya0(h:Wg w w.heap.size A1 n1 c1 D)(hv:Y2 w w.heap.size A n c v):
  Calls Tryz.prog 131 #[Sy A1 n1 c1 A2 n2 c2 A3 n3 c3,.slice A n c] w λe w'=>e=.returned (.bool (decide (Z5 D v)))/\Below w.heap.size w w':=by
 have hn1:=h.Ym
 have HL:=hid h.len
 have HV:=hid hv.len
 have hb0:=Yb w (.cells #[.slice A1 n1 c1,.slice A2 n2 c2,.slice A3 n3 c3] 26)
 have h1:=h.Yc hb0
 have hv1:=hv.Yc hb0
 have hS:=Block.new w 26 #[.slice A1 n1 c1,.slice A2 n2 c2,.slice A3 n3 c3]
 have hn:=hv.Ym
 clear h hv
 by_cases he:n=n1
 ·subst he
  have hne:((n:Int) != (n:Int))=false:=by simp
  go_enter Tryz.func131,Tryz.ntmps131;go_wp2_with fail;generalize w.alloc (.cells #[.slice A1 n c1,.slice A2 n2 c2,.slice A3 n3 c3] 26)=w1 at hb0 h1 hv1 hS⊢;clear hne;go_loopw [5] (λi wr=>∃k q:Nat,k<=n/\i=.int .i64 k/\wr=w1.drewN q/\Hid (∀i,i<k->0<=v.getD i 0/\v.getD i 0<=(((D.getD i Wp).2.length:Nat):Int))) (λi _=>n-(intOf i).toNat)
  case atStart=>exact⟨0,0,ae _,rfl,rfl,hid λi hi=>absurd hi (by omega)⟩
  case round=>
   obtain⟨k,q,hk,rfl,rfl,ht⟩:=hrel
   have s0:w1.cell? ⟨w.heap.size,0,none⟩=some (.slice A1 n c1):=hS.cell 0
   by_cases hlt:k<n
   ·obtain⟨b,o,x,A',n',c',L,rfl,hb,g0,g1,hT,he⟩:=h1.at_ hlt
    obtain⟨b2,o2,y,rfl,hb2,g2,ey⟩:=hv1.at_ hlt
    have i0:(0:Int)<=(k:Int):=by omega
    have i1:(k:Int)<(n:Int):=by omega
    by_cases hy:y<0
    ·have H:=hid (Mj (by have:=HV.out;omega) ey.out he.out hT.len (.inl hy))
     clear hT;go_wp2;go_quiet (fail)
     have HB:=below_drewN (below_drewN hb0 q) nq
     go_wp2;go_ret;exact⟨Yd H.out.symm,HB⟩
    ·have hyd:decide (y<0)=false:=by simp;omega
     by_cases hy2:(n':Int)<y
     ·have H:=hid (Mj (by have:=HV.out;omega) ey.out he.out hT.len (.inr hy2))
      clear hT;go_wp2;go_quiet (fail)
      have HB:=below_drewN (below_drewN hb0 q) nq
      go_wp2;go_ret;exact⟨Yd H.out.symm,HB⟩
     ·have H:=hid (Ei ht.out ey.out he.out hT.len hy hy2)
      clear hT;go_wp2;go_quiet (fail);go_wp2;go_roundw
      case rel=>exact⟨k+1,q+nq,by omega,by go_num,rfl,H⟩
      case measure=>simp[intOf];omega
   ·have H:=hid (Br (D:=D) (v:=v) (k:=k) (by rw[HV.out,HL.out]) (by have:=HV.out;omega) ht.out)
    have HB:=below_drewN hb0 q
    go_wp2;go_ret;exact⟨Yd H.out.symm,HB⟩
 ·have hne:((n:Int) != (n1:Int))=true:=by simp;omega
  have H:=hid (Cd (D:=D) (v:=v) (by rw[HV.out,HL.out];exact he))
  go_enter Tryz.func131,Tryz.ntmps131;go_wp2;go_ret;exact⟨Yd H.out.symm,hb0⟩
end Go.Proofs.YtmepdkdeanbbaaaGreat
