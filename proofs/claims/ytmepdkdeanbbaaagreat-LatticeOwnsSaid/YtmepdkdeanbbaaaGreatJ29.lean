/- BatchC, BatchY, CubP -/
import Derived.Test.YtmepdkdeanbbaaaGreatJ27
namespace Go.Proofs.YtmepdkdeanbbaaaGreat
set_option maxRecDepth 100000
set_option maxHeartbeats 8000000
open Go.RowKit
open List renaming length_append→aa,range→ag,getElem?_eq_some_iff→ai
open Prod renaming snd→ae
open Nat renaming le_trans→af
open Go.Lib (hid)
variable {c m n:Nat}{S:Nat->Prop}{w:World}{A:Option Addr}{L:List Fct}{M X k:List Int}
def Yai(f:Fct):Prop:=f.1.length<=1000/\(∀p∈f.1,p.length<=1000)/\f.2.length<=1000
theorem Yhe{A1 A2:Option Addr}{n1 c1 n2 c2:Nat}{q:List Int}(h:Row Yy 1 w S A2 n2 c2 q)(hn:q.length<=1000):
  Calls Tryz.prog 216 #[.agg #[.slice A1 n1 c1,.slice A2 n2 c2]] w (Told Yy 3 1 w q):=by
 have hbx:=Yb w (.cells #[.slice A1 n1 c1,.slice A2 n2 c2] 83)
 have hbl:=Block.new w 83 #[.slice A1 n1 c1,.slice A2 n2 c2]
 have h1:=h.mv Yh (Mv.alloc w (.cells #[.slice A1 n1 c1,.slice A2 n2 c2] 83) _)
 have HC:=hid (Yrv h1 (by have:=h.len;omega))
 have hsz:w.heap.size<=(w.alloc (.cells #[.slice A1 n1 c1,.slice A2 n2 c2] 83)).heap.size:=by simp
 clear h h1;go_enter Tryz.func216,Tryz.ntmps216;go_wp2_with fail;generalize w.alloc (.cells #[.slice A1 n1 c1,.slice A2 n2 c2] 83)=W at hbl HC hbx hsz⊢
 have k1:W.cell? ⟨w.heap.size,1,none⟩=some (.slice A2 n2 c2):=hbl.cell 1
 clear hbl;go_wp2_with fail;refine HC.out.mono ?_;rintro e w2 ⟨v,rfl,hO,hb⟩
 have hF:=hid (show Yx Yy 3 1 w2 w.heap.size (λk=>w.heap.size<=k) v q/\Below w.heap.size w w2 from⟨(hO.to Yh λb hb _=>af hsz hb).low hsz,hbx.trans (hb.mono hsz)⟩)
 clear hO hb HC;go_wp2_with fail;go_ret;exact⟨v,rfl,hF.out.1,hF.out.2⟩
theorem Yn8(h:S0 w S A n c L)(hn:n<=1000)(hL:∀f∈L,Yai f):
  Calls Tryz.prog 215 #[.slice A n c,.func (.func 216) #[] #[]] w (Told (Vl Yy 3 1) 47 1 w (L.map ae)):=by
 have HL:=hid h.len
 have HP:=hid hL
 have hnm:=h.Ym
 have HS:∀b,(S b/\b<w.heap.size)->b<w.heap.size:=λb hb=>hb.2
 have h1:S0 w (λb=>S b/\b<w.heap.size) A n c L:=h.mv Y3 (Mv.to w λb hb hl=>⟨hb,hl⟩)
 clear h hL;go_enter Tryz.func215,Tryz.ntmps215;go_wp2_with fail;go_loopw [5,10] (λv i wr=>∃k:Nat,k<=n/\i=.int .i64 k/\Yx (Vl Yy 3 1) 47 1 wr w.heap.size (λb=>w.heap.size<=b) v ((L.map ae).take k)/\Below w.heap.size w wr) (λ_ i _=>n-(intOf i).toNat)
 case atStart=>exact⟨0,Nat.zero_le _,rfl,Yx.Zj w _ _,Below.refl _ _⟩
 case round=>
  obtain⟨k,hk,rfl,hO,hB⟩:=hrel
  by_cases hlt:k<n
  ·obtain⟨b,o,A1,n1,c1,A2,n2,c2,p,q,rfl,_,_,g0,g1,hp,hq,he⟩:=(h1.mv Y3 (Mv.below hB HS)).at2 hlt
   have i0:(0:Int)<=(k:Int):=by omega
   have i1:(k:Int)<(n:Int):=by omega
   have hsm:=HP.out (p,q) (List.mem_of_getElem? he.out)
   have hbx:=Yb wr (.cells #[.slice A1 n1 c1,.slice A2 n2 c2] 83)
   have hbl:=Block.new wr 83 #[.slice A1 n1 c1,.slice A2 n2 c2]
   have hp1:=hp.mv Ww (Mv.alloc wr (.cells #[.slice A1 n1 c1,.slice A2 n2 c2] 83) _)
   have hq1:=hq.mv Yh (Mv.alloc wr (.cells #[.slice A1 n1 c1,.slice A2 n2 c2] 83) _)
   have HC:=hid (Yhe (A1:=A1) (n1:=n1) (c1:=c1) hq1 hsm.2.2)
   have HT:=hid (Ypi (show(L.map ae)[k]?=some q by rw[List.getElem?_map,he.out];rfl))
   have hO1:=hO.below Rm hbx
   have hB1:=hB.trans (hbx.mono hB.size)
   have hlo:=λg e=>hO1.lt g e
   have hlw:=λg e=>hO.lt g e
   clear hp hq hsm hp1 hq1 hO hB hbx;go_wp2_with fail;generalize wr.alloc (.cells #[.slice A1 n1 c1,.slice A2 n2 c2] 83)=W at hO1 hB1 hbl HC hlo⊢
   have k0:W.cell? ⟨wr.heap.size,0,none⟩=some (.slice A1 n1 c1):=hbl.cell 0
   have k1:W.cell? ⟨wr.heap.size,1,none⟩=some (.slice A2 n2 c2):=hbl.cell 1
   clear g0 g1 hbl;go_wp2_with fail;refine HC.out.mono ?_;rintro e w5 ⟨y,rfl,hy,hb5⟩
   have hz1:=hB1.size
   have hy1:=Yx.el Yh hy (λg e=>(hlo g e).2) hz1
   have hO5:=hO1.below Rm hb5
   have hB5:=hB1.trans (hb5.mono hz1)
   have hz5:=hB5.size
   obtain⟨Ay,cy,rfl⟩:=hy.shape
   have hO6:=hO5.alloc Rm (.cells #[.slice Ay q.length cy] 47)
   have hy6:=Rm _ _ _ _ _ _ (Mv.alloc w5 (.cells #[.slice Ay q.length cy] 47) _) hy1
   have hone:=Ymq hy1
   have hlb:Hid (((L.map ae).take k).length<=1000000):=hid (af (List.length_take_le k _) (by omega))
   have hB6:=hB5.alloc hz5 (.cells #[.slice Ay q.length cy] 47)
   have hbs:w.heap.size<=(w5.alloc (.cells #[.slice Ay q.length cy] 47)).heap.size:=by rw[World.size_alloc];omega
   clear hy hy1 hO5 hB5 hb5;clear hO1 hB1 HC k0 k1;go_wp2_with (at_builtin;refine Z9 Rm rfl _ _ rfl Yb5 Tryz.underlying24 rfl (by decide) w.heap.size _ _ _ rfl hO6 _ rfl [.slice Ay q.length cy] rfl q (Ypc w5 _ _) hone hy6 hlb.out hbs ?_)
   intro v' w2 hO2 hG2
   have hF:=hid (show Yx (Vl Yy 3 1) 47 1 w2 w.heap.size (λb=>w.heap.size<=b) v' ((L.map ae).take (k+1))/\Below w.heap.size w w2 from⟨HT.out▸hO2,hB6.trans (hG2.Yw hbs (λg e=>(hlo g e).1))⟩)
   clear hO2 hG2 hO6 hy6 hB6 hlo hlw hone;go_wp2_with fail;go_roundw
   case rel=>exact⟨k+1,by omega,by go_num,hF.out.1,hF.out.2⟩
   case measure=>simp[intOf];omega
  ·have hF:=hid (show Yx (Vl Yy 3 1) 47 1 wr w.heap.size (λb=>w.heap.size<=b) u5 (L.map ae)/\Below w.heap.size w wr from⟨by rw[List.take_of_length_le (by have:=HL.out;simp;omega)]at hO;exact hO,hB⟩)
   clear hO hB;go_wp2_with fail;go_ret;exact⟨u5,rfl,hF.out.1,hF.out.2⟩
theorem Yjb(h:S0 w S A n c L)(hn:n<=1000)(hL:∀f∈L,Yai f):
  Calls Tryz.prog 164 #[.slice A n c] w (Told (Vl Yy 3 1) 47 1 w (L.map ae)):=by
 have HC:=hid (Yn8 h hn hL)
 clear h hn hL;go_enter Tryz.func164,Tryz.ntmps164;go_wp2_with fail;refine HC.out.mono ?_;rintro e w2 ⟨v,rfl,hO,hb⟩
 have hF:=hid (And.intro hO hb)
 clear hO hb HC;go_wp2_with fail;go_ret;exact⟨v,rfl,hF.out.1,hF.out.2⟩
section
section
variable {w w' : World}{base top:Nat}{T T' : TypeId}{A:Option Addr}{n:Nat}{x:Value}
/-! ### What is told is so -/
theorem Yx.cells{α:Type}{E:ElT α}{S:Nat->Prop}{L:List α}{sz:Nat}(h:Yx E T sz w base S x L):∃A c,x=.slice A L.length c/\L.length<=c/\c<=9223372036854775807/\∀k y,L[k]?=some y->∃g cs,A=some ⟨g,0,none⟩∧base<=g/\g<w.heap.size/\x.ownBlock=some g/\Block w g T cs/\E w (λb=>S b/\x.ownBlock≠some b) ((cs.toList.drop (k*sz)).take sz) y:=by
 obtain⟨vs,h1,h2⟩:=h
 rcases h1.2 with⟨rfl,h0⟩|⟨g,cap,cur,rfl,hb,hg,hnc,hcm,hcs,ht⟩
 ·refine⟨none,0,by rw[h0],by omega,by omega,λk y hk=>?_⟩
  have:=(ai.1 hk).1
  omega
 ·refine⟨_,cap,rfl,hnc,by unfold maxLen at hcm;omega,λk y hk=>⟨g,cur,rfl,hb,(Array.getElem?_eq_some_iff.1 hg).1,rfl,hg,?_⟩⟩
  have h3:=h2 k y hk
  have hkl:=(ai.1 hk).1
  rw[<-ht,List.drop_take,List.take_take]at h3;rw[Nat.min_eq_left]at h3
  ·exact h3
  ·have:k*sz+sz<=L.length*sz:=by rw[<-Nat.succ_mul];exact Nat.mul_le_mul_right sz hkl
   omega
theorem take_one{cs:Array Value}{k:Nat}{y:Value}(h:(cs.toList.drop (k*1)).take 1=[y]):cs[0+k]?=some y:=by
 have h1:=congrArg (λl=>l[0]?) h
 simpa[List.getElem?_take,List.getElem?_drop]using h1
end
/-! ### The k-th of each,for the walk -/
section
variable {w:World}{base top:Nat}{T T' : TypeId}{A:Option Addr}{n:Nat}
end
section
variable {w:World}{base top:Nat}{T T' : TypeId}{A:Option Addr}{n c:Nat}
end
end
/-! ### bytes,step by step -/
def Uc(S M X:List Int)(k:Nat):List UInt8:=Z2 (S.getD k 0)++(Z2 (M.getD k 0)++Z2 (X.getD k 0))
theorem Gp(m:Nat)(k:List Int)(n:Int)(S M X:List Int):Vr m (k,n,S,M,X)=k.flatMap Z2++(Z2 n++(ag m).flatMap (Uc S M X)):=by
 unfold Vr Yq3 ofC;simp only[List.flatMap_map];rfl
theorem Lw(f:Nat->List UInt8)(k:Nat):(ag (k+1)).flatMap f=(ag k).flatMap f++f k:=by
 rw[List.range_succ,List.flatMap_append];simp
theorem Ji{w:Nat}(h:isKey w k):(k.flatMap Z2).length<=10*w:=by
 rw[<-h.1];exact Yhr λc hc=>V5 (by have:=h.2 c hc;omega) (by have:=h.2 c hc;omega)
theorem Ym9{k:Nat}{n:Int}{S:List Int}(h:Yv m (n,S,M,X))(hk:k<m):(Uc S M X k).length<=30:=by
 obtain⟨_,_,b⟩:=Uh h;obtain⟨h1,h2,h3⟩:=b k hk
 have h1:inS (S.getD k 0):=h1
 have h2:inV (M.getD k 0):=h2
 have h3:inV (X.getD k 0):=h3
 unfold inS at h1;unfold inV at h2 h3
 have a:=V5 (x:=S.getD k 0) (by omega) (by omega)
 have b:=V5 (x:=M.getD k 0) (by omega) (by omega)
 have c:=V5 (x:=X.getD k 0) (by omega) (by omega)
 unfold Uc;rw[aa,aa];omega
theorem My{m:Nat}{n:Int}{S M X:List Int}(h:Yv m (n,S,M,X)):∀j,j<=m->((ag j).flatMap (Uc S M X)).length<=30*j
 |0,_=>by simp
 |j+1,hj=>by
  have h1:=My h j (by omega)
  have h2:=Ym9 h (show j<m by omega)
  rw[Lw,aa];omega
theorem Ykb{w:Nat}{x:PC}(hk:isKey w k)(hx:Yv m x):(Vr m (k,x)).length<=10*w+10+30*m:=by
 obtain⟨n,S,M,X⟩:=x;obtain⟨b1,b2,_⟩:=Uh hx
 have b1:1<=n:=b1
 have b2:n<=1099511627776:=b2
 have h1:=Ji hk
 have h2:=V5 (x:=n) (by omega) (by omega)
 have h3:=My hx m (Nat.le_refl _)
 rw[Gp,aa,aa];omega
theorem F7{w i:Nat}{C:Cub}(h:Xw w m C)(hw:w<=3)(hm:m<=2):((C.take i).flatMap (Vr m)).length<=100*C.length:=by
 have h2:=Yhr (f:=Vr m) (l:=C.take i) (m:=100) λd hd=>by
  have hd:=List.mem_of_mem_take hd
  have:=Ykb (h.key d hd) (h.cell d hd)
  exact af this (by omega)
 refine af h2 (Nat.mul_le_mul_left 100 ?_);rw[List.length_take];exact Nat.min_le_right _ _
/-! ### cells that Yvi in whatever order -/
end Go.Proofs.YtmepdkdeanbbaaaGreat
