/- CubRC, CubRD -/
import Derived.Test.YtmepdkdeanbbaaaGreatJ33
import Derived.Deep.DeepCutAuto
namespace Go.Proofs.YtmepdkdeanbbaaaGreat
set_option maxRecDepth 100000
set_option maxHeartbeats 8000000
open Go.RowKit
open And renaming intro→aa
open Proofs.Tryz renaming underlying135→ae,prog→aj
open Nat renaming le_trans→af,le_refl→ag,lt_of_lt_of_le→ai
open Go.Lib (hid)
variable {w:World}{S:Nat->Prop}{W c c1 c2 c3 k kc m n n1 n2 n3 r:Nat}{A A1 A2 A3 Ak:Option Addr}{C:Cub}{L M Su X:List Int}{p:Int}
section
theorem Pr:(aj.info? 139).map (λi=>(i.zero,i.size,i.bytes))=some (some (.agg #[.slice none 0 0,.int .i64 0,.slice none 0 0,.slice none 0 0,.slice none 0 0]),5,104):=by kernel_rfl
abbrev Yh6(w:World)(base:Nat)(S:Nat->Prop)(v:Value)(D:Cub):Prop:=Yx Lh 139 5 w base (λk=>S k/\k<base) v D
theorem Gj{w1 z:World}{v:Value}{S:Nat->Prop}{us:List Value}{y:List Int×PC}(h:Lh w1 S us y)(hb:Below w1.heap.size w1 z)(hv:∀k,v.ownBlock=some k->w1.heap.size<=k):Lh z (λk=>(S k/\k<w1.heap.size)/\v.ownBlock≠some k) us y:=
 Xe _ _ _ _ _ _ (λb h1 hl=>⟨hb.block b hl,⟨h1,hl⟩,λe=>by have:=hv b e;omega⟩) h
theorem J3(w:World)(us:List Value)(t:TypeId):∀j u,us[j]?=some u->(w.alloc (.cells us.toArray t)).cell? ((⟨w.heap.size,0,none⟩:Addr).add j)=some u:=by
 intro j u hj;rw[Yu,Nat.zero_add,Zq];simpa using hj
theorem Mg(A0:Option Addr)(n0 c0:Nat)(p:Int)(A1:Option Addr)(n1 c1:Nat)(A2:Option Addr)(n2 c2:Nat)(A3:Option Addr)(n3 c3:Nat):∀u∈[Value.slice A0 n0 c0,.int .i64 p,.slice A1 n1 c1,.slice A2 n2 c2,.slice A3 n3 c3],u.oneCell'=true:=by
 intro u hu;simp at hu
 rcases hu with rfl|rfl|rfl|rfl|rfl <;> rfl
structure Ysj (w1 wr:World) (S:Nat->Prop) (v:Value) (C:Cub) (L:List Int) (x:PC) (j:Nat) (put:Bool) (D:Cub):Prop where
 own:Yh6 wr w1.heap.size S v D
 bel:Below w1.heap.size w1 wr
 now:D++Np put (C.drop j) L x=Wo C L x
 past:put=true->∃a d,a<j/\C[a]?=some d/\(d.1=L∨Ze L d.1=true)
 len:D.length+(if put then 0 else 1)<=j+1
theorem Jv{C:Cub}{j:Nat}{e:List Int×PC}(h:C[j]?=some e):C.drop j=e::C.drop (j+1):=by
 obtain⟨hl,rfl⟩:=List.getElem?_eq_some_iff.1 h;exact List.drop_eq_getElem_cons hl
section
variable {w1 wr:World}{S:Nat->Prop}{v:Value}{C:Cub}{L:List Int}{x:PC}{j:Nat}{D:Cub}{e:List Int × PC}
end
theorem Yld{w1 y:World}{D:Cub}{v:Value}(hS:∀k,w.heap.size<=k->S k)(hr:¬S r)(h:Rq w r W m S A n c C)(hB:Below w.heap.size w w1)(hO:Yh6 y w1.heap.size S v D)(hb:Below w1.heap.size w1 y):
  ∃A' n' c',v=.slice A' n' c'∧Hid (Rq (y.setCell ⟨r,2,none⟩ (.slice A' n' c')) r W m S A' n' c' D/\w.grownBy (y.setCell ⟨r,2,none⟩ (.slice A' n' c')) (some r))/\y.cell? ⟨r,2,none⟩=some (.slice A n c)/\y.frozen? ⟨r,2,none⟩=false:=by
 obtain⟨A',c',rfl,hR⟩:=hO.read Xe
 have hBy:=Ya hB hb
 have hq:=h.Yc hBy
 have hs:=hB.size
 have hR2:Row Lh 5 y S A' D.length c' D:=hR.mv Xe (Mv.to y λb h1 _=>by
  rcases h1 with h1|h1
  ·exact h1.1
  ·exact hS b (af hs h1.1))
 exact⟨A',D.length,c',rfl,hid ⟨⟨hq.blk.Ys 2 _,hR2.mv Xe (Mv.set y r 2 _ hr)⟩,Vm (Uj hBy (some r)) (Ynf y r 2 _) (λ_ h=>.inl h)⟩,hq.c2,hq.blk.free 2⟩
theorem F9{x:PC}(hS:∀k,w.heap.size<=k->S k)(hr:¬S r)(h:Rq w r W m S A n c C)(hn:n<=100000)(hk:k<=100000)(hC:Ris C)(hL:Y2 w w.heap.size Ak k kc L)(hx:Z7 w S [.int .i64 p,.slice A1 n1 c1,.slice A2 n2 c2,.slice A3 n3 c3] x):
  Calls aj 213 #[.pointer (some ⟨r,0,none⟩),.slice Ak k kc,.agg #[.int .i64 p,.slice A1 n1 c1,.slice A2 n2 c2,.slice A3 n3 c3]] w λe w'=>e=.returned (.tuple #[])/\(∃A' n' c',Rq w' r W m S A' n' c' (Wo C L x))/\w.grownBy w' (some r):=by
 have hb1:=Yb w (.cells #[.int .i64 p,.slice A1 n1 c1,.slice A2 n2 c2,.slice A3 n3 c3] 71)
 have hX:=Block.new w 71 #[.int .i64 p,.slice A1 n1 c1,.slice A2 n2 c2,.slice A3 n3 c3]
 have H0:=hid (aa hS (aa hr (aa h (aa hC hx))))
 have hK:=hL.Yc hb1
 have H1:=hid (aa hb1 hX)
 have hrl:r<w.heap.size:=h.blk.lt
 have hnm:=h.row.Ym
 have hcap:=h.row.cap
 have hcm:=h.row.Xf
 clear hS hr h hC hL hx hb1 hX;go_enter Tryz.func213,Tryz.ntmps213;go_upto_region 2 with fail
 generalize w.alloc (.cells #[.int .i64 p,.slice A1 n1 c1,.slice A2 n2 c2,.slice A3 n3 c3] 71)=W1 at H1 hK⊢
 have hz1:w.heap.size<W1.heap.size:=H1.out.2.lt
 go_wp2_with (at_builtin;refine Ov rfl _ _ rfl w.heap.size _ [] rfl (Yi.Zj W1 _) _ Ak k kc _ rfl hK (by simp;omega) (Nat.le_of_lt hz1) ?_;intro vo w1 hO hG)
 have hBw:=hG.Yw (ag _) (λk hk=>by cases hk)
 have hB1:=Ya H1.out.1 hBw
 rw[List.nil_append]at hO;obtain⟨Ao,co,eo,hOr⟩:=(Yi.Bc (S:=λ_=>False) hO).read Yh
 obtain⟨no,hLl⟩: ∃no,Hid (L.length=no):=⟨_,hid rfl⟩;rw[hLl.out]at eo hOr;subst eo
 have hOS:Row Yy 1 w1 S Ao no co L:=hOr.mv Yh (Mv.to w1 λb hb _=>by
  rcases hb with hb|hb
  ·exact hb.elim
  ·exact H0.out.1 b hb.1)
 have hnew:Lh w1 S [.slice Ao no co,.int .i64 p,.slice A1 n1 c1,.slice A2 n2 c2,.slice A3 n3 c3] (L,x):=⟨⟨Ao,no,co,rfl,hOS⟩,Zf _ _ _ _ _ _ (Mv.Yc hB1 S) H0.out.2.2.2.2⟩
 have hX1:=H1.out.2.below hBw H1.out.2.lt
 have hR1:=H0.out.2.2.1.row.mv Xe (Mv.Yc hB1 S)
 have hQ1:=H0.out.2.2.1.Yc hB1
 have hOI:=hOr.Uy
 have HN:=hid (aa hnew (aa hX1 (aa hR1 (aa hQ1 (aa hOI hB1)))))
 have hz2:W1.heap.size<=w1.heap.size:=hBw.size
 clear hK hBw hB1 hO hOr hOS hnew hX1 hG hR1 hQ1 hOI;go_loopw [7,8,9] (λv pt i wr=>∃(j:Nat) (put:Bool) (D:Cub),j<=n/\i=.int .i64 j/\pt=.bool put/\Ysj w1 wr S v C L x j put D) (λ_ _ i _=>n-(intOf i).toNat)
 case atStart=>exact⟨0,false,[],Nat.zero_le _,rfl,rfl,⟨Yx.Zj _ _ _,Below.refl _ _,by simp[Np],λh=>(by cases h),by simp⟩⟩
 case round=>
  obtain⟨j,put,D,hj,rfl,rfl,hT⟩:=hrel
  have HT:=hid hT
  have hQ:=HN.out.2.2.2.1.Yc hT.bel
  have cq:=hQ.c2
  clear hT hQ
  by_cases hlt:j<n
  ·obtain⟨b,o,A0,n0,c0,p0,B1,m1,d1,B2,m2,d2,B3,m3,d3,K,Su,M,X,rfl,hb,hbl,g0,g1,g2,g3,g4,hK0,hSu,hM,hX0,hCj⟩:=HN.out.2.2.1.atU hlt
   have i0:(0:Int)<=(j:Int):=by omega
   have i1:(j:Int)<(n:Int):=by omega
   have HO:=hid (Yqr hK0 hSu hM hX0 (n:=p0))
   have KB:Hid (∀y:World,Below w1.heap.size w1 y->y.cell? ⟨r,2,none⟩=some (.slice (some ⟨b,o,none⟩) n c)/\y.cell? ⟨b,o+j*5,none⟩=some (.slice A0 n0 c0)/\y.cell? ⟨b,o+j*5+1,none⟩=some (.int .i64 p0)/\y.cell? ⟨b,o+j*5+2,none⟩=some (.slice B1 m1 d1)/\y.cell? ⟨b,o+j*5+3,none⟩=some (.slice B2 m2 d2)/\y.cell? ⟨b,o+j*5+4,none⟩=some (.slice B3 m3 d3)/\y.cell? ⟨w.heap.size,0,none⟩=some (.int .i64 p)/\y.cell? ⟨w.heap.size,1,none⟩=some (.slice A1 n1 c1)/\y.cell? ⟨w.heap.size,2,none⟩=some (.slice A2 n2 c2)/\y.cell? ⟨w.heap.size,3,none⟩=some (.slice A3 n3 c3)):=hid λy hy=>by
    have hXr:=HN.out.2.1.below hy HN.out.2.1.lt
    exact⟨(HN.out.2.2.2.1.Yc hy).c2,(hy.cell (p:=⟨b,o+j*5,none⟩) hbl).trans g0,(hy.cell (p:=⟨b,o+j*5+1,none⟩) hbl).trans g1,(hy.cell (p:=⟨b,o+j*5+2,none⟩) hbl).trans g2,(hy.cell (p:=⟨b,o+j*5+3,none⟩) hbl).trans g3,(hy.cell (p:=⟨b,o+j*5+4,none⟩) hbl).trans g4,hXr.cell 0,hXr.cell 1,hXr.cell 2,hXr.cell 3⟩
   clear g0 g1 g2 g3 g4 cq;obtain⟨cq,g0,g1,g2,g3,g4,x0,x1,x2,x3⟩:=KB.out wr HT.out.bel
   have hki:=(hK0.mv Yh (Mv.Yc HT.out.bel S)).Uy
   have hoi:=HN.out.2.2.2.2.1.below HT.out.bel (ag _)
   have hsm:=Mh (w:=wr) hki hoi
   have hls:=hid λq=>Yej (w:=wr.drewN q) (hoi.drewN q) (hki.drewN q)
   have TZ:Hid (∀y:World,(∃q,y=wr.drewN q)->Yh6 y w1.heap.size S u7 D/\Below w1.heap.size w1 y/\D.length<=1000000):=hid (by
    rintro y ⟨q,rfl⟩;exact⟨HT.out.own.drewN Xe q,below_drewN HT.out.bel q,by have:=HT.out.len;split at this <;> omega⟩)
   have hjl:=hCj.out
   clear hb hK0 hSu hM hX0 hki hoi;obtain⟨sb,hsb⟩: ∃sb,Hid (decide (K=L)=sb):=⟨_,hid rfl⟩;obtain⟨lb,hlb⟩: ∃lb,Hid (Ze L K=lb):=⟨_,hid rfl⟩;rw[hsb.out]at hsm;rw[hlb.out]at hls
   have HSM:=hid hsm
   have HCj:=hid hjl
   clear hsm hjl hCj;go_wp2_with fail;refine HSM.out.mono ?_;rintro y z1 ⟨rfl,q1,hz⟩
   have hls1:=hls.out q1
   rw[<-hz]at hls1
   have HLS:=hid hls1
   have HZ1:=hid (show ∃q,z1=wr.drewN q from⟨q1,hz⟩)
   clear hz cq g0 g1 g2 g3 g4 x0 x1 x2 x3 hls1 HSM hls;obtain⟨cq,g0,g1,g2,g3,g4,x0,x1,x2,x3⟩:=KB.out z1 (TZ.out z1 HZ1.out).2.1;go_wp2_with fail;refine HLS.out.mono ?_;rintro y z2 ⟨rfl,q2,hz⟩
   have HZ2:Hid (∃q,z2=wr.drewN q):=hid (by
    obtain⟨q,hq⟩:=HZ1.out;exact⟨q+q2,by rw[hz,hq,World.drewN_drewN]⟩)
   have T0:=hid (TZ.out z2 HZ2.out)
   clear hz cq g0 g1 g2 g3 g4 x0 x1 x2 x3 HLS HZ1;obtain⟨cq,g0,g1,g2,g3,g4,x0,x1,x2,x3⟩:=KB.out z2 T0.out.2.1;clear TZ HZ2
   rcases put with _|_
   ·rcases sb with _|_
    ·rcases lb with _|_
     ·go_wp2_with (at_builtin;refine Z9 Xe rfl _ _ rfl Pr ae rfl (by decide) w1.heap.size _ _ _ rfl (T0.out.1.alloc Xe (.cells #[.slice A0 n0 c0,.int .i64 p0,.slice B1 m1 d1,.slice B2 m2 d2,.slice B3 m3 d3] 139)) _ rfl [.slice A0 n0 c0,.int .i64 p0,.slice B1 m1 d1,.slice B2 m2 d2,.slice B3 m3 d3] rfl (K,p0,Su,M,X) (J3 _ [.slice A0 n0 c0,.int .i64 p0,.slice B1 m1 d1,.slice B2 m2 d2,.slice B3 m3 d3] _) (Mg _ _ _ _ _ _ _ _ _ _ _ _ _) (Gj HO.out (T0.out.2.1.alloc T0.out.2.1.size (.cells #[.slice A0 n0 c0,.int .i64 p0,.slice B1 m1 d1,.slice B2 m2 d2,.slice B3 m3 d3] 139)) (λk hk=>(T0.out.1.lt k hk).1)) T0.out.2.2 (T0.out.2.1.alloc T0.out.2.1.size (.cells #[.slice A0 n0 c0,.int .i64 p0,.slice B1 m1 d1,.slice B2 m2 d2,.slice B3 m3 d3] 139)).size ?_;intro v3 y3 O3 G3;have T3:Hid (Yh6 y3 w1.heap.size S v3 (D++[(K,p0,Su,M,X)])/\Below w1.heap.size w1 y3/\(D++[(K,p0,Su,M,X)]).length<=1000000):=hid ⟨O3,(T0.out.2.1.alloc T0.out.2.1.size (.cells #[.slice A0 n0 c0,.int .i64 p0,.slice B1 m1 d1,.slice B2 m2 d2,.slice B3 m3 d3] 139)).trans (G3.Yw (T0.out.2.1.alloc T0.out.2.1.size (.cells #[.slice A0 n0 c0,.int .i64 p0,.slice B1 m1 d1,.slice B2 m2 d2,.slice B3 m3 d3] 139)).size (λk hk=>(T0.out.1.lt k hk).1)),by have:=HT.out.len;simp at this⊢;omega⟩;clear O3 G3)
      have hF:=hid (show Ysj w1 y3 S v3 C L x (j+1) false (D++[(K,p0,Su,M,X)])from⟨T3.out.1,T3.out.2.1,by have h:=HT.out.now;rw[Jv HCj.out,Ygg (of_decide_eq_false hsb.out) hlb.out]at h;simpa using h,(λh=>by cases h),by have:=HT.out.len;simp at this⊢;omega⟩)
      clear T3;go_wp2_with fail;go_roundw
      case rel=>exact⟨j+1,false,D++[(K,p0,Su,M,X)],by omega,by go_num,rfl,hF.out⟩
      case measure=>simp[intOf];omega
     ·go_wp2_with (first|(at_builtin;refine Z9 Xe rfl _ _ rfl Pr ae rfl (by decide) w1.heap.size _ _ _ rfl (T0.out.1.alloc Xe (.cells #[.slice Ao no co,.int .i64 p,.slice A1 n1 c1,.slice A2 n2 c2,.slice A3 n3 c3] 139)) _ rfl [.slice Ao no co,.int .i64 p,.slice A1 n1 c1,.slice A2 n2 c2,.slice A3 n3 c3] rfl (L,x) (J3 _ [.slice Ao no co,.int .i64 p,.slice A1 n1 c1,.slice A2 n2 c2,.slice A3 n3 c3] _) (Mg _ _ _ _ _ _ _ _ _ _ _ _ _) (Gj HN.out.1 (T0.out.2.1.alloc T0.out.2.1.size (.cells #[.slice Ao no co,.int .i64 p,.slice A1 n1 c1,.slice A2 n2 c2,.slice A3 n3 c3] 139)) (λk hk=>(T0.out.1.lt k hk).1)) T0.out.2.2 (T0.out.2.1.alloc T0.out.2.1.size (.cells #[.slice Ao no co,.int .i64 p,.slice A1 n1 c1,.slice A2 n2 c2,.slice A3 n3 c3] 139)).size ?_;intro v3 y3 O3 G3;have T3:Hid (Yh6 y3 w1.heap.size S v3 (D++[(L,x)])/\Below w1.heap.size w1 y3/\(D++[(L,x)]).length<=1000000):=hid ⟨O3,(T0.out.2.1.alloc T0.out.2.1.size (.cells #[.slice Ao no co,.int .i64 p,.slice A1 n1 c1,.slice A2 n2 c2,.slice A3 n3 c3] 139)).trans (G3.Yw (T0.out.2.1.alloc T0.out.2.1.size (.cells #[.slice Ao no co,.int .i64 p,.slice A1 n1 c1,.slice A2 n2 c2,.slice A3 n3 c3] 139)).size (λk hk=>(T0.out.1.lt k hk).1)),by have:=HT.out.len;simp at this⊢;omega⟩;clear O3 G3;clear cq g0 g1 g2 g3 g4 x0 x1 x2 x3;obtain⟨cq,g0,g1,g2,g3,g4,x0,x1,x2,x3⟩:=KB.out y3 T3.out.2.1)|(at_builtin;refine Z9 Xe rfl _ _ rfl Pr ae rfl (by decide) w1.heap.size _ _ _ rfl (T3.out.1.alloc Xe (.cells #[.slice A0 n0 c0,.int .i64 p0,.slice B1 m1 d1,.slice B2 m2 d2,.slice B3 m3 d3] 139)) _ rfl [.slice A0 n0 c0,.int .i64 p0,.slice B1 m1 d1,.slice B2 m2 d2,.slice B3 m3 d3] rfl (K,p0,Su,M,X) (J3 _ [.slice A0 n0 c0,.int .i64 p0,.slice B1 m1 d1,.slice B2 m2 d2,.slice B3 m3 d3] _) (Mg _ _ _ _ _ _ _ _ _ _ _ _ _) (Gj HO.out (T3.out.2.1.alloc T3.out.2.1.size (.cells #[.slice A0 n0 c0,.int .i64 p0,.slice B1 m1 d1,.slice B2 m2 d2,.slice B3 m3 d3] 139)) (λk hk=>(T3.out.1.lt k hk).1)) T3.out.2.2 (T3.out.2.1.alloc T3.out.2.1.size (.cells #[.slice A0 n0 c0,.int .i64 p0,.slice B1 m1 d1,.slice B2 m2 d2,.slice B3 m3 d3] 139)).size ?_;intro v4 y4 O4 G4;have T4:Hid (Yh6 y4 w1.heap.size S v4 (D++[(L,x)]++[(K,p0,Su,M,X)])/\Below w1.heap.size w1 y4/\(D++[(L,x)]++[(K,p0,Su,M,X)]).length<=1000000):=hid ⟨O4,(T3.out.2.1.alloc T3.out.2.1.size (.cells #[.slice A0 n0 c0,.int .i64 p0,.slice B1 m1 d1,.slice B2 m2 d2,.slice B3 m3 d3] 139)).trans (G4.Yw (T3.out.2.1.alloc T3.out.2.1.size (.cells #[.slice A0 n0 c0,.int .i64 p0,.slice B1 m1 d1,.slice B2 m2 d2,.slice B3 m3 d3] 139)).size (λk hk=>(T3.out.1.lt k hk).1)),by have:=HT.out.len;simp at this⊢;omega⟩;clear O4 G4))
      have hF:=hid (show Ysj w1 y4 S v4 C L x (j+1) true (D++[(L,x)]++[(K,p0,Su,M,X)])from⟨T4.out.1,T4.out.2.1,by have h:=HT.out.now;rw[Jv HCj.out,Yoo (of_decide_eq_false hsb.out) hlb.out]at h;simpa using h,λ_=>⟨j,_,by omega,HCj.out,.inr hlb.out⟩,by have:=HT.out.len;simp at this⊢;omega⟩)
      clear T4;go_wp2_with fail;go_roundw
      case rel=>exact⟨j+1,true,D++[(L,x)]++[(K,p0,Su,M,X)],by omega,by go_num,rfl,hF.out⟩
      case measure=>simp[intOf];omega
    ·go_wp2_with (at_builtin;refine Z9 Xe rfl _ _ rfl Pr ae rfl (by decide) w1.heap.size _ _ _ rfl (T0.out.1.alloc Xe (.cells #[.slice Ao no co,.int .i64 p,.slice A1 n1 c1,.slice A2 n2 c2,.slice A3 n3 c3] 139)) _ rfl [.slice Ao no co,.int .i64 p,.slice A1 n1 c1,.slice A2 n2 c2,.slice A3 n3 c3] rfl (L,x) (J3 _ [.slice Ao no co,.int .i64 p,.slice A1 n1 c1,.slice A2 n2 c2,.slice A3 n3 c3] _) (Mg _ _ _ _ _ _ _ _ _ _ _ _ _) (Gj HN.out.1 (T0.out.2.1.alloc T0.out.2.1.size (.cells #[.slice Ao no co,.int .i64 p,.slice A1 n1 c1,.slice A2 n2 c2,.slice A3 n3 c3] 139)) (λk hk=>(T0.out.1.lt k hk).1)) T0.out.2.2 (T0.out.2.1.alloc T0.out.2.1.size (.cells #[.slice Ao no co,.int .i64 p,.slice A1 n1 c1,.slice A2 n2 c2,.slice A3 n3 c3] 139)).size ?_;intro v3 y3 O3 G3;have T3:Hid (Yh6 y3 w1.heap.size S v3 (D++[(L,x)])/\Below w1.heap.size w1 y3/\(D++[(L,x)]).length<=1000000):=hid ⟨O3,(T0.out.2.1.alloc T0.out.2.1.size (.cells #[.slice Ao no co,.int .i64 p,.slice A1 n1 c1,.slice A2 n2 c2,.slice A3 n3 c3] 139)).trans (G3.Yw (T0.out.2.1.alloc T0.out.2.1.size (.cells #[.slice Ao no co,.int .i64 p,.slice A1 n1 c1,.slice A2 n2 c2,.slice A3 n3 c3] 139)).size (λk hk=>(T0.out.1.lt k hk).1)),by have:=HT.out.len;simp at this⊢;omega⟩;clear O3 G3)
     have hF:=hid (show Ysj w1 y3 S v3 C L x (j+1) true (D++[(L,x)])from⟨T3.out.1,T3.out.2.1,by have h:=HT.out.now;rw[Jv HCj.out,Yja (of_decide_eq_true hsb.out)]at h;simpa using h,λ_=>⟨j,_,by omega,HCj.out,.inl (of_decide_eq_true hsb.out)⟩,by have:=HT.out.len;simp at this⊢;omega⟩)
     clear T3;go_wp2_with fail;go_roundw
     case rel=>exact⟨j+1,true,D++[(L,x)],by omega,by go_num,rfl,hF.out⟩
     case measure=>simp[intOf];omega
   ·obtain rfl:sb=false:=by
     rw[<-hsb.out];obtain⟨a,d,h1,h2,h3⟩:=HT.out.past rfl;exact decide_eq_false (Yqq H0.out.2.2.2.1 h2 HCj.out h1 h3)
    go_wp2_with (at_builtin;refine Z9 Xe rfl _ _ rfl Pr ae rfl (by decide) w1.heap.size _ _ _ rfl (T0.out.1.alloc Xe (.cells #[.slice A0 n0 c0,.int .i64 p0,.slice B1 m1 d1,.slice B2 m2 d2,.slice B3 m3 d3] 139)) _ rfl [.slice A0 n0 c0,.int .i64 p0,.slice B1 m1 d1,.slice B2 m2 d2,.slice B3 m3 d3] rfl (K,p0,Su,M,X) (J3 _ [.slice A0 n0 c0,.int .i64 p0,.slice B1 m1 d1,.slice B2 m2 d2,.slice B3 m3 d3] _) (Mg _ _ _ _ _ _ _ _ _ _ _ _ _) (Gj HO.out (T0.out.2.1.alloc T0.out.2.1.size (.cells #[.slice A0 n0 c0,.int .i64 p0,.slice B1 m1 d1,.slice B2 m2 d2,.slice B3 m3 d3] 139)) (λk hk=>(T0.out.1.lt k hk).1)) T0.out.2.2 (T0.out.2.1.alloc T0.out.2.1.size (.cells #[.slice A0 n0 c0,.int .i64 p0,.slice B1 m1 d1,.slice B2 m2 d2,.slice B3 m3 d3] 139)).size ?_;intro v3 y3 O3 G3;have T3:Hid (Yh6 y3 w1.heap.size S v3 (D++[(K,p0,Su,M,X)])/\Below w1.heap.size w1 y3/\(D++[(K,p0,Su,M,X)]).length<=1000000):=hid ⟨O3,(T0.out.2.1.alloc T0.out.2.1.size (.cells #[.slice A0 n0 c0,.int .i64 p0,.slice B1 m1 d1,.slice B2 m2 d2,.slice B3 m3 d3] 139)).trans (G3.Yw (T0.out.2.1.alloc T0.out.2.1.size (.cells #[.slice A0 n0 c0,.int .i64 p0,.slice B1 m1 d1,.slice B2 m2 d2,.slice B3 m3 d3] 139)).size (λk hk=>(T0.out.1.lt k hk).1)),by have:=HT.out.len;simp at this⊢;omega⟩;clear O3 G3)
    have hF:=hid (show Ysj w1 y3 S v3 C L x (j+1) true (D++[(K,p0,Su,M,X)])from⟨T3.out.1,T3.out.2.1,by have h:=HT.out.now;rw[Jv HCj.out,Yim]at h;simpa using h,(λ_=>by obtain⟨a,d,h1,h2,h3⟩:=HT.out.past rfl;exact⟨a,d,by omega,h2,h3⟩),by have:=HT.out.len;simp at this⊢;omega⟩)
    clear T3;go_wp2_with fail;go_roundw
    case rel=>exact⟨j+1,true,D++[(K,p0,Su,M,X)],by omega,by go_num,rfl,hF.out⟩
    case measure=>simp[intOf];omega
  ·have hdr:Hid (C.drop j=[]):=hid (List.drop_eq_nil_of_le (by have:=H0.out.2.2.1.row.len;omega))
   have HL:=HT.out.now
   rw[hdr.out,Ype]at HL
   rcases put with _|_
   ·have HD:Hid (D++[(L,x)]=Wo C L x):=hid (by simpa using HL)
    have T0:=hid (aa HT.out.own (aa HT.out.bel (show D.length<=1000000 by have:=HT.out.len;simp at this;omega)))
    have hXr:=HN.out.2.1.below HT.out.bel HN.out.2.1.lt
    have x0:wr.cell? ⟨w.heap.size,0,none⟩=some (.int .i64 p):=hXr.cell 0
    have x1:wr.cell? ⟨w.heap.size,1,none⟩=some (.slice A1 n1 c1):=hXr.cell 1
    have x2:wr.cell? ⟨w.heap.size,2,none⟩=some (.slice A2 n2 c2):=hXr.cell 2
    have x3:wr.cell? ⟨w.heap.size,3,none⟩=some (.slice A3 n3 c3):=hXr.cell 3
    clear HL hXr;go_wp2_with (at_builtin;refine Z9 Xe rfl _ _ rfl Pr ae rfl (by decide) w1.heap.size _ _ _ rfl (T0.out.1.alloc Xe (.cells #[.slice Ao no co,.int .i64 p,.slice A1 n1 c1,.slice A2 n2 c2,.slice A3 n3 c3] 139)) _ rfl [.slice Ao no co,.int .i64 p,.slice A1 n1 c1,.slice A2 n2 c2,.slice A3 n3 c3] rfl (L,x) (J3 _ [.slice Ao no co,.int .i64 p,.slice A1 n1 c1,.slice A2 n2 c2,.slice A3 n3 c3] _) (Mg _ _ _ _ _ _ _ _ _ _ _ _ _) (Gj HN.out.1 (T0.out.2.1.alloc T0.out.2.1.size (.cells #[.slice Ao no co,.int .i64 p,.slice A1 n1 c1,.slice A2 n2 c2,.slice A3 n3 c3] 139)) (λk hk=>(T0.out.1.lt k hk).1)) T0.out.2.2 (T0.out.2.1.alloc T0.out.2.1.size (.cells #[.slice Ao no co,.int .i64 p,.slice A1 n1 c1,.slice A2 n2 c2,.slice A3 n3 c3] 139)).size ?_;intro v3 y3 O3 G3;obtain⟨A',n',c',rfl,HF,ce,fe⟩:=Yld H0.out.1 H0.out.2.1 H0.out.2.2.1 HN.out.2.2.2.2.2 O3 ((T0.out.2.1.alloc T0.out.2.1.size (.cells #[.slice Ao no co,.int .i64 p,.slice A1 n1 c1,.slice A2 n2 c2,.slice A3 n3 c3] 139)).trans (G3.Yw (T0.out.2.1.alloc T0.out.2.1.size (.cells #[.slice Ao no co,.int .i64 p,.slice A1 n1 c1,.slice A2 n2 c2,.slice A3 n3 c3] 139)).size (λk hk=>(T0.out.1.lt k hk).1)));clear O3 G3)
    refine bodyPost_end (results_none rfl _ _ _) rfl ?_
    have h2:=HF.out
    rw[HD.out]at h2;exact⟨rfl,⟨A',n',c',h2.1⟩,h2.2⟩
   ·have HD:Hid (D=Wo C L x):=hid (by simpa using HL)
    obtain⟨A',n',c',rfl,HF,ce,fe⟩:=Yld H0.out.1 H0.out.2.1 H0.out.2.2.1 HN.out.2.2.2.2.2 HT.out.own HT.out.bel;clear HL;go_wp2_with fail;refine bodyPost_end (results_none rfl _ _ _) rfl ?_
    have h2:=HF.out
    rw[HD.out]at h2;exact⟨rfl,⟨A',n',c',h2.1⟩,h2.2⟩
end
theorem Ni{q q':Int}(h:Z7 w S [.int .i64 q,.slice A1 n1 c1,.slice A2 n2 c2,.slice A3 n3 c3] (q',Su,M,X)):Wi w w.heap.size A1 n1 c1 A2 n2 c2 A3 n3 c3 Su M X:=by
 obtain⟨_,⟨B1,m1,d1,e1,h1⟩,⟨B2,m2,d2,e2,h2⟩,B3,m3,d3,e3,h3⟩:=h;simp at e1 e2 e3;obtain⟨rfl,rfl,rfl⟩:=e1;obtain⟨rfl,rfl,rfl⟩:=e2;obtain⟨rfl,rfl,rfl⟩:=e3;exact⟨h1.Uy,h2.Uy,h3.Uy⟩
theorem Yho(hS:∀k,w.heap.size<=k->S k)(hr:¬S r)(h:Rq w r W m S A n c C)(hn:n<=100000)(hW:W<=3)(hC:Xw W m C)(hL:Y2 w w.heap.size Ak k kc L)(hx:Z7 w S [.int .i64 p,.slice A1 n1 c1,.slice A2 n2 c2,.slice A3 n3 c3] (p,Su,M,X)):
  Calls aj 149 #[.pointer (some ⟨r,0,none⟩),.slice Ak k kc,.agg #[.int .i64 p,.slice A1 n1 c1,.slice A2 n2 c2,.slice A3 n3 c3]] w λe w'=>e=.returned (.int .i64 (R6 W m C L (p,Su,M,X)).2)/\(∃A' n' c',Rq w' r W m S A' n' c' (R6 W m C L (p,Su,M,X)).1)/\w.grownBy w' (some r):=by
 have hb1:=Yb w (.cells #[.int .i64 p,.slice A1 n1 c1,.slice A2 n2 c2,.slice A3 n3 c3] 71)
 have hX:=Block.new w 71 #[.int .i64 p,.slice A1 n1 c1,.slice A2 n2 c2,.slice A3 n3 c3]
 have hrl:r<w.heap.size:=h.blk.lt
 have hxc:=Ni hx
 have HL:=hid (aa hL.len (aa hxc.s.len hxc.s.Ym))
 have hz1:(w.alloc (.cells #[.int .i64 p,.slice A1 n1 c1,.slice A2 n2 c2,.slice A3 n3 c3] 71)).heap.size=w.heap.size+1:=World.size_alloc _ _
 have H0:=hid (aa hS (aa hr (aa h (aa hC (aa hL hx)))))
 have HB1:=hid (aa hb1 hX)
 clear hS hr h hC hL hx hxc hb1 hX;go_enter Tryz.func149,Tryz.ntmps149;go_wp2_with fail;generalize w.alloc (.cells #[.int .i64 p,.slice A1 n1 c1,.slice A2 n2 c2,.slice A3 n3 c3] 71)=W1 at HB1 hz1⊢
 have HZ1:=hid hz1
 have hw1:w.heap.size<W1.heap.size:=by omega
 have KH:Hid (∀y:World,Below W1.heap.size W1 y->Rq y r W m S A n c C/\Y2 y y.heap.size Ak k kc L/\Wi y y.heap.size A1 n1 c1 A2 n2 c2 A3 n3 c3 Su M X/\Z7 y S [.int .i64 p,.slice A1 n1 c1,.slice A2 n2 c2,.slice A3 n3 c3] (p,Su,M,X)/\Block y w.heap.size 71 #[.int .i64 p,.slice A1 n1 c1,.slice A2 n2 c2,.slice A3 n3 c3]/\Below w.heap.size w y):=hid λy hy=>by
  have hB:=Ya HB1.out.1 hy
  have hx:=Zf _ _ _ _ _ _ (Mv.Yc hB S) H0.out.2.2.2.2.2
  exact⟨H0.out.2.2.1.Yc hB,H0.out.2.2.2.2.1.Yc hB,Ni hx,hx,HB1.out.2.below hy HB1.out.2.lt,hB⟩
 have KC:Hid (∀y:World,Below W1.heap.size W1 y->y.cell? ⟨r,1,none⟩=some (.int .i64 m)/\y.cell? ⟨w.heap.size,0,none⟩=some (.int .i64 p)/\y.cell? ⟨w.heap.size,1,none⟩=some (.slice A1 n1 c1)/\y.cell? ⟨w.heap.size,2,none⟩=some (.slice A2 n2 c2)/\y.cell? ⟨w.heap.size,3,none⟩=some (.slice A3 n3 c3)):=hid λy hy=>by
  have h:=KH.out y hy
  exact⟨h.1.c1,h.2.2.2.2.1.cell 0,h.2.2.2.2.1.cell 1,h.2.2.2.2.1.cell 2,h.2.2.2.2.1.cell 3⟩
 obtain⟨a,ha⟩: ∃a,Hid (decide (isKey W L)=a):=⟨_,hid rfl⟩;obtain⟨b,hb⟩: ∃b:Bool,Hid (b=true↔Zo (p,Su,M,X)):=⟨decide (Zo (p,Su,M,X)),hid (by simp)⟩
 have B0:=Below.refl W1.heap.size W1
 have hIs:=Yiv (KH.out W1 B0).1.c0 (KH.out W1 B0).2.1
 rw[ha.out]at hIs;refine hIs.mono ?_;rintro e w2 ⟨rfl,q1,hq1⟩
 have B2:Below W1.heap.size W1 w2:=by rw[hq1];exact below_drewN B0 q1
 have hMay:=N6 (n:=p) (KH.out w2 B2).2.2.1 (r:=b) hb.out
 have HB2:=hid B2
 obtain⟨m1,x0,x1,x2,x3⟩:=KC.out w2 B2;clear hIs hq1 B2 B0 hz1;go_wp2_with fail;refine hMay.mono ?_;rintro e w3 ⟨rfl,hb3⟩
 have HB3:Hid (Below W1.heap.size W1 w3):=hid (HB2.out.trans (hb3.mono HB2.out.size))
 clear hMay hb3 HB2 m1 x0 x1 x2 x3;obtain⟨m1,x0,x1,x2,x3⟩:=KC.out w3 HB3.out
 have KQ:Hid (∀q,Below W1.heap.size W1 (w3.drewN q)):=hid λq=>below_drewN HB3.out q
 by_cases hbad:a=false∨b=false∨p=0∨n1≠m
 ·have HV:Hid (R6 W m C L (p,Su,M,X)=(C,1)):=hid (Jd λhx=>by
   rcases hbad with e|e|e|e
   ·have:=ha.out
    rw[e]at this;exact of_decide_eq_false this hx.1
   ·have:=hb.out.2 hx.2.1
    rw[e]at this
    cases this
   ·exact hx.2.2.1 e
   ·exact e (by have h1:=hx.2.2.2;have h2:=HL.out.2.1;simp at h1;omega))
  have HF:Hid (∀q,(∃A' n' c',Rq (w3.drewN q) r W m S A' n' c' C)/\w.grownBy (w3.drewN q) (some r)):=hid λq=>⟨⟨A,n,c,(KH.out _ (KQ.out q)).1⟩,Uj (KH.out _ (KQ.out q)).2.2.2.2.2 _⟩
  clear KH KC KQ H0 HB1
  cases a with
  |false=>
   clear hbad;go_wp2_with fail;go_quiet (fail);go_wp2_with fail;go_ret;rw[HV.out];exact⟨rfl,(HF.out _).1,(HF.out _).2⟩
  |true=>
   cases b with
   |false=>
    clear hbad;go_wp2_with fail;go_quiet (fail);go_wp2_with fail;go_ret;rw[HV.out];exact⟨rfl,(HF.out _).1,(HF.out _).2⟩
   |true=>
    by_cases hp:p=0
    ·have hpe:((p:Int)==0)=true:=by simp[hp]
     clear hbad hp;go_wp2_with fail;go_quiet (fail);go_wp2_with fail;go_ret;rw[HV.out];exact⟨rfl,(HF.out _).1,(HF.out _).2⟩
    ·have hpe:((p:Int)==0)=false:=by simpa using hp
     have hne:((n1:Int) != (m:Int))=true:=by
      rcases hbad with e|e|e|e
      ·cases e
      ·cases e
      ·exact absurd e hp
      ·simp;omega
     clear hbad hp;go_wp2_with fail;go_quiet (fail);go_wp2_with fail;go_ret;rw[HV.out];exact⟨rfl,(HF.out _).1,(HF.out _).2⟩
 ·obtain rfl:a=true:=by
   cases a
   ·exact absurd (.inl rfl) hbad
   ·rfl
  obtain rfl:b=true:=by
   cases b
   ·exact absurd (.inr (.inl rfl)) hbad
   ·rfl
  have hp:¬p=0:=λe=>hbad (.inr (.inr (.inl e)))
  have hnm:n1=m:=Classical.byContradiction λe=>hbad (.inr (.inr (.inr e)))
  have HK:Hid (isKey W L/\Yv m (p,Su,M,X)):=hid ⟨of_decide_eq_true ha.out,hb.out.1 rfl,hp,by have h2:=HL.out.2.1;simp;omega⟩
  have hpe:((p:Int)==0)=false:=by simpa using hp
  have hne:((n1:Int) != (m:Int))=false:=by simp;omega
  have hk:k<=100000:=by have h1:=HK.out.1.1;have h2:=HL.out.1;omega
  have HP:=hid hp
  clear hbad hp hnm;go_wp2_with fail;go_quiet (fail);clear m1 x0 x1 x2 x3 hpe hne
  have HB4:=hid (KQ.out nq)
  generalize w3.drewN nq=w4 at HB4⊢;go_wp2_with fail;refine(Ygt (KH.out w4 HB4.out).1 (KH.out w4 HB4.out).2.1).mono ?_;rintro e w5 ht
  rcases hg:Za C L with _|⟨u0,uS,uM,uX⟩
  ·have HA:=hid (Pf HK.out hg)
   rw[hg]at ht;obtain⟨rfl,hb5⟩:=ht.none_
   have HB5:Hid (Below W1.heap.size W1 (w5.alloc (.cells #[.int .i64 0,.slice none 0 0,.slice none 0 0,.slice none 0 0] 71))):=hid ((HB4.out.trans (hb5.mono HB4.out.size)).alloc (af HB4.out.size hb5.size) _)
   clear ht hg hb5;obtain⟨m1,x0,x1,x2,x3⟩:=KC.out _ HB5.out;go_wp2_with fail;clear m1 x0 x1 x2 x3;generalize w5.alloc (.cells #[.int .i64 0,.slice none 0 0,.slice none 0 0,.slice none 0 0] 71)=w6 at HB5⊢
   have h6:=KH.out w6 HB5.out
   refine(F9 (λk hk=>H0.out.1 k (af h6.2.2.2.2.2.size hk)) H0.out.2.1 h6.1 hn hk H0.out.2.2.2.1.ris h6.2.1 h6.2.2.2.1).mono ?_
   rintro e w7 ⟨rfl,hR,hg7⟩
   have HF:=hid (aa hR (Vm (Uj h6.2.2.2.2.2 (some r)) hg7 (λ_ h=>.inl h)))
   clear h6 hR hg7;go_wp2_with fail;go_ret;rw[HA.out];exact⟨rfl,HF.out.1,HF.out.2⟩
  ·have HG:=hid hg
   rw[hg]at ht;obtain⟨⟨B1,m1',d1,B2,m2,d2,B3,m3,d3,rfl,hel⟩,hb5⟩:=ht.some_
   have hu:u0≠0:=(H0.out.2.2.2.1.cell _ (Xg hg)).2.1
   have B5:Below W1.heap.size W1 w5:=HB4.out.trans (hb5.mono HB4.out.size)
   have hal:=Yb w5 (.cells #[.int .i64 u0,.slice B1 m1' d1,.slice B2 m2 d2,.slice B3 m3 d3] 71)
   have hT6:=Block.new w5 71 #[.int .i64 u0,.slice B1 m1' d1,.slice B2 m2 d2,.slice B3 m3 d3]
   have hy6:=(Ni hel).Rz (.cells #[.int .i64 u0,.slice B1 m1' d1,.slice B2 m2 d2,.slice B3 m3 d3] 71)
   have HB6:=hid (B5.alloc B5.size (.cells #[.int .i64 u0,.slice B1 m1' d1,.slice B2 m2 d2,.slice B3 m3 d3] 71))
   have HZ5:=hid (ai hw1 B5.size)
   clear ht hg hb5 hel B5 hal;go_upto_region 7 with fail
   generalize w5.alloc (.cells #[.int .i64 u0,.slice B1 m1' d1,.slice B2 m2 d2,.slice B3 m3 d3] 71)=w6 at HB6 hT6 hy6⊢;obtain⟨tb,htb⟩: ∃tb,w5.heap.size=tb:=⟨_,rfl⟩;rw[htb]at hT6 HZ5⊢;clear htb
   have h6:=KH.out w6 HB6.out
   have hmrg:=hid (Yeb (q:=u0) (q':=p) hy6 h6.2.2.1 ⟨hu,HP.out⟩)
   obtain⟨z0,zS,zM,zX,er,HR⟩: ∃z P Q R er,Hid (Zs (u0,uS,uM,uX) (p,Su,M,X)=((z,P,Q,R),er)):=⟨_,_,_,_,_,hid rfl⟩;rw[HR.out]at hmrg
   have t0:w6.cell? ⟨tb,0,none⟩=some (.int .i64 u0):=hT6.cell 0
   have t1:w6.cell? ⟨tb,1,none⟩=some (.slice B1 m1' d1):=hT6.cell 1
   have t2:w6.cell? ⟨tb,2,none⟩=some (.slice B2 m2 d2):=hT6.cell 2
   have t3:w6.cell? ⟨tb,3,none⟩=some (.slice B3 m3 d3):=hT6.cell 3
   obtain⟨m1,x0,x1,x2,x3⟩:=KC.out w6 HB6.out;clear hu hy6 h6;go_wp2_with fail;refine hmrg.out.mono ?_;rintro e w7 ⟨⟨v1,v2,v3,rfl,hO7⟩,hb7⟩
   have HB7:Hid (Below W1.heap.size W1 w7):=hid (HB6.out.trans (hb7.mono HB6.out.size))
   obtain⟨E1,l1,e1,E2,l2,e2,E3,l3,e3,rfl,rfl,rfl,_⟩:=hO7.form
   have hO7:=hid hO7
   have hlow:Hid (w.heap.size<w6.heap.size):=hid (ai hw1 HB6.out.size)
   clear hb7 hmrg t0 t1 t2 t3 m1 x0 x1 x2 x3 hT6
   have HB8:=hid (HB7.out.alloc HB7.out.size (.cells #[.int .i64 z0,.slice E1 l1 e1,.slice E2 l2 e2,.slice E3 l3 e3] 71))
   have hO8:=hid (hO7.out.alloc (.cells #[.int .i64 z0,.slice E1 l1 e1,.slice E2 l2 e2,.slice E3 l3 e3] 71))
   by_cases he:er=0
   ·have hee:((er:Int) != 0)=false:=by simp[he]
    have HA:=hid (La HK.out HG.out (by rw[HR.out];exact he))
    rw[HR.out]at HA;subst he;obtain⟨m1,x0,x1,x2,x3⟩:=KC.out _ HB8.out
    have hXf:=(KH.out _ HB8.out).2.2.2.2.1
    have f0:=hXf.free 0
    have f1:=hXf.free 1
    have f2:=hXf.free 2
    have f3:=hXf.free 3
    have HY:Hid (Below w.heap.size w (Sr (w7.alloc (.cells #[.int .i64 z0,.slice E1 l1 e1,.slice E2 l2 e2,.slice E3 l3 e3] 71)) w.heap.size (.int .i64 z0) (.slice E1 l1 e1) (.slice E2 l2 e2) (.slice E3 l3 e3))/\X7 (Sr (w7.alloc (.cells #[.int .i64 z0,.slice E1 l1 e1,.slice E2 l2 e2,.slice E3 l3 e3] 71)) w.heap.size (.int .i64 z0) (.slice E1 l1 e1) (.slice E2 l2 e2) (.slice E3 l3 e3)) w6.heap.size (.slice E1 l1 e1) (.slice E2 l2 e2) (.slice E3 l3 e3) zS zM zX/\Block (Sr (w7.alloc (.cells #[.int .i64 z0,.slice E1 l1 e1,.slice E2 l2 e2,.slice E3 l3 e3] 71)) w.heap.size (.int .i64 z0) (.slice E1 l1 e1) (.slice E2 l2 e2) (.slice E3 l3 e3)) w.heap.size 71 #[.int .i64 z0,.slice E1 l1 e1,.slice E2 l2 e2,.slice E3 l3 e3]):=hid ⟨Yq (KH.out _ HB8.out).2.2.2.2.2 (ag _) _ _ _ _,hO8.out.Zp hlow.out _ _ _ _,hXf.Zp _ _ _ _⟩
    clear hXf;go_upto_region 11 with fail
    clear m1 x0 x1 x2 x3 f0 f1 f2 f3 hee;obtain⟨hbY,hOY,hXY⟩:=HY.out;clear HY;unfold Sr at hbY hOY hXY;generalize ((((w7.alloc (.cells #[.int .i64 z0,.slice E1 l1 e1,.slice E2 l2 e2,.slice E3 l3 e3] 71)).setCell ⟨w.heap.size,0,none⟩ (.int .i64 z0)).setCell ⟨w.heap.size,1,none⟩ (.slice E1 l1 e1)).setCell ⟨w.heap.size,2,none⟩ (.slice E2 l2 e2)).setCell ⟨w.heap.size,3,none⟩ (.slice E3 l3 e3)=w9 at hbY hOY hXY⊢
    have hcel:Z7 w9 S [.int .i64 z0,.slice E1 l1 e1,.slice E2 l2 e2,.slice E3 l3 e3] (z0,zS,zM,zX):=Ko (hOY.el (n:=z0) λk hk _=>H0.out.1 k (by have:=hlow.out;omega))
    have hset:=hid (F9 (λk hk=>H0.out.1 k (af hbY.size hk)) H0.out.2.1 (H0.out.2.2.1.Yc hbY) hn hk H0.out.2.2.2.1.ris (H0.out.2.2.2.2.1.Yc hbY) hcel)
    have x0:w9.cell? ⟨w.heap.size,0,none⟩=some (.int .i64 z0):=hXY.cell 0
    have x1:w9.cell? ⟨w.heap.size,1,none⟩=some (.slice E1 l1 e1):=hXY.cell 1
    have x2:w9.cell? ⟨w.heap.size,2,none⟩=some (.slice E2 l2 e2):=hXY.cell 2
    have x3:w9.cell? ⟨w.heap.size,3,none⟩=some (.slice E3 l3 e3):=hXY.cell 3
    have HbY:=hid hbY
    clear hbY hOY hXY hcel;go_wp2_with fail;refine hset.out.mono ?_;rintro e w10 ⟨rfl,hR,hg10⟩
    have HF:=hid (aa hR (Vm (Uj HbY.out (some r)) hg10 (λ_ h=>.inl h)))
    clear hR hg10 x0 x1 x2 x3 hset;go_wp2_with fail;go_ret;rw[HA.out];exact⟨rfl,HF.out.1,HF.out.2⟩
   ·have hee:((er:Int) != 0)=true:=by simpa using he
    have HA:=hid (Aj HK.out HG.out (by rw[HR.out];exact he))
    rw[HR.out]at HA
    have HF:=hid (show(∃A' n' c',Rq (w7.alloc (.cells #[.int .i64 z0,.slice E1 l1 e1,.slice E2 l2 e2,.slice E3 l3 e3] 71)) r W m S A' n' c' C)/\w.grownBy (w7.alloc (.cells #[.int .i64 z0,.slice E1 l1 e1,.slice E2 l2 e2,.slice E3 l3 e3] 71)) (some r)from⟨⟨A,n,c,(KH.out _ HB8.out).1⟩,Uj (KH.out _ HB8.out).2.2.2.2.2 _⟩)
    clear he;go_wp2_with fail;go_ret;rw[HA.out];exact⟨rfl,HF.out.1,HF.out.2⟩
end Go.Proofs.YtmepdkdeanbbaaaGreat
