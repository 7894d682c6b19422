/- CubRG, CubRG3 -/
import Derived.Test.YtmepdkdeanbbaaaGreatJ16
import Derived.Test.YtmepdkdeanbbaaaGreatJ29
import Derived.Test.YtmepdkdeanbbaaaGreatJ30
import Derived.Deep.DeepCutAuto
namespace Go.Proofs.YtmepdkdeanbbaaaGreat
set_option maxRecDepth 100000
set_option maxHeartbeats 8000000
open Go.RowKit
open List renaming length_append→aa,range→ae,flatMap_append→ag,take_of_length_le→ai,mem_of_getElem?→aj,append_assoc→ak
open And renaming intro→af
open Go.Lib (hid)
variable {w:World}
theorem C8{α:Type}{L:List α}{k:Nat}{x:α}(h:L[k]?=some x):L.take k++[x]=L.take (k+1):=by
 rw[List.take_add_one,h];rfl
theorem Yna{α:Type}(f:α->List UInt8)(L:List α)(k:Nat):((L.take k).flatMap f).length<=(L.flatMap f).length:=by
 have h:L.flatMap f=(L.take k).flatMap f++(L.drop k).flatMap f:=by rw[<-ag,List.take_append_drop]
 rw[h,aa];omega
theorem Sj{y:World}{v:Value}{P:List UInt8}{x:Int}(hO:Zc y w.heap.size 5 v P)(hB:Below w.heap.size w y)(h1: -9223372036854775808<=x)(h2:x<=9223372036854775807)(hl:P.length<=1000000000):
  Calls Tryz.prog 146 #[v,.int .i64 x] y λe y'=>∃v',e=.returned v'∧Hid (Zc y' w.heap.size 5 v' (P++Z2 x)/\Below w.heap.size w y'∧Below y.heap.size y y'):=by
 obtain⟨A,c,rfl,hH,_⟩:=hO.form;refine(Uf hH x h1 h2 hl).mono ?_;rintro e y' ⟨v',rfl,hO',hB'⟩;exact⟨v',rfl,hid ⟨hO'.low hB.size,hB.trans (hB'.mono hB.size),hB'⟩⟩
theorem Ydt{r W m n c:Nat}{S:Nat->Prop}{A:Option Addr}{C:Cub}(h:Rq w r W m S A n c C)(hn:n<=100000)(hC:Xw W m C)(hW:W<=3)(hm:m<=2){Ab:Option Addr}{nb cb:Nat}{Pb:List UInt8}(hPb:Xo w w.heap.size Ab nb cb Pb)(hnb:nb<=1000000):
  Calls Tryz.prog 85 #[.pointer (some ⟨r,0,none⟩),.slice Ab nb cb] w λe w'=>∃v,e=.returned v/\Zc w' w.heap.size 5 v (Pb++Yot m C)/\Below w.heap.size w w':=by
 have H0:=hid (af h hC)
 have hCl:=hid h.row.len
 have hnm:=h.row.Ym
 have hcap:=h.row.cap
 have hcm:=h.row.Xf
 have KC:Hid (∀y:World,Below w.heap.size w y->y.cell? ⟨r,2,none⟩=some (.slice A n c)):=hid λy hy=>(H0.out.1.Yc hy).c2
 have cq:=KC.out w (Below.refl _ _)
 have HPb:=hid (af hPb.len hnb)
 have HPu:=hid (Uf hPb (n:Int) (by omega) (by omega) (by omega))
 obtain⟨I0,hI0⟩: ∃I0,Hid (Pb++Z2 (n:Int)=I0):=⟨_,hid rfl⟩;clear h hC hPb hnb;go_enter Tryz.func85,Tryz.ntmps85;go_wp2_with fail;refine HPu.out.mono ?_;rintro e w1 ⟨v1,rfl,hO1,hB1⟩
 have H1:Hid (Zc w1 w.heap.size 5 v1 I0/\Below w.heap.size w w1):=hid ⟨by rw[<-hI0.out];exact hO1,hB1⟩
 clear hO1 hB1 HPu;clear cq
 have HE:Hid (∀t,t<=n->(I0++(C.take t).flatMap (Vr m)).length<=20000000):=hid λt ht=>by
  have h1:=V5 (x:=(n:Int)) (by omega) (by omega)
  have h2:=F7 (i:=t) H0.out.2 hW hm
  have h3:=hCl.out
  have h4:=HPb.out
  rw[<-hI0.out,aa,aa];omega
 go_wp2_with fail;go_loopw [5,6] (λv i wr=>∃t:Nat,t<=n/\i=.int .i64 t/\Hid (Zc wr w.heap.size 5 v (I0++(C.take t).flatMap (Vr m))/\Below w.heap.size w wr)) (λ_ i _=>n-(intOf i).toNat)
 case atStart=>exact⟨0,Nat.zero_le _,rfl,hid ⟨by simpa using H1.out.1,H1.out.2⟩⟩
 case round=>
  obtain⟨t,ht,rfl,HO⟩:=hrel
  have cq:=KC.out wr HO.out.2
  by_cases hlt:t<n
  ·obtain⟨b,o,A0,n0,c0,q,A1,n1,c1,A2,n2,c2,A3,n3,c3,K,Su,M,X,rfl,hb,hbl,g0,g1,g2,g3,g4,hK0,hSu,hM,hX,hCj⟩:=H0.out.1.row.atU hlt
   have i0:(0:Int)<=(t:Int):=by omega
   have i1:(t:Int)<(n:Int):=by omega
   have KB:Hid (∀y:World,Below w.heap.size w y->y.cell? ⟨r,2,none⟩=some (.slice (some ⟨b,o,none⟩) n c)/\y.cell? ⟨b,o+t*5,none⟩=some (.slice A0 n0 c0)/\y.cell? ⟨b,o+t*5+1,none⟩=some (.int .i64 q)/\y.cell? ⟨b,o+t*5+2,none⟩=some (.slice A1 n1 c1)/\y.cell? ⟨b,o+t*5+3,none⟩=some (.slice A2 n2 c2)/\y.cell? ⟨b,o+t*5+4,none⟩=some (.slice A3 n3 c3)):=hid λy hy=>
    ⟨KC.out y hy,(hy.cell (p:=⟨b,o+t*5,none⟩) hbl).trans g0,(hy.cell (p:=⟨b,o+t*5+1,none⟩) hbl).trans g1,(hy.cell (p:=⟨b,o+t*5+2,none⟩) hbl).trans g2,(hy.cell (p:=⟨b,o+t*5+3,none⟩) hbl).trans g3,(hy.cell (p:=⟨b,o+t*5+4,none⟩) hbl).trans g4⟩
   have hmem:=aj hCj.out
   have hky:=H0.out.2.key _ hmem
   have hcl:=H0.out.2.cell _ hmem
   have HKL:=hid hky
   have HX:=hid hcl
   have hn0:n0<=3:=by have h1:=hK0.len;have h2:=hky.1;simp only at h2;omega
   have HKR:=hid (af hK0 (af hSu (af hM hX)))
   have hlen:n1=m/\n2=m/\n3=m:=by
    have h1:=hSu.len;have h2:=hM.len;have h3:=hX.len
    have h4:=Cu hcl.1
    have h5:Su.length=m:=hcl.2.2
    omega
   obtain⟨rfl,rfl,rfl⟩:=hlen;obtain⟨P0,hP0⟩: ∃P0,Hid (I0++(C.take t).flatMap (Vr n3)=P0):=⟨_,hid rfl⟩
   have HPl:Hid (P0.length<=20000000):=hid (by rw[<-hP0.out];exact HE.out t ht)
   rw[hP0.out]at HO
   have HB2:=KB.out
   clear g0 g1 g2 g3 g4 hb hmem hky hcl hK0 hSu hM hX cq HB2;obtain⟨cq,g0,g1,g2,g3,g4⟩:=KB.out wr HO.out.2;go_wp2_with fail;clear cq g0 g1 g2 g3 g4;obtain⟨wo,rfl⟩: ∃wo,wo=wr:=⟨_,rfl⟩;go_loopw [5,7] (λv i wr=>∃s:Nat,s<=n0/\i=.int .i64 s/\Hid (Zc wr w.heap.size 5 v (P0++(K.take s).flatMap Z2)/\Below w.heap.size w wr)) (λ_ i _=>n0-(intOf i).toNat)
   case atStart=>exact⟨0,Nat.zero_le _,rfl,hid ⟨by simpa using HO.out.1,HO.out.2⟩⟩
   case round=>
    obtain⟨s,hs,rfl,H2⟩:=hrel;obtain⟨cq,g0,g1,g2,g3,g4⟩:=KB.out wr H2.out.2
    by_cases hls:s<n0
    ·obtain⟨b2,o2,x,rfl,hb2,hcx,ex⟩:=(HKR.out.1.mv Yh (Mv.Yc H2.out.2 S)).Uy.at_ hls
     have i2:(0:Int)<=(s:Int):=by omega
     have i3:(s:Int)<(n0:Int):=by omega
     have hKs:Hid (K[s]?=some x):=hid (by
      have h1:s<K.length:=by rw[HKR.out.1.len];exact hls
      rw[ex,List.getD_eq_getElem?_getD,List.getElem?_eq_getElem h1];rfl)
     have hx:=HKL.out.2 x (aj hKs.out)
     have hlP:(P0++(K.take s).flatMap Z2).length<=1000000000:=by
      have h1:=HPl.out
      have h2:=Yna Z2 K s
      have h3:=Ji HKL.out
      rw[aa];omega
     have hst:=hid (Sj H2.out.1 H2.out.2 (x:=x) (by omega) (by omega) hlP)
     clear ex hlP;go_wp2_with fail;refine hst.out.mono ?_;rintro e w3 ⟨v3,rfl,H3⟩
     have H4:Hid (Zc w3 w.heap.size 5 v3 (P0++(K.take (s+1)).flatMap Z2)/\Below w.heap.size w w3):=hid (by
      have h1:=H3.out.1
      rw[ak,show(K.take s).flatMap Z2++Z2 x=(K.take (s+1)).flatMap Z2 by rw[<-C8 hKs.out,ag];simp]at h1
      exact⟨h1,H3.out.2.1⟩)
     clear cq g0 g1 g2 g3 g4 hcx H3 hst;go_wp2_with fail;go_roundw
     case rel=>exact⟨s+1,by omega,by go_num,H4⟩
     case measure=>simp[intOf];omega
    ·have HP1:Hid ((K.take s).flatMap Z2=K.flatMap Z2):=hid (by rw[ai (by have:=HKR.out.1.len;omega)])
     rw[HP1.out]at H2
     have hX4:=Block.new wr 71 #[.int .i64 q,.slice A1 n3 c1,.slice A2 n3 c2,.slice A3 n3 c3]
     have HW:=hid (af (H2.out.1.alloc (.cells #[.int .i64 q,.slice A1 n3 c1,.slice A2 n3 c2,.slice A3 n3 c3] 71)) (af (H2.out.2.alloc H2.out.2.size (.cells #[.int .i64 q,.slice A1 n3 c1,.slice A2 n3 c2,.slice A3 n3 c3] 71)) hX4))
     clear hX4;go_upto_region 10 with fail
     clear cq g0 g1 g2 g3 g4;generalize wr.alloc (.cells #[.int .i64 q,.slice A1 n3 c1,.slice A2 n3 c2,.slice A3 n3 c3] 71)=w4 at HW⊢;obtain⟨xb,hxb⟩: ∃xb,wr.heap.size=xb:=⟨_,rfl⟩;rw[hxb]at HW⊢;clear hxb
     have KX:Hid (∀y:World,Below w4.heap.size w4 y->y.cell? ⟨xb,0,none⟩=some (.int .i64 q)/\y.cell? ⟨xb,1,none⟩=some (.slice A1 n3 c1)/\y.cell? ⟨xb,2,none⟩=some (.slice A2 n3 c2)/\y.cell? ⟨xb,3,none⟩=some (.slice A3 n3 c3)):=hid λy hy=>by
      have h:=HW.out.2.2.below hy HW.out.2.2.lt
      exact⟨h.cell 0,h.cell 1,h.cell 2,h.cell 3⟩
     obtain⟨x0,x1,x2,x3⟩:=KX.out w4 (Below.refl _ _);obtain⟨bq1,bq2,bq3⟩:=Uh HX.out
     have bq1:1<=q:=bq1
     have bq2:q<=1099511627776:=bq2
     have HBq:Hid (∀k,k<n3->inS (Su.getD k 0)/\inV (M.getD k 0)/\inV (X.getD k 0)):=hid bq3
     have hlP:(P0++K.flatMap Z2).length<=20000030:=by
      have h1:=HPl.out
      have h3:=Ji HKL.out
      rw[aa];omega
     have hst:=hid (Sj HW.out.1 HW.out.2.1 (x:=q) (by omega) (by omega) (by omega))
     have hq10:=V5 (x:=q) (by omega) (by omega)
     have HP2:Hid ((P0++K.flatMap Z2++Z2 q).length<=20000040):=hid (by rw[aa];omega)
     clear bq3 hlP hq10;go_wp2_with fail;refine hst.out.mono ?_;rintro e w5 ⟨v5,rfl,H5⟩;clear x0 x1 x2 x3 hst;obtain⟨P2,hP2⟩: ∃P2,Hid (P0++K.flatMap Z2++Z2 q=P2):=⟨_,hid rfl⟩;rw[hP2.out]at HP2 H5;go_wp2_with fail;go_loopw [5,9] (λv i wr=>∃s:Nat,s<=n3/\i=.int .i64 s/\Hid (Zc wr w.heap.size 5 v (P2++(ae s).flatMap (Uc Su M X))/\Below w.heap.size w wr/\Below w4.heap.size w4 wr)) (λ_ i _=>n3-(intOf i).toNat)
     case atStart=>exact⟨0,Nat.zero_le _,rfl,hid ⟨by simpa using H5.out.1,H5.out.2.1,H5.out.2.2⟩⟩
     case round=>
      obtain⟨s,hs,rfl,H6⟩:=hrel;obtain⟨x0,x1,x2,x3⟩:=KX.out _ H6.out.2.2
      by_cases hlm:s<n3
      ·obtain⟨b1,o1,y1,rfl,hb1,hc1,e1⟩:=HKR.out.2.1.Uy.at_ hlm
       obtain⟨b2,o2,y2,rfl,hb2,hc2,e2⟩:=HKR.out.2.2.1.Uy.at_ hlm;obtain⟨b3,o3,y3,rfl,hb3,hc3,e3⟩:=HKR.out.2.2.2.Uy.at_ hlm
       have KE:Hid (∀y:World,Below w.heap.size w y->y.cell? ⟨b1,o1+s,none⟩=some (.int .i64 y1)/\y.cell? ⟨b2,o2+s,none⟩=some (.int .i64 y2)/\y.cell? ⟨b3,o3+s,none⟩=some (.int .i64 y3)):=hid λy hy=>
        ⟨(hy.cell (p:=⟨b1,o1+s,none⟩) hb1).trans hc1,(hy.cell (p:=⟨b2,o2+s,none⟩) hb2).trans hc2,(hy.cell (p:=⟨b3,o3+s,none⟩) hb3).trans hc3⟩
       have hv:=HBq.out s hlm
       rw[<-e1,<-e2,<-e3]at hv;unfold inS inV at hv
       have HV:=hid hv
       have hl6:Hid ((P2++(ae s).flatMap (Uc Su M X)).length<=20000200):=hid (by
        have h1:=HP2.out
        have h2:=My HX.out s hs
        rw[aa];omega)
       have HM3:Hid (Uc Su M X s=Z2 y1++(Z2 y2++Z2 y3)):=hid (by unfold Uc;rw[<-e1,<-e2,<-e3])
       have i4:(0:Int)<=(s:Int):=by omega
       have i5:(s:Int)<(n3:Int):=by omega
       obtain⟨P6,hP6⟩: ∃P6,Hid (P2++(ae s).flatMap (Uc Su M X)=P6):=⟨_,hid rfl⟩;rw[hP6.out]at hl6 H6;obtain⟨k1,k2,k3⟩:=KE.out _ H6.out.2.1
       have l1:=hid (V5 (x:=y1) (by have:=HV.out;omega) (by have:=HV.out;omega))
       have l2:=hid (V5 (x:=y2) (by have:=HV.out;omega) (by have:=HV.out;omega))
       have hst:=hid (Sj H6.out.1 H6.out.2.1 (x:=y1) (by have:=HV.out;omega) (by have:=HV.out;omega) (by have:=hl6.out;omega))
       clear hc1 hc2 hc3 e1 e2 e3 hv;go_wp2_with fail;refine hst.out.mono ?_;rintro e w7 ⟨v7,rfl,H7⟩
       have B7:Hid (Below w4.heap.size w4 w7):=hid (H6.out.2.2.trans (H7.out.2.2.mono H6.out.2.2.size))
       clear x0 x1 x2 x3 k1 k2 k3 hst;obtain⟨x0,x1,x2,x3⟩:=KX.out _ B7.out;obtain⟨k1,k2,k3⟩:=KE.out _ H7.out.2.1
       have hst:=hid (Sj H7.out.1 H7.out.2.1 (x:=y2) (by have:=HV.out;omega) (by have:=HV.out;omega) (by have:=hl6.out;have:=l1.out;rw[aa];omega))
       go_wp2_with fail;refine hst.out.mono ?_;rintro e w8 ⟨v8,rfl,H8⟩
       have B8:Hid (Below w4.heap.size w4 w8):=hid (B7.out.trans (H8.out.2.2.mono B7.out.size))
       clear x0 x1 x2 x3 k1 k2 k3 hst;obtain⟨x0,x1,x2,x3⟩:=KX.out _ B8.out;obtain⟨k1,k2,k3⟩:=KE.out _ H8.out.2.1
       have hst:=hid (Sj H8.out.1 H8.out.2.1 (x:=y3) (by have:=HV.out;omega) (by have:=HV.out;omega) (by have:=hl6.out;have:=l1.out;have:=l2.out;rw[aa,aa];omega))
       go_wp2_with fail;refine hst.out.mono ?_;rintro e w9 ⟨v9,rfl,H9⟩
       have H10:Hid (Zc w9 w.heap.size 5 v9 (P2++(ae (s+1)).flatMap (Uc Su M X))/\Below w.heap.size w w9/\Below w4.heap.size w4 w9):=hid (by
        have h1:=H9.out.1
        rw[<-hP6.out,show P2++(ae s).flatMap (Uc Su M X)++Z2 y1++Z2 y2++Z2 y3=P2++(ae (s+1)).flatMap (Uc Su M X)by rw[Lw,HM3.out];simp]at h1
        exact⟨h1,H9.out.2.1,B8.out.trans (H9.out.2.2.mono B8.out.size)⟩)
       clear x0 x1 x2 x3 k1 k2 k3 hst;go_wp2_with fail;go_roundw
       case rel=>exact⟨s+1,by omega,by go_num,H10⟩
       case measure=>simp[intOf];omega
      ·have HF:Hid (Zc wr w.heap.size 5 u5 (I0++(C.take (t+1)).flatMap (Vr n3))/\Below w.heap.size w wr):=hid (by
        have h1:=H6.out.1
        have es:s=n3:=by omega
        rw[es,<-hP2.out,<-hP0.out,show I0++(C.take t).flatMap (Vr n3)++K.flatMap Z2++Z2 q++(ae n3).flatMap (Uc Su M X)=I0++(C.take (t+1)).flatMap (Vr n3)by rw[<-C8 hCj.out,ag];simp[Gp]]at h1
        exact⟨h1,H6.out.2.1⟩)
       go_wp2_with fail;go_roundw
       case rel=>exact⟨t+1,by omega,by go_num,HF⟩
       case measure=>simp[intOf];omega
  ·have HF:Hid (Zc wr w.heap.size 5 u5 (Pb++Yot m C)/\Below w.heap.size w wr):=hid (by
    have h1:=HO.out
    rw[ai (by have:=hCl.out;omega),<-hI0.out,show(n:Int)=(C.length:Int)by rw[hCl.out],ak]at h1
    exact h1)
   clear HO;go_wp2_with fail;go_ret;exact⟨_,rfl,HF.out.1,HF.out.2⟩
end Go.Proofs.YtmepdkdeanbbaaaGreat
