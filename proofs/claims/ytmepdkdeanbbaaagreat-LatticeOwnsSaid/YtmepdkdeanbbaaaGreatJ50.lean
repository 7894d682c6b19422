/- LatticeOwnsW, LatticeOwnsL -/
import Derived.Test.YtmepdkdeanbbaaaGreatJ49
import Derived.OpenShut
import Derived.ProofKit
import Derived.ShutString
namespace Go.Proofs.YtmepdkdeanbbaaaGreat
set_option maxRecDepth 100000
set_option maxHeartbeats 8000000
open Go.RowKit
open Proofs.Tryz renaming prog→aa,checked→ai,underlying27→aj,f9→ak,func9→an
open Nat renaming zero_le→ae,lt_of_lt_of_le→af,le_refl→ag
open Go.Lib (hid)
namespace latticeOwns
open Go.ChangeShapes Go.WideShapes Go.ChangeAt Go.RowKit
open Go.ChangeMaps (open_string shut_string)
set_option linter.unusedVariables false
theorem own:ownKnob aa.godebug=none:=by kernel_rfl
theorem laidOut:laidOutB aa=true:=by kernel_rfl
theorem walk(cs0:Array Value)(a1:Option Addr)(len1 cap1:Nat)(a2:Option Addr)(len2 cap2:Nat)(w:World)(w0:RC aa w 26 cs0.toList)(w1:RC aa w 27 [.slice a1 len1 cap1])(w2:RC aa w 27 [.slice a2 len2 cap2]):
  Calls aa 9 #[.agg cs0,.slice a1 len1 cap1,.slice a2 len2 cap2] w λe w'=>e=.returned (.bool true)/\Below w.heap.size w w':=by
 obtain⟨L,hL⟩:=Yag w1
 have KL:Hid (∀y,Below w.heap.size w y->Row Yg7 1 y (λb=>b<w.heap.size) a1 len1 cap1 L):=hid λy hy=>hL.mv E8 (Mv.below hy λb hb=>hb)
 have hlm:=hL.Ym
 clear w1 hL;obtain⟨LM,hLM⟩:=Yag w2
 have KM:Hid (∀y,Below w.heap.size w y->Row Yg7 1 y (λb=>b<w.heap.size) a2 len2 cap2 LM):=hid λy hy=>hLM.mv E8 (Mv.below hy λb hb=>hb)
 have hlm2:=hLM.Ym
 clear w2 hLM;obtain⟨A1,n1,c1,A2,n2,c2,A3,n3,c3,D,M,V,es,hS,hf,hm⟩:=Yt1 w0;obtain rfl:cs0=#[.slice A1 n1 c1,.slice A2 n2 c2,.slice A3 n3 c3]:=by rw[<-Array.toArray_toList (xs:=cs0),es]
 clear w0 es
 have hb0:=Yb w (.cells #[.slice A1 n1 c1,.slice A2 n2 c2,.slice A3 n3 c3] 26)
 have hX:=Block.new w 26 #[.slice A1 n1 c1,.slice A2 n2 c2,.slice A3 n3 c3]
 have HSM:=hid (Ymc (hS.Yc hb0).has)
 have HS0:=hid hS
 have HfD:=hid hf
 have HfM:=hid hm
 clear hS hf hm;go_enter an,Tryz.ntmps9;go_wp2_with fail;generalize w.alloc (.cells #[.slice A1 n1 c1,.slice A2 n2 c2,.slice A3 n3 c3] 26)=w1 at hb0 hX HSM⊢;refine HSM.out.mono ?_;rintro e w2 ⟨rfl,hb2⟩
 have hX2:=hX.below hb2 hX.lt
 have x0:w2.cell? ⟨w.heap.size,0,none⟩=some (.slice A1 n1 c1):=hX2.cell 0
 have x1:w2.cell? ⟨w.heap.size,1,none⟩=some (.slice A2 n2 c2):=hX2.cell 1
 have x2:w2.cell? ⟨w.heap.size,2,none⟩=some (.slice A3 n3 c3):=hX2.cell 2
 have f0:=hX2.free 0
 have f1:=hX2.free 1
 have f2:=hX2.free 2
 have hX3:=((hX2.Ys 0 (.slice A1 (min n1 6) c1)).Ys 1 (.slice A2 (min n2 6) c2)).Ys 2 (.slice A3 (min n3 9) c3)
 have hB3:=(((hb0.trans (hb2.mono hb0.size)).setCell (p:=⟨w.heap.size,0,none⟩) (ag _) (.slice A1 (min n1 6) c1)).setCell (p:=⟨w.heap.size,1,none⟩) (ag _) (.slice A2 (min n2 6) c2)).setCell (p:=⟨w.heap.size,2,none⟩) (ag _) (.slice A3 (min n3 9) c3)
 obtain⟨N1,hN1⟩: ∃N1,min n1 6=N1:=⟨_,rfl⟩;obtain⟨N2,hN2⟩: ∃N2,min n2 6=N2:=⟨_,rfl⟩;obtain⟨N3,hN3⟩: ∃N3,min n3 9=N3:=⟨_,rfl⟩
 have l1:N1<=6:=by omega
 have l3:N3<=9:=by omega
 rw[hN1,hN2,hN3]at hX3 hB3;rw[hN1,hN2,hN3]
 have hSt:=hid (show Vw w (λb=>b<w.heap.size) A1 N1 c1 A2 N2 c2 A3 N3 c3 (D.take 6) (M.take 6) (V.take 9)from by
  rw[<-hN1,<-hN2,<-hN3];exact⟨HS0.out.d.Yqx 6,HS0.out.m.Yqx 6,HS0.out.v.Yqx 9⟩)
 have HfD6:Hid (L5 (D.take 6)):=hid λd hd=>HfD.out d (List.mem_of_mem_take hd)
 have HfM6:Hid (∀s∈M.take 6,s.length<=maxLen):=hid λs hs=>HfM.out s (List.mem_of_mem_take hs)
 clear HSM hX hb0 hb2 hX2 hN1 hN2 hN3 HfD HfM HS0;generalize D.take 6=D' at hSt HfD6;generalize M.take 6=M' at hSt HfM6;generalize V.take 9=V' at hSt;go_wp2_with fail;clear x0 x1 x2 f0 f1 f2;generalize ((w2.setCell ⟨w.heap.size,0,none⟩ (.slice A1 N1 c1)).setCell ⟨w.heap.size,1,none⟩ (.slice A2 N2 c2)).setCell ⟨w.heap.size,2,none⟩ (.slice A3 N3 c3)=w3 at hX3 hB3⊢
 have HB3:=hid hB3
 have HS3:=hid (show Vw w3 (λb=>b<w.heap.size) A1 N1 c1 A2 N2 c2 A3 N3 c3 D' M' V' from hSt.out.mv (Mv.below hB3 λb hb=>hb))
 have KX:Hid (∀y,Below w3.heap.size w3 y->y.cell? ⟨w.heap.size,0,none⟩=some (.slice A1 N1 c1)/\y.cell? ⟨w.heap.size,1,none⟩=some (.slice A2 N2 c2)/\y.cell? ⟨w.heap.size,2,none⟩=some (.slice A3 N3 c3)):=hid λy hy=>by
  have h:=hX3.below hy hX3.lt
  exact⟨h.cell 0,h.cell 1,h.cell 2⟩
 obtain⟨x0,x1,x2⟩:=KX.out w3 (Below.refl _ _);clear hX3 hB3 hSt
 by_cases hmay:Wk D' M' V'
 ·have hz3:w.heap.size<=w3.heap.size:=HB3.out.size
  have HS33:=hid (show Vw w3 (λb=>b<w3.heap.size) A1 N1 c1 A2 N2 c2 A3 N3 c3 D' M' V' from HS3.out.mv (Mv.to w3 λb hb _=>af hb hz3))
  have HL33:=hid (show Row Yg7 1 w3 (λb=>b<w3.heap.size) a1 len1 cap1 L from(KL.out w3 HB3.out).mv E8 (Mv.to w3 λb hb _=>af hb hz3))
  have HBo:=hid (Ykt HS33.out HfD6.out HfM6.out (by omega) HL33.out (mo:=8) (by decide) hmay)
  go_wp2_with fail;refine HBo.out.mono ?_;rintro e w4 ⟨g,r,F,R,G,Qs,rfl,hT,hGl,hb4⟩
  have HB34:=hid hb4
  have HB4:=hid (Ya HB3.out hb4)
  have HT:=hid hT
  clear hb4 hT HBo x0 x1 x2
  have HCp:=hid (Yo3 HT.out.l)
  go_wp2_with fail;refine HCp.out.mono ?_;rintro e w5 ⟨gc,Fc,rfl,hLc,hb5⟩
  have HB45:=hid hb5
  have HLc:=hid hLc
  clear hb5 HCp hLc;go_wp2_with fail;go_loopw [11] (λi wr=>∃k:Nat,k<=len2/\k<=8/\i=.int .i64 k/\Hid (∃F' E' Qs',LSt wr gc F' R w4.heap.size D' M' V' E' Qs')/\Below w4.heap.size w4 wr) (λi _=>len2-(intOf i).toNat)
  case atStart=>exact⟨0,ae _,ae _,rfl,hid ⟨_,_,_,HLc.out⟩,HB45.out⟩
  case round=>
   obtain⟨k,hk,hk8,rfl,hO,hB⟩:=hrel;go_upto_region 11 with fail
   go_cut [47] (λc wx=>wr=wx/\((c=.bool true/\k<len2/\k<8)∨(c=.bool false/\¬(k<len2/\k<8))))
   case first=>
    by_cases h1:k<len2
    ·have h1i:(k:Int)<(len2:Int):=by omega
     by_cases h2:k<8
     ·have h2i:(k:Int)<8:=by omega
      go_wp2_with fail;go_meet;exact⟨rfl,.inl ⟨rfl,h1,h2⟩⟩
     ·have h2i:¬(k:Int)<8:=by omega
      go_wp2_with fail;go_meet;exact⟨rfl,.inr ⟨rfl,λh=>h2 h.2⟩⟩
    ·have h1i:¬(k:Int)<(len2:Int):=by omega
     go_wp2_with fail;go_meet;exact⟨rfl,.inr ⟨rfl,λh=>h1 h.1⟩⟩
   case rest=>
    obtain⟨rfl,hc⟩:=hcut
    rcases hc with⟨rfl,hlt,hlt8⟩|⟨rfl,hno⟩
    ·obtain⟨F',E',Qs',hst⟩:=hO.out
     have hBw:Below w.heap.size w wr:=Ya HB4.out hB
     obtain⟨b,o,A',n',c',G',rfl,hbl,_,gk,hG,_⟩:=(KM.out w (Below.refl _ _)).at1 hlt
     have gk:=(hBw.cell (p:=⟨b,o+k,none⟩) hbl).trans gk
     have i0:(0:Int)<=(k:Int):=by omega
     have i1:(k:Int)<(len2:Int):=by omega
     have hz4:=HB4.out.size
     have HA:=hid (Bf hst hB.size (hG.mv Y3 (Mv.below hBw λb hb=>hb)) (λb hb hf=>by have h1:=hst.low b hf;have hb:b<w.heap.size:=hb;omega))
     have HST:=hid hst
     clear hst hO hG hBw;go_wp2_with fail;refine HA.out.mono ?_;rintro e w6 ⟨rfl,F6,hs6,hc6,hf6⟩
     have HB6:=hid (hB.trans (hc6.below hB.size λq hq=>HST.out.low q hq))
     have HS6:=hid hs6
     clear hs6 hc6 hf6 HA;go_wp2_with fail;go_roundw
     case rel=>exact⟨k+1,by omega,by omega,by go_num,hid ⟨_,_,_,HS6.out⟩,HB6.out⟩
     case measure=>simp[intOf];omega
    ·have HT6:=hid (HT.out.below hB)
     have HR:=hid (Yb9 (i:=0) (v:=Yn D') HT6.out.l rfl)
     rw[show((0:Nat):Int)=0 from rfl]at HR
     obtain⟨w6,hw6⟩: ∃w6,w6=wr:=⟨_,rfl⟩;rw[<-hw6]at hB HR HT6⊢;clear hw6 hO;go_wp2_with fail;refine HR.out.mono ?_;rintro e w7 ⟨Lr,_,⟨A7,c7,rfl,hr7⟩,hb7⟩
     have hr8:=hr7.Ym
     obtain⟨nr,hnr⟩: ∃nr,Lr.length=nr:=⟨_,rfl⟩;rw[hnr]at hr7 hr8⊢
     have HO7:=hid (show Ce w6 w6.heap.size A7 nr w7 from⟨Yvw hr7 λk hk=>hk,hb7⟩)
     clear hr7 hb7 hnr HR HT6;go_wp2_with fail;go_loopw [14] (λi wr=>∃k:Nat,k<=nr/\i=.int .i64 k/\Hid (Ce w6 w6.heap.size A7 nr wr)) (λi _=>nr-(intOf i).toNat)
     case atStart=>exact⟨0,ae _,rfl,HO7⟩
     case round=>
      obtain⟨i,hi,rfl,HO⟩:=hrel
      by_cases hlt:i<nr
      ·obtain⟨g1,o1,A0,n0,c0,A1,m1,d1,rfl,e0,e1,l0,l1,_,_⟩:=HO.out.r i hlt
       have i0:(0:Int)<=(i:Int):=by omega
       have i1:(i:Int)<(nr:Int):=by omega
       obtain⟨wI,hwI⟩: ∃wI,wI=wr:=⟨_,rfl⟩;rw[<-hwI]at HO e0 e1⊢;clear hwI
       have KI:Hid (∀y,SlK wI y->y.cell? ⟨g1,o1+i*5,none⟩=some (.slice A0 n0 c0)/\y.cell? ⟨g1,o1+i*5+2,none⟩=some (.slice A1 m1 d1)):=hid λy hy=>⟨hy _ _ _ _ e0,hy _ _ _ _ e1⟩
       clear e0 e1;go_wp2_with fail;go_loopw [15] (λk wr=>∃t:Nat,t<=n0/\k=.int .i64 t/\Hid (Ce w6 w6.heap.size (some ⟨g1,o1,none⟩) nr wr/\SlK wI wr)) (λk _=>n0-(intOf k).toNat)
       case atStart=>exact⟨0,ae _,rfl,hid ⟨HO.out,SlK.refl _⟩⟩
       case round=>
        obtain⟨t,ht,rfl,HJ⟩:=hrel
        by_cases htn:t<n0
        ·have q0:=(KI.out wr HJ.out.2).1
         obtain⟨g2,o2,P,np,cp,rfl,e2,l2,_⟩:=(HJ.out.1.r.key hlt q0) t htn
         have t0:(0:Int)<=(t:Int):=by omega
         have t1:(t:Int)<(n0:Int):=by omega
         obtain⟨wJ,hwJ⟩: ∃wJ,wJ=wr:=⟨_,rfl⟩;rw[<-hwJ]at HJ q0 e2⊢;clear hwJ
         have KJ:Hid (∀y,SlK wJ y->y.cell? ⟨g2,o2+t,none⟩=some (.slice P np cp)):=hid λy hy=>hy _ _ _ _ e2
         clear e2;go_wp2_with fail;go_loopw [16] (λk wr=>∃j:Nat,j<=np/\k=.int .i64 j/\Hid (Ce w6 w6.heap.size (some ⟨g1,o1,none⟩) nr wr/\SlK wI wr/\SlK wJ wr)) (λk _=>np-(intOf k).toNat)
         case atStart=>exact⟨0,ae _,rfl,hid ⟨HJ.out.1,HJ.out.2,SlK.refl _⟩⟩
         case round=>
          obtain⟨j,hj,rfl,HK⟩:=hrel
          have q0:=(KI.out wr HK.out.2.1).1
          have q2:=KJ.out wr HK.out.2.2
          by_cases hjn:j<np
          ·obtain⟨g3,o3,u3,rfl,hb3,e3,f3,hu3⟩:=((HK.out.1.r.key hlt q0).get htn q2) j hjn
           have j0:(0:Int)<=(j:Int):=by omega
           have j1:(j:Int)<(np:Int):=by omega
           have H2:=hid (And.intro (HK.out.1.str e3 hu3 hb3 ⟨#[122,122]⟩) (And.intro (HK.out.2.1.Ys (v:=.string ⟨#[122,122]⟩) e3 (Yhg hu3)) (HK.out.2.2.Ys (v:=.string ⟨#[122,122]⟩) e3 (Yhg hu3))))
           go_wp2_with fail;go_roundw
           case rel=>exact⟨j+1,by omega,by go_num,H2⟩
           case measure=>simp[intOf];omega
          ·go_wp2_with fail
           go_roundw
           case rel=>exact⟨t+1,by omega,by go_num,hid ⟨HK.out.1,HK.out.2.1⟩⟩
           case measure=>simp[intOf];omega
        ·have q0:=(KI.out wr HJ.out.2).1
         go_wp2_with fail;go_loopw [17] (λk wr=>∃j:Nat,j<=m1/\k=.int .i64 j/\Hid (Ce w6 w6.heap.size (some ⟨g1,o1,none⟩) nr wr/\SlK wI wr)) (λk _=>m1-(intOf k).toNat)
         case atStart=>exact⟨0,ae _,rfl,HJ⟩
         case round=>
          obtain⟨j,hj,rfl,HK⟩:=hrel
          have q1:=(KI.out wr HK.out.2).2
          by_cases hjn:j<m1
          ·obtain⟨g3,o3,u3,rfl,hb3,e3,f3,hu3⟩:=(HK.out.1.r.Yxg hlt q1) j hjn
           have j0:(0:Int)<=(j:Int):=by omega
           have j1:(j:Int)<(m1:Int):=by omega
           have H2:=hid (And.intro (HK.out.1.int e3 hu3 hb3 77) (HK.out.2.Ys (v:=.int .i64 77) e3 (Yrj hu3)))
           go_wp2_with fail;go_roundw
           case rel=>exact⟨j+1,by omega,by go_num,H2⟩
           case measure=>simp[intOf];omega
          ·go_wp2_with fail
           go_roundw
           case rel=>exact⟨i+1,by omega,by go_num,hid HK.out.1⟩
           case measure=>simp[intOf];omega
      ·have HB48:=hid (hB.trans (HO.out.bel.mono hB.size))
       have HT8:=hid (HT.out.below HB48.out)
       obtain⟨Cs,hLt,_⟩:=HT8.out.l.ex
       have HSc:=hid (Ygp hLt)
       clear hLt;obtain⟨w8,hw8⟩: ∃w8,w8=wr:=⟨_,rfl⟩;rw[<-hw8]at HSc HT8 HB48⊢;clear hw8;go_wp2_with fail;refine HSc.out.mono ?_;rintro e w9 ⟨⟨v1,v2,v3,rfl,hO⟩,hb9⟩;obtain⟨B1,d1,rfl,l1,hd⟩:=Yvq (base:=w8.heap.size) hO.d (ag _);obtain⟨B3,d3,rfl,l3,hv⟩:=Ylw (base:=w8.heap.size) Yu8 hO.v (λk hk=>hk)
       obtain⟨_,_,B2,d2,_,_,_,e2,_,_⟩:=hO.read;subst e2
       have hap:∀{g o g' o':Nat},B1=some ⟨g,o,none⟩→B3=some ⟨g',o',none⟩→g≠g':=λh1 h3=>Yrw hO h1 h3
       have hD:=HS3.out.d.len
       have hM:=HS3.out.m.len
       have hV:=HS3.out.v.len
       rw[hD]at hd l1;rw[hV]at hv l3;rw[hD,hM,hV]
       have hbk:=Block.new w9 26 #[.slice none 0 0,.slice none 0 0,.slice none 0 0]
       have y0:(w9.alloc (.cells #[.slice none 0 0,.slice none 0 0,.slice none 0 0] 26)).cell? ⟨w9.heap.size,0,none⟩=some (.slice none 0 0):=hbk.cell 0
       have y1:(w9.alloc (.cells #[.slice none 0 0,.slice none 0 0,.slice none 0 0] 26)).cell? ⟨w9.heap.size,1,none⟩=some (.slice none 0 0):=hbk.cell 1
       have y2:(w9.alloc (.cells #[.slice none 0 0,.slice none 0 0,.slice none 0 0] 26)).cell? ⟨w9.heap.size,2,none⟩=some (.slice none 0 0):=hbk.cell 2
       have f0:=hbk.free 0
       have f1:=hbk.free 1
       have f2:=hbk.free 2
       have hbk3:=Block.new w9 26 #[.slice B1 N1 d1,.slice B2 N2 d2,.slice B3 N3 d3]
       have hb10:=Yb w9 (.cells #[.slice B1 N1 d1,.slice B2 N2 d2,.slice B3 N3 d3] 26)
       have hlow:0<N1->∀{g o:Nat},B1=some ⟨g,o,none⟩→g<w9.heap.size:=λhn _ _ e=>hd.low hn e
       have HOZ:=hid (show Ya2 w8 w8.heap.size B1 N1 B3 N3 w9.heap.size (.slice B1 N1 d1) (.slice B3 N3 d3) (w9.alloc (.cells #[.slice B1 N1 d1,.slice B2 N2 d2,.slice B3 N3 d3] 26))from
        ⟨hd.below hb10,hv.below hb10,hbk3.cell 0,hbk3.cell 2,hb9.trans (hb10.mono hb9.size)⟩)
       have hN1:N1<=9223372036854775807:=by omega
       have hN3:N3<=9223372036854775807:=by omega
       clear hO hb9 HSc hD hM hV hbk hd hv hbk3 hb10;go_upto_region 30 with fail
       clear y0 y1 y2 f0 f1 f2;generalize w9.alloc (.cells #[.slice B1 N1 d1,.slice B2 N2 d2,.slice B3 N3 d3] 26)=w10 at HOZ⊢;go_wp2_with fail;go_loopw [19] (λi wr=>∃k:Nat,k<=N1/\i=.int .i64 k/\Hid (Ya2 w8 w8.heap.size B1 N1 B3 N3 w9.heap.size (.slice B1 N1 d1) (.slice B3 N3 d3) wr)) (λi _=>N1-(intOf i).toNat)
       case atStart=>exact⟨0,ae _,rfl,HOZ⟩
       case round=>
        obtain⟨k,hk,rfl,HO⟩:=hrel
        have z0:=HO.out.t0
        by_cases hlt:k<N1
        ·obtain⟨g3,o3,u3,P,np,cp,rfl,hb3,e3,hu3,e4,f3,f4⟩:=HO.out.d k hlt
         have i0:(0:Int)<=(k:Int):=by omega
         have i1:(k:Int)<(N1:Int):=by omega
         have hne:g3≠w9.heap.size:=Nat.ne_of_lt (hlow (by omega) rfl)
         have H2:=hid (HO.out.dim (λg' o' e=>hap rfl e) hne hb3 hu3 e3 e4 ⟨#[]⟩)
         go_wp2_with fail;go_roundw
         case rel=>exact⟨k+1,by omega,by go_num,H2⟩
         case measure=>simp[intOf];omega
        ·have HO:=HO
         go_wp2_with fail;go_loopw [20] (λi wr=>∃k:Nat,k<=N3/\i=.int .i64 k/\Hid (Ya2 w8 w8.heap.size B1 N1 B3 N3 w9.heap.size (.slice B1 N1 d1) (.slice B3 N3 d3) wr)) (λi _=>N3-(intOf i).toNat)
         case atStart=>exact⟨0,ae _,rfl,HO⟩
         case round=>
          obtain⟨k,hk,rfl,HO⟩:=hrel
          have z2:=HO.out.t2
          by_cases hlt:k<N3
          ·obtain⟨g2,o2,P,np,cp,rfl,e2,l2,_⟩:=HO.out.v k hlt
           have i0:(0:Int)<=(k:Int):=by omega
           have i1:(k:Int)<(N3:Int):=by omega
           obtain⟨wJ,hwJ⟩: ∃wJ,wJ=wr:=⟨_,rfl⟩;rw[<-hwJ]at HO e2 z2⊢;clear hwJ;go_wp2_with fail;go_loopw [21] (λi wr=>∃j:Nat,j<=np/\i=.int .i64 j/\Hid (Ya2 w8 w8.heap.size B1 N1 (some ⟨g2,o2,none⟩) N3 w9.heap.size (.slice B1 N1 d1) (.slice (some ⟨g2,o2,none⟩) N3 d3) wr/\SlK wJ wr)) (λi _=>np-(intOf i).toNat)
           case atStart=>exact⟨0,ae _,rfl,hid ⟨HO.out,SlK.refl _⟩⟩
           case round=>
            obtain⟨j,hj,rfl,HJ⟩:=hrel
            have z2:=HJ.out.1.t2
            have q2:=HJ.out.2 _ _ _ _ e2
            by_cases hjn:j<np
            ·obtain⟨g3,o3,u3,rfl,hb3,e3,f3,hu3⟩:=(HJ.out.1.v.get hlt q2) j hjn
             have j0:(0:Int)<=(j:Int):=by omega
             have j1:(j:Int)<(np:Int):=by omega
             have H2:=hid (And.intro (HJ.out.1.int e3 hu3 hb3 77) (HJ.out.2.Ys (v:=.int .i64 77) e3 (Yrj hu3)))
             clear e2;go_wp2_with fail;go_roundw
             case rel=>exact⟨j+1,by omega,by go_num,H2⟩
             case measure=>simp[intOf];omega
            ·clear e2
             go_wp2_with fail;go_roundw
             case rel=>exact⟨k+1,by omega,by go_num,hid HJ.out.1⟩
             case measure=>simp[intOf];omega
          ·have HLk:=hid (Yjz (HT8.out.below HO.out.bel) (by omega))
           have HB10:=hid (HB48.out.trans (HO.out.bel.mono HB48.out.size))
           go_wp2_with fail;refine HLk.out.mono ?_;rintro e w11 ⟨rfl,hb11⟩
           have HB11:=hid (Ya HB4.out (HB10.out.trans (hb11.mono HB10.out.size)))
           clear hb11 HLk;go_wp2_with fail;refine(Jq _).mono ?_;rintro y wz ⟨rfl,hBz⟩
           have HBz:=hid (Ya HB11.out hBz)
           clear hBz;go_wp2_with fail;go_ret;exact⟨rfl,HBz.out⟩
 ·have hz3:w.heap.size<=w3.heap.size:=HB3.out.size
  have HS33:=hid (show Vw w3 (λb=>b<w3.heap.size) A1 N1 c1 A2 N2 c2 A3 N3 c3 D' M' V' from HS3.out.mv (Mv.to w3 λb hb _=>af hb hz3))
  have HBo:=hid (Ynt HS33.out HfD6.out HfM6.out (by omega) (by omega) (.slice a1 len1 cap1) 8 hmay)
  go_wp2_with fail;refine HBo.out.mono ?_;rintro e w4 ⟨rfl,hb4⟩
  have HB4:=hid (Ya HB3.out hb4)
  clear hb4 HBo x0 x1 x2;go_wp2_with fail;refine(Jq _).mono ?_;rintro y wz ⟨rfl,hBz⟩
  have HBz:=hid (Ya HB4.out hBz)
  clear hBz;go_wp2_with fail;go_ret;exact⟨rfl,HBz.out⟩
end latticeOwns
namespace latticeOwns
open Go.ChangeShapes Go.WideShapes Go.ChangeAt Go.RowKit
open Go.ChangeMaps (open_string shut_string)
set_option linter.unusedVariables false
theorem lifted(os:Os)(started:os.Started)(H:Type)(enc:TypeId×Value->H):
  ReturnsInHanded {} ai os 9 .any (Rows.latticeOwnsSpec.pre6 enc aa ak Rows.latticeOwnsRow.domain false) (Rows.latticeOwnsSpec.post enc aa ak false true false false):=by
 refine returnsInHanded_of_change (C:=ai) own started (by kernel_rfl) an
  (ChangeSpec.witness6 (enc:=enc) (C:=ai) false ⟨#[],#[.agg #[.slice none 0 0,.slice none 0 0,.slice none 0 0],.slice none 0 0,.slice none 0 0],[]⟩ 8 (by kernel_rfl) (by kernel_rfl) (by kernel_rfl) (by kernel_rfl)) ?_
 intro W base args ds gs before hval0 hW hcnd _
 have hval:∀(j:Nat) t v,ak.params[j]?=some t->args[j]?=some v->Value.okWide aa W .any base t v:=hval0
 have hW':=hW
 obtain⟨p,q,hA0,hV,rfl,hfz,hnd⟩:=hW
 have hA:DataW.TrodAll enc aa W 0 (λ_=>true) true ak.params.toList args.toList ds p:=hA0
 rw[Tryz.params9]at hA hval;obtain⟨v0,vs0,d0,ds0,p0,q0,hargs,rfl,rfl,h0,r0⟩:=trodAll_cons hA;obtain⟨v1,vs1,d1,ds1,p1,q1,rfl,rfl,rfl,h1,r1⟩:=trodAll_cons r0;obtain⟨v2,vs2,d2,ds2,p2,q2,rfl,rfl,rfl,h2,r2⟩:=trodAll_cons r1;obtain⟨rfl,rfl,rfl⟩:=trodAll_nil r2;obtain rfl:args=#[v0,v1,v2]:=by cases args;simp_all
 obtain⟨rfl,rfl⟩:=trodVars_none hV;obtain⟨cs0,rfl,hsz0⟩:=okWide_struct Tryz.underlying26 (hval 0 26 v0 rfl rfl)
 have k0:=h0
 have lt0:∀x∈p0,x.block<W.heap.size:=by obtain⟨m,hm⟩:=k0;exact DataW.trod_lt m _ _ _ hm
 have w0:RC aa W 26 cs0.toList:=by
  obtain⟨fuel,hf⟩:=h0;exact⟨_,_,_,_,_,fuel,_,by simpa[Value.cells]using hf⟩
 obtain⟨a1,len1,cap1,rfl⟩:=okWide_slice aj (hval 1 27 v1 rfl rfl)
 have k1:=h1
 have lt1:∀x∈p1,x.block<W.heap.size:=by obtain⟨m,hm⟩:=k1;exact DataW.trod_lt m _ _ _ hm
 have w1:RC aa W 27 [.slice a1 len1 cap1]:=by
  obtain⟨fuel,hf⟩:=h1;exact⟨_,_,_,_,_,fuel,_,hf⟩
 obtain⟨a2,len2,cap2,rfl⟩:=okWide_slice aj (hval 2 27 v2 rfl rfl)
 have k2:=h2
 have lt2:∀x∈p2,x.block<W.heap.size:=by obtain⟨m,hm⟩:=k2;exact DataW.trod_lt m _ _ _ hm
 have w2:RC aa W 27 [.slice a2 len2 cap2]:=by
  obtain⟨fuel,hf⟩:=h2;exact⟨_,_,_,_,_,fuel,_,hf⟩
 clear hA0 hval0;refine(walk cs0 a1 len1 cap1 a2 len2 cap2 W w0 w1 w2).mono λe W' ⟨he,bel⟩=>?_
 subst he;exact⟨_,rfl,_,_,_,[],_,[],hW',trodAll_mk1 (shut_bool Tryz.underlying4 _),(trodAll_cons_mk (Below.trod laidOut (by kernel_rfl) (of_decide_eq_true (by kernel_rfl)) k0 bel lt0) (trodAll_cons_mk (Below.trod laidOut (by kernel_rfl) (of_decide_eq_true (by kernel_rfl)) k1 bel lt1) (trodAll_cons_mk (Below.trod laidOut (by kernel_rfl) (of_decide_eq_true (by kernel_rfl)) k2 bel lt2) trodAll_mk0))),rfl,bel.frame _,λh=>by cases h⟩
end latticeOwns
end Go.Proofs.YtmepdkdeanbbaaaGreat
