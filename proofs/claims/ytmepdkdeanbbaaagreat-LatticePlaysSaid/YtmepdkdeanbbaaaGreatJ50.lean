/- LatticePlaysW, LatticePlaysL -/
import Derived.Test.YtmepdkdeanbbaaaGreatJ49
import Derived.OpenShut
import Derived.ProofKit
import Derived.ShutString
namespace Go.Proofs.YtmepdkdeanbbaaaGreat
set_option maxRecDepth 100000
set_option maxHeartbeats 8000000
open Go.RowKit
open Proofs.Tryz renaming prog→aa,checked→af,f3→ai,func3→aj
open Nat renaming lt_of_lt_of_le→ae,le_refl→ag
open Go.Lib (hid)
namespace latticePlays
open Go.ChangeShapes Go.WideShapes Go.ChangeAt Go.RowKit
open Go.ChangeMaps (open_string shut_string)
set_option linter.unusedVariables false
theorem own:ownKnob aa.godebug=none:=by kernel_rfl
theorem laidOut:laidOutB aa=true:=by kernel_rfl
theorem walk(cs0:Array Value)(a1:Option Addr)(len1 cap1:Nat)(w:World)(w0:RC aa w 26 cs0.toList)(w1:RC aa w 27 [.slice a1 len1 cap1]):
  Calls aa 3 #[.agg cs0,.slice a1 len1 cap1] w λe w'=>e=.returned (.bool true)/\Below w.heap.size w w':=by
 obtain⟨L,hL⟩:=Yja w1
 have KL:Hid (∀y,Below w.heap.size w y->Row Yiy 1 y (λb=>b<w.heap.size) a1 len1 cap1 L):=hid λy hy=>hL.mv Ycw (Mv.below hy λb hb=>hb)
 have hlm:=hL.Ym
 clear w1 hL;obtain⟨A1,n1,c1,A2,n2,c2,A3,n3,c3,D,M,V,es,hS,hf,hm⟩:=Yti w0;obtain rfl:cs0=#[.slice A1 n1 c1,.slice A2 n2 c2,.slice A3 n3 c3]:=by rw[<-Array.toArray_toList (xs:=cs0),es]
 clear w0 es
 have hb0:=Yb w (.cells #[.slice A1 n1 c1,.slice A2 n2 c2,.slice A3 n3 c3] 26)
 have hX:=Block.new w 26 #[.slice A1 n1 c1,.slice A2 n2 c2,.slice A3 n3 c3]
 have HSM:=hid (Ymc (hS.Yc hb0).has)
 have HS0:=hid hS
 have HfD:=hid hf
 have HfM:=hid hm
 clear hS hf hm;go_enter aj,Tryz.ntmps3;go_wp2_with fail;generalize w.alloc (.cells #[.slice A1 n1 c1,.slice A2 n2 c2,.slice A3 n3 c3] 26)=w1 at hb0 hX HSM⊢;refine HSM.out.mono ?_;rintro e w2 ⟨rfl,hb2⟩
 have hX2:=hX.below hb2 hX.lt
 have x0:w2.cell? ⟨w.heap.size,0,none⟩=some (.slice A1 n1 c1):=hX2.cell 0
 have x1:w2.cell? ⟨w.heap.size,1,none⟩=some (.slice A2 n2 c2):=hX2.cell 1
 have x2:w2.cell? ⟨w.heap.size,2,none⟩=some (.slice A3 n3 c3):=hX2.cell 2
 have f0:=hX2.free 0
 have f1:=hX2.free 1
 have f2:=hX2.free 2
 have hX3:=((hX2.Yz 0 (.slice A1 (min n1 6) c1)).Yz 1 (.slice A2 (min n2 6) c2)).Yz 2 (.slice A3 (min n3 9) c3)
 have hB3:=(((hb0.trans (hb2.mono hb0.size)).setCell (p:=⟨w.heap.size,0,none⟩) (ag _) (.slice A1 (min n1 6) c1)).setCell (p:=⟨w.heap.size,1,none⟩) (ag _) (.slice A2 (min n2 6) c2)).setCell (p:=⟨w.heap.size,2,none⟩) (ag _) (.slice A3 (min n3 9) c3)
 obtain⟨N1,hN1⟩: ∃N1,min n1 6=N1:=⟨_,rfl⟩;obtain⟨N2,hN2⟩: ∃N2,min n2 6=N2:=⟨_,rfl⟩;obtain⟨N3,hN3⟩: ∃N3,min n3 9=N3:=⟨_,rfl⟩
 have l1:N1<=6:=by omega
 have l3:N3<=9:=by omega
 rw[hN1,hN2,hN3]at hX3 hB3;rw[hN1,hN2,hN3]
 have hSt:=hid (show Vr w (λb=>b<w.heap.size) A1 N1 c1 A2 N2 c2 A3 N3 c3 (D.take 6) (M.take 6) (V.take 9)from by
  rw[<-hN1,<-hN2,<-hN3];exact⟨HS0.out.d.Yp3 6,HS0.out.m.Yp3 6,HS0.out.v.Yp3 9⟩)
 have HfD6:Hid (Lz (D.take 6)):=hid λd hd=>HfD.out d (List.mem_of_mem_take hd)
 have HfM6:Hid (∀s∈M.take 6,s.length<=maxLen):=hid λs hs=>HfM.out s (List.mem_of_mem_take hs)
 clear HSM hX hb0 hb2 hX2 hN1 hN2 hN3 HfD HfM HS0;generalize D.take 6=D' at hSt HfD6;generalize M.take 6=M' at hSt HfM6;generalize V.take 9=V' at hSt;go_wp2_with fail;clear x0 x1 x2 f0 f1 f2;generalize ((w2.setCell ⟨w.heap.size,0,none⟩ (.slice A1 N1 c1)).setCell ⟨w.heap.size,1,none⟩ (.slice A2 N2 c2)).setCell ⟨w.heap.size,2,none⟩ (.slice A3 N3 c3)=w3 at hX3 hB3⊢
 have HB3:=hid hB3
 have HS3:=hid (show Vr w3 (λb=>b<w.heap.size) A1 N1 c1 A2 N2 c2 A3 N3 c3 D' M' V' from hSt.out.mv (Mv.below hB3 λb hb=>hb))
 have KX:Hid (∀y,Below w3.heap.size w3 y->y.cell? ⟨w.heap.size,0,none⟩=some (.slice A1 N1 c1)/\y.cell? ⟨w.heap.size,1,none⟩=some (.slice A2 N2 c2)/\y.cell? ⟨w.heap.size,2,none⟩=some (.slice A3 N3 c3)):=hid λy hy=>by
  have h:=hX3.below hy hX3.lt
  exact⟨h.cell 0,h.cell 1,h.cell 2⟩
 obtain⟨x0,x1,x2⟩:=KX.out w3 (Below.refl _ _);clear hX3 hB3 hSt
 by_cases hmay:Wk D' M' V'
 ·have hz3:w.heap.size<=w3.heap.size:=HB3.out.size
  have HS33:=hid (show Vr w3 (λb=>b<w3.heap.size) A1 N1 c1 A2 N2 c2 A3 N3 c3 D' M' V' from HS3.out.mv (Mv.to w3 λb hb _=>ae hb hz3))
  have HL33:=hid (show Row Yiy 1 w3 (λb=>b<w3.heap.size) a1 len1 cap1 L from(KL.out w3 HB3.out).mv Ycw (Mv.to w3 λb hb _=>ae hb hz3))
  have HBo:=hid (Yij HS33.out HfD6.out HfM6.out (by omega) HL33.out (mo:=12) (by decide) hmay)
  go_wp2_with fail;refine HBo.out.mono ?_;rintro e w4 ⟨g,r,F,R,G,Qs,rfl,hT,hGl,hb4⟩
  have HB34:=hid hb4
  have HB4:=hid (Ya HB3.out hb4)
  have HT:=hid hT
  clear hb4 hT HBo x0 x1 x2
  have HLk:=hid (Yhy HT.out (by omega))
  go_wp2_with fail;refine HLk.out.mono ?_;rintro e w5 ⟨rfl,hb5⟩
  have HB35:=hid (HB34.out.trans (hb5.mono HB34.out.size))
  obtain⟨Cs,hLt,_⟩:=(HT.out.below hb5).l.ex
  have HSc:=hid (Yfg hLt)
  clear hb5 HLk hLt;go_wp2_with fail;refine HSc.out.mono ?_;rintro e w6 ⟨⟨v1,v2,v3,rfl,hO⟩,hb6⟩;obtain⟨B1,d1,B2,d2,B3,d3,rfl,rfl,rfl,_⟩:=hO.read
  have HB36:=hid (HB35.out.trans (hb6.mono HB35.out.size))
  have hD:=HS3.out.d.len
  have hM:=HS3.out.m.len
  have hV:=HS3.out.v.len
  rw[hD,hM,hV]
  have hbk:=Block.new w6 26 #[.slice none 0 0,.slice none 0 0,.slice none 0 0]
  have y0:(w6.alloc (.cells #[.slice none 0 0,.slice none 0 0,.slice none 0 0] 26)).cell? ⟨w6.heap.size,0,none⟩=some (.slice none 0 0):=hbk.cell 0
  have y1:(w6.alloc (.cells #[.slice none 0 0,.slice none 0 0,.slice none 0 0] 26)).cell? ⟨w6.heap.size,1,none⟩=some (.slice none 0 0):=hbk.cell 1
  have y2:(w6.alloc (.cells #[.slice none 0 0,.slice none 0 0,.slice none 0 0] 26)).cell? ⟨w6.heap.size,2,none⟩=some (.slice none 0 0):=hbk.cell 2
  have f0:=hbk.free 0
  have f1:=hbk.free 1
  have f2:=hbk.free 2
  have hbk3:=Block.new w6 26 #[.slice B1 N1 d1,.slice B2 N2 d2,.slice B3 N3 d3]
  have hb7:=(Yb w6 (.cells #[.slice B1 N1 d1,.slice B2 N2 d2,.slice B3 N3 d3] 26)).mono HB36.out.size
  clear hO hb6 HSc hD hM hV hbk;go_upto_region 9 with fail
  clear y0 y1 y2 f0 f1 f2;generalize w6.alloc (.cells #[.slice B1 N1 d1,.slice B2 N2 d2,.slice B3 N3 d3] 26)=w7 at hbk3 hb7⊢
  have HB37:=hid (HB36.out.trans hb7)
  have z0:=hbk3.cell 0
  have z1:=hbk3.cell 1
  have z2:=hbk3.cell 2
  obtain⟨x0,x1,x2⟩:=KX.out w7 HB37.out
  have HB7:=hid (Ya HB3.out HB37.out)
  clear hbk3 hb7;go_wp2_with fail;refine(Jm _).mono ?_;rintro y wz ⟨rfl,hBz⟩
  have HBz:=hid (Ya HB7.out hBz)
  clear hBz;go_wp2_with fail;go_ret;exact⟨rfl,HBz.out⟩
 ·have hz3:w.heap.size<=w3.heap.size:=HB3.out.size
  have HS33:=hid (show Vr w3 (λb=>b<w3.heap.size) A1 N1 c1 A2 N2 c2 A3 N3 c3 D' M' V' from HS3.out.mv (Mv.to w3 λb hb _=>ae hb hz3))
  have HBo:=hid (Ylo HS33.out HfD6.out HfM6.out (by omega) (by omega) (.slice a1 len1 cap1) 12 hmay)
  go_wp2_with fail;refine HBo.out.mono ?_;rintro e w4 ⟨rfl,hb4⟩
  have HB4:=hid (Ya HB3.out hb4)
  clear hb4 HBo x0 x1 x2;go_wp2_with fail;refine(Jm _).mono ?_;rintro y wz ⟨rfl,hBz⟩
  have HBz:=hid (Ya HB4.out hBz)
  clear hBz;go_wp2_with fail;go_ret;exact⟨rfl,HBz.out⟩
end latticePlays
namespace latticePlays
open Go.ChangeShapes Go.WideShapes Go.ChangeAt Go.RowKit
open Go.ChangeMaps (open_string shut_string)
set_option linter.unusedVariables false
theorem lifted(os:Os)(started:os.Started)(H:Type)(enc:TypeId×Value->H):
  ReturnsInHanded {} af os 3 .any (Rows.latticePlaysSpec.pre6 enc aa ai Rows.latticePlaysRow.domain false) (Rows.latticePlaysSpec.post enc aa ai false true false false):=by
 refine returnsInHanded_of_change (C:=af) own started (by kernel_rfl) aj
  (ChangeSpec.witness6 (enc:=enc) (C:=af) false ⟨#[],#[.agg #[.slice none 0 0,.slice none 0 0,.slice none 0 0],.slice none 0 0],[]⟩ 8 (by kernel_rfl) (by kernel_rfl) (by kernel_rfl) (by kernel_rfl)) ?_
 intro W base args ds gs before hval0 hW hcnd _
 have hval:∀(j:Nat) t v,ai.params[j]?=some t->args[j]?=some v->Value.okWide aa W .any base t v:=hval0
 have hW':=hW
 obtain⟨p,q,hA0,hV,rfl,hfz,hnd⟩:=hW
 have hA:DataW.TrodAll enc aa W 0 (λ_=>true) true ai.params.toList args.toList ds p:=hA0
 rw[Tryz.params3]at hA hval;obtain⟨v0,vs0,d0,ds0,p0,q0,hargs,rfl,rfl,h0,r0⟩:=trodAll_cons hA;obtain⟨v1,vs1,d1,ds1,p1,q1,rfl,rfl,rfl,h1,r1⟩:=trodAll_cons r0;obtain⟨rfl,rfl,rfl⟩:=trodAll_nil r1;obtain rfl:args=#[v0,v1]:=by cases args;simp_all
 obtain⟨rfl,rfl⟩:=trodVars_none hV;obtain⟨cs0,rfl,hsz0⟩:=okWide_struct Tryz.underlying26 (hval 0 26 v0 rfl rfl)
 have k0:=h0
 have lt0:∀x∈p0,x.block<W.heap.size:=by obtain⟨m,hm⟩:=k0;exact DataW.trod_lt m _ _ _ hm
 have w0:RC aa W 26 cs0.toList:=by
  obtain⟨fuel,hf⟩:=h0;exact⟨_,_,_,_,_,fuel,_,by simpa[Value.cells]using hf⟩
 obtain⟨a1,len1,cap1,rfl⟩:=okWide_slice Tryz.underlying27 (hval 1 27 v1 rfl rfl)
 have k1:=h1
 have lt1:∀x∈p1,x.block<W.heap.size:=by obtain⟨m,hm⟩:=k1;exact DataW.trod_lt m _ _ _ hm
 have w1:RC aa W 27 [.slice a1 len1 cap1]:=by
  obtain⟨fuel,hf⟩:=h1;exact⟨_,_,_,_,_,fuel,_,hf⟩
 clear hA0 hval0;refine(walk cs0 a1 len1 cap1 W w0 w1).mono λe W' ⟨he,bel⟩=>?_
 subst he;exact⟨_,rfl,_,_,_,[],_,[],hW',trodAll_mk1 (shut_bool Tryz.underlying4 _),(trodAll_cons_mk (Below.trod laidOut (by kernel_rfl) (of_decide_eq_true (by kernel_rfl)) k0 bel lt0) (trodAll_cons_mk (Below.trod laidOut (by kernel_rfl) (of_decide_eq_true (by kernel_rfl)) k1 bel lt1) trodAll_mk0)),rfl,bel.frame _,λh=>by cases h⟩
end latticePlays
end Go.Proofs.YtmepdkdeanbbaaaGreat
