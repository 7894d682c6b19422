/- CellA, CellRS -/
import Derived.Test.YtmepdkdeanbbaaaGreatJ22
namespace Go.Proofs.YtmepdkdeanbbaaaGreat
set_option maxRecDepth 100000
set_option maxHeartbeats 8000000
open Go.RowKit
open Bool renaming eq_false_iff→aa
open Proofs.Tryz renaming ntmps36→ae,func36→af,ntmps195→ak,prog→an,func195→ao
open Nat renaming zero_le→ag,le_refl→aj
open World renaming drewN_drewN→ai
open Go.Lib (hid)
variable {w:World}{A:Option Addr}{c n:Nat}{L:List PC}
def Yux(L:List PC)(n:Nat)(w:World)(e:Ending)(w':World):Prop:=
 (∃r:Int,e=.returned (.int .i64 r)/\((∃k:Nat,k<n/\r=(k:Int)/\0<(L.getD k Yl).1/\∀j,j<k→¬0<(L.getD j Yl).1)∨(r=-1/\∀j,j<n→¬0<(L.getD j Yl).1)))/\Below w.heap.size w w'
theorem Yos(h:Xr w w.heap.size A n c L):
  Calls an 171 #[.slice A n c,.func (.func 172) #[] #[]] w (Yux L n w):=by
 have hn:=h.Ym
 go_enter Tryz.func171,Tryz.ntmps171;go_wp2;go_loopw [8] (λi wr=>∃k:Nat,k<=n/\i=.int .i64 k/\Hid (∀j,j<k->(L.getD j Yl).1<=0)/\Below w.heap.size w wr) (λi _=>n-(intOf i).toNat)
 case atStart=>exact⟨0,ag _,rfl,hid λj hj=>absurd hj (by omega),Below.refl _ _⟩
 case round=>
  obtain⟨k,hk,rfl,hJ,hbe⟩:=hrel
  by_cases hlt:k<n
  ·obtain⟨b,o,q,A1,n1,c1,A2,n2,c2,A3,n3,c3,S,M,X,rfl,hb,g0,g1,g2,g3,hC,hq⟩:=(h.below hbe (aj _)).at_ hlt
   have i0:(0:Int)<=(k:Int):=by omega
   have i1:(k:Int)<(n:Int):=by omega
   clear hC
   by_cases hp:0<q
   ·have hE:Hid (0<(L.getD k Yl).1):=hid (by rw[hq.out];exact hp)
    go_wp2_with fail;refine(Oq q A1 n1 c1 A2 n2 c2 A3 n3 c3 _ (r:=true) (by simpa using hp)).mono ?_
    rintro e w2 ⟨rfl,hb2⟩
    have hbe2:=hbe.trans (hb2.mono hbe.size)
    go_wp2_with fail;go_ret;exact⟨⟨_,rfl,.inl ⟨k,hlt,rfl,hE.out,λj hj=>Int.not_lt.2 (hJ.out j hj)⟩⟩,hbe2⟩
   ·have hE:Hid (∀j,j<k+1->(L.getD j Yl).1<=0):=hid λj hj=>by
     by_cases h:j<k
     ·exact hJ.out j h
     ·obtain rfl:j=k:=by omega
      rw[hq.out];exact Int.not_lt.1 hp
    go_wp2_with fail;refine(Oq q A1 n1 c1 A2 n2 c2 A3 n3 c3 _ (r:=false) (by simpa using hp)).mono ?_
    rintro e w2 ⟨rfl,hb2⟩
    have hbe2:=hbe.trans (hb2.mono hbe.size)
    clear hb2;go_wp2_with fail;go_roundw
    case rel=>exact⟨k+1,by omega,by go_num,hE,hbe2⟩
    case measure=>simp[intOf];omega
  ·obtain rfl:k=n:=by omega
   go_wp2_with fail;go_ret;exact⟨⟨_,rfl,.inr ⟨rfl,λj hj=>Int.not_lt.2 (hJ.out j hj)⟩⟩,hbe⟩
theorem Yo7(h:Xr w w.heap.size A n c L){r:Bool}(hr:r=true↔∀i,i<n->Zo (L.getD i Yl)/\(L.getD i Yl).2.1.length=(L.getD 0 Yl).2.1.length):
  Calls an 170 #[.slice A n c] w λe w'=>e=.returned (.bool r)/\Below w.heap.size w w':=by
 have hn:=h.Ym
 have R:=hid hr
 clear hr;go_enter Tryz.func170,Tryz.ntmps170;go_wp2;go_loopw [7] (λi wr=>∃k:Nat,k<=n/\i=.int .i64 k/\Hid (∀i,i<k->Zo (L.getD i Yl)/\(L.getD i Yl).2.1.length=(L.getD 0 Yl).2.1.length)/\Below w.heap.size w wr) (λi _=>n-(intOf i).toNat)
 case atStart=>exact⟨0,ag _,rfl,hid λj hj=>absurd hj (by omega),Below.refl _ _⟩
 case round=>
  obtain⟨k,hk,rfl,hJ,hbe⟩:=hrel
  by_cases hlt:k<n
  ·have hh:=h.below hbe (aj _)
   obtain⟨b,o,q,A1,n1,c1,A2,n2,c2,A3,n3,c3,S,M,X,rfl,hb,g0,g1,g2,g3,hC,hq⟩:=hh.at_ hlt;obtain⟨b',o',q',A1',n1',c1',A2',n2',c2',A3',n3',c3',S',M',X',he,hb',g0',g1',g2',g3',hC',hq'⟩:=hh.at_ (k:=0) (by omega)
   injection he with he
   injection he with he1 he2
   subst he1 he2;rw[show o+0*4+1=o+1 from by omega]at g1'
   have hl:=hC.s.len
   have hl':=hC'.s.len
   clear g0' g2' g3' hC'
   have i0:(0:Int)<=(k:Int):=by omega
   have i1:(k:Int)<(n:Int):=by omega
   have i2:(0:Int)<(n:Int):=by omega
   have hbx:=Yb wr (.cells #[.int .i64 q,.slice A1 n1 c1,.slice A2 n2 c2,.slice A3 n3 c3] 71)
   have hB:=Block.new wr 71 #[.int .i64 q,.slice A1 n1 c1,.slice A2 n2 c2,.slice A3 n3 c3]
   obtain⟨B,m,Hm⟩: ∃(B:Bool) (m:Bool),Hid ((B=true↔Zo (q,S,M,X))/\(m=true↔(n1:Int)=(n1':Int))):=⟨decide (Zo (q,S,M,X)),decide ((n1:Int)=(n1':Int)),hid ⟨by simp,by simp⟩⟩
   have HS:Hid ((B=true/\m=true)↔(Zo (L.getD k Yl)/\(L.getD k Yl).2.1.length=(L.getD 0 Yl).2.1.length)):=hid (by
    rw[hq.out,hq'.out,Hm.out.1,Hm.out.2];exact and_congr_right λ_=>by show _↔S.length=S'.length;omega)
   go_wp2_with fail;generalize wr.alloc (.cells #[.int .i64 q,.slice A1 n1 c1,.slice A2 n2 c2,.slice A3 n3 c3] 71)=W at hbx hB⊢
   have hbW:=hbe.trans (hbx.mono hbe.size)
   have HM:=hid fun(y:Bel W)=>y.calls λw hw=>Fk (n:=q) (((hC.below hbx hbe.size).below hw hbW.size).more (Nat.le_trans hbW.size hw.size)) (r:=B) Hm.out.1
   have k0:∀y:Bel W,y.w.cell? ⟨wr.heap.size,0,none⟩=some (.int .i64 q):=λy=>y.cell (hB.cell 0)
   have k1:∀y:Bel W,y.w.cell? ⟨wr.heap.size,1,none⟩=some (.slice A1 n1 c1):=λy=>y.cell (hB.cell 1)
   have k2:∀y:Bel W,y.w.cell? ⟨wr.heap.size,2,none⟩=some (.slice A2 n2 c2):=λy=>y.cell (hB.cell 2)
   have k3:∀y:Bel W,y.w.cell? ⟨wr.heap.size,3,none⟩=some (.slice A3 n3 c3):=λy=>y.cell (hB.cell 3)
   have k4:∀y:Bel W,y.w.cell? ⟨b,o+1,none⟩=some (.slice A1' n1' c1'):=λy=>y.cell ((hbx.cell (p:=⟨b,o+1,none⟩) (Nat.lt_of_lt_of_le hb hbe.size)).trans g1')
   clear g0 g1 g2 g3 g1' hB hC hbx hbe hh hl hl'
   cases B
   ·have Z:Hid (r=false):=hid (by
     rw[aa];intro hx
     have:=HS.out.2 (R.out.1 hx k hlt)
     cases this.1)
    refine Xl (by kernel_rfl) (by kernel_rfl) ?_
    repeat (go_big_quiet_step ((go_at_call 220;exact HM.out _)))
    refine wpQuiet_nil ?_;rintro _ ⟨⟨w2,hb2⟩,rfl⟩
    have hbe2:=Ya hbW hb2
    clear k0 k1 k2 k3 k4;go_wp2_with fail;go_ret;exact⟨Yd Z.out.symm,hbe2⟩
   ·cases m
    ·have hne:((n1:Int) != (n1':Int))=true:=by
      have:=Hm.out.2
      simp at this;simp;exact this
     have Z:Hid (r=false):=hid (by
      rw[aa];intro hx
      have:=HS.out.2 (R.out.1 hx k hlt)
      cases this.2)
     refine Xl (by kernel_rfl) (by kernel_rfl) ?_
     repeat (go_big_quiet_step ((go_at_call 220;exact HM.out _)))
     refine wpQuiet_nil ?_;rintro _ ⟨⟨w2,hb2⟩,rfl⟩
     have hbe2:=Ya hbW hb2
     clear k0 k1 k2 k3 k4;go_wp2_with fail;go_ret;exact⟨Yd Z.out.symm,hbe2⟩
    ·have hne:((n1:Int) != (n1':Int))=false:=by
      have:=Hm.out.2
      simp at this;simp;exact this
     have hJ2:Hid (∀i,i<k+1->Zo (L.getD i Yl)/\(L.getD i Yl).2.1.length=(L.getD 0 Yl).2.1.length):=hid λj hj=>by
      by_cases h:j<k
      ·exact hJ.out j h
      ·obtain rfl:j=k:=by omega
       exact HS.out.1 ⟨rfl,rfl⟩
     refine Xl (by kernel_rfl) (by kernel_rfl) ?_
     repeat (go_big_quiet_step ((go_at_call 220;exact HM.out _)))
     refine wpQuiet_nil ?_;rintro _ ⟨⟨w2,hb2⟩,rfl⟩
     have hbe2:=Ya hbW hb2
     clear k0 k1 k2 k3 k4;go_wp2_with fail;go_roundw
     case rel=>exact⟨k+1,by omega,by go_num,hJ2,hbe2⟩
     case measure=>simp[intOf];omega
  ·obtain rfl:k=n:=by omega
   have Z:Hid (r=true):=hid (R.out.2 hJ.out)
   go_wp2_with fail;go_ret;exact⟨Yd Z.out.symm,hbe⟩
theorem Pd(n m:Int)(w:World)(h0:0<=m)(h1:m<=9223372036854775807):Calls an 195 #[.int .i64 n,.int .i64 m] w λe w'=>e=.returned (.bool (inB n m))/\w=w':=by
 by_cases h: -m<=n
 ·by_cases h2:n<=m
  ·have H:=hid (show inB n m=true by unfold inB;simp[h,h2])
   go_enter ao,ak;go_wp2;go_ret;exact⟨Yd H.out.symm,rfl⟩
  ·have H:=hid (show inB n m=false by unfold inB;simp[h2])
   go_enter ao,ak;go_wp2;go_ret;exact⟨Yd H.out.symm,rfl⟩
 ·have H:=hid (show inB n m=false by unfold inB;simp[h])
  go_enter ao,ak;go_wp2;go_ret;exact⟨Yd H.out.symm,rfl⟩
theorem F4{n n':Int}{A1 A2 A3 B1 B2 B3:Option Addr}{n1 c1 n2 c2 n3 c3 m1 d1 m2 d2 m3 d3:Nat}{S M X S' M' X':List Int}
  (h:Wi w w.heap.size A1 n1 c1 A2 n2 c2 A3 n3 c3 S M X) (h':Wi w w.heap.size B1 m1 d1 B2 m2 d2 B3 m3 d3 S' M' X') {r:Bool}(hr:r=true↔(n,S,M,X)=(n',S',M',X')):
  Calls an 36 #[S6 n A1 n1 c1 A2 n2 c2 A3 n3 c3,S6 n' B1 m1 d1 B2 m2 d2 B3 m3 d3] w λe w'=>e=.returned (.bool r)/\Below w.heap.size w w':=by
 have R:Hid (r=true↔n=n'∧S=S'∧M=M'∧X=X'):=hid (by rw[hr];simp[Prod.mk.injEq])
 have hb2:=hid (Wz w (.cells #[.int .i64 n,.slice A1 n1 c1,.slice A2 n2 c2,.slice A3 n3 c3] 71) (.cells #[.int .i64 n',.slice B1 m1 d1,.slice B2 m2 d2,.slice B3 m3 d3] 71))
 have lS:=hid (And.intro h.s.len h'.s.len)
 have lM:=hid (And.intro h.m.len h'.m.len)
 have lX:=hid (And.intro h.x.len h'.x.len)
 have z1:=h.s.Ym
 have z2:=h.m.Ym
 have z3:=h.x.Ym
 clear hr
 by_cases e0:n=n'
 ·by_cases e1:n1=m1
  ·by_cases e2:n2=m2
   ·by_cases e3:n3=m3
    ·subst e0 e1 e2 e3
     have k0:((n:Int) != n)=false:=by simp
     have k1:((n1:Int) != n1)=false:=by simp
     have k2:((n2:Int) != n2)=false:=by simp
     have k3:((n3:Int) != n3)=false:=by simp
     go_enter af,ae;go_wp2_with fail
     have hL:=(Block.new w 71 #[.int .i64 n,.slice A1 n1 c1,.slice A2 n2 c2,.slice A3 n3 c3]).alloc (.cells #[.int .i64 n,.slice B1 n1 d1,.slice B2 n2 d2,.slice B3 n3 d3] 71)
     have hK:=Block.new (w.alloc (.cells #[.int .i64 n,.slice A1 n1 c1,.slice A2 n2 c2,.slice A3 n3 c3] 71)) 71 #[.int .i64 n,.slice B1 n1 d1,.slice B2 n2 d2,.slice B3 n3 d3]
     rw[World.size_alloc]at hK
     have hC:=h.below hb2.out (aj _)
     have hC':=h'.below hb2.out (aj _)
     clear h h';generalize (w.alloc (.cells #[.int .i64 n,.slice A1 n1 c1,.slice A2 n2 c2,.slice A3 n3 c3] 71)).alloc (.cells #[.int .i64 n,.slice B1 n1 d1,.slice B2 n2 d2,.slice B3 n3 d3] 71)=W at hb2 hL hK hC hC'⊢
     have g1:W.cell? ⟨w.heap.size,1,none⟩=some (.slice A1 n1 c1):=hL.cell 1
     have g2:W.cell? ⟨w.heap.size,2,none⟩=some (.slice A2 n2 c2):=hL.cell 2
     have g3:W.cell? ⟨w.heap.size,3,none⟩=some (.slice A3 n3 c3):=hL.cell 3
     have u1:W.cell? ⟨w.heap.size+1,1,none⟩=some (.slice B1 n1 d1):=hK.cell 1
     have u2:W.cell? ⟨w.heap.size+1,2,none⟩=some (.slice B2 n2 d2):=hK.cell 2
     have u3:W.cell? ⟨w.heap.size+1,3,none⟩=some (.slice B3 n3 d3):=hK.cell 3
     clear hL hK;go_loopw [5] (λi wr=>∃k q:Nat,k<=n1/\i=.int .i64 k/\wr=W.drewN q/\Hid (∀j,j<k->S.getD j 0=S'.getD j 0)) (λi _=>n1-(intOf i).toNat)
     case atStart=>exact⟨0,0,ag _,rfl,rfl,hid λj hj=>absurd hj (by omega)⟩
     case round=>
      obtain⟨k,q,hk,rfl,rfl,hJ⟩:=hrel
      by_cases hlt:k<n1
      ·obtain⟨b,o,x,rfl,_,cx,ex⟩:=hC.s.at_ hlt
       obtain⟨b',o',y,rfl,_,cy,ey⟩:=hC'.s.at_ hlt
       have i0:(0:Int)<=(k:Int):=by omega
       have i1:(k:Int)<(n1:Int):=by omega
       by_cases hxy:x=y
       ·subst hxy
        have hJ2:Hid (∀j,j<k+1->S.getD j 0=S'.getD j 0):=hid λj hj=>by
         by_cases h:j<k
         ·exact hJ.out j h
         ·obtain rfl:j=k:=by omega
          rw[<-ex.out,<-ey.out]
        have hne:((x:Int) != x)=false:=by simp
        go_wp2_with fail;go_quiet (fail);go_wp2_with fail;go_roundw
        case rel=>exact⟨k+1,_,by omega,by go_num,by first|rfl|rw[ai],hJ2⟩
        case measure=>simp[intOf];omega
       ·have hne:((x:Int) != y)=true:=by simpa using hxy
        have Z:Hid (r=false):=hid (by
         rw[aa];intro h
         have h1:=R.out.1 h
         have h2:S=S':=by first|exact h1.2.1|exact h1.2.2.1|exact h1.2.2.2
         rw[h2]at ex;exact hxy (ex.out.trans ey.out.symm))
        clear hxy;go_wp2_with fail;go_quiet (fail);go_wp2_with fail;go_ret;exact⟨Yd Z.out.symm,below_drewN (below_drewN hb2.out _) _⟩
      ·obtain rfl:k=n1:=by omega
       have Es:Hid (S=S'):=hid (Z3 hC.s.len hC'.s.len hJ.out)
       clear hJ;go_wp2_with fail;go_loopw [6] (λi wr=>∃k q:Nat,k<=n2/\i=.int .i64 k/\wr=W.drewN q/\Hid (∀j,j<k->M.getD j 0=M'.getD j 0)) (λi _=>n2-(intOf i).toNat)
       case atStart=>exact⟨0,_,ag _,rfl,rfl,hid λj hj=>absurd hj (by omega)⟩
       case round=>
        obtain⟨k,q,hk,rfl,rfl,hJ⟩:=hrel
        by_cases hlt:k<n2
        ·obtain⟨b,o,x,rfl,_,cx,ex⟩:=hC.m.at_ hlt
         obtain⟨b',o',y,rfl,_,cy,ey⟩:=hC'.m.at_ hlt
         have i0:(0:Int)<=(k:Int):=by omega
         have i1:(k:Int)<(n2:Int):=by omega
         by_cases hxy:x=y
         ·subst hxy
          have hJ2:Hid (∀j,j<k+1->M.getD j 0=M'.getD j 0):=hid λj hj=>by
           by_cases h:j<k
           ·exact hJ.out j h
           ·obtain rfl:j=k:=by omega
            rw[<-ex.out,<-ey.out]
          have hne:((x:Int) != x)=false:=by simp
          go_wp2_with fail;go_quiet (fail);go_wp2_with fail;go_roundw
          case rel=>exact⟨k+1,_,by omega,by go_num,by first|rfl|rw[ai],hJ2⟩
          case measure=>simp[intOf];omega
         ·have hne:((x:Int) != y)=true:=by simpa using hxy
          have Z:Hid (r=false):=hid (by
           rw[aa];intro h
           have h1:=R.out.1 h
           have h2:M=M':=by first|exact h1.2.1|exact h1.2.2.1|exact h1.2.2.2
           rw[h2]at ex;exact hxy (ex.out.trans ey.out.symm))
          clear hxy;go_wp2_with fail;go_quiet (fail);go_wp2_with fail;go_ret;exact⟨Yd Z.out.symm,below_drewN (below_drewN hb2.out _) _⟩
        ·obtain rfl:k=n2:=by omega
         have Em:Hid (M=M'):=hid (Z3 hC.m.len hC'.m.len hJ.out)
         clear hJ;go_wp2_with fail;go_loopw [7] (λi wr=>∃k q:Nat,k<=n3/\i=.int .i64 k/\wr=W.drewN q/\Hid (∀j,j<k->X.getD j 0=X'.getD j 0)) (λi _=>n3-(intOf i).toNat)
         case atStart=>exact⟨0,_,ag _,rfl,rfl,hid λj hj=>absurd hj (by omega)⟩
         case round=>
          obtain⟨k,q,hk,rfl,rfl,hJ⟩:=hrel
          by_cases hlt:k<n3
          ·obtain⟨b,o,x,rfl,_,cx,ex⟩:=hC.x.at_ hlt
           obtain⟨b',o',y,rfl,_,cy,ey⟩:=hC'.x.at_ hlt
           have i0:(0:Int)<=(k:Int):=by omega
           have i1:(k:Int)<(n3:Int):=by omega
           by_cases hxy:x=y
           ·subst hxy
            have hJ2:Hid (∀j,j<k+1->X.getD j 0=X'.getD j 0):=hid λj hj=>by
             by_cases h:j<k
             ·exact hJ.out j h
             ·obtain rfl:j=k:=by omega
              rw[<-ex.out,<-ey.out]
            have hne:((x:Int) != x)=false:=by simp
            go_wp2_with fail;go_quiet (fail);go_wp2_with fail;go_roundw
            case rel=>exact⟨k+1,_,by omega,by go_num,by first|rfl|rw[ai],hJ2⟩
            case measure=>simp[intOf];omega
           ·have hne:((x:Int) != y)=true:=by simpa using hxy
            have Z:Hid (r=false):=hid (by
             rw[aa];intro h
             have h1:=R.out.1 h
             have h2:X=X':=by first|exact h1.2.1|exact h1.2.2.1|exact h1.2.2.2
             rw[h2]at ex;exact hxy (ex.out.trans ey.out.symm))
            clear hxy;go_wp2_with fail;go_quiet (fail);go_wp2_with fail;go_ret;exact⟨Yd Z.out.symm,below_drewN (below_drewN hb2.out _) _⟩
          ·obtain rfl:k=n3:=by omega
           have Ex:Hid (X=X'):=hid (Z3 hC.x.len hC'.x.len hJ.out)
           clear hJ;go_wp2_with fail
           have Z:Hid (r=true):=hid (R.out.2 ⟨by trivial,Es.out,Em.out,Ex.out⟩)
           go_ret;exact⟨Yd Z.out.symm,below_drewN hb2.out _⟩
    ·have Z:Hid (r=false):=hid (by
      rw[aa];intro h;have:=congrArg List.length (R.out.1 h).2.2.2;have:=lX.out;omega)
     subst e0 e1 e2
     have k0:((n:Int) != n)=false:=by simp
     have k1:((n1:Int) != n1)=false:=by simp
     have k2:((n2:Int) != n2)=false:=by simp
     have k3:((n3:Int) != m3)=true:=by simp;omega
     clear e3;go_enter af,ae;go_wp2_with fail;go_ret;exact⟨Yd Z.out.symm,hb2.out⟩
   ·have Z:Hid (r=false):=hid (by
     rw[aa];intro h;have:=congrArg List.length (R.out.1 h).2.2.1;have:=lM.out;omega)
    subst e0 e1
    have k0:((n:Int) != n)=false:=by simp
    have k1:((n1:Int) != n1)=false:=by simp
    have k2:((n2:Int) != m2)=true:=by simp;omega
    clear e2;go_enter af,ae;go_wp2_with fail;go_ret;exact⟨Yd Z.out.symm,hb2.out⟩
  ·have Z:Hid (r=false):=hid (by
    rw[aa];intro h;have:=congrArg List.length (R.out.1 h).2.1;have:=lS.out;omega)
   subst e0
   have k0:((n:Int) != n)=false:=by simp
   have k1:((n1:Int) != m1)=true:=by simp;omega
   clear e1;go_enter af,ae;go_wp2_with fail;go_ret;exact⟨Yd Z.out.symm,hb2.out⟩
 ·have Z:Hid (r=false):=hid (by rw[aa];intro h;exact e0 (R.out.1 h).1)
  have k0:((n:Int) != n')=true:=by simpa using e0
  clear e0;go_enter af,ae;go_wp2_with fail;go_ret;exact⟨Yd Z.out.symm,hb2.out⟩
end Go.Proofs.YtmepdkdeanbbaaaGreat
