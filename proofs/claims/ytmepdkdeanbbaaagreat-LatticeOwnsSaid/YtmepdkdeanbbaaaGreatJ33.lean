/- CubRB -/
import Derived.Test.YtmepdkdeanbbaaaGreatJ30
namespace Go.Proofs.YtmepdkdeanbbaaaGreat
set_option maxRecDepth 100000
set_option maxHeartbeats 8000000
open Go.RowKit
open Go.Lib (hid)
variable {w w':World}{S:Nat->Prop}{e:Ending}
def Ygn(w:World)(S:Nat->Prop)(r:Option PC)(e:Ending)(w':World):Prop:=
 (match r with
  |none=>e=.returned (.tuple #[.agg #[.int .i64 0,.slice none 0 0,.slice none 0 0,.slice none 0 0],.bool false])
  |some u=>∃A1 n1 c1 A2 n2 c2 A3 n3 c3,e=.returned (.tuple #[.agg #[.int .i64 u.1,.slice A1 n1 c1,.slice A2 n2 c2,.slice A3 n3 c3],.bool true])/\Z7 w' S [.int .i64 u.1,.slice A1 n1 c1,.slice A2 n2 c2,.slice A3 n3 c3] u)/\Below w.heap.size w w'
theorem Ygn.none_(h:Ygn w S none e w'):e=.returned (.tuple #[.agg #[.int .i64 0,.slice none 0 0,.slice none 0 0,.slice none 0 0],.bool false])/\Below w.heap.size w w':=h
theorem Ygn.some_{u:PC}(h:Ygn w S (some u) e w'):(∃A1 n1 c1 A2 n2 c2 A3 n3 c3,e=.returned (.tuple #[.agg #[.int .i64 u.1,.slice A1 n1 c1,.slice A2 n2 c2,.slice A3 n3 c3],.bool true])/\Z7 w' S [.int .i64 u.1,.slice A1 n1 c1,.slice A2 n2 c2,.slice A3 n3 c3] u)/\Below w.heap.size w w':=h
theorem Ygt{r W m n c k kc:Nat}{A Ak:Option Addr}{C:Cub}{L:List Int}(h:Rq w r W m S A n c C)(hL:Y2 w w.heap.size Ak k kc L):
  Calls Tryz.prog 211 #[.pointer (some ⟨r,0,none⟩),.slice Ak k kc] w (Ygn w S (Za C L)):=by
 have hb1:=Yb w (.cells #[.int .i64 0,.slice none 0 0,.slice none 0 0,.slice none 0 0] 71)
 have hR:=hid (Block.new w 71 #[.int .i64 0,.slice none 0 0,.slice none 0 0,.slice none 0 0])
 have h1:=h.Yc hb1
 have hK:=hid (hL.Yc hb1)
 have c2:=h1.c2
 have hrl:r<w.heap.size:=h.blk.lt
 have HB:=hid hb1
 have HR:=hid h.row
 have hCl:=hid h1.row.len
 have hnm:=h1.row.Ym
 have hcm:=h1.row.Xf
 have hcap:=h1.row.cap
 clear h hL hb1 h1;go_enter Tryz.func211,Tryz.ntmps211;go_wp2_with fail;generalize w.alloc (.cells #[.int .i64 0,.slice none 0 0,.slice none 0 0,.slice none 0 0] 71)=W1 at hR hK c2 HB HR⊢;go_loopw [6] (λi wr=>∃j q:Nat,j<=n/\i=.int .i64 j/\wr=W1.drewN q/\Hid (∀i e,i<j->C[i]?=some e→¬e.1=L)) (λi _=>n-(intOf i).toNat)
 case atStart=>exact⟨0,0,Nat.zero_le _,rfl,rfl,hid (λi e hi=>absurd hi (by omega))⟩
 case round=>
  obtain⟨j,q,hj,rfl,rfl,ht⟩:=hrel
  by_cases hlt:j<n
  ·obtain⟨b,o,A0,n0,c0,p,A1,n1,c1,A2,n2,c2',A3,n3,c3,K,Su,M,X,rfl,hb,hbl,g0,g1,g2,g3,g4,hK0,hS,hM,hX,hC⟩:=HR.out.atU hlt
   have i0:(0:Int)<=(j:Int):=by omega
   have i1:(j:Int)<(n:Int):=by omega
   have hD:=below_drewN HB.out q
   have g0:W1.cell? ⟨b,o+j*5,none⟩=some (.slice A0 n0 c0):=(HB.out.cell (p:=⟨b,o+j*5,none⟩) hbl).trans g0
   have g1:W1.cell? ⟨b,o+j*5+1,none⟩=some (.int .i64 p):=(HB.out.cell (p:=⟨b,o+j*5+1,none⟩) hbl).trans g1
   have g2:W1.cell? ⟨b,o+j*5+2,none⟩=some (.slice A1 n1 c1):=(HB.out.cell (p:=⟨b,o+j*5+2,none⟩) hbl).trans g2
   have g3:W1.cell? ⟨b,o+j*5+3,none⟩=some (.slice A2 n2 c2'):=(HB.out.cell (p:=⟨b,o+j*5+3,none⟩) hbl).trans g3
   have g4:W1.cell? ⟨b,o+j*5+4,none⟩=some (.slice A3 n3 c3):=(HB.out.cell (p:=⟨b,o+j*5+4,none⟩) hbl).trans g4
   have hsm:=Mh (w:=W1.drewN q) (hK0.mv Yh (Mv.Yc hD S)).Uy (hK.out.drewN q)
   have HSM:=hid (And.intro hS (And.intro hM hX))
   clear hD hK0 hS hM hX
   by_cases hKL:K=L
   ·have HG:Hid (Za C L=some (p,Su,M,X)):=hid (Yma ht.out hC.out hKL)
    rw[decide_eq_true hKL]at hsm
    have hsm:=hid hsm
    have HF:=hid λq=>(show Block (Sr (W1.drewN q) w.heap.size (.int .i64 p) (.slice A1 n1 c1) (.slice A2 n2 c2') (.slice A3 n3 c3)) w.heap.size 71 #[.int .i64 p,.slice A1 n1 c1,.slice A2 n2 c2',.slice A3 n3 c3]/\Z7 (Sr (W1.drewN q) w.heap.size (.int .i64 p) (.slice A1 n1 c1) (.slice A2 n2 c2') (.slice A3 n3 c3)) S [.int .i64 p,.slice A1 n1 c1,.slice A2 n2 c2',.slice A3 n3 c3] (p,Su,M,X)/\Below w.heap.size w (Sr (W1.drewN q) w.heap.size (.int .i64 p) (.slice A1 n1 c1) (.slice A2 n2 c2') (.slice A3 n3 c3))from by
     have hb:=Yq (below_drewN HB.out q) (Nat.le_refl _) (.int .i64 p) (.slice A1 n1 c1) (.slice A2 n2 c2') (.slice A3 n3 c3)
     exact⟨(hR.out.drewN q).Zp _ _ _ _,M8 (HSM.out.1.mv Yh (Mv.Yc hb S)) (HSM.out.2.1.mv Yh (Mv.Yc hb S)) (HSM.out.2.2.mv Yh (Mv.Yc hb S)),hb⟩)
    have y0:W1.cell? ⟨w.heap.size,0,none⟩=some (.int .i64 0):=hR.out.cell 0
    have y1:W1.cell? ⟨w.heap.size,1,none⟩=some (.slice none 0 0):=hR.out.cell 1
    have y2:W1.cell? ⟨w.heap.size,2,none⟩=some (.slice none 0 0):=hR.out.cell 2
    have y3:W1.cell? ⟨w.heap.size,3,none⟩=some (.slice none 0 0):=hR.out.cell 3
    have f0:=hR.out.free 0
    have f1:=hR.out.free 1
    have f2:=hR.out.free 2
    have f3:=hR.out.free 3
    clear hKL HSM hC;go_wp2_with fail;refine hsm.out.mono ?_;rintro y w2 ⟨rfl,q2,rfl⟩;go_wp2_with fail;refine bodyPost_ret (Ye rfl _ _ w.heap.size _ _ rfl (HF.out (q+q2)).1 Tryz.underlying71 rfl Yz) rfl ?_;rw[HG.out];exact⟨⟨_,_,_,_,_,_,_,_,_,rfl,(HF.out (q+q2)).2.1⟩,(HF.out (q+q2)).2.2⟩
   ·have H:Hid (∀i e,i<j+1->C[i]?=some e→¬e.1=L):=hid λi e hi he=>by
     by_cases hij:i<j
     ·exact ht.out i e hij he
     ·obtain rfl:i=j:=by omega
      have h1:=hC.out
      rw[he]at h1;injection h1 with h1
      rw[h1];exact hKL
    rw[decide_eq_false hKL]at hsm
    have hsm:=hid hsm
    clear hKL HSM hC;go_wp2_with fail;refine hsm.out.mono ?_;rintro y w2 ⟨rfl,q2,rfl⟩;go_wp2_with fail;go_roundw
    case rel=>exact⟨j+1,q+q2,by omega,by go_num,by first|rfl|exact World.drewN_drewN _ _ _,H⟩
    case measure=>simp[intOf];omega
  ·have HG:Hid (Za C L=none):=hid (Yew λi e hi he=>ht.out i e (by have:=hCl.out;omega) he)
   have HF:=hid (show Block (Sr (W1.drewN q) w.heap.size (.int .i64 0) (.slice none 0 0) (.slice none 0 0) (.slice none 0 0)) w.heap.size 71 #[.int .i64 0,.slice none 0 0,.slice none 0 0,.slice none 0 0]/\Below w.heap.size w (Sr (W1.drewN q) w.heap.size (.int .i64 0) (.slice none 0 0) (.slice none 0 0) (.slice none 0 0))from
    ⟨(hR.out.drewN q).Zp _ _ _ _,Yq (below_drewN HB.out q) (Nat.le_refl _) _ _ _ _⟩)
   have y0:W1.cell? ⟨w.heap.size,0,none⟩=some (.int .i64 0):=hR.out.cell 0
   have y1:W1.cell? ⟨w.heap.size,1,none⟩=some (.slice none 0 0):=hR.out.cell 1
   have y2:W1.cell? ⟨w.heap.size,2,none⟩=some (.slice none 0 0):=hR.out.cell 2
   have y3:W1.cell? ⟨w.heap.size,3,none⟩=some (.slice none 0 0):=hR.out.cell 3
   have f0:=hR.out.free 0
   have f1:=hR.out.free 1
   have f2:=hR.out.free 2
   have f3:=hR.out.free 3
   go_wp2_with fail;refine bodyPost_ret (Ye rfl _ _ w.heap.size _ _ rfl HF.out.1 Tryz.underlying71 rfl Yz) rfl ?_;rw[HG.out];exact⟨rfl,HF.out.2⟩
end Go.Proofs.YtmepdkdeanbbaaaGreat
