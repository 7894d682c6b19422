/- BatchZ -/
import Derived.Test.YtkablhecedcngaaGreatJ24
import Derived.Deep.DeepCutAuto
namespace Go.Proofs.YtkablhecedcngaaGreat
set_option maxRecDepth 100000
set_option maxHeartbeats 8000000
open Go.RowKit
open Go.Lib (hid)
theorem boxes (w:World) (x1 x2 x3:Value):Block ((w.alloc (.cells #[x1,x2,x3] 26)).alloc (.cells #[.slice none 0 0,.slice none 0 0,.slice none 0 0] 26)) w.heap.size 26 #[x1,x2,x3]∧Block ((w.alloc (.cells #[x1,x2,x3] 26)).alloc (.cells #[.slice none 0 0,.slice none 0 0,.slice none 0 0] 26)) (w.heap.size+1) 26 #[.slice none 0 0,.slice none 0 0,.slice none 0 0]∧Below w.heap.size w ((w.alloc (.cells #[x1,x2,x3] 26)).alloc (.cells #[.slice none 0 0,.slice none 0 0,.slice none 0 0] 26)):=by
 have hbr:=Block.new (w.alloc (.cells #[x1,x2,x3] 26)) 26 #[.slice none 0 0,.slice none 0 0,.slice none 0 0]
 rw [show (w.alloc (.cells #[x1,x2,x3] 26)).heap.size=w.heap.size+1 by simp] at hbr
 exact ⟨(Block.new w 26 #[x1,x2,x3]).alloc _,hbr,Yb (Ya w _) (Ya _ _)⟩
def Ytb (w:World) (B1:Option Addr) (m1 d1:Nat) (B2:Option Addr) (m2 d2:Nat) (B3:Option Addr) (m3 d3:Nat) (e:Ending) (w' : World):Prop :=
 e=.returned (V6 B1 (min m1 6) d1 B2 (min m2 6) d2 B3 (min m3 9) d3)∧Below w.heap.size w w'
theorem Ya1:(Tryz.prog.info? 26).map (·.size)=some 3:=by kernel_rfl
theorem O1 {B1 B2 B3:Option Addr}{m1 d1 m2 d2 m3 d3:Nat}{D:List Yg}{M:List Txt}{V:List (List Int)}{w:World} (hs:Tx w w.heap.size B1 m1 d1 B2 m2 d2 B3 m3 d3 D M V) :
  Calls Tryz.prog 7 #[V6 B1 m1 d1 B2 m2 d2 B3 m3 d3] w (Ytb w B1 m1 d1 B2 m2 d2 B3 m3 d3):=by
 have l1:=hs.d.Yn
 have l2:=hs.m.Yn
 have l3:m3≤9223372036854775807:=by have:=hs.v.cap; have:=hs.v.Z1; omega
 have q1:=hs.d.cap
 have q2:=hs.m.cap
 have q3:=hs.v.cap
 have p1:=hs.d.Z1
 have p2:=hs.m.Z1
 have p3:=hs.v.Z1
 clear hs
 have hb0:=Ya w (.cells #[.slice B1 m1 d1,.slice B2 m2 d2,.slice B3 m3 d3] 26)
 have hb1:=Yb hb0 (Ya (w.alloc (.cells #[.slice B1 m1 d1,.slice B2 m2 d2,.slice B3 m3 d3] 26)) (.cells #[.slice none 0 0,.slice none 0 0,.slice none 0 0] 26))
 have hbl:=(Block.new w 26 #[.slice B1 m1 d1,.slice B2 m2 d2,.slice B3 m3 d3]).alloc (.cells #[.slice none 0 0,.slice none 0 0,.slice none 0 0] 26)
 have hbr:=Block.new (w.alloc (.cells #[.slice B1 m1 d1,.slice B2 m2 d2,.slice B3 m3 d3] 26)) 26 #[.slice none 0 0,.slice none 0 0,.slice none 0 0]
 rw [show (w.alloc (.cells #[.slice B1 m1 d1,.slice B2 m2 d2,.slice B3 m3 d3] 26)).heap.size=w.heap.size+1 by simp] at hbr
 clear hb0;go_enter Tryz.func7,Tryz.ntmps7
 have k0:((w.alloc (.cells #[.slice B1 m1 d1,.slice B2 m2 d2,.slice B3 m3 d3] 26)).alloc (.cells #[.slice none 0 0,.slice none 0 0,.slice none 0 0] 26)).cell? ⟨w.heap.size,0,none⟩=some (.slice B1 m1 d1):=hbl.cell 0
 go_upto_if 6 with fail
 go_cut [6] (fun _ wx=>Block wx w.heap.size 26 #[.slice B1 (min m1 6) d1,.slice B2 m2 d2,.slice B3 m3 d3]∧Block wx (w.heap.size+1) 26 #[.slice none 0 0,.slice none 0 0,.slice none 0 0]∧Below w.heap.size w wx)
 case first =>
  have fr:=hbl.free 0
  by_cases h:(6:Int)<(m1:Int)
  ·have h2:(6:Int)≤(d1:Int):=by omega
   have e:min m1 6=6:=by omega
   have hN:=hid (boxes w (.slice B1 6 d1) (.slice B2 m2 d2) (.slice B3 m3 d3))
   go_wp2_with fail;go_meet;exact by rw [e]; exact hN.out
  ·have e:min m1 6=m1:=by omega
   have hN:=hid (show Block ((w.alloc (.cells #[.slice B1 m1 d1,.slice B2 m2 d2,.slice B3 m3 d3] 26)).alloc (.cells #[.slice none 0 0,.slice none 0 0,.slice none 0 0] 26)) w.heap.size 26 #[.slice B1 (min m1 6) d1,.slice B2 m2 d2,.slice B3 m3 d3] from by rw [e]; exact hbl)
   go_wp2_with fail;go_meet;exact ⟨hN.out,hbr,hb1⟩
 case rest =>
  obtain ⟨k1,r1,b1⟩:=hcut;obtain ⟨wp1,rfl⟩ : ∃ wp1,wp1=wc:=⟨_,rfl⟩
  have k0:wp1.cell? ⟨w.heap.size,2,none⟩=some (.slice B3 m3 d3):=k1.cell 2
  go_upto_if 14 with fail
  go_cut [14] (fun _ wx=>Block wx w.heap.size 26 #[.slice B1 (min m1 6) d1,.slice B2 m2 d2,.slice B3 (min m3 9) d3]∧Block wx (w.heap.size+1) 26 #[.slice none 0 0,.slice none 0 0,.slice none 0 0]∧Below w.heap.size w wx)
  case first =>
   have fr:=k1.free 2
   by_cases h:(9:Int)<(m3:Int)
   ·have h2:(9:Int)≤(d3:Int):=by omega
    have e:min m3 9=9:=by omega
    have hN:=hid (show Block (wp1.setCell ⟨w.heap.size,2,none⟩ (.slice B3 9 d3)) w.heap.size 26 #[.slice B1 (min m1 6) d1,.slice B2 m2 d2,.slice B3 (min m3 9) d3]∧Block (wp1.setCell ⟨w.heap.size,2,none⟩ (.slice B3 9 d3)) (w.heap.size+1) 26 #[.slice none 0 0,.slice none 0 0,.slice none 0 0]∧Below w.heap.size w (wp1.setCell ⟨w.heap.size,2,none⟩ (.slice B3 9 d3)) from
     ⟨by rw [e]; exact k1.Yo 2 _,r1.Yl w.heap.size 2 _ (by omega),b1.setCell (p:=⟨w.heap.size,2,none⟩) (Nat.le_refl _) _⟩)
    go_wp2_with fail;go_meet;exact hN.out
   ·have e:min m3 9=m3:=by omega
    have hN:=hid (show Block wp1 w.heap.size 26 #[.slice B1 (min m1 6) d1,.slice B2 m2 d2,.slice B3 (min m3 9) d3] from by rw [e]; exact k1)
    go_wp2_with fail;go_meet;exact ⟨hN.out,r1,b1⟩
  case rest =>
   obtain ⟨k2,r2,b2⟩:=hcut;obtain ⟨wp2,rfl⟩ : ∃ wp2,wp2=wc:=⟨_,rfl⟩
   have k0:wp2.cell? ⟨w.heap.size,1,none⟩=some (.slice B2 m2 d2):=k2.cell 1
   go_upto_if 22 with fail
   go_cut [22] (fun _ wx=>Block wx w.heap.size 26 #[.slice B1 (min m1 6) d1,.slice B2 (min m2 6) d2,.slice B3 (min m3 9) d3]∧Block wx (w.heap.size+1) 26 #[.slice none 0 0,.slice none 0 0,.slice none 0 0]∧Below w.heap.size w wx)
   case first =>
    have fr:=k2.free 1
    by_cases h:(6:Int)<(m2:Int)
    ·have h2:(6:Int)≤(d2:Int):=by omega
     have e:min m2 6=6:=by omega
     have hN:=hid (show Block (wp2.setCell ⟨w.heap.size,1,none⟩ (.slice B2 6 d2)) w.heap.size 26 #[.slice B1 (min m1 6) d1,.slice B2 (min m2 6) d2,.slice B3 (min m3 9) d3]∧Block (wp2.setCell ⟨w.heap.size,1,none⟩ (.slice B2 6 d2)) (w.heap.size+1) 26 #[.slice none 0 0,.slice none 0 0,.slice none 0 0]∧Below w.heap.size w (wp2.setCell ⟨w.heap.size,1,none⟩ (.slice B2 6 d2)) from
      ⟨by rw [e]; exact k2.Yo 1 _,r2.Yl w.heap.size 1 _ (by omega),b2.setCell (p:=⟨w.heap.size,1,none⟩) (Nat.le_refl _) _⟩)
     go_wp2_with fail;go_meet;exact hN.out
    ·have e:min m2 6=m2:=by omega
     have hN:=hid (show Block wp2 w.heap.size 26 #[.slice B1 (min m1 6) d1,.slice B2 (min m2 6) d2,.slice B3 (min m3 9) d3] from by rw [e]; exact k2)
     go_wp2_with fail;go_meet;exact ⟨hN.out,r2,b2⟩
   case rest =>
    obtain ⟨k3,r3,b3⟩:=hcut;obtain ⟨wp3,rfl⟩ : ∃ wp3,wp3=wc:=⟨_,rfl⟩
    have c0:wp3.cell? ⟨w.heap.size,0,none⟩=some (.slice B1 (min m1 6) d1):=k3.cell 0
    have z0:wp3.cell? ⟨w.heap.size+1,0,none⟩=some (.slice none 0 0):=r3.cell 0
    have y0:=r3.free 0
    have c1:wp3.cell? ⟨w.heap.size,1,none⟩=some (.slice B2 (min m2 6) d2):=k3.cell 1
    have z1:wp3.cell? ⟨w.heap.size+1,1,none⟩=some (.slice none 0 0):=r3.cell 1
    have y1:=r3.free 1
    have c2:wp3.cell? ⟨w.heap.size,2,none⟩=some (.slice B3 (min m3 9) d3):=k3.cell 2
    have z2:wp3.cell? ⟨w.heap.size+1,2,none⟩=some (.slice none 0 0):=r3.cell 2
    have y2:=r3.free 2
    have HR:=hid (((r3.Yo 0 (.slice B1 (min m1 6) d1)).Yo 1 (.slice B2 (min m2 6) d2)).Yo 2 (.slice B3 (min m3 9) d3))
    have HB:=hid (((b3.setCell (p:=⟨w.heap.size+1,0,none⟩) (Nat.le_succ _) (.slice B1 (min m1 6) d1)).setCell (p:=⟨w.heap.size+1,1,none⟩) (Nat.le_succ _) (.slice B2 (min m2 6) d2)).setCell (p:=⟨w.heap.size+1,2,none⟩) (Nat.le_succ _) (.slice B3 (min m3 9) d3))
    go_wp2_with fail;refine bodyPost_ret (Za rfl _ _ (w.heap.size+1) _ _ rfl HR.out Tryz.underlying26 rfl Ya1) rfl ?_;exact ⟨rfl,HB.out⟩
end Go.Proofs.YtkablhecedcngaaGreat
