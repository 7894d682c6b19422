/- CubD -/
import Derived.Test.YtmepdkdeanbbaaaGreatJ39
namespace Go.Proofs.YtmepdkdeanbbaaaGreat
set_option maxRecDepth 100000
set_option maxHeartbeats 8000000
open Go.RowKit
open World renaming size_alloc→aa
open Go.Lib (hid)
variable {w:World}{B:Nat}
section
open Go.RowKit Go.Sort
theorem Mt:(Tryz.prog.info? 3).map (·.size)=some 1:=by kernel_rfl
theorem Yn3:(Tryz.prog.info? 200).map (·.size)=some 7:=by kernel_rfl
theorem Yxw(n c d e f:Value)(l:List Int):splice [n,.int .i64 0,.int .i64 0,c,d,e,f] 1 ((l.take 2).map X6)=[n,.int .i64 (l.getD 0 0),.int .i64 (l.getD 1 0),c,d,e,f]:=by
 match l with
 |[]=>rfl
 |[_]=>rfl
 |_::_::_=>rfl
theorem Yxd(n c d e f:Value)(l:List Int):splice [n,c,d,.int .i64 0,.int .i64 0,e,f] 3 ((l.take 2).map X6)=[n,c,d,.int .i64 (l.getD 0 0),.int .i64 (l.getD 1 0),e,f]:=by
 match l with
 |[]=>rfl
 |[_]=>rfl
 |_::_::_=>rfl
theorem Yxq(n c d e f:Value)(l:List Int):splice [n,c,d,e,f,.int .i64 0,.int .i64 0] 5 ((l.take 2).map X6)=[n,c,d,e,f,.int .i64 (l.getD 0 0),.int .i64 (l.getD 1 0)]:=by
 match l with
 |[]=>rfl
 |[_]=>rfl
 |_::_::_=>rfl
theorem Yse{n c:Nat}{A:Option Addr}{l:List Int}(h:Y2 w B A n c l):∃cs,Hid ((l.take 2).map X6=cs)/\Hid (cs.length=Nat.min n 2)/\Hid (cs.length<=2)/\Hid (∀v∈cs,v.oneCell'=true)∧
  Hid (∀w':World,(∀b o,b<B->w'.cell? ⟨b,o,none⟩=w.cell? ⟨b,o,none⟩)->0<cs.length->∃ad,A=some ad/\∀j v,cs[j]?=some v->w'.cell? (ad.add j)=some v):=by
 refine⟨_,hid rfl,hid ?_,hid ?_,hid (Qv _),hid λw' hk h0=>?_⟩
 ·rw[List.length_map,List.length_take,h.len,Nat.min_comm]
 ·rw[List.length_map,List.length_take];exact Nat.min_le_left _ _
 ·have hl:0<(l.map X6).length:=by
   simp at h0⊢;omega
  obtain⟨b,o,e,hb,hc⟩:=h.has hl;refine⟨_,e,λj v hv=>?_⟩
  rw[Yu,hk b _ hb];refine hc j v ?_;rw[List.map_take,List.getElem?_take]at hv
  split at hv
  ·exact hv
  ·cases hv
abbrev Yw4(w:World)(r:Nat)(a b c d e f g:Value):World:=((((((w.setCell ⟨r,0,none⟩ a).setCell ⟨r,1,none⟩ b).setCell ⟨r,2,none⟩ c).setCell ⟨r,3,none⟩ d).setCell ⟨r,4,none⟩ e).setCell ⟨r,5,none⟩ f).setCell ⟨r,6,none⟩ g
theorem Block.Ywe{r:Nat}{T:TypeId}{a b c d e f g:Value}(h:Block w r T #[a,b,c,d,e,f,g])(a' b' c' d' e' f' g':Value):Block (Yw4 w r a' b' c' d' e' f' g') r T #[a',b',c',d',e',f',g']:=by
 have h1:Block _ r T #[a',b,c,d,e,f,g]:=h.Ys 0 a'
 have h2:Block _ r T #[a',b',c,d,e,f,g]:=h1.Ys 1 b'
 have h3:Block _ r T #[a',b',c',d,e,f,g]:=h2.Ys 2 c'
 have h4:Block _ r T #[a',b',c',d',e,f,g]:=h3.Ys 3 d'
 have h5:Block _ r T #[a',b',c',d',e',f,g]:=h4.Ys 4 e'
 have h6:Block _ r T #[a',b',c',d',e',f',g]:=h5.Ys 5 f'
 exact h6.Ys 6 g'
theorem Yka{w':World}(h:Below B w w'){r:Nat}(hr:B<=r)(a b c d e f g:Value):Below B w (Yw4 w' r a b c d e f g):=
 ((((((h.setCell (p:=⟨r,0,none⟩) hr _).setCell (p:=⟨r,1,none⟩) hr _).setCell (p:=⟨r,2,none⟩) hr _).setCell (p:=⟨r,3,none⟩) hr _).setCell (p:=⟨r,4,none⟩) hr _).setCell (p:=⟨r,5,none⟩) hr _).setCell (p:=⟨r,6,none⟩) hr _
theorem Yfi{n:Int}{A1 A2 A3:Option Addr}{n1 c1 n2 c2 n3 c3:Nat}{S M X:List Int}(h:Wi w w.heap.size A1 n1 c1 A2 n2 c2 A3 n3 c3 S M X):
  Calls Tryz.prog 176 #[.agg #[.int .i64 n,.slice A1 n1 c1,.slice A2 n2 c2,.slice A3 n3 c3]] w λe w'=>e=.returned (Li (n,S,M,X))/\Below w.heap.size w w':=by
 obtain⟨cs1,hc1,hn1,hl1,ho1,hp1⟩:=Yse h.s;obtain⟨cs2,hc2,hn2,hl2,ho2,hp2⟩:=Yse h.m;obtain⟨cs3,hc3,hn3,hl3,ho3,hp3⟩:=Yse h.x;clear h;obtain⟨a1,b1,E1⟩: ∃a b,Hid (S.getD 0 0=a/\S.getD 1 0=b):=⟨_,_,hid ⟨rfl,rfl⟩⟩;obtain⟨a2,b2,E2⟩: ∃a b,Hid (M.getD 0 0=a/\M.getD 1 0=b):=⟨_,_,hid ⟨rfl,rfl⟩⟩;obtain⟨a3,b3,E3⟩: ∃a b,Hid (X.getD 0 0=a/\X.getD 1 0=b):=⟨_,_,hid ⟨rfl,rfl⟩⟩
 have hb2:=Wz w (.cells #[.int .i64 n,.slice A1 n1 c1,.slice A2 n2 c2,.slice A3 n3 c3] 71) (.cells #[.int .i64 0,.int .i64 0,.int .i64 0,.int .i64 0,.int .i64 0,.int .i64 0,.int .i64 0] 200)
 have hB0:=(Block.new w 71 #[.int .i64 n,.slice A1 n1 c1,.slice A2 n2 c2,.slice A3 n3 c3]).alloc (.cells #[.int .i64 0,.int .i64 0,.int .i64 0,.int .i64 0,.int .i64 0,.int .i64 0,.int .i64 0] 200)
 have hB1:=Block.new (w.alloc (.cells #[.int .i64 n,.slice A1 n1 c1,.slice A2 n2 c2,.slice A3 n3 c3] 71)) 200 #[.int .i64 0,.int .i64 0,.int .i64 0,.int .i64 0,.int .i64 0,.int .i64 0,.int .i64 0]
 rw[aa]at hB1
 have hz:Hid (((w.alloc (.cells #[.int .i64 n,.slice A1 n1 c1,.slice A2 n2 c2,.slice A3 n3 c3] 71)).alloc (.cells #[.int .i64 0,.int .i64 0,.int .i64 0,.int .i64 0,.int .i64 0,.int .i64 0,.int .i64 0] 200)).heap.size=w.heap.size+1+1):=hid (by rw[aa,aa])
 go_enter Tryz.func176,Tryz.ntmps176;go_wp2_with fail
 have hb3:=Ya hb2 (Yb ((w.alloc (.cells #[.int .i64 n,.slice A1 n1 c1,.slice A2 n2 c2,.slice A3 n3 c3] 71)).alloc (.cells #[.int .i64 0,.int .i64 0,.int .i64 0,.int .i64 0,.int .i64 0,.int .i64 0,.int .i64 0] 200)) (.cells #[.int .i64 n,.int .i64 0,.int .i64 0,.int .i64 0,.int .i64 0,.int .i64 0,.int .i64 0] 200))
 have hG:=Block.new ((w.alloc (.cells #[.int .i64 n,.slice A1 n1 c1,.slice A2 n2 c2,.slice A3 n3 c3] 71)).alloc (.cells #[.int .i64 0,.int .i64 0,.int .i64 0,.int .i64 0,.int .i64 0,.int .i64 0,.int .i64 0] 200)) 200 #[.int .i64 n,.int .i64 0,.int .i64 0,.int .i64 0,.int .i64 0,.int .i64 0,.int .i64 0]
 rw[hz.out]at hG
 have hB0:=hB0.alloc (.cells #[.int .i64 n,.int .i64 0,.int .i64 0,.int .i64 0,.int .i64 0,.int .i64 0,.int .i64 0] 200)
 have hB1:=hB1.alloc (.cells #[.int .i64 n,.int .i64 0,.int .i64 0,.int .i64 0,.int .i64 0,.int .i64 0,.int .i64 0] 200)
 clear hb2;generalize ((w.alloc (.cells #[.int .i64 n,.slice A1 n1 c1,.slice A2 n2 c2,.slice A3 n3 c3] 71)).alloc (.cells #[.int .i64 0,.int .i64 0,.int .i64 0,.int .i64 0,.int .i64 0,.int .i64 0,.int .i64 0] 200)).alloc (.cells #[.int .i64 n,.int .i64 0,.int .i64 0,.int .i64 0,.int .i64 0,.int .i64 0,.int .i64 0] 200)=W at hB0 hB1 hG hb3⊢
 have K:Hid (∀y,Below (w.heap.size+1+1) W y->Block y w.heap.size 71 #[.int .i64 n,.slice A1 n1 c1,.slice A2 n2 c2,.slice A3 n3 c3]/\Block y (w.heap.size+1) 200 #[.int .i64 0,.int .i64 0,.int .i64 0,.int .i64 0,.int .i64 0,.int .i64 0,.int .i64 0]/\Below w.heap.size w y/\∀b o,b<w.heap.size->y.cell? ⟨b,o,none⟩=w.cell? ⟨b,o,none⟩):=hid λy hy=>by
  have hwy:=hb3.trans (hy.mono (by omega))
  exact⟨hB0.below hy (by omega),hB1.below hy (by omega),hwy,λb o hb=>hwy.cell (p:=⟨b,o,none⟩) hb⟩
 have k1:W.cell? ⟨w.heap.size,1,none⟩=some (.slice A1 n1 c1):=hB0.cell 1
 have HG1:Hid (W.drew.heap[w.heap.size+1+1]?=some (.cells ([.int .i64 n,.int .i64 0,.int .i64 0,.int .i64 0,.int .i64 0,.int .i64 0,.int .i64 0]:List Value).toArray 200 (0,0))):=hid hG
 have HP1:=hid (hp1.out W.drew (K.out _ (below_drewN (Below.refl _ W) 1)).2.2.2)
 have HD1:=hid (below_drewN (Below.refl (w.heap.size+1+1) W) 1)
 have HF1:Hid (1+cs1.length<=([.int .i64 n,.int .i64 0,.int .i64 0,.int .i64 0,.int .i64 0,.int .i64 0,.int .i64 0]:List Value).length):=hid (by have:=hl1.out;simp;omega)
 clear hB0 hB1 hG hb3 hz;go_region_law (refine step_copy_splice rfl _ _ 47 47 rfl 3 Tryz.underlying47 Mt _ A1 2 2 n1 c1 rfl rfl (w.heap.size+1+1) 1 [.int .i64 n,.int .i64 0,.int .i64 0,.int .i64 0,.int .i64 0,.int .i64 0,.int .i64 0] 200 HG1.out cs1 hn1.out (λh0=>⟨rfl,HP1.out h0⟩) HF1.out ho1.out (w.heap.size+1+1) _ HD1.out (Nat.le_refl _) ?_;intro w4 HG4 HB4)
 have HH4:Hid (splice [.int .i64 n,.int .i64 0,.int .i64 0,.int .i64 0,.int .i64 0,.int .i64 0,.int .i64 0] 1 cs1=[.int .i64 n,.int .i64 a1,.int .i64 b1,.int .i64 0,.int .i64 0,.int .i64 0,.int .i64 0]):=hid (by rw[<-hc1.out,Yxw,E1.out.1,E1.out.2])
 rw[HH4.out]at HG4;clear k1
 have k2:w4.cell? ⟨w.heap.size,2,none⟩=some (.slice A2 n2 c2):=(K.out _ HB4).1.cell 2
 have HP5:=hid (hp2.out w4.drew (K.out _ (below_drewN HB4 1)).2.2.2)
 have HQ5:=hid (below_drewN HB4 1)
 have HX5:Hid (w4.drew.heap[w.heap.size+1+1]?=some (.cells ([.int .i64 n,.int .i64 a1,.int .i64 b1,.int .i64 0,.int .i64 0,.int .i64 0,.int .i64 0]:List Value).toArray 200 (0,0))):=hid HG4.out
 have HF5:Hid (3+cs2.length<=([.int .i64 n,.int .i64 a1,.int .i64 b1,.int .i64 0,.int .i64 0,.int .i64 0,.int .i64 0]:List Value).length):=hid (by have:=hl2.out;simp;omega)
 clear HG4 HB4;go_wp2_with fail;go_region_law (refine step_copy_splice rfl _ _ 47 47 rfl 3 Tryz.underlying47 Mt _ A2 2 2 n2 c2 rfl rfl (w.heap.size+1+1) 3 [.int .i64 n,.int .i64 a1,.int .i64 b1,.int .i64 0,.int .i64 0,.int .i64 0,.int .i64 0] 200 HX5.out cs2 hn2.out (λh0=>⟨rfl,HP5.out h0⟩) HF5.out ho2.out (w.heap.size+1+1) _ HQ5.out (Nat.le_refl _) ?_;intro w5 HG5 HB5)
 have HH5:Hid (splice [.int .i64 n,.int .i64 a1,.int .i64 b1,.int .i64 0,.int .i64 0,.int .i64 0,.int .i64 0] 3 cs2=[.int .i64 n,.int .i64 a1,.int .i64 b1,.int .i64 a2,.int .i64 b2,.int .i64 0,.int .i64 0]):=hid (by rw[<-hc2.out,Yxd,E2.out.1,E2.out.2])
 rw[HH5.out]at HG5;clear k2
 have k3:w5.cell? ⟨w.heap.size,3,none⟩=some (.slice A3 n3 c3):=(K.out _ HB5).1.cell 3
 have HP6:=hid (hp3.out w5.drew (K.out _ (below_drewN HB5 1)).2.2.2)
 have HQ6:=hid (below_drewN HB5 1)
 have HX6:Hid (w5.drew.heap[w.heap.size+1+1]?=some (.cells ([.int .i64 n,.int .i64 a1,.int .i64 b1,.int .i64 a2,.int .i64 b2,.int .i64 0,.int .i64 0]:List Value).toArray 200 (0,0))):=hid HG5.out
 have HF6:Hid (5+cs3.length<=([.int .i64 n,.int .i64 a1,.int .i64 b1,.int .i64 a2,.int .i64 b2,.int .i64 0,.int .i64 0]:List Value).length):=hid (by have:=hl3.out;simp;omega)
 clear HG5 HB5;go_wp2_with fail;go_region_law (refine step_copy_splice rfl _ _ 47 47 rfl 3 Tryz.underlying47 Mt _ A3 2 2 n3 c3 rfl rfl (w.heap.size+1+1) 5 [.int .i64 n,.int .i64 a1,.int .i64 b1,.int .i64 a2,.int .i64 b2,.int .i64 0,.int .i64 0] 200 HX6.out cs3 hn3.out (λh0=>⟨rfl,HP6.out h0⟩) HF6.out ho3.out (w.heap.size+1+1) _ HQ6.out (Nat.le_refl _) ?_;intro w6 HG6 HB6)
 have HH6:Hid (splice [.int .i64 n,.int .i64 a1,.int .i64 b1,.int .i64 a2,.int .i64 b2,.int .i64 0,.int .i64 0] 5 cs3=[.int .i64 n,.int .i64 a1,.int .i64 b1,.int .i64 a2,.int .i64 b2,.int .i64 a3,.int .i64 b3]):=hid (by rw[<-hc3.out,Yxq,E3.out.1,E3.out.2])
 rw[HH6.out]at HG6;clear k3
 have hGG:Block w6 (w.heap.size+1+1) 200 #[.int .i64 n,.int .i64 a1,.int .i64 b1,.int .i64 a2,.int .i64 b2,.int .i64 a3,.int .i64 b3]:=HG6.out
 have g0:w6.cell? ⟨w.heap.size+1+1,0,none⟩=some (.int .i64 n):=hGG.cell 0
 have g1:w6.cell? ⟨w.heap.size+1+1,1,none⟩=some (.int .i64 a1):=hGG.cell 1
 have g2:w6.cell? ⟨w.heap.size+1+1,2,none⟩=some (.int .i64 b1):=hGG.cell 2
 have g3:w6.cell? ⟨w.heap.size+1+1,3,none⟩=some (.int .i64 a2):=hGG.cell 3
 have g4:w6.cell? ⟨w.heap.size+1+1,4,none⟩=some (.int .i64 b2):=hGG.cell 4
 have g5:w6.cell? ⟨w.heap.size+1+1,5,none⟩=some (.int .i64 a3):=hGG.cell 5
 have g6:w6.cell? ⟨w.heap.size+1+1,6,none⟩=some (.int .i64 b3):=hGG.cell 6
 have hr:=(K.out _ HB6).2.1
 have r0:w6.cell? ⟨w.heap.size+1,0,none⟩=some (.int .i64 0):=hr.cell 0
 have f0:=hr.free 0
 have r1:w6.cell? ⟨w.heap.size+1,1,none⟩=some (.int .i64 0):=hr.cell 1
 have f1:=hr.free 1
 have r2:w6.cell? ⟨w.heap.size+1,2,none⟩=some (.int .i64 0):=hr.cell 2
 have f2:=hr.free 2
 have r3:w6.cell? ⟨w.heap.size+1,3,none⟩=some (.int .i64 0):=hr.cell 3
 have f3:=hr.free 3
 have r4:w6.cell? ⟨w.heap.size+1,4,none⟩=some (.int .i64 0):=hr.cell 4
 have f4:=hr.free 4
 have r5:w6.cell? ⟨w.heap.size+1,5,none⟩=some (.int .i64 0):=hr.cell 5
 have f5:=hr.free 5
 have r6:w6.cell? ⟨w.heap.size+1,6,none⟩=some (.int .i64 0):=hr.cell 6
 have f6:=hr.free 6
 have HR:=hid (hr.Ywe (.int .i64 n) (.int .i64 a1) (.int .i64 b1) (.int .i64 a2) (.int .i64 b2) (.int .i64 a3) (.int .i64 b3))
 have HBB:=hid (Yka (r:=w.heap.size+1) (K.out _ HB6).2.2.1 (Nat.le_succ _) (.int .i64 n) (.int .i64 a1) (.int .i64 b1) (.int .i64 a2) (.int .i64 b2) (.int .i64 a3) (.int .i64 b3))
 have HV:Hid (Li (n,S,M,X)=.agg #[.int .i64 n,.int .i64 a1,.int .i64 b1,.int .i64 a2,.int .i64 b2,.int .i64 a3,.int .i64 b3]):=hid (by
  unfold Li kcs;simp only[E1.out.1,E1.out.2,E2.out.1,E2.out.2,E3.out.1,E3.out.2])
 clear hGG hr HG6 HB6 K;go_wp2_with fail;refine bodyPost_ret (Zi rfl _ _ (w.heap.size+1) _ _ rfl HR.out Tryz.underlying200 rfl Yn3) rfl ?_;exact⟨by rw[HV.out],HBB.out⟩
end
end Go.Proofs.YtmepdkdeanbbaaaGreat
