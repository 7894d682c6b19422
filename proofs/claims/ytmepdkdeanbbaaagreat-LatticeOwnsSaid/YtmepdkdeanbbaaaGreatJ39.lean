/- CubC -/
import Derived.Test.YtmepdkdeanbbaaaGreatJ26
import Derived.Test.YtmepdkdeanbbaaaGreatJ30
import Derived.Laws.CopyOwn
import Derived.Sort.Grow
namespace Go.Proofs.YtmepdkdeanbbaaaGreat
set_option maxRecDepth 100000
set_option maxHeartbeats 8000000
open Go.RowKit
open List renaming getElem?_take→aa,map_take→ae
open Go.Lib (hid)
variable {w:World}{m:Nat}
section
open Go.RowKit Go.Sort
/-! ### a row within a block -/
theorem Y2.part{g:Nat}{T:TypeId}{cs:Array Value}(h:Block w g T cs)(o m c:Nat)(l:List Int)(hl:l.length=m)(hmc:m<=c)(hc:c<=1000)(hcs:∀j u,(l.map X6)[j]?=some u->cs[o+j]?=some u):Y2 w w.heap.size (some ⟨g,o,none⟩) m c l:=
 ⟨hl,hmc,by unfold maxLen;omega,(λe=>by cases e),λ_=>⟨g,o,rfl,h.lt,λj u hu=>by rw[h.cell];exact hcs j u hu⟩⟩
/-! ### a key's cmp -/
def cf3(x y:Int×Int×Int):Int:=Oz (Nh x) (Nh y)
def Tf(x:Int×Int×Int):List Value:=[.int .i64 x.1,.int .i64 x.2.1,.int .i64 x.2.2]
theorem Yjg(a b c a' b' c':Int)(w:World):
  Calls Tryz.prog 179 #[.agg #[.int .i64 a,.int .i64 b,.int .i64 c],.agg #[.int .i64 a',.int .i64 b',.int .i64 c']] w λe w'=>e=.returned (.int .i64 (Oz [a,b,c] [a',b',c']))/\∃q os,w'=grow (w.drewN q) os:=by
 have h1:=(Block.new w 178 #[.int .i64 a,.int .i64 b,.int .i64 c]).alloc (.cells #[.int .i64 a',.int .i64 b',.int .i64 c'] 178)
 have h2:=Block.new (w.alloc (.cells #[.int .i64 a,.int .i64 b,.int .i64 c] 178)) 178 #[.int .i64 a',.int .i64 b',.int .i64 c']
 rw[World.size_alloc]at h2
 have hW:Hid ((w.alloc (.cells #[.int .i64 a,.int .i64 b,.int .i64 c] 178)).alloc (.cells #[.int .i64 a',.int .i64 b',.int .i64 c'] 178)=grow w #[.cells #[.int .i64 a,.int .i64 b,.int .i64 c] 178,.cells #[.int .i64 a',.int .i64 b',.int .i64 c'] 178]):=hid (by rw[alloc_eq_grow,alloc_eq_grow,grow_grow];rfl)
 go_enter Tryz.func179,Tryz.ntmps179;go_wp2_with fail;generalize (w.alloc (.cells #[.int .i64 a,.int .i64 b,.int .i64 c] 178)).alloc (.cells #[.int .i64 a',.int .i64 b',.int .i64 c'] 178)=W at h1 h2 hW⊢
 have HC:=hid λn=>Yc9 (w:=W.drewN n) ((Y2.part h1 0 3 3 [a,b,c] rfl (by decide) (by decide) (λj u hu=>by
  match j with
  |0=>exact hu
  |1=>exact hu
  |2=>exact hu
  |j+3=>simp at hu)).drewN n) ((Y2.part h2 0 3 3 [a',b',c'] rfl (by decide) (by decide) (λj u hu=>by
  match j with
  |0=>exact hu
  |1=>exact hu
  |2=>exact hu
  |j+3=>simp at hu)).drewN n)
 clear h1 h2;go_quiet ((go_at_call 230;exact Yih (HC.out _)));go_wp2_with fail;go_ret;exact⟨rfl,_,_,by rw[hW.out];rfl⟩
theorem Ytd(x y:Int×Int×Int)(w:World):Calls Tryz.prog 179 #[.agg (Tf x).toArray,.agg (Tf y).toArray] w λe w'=>e=.returned (.int .i64 (cf3 x y))/\∃q os,w'=grow (w.drewN q) os:=Yjg _ _ _ _ _ _ w
/-! ### a cell as it is kept -/
def kcs(x:PC):List Value:=[.int .i64 x.1,.int .i64 (x.2.1.getD 0 0),.int .i64 (x.2.1.getD 1 0),.int .i64 (x.2.2.1.getD 0 0),.int .i64 (x.2.2.1.getD 1 0),.int .i64 (x.2.2.2.getD 0 0),.int .i64 (x.2.2.2.getD 1 0)]
def Li(x:PC):Value:=.agg (kcs x).toArray
theorem Cm{l:List Int}(hl:l.length=m)(hm:m<=2):[l.getD 0 0,l.getD 1 0].take m=l:=by
 subst hl
 match l,hm with
 |[],_=>rfl
 |[_],_=>rfl
 |[_,_],_=>rfl
 |_::_::_::_,h=>simp at h
theorem Ypz{n a b c d e f:Int}(h0:0<m)(hm:m<=2):
  Calls Tryz.prog 182 #[.agg #[.int .i64 n,.int .i64 a,.int .i64 b,.int .i64 c,.int .i64 d,.int .i64 e,.int .i64 f],.int .i64 m] w λE w'=>∃v1 v2 v3,E=.returned (.agg #[.int .i64 n,v1,v2,v3])/\X7 w' w.heap.size v1 v2 v3 ([a,b].take m) ([c,d].take m) ([e,f].take m)/\Below w.heap.size w w':=by
 have h1:=(Block.new w 200 #[.int .i64 n,.int .i64 a,.int .i64 b,.int .i64 c,.int .i64 d,.int .i64 e,.int .i64 f]).alloc (.cells #[.int .i64 0,.slice none 0 0,.slice none 0 0,.slice none 0 0] 71)
 have h2:=Block.new (w.alloc (.cells #[.int .i64 n,.int .i64 a,.int .i64 b,.int .i64 c,.int .i64 d,.int .i64 e,.int .i64 f] 200)) 71 #[.int .i64 0,.slice none 0 0,.slice none 0 0,.slice none 0 0]
 rw[World.size_alloc]at h2
 have hb2:=Wz w (.cells #[.int .i64 n,.int .i64 a,.int .i64 b,.int .i64 c,.int .i64 d,.int .i64 e,.int .i64 f] 200) (.cells #[.int .i64 0,.slice none 0 0,.slice none 0 0,.slice none 0 0] 71)
 have i0:(0:Int)<=(m:Int):=by omega
 have i1:(m:Int)<=2:=by omega
 go_enter Tryz.func182,Tryz.ntmps182;go_wp2_with fail;generalize (w.alloc (.cells #[.int .i64 n,.int .i64 a,.int .i64 b,.int .i64 c,.int .i64 d,.int .i64 e,.int .i64 f] 200)).alloc (.cells #[.int .i64 0,.slice none 0 0,.slice none 0 0,.slice none 0 0] 71)=W at h1 h2 hb2⊢
 have K:Hid (∀y,Below W.heap.size W y->Block y w.heap.size 200 #[.int .i64 n,.int .i64 a,.int .i64 b,.int .i64 c,.int .i64 d,.int .i64 e,.int .i64 f]/\Block y (w.heap.size+1) 71 #[.int .i64 0,.slice none 0 0,.slice none 0 0,.slice none 0 0]):=hid λy hy=>⟨h1.below hy h1.lt,h2.below hy h2.lt⟩
 have hr2':=hid h2.lt
 have HI1:Hid (∀y,Below W.heap.size W y->Y2 y y.heap.size (some ⟨w.heap.size,1,none⟩) m 2 ([a,b].take m)):=hid λy hy=>Y2.part (h1.below hy h1.lt) 1 m 2 _ (by simp;omega) hm (by decide) (λj u hu=>by
  rw[ae,aa]at hu
  split at hu
  ·match j with
   |0=>exact hu
   |1=>exact hu
   |j+2=>simp at hu
  ·cases hu)
 have HI2:Hid (∀y,Below W.heap.size W y->Y2 y y.heap.size (some ⟨w.heap.size,3,none⟩) m 2 ([c,d].take m)):=hid λy hy=>Y2.part (h1.below hy h1.lt) 3 m 2 _ (by simp;omega) hm (by decide) (λj u hu=>by
  rw[ae,aa]at hu
  split at hu
  ·match j with
   |0=>exact hu
   |1=>exact hu
   |j+2=>simp at hu
  ·cases hu)
 have HI3:Hid (∀y,Below W.heap.size W y->Y2 y y.heap.size (some ⟨w.heap.size,5,none⟩) m 2 ([e,f].take m)):=hid λy hy=>Y2.part (h1.below hy h1.lt) 5 m 2 _ (by simp;omega) hm (by decide) (λj u hu=>by
  rw[ae,aa]at hu
  split at hu
  ·match j with
   |0=>exact hu
   |1=>exact hu
   |j+2=>simp at hu
  ·cases hu)
 have K0:Hid (∀y,Below W.heap.size W y->y.cell? ⟨w.heap.size,0,none⟩=some (.int .i64 n)):=hid λy hy=>(K.out y hy).1.cell 0
 have k0:W.cell? ⟨w.heap.size,0,none⟩=some (.int .i64 n):=h1.cell 0
 have hm6:m<=1000000:=by omega
 have d0:Below W.heap.size W W.drew:=below_drewN (Below.refl _ W) 1
 have HX:=hid d0
 have C1:=hid (Tn (HI1.out _ d0) hm6)
 clear h1 h2 d0;go_region_held3 (λw'=>w'.cell? ⟨w.heap.size,0,none⟩=some (.int .i64 n))
  (first
   |go_keep
   |exact K0.out _ hBB3
   |exact K0.out _ hBB2
   |exact K0.out _ hBB1)
  (first
   |(go_at_call 91;have hh:=C3.out;refine hh.mono ?_;rintro e w3 ⟨⟨v3,rfl,hO3⟩,hB3⟩;obtain⟨A3,n3,c3,rfl,_⟩:=hO3.Yr;have hBB3:=hBB2.trans (hB3.mono hBB2.size);have hr2:=(K.out _ hBB3).2;have d0:w3.cell? ⟨w.heap.size+1,0,none⟩=some (.int .i64 0):=hr2.cell 0;have d1:w3.cell? ⟨w.heap.size+1,1,none⟩=some (.slice none 0 0):=hr2.cell 1;have d2:w3.cell? ⟨w.heap.size+1,2,none⟩=some (.slice none 0 0):=hr2.cell 2;have d3:w3.cell? ⟨w.heap.size+1,3,none⟩=some (.slice none 0 0):=hr2.cell 3;have f0:=hr2.free 0;have f1:=hr2.free 1;have f2:=hr2.free 2;have f3:=hr2.free 3)
   |(go_at_call 91;have hh:=C2.out;refine hh.mono ?_;rintro e w2 ⟨⟨v2,rfl,hO2⟩,hB2⟩;obtain⟨A2,n2,c2,rfl,_⟩:=hO2.Yr;have hBB2:=hBB1.trans (hB2.mono hBB1.size);have C3:=hid (Tn (HI3.out _ hBB2) hm6))
   |(go_at_call 91;have hh:=C1.out;refine hh.mono ?_;rintro e w1 ⟨⟨v1,rfl,hO1⟩,hB1⟩;obtain⟨A1,n1,c1,rfl,_⟩:=hO1.Yr;have hBB1:=HX.out.trans (hB1.mono HX.out.size);have C2:=hid (Tn (HI2.out _ hBB1) hm6)))
 have hr2:=(K.out _ hBB3).2
 have hR:=hid (hr2.Zp (.int .i64 n) (.slice A1 n1 c1) (.slice A2 n2 c2) (.slice A3 n3 c3))
 have hz:w.heap.size+1<W.heap.size:=hr2'.out
 have hBz:=hBB1.size
 have hBw:=HX.out.size
 have hO:X7 w3 W.heap.size (.slice A1 n1 c1) (.slice A2 n2 c2) (.slice A3 n3 c3) ([a,b].take m) ([c,d].take m) ([e,f].take m):=⟨((hO1.below hB2 (Nat.le_refl _)).below hB3 (Nat.le_refl _)).low hBw,(hO2.below hB3 (Nat.le_refl _)).low hBz,hO3.low hBB2.size⟩
 have hF:=hid (X7.Zp (r:=w.heap.size+1) hO hz (.int .i64 n) (.slice A1 n1 c1) (.slice A2 n2 c2) (.slice A3 n3 c3))
 have hG:=hid (Yq (r:=w.heap.size+1) (Ya hb2 hBB3) (Nat.le_succ _) (.int .i64 n) (.slice A1 n1 c1) (.slice A2 n2 c2) (.slice A3 n3 c3))
 have hs2:=hb2.size
 clear hO1 hO2 hO3 hO hB1 hB2 hB3 hBB1 hBB2 hBB3 hr2 d0 d1 d2 d3 f0 f1 f2 f3 K K0 HI1 HI2 HI3 C1 C2 C3 HX k0;go_wp2_with fail;refine bodyPost_ret (Zi rfl _ _ (w.heap.size+1) _ _ rfl hR.out Tryz.underlying71 rfl Yz) rfl ?_;exact⟨_,_,_,rfl,⟨hF.out.s.low hs2,hF.out.m.low hs2,hF.out.x.low hs2⟩,hG.out⟩
end
end Go.Proofs.YtmepdkdeanbbaaaGreat
