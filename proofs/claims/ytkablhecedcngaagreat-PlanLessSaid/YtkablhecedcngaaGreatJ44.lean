/- CubC, CubD -/
import Derived.Test.YtkablhecedcngaaGreatJ28
import Derived.Test.YtkablhecedcngaaGreatJ37
import Derived.Laws.CopyOwn
import Derived.Sort.Grow
namespace Go.Proofs.YtkablhecedcngaaGreat
set_option maxRecDepth 100000
set_option maxHeartbeats 8000000
open Go.RowKit
open Go.Lib (hid)
variable {w:World}{T:TypeId}{l:List Int}{B m:Nat}{n:Int}
section
open Go.RowKit Go.Sort
/-! ### a row within a block -/
theorem Yx.part {g:Nat}{cs:Array Value} (h:Block w g T cs) (o m c:Nat) (l:List Int) (hl:l.length=m) (hmc:m≤c) (hc:c≤1000) (hcs:∀ j u,(l.map Xe)[j]?=some u→cs[o+j]?=some u):Yx w w.heap.size (some ⟨g,o,none⟩) m c l :=
 ⟨hl,hmc,by unfold maxLen; omega,(fun e=>by cases e),fun _=>⟨g,o,rfl,h.lt,fun j u hu=>by rw [h.cell]; exact hcs j u hu⟩⟩
/-! ### a key's cmp -/
def cf3 (x y:Int × Int × Int):Int:=Qi (Pe x) (Pe y)
def Uz (x:Int × Int × Int):List Value:=[.int .i64 x.1,.int .i64 x.2.1,.int .i64 x.2.2]
theorem Ygb (a b c a' b' c' : Int) (w:World) :
  Calls Tryz.prog 156 #[.agg #[.int .i64 a,.int .i64 b,.int .i64 c],.agg #[.int .i64 a',.int .i64 b',.int .i64 c']] w fun e w'=>e=.returned (.int .i64 (Qi [a,b,c] [a',b',c']))∧∃ q os,w'=grow (w.drewN q) os:=by
 have h1:=(Block.new w 177 #[.int .i64 a,.int .i64 b,.int .i64 c]).alloc (.cells #[.int .i64 a',.int .i64 b',.int .i64 c'] 177)
 have h2:=Block.new (w.alloc (.cells #[.int .i64 a,.int .i64 b,.int .i64 c] 177)) 177 #[.int .i64 a',.int .i64 b',.int .i64 c']
 rw [World.size_alloc] at h2
 have hW:Hid ((w.alloc (.cells #[.int .i64 a,.int .i64 b,.int .i64 c] 177)).alloc (.cells #[.int .i64 a',.int .i64 b',.int .i64 c'] 177)=grow w #[.cells #[.int .i64 a,.int .i64 b,.int .i64 c] 177,.cells #[.int .i64 a',.int .i64 b',.int .i64 c'] 177]):=hid (by rw [alloc_eq_grow,alloc_eq_grow,grow_grow]; rfl)
 go_enter Tryz.func156,Tryz.ntmps156;go_wp2_with fail;generalize (w.alloc (.cells #[.int .i64 a,.int .i64 b,.int .i64 c] 177)).alloc (.cells #[.int .i64 a',.int .i64 b',.int .i64 c'] 177)=W at h1 h2 hW ⊢
 have HC:=hid fun n=>Yat (w:=W.drewN n) ((Yx.part h1 0 3 3 [a,b,c] rfl (by decide) (by decide) (fun j u hu=>by
  match j with
  | 0=>exact hu
  | 1=>exact hu
  | 2=>exact hu
  | j+3=>simp at hu)).drewN n) ((Yx.part h2 0 3 3 [a',b',c'] rfl (by decide) (by decide) (fun j u hu=>by
  match j with
  | 0=>exact hu
  | 1=>exact hu
  | 2=>exact hu
  | j+3=>simp at hu)).drewN n)
 clear h1 h2;go_quiet ((go_at_call 171; exact P1 (HC.out _)));go_wp2_with fail;go_ret;exact ⟨rfl,_,_,by rw [hW.out]; rfl⟩
theorem Yqy (x y:Int × Int × Int) (w:World):Calls Tryz.prog 156 #[.agg (Uz x).toArray,.agg (Uz y).toArray] w fun e w'=>e=.returned (.int .i64 (cf3 x y))∧∃ q os,w'=grow (w.drewN q) os:=Ygb _ _ _ _ _ _ w
/-! ### a cell as it is kept -/
def kcs (x:PC):List Value:=[.int .i64 x.1,.int .i64 (x.2.1.getD 0 0),.int .i64 (x.2.1.getD 1 0),.int .i64 (x.2.2.1.getD 0 0),.int .i64 (x.2.2.1.getD 1 0),.int .i64 (x.2.2.2.getD 0 0),.int .i64 (x.2.2.2.getD 1 0)]
def M1 (x:PC):Value:=.agg (kcs x).toArray
theorem Di (hl:l.length=m) (hm:m≤2) : [l.getD 0 0,l.getD 1 0].take m=l:=by
 subst hl
 match l,hm with
 | [],_=>rfl
 | [_],_=>rfl
 | [_,_],_=>rfl
 | _ :: _ :: _ :: _,h=>simp at h
theorem Ym5 {a b c d e f:Int} (h0:0<m) (hm:m≤2) :
  Calls Tryz.prog 145 #[.agg #[.int .i64 n,.int .i64 a,.int .i64 b,.int .i64 c,.int .i64 d,.int .i64 e,.int .i64 f],.int .i64 m] w fun E w'=>∃ v1 v2 v3,E=.returned (.agg #[.int .i64 n,v1,v2,v3])∧X5 w' w.heap.size v1 v2 v3 ([a,b].take m) ([c,d].take m) ([e,f].take m)∧Below w.heap.size w w':=by
 have h1:=(Block.new w 184 #[.int .i64 n,.int .i64 a,.int .i64 b,.int .i64 c,.int .i64 d,.int .i64 e,.int .i64 f]).alloc (.cells #[.int .i64 0,.slice none 0 0,.slice none 0 0,.slice none 0 0] 105)
 have h2:=Block.new (w.alloc (.cells #[.int .i64 n,.int .i64 a,.int .i64 b,.int .i64 c,.int .i64 d,.int .i64 e,.int .i64 f] 184)) 105 #[.int .i64 0,.slice none 0 0,.slice none 0 0,.slice none 0 0]
 rw [World.size_alloc] at h2
 have hb2:=We w (.cells #[.int .i64 n,.int .i64 a,.int .i64 b,.int .i64 c,.int .i64 d,.int .i64 e,.int .i64 f] 184) (.cells #[.int .i64 0,.slice none 0 0,.slice none 0 0,.slice none 0 0] 105)
 have i0:(0:Int)≤(m:Int):=by omega
 have i1:(m:Int)≤2:=by omega
 go_enter Tryz.func145,Tryz.ntmps145;go_wp2_with fail;generalize (w.alloc (.cells #[.int .i64 n,.int .i64 a,.int .i64 b,.int .i64 c,.int .i64 d,.int .i64 e,.int .i64 f] 184)).alloc (.cells #[.int .i64 0,.slice none 0 0,.slice none 0 0,.slice none 0 0] 105)=W at h1 h2 hb2 ⊢
 have K:Hid (∀ y,Below W.heap.size W y→Block y w.heap.size 184 #[.int .i64 n,.int .i64 a,.int .i64 b,.int .i64 c,.int .i64 d,.int .i64 e,.int .i64 f]∧Block y (w.heap.size+1) 105 #[.int .i64 0,.slice none 0 0,.slice none 0 0,.slice none 0 0]):=hid fun y hy=>⟨h1.below hy h1.lt,h2.below hy h2.lt⟩
 have hr2':=hid h2.lt
 have HI1:Hid (∀ y,Below W.heap.size W y→Yx y y.heap.size (some ⟨w.heap.size,1,none⟩) m 2 ([a,b].take m)):=hid fun y hy=>Yx.part (h1.below hy h1.lt) 1 m 2 _ (by simp; omega) hm (by decide) (fun j u hu=>by
  rw [List.map_take,List.getElem?_take] at hu
  split at hu
  ·match j with
   | 0=>exact hu
   | 1=>exact hu
   | j+2=>simp at hu
  ·cases hu)
 have HI2:Hid (∀ y,Below W.heap.size W y→Yx y y.heap.size (some ⟨w.heap.size,3,none⟩) m 2 ([c,d].take m)):=hid fun y hy=>Yx.part (h1.below hy h1.lt) 3 m 2 _ (by simp; omega) hm (by decide) (fun j u hu=>by
  rw [List.map_take,List.getElem?_take] at hu
  split at hu
  ·match j with
   | 0=>exact hu
   | 1=>exact hu
   | j+2=>simp at hu
  ·cases hu)
 have HI3:Hid (∀ y,Below W.heap.size W y→Yx y y.heap.size (some ⟨w.heap.size,5,none⟩) m 2 ([e,f].take m)):=hid fun y hy=>Yx.part (h1.below hy h1.lt) 5 m 2 _ (by simp; omega) hm (by decide) (fun j u hu=>by
  rw [List.map_take,List.getElem?_take] at hu
  split at hu
  ·match j with
   | 0=>exact hu
   | 1=>exact hu
   | j+2=>simp at hu
  ·cases hu)
 have K0:Hid (∀ y,Below W.heap.size W y→y.cell? ⟨w.heap.size,0,none⟩=some (.int .i64 n)):=hid fun y hy=>(K.out y hy).1.cell 0
 have k0:W.cell? ⟨w.heap.size,0,none⟩=some (.int .i64 n):=h1.cell 0
 have hm6:m≤1000000:=by omega
 have d0:Below W.heap.size W W.drew:=below_drewN (Below.refl _ W) 1
 have HX:=hid d0
 have C1:=hid (V9 (HI1.out _ d0) hm6)
 clear h1 h2 d0;go_region_held3 (fun w'=>w'.cell? ⟨w.heap.size,0,none⟩=some (.int .i64 n))
  (first
   | go_keep
   | exact K0.out _ hBB3
   | exact K0.out _ hBB2
   | exact K0.out _ hBB1)
  (first
   | (go_at_call 37; have hh:=C3.out; refine hh.mono ?_; rintro e w3 ⟨⟨v3,rfl,hO3⟩,hB3⟩; obtain ⟨A3,n3,c3,rfl,_⟩:=hO3.Yu; have hBB3:=hBB2.trans (hB3.mono hBB2.size); have hr2:=(K.out _ hBB3).2; have d0:w3.cell? ⟨w.heap.size+1,0,none⟩=some (.int .i64 0):=hr2.cell 0; have d1:w3.cell? ⟨w.heap.size+1,1,none⟩=some (.slice none 0 0):=hr2.cell 1; have d2:w3.cell? ⟨w.heap.size+1,2,none⟩=some (.slice none 0 0):=hr2.cell 2; have d3:w3.cell? ⟨w.heap.size+1,3,none⟩=some (.slice none 0 0):=hr2.cell 3; have f0:=hr2.free 0; have f1:=hr2.free 1; have f2:=hr2.free 2; have f3:=hr2.free 3)
   | (go_at_call 37; have hh:=C2.out; refine hh.mono ?_; rintro e w2 ⟨⟨v2,rfl,hO2⟩,hB2⟩; obtain ⟨A2,n2,c2,rfl,_⟩:=hO2.Yu; have hBB2:=hBB1.trans (hB2.mono hBB1.size); have C3:=hid (V9 (HI3.out _ hBB2) hm6))
   | (go_at_call 37; have hh:=C1.out; refine hh.mono ?_; rintro e w1 ⟨⟨v1,rfl,hO1⟩,hB1⟩; obtain ⟨A1,n1,c1,rfl,_⟩:=hO1.Yu; have hBB1:=HX.out.trans (hB1.mono HX.out.size); have C2:=hid (V9 (HI2.out _ hBB1) hm6)))
 have hr2:=(K.out _ hBB3).2
 have hR:=hid (hr2.Zy (.int .i64 n) (.slice A1 n1 c1) (.slice A2 n2 c2) (.slice A3 n3 c3))
 have hz:w.heap.size+1<W.heap.size:=hr2'.out
 have hBz:=hBB1.size
 have hBw:=HX.out.size
 have hO:X5 w3 W.heap.size (.slice A1 n1 c1) (.slice A2 n2 c2) (.slice A3 n3 c3) ([a,b].take m) ([c,d].take m) ([e,f].take m):=⟨((hO1.below hB2 (Nat.le_refl _)).below hB3 (Nat.le_refl _)).low hBw,(hO2.below hB3 (Nat.le_refl _)).low hBz,hO3.low hBB2.size⟩
 have hF:=hid (X5.Zy (r:=w.heap.size+1) hO hz (.int .i64 n) (.slice A1 n1 c1) (.slice A2 n2 c2) (.slice A3 n3 c3))
 have hG:=hid (Y0 (r:=w.heap.size+1) (Yb hb2 hBB3) (Nat.le_succ _) (.int .i64 n) (.slice A1 n1 c1) (.slice A2 n2 c2) (.slice A3 n3 c3))
 have hs2:=hb2.size
 clear hO1 hO2 hO3 hO hB1 hB2 hB3 hBB1 hBB2 hBB3 hr2 d0 d1 d2 d3 f0 f1 f2 f3 K K0 HI1 HI2 HI3 C1 C2 C3 HX k0;go_wp2_with fail;refine bodyPost_ret (Za rfl _ _ (w.heap.size+1) _ _ rfl hR.out Tryz.underlying105 rfl Y5) rfl ?_;exact ⟨_,_,_,rfl,⟨hF.out.s.low hs2,hF.out.m.low hs2,hF.out.x.low hs2⟩,hG.out⟩
end
section
open Go.RowKit Go.Sort
theorem Oq:(Tryz.prog.info? 3).map (·.size)=some 1:=by kernel_rfl
theorem Ykc:(Tryz.prog.info? 184).map (·.size)=some 7:=by kernel_rfl
theorem Yuh (n c d e f:Value) (l:List Int):splice [n,.int .i64 0,.int .i64 0,c,d,e,f] 1 ((l.take 2).map Xe)=[n,.int .i64 (l.getD 0 0),.int .i64 (l.getD 1 0),c,d,e,f]:=by
 match l with
 | []=>rfl
 | [_]=>rfl
 | _ :: _ :: _=>rfl
theorem Yui (n c d e f:Value) (l:List Int):splice [n,c,d,.int .i64 0,.int .i64 0,e,f] 3 ((l.take 2).map Xe)=[n,c,d,.int .i64 (l.getD 0 0),.int .i64 (l.getD 1 0),e,f]:=by
 match l with
 | []=>rfl
 | [_]=>rfl
 | _ :: _ :: _=>rfl
theorem Yuj (n c d e f:Value) (l:List Int):splice [n,c,d,e,f,.int .i64 0,.int .i64 0] 5 ((l.take 2).map Xe)=[n,c,d,e,f,.int .i64 (l.getD 0 0),.int .i64 (l.getD 1 0)]:=by
 match l with
 | []=>rfl
 | [_]=>rfl
 | _ :: _ :: _=>rfl
theorem Ymk {n c:Nat}{A:Option Addr} (h:Yx w B A n c l):∃ cs,Hid ((l.take 2).map Xe=cs)∧Hid (cs.length=Nat.min n 2)∧Hid (cs.length≤2)∧Hid (∀ v∈cs,v.oneCell'=true) ∧
  Hid (∀ w' : World,(∀ b o,b<B→w'.cell? ⟨b,o,none⟩=w.cell? ⟨b,o,none⟩)→0<cs.length→∃ ad,A=some ad∧∀ j v,cs[j]?=some v→w'.cell? (ad.add j)=some v):=by
 refine ⟨_,hid rfl,hid ?_,hid ?_,hid (R4 _),hid fun w' hk h0=>?_⟩
 ·rw [List.length_map,List.length_take,h.len,Nat.min_comm]
 ·rw [List.length_map,List.length_take]; exact Nat.min_le_left _ _
 ·have hl:0<(l.map Xe).length:=by
   simp at h0 ⊢;omega
  obtain ⟨b,o,e,hb,hc⟩:=h.has hl;refine ⟨_,e,fun j v hv=>?_⟩
  rw [Yt,hk b _ hb];refine hc j v ?_;rw [List.map_take,List.getElem?_take] at hv
  split at hv
  ·exact hv
  ·cases hv
abbrev Ytt (w:World) (r:Nat) (a b c d e f g:Value):World:=((((((w.setCell ⟨r,0,none⟩ a).setCell ⟨r,1,none⟩ b).setCell ⟨r,2,none⟩ c).setCell ⟨r,3,none⟩ d).setCell ⟨r,4,none⟩ e).setCell ⟨r,5,none⟩ f).setCell ⟨r,6,none⟩ g
theorem Block.Ytu {r:Nat}{a b c d e f g:Value} (h:Block w r T #[a,b,c,d,e,f,g]) (a' b' c' d' e' f' g' : Value):Block (Ytt w r a' b' c' d' e' f' g') r T #[a',b',c',d',e',f',g']:=by
 have h1:Block _ r T #[a',b,c,d,e,f,g]:=h.Yo 0 a'
 have h2:Block _ r T #[a',b',c,d,e,f,g]:=h1.Yo 1 b'
 have h3:Block _ r T #[a',b',c',d,e,f,g]:=h2.Yo 2 c'
 have h4:Block _ r T #[a',b',c',d',e,f,g]:=h3.Yo 3 d'
 have h5:Block _ r T #[a',b',c',d',e',f,g]:=h4.Yo 4 e'
 have h6:Block _ r T #[a',b',c',d',e',f',g]:=h5.Yo 5 f'
 exact h6.Yo 6 g'
theorem Yfi {w':World} (h:Below B w w') {r:Nat}(hr:B≤r) (a b c d e f g:Value):Below B w (Ytt w' r a b c d e f g) :=
 ((((((h.setCell (p:=⟨r,0,none⟩) hr _).setCell (p:=⟨r,1,none⟩) hr _).setCell (p:=⟨r,2,none⟩) hr _).setCell (p:=⟨r,3,none⟩) hr _).setCell (p:=⟨r,4,none⟩) hr _).setCell (p:=⟨r,5,none⟩) hr _).setCell (p:=⟨r,6,none⟩) hr _
theorem Ydj {A1 A2 A3:Option Addr}{n1 c1 n2 c2 n3 c3:Nat}{S M X:List Int} (h:Ww w w.heap.size A1 n1 c1 A2 n2 c2 A3 n3 c3 S M X) :
  Calls Tryz.prog 121 #[.agg #[.int .i64 n,.slice A1 n1 c1,.slice A2 n2 c2,.slice A3 n3 c3]] w fun e w'=>e=.returned (M1 (n,S,M,X))∧Below w.heap.size w w':=by
 obtain ⟨cs1,hc1,hn1,hl1,ho1,hp1⟩:=Ymk h.s;obtain ⟨cs2,hc2,hn2,hl2,ho2,hp2⟩:=Ymk h.m;obtain ⟨cs3,hc3,hn3,hl3,ho3,hp3⟩:=Ymk h.x;clear h;obtain ⟨a1,b1,E1⟩ : ∃ a b,Hid (S.getD 0 0=a∧S.getD 1 0=b):=⟨_,_,hid ⟨rfl,rfl⟩⟩;obtain ⟨a2,b2,E2⟩ : ∃ a b,Hid (M.getD 0 0=a∧M.getD 1 0=b):=⟨_,_,hid ⟨rfl,rfl⟩⟩;obtain ⟨a3,b3,E3⟩ : ∃ a b,Hid (X.getD 0 0=a∧X.getD 1 0=b):=⟨_,_,hid ⟨rfl,rfl⟩⟩
 have hb2:=We w (.cells #[.int .i64 n,.slice A1 n1 c1,.slice A2 n2 c2,.slice A3 n3 c3] 105) (.cells #[.int .i64 0,.int .i64 0,.int .i64 0,.int .i64 0,.int .i64 0,.int .i64 0,.int .i64 0] 184)
 have hB0:=(Block.new w 105 #[.int .i64 n,.slice A1 n1 c1,.slice A2 n2 c2,.slice A3 n3 c3]).alloc (.cells #[.int .i64 0,.int .i64 0,.int .i64 0,.int .i64 0,.int .i64 0,.int .i64 0,.int .i64 0] 184)
 have hB1:=Block.new (w.alloc (.cells #[.int .i64 n,.slice A1 n1 c1,.slice A2 n2 c2,.slice A3 n3 c3] 105)) 184 #[.int .i64 0,.int .i64 0,.int .i64 0,.int .i64 0,.int .i64 0,.int .i64 0,.int .i64 0]
 rw [World.size_alloc] at hB1
 have hz:Hid (((w.alloc (.cells #[.int .i64 n,.slice A1 n1 c1,.slice A2 n2 c2,.slice A3 n3 c3] 105)).alloc (.cells #[.int .i64 0,.int .i64 0,.int .i64 0,.int .i64 0,.int .i64 0,.int .i64 0,.int .i64 0] 184)).heap.size=w.heap.size+1+1):=hid (by rw [World.size_alloc,World.size_alloc])
 go_enter Tryz.func121,Tryz.ntmps121;go_wp2_with fail
 have hb3:=Yb hb2 (Ya ((w.alloc (.cells #[.int .i64 n,.slice A1 n1 c1,.slice A2 n2 c2,.slice A3 n3 c3] 105)).alloc (.cells #[.int .i64 0,.int .i64 0,.int .i64 0,.int .i64 0,.int .i64 0,.int .i64 0,.int .i64 0] 184)) (.cells #[.int .i64 n,.int .i64 0,.int .i64 0,.int .i64 0,.int .i64 0,.int .i64 0,.int .i64 0] 184))
 have hG:=Block.new ((w.alloc (.cells #[.int .i64 n,.slice A1 n1 c1,.slice A2 n2 c2,.slice A3 n3 c3] 105)).alloc (.cells #[.int .i64 0,.int .i64 0,.int .i64 0,.int .i64 0,.int .i64 0,.int .i64 0,.int .i64 0] 184)) 184 #[.int .i64 n,.int .i64 0,.int .i64 0,.int .i64 0,.int .i64 0,.int .i64 0,.int .i64 0]
 rw [hz.out] at hG
 have hB0:=hB0.alloc (.cells #[.int .i64 n,.int .i64 0,.int .i64 0,.int .i64 0,.int .i64 0,.int .i64 0,.int .i64 0] 184)
 have hB1:=hB1.alloc (.cells #[.int .i64 n,.int .i64 0,.int .i64 0,.int .i64 0,.int .i64 0,.int .i64 0,.int .i64 0] 184)
 clear hb2;generalize ((w.alloc (.cells #[.int .i64 n,.slice A1 n1 c1,.slice A2 n2 c2,.slice A3 n3 c3] 105)).alloc (.cells #[.int .i64 0,.int .i64 0,.int .i64 0,.int .i64 0,.int .i64 0,.int .i64 0,.int .i64 0] 184)).alloc (.cells #[.int .i64 n,.int .i64 0,.int .i64 0,.int .i64 0,.int .i64 0,.int .i64 0,.int .i64 0] 184)=W at hB0 hB1 hG hb3 ⊢
 have K:Hid (∀ y,Below (w.heap.size+1+1) W y→Block y w.heap.size 105 #[.int .i64 n,.slice A1 n1 c1,.slice A2 n2 c2,.slice A3 n3 c3]∧Block y (w.heap.size+1) 184 #[.int .i64 0,.int .i64 0,.int .i64 0,.int .i64 0,.int .i64 0,.int .i64 0,.int .i64 0]∧Below w.heap.size w y∧∀ b o,b<w.heap.size→y.cell? ⟨b,o,none⟩=w.cell? ⟨b,o,none⟩):=hid fun y hy=>by
  have hwy:=hb3.trans (hy.mono (by omega))
  exact ⟨hB0.below hy (by omega),hB1.below hy (by omega),hwy,fun b o hb=>hwy.cell (p:=⟨b,o,none⟩) hb⟩
 have k1:W.cell? ⟨w.heap.size,1,none⟩=some (.slice A1 n1 c1):=hB0.cell 1
 have HG1:Hid (W.drew.heap[w.heap.size+1+1]?=some (.cells ([.int .i64 n,.int .i64 0,.int .i64 0,.int .i64 0,.int .i64 0,.int .i64 0,.int .i64 0] : List Value).toArray 184 (0,0))):=hid hG
 have HP1:=hid (hp1.out W.drew (K.out _ (below_drewN (Below.refl _ W) 1)).2.2.2)
 have HD1:=hid (below_drewN (Below.refl (w.heap.size+1+1) W) 1)
 have HF1:Hid (1+cs1.length≤([.int .i64 n,.int .i64 0,.int .i64 0,.int .i64 0,.int .i64 0,.int .i64 0,.int .i64 0] : List Value).length):=hid (by have:=hl1.out; simp; omega)
 clear hB0 hB1 hG hb3 hz;go_region_law (refine step_copy_splice rfl _ _ 27 27 rfl 3 Tryz.underlying27 Oq _ A1 2 2 n1 c1 rfl rfl (w.heap.size+1+1) 1 [.int .i64 n,.int .i64 0,.int .i64 0,.int .i64 0,.int .i64 0,.int .i64 0,.int .i64 0] 184 HG1.out cs1 hn1.out (fun h0=>⟨rfl,HP1.out h0⟩) HF1.out ho1.out (w.heap.size+1+1) _ HD1.out (Nat.le_refl _) ?_; intro w4 HG4 HB4)
 have HH4:Hid (splice [.int .i64 n,.int .i64 0,.int .i64 0,.int .i64 0,.int .i64 0,.int .i64 0,.int .i64 0] 1 cs1=[.int .i64 n,.int .i64 a1,.int .i64 b1,.int .i64 0,.int .i64 0,.int .i64 0,.int .i64 0]):=hid (by rw [← hc1.out,Yuh,E1.out.1,E1.out.2])
 rw [HH4.out] at HG4;clear k1
 have k2:w4.cell? ⟨w.heap.size,2,none⟩=some (.slice A2 n2 c2):=(K.out _ HB4).1.cell 2
 have HP5:=hid (hp2.out w4.drew (K.out _ (below_drewN HB4 1)).2.2.2)
 have HQ5:=hid (below_drewN HB4 1)
 have HX5:Hid (w4.drew.heap[w.heap.size+1+1]?=some (.cells ([.int .i64 n,.int .i64 a1,.int .i64 b1,.int .i64 0,.int .i64 0,.int .i64 0,.int .i64 0] : List Value).toArray 184 (0,0))):=hid HG4.out
 have HF5:Hid (3+cs2.length≤([.int .i64 n,.int .i64 a1,.int .i64 b1,.int .i64 0,.int .i64 0,.int .i64 0,.int .i64 0] : List Value).length):=hid (by have:=hl2.out; simp; omega)
 clear HG4 HB4;go_wp2_with fail;go_region_law (refine step_copy_splice rfl _ _ 27 27 rfl 3 Tryz.underlying27 Oq _ A2 2 2 n2 c2 rfl rfl (w.heap.size+1+1) 3 [.int .i64 n,.int .i64 a1,.int .i64 b1,.int .i64 0,.int .i64 0,.int .i64 0,.int .i64 0] 184 HX5.out cs2 hn2.out (fun h0=>⟨rfl,HP5.out h0⟩) HF5.out ho2.out (w.heap.size+1+1) _ HQ5.out (Nat.le_refl _) ?_; intro w5 HG5 HB5)
 have HH5:Hid (splice [.int .i64 n,.int .i64 a1,.int .i64 b1,.int .i64 0,.int .i64 0,.int .i64 0,.int .i64 0] 3 cs2=[.int .i64 n,.int .i64 a1,.int .i64 b1,.int .i64 a2,.int .i64 b2,.int .i64 0,.int .i64 0]):=hid (by rw [← hc2.out,Yui,E2.out.1,E2.out.2])
 rw [HH5.out] at HG5;clear k2
 have k3:w5.cell? ⟨w.heap.size,3,none⟩=some (.slice A3 n3 c3):=(K.out _ HB5).1.cell 3
 have HP6:=hid (hp3.out w5.drew (K.out _ (below_drewN HB5 1)).2.2.2)
 have HQ6:=hid (below_drewN HB5 1)
 have HX6:Hid (w5.drew.heap[w.heap.size+1+1]?=some (.cells ([.int .i64 n,.int .i64 a1,.int .i64 b1,.int .i64 a2,.int .i64 b2,.int .i64 0,.int .i64 0] : List Value).toArray 184 (0,0))):=hid HG5.out
 have HF6:Hid (5+cs3.length≤([.int .i64 n,.int .i64 a1,.int .i64 b1,.int .i64 a2,.int .i64 b2,.int .i64 0,.int .i64 0] : List Value).length):=hid (by have:=hl3.out; simp; omega)
 clear HG5 HB5;go_wp2_with fail;go_region_law (refine step_copy_splice rfl _ _ 27 27 rfl 3 Tryz.underlying27 Oq _ A3 2 2 n3 c3 rfl rfl (w.heap.size+1+1) 5 [.int .i64 n,.int .i64 a1,.int .i64 b1,.int .i64 a2,.int .i64 b2,.int .i64 0,.int .i64 0] 184 HX6.out cs3 hn3.out (fun h0=>⟨rfl,HP6.out h0⟩) HF6.out ho3.out (w.heap.size+1+1) _ HQ6.out (Nat.le_refl _) ?_; intro w6 HG6 HB6)
 have HH6:Hid (splice [.int .i64 n,.int .i64 a1,.int .i64 b1,.int .i64 a2,.int .i64 b2,.int .i64 0,.int .i64 0] 5 cs3=[.int .i64 n,.int .i64 a1,.int .i64 b1,.int .i64 a2,.int .i64 b2,.int .i64 a3,.int .i64 b3]):=hid (by rw [← hc3.out,Yuj,E3.out.1,E3.out.2])
 rw [HH6.out] at HG6;clear k3
 have hGG:Block w6 (w.heap.size+1+1) 184 #[.int .i64 n,.int .i64 a1,.int .i64 b1,.int .i64 a2,.int .i64 b2,.int .i64 a3,.int .i64 b3]:=HG6.out
 have g0:w6.cell? ⟨w.heap.size+1+1,0,none⟩=some (.int .i64 n):=hGG.cell 0
 have g1:w6.cell? ⟨w.heap.size+1+1,1,none⟩=some (.int .i64 a1):=hGG.cell 1
 have g2:w6.cell? ⟨w.heap.size+1+1,2,none⟩=some (.int .i64 b1):=hGG.cell 2
 have g3:w6.cell? ⟨w.heap.size+1+1,3,none⟩=some (.int .i64 a2):=hGG.cell 3
 have g4:w6.cell? ⟨w.heap.size+1+1,4,none⟩=some (.int .i64 b2):=hGG.cell 4
 have g5:w6.cell? ⟨w.heap.size+1+1,5,none⟩=some (.int .i64 a3):=hGG.cell 5
 have g6:w6.cell? ⟨w.heap.size+1+1,6,none⟩=some (.int .i64 b3):=hGG.cell 6
 have hr:=(K.out _ HB6).2.1
 have r0:w6.cell? ⟨w.heap.size+1,0,none⟩=some (.int .i64 0):=hr.cell 0
 have f0:=hr.free 0
 have r1:w6.cell? ⟨w.heap.size+1,1,none⟩=some (.int .i64 0):=hr.cell 1
 have f1:=hr.free 1
 have r2:w6.cell? ⟨w.heap.size+1,2,none⟩=some (.int .i64 0):=hr.cell 2
 have f2:=hr.free 2
 have r3:w6.cell? ⟨w.heap.size+1,3,none⟩=some (.int .i64 0):=hr.cell 3
 have f3:=hr.free 3
 have r4:w6.cell? ⟨w.heap.size+1,4,none⟩=some (.int .i64 0):=hr.cell 4
 have f4:=hr.free 4
 have r5:w6.cell? ⟨w.heap.size+1,5,none⟩=some (.int .i64 0):=hr.cell 5
 have f5:=hr.free 5
 have r6:w6.cell? ⟨w.heap.size+1,6,none⟩=some (.int .i64 0):=hr.cell 6
 have f6:=hr.free 6
 have HR:=hid (hr.Ytu (.int .i64 n) (.int .i64 a1) (.int .i64 b1) (.int .i64 a2) (.int .i64 b2) (.int .i64 a3) (.int .i64 b3))
 have HBB:=hid (Yfi (r:=w.heap.size+1) (K.out _ HB6).2.2.1 (Nat.le_succ _) (.int .i64 n) (.int .i64 a1) (.int .i64 b1) (.int .i64 a2) (.int .i64 b2) (.int .i64 a3) (.int .i64 b3))
 have HV:Hid (M1 (n,S,M,X)=.agg #[.int .i64 n,.int .i64 a1,.int .i64 b1,.int .i64 a2,.int .i64 b2,.int .i64 a3,.int .i64 b3]):=hid (by
  unfold M1 kcs;simp only [E1.out.1,E1.out.2,E2.out.1,E2.out.2,E3.out.1,E3.out.2])
 clear hGG hr HG6 HB6 K;go_wp2_with fail;refine bodyPost_ret (Za rfl _ _ (w.heap.size+1) _ _ rfl HR.out Tryz.underlying184 rfl Ykc) rfl ?_;exact ⟨by rw [HV.out],HBB.out⟩
end
end Go.Proofs.YtkablhecedcngaaGreat
