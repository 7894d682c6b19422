/- Cells, FootC, FootR -/
import Derived.Test.YtmepdkdeanbbaaaGreatJ10
namespace Go.Proofs.YtmepdkdeanbbaaaGreat
set_option maxRecDepth 100000
set_option maxHeartbeats 8000000
open Go.RowKit
open Go.Lib (hid)
variable {w w':World}{S:Nat->Prop}{r:PC × Int}{e:Ending}{us:List Value}{n:Int}{A A0 A1 A2 A3:Option Addr}{c c0 c1 c2 c3 n0 n1 n2 n3:Nat}{M Su X:List Int}
section
/-! ### A cell's three lists -/
structure Wi (w:World) (B:Nat) (A1:Option Addr) (n1 c1:Nat) (A2:Option Addr) (n2 c2:Nat) (A3:Option Addr) (n3 c3:Nat) (S M X:List Int):Prop where
 s:Y2 w B A1 n1 c1 S
 m:Y2 w B A2 n2 c2 M
 x:Y2 w B A3 n3 c3 X
section
variable {w w' : World}{B B' n1 c1 n2 c2 n3 c3:Nat}{A1 A2 A3:Option Addr}{S M X:List Int}
theorem Wi.V0(h:Wi w B A1 n1 c1 A2 n2 c2 A3 n3 c3 S M X)(hk:∀b o,b<B->w'.cell? ⟨b,o,none⟩=w.cell? ⟨b,o,none⟩):Wi w' B A1 n1 c1 A2 n2 c2 A3 n3 c3 S M X:=⟨h.s.V0 hk,h.m.V0 hk,h.x.V0 hk⟩
theorem Wi.more(h:Wi w B A1 n1 c1 A2 n2 c2 A3 n3 c3 S M X)(hB:B<=B'):Wi w B' A1 n1 c1 A2 n2 c2 A3 n3 c3 S M X:=⟨h.s.more hB,h.m.more hB,h.x.more hB⟩
theorem Wi.below{C:Nat}(h:Wi w B A1 n1 c1 A2 n2 c2 A3 n3 c3 S M X)(hb:Below C w w')(hC:B<=C):Wi w' B A1 n1 c1 A2 n2 c2 A3 n3 c3 S M X:=⟨h.s.below hb hC,h.m.below hb hC,h.x.below hb hC⟩
theorem Wi.Yc(h:Wi w w.heap.size A1 n1 c1 A2 n2 c2 A3 n3 c3 S M X)(hb:Below w.heap.size w w'):Wi w' w'.heap.size A1 n1 c1 A2 n2 c2 A3 n3 c3 S M X:=(h.below hb (Nat.le_refl _)).more hb.size
theorem Wi.Rz(h:Wi w w.heap.size A1 n1 c1 A2 n2 c2 A3 n3 c3 S M X)(o:Obj):Wi (w.alloc o) (w.alloc o).heap.size A1 n1 c1 A2 n2 c2 A3 n3 c3 S M X:=⟨h.s.Rz o,h.m.Rz o,h.x.Rz o⟩
theorem Wi.drew(h:Wi w B A1 n1 c1 A2 n2 c2 A3 n3 c3 S M X):Wi w.drew B A1 n1 c1 A2 n2 c2 A3 n3 c3 S M X:=h.V0 λ_ _ _=>rfl
end
abbrev S6(n:Int)(A1:Option Addr)(n1 c1:Nat)(A2:Option Addr)(n2 c2:Nat)(A3:Option Addr)(n3 c3:Nat):Value:=
 .agg #[.int .i64 n,.slice A1 n1 c1,.slice A2 n2 c2,.slice A3 n3 c3]
def I64(l:List Int):Prop:=∀x∈l,-9223372036854775808<=x/\x<=9223372036854775807
/-! ### Rows of cells -/
structure Xr (w:World) (B:Nat) (A:Option Addr) (n c:Nat) (L:List PC):Prop where
 len:L.length=n
 cap:n<=c
 fit:c<=maxLen
 void:A=none->c=0
 has:∀i,i<n->∃b o A1 n1 c1 A2 n2 c2 A3 n3 c3,A=some ⟨b,o,none⟩∧b<B∧
  (w.cell? ⟨b,o+i*4,none⟩=some (.int .i64 (L.getD i Yl).1)/\w.cell? ⟨b,o+i*4+1,none⟩=some (.slice A1 n1 c1)/\w.cell? ⟨b,o+i*4+2,none⟩=some (.slice A2 n2 c2)/\w.cell? ⟨b,o+i*4+3,none⟩=some (.slice A3 n3 c3))∧
  Wi w B A1 n1 c1 A2 n2 c2 A3 n3 c3 (L.getD i Yl).2.1 (L.getD i Yl).2.2.1 (L.getD i Yl).2.2.2
section
variable {w w' : World}{B B' n c:Nat}{A:Option Addr}{L:List PC}
theorem Xr.V0(h:Xr w B A n c L)(hk:∀b o,b<B->w'.cell? ⟨b,o,none⟩=w.cell? ⟨b,o,none⟩):Xr w' B A n c L:=
 ⟨h.len,h.cap,h.fit,h.void,λi hi=>by
  obtain⟨b,o,A1,n1,c1,A2,n2,c2,A3,n3,c3,h1,h2,⟨h3,h4,h5,h6⟩,h7⟩:=h.has i hi;exact⟨b,o,A1,n1,c1,A2,n2,c2,A3,n3,c3,h1,h2,⟨(hk b _ h2).trans h3,(hk b _ h2).trans h4,(hk b _ h2).trans h5,(hk b _ h2).trans h6⟩,h7.V0 hk⟩⟩
theorem Xr.more(h:Xr w B A n c L)(hB:B<=B'):Xr w B' A n c L:=
 ⟨h.len,h.cap,h.fit,h.void,λi hi=>by
  obtain⟨b,o,A1,n1,c1,A2,n2,c2,A3,n3,c3,h1,h2,h3,h7⟩:=h.has i hi;exact⟨b,o,A1,n1,c1,A2,n2,c2,A3,n3,c3,h1,Nat.lt_of_lt_of_le h2 hB,h3,h7.more hB⟩⟩
theorem Xr.below{C:Nat}(h:Xr w B A n c L)(hb:Below C w w')(hC:B<=C):Xr w' B A n c L:=
 h.V0 λb o hp=>hb.cell (p:=⟨b,o,none⟩) (Nat.lt_of_lt_of_le hp hC)
theorem Xr.Yc(h:Xr w w.heap.size A n c L)(hb:Below w.heap.size w w'):Xr w' w'.heap.size A n c L:=(h.below hb (Nat.le_refl _)).more hb.size
theorem Xr.drewN(h:Xr w B A n c L)(k:Nat):Xr (w.drewN k) B A n c L:=h.V0 λ_ _ _=>rfl
theorem Xr.Ym(h:Xr w B A n c L):n<=9223372036854775807:=by
 have h1:=h.cap;have h2:=h.fit
 unfold maxLen at h2;omega
theorem Xr.Xf(h:Xr w B A n c L):c<=9223372036854775807:=by
 have h2:=h.fit
 unfold maxLen at h2;omega
theorem Xr.at_(h:Xr w B A n c L){k:Nat}(hk:k<n):∃b o q A1 n1 c1 A2 n2 c2 A3 n3 c3 S M X,A=some ⟨b,o,none⟩∧b<B∧
  w.cell? ⟨b,o+k*4,none⟩=some (.int .i64 q)/\w.cell? ⟨b,o+k*4+1,none⟩=some (.slice A1 n1 c1)/\w.cell? ⟨b,o+k*4+2,none⟩=some (.slice A2 n2 c2)/\w.cell? ⟨b,o+k*4+3,none⟩=some (.slice A3 n3 c3)∧
  Wi w B A1 n1 c1 A2 n2 c2 A3 n3 c3 S M X/\Hid (L.getD k Yl=(q,S,M,X)):=by
 obtain⟨b,o,A1,n1,c1,A2,n2,c2,A3,n3,c3,h1,h2,⟨h3,h4,h5,h6⟩,h7⟩:=h.has k hk;exact⟨b,o,_,A1,n1,c1,A2,n2,c2,A3,n3,c3,_,_,_,h1,h2,h3,h4,h5,h6,h7,hid rfl⟩
theorem Xr.cut(h:Xr w B A n c L){k:Nat}(hk:k<=n)(_:¬c=k):Xr w B (A.map (·.add (k*4))) (n-k) (c-k) (L.drop k):=by
 have hcap:=h.cap;have hf:=h.fit
 refine⟨by rw[List.length_drop,h.len],by omega,by omega,λhA=>?_,λi hi=>?_⟩
 ·rcases A with _|a
  ·have:=h.void rfl;omega
  ·cases hA
 ·obtain⟨b,o,A1,n1,c1,A2,n2,c2,A3,n3,c3,rfl,h2,h3,h7⟩:=h.has (k+i) (by omega)
  have e:(L.drop k).getD i Yl=L.getD (k+i) Yl:=by simp[List.getD_eq_getElem?_getD]
  rw[e];rw[show o+(k+i)*4=o+k*4+i*4 from by omega]at h3
  exact⟨b,o+k*4,A1,n1,c1,A2,n2,c2,A3,n3,c3,by simp[Yu],h2,h3,h7⟩
end
/-! ### Cells of the call's own -/
structure X7 (w:World) (base:Nat) (v1 v2 v3:Value) (S M X:List Int):Prop where
 s:Yi w base v1 S
 m:Yi w base v2 M
 x:Yi w base v3 X
section
variable {w w' : World}{base base' : Nat}{v1 v2 v3:Value}{S M X:List Int}
theorem X7.below{C:Nat}(h:X7 w base v1 v2 v3 S M X)(hb:Below C w w')(hC:w.heap.size<=C):X7 w' base v1 v2 v3 S M X:=⟨h.s.below hb hC,h.m.below hb hC,h.x.below hb hC⟩
theorem X7.low(h:X7 w base v1 v2 v3 S M X)(hb:base'<=base):X7 w base' v1 v2 v3 S M X:=⟨h.s.low hb,h.m.low hb,h.x.low hb⟩
theorem X7.alloc(h:X7 w base v1 v2 v3 S M X)(o:Obj):X7 (w.alloc o) base v1 v2 v3 S M X:=⟨h.s.alloc o,h.m.alloc o,h.x.alloc o⟩
theorem X7.form(h:X7 w base v1 v2 v3 S M X):∃A1 n1 c1 A2 n2 c2 A3 n3 c3,v1=.slice A1 n1 c1/\v2=.slice A2 n2 c2/\v3=.slice A3 n3 c3/\Wi w w.heap.size A1 n1 c1 A2 n2 c2 A3 n3 c3 S M X:=by
 obtain⟨A1,n1,c1,e1,h1,_⟩:=h.s.Yr;obtain⟨A2,n2,c2,e2,h2,_⟩:=h.m.Yr;obtain⟨A3,n3,c3,e3,h3,_⟩:=h.x.Yr;exact⟨A1,n1,c1,A2,n2,c2,A3,n3,c3,e1,e2,e3,h1,h2,h3⟩
end
def Qw(w:World)(r:PC×Int)(e:Ending)(w':World):Prop:=
 (∃v1 v2 v3,e=.returned (.tuple #[.agg #[.int .i64 r.1.1,v1,v2,v3],.int .i64 r.2])/\X7 w' w.heap.size v1 v2 v3 r.1.2.1 r.1.2.2.1 r.1.2.2.2)/\Below w.heap.size w w'
def Ylq(w:World)(r:PC×Int)(e:Ending)(w':World):Prop:=
 (∃A1 n1 c1 A2 n2 c2 A3 n3 c3,e=.returned (.tuple #[S6 r.1.1 A1 n1 c1 A2 n2 c2 A3 n3 c3,.int .i64 r.2])/\Wi w' w'.heap.size A1 n1 c1 A2 n2 c2 A3 n3 c3 r.1.2.1 r.1.2.2.1 r.1.2.2.2)/\Below w.heap.size w w'
theorem Qw.toH(h:Qw w r e w'):Ylq w r e w':=by
 obtain⟨⟨v1,v2,v3,rfl,ho⟩,hb⟩:=h;obtain⟨A1,n1,c1,A2,n2,c2,A3,n3,c3,rfl,rfl,rfl,hh⟩:=ho.form;exact⟨⟨_,_,_,_,_,_,_,_,_,rfl,hh⟩,hb⟩
theorem Ylq.of(h:Ylq w r e w'){n:Int}{S M X:List Int}{x:Int}(hr:r=((n,S,M,X),x)):
  ∃A1 n1 c1 A2 n2 c2 A3 n3 c3,e=.returned (.tuple #[.agg #[.int .i64 n,.slice A1 n1 c1,.slice A2 n2 c2,.slice A3 n3 c3],.int .i64 x])/\Wi w' w'.heap.size A1 n1 c1 A2 n2 c2 A3 n3 c3 S M X/\Below w.heap.size w w':=by
 subst hr;obtain⟨⟨A1,n1,c1,A2,n2,c2,A3,n3,c3,h1,h2⟩,h3⟩:=h;exact⟨A1,n1,c1,A2,n2,c2,A3,n3,c3,h1,h2,h3⟩
theorem X0{P:Program}{f:FuncId}{args:Array Value}{q:Nat}{v:Value}
  (h:∀W,Calls P f args W λe w'=>e=.returned v/\W=w') (j:Nat):Calls P f args (w.drewN (q+j)) λe w''=>e=.returned v/\∃m,w''=w.drewN (q+m):=
 (h _).mono λ_ _ ⟨he,hm⟩=>⟨he,j,hm.symm⟩
theorem Xq(w:World)(base:Nat):X7 w base (.slice none 0 0) (.slice none 0 0) (.slice none 0 0) [] [] []:=⟨Yi.Zj _ _,Yi.Zj _ _,Yi.Zj _ _⟩
theorem Yz:(Tryz.prog.info? 71).map (·.size)=some 4:=by kernel_rfl
theorem Oc:(Tryz.prog.info? 71).map (λi=>(i.zero,i.size,i.bytes))=some (some (.agg #[.int .i64 0,.slice none 0 0,.slice none 0 0,.slice none 0 0]),4,80):=by kernel_rfl
end
section
abbrev U3:ElT (List Int):=Z0 Yy 1
abbrev Uz:ElT (List Int):=Vl Yy 3 1
abbrev Z7:ElT PC:=U1 Yy 1 (U1 U3 1 (U1 U3 1 U3))
abbrev M2:ElT PC:=U1 Yy 1 (U1 Uz 1 (U1 Uz 1 Uz))
abbrev Lh:ElT (List Int×PC):=U1 U3 1 Z7
theorem Wj:U3.Ok:=Wc Yh
theorem Xp:Uz.Ok:=Zz Yh
theorem Zf:Z7.Ok:=Wv Yh (Wv Wj (Wv Wj Wj))
theorem Ls:M2.Ok:=Wv Yh (Wv Xp (Wv Xp Xp))
theorem Xe:Lh.Ok:=Wv Wj Zf
section
variable {w:World}{S:Nat->Prop}{us:List Value}{x:PC}
theorem U0{l:List Int}(h:Uz w S us l):U3 w S us l:=Re Yh (λ_ _ h=>h) h
theorem Ko(h:M2 w S us x):Z7 w S us x:=⟨h.1,U0 h.2.1,U0 h.2.2.1,U0 h.2.2.2⟩
theorem Yt8{a:Value}{b c d:Value}(h0:us.take 1=[a])(h1:(us.drop 1).take 1=[b])(h2:((us.drop 1).drop 1).take 1=[c])(h3:((us.drop 1).drop 1).drop 1=[d]):us=[a,b,c,d]:=by
 rcases us with _|⟨u0,_|⟨u1,_|⟨u2,us⟩⟩⟩
 ·cases h0
 ·cases h1
 ·cases h2
 ·simp at h0 h1 h2 h3
  rw[h0,h1,h2,h3]
theorem Uv(h:Z7 w S us x):∃n A1 n1 c1 A2 n2 c2 A3 n3 c3 Su M X,us=[.int .i64 n,.slice A1 n1 c1,.slice A2 n2 c2,.slice A3 n3 c3]/\Row Yy 1 w S A1 n1 c1 Su/\Row Yy 1 w S A2 n2 c2 M/\Row Yy 1 w S A3 n3 c3 X/\x=(n,Su,M,X):=by
 obtain⟨e0,⟨A1,n1,c1,e1,h1⟩,⟨A2,n2,c2,e2,h2⟩,A3,n3,c3,e3,h3⟩:=h;exact⟨x.1,A1,n1,c1,A2,n2,c2,A3,n3,c3,x.2.1,x.2.2.1,x.2.2.2,Yt8 e0 e1 e2 e3,h1,h2,h3,rfl⟩
theorem M8{n:Int}{A1 A2 A3:Option Addr}{n1 c1 n2 c2 n3 c3:Nat}{Su M X:List Int}(h1:Row Yy 1 w S A1 n1 c1 Su)(h2:Row Yy 1 w S A2 n2 c2 M)(h3:Row Yy 1 w S A3 n3 c3 X):
  Z7 w S [.int .i64 n,.slice A1 n1 c1,.slice A2 n2 c2,.slice A3 n3 c3] (n,Su,M,X):=⟨rfl,⟨A1,n1,c1,rfl,h1⟩,⟨A2,n2,c2,rfl,h2⟩,A3,n3,c3,rfl,h3⟩
theorem Yj6(h:Z7 w S us x):∃n A1 n1 c1 A2 n2 c2 A3 n3 c3 Su M X,us=[.int .i64 n,.slice A1 n1 c1,.slice A2 n2 c2,.slice A3 n3 c3]/\Wi w w.heap.size A1 n1 c1 A2 n2 c2 A3 n3 c3 Su M X/\x=(n,Su,M,X):=by
 obtain⟨n,A1,n1,c1,A2,n2,c2,A3,n3,c3,Su,M,X,e,h1,h2,h3,ex⟩:=Uv h;exact⟨n,A1,n1,c1,A2,n2,c2,A3,n3,c3,Su,M,X,e,⟨h1.Uy,h2.Uy,h3.Uy⟩,ex⟩
theorem Row.Ylp{A:Option Addr}{n c:Nat}{L:List PC}(h:Row Z7 4 w S A n c L):Xr w w.heap.size A n c L:=by
 refine⟨h.len,h.cap,h.fit,h.void,λi hi=>?_⟩
 obtain⟨b,o,us,x,e,_,hl,_,hc,hx,hL⟩:=h.at_ hi;obtain⟨q,A1,n1,c1,A2,n2,c2,A3,n3,c3,Su,M,X,rfl,h1,rfl⟩:=Yj6 hx
 have e1:L.getD i Yl=(q,Su,M,X):=by rw[List.getD_eq_getElem?_getD,hL.out];rfl
 rw[e1];exact⟨b,o,A1,n1,c1,A2,n2,c2,A3,n3,c3,e,hl,⟨hc 0 _ rfl,hc 1 _ rfl,hc 2 _ rfl,hc 3 _ rfl⟩,h1⟩
theorem Yx.ints{base:Nat}{v:Value}{L:List Int}(h:Yx Yy 3 1 w base S v L):Yi w base v L:=by
 obtain⟨vs,h1,h2⟩:=h
 have e:vs=L.map X6:=by
  apply List.ext_getElem?;intro i;rw[List.getElem?_map]
  have hlen:vs.length=L.length:=by have:=h1.1;omega
  by_cases hi:i<L.length
  ·have hL:L[i]?=some (L[i]'hi):=List.getElem?_eq_getElem hi
   have h3:(vs.drop (i*1)).take 1=[X6 (L[i]'hi)]:=h2 i _ hL
   have h4:=congrArg (λl=>l[0]?) h3
   simp only[Nat.mul_one,List.getElem?_take,List.getElem?_drop,Nat.lt_one_iff,if_true,Nat.add_zero,List.getElem?_cons_zero]at h4;rw[h4,hL];rfl
  ·rw[List.getElem?_eq_none (by omega),List.getElem?_eq_none (by omega)]
   rfl
 rw[e]at h1;exact h1
theorem X7.el{base:Nat}{n:Int}{v1 v2 v3:Value}{Su M X:List Int}(h:X7 w base v1 v2 v3 Su M X)(hS:∀k,base<=k->k<w.heap.size->S k):M2 w S [.int .i64 n,v1,v2,v3] (n,Su,M,X):=
 ⟨rfl,⟨v1,rfl,h.s.Bc.low (Nat.zero_le _),λk hk=>hS k (h.s.lt k hk).1 (h.s.lt k hk).2⟩,⟨v2,rfl,h.m.Bc.low (Nat.zero_le _),λk hk=>hS k (h.m.lt k hk).1 (h.m.lt k hk).2⟩,v3,rfl,h.x.Bc.low (Nat.zero_le _),λk hk=>hS k (h.x.lt k hk).1 (h.x.lt k hk).2⟩
end
theorem Yku{d:List Int×PC}(h:Lh w S us d):∃A0 n0 c0 n A1 n1 c1 A2 n2 c2 A3 n3 c3 K Su M X,us=[.slice A0 n0 c0,.int .i64 n,.slice A1 n1 c1,.slice A2 n2 c2,.slice A3 n3 c3]/\Row Yy 1 w S A0 n0 c0 K∧
  Row Yy 1 w S A1 n1 c1 Su/\Row Yy 1 w S A2 n2 c2 M/\Row Yy 1 w S A3 n3 c3 X/\d=(K,n,Su,M,X):=by
 obtain⟨⟨A0,n0,c0,e0,h0⟩,hc⟩:=h;obtain⟨n,A1,n1,c1,A2,n2,c2,A3,n3,c3,Su,M,X,e,h1,h2,h3,ex⟩:=Uv hc;refine⟨A0,n0,c0,n,A1,n1,c1,A2,n2,c2,A3,n3,c3,d.1,Su,M,X,?_,h0,h1,h2,h3,Prod.ext rfl ex⟩
 have e':=List.take_append_drop 1 us
 rw[e0,e]at e';exact e'.symm
theorem Yqr{K:List Int}(h0:Row Yy 1 w S A0 n0 c0 K)(h1:Row Yy 1 w S A1 n1 c1 Su)(h2:Row Yy 1 w S A2 n2 c2 M)(h3:Row Yy 1 w S A3 n3 c3 X):
  Lh w S [.slice A0 n0 c0,.int .i64 n,.slice A1 n1 c1,.slice A2 n2 c2,.slice A3 n3 c3] (K,n,Su,M,X):=⟨⟨A0,n0,c0,rfl,h0⟩,M8 h1 h2 h3⟩
theorem Row.atU{n:Nat}{L:List (List Int×PC)}(h:Row Lh 5 w S A n c L){k:Nat}(hk:k<n):∃b o A0 n0 c0 q A1 n1 c1 A2 n2 c2 A3 n3 c3 K Su M X,A=some ⟨b,o,none⟩∧S b/\b<w.heap.size∧
  w.cell? ⟨b,o+k*5,none⟩=some (.slice A0 n0 c0)/\w.cell? ⟨b,o+k*5+1,none⟩=some (.int .i64 q)/\w.cell? ⟨b,o+k*5+2,none⟩=some (.slice A1 n1 c1)/\w.cell? ⟨b,o+k*5+3,none⟩=some (.slice A2 n2 c2)/\w.cell? ⟨b,o+k*5+4,none⟩=some (.slice A3 n3 c3)∧
  Row Yy 1 w S A0 n0 c0 K/\Row Yy 1 w S A1 n1 c1 Su/\Row Yy 1 w S A2 n2 c2 M/\Row Yy 1 w S A3 n3 c3 X/\Hid (L[k]?=some (K,q,Su,M,X)):=by
 obtain⟨b,o,us,x,e,hb,hl,_,hc,hx,hL⟩:=h.at_ hk;obtain⟨A0,n0,c0,q,A1,n1,c1,A2,n2,c2,A3,n3,c3,K,Su,M,X,rfl,h0,h1,h2,h3,rfl⟩:=Yku hx;exact⟨b,o,A0,n0,c0,q,A1,n1,c1,A2,n2,c2,A3,n3,c3,K,Su,M,X,e,hb,hl,hc 0 _ rfl,hc 1 _ rfl,hc 2 _ rfl,hc 3 _ rfl,hc 4 _ rfl,h0,h1,h2,h3,hL⟩
/-! ### What came in -/
end
abbrev Z4:ElT (List Txt):=Z0 Y7 1
abbrev Yjd:ElT Zd:=Z0 Z4 1
abbrev V6:ElT (Zd×PC):=U1 Yjd 1 Z7
theorem Zr:Z4.Ok:=Wc Yt
theorem Ypj:Yjd.Ok:=Wc Zr
theorem Zv:V6.Ok:=Wv Ypj Zf
theorem Pe{d:Zd×PC}(h:V6 w S us d):∃A0 n0 c0 n A1 n1 c1 A2 n2 c2 A3 n3 c3 K Su M X,us=[.slice A0 n0 c0,.int .i64 n,.slice A1 n1 c1,.slice A2 n2 c2,.slice A3 n3 c3]/\Row Z4 1 w S A0 n0 c0 K∧
  Row Yy 1 w S A1 n1 c1 Su/\Row Yy 1 w S A2 n2 c2 M/\Row Yy 1 w S A3 n3 c3 X/\d=(K,n,Su,M,X):=by
 obtain⟨⟨A0,n0,c0,e0,h0⟩,hc⟩:=h;obtain⟨n,A1,n1,c1,A2,n2,c2,A3,n3,c3,Su,M,X,e,h1,h2,h3,ex⟩:=Uv hc;refine⟨A0,n0,c0,n,A1,n1,c1,A2,n2,c2,A3,n3,c3,d.1,Su,M,X,?_,h0,h1,h2,h3,Prod.ext rfl ex⟩
 have e':=List.take_append_drop 1 us
 rw[e0,e]at e';exact e'.symm
theorem Ylm{K:Zd}(h0:Row Z4 1 w S A0 n0 c0 K)(h1:Row Yy 1 w S A1 n1 c1 Su)(h2:Row Yy 1 w S A2 n2 c2 M)(h3:Row Yy 1 w S A3 n3 c3 X):
  V6 w S [.slice A0 n0 c0,.int .i64 n,.slice A1 n1 c1,.slice A2 n2 c2,.slice A3 n3 c3] (K,n,Su,M,X):=⟨⟨A0,n0,c0,rfl,h0⟩,M8 h1 h2 h3⟩
theorem Row.atR{n:Nat}{L:Rws}(h:Row V6 5 w S A n c L){k:Nat}(hk:k<n):∃b o A0 n0 c0 q A1 n1 c1 A2 n2 c2 A3 n3 c3 K Su M X,A=some ⟨b,o,none⟩∧S b/\b<w.heap.size∧
  w.cell? ⟨b,o+k*5,none⟩=some (.slice A0 n0 c0)/\w.cell? ⟨b,o+k*5+1,none⟩=some (.int .i64 q)/\w.cell? ⟨b,o+k*5+2,none⟩=some (.slice A1 n1 c1)/\w.cell? ⟨b,o+k*5+3,none⟩=some (.slice A2 n2 c2)/\w.cell? ⟨b,o+k*5+4,none⟩=some (.slice A3 n3 c3)∧
  Row Z4 1 w S A0 n0 c0 K/\Row Yy 1 w S A1 n1 c1 Su/\Row Yy 1 w S A2 n2 c2 M/\Row Yy 1 w S A3 n3 c3 X/\Hid (L[k]?=some (K,q,Su,M,X)):=by
 obtain⟨b,o,us,x,e,hb,hl,_,hc,hx,hL⟩:=h.at_ hk;obtain⟨A0,n0,c0,q,A1,n1,c1,A2,n2,c2,A3,n3,c3,K,Su,M,X,rfl,h0,h1,h2,h3,rfl⟩:=Pe hx;exact⟨b,o,A0,n0,c0,q,A1,n1,c1,A2,n2,c2,A3,n3,c3,K,Su,M,X,e,hb,hl,hc 0 _ rfl,hc 1 _ rfl,hc 2 _ rfl,hc 3 _ rfl,hc 4 _ rfl,h0,h1,h2,h3,hL⟩
abbrev ObT(α:Type):=World->(Nat->Prop)->Nat->α->Prop
def ObT.Ok{α:Type}(O:ObT α):Prop:=∀w S w' S' g x,Mv w S w' S'→S g->g<w.heap.size->O w S g x->O w' S' g x
end Go.Proofs.YtmepdkdeanbbaaaGreat
