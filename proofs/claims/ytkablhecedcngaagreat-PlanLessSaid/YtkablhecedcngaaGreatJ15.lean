/- Cells, FootC, FootR, StepR -/
import Derived.Test.YtkablhecedcngaaGreatJ9
import Derived.Deep.RegionLaw
namespace Go.Proofs.YtkablhecedcngaaGreat
set_option maxRecDepth 100000
set_option maxHeartbeats 8000000
open Go.RowKit
open Go.Lib (hid)
variable {w w':World}{S:Nat→Prop}{r:PC × Int}{e:Ending}
section
/-! ### A cell's three lists -/
structure Ww (w:World) (B:Nat) (A1:Option Addr) (n1 c1:Nat) (A2:Option Addr) (n2 c2:Nat) (A3:Option Addr) (n3 c3:Nat) (S M X:List Int):Prop where
 s:Yx w B A1 n1 c1 S
 m:Yx w B A2 n2 c2 M
 x:Yx w B A3 n3 c3 X
section
variable {w w' : World}{B B' n1 c1 n2 c2 n3 c3:Nat}{A1 A2 A3:Option Addr}{S M X:List Int}
theorem Ww.Vj (h:Ww w B A1 n1 c1 A2 n2 c2 A3 n3 c3 S M X) (hk:∀ b o,b<B→w'.cell? ⟨b,o,none⟩=w.cell? ⟨b,o,none⟩):Ww w' B A1 n1 c1 A2 n2 c2 A3 n3 c3 S M X:=⟨h.s.Vj hk,h.m.Vj hk,h.x.Vj hk⟩
theorem Ww.more (h:Ww w B A1 n1 c1 A2 n2 c2 A3 n3 c3 S M X) (hB:B≤B'):Ww w B' A1 n1 c1 A2 n2 c2 A3 n3 c3 S M X:=⟨h.s.more hB,h.m.more hB,h.x.more hB⟩
theorem Ww.below {C:Nat}(h:Ww w B A1 n1 c1 A2 n2 c2 A3 n3 c3 S M X) (hb:Below C w w') (hC:B≤C):Ww w' B A1 n1 c1 A2 n2 c2 A3 n3 c3 S M X:=⟨h.s.below hb hC,h.m.below hb hC,h.x.below hb hC⟩
theorem Ww.Yc (h:Ww w w.heap.size A1 n1 c1 A2 n2 c2 A3 n3 c3 S M X) (hb:Below w.heap.size w w'):Ww w' w'.heap.size A1 n1 c1 A2 n2 c2 A3 n3 c3 S M X:=(h.below hb (Nat.le_refl _)).more hb.size
theorem Ww.Qe (h:Ww w w.heap.size A1 n1 c1 A2 n2 c2 A3 n3 c3 S M X) (o:Obj):Ww (w.alloc o) (w.alloc o).heap.size A1 n1 c1 A2 n2 c2 A3 n3 c3 S M X:=⟨h.s.Qe o,h.m.Qe o,h.x.Qe o⟩
theorem Ww.drew (h:Ww w B A1 n1 c1 A2 n2 c2 A3 n3 c3 S M X):Ww w.drew B A1 n1 c1 A2 n2 c2 A3 n3 c3 S M X:=h.Vj fun _ _ _=>rfl
end
abbrev Mm (n:Int) (A1:Option Addr) (n1 c1:Nat) (A2:Option Addr) (n2 c2:Nat) (A3:Option Addr) (n3 c3:Nat):Value :=
 .agg #[.int .i64 n,.slice A1 n1 c1,.slice A2 n2 c2,.slice A3 n3 c3]
def I64 (l:List Int):Prop:=∀ x∈l,-9223372036854775808≤x∧x≤9223372036854775807
/-! ### Rows of cells -/
structure Z9 (w:World) (B:Nat) (A:Option Addr) (n c:Nat) (L:List PC):Prop where
 len:L.length=n
 cap:n≤c
 fit:c≤maxLen
 void:A=none→c=0
 has:∀ i,i<n→∃ b o A1 n1 c1 A2 n2 c2 A3 n3 c3,A=some ⟨b,o,none⟩∧b<B ∧
  (w.cell? ⟨b,o+i*4,none⟩=some (.int .i64 (L.getD i Ym).1)∧w.cell? ⟨b,o+i*4+1,none⟩=some (.slice A1 n1 c1)∧w.cell? ⟨b,o+i*4+2,none⟩=some (.slice A2 n2 c2)∧w.cell? ⟨b,o+i*4+3,none⟩=some (.slice A3 n3 c3)) ∧
  Ww w B A1 n1 c1 A2 n2 c2 A3 n3 c3 (L.getD i Ym).2.1 (L.getD i Ym).2.2.1 (L.getD i Ym).2.2.2
section
variable {w w' : World}{B B' n c:Nat}{A:Option Addr}{L:List PC}
theorem Z9.Vj (h:Z9 w B A n c L) (hk:∀ b o,b<B→w'.cell? ⟨b,o,none⟩=w.cell? ⟨b,o,none⟩):Z9 w' B A n c L :=
 ⟨h.len,h.cap,h.fit,h.void,fun i hi=>by
  obtain ⟨b,o,A1,n1,c1,A2,n2,c2,A3,n3,c3,h1,h2,⟨h3,h4,h5,h6⟩,h7⟩:=h.has i hi;exact ⟨b,o,A1,n1,c1,A2,n2,c2,A3,n3,c3,h1,h2,⟨(hk b _ h2).trans h3,(hk b _ h2).trans h4,(hk b _ h2).trans h5,(hk b _ h2).trans h6⟩,h7.Vj hk⟩⟩
theorem Z9.more (h:Z9 w B A n c L) (hB:B≤B'):Z9 w B' A n c L :=
 ⟨h.len,h.cap,h.fit,h.void,fun i hi=>by
  obtain ⟨b,o,A1,n1,c1,A2,n2,c2,A3,n3,c3,h1,h2,h3,h7⟩:=h.has i hi;exact ⟨b,o,A1,n1,c1,A2,n2,c2,A3,n3,c3,h1,Nat.lt_of_lt_of_le h2 hB,h3,h7.more hB⟩⟩
theorem Z9.below {C:Nat}(h:Z9 w B A n c L) (hb:Below C w w') (hC:B≤C):Z9 w' B A n c L :=
 h.Vj fun b o hp=>hb.cell (p:=⟨b,o,none⟩) (Nat.lt_of_lt_of_le hp hC)
theorem Z9.Yc (h:Z9 w w.heap.size A n c L) (hb:Below w.heap.size w w'):Z9 w' w'.heap.size A n c L:=(h.below hb (Nat.le_refl _)).more hb.size
theorem Z9.drewN (h:Z9 w B A n c L) (k:Nat):Z9 (w.drewN k) B A n c L:=h.Vj fun _ _ _=>rfl
theorem Z9.Yn (h:Z9 w B A n c L):n≤9223372036854775807:=by
 have h1:=h.cap; have h2:=h.fit
 unfold maxLen at h2; omega
theorem Z9.Z1 (h:Z9 w B A n c L):c≤9223372036854775807:=by
 have h2:=h.fit
 unfold maxLen at h2; omega
theorem Z9.at_ (h:Z9 w B A n c L) {k:Nat}(hk:k<n):∃ b o q A1 n1 c1 A2 n2 c2 A3 n3 c3 S M X,A=some ⟨b,o,none⟩∧b<B ∧
  w.cell? ⟨b,o+k*4,none⟩=some (.int .i64 q)∧w.cell? ⟨b,o+k*4+1,none⟩=some (.slice A1 n1 c1)∧w.cell? ⟨b,o+k*4+2,none⟩=some (.slice A2 n2 c2)∧w.cell? ⟨b,o+k*4+3,none⟩=some (.slice A3 n3 c3) ∧
  Ww w B A1 n1 c1 A2 n2 c2 A3 n3 c3 S M X∧Hid (L.getD k Ym=(q,S,M,X)):=by
 obtain ⟨b,o,A1,n1,c1,A2,n2,c2,A3,n3,c3,h1,h2,⟨h3,h4,h5,h6⟩,h7⟩:=h.has k hk;exact ⟨b,o,_,A1,n1,c1,A2,n2,c2,A3,n3,c3,_,_,_,h1,h2,h3,h4,h5,h6,h7,hid rfl⟩
theorem Z9.cut (h:Z9 w B A n c L) {k:Nat}(hk:k≤n) (_:¬ c=k):Z9 w B (A.map (·.add (k*4))) (n - k) (c - k) (L.drop k):=by
 have hcap:=h.cap; have hf:=h.fit
 refine ⟨by rw [List.length_drop,h.len],by omega,by omega,fun hA=>?_,fun i hi=>?_⟩
 ·rcases A with _ | a
  ·have:=h.void rfl; omega
  ·cases hA
 ·obtain ⟨b,o,A1,n1,c1,A2,n2,c2,A3,n3,c3,rfl,h2,h3,h7⟩:=h.has (k+i) (by omega)
  have e:(L.drop k).getD i Ym=L.getD (k+i) Ym:=by simp [List.getD_eq_getElem?_getD]
  rw [e];rw [show o+(k+i)*4=o+k*4+i*4 from by omega] at h3
  exact ⟨b,o+k*4,A1,n1,c1,A2,n2,c2,A3,n3,c3,by simp [Yt],h2,h3,h7⟩
end
/-! ### Cells of the call's own -/
structure X5 (w:World) (base:Nat) (v1 v2 v3:Value) (S M X:List Int):Prop where
 s:Yf w base v1 S
 m:Yf w base v2 M
 x:Yf w base v3 X
section
variable {w w' : World}{base base' : Nat}{v1 v2 v3:Value}{S M X:List Int}
theorem X5.below {C:Nat}(h:X5 w base v1 v2 v3 S M X) (hb:Below C w w') (hC:w.heap.size≤C):X5 w' base v1 v2 v3 S M X:=⟨h.s.below hb hC,h.m.below hb hC,h.x.below hb hC⟩
theorem X5.low (h:X5 w base v1 v2 v3 S M X) (hb:base'≤base):X5 w base' v1 v2 v3 S M X:=⟨h.s.low hb,h.m.low hb,h.x.low hb⟩
theorem X5.form (h:X5 w base v1 v2 v3 S M X):∃ A1 n1 c1 A2 n2 c2 A3 n3 c3,v1=.slice A1 n1 c1∧v2=.slice A2 n2 c2∧v3=.slice A3 n3 c3∧Ww w w.heap.size A1 n1 c1 A2 n2 c2 A3 n3 c3 S M X:=by
 obtain ⟨A1,n1,c1,e1,h1,_⟩:=h.s.Yu;obtain ⟨A2,n2,c2,e2,h2,_⟩:=h.m.Yu;obtain ⟨A3,n3,c3,e3,h3,_⟩:=h.x.Yu;exact ⟨A1,n1,c1,A2,n2,c2,A3,n3,c3,e1,e2,e3,h1,h2,h3⟩
end
def O6 (w:World) (r:PC × Int) (e:Ending) (w' : World):Prop :=
 (∃ v1 v2 v3,e=.returned (.tuple #[.agg #[.int .i64 r.1.1,v1,v2,v3],.int .i64 r.2])∧X5 w' w.heap.size v1 v2 v3 r.1.2.1 r.1.2.2.1 r.1.2.2.2)∧Below w.heap.size w w'
def Yl1 (w:World) (r:PC × Int) (e:Ending) (w' : World):Prop :=
 (∃ A1 n1 c1 A2 n2 c2 A3 n3 c3,e=.returned (.tuple #[Mm r.1.1 A1 n1 c1 A2 n2 c2 A3 n3 c3,.int .i64 r.2])∧Ww w' w'.heap.size A1 n1 c1 A2 n2 c2 A3 n3 c3 r.1.2.1 r.1.2.2.1 r.1.2.2.2)∧Below w.heap.size w w'
theorem O6.toH (h:O6 w r e w'):Yl1 w r e w':=by
 obtain ⟨⟨v1,v2,v3,rfl,ho⟩,hb⟩:=h;obtain ⟨A1,n1,c1,A2,n2,c2,A3,n3,c3,rfl,rfl,rfl,hh⟩:=ho.form;exact ⟨⟨_,_,_,_,_,_,_,_,_,rfl,hh⟩,hb⟩
theorem Yl1.of (h:Yl1 w r e w') {n:Int}{S M X:List Int}{x:Int}(hr:r=((n,S,M,X),x)) :
  ∃ A1 n1 c1 A2 n2 c2 A3 n3 c3,e=.returned (.tuple #[.agg #[.int .i64 n,.slice A1 n1 c1,.slice A2 n2 c2,.slice A3 n3 c3],.int .i64 x])∧Ww w' w'.heap.size A1 n1 c1 A2 n2 c2 A3 n3 c3 S M X∧Below w.heap.size w w':=by
 subst hr;obtain ⟨⟨A1,n1,c1,A2,n2,c2,A3,n3,c3,h1,h2⟩,h3⟩:=h;exact ⟨A1,n1,c1,A2,n2,c2,A3,n3,c3,h1,h2,h3⟩
theorem Yph {P:Program}{f:FuncId}{args:Array Value}{q:Nat}{v:Value} 
  (h:∀ W,Calls P f args W fun e w'=>e=.returned v∧W=w') (j:Nat):Calls P f args (w.drewN (q+j)) fun e w''=>e=.returned v∧∃ m,w''=w.drewN (q+m) :=
 (h _).mono fun _ _ ⟨he,hm⟩=>⟨he,j,hm.symm⟩
theorem W5 (w:World) (base:Nat):X5 w base (.slice none 0 0) (.slice none 0 0) (.slice none 0 0) [] [] []:=⟨Yf.Zj _ _,Yf.Zj _ _,Yf.Zj _ _⟩
theorem Y5:(Tryz.prog.info? 105).map (·.size)=some 4:=by kernel_rfl
theorem Qt:(Tryz.prog.info? 105).map (fun i=>(i.zero,i.size,i.bytes))=some (some (.agg #[.int .i64 0,.slice none 0 0,.slice none 0 0,.slice none 0 0]),4,80):=by kernel_rfl
end
section
abbrev Ty:ElT (List Int):=Zf Yr 1
abbrev Um:ElT (List Int):=Vg Yr 3 1
abbrev Wi:ElT PC:=Ua Yr 1 (Ua Ty 1 (Ua Ty 1 Ty))
abbrev Yhz:ElT PC:=Ua Yr 1 (Ua Um 1 (Ua Um 1 Um))
theorem Wj:Ty.Ok:=Xm Yh
theorem Vf:Um.Ok:=Zw Yh
theorem Zh:Wi.Ok:=Vo Yh (Vo Wj (Vo Wj Wj))
section
variable {w:World}{S:Nat→Prop}{us:List Value}{x:PC}
theorem Yav {l:List Int}(h:Um w S us l):Ty w S us l:=Og Yh (fun _ _ h=>h) h
theorem Yqq {a:Value}{b c d:Value}(h0:us.take 1=[a]) (h1:(us.drop 1).take 1=[b]) (h2:((us.drop 1).drop 1).take 1=[c]) (h3:((us.drop 1).drop 1).drop 1=[d]):us=[a,b,c,d]:=by
 rcases us with _ | ⟨u0,_ | ⟨u1,_ | ⟨u2,us⟩⟩⟩
 ·cases h0
 ·cases h1
 ·cases h2
 ·simp at h0 h1 h2 h3
  rw [h0,h1,h2,h3]
theorem Tq (h:Wi w S us x):∃ n A1 n1 c1 A2 n2 c2 A3 n3 c3 Su M X,us=[.int .i64 n,.slice A1 n1 c1,.slice A2 n2 c2,.slice A3 n3 c3]∧Row Yr 1 w S A1 n1 c1 Su∧Row Yr 1 w S A2 n2 c2 M∧Row Yr 1 w S A3 n3 c3 X∧x=(n,Su,M,X):=by
 obtain ⟨e0,⟨A1,n1,c1,e1,h1⟩,⟨A2,n2,c2,e2,h2⟩,A3,n3,c3,e3,h3⟩:=h;exact ⟨x.1,A1,n1,c1,A2,n2,c2,A3,n3,c3,x.2.1,x.2.2.1,x.2.2.2,Yqq e0 e1 e2 e3,h1,h2,h3,rfl⟩
theorem Yjq {n:Int}{A1 A2 A3:Option Addr}{n1 c1 n2 c2 n3 c3:Nat}{Su M X:List Int}(h1:Row Yr 1 w S A1 n1 c1 Su) (h2:Row Yr 1 w S A2 n2 c2 M) (h3:Row Yr 1 w S A3 n3 c3 X) :
  Wi w S [.int .i64 n,.slice A1 n1 c1,.slice A2 n2 c2,.slice A3 n3 c3] (n,Su,M,X):=⟨rfl,⟨A1,n1,c1,rfl,h1⟩,⟨A2,n2,c2,rfl,h2⟩,A3,n3,c3,rfl,h3⟩
theorem Yfz (h:Wi w S us x):∃ n A1 n1 c1 A2 n2 c2 A3 n3 c3 Su M X,us=[.int .i64 n,.slice A1 n1 c1,.slice A2 n2 c2,.slice A3 n3 c3]∧Ww w w.heap.size A1 n1 c1 A2 n2 c2 A3 n3 c3 Su M X∧x=(n,Su,M,X):=by
 obtain ⟨n,A1,n1,c1,A2,n2,c2,A3,n3,c3,Su,M,X,e,h1,h2,h3,ex⟩:=Tq h;exact ⟨n,A1,n1,c1,A2,n2,c2,A3,n3,c3,Su,M,X,e,⟨h1.Qr,h2.Qr,h3.Qr⟩,ex⟩
theorem Row.Yh3 {A:Option Addr}{n c:Nat}{L:List PC}(h:Row Wi 4 w S A n c L):Z9 w w.heap.size A n c L:=by
 refine ⟨h.len,h.cap,h.fit,h.void,fun i hi=>?_⟩
 obtain ⟨b,o,us,x,e,_,hl,_,hc,hx,hL⟩:=h.at_ hi;obtain ⟨q,A1,n1,c1,A2,n2,c2,A3,n3,c3,Su,M,X,rfl,h1,rfl⟩:=Yfz hx
 have e1:L.getD i Ym=(q,Su,M,X):=by rw [List.getD_eq_getElem?_getD,hL.out]; rfl
 rw [e1];exact ⟨b,o,A1,n1,c1,A2,n2,c2,A3,n3,c3,e,hl,⟨hc 0 _ rfl,hc 1 _ rfl,hc 2 _ rfl,hc 3 _ rfl⟩,h1⟩
theorem Ys.ints {base:Nat}{v:Value}{L:List Int}(h:Ys Yr 3 1 w base S v L):Yf w base v L:=by
 obtain ⟨vs,h1,h2⟩:=h
 have e:vs=L.map Xe:=by
  apply List.ext_getElem?;intro i;rw [List.getElem?_map]
  have hlen:vs.length=L.length:=by have:=h1.1; omega
  by_cases hi:i<L.length
  ·have hL:L[i]?=some (L[i]'hi):=List.getElem?_eq_getElem hi
   have h3:(vs.drop (i*1)).take 1=[Xe (L[i]'hi)]:=h2 i _ hL
   have h4:=congrArg (fun l=>l[0]?) h3
   simp only [Nat.mul_one,List.getElem?_take,List.getElem?_drop,Nat.lt_one_iff,if_true,Nat.add_zero,List.getElem?_cons_zero] at h4;rw [h4,hL];rfl
  ·rw [List.getElem?_eq_none (by omega),List.getElem?_eq_none (by omega)]
   rfl
 rw [e] at h1;exact h1
end
/-! ### What came in -/
end
abbrev Xr:ElT (List Txt):=Zf Yy 1
abbrev Ymq:ElT Zd:=Zf Xr 1
abbrev Sd:ElT (Zd × PC):=Ua Ymq 1 Wi
theorem Z2:Xr.Ok:=Xm Yp
theorem Yjr:Ymq.Ok:=Xm Z2
theorem Zz:Sd.Ok:=Vo Yjr Zh
theorem Ct {us:List Value}{d:Zd × PC} (h:Sd w S us d):∃ A0 n0 c0 n A1 n1 c1 A2 n2 c2 A3 n3 c3 K Su M X,us=[.slice A0 n0 c0,.int .i64 n,.slice A1 n1 c1,.slice A2 n2 c2,.slice A3 n3 c3]∧Row Xr 1 w S A0 n0 c0 K ∧
  Row Yr 1 w S A1 n1 c1 Su∧Row Yr 1 w S A2 n2 c2 M∧Row Yr 1 w S A3 n3 c3 X∧d=(K,n,Su,M,X):=by
 obtain ⟨⟨A0,n0,c0,e0,h0⟩,hc⟩:=h;obtain ⟨n,A1,n1,c1,A2,n2,c2,A3,n3,c3,Su,M,X,e,h1,h2,h3,ex⟩:=Tq hc;refine ⟨A0,n0,c0,n,A1,n1,c1,A2,n2,c2,A3,n3,c3,d.1,Su,M,X,?_,h0,h1,h2,h3,Prod.ext rfl ex⟩
 have e':=List.take_append_drop 1 us
 rw [e0,e] at e';exact e'.symm
theorem Yh0 {n:Int}{A0 A1 A2 A3:Option Addr}{n0 c0 n1 c1 n2 c2 n3 c3:Nat}{K:Zd}{Su M X:List Int} (h0:Row Xr 1 w S A0 n0 c0 K) (h1:Row Yr 1 w S A1 n1 c1 Su) (h2:Row Yr 1 w S A2 n2 c2 M) (h3:Row Yr 1 w S A3 n3 c3 X) :
  Sd w S [.slice A0 n0 c0,.int .i64 n,.slice A1 n1 c1,.slice A2 n2 c2,.slice A3 n3 c3] (K,n,Su,M,X):=⟨⟨A0,n0,c0,rfl,h0⟩,Yjq h1 h2 h3⟩
theorem Row.atR {A:Option Addr}{n c:Nat}{L:Rws} (h:Row Sd 5 w S A n c L) {k:Nat}(hk:k<n):∃ b o A0 n0 c0 q A1 n1 c1 A2 n2 c2 A3 n3 c3 K Su M X,A=some ⟨b,o,none⟩∧S b∧b<w.heap.size ∧
  w.cell? ⟨b,o+k*5,none⟩=some (.slice A0 n0 c0)∧w.cell? ⟨b,o+k*5+1,none⟩=some (.int .i64 q)∧w.cell? ⟨b,o+k*5+2,none⟩=some (.slice A1 n1 c1)∧w.cell? ⟨b,o+k*5+3,none⟩=some (.slice A2 n2 c2)∧w.cell? ⟨b,o+k*5+4,none⟩=some (.slice A3 n3 c3) ∧
  Row Xr 1 w S A0 n0 c0 K∧Row Yr 1 w S A1 n1 c1 Su∧Row Yr 1 w S A2 n2 c2 M∧Row Yr 1 w S A3 n3 c3 X∧Hid (L[k]?=some (K,q,Su,M,X)):=by
 obtain ⟨b,o,us,x,e,hb,hl,_,hc,hx,hL⟩:=h.at_ hk;obtain ⟨A0,n0,c0,q,A1,n1,c1,A2,n2,c2,A3,n3,c3,K,Su,M,X,rfl,h0,h1,h2,h3,rfl⟩:=Ct hx;exact ⟨b,o,A0,n0,c0,q,A1,n1,c1,A2,n2,c2,A3,n3,c3,K,Su,M,X,e,hb,hl,hc 0 _ rfl,hc 1 _ rfl,hc 2 _ rfl,hc 3 _ rfl,hc 4 _ rfl,h0,h1,h2,h3,hL⟩
abbrev ObT (α:Type):=World→(Nat→Prop)→Nat→α→Prop
def ObT.Ok {α:Type}(O:ObT α):Prop:=∀ w S w' S' g x,Mv w S w' S'→S g→g<w.heap.size→O w S g x→O w' S' g x
theorem Yeu {α:Type}{E:ElT α} (hE:E.Ok) {T TS:TypeId}{sz bytes:Nat}{z:Value}{w:World}{ops:Array Oper}{o:Oper}{a:Act}{Q:Exit→Act→World→Prop}{K:Act→World→Prop}{Fl:Prop}(hgd:o.guard=none) (s x:Operand)
  (ho:o.op=.call { callee:=.builtin .append,args:=#[s,x],argTypes:=#[TS,TS] }) (hinfo:(Tryz.prog.info? T).map (fun i=>(i.zero,i.size,i.bytes))=some (some z,sz,bytes)) (hTS:Tryz.prog.underlying TS=some (.slice T)) (hzs:z.cells.size=sz) (hsz:0<sz∧sz≤100∧bytes≤1000)
  (base:Nat) {S:Nat→Prop}{A:Option Addr}{n c:Nat}{L:List α}(hs:a.eval s=.slice none 0 0) (hx:a.eval x=.slice A n c) (hr:Row E sz w S A n c L) (hone:∀ S us y,E w S us y→us.length=sz→∀ u∈us,u.oneCell'=true) (hlen:n≤1000000) (hbase:base≤w.heap.size)
  (h:∀ v' w',Ys E T sz w' base S v' L→Z7 w (.slice none 0 0) w' v'→K (a.put o.dst v') w') :
  if Region.wanted o (yielded ops a.tmps)=true then Oper.wp Tryz.prog o a w K Q else Fl:=by
 have hw:Region.wanted o (yielded ops a.tmps)=true:=by simp [Region.wanted,hgd]
 rw [if_pos hw];obtain ⟨i,hi,hz0,hz1,hz2⟩:=info_parts hinfo;obtain ⟨h0,vs,h1,h2⟩:=hr;subst h0
 have hul:=h1.len
 rcases A with _ | ad
 ·have hc0:c=0:=h1.void rfl
  have hl0:L.length=0:=by have:=h1.cap; omega
  obtain rfl:L=[]:=List.eq_nil_of_length_eq_zero hl0;subst hc0
  have hrun:=run_append_owned_none (P:=Tryz.prog) (w:=w) base TS o.type T i sz hTS hi (.slice none 0 0) 0 [] (World.ownsRow_nil _ _ _ _)
  unfold Oper.wp execOp;simp only [ho,resolve,invoke,builtin,Sem.run_bind,Sem.run_pure,Result.andThen_ok,List.map_toArray,List.map_cons,List.map_nil,hs,hx,List.length_nil,hrun];exact h _ w (Ys.Zj _ _ _) (Z7.refl w _)
 ·have hcut:∀ j,j<L.length→((vs.drop (j*sz)).take sz).length=sz:=fun j hj=>by
   have:j*sz+sz≤L.length*sz:=by rw [← Nat.succ_mul]; exact Nat.mul_le_mul_right sz hj
   rw [List.length_take,List.length_drop]; omega
  have h1c:∀ u∈vs,u.oneCell'=true:=fun u hu=>by
   obtain ⟨t,ht⟩:=List.getElem?_of_mem hu
   have htl:=(List.getElem?_eq_some_iff.1 ht).1
   have hj:t / sz<L.length:=(Nat.div_lt_iff_lt_mul hsz.1).2 (by omega)
   have hm:t % sz<sz:=Nat.mod_lt _ hsz.1
   refine hone _ _ _ (h2 (t / sz) _ (List.getElem?_eq_getElem (by omega))) (hcut _ hj) u (List.mem_of_getElem? (i:=t % sz) ?_)
   rw [List.getElem?_take,if_pos hm,List.getElem?_drop,Nat.mul_comm,Nat.div_add_mod,ht]
  have hcells:∀ j u,vs[j]?=some u→w.cell? (ad.add j)=some u:=fun j u hu=>by
   have hj:=(List.getElem?_eq_some_iff.1 hu).1
   have hn:0<L.length:=by
    rcases Nat.eq_zero_or_pos L.length with e | e
    ·rw [hul,e,Nat.zero_mul] at hj; omega
    ·exact e
   obtain ⟨b,o,e,_,_,hc⟩:=h1.has hn;injection e with e
   subst e;rw [Yt];exact hc j u hu
  obtain ⟨v',w',hrun,e1,e2,_,e4⟩:=run_append_own_at (P:=Tryz.prog) w base TS o.type T i _ sz bytes hTS hi hz0 hz1 hz2 hzs hsz.1 (.slice none 0 0) 0 [] (World.ownsRow_nil _ _ _ _) ad L.length c vs hul hcells h1c (by unfold maxLen; omega) (by have h9:=Nat.mul_le_mul hlen hsz.2.2; rw [Nat.zero_add]; omega) hbase
  unfold Oper.wp execOp;simp only [ho,resolve,invoke,builtin,Sem.run_bind,Sem.run_pure,Result.andThen_ok,List.map_toArray,List.map_cons,List.map_nil,hs,hx,hrun]
  have hG:Z7 w (.slice none 0 0) w' v':=⟨e2,fun k hk=>by
   rcases e4 with e4 | e4
   ·exact .inl (e4 ▸ hk)
   ·rw [e4] at hk
    injection hk with hk
    exact .inr (Nat.le_of_eq hk)⟩
  have hm:Mv w (fun k=>S k∧(Value.slice none 0 0).ownBlock≠some k) w' (fun k=>S k∧v'.ownBlock≠some k):=Mv.Kk hG
  exact h v' w' ⟨vs,by rw [List.nil_append,Nat.zero_add] at e1; exact e1,fun j y hj=>hE _ _ _ _ _ _ hm (hE _ _ _ _ _ _ (Mv.to w fun b hb _=>⟨hb,fun e=>by cases e⟩) (h2 j y hj))⟩ hG
end Go.Proofs.YtkablhecedcngaaGreat
