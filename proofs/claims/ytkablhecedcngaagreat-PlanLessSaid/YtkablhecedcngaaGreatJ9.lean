/- Foot, FootL, ListsA, StepX, TextsA -/
import Derived.Test.YtkablhecedcngaaGreatJ6
namespace Go.Proofs.YtkablhecedcngaaGreat
set_option maxRecDepth 100000
set_option maxHeartbeats 8000000
open Go.RowKit
open Go.Lib (hid)
variable {w w':World}{C base c n sz:Nat}{v:Value}{S:Nat→Prop}{T e t:TypeId}{l:List Int}{A:Option Addr}
section
def Mv (w:World) (S:Nat→Prop) (w' : World) (S' : Nat→Prop):Prop:=∀ b,S b→b<w.heap.size→w'.heap[b]?=w.heap[b]?∧S' b
theorem Ek {w w' : World}{b:Nat}(h:w'.heap[b]?=w.heap[b]?) (hb:b<w.heap.size):b<w'.heap.size:=by
 rw [Array.getElem?_eq_getElem hb] at h;exact (Array.getElem?_eq_some_iff.1 h).1
section
variable {w a w' : World}{S S' S'' : Nat→Prop}
theorem Mv.trans (h:Mv w S a S') (h' : Mv a S' w' S''):Mv w S w' S'':=fun b hb hl=>by
 obtain ⟨h1,h2⟩:=h b hb hl;obtain ⟨h3,h4⟩:=h' b h2 (Ek h1 hl);exact ⟨h3.trans h1,h4⟩
theorem Mv.to (w:World) (h:∀ b,S b→b<w.heap.size→S' b):Mv w S w S':=fun b hb hl=>⟨rfl,h b hb hl⟩
theorem Mv.Yc (hb:Below w.heap.size w w') (S:Nat→Prop):Mv w S w' S:=fun b h hl=>⟨hb.block b hl,h⟩
theorem Mv.below {C:Nat}(hb:Below C w w') (hS:∀ b,S b→b<C):Mv w S w' S:=fun b h _=>⟨hb.block b (hS b h),h⟩
theorem Mv.alloc (w:World) (o:Obj) (S:Nat→Prop):Mv w S (w.alloc o) S:=fun b h hl=>⟨Below.heap_alloc w o b hl,h⟩
theorem Mv.drewN (w:World) (k:Nat) (S:Nat→Prop):Mv w S (w.drewN k) S:=fun _ h _=>⟨rfl,h⟩
theorem Mv.set (w:World) (g i:Nat) (u:Value) (hS:¬ S g):Mv w S (w.setCell ⟨g,i,none⟩ u) S:=fun b h _=>⟨by
 simp [World.setCell,Array.getElem?_modify];intro e; subst e; exact absurd h hS,h⟩
theorem Mv.Kk {v v' : Value}(hg:Z7 w v w' v'):Mv w (fun k=>S k∧v.ownBlock≠some k) w' (fun k=>S k∧v'.ownBlock≠some k):=fun b h hl =>
 ⟨hg.1.block b hl (fun e=>h.2 e.symm),h.1,fun e=>by
  rcases hg.2 b e with h1 | h1
  ·exact h.2 h1
  ·omega⟩
end
structure Sl (w:World) (S:Nat→Prop) (A:Option Addr) (n c sz:Nat) (vs:List Value):Prop where
 len:vs.length=n*sz
 cap:n≤c
 fit:c≤maxLen
 void:A=none→c=0
 has:0<n→∃ b o,A=some ⟨b,o,none⟩∧S b∧b<w.heap.size∧∀ j u,vs[j]?=some u→w.cell? ⟨b,o+j,none⟩=some u
section
variable {w w' : World}{S S' : Nat→Prop}{A:Option Addr}{n c sz:Nat}{vs:List Value}
theorem Sl.mv (h:Sl w S A n c sz vs) (m:Mv w S w' S'):Sl w' S' A n c sz vs :=
 ⟨h.len,h.cap,h.fit,h.void,fun hn=>by
  obtain ⟨b,o,e,hb,hl,hc⟩:=h.has hn;obtain ⟨h1,h2⟩:=m b hb hl;exact ⟨b,o,e,h2,Ek h1 hl,fun j u hu=>(World.cell?_of_block h1).trans (hc j u hu)⟩⟩
theorem Sl.none_ (w:World) (S:Nat→Prop) (sz:Nat):Sl w S none 0 0 sz []:=⟨by simp,Nat.le_refl _,Nat.zero_le _,fun _=>rfl,fun h=>absurd h (by omega)⟩
theorem Sl.R8 (h:Sl w S A n c sz vs) {k:Nat}(hk:k≤n):Sl w S A k c sz (vs.take (k*sz)) :=
 ⟨by rw [List.length_take,h.len]; exact Nat.min_eq_left (Nat.mul_le_mul_right sz hk),Nat.le_trans hk h.cap,h.fit,h.void,fun hn=>by
  obtain ⟨b,o,e,hb,hl,hc⟩:=h.has (by omega)
  refine ⟨b,o,e,hb,hl,fun j u hu=>hc j u ?_⟩
  rw [List.getElem?_take] at hu
  split at hu
  ·exact hu
  ·cases hu⟩
theorem Sl.Yn (h:Sl w S A n c sz vs):n≤9223372036854775807:=by
 have h1:=h.cap; have h2:=h.fit
 unfold maxLen at h2; omega
theorem Sl.Z1 (h:Sl w S A n c sz vs):c≤9223372036854775807:=by
 have h2:=h.fit
 unfold maxLen at h2; omega
end
abbrev ElT (α:Type):=World→(Nat→Prop)→List Value→α→Prop
def ElT.Ok {α:Type}(E:ElT α):Prop:=∀ w S w' S' us x,Mv w S w' S'→E w S us x→E w' S' us x
def Yy:ElT Txt:=fun _ _ us x=>us=[Xp x]
def Yr:ElT Int:=fun _ _ us x=>us=[Xe x]
theorem Yp:Yy.Ok:=fun _ _ _ _ _ _ _ h=>h
theorem Yh:Yr.Ok:=fun _ _ _ _ _ _ _ h=>h
def Row {α:Type}(E:ElT α) (sz:Nat) (w:World) (S:Nat→Prop) (A:Option Addr) (n c:Nat) (L:List α):Prop :=
 L.length=n∧∃ vs,Sl w S A n c sz vs∧∀ i x,L[i]?=some x→E w S ((vs.drop (i*sz)).take sz) x
def Zf {α:Type}(E:ElT α) (sz:Nat):ElT (List α):=fun w S us L=>∃ A n c,us=[.slice A n c]∧Row E sz w S A n c L
def Ua {α β:Type}(E:ElT α) (s1:Nat) (F:ElT β):ElT (α × β):=fun w S us x=>E w S (us.take s1) x.1∧F w S (us.drop s1) x.2
section
variable {α β:Type}{E:ElT α}{F:ElT β}{w w' : World}{S S' : Nat→Prop}{A:Option Addr}{n c sz:Nat}{L:List α}
theorem Row.mv (hE:E.Ok) (h:Row E sz w S A n c L) (m:Mv w S w' S'):Row E sz w' S' A n c L:=by
 obtain ⟨h0,vs,h1,h2⟩:=h;exact ⟨h0,vs,h1.mv m,fun i x hi=>hE _ _ _ _ _ _ m (h2 i x hi)⟩
theorem Xm (hE:E.Ok):(Zf E sz).Ok:=fun _ _ _ _ _ _ m ⟨A,n,c,h1,h2⟩=>⟨A,n,c,h1,h2.mv hE m⟩
theorem Vo {s1:Nat}(hE:E.Ok) (hF:F.Ok):(Ua E s1 F).Ok:=fun _ _ _ _ _ _ m ⟨h1,h2⟩=>⟨hE _ _ _ _ _ _ m h1,hF _ _ _ _ _ _ m h2⟩
theorem Row.len (h:Row E sz w S A n c L):L.length=n:=h.1
theorem Row.cap (h:Row E sz w S A n c L):n≤c:=by obtain ⟨_,vs,h1,_⟩:=h; exact h1.cap
theorem Row.fit (h:Row E sz w S A n c L):c≤maxLen:=by obtain ⟨_,vs,h1,_⟩:=h; exact h1.fit
theorem Row.Yn (h:Row E sz w S A n c L):n≤9223372036854775807:=by obtain ⟨_,vs,h1,_⟩:=h; exact h1.Yn
theorem Row.Z1 (h:Row E sz w S A n c L):c≤9223372036854775807:=by obtain ⟨_,vs,h1,_⟩:=h; exact h1.Z1
theorem Row.void (h:Row E sz w S A n c L):A=none→c=0:=by obtain ⟨_,vs,h1,_⟩:=h; exact h1.void
theorem Row.none_ (w:World) (S:Nat→Prop):Row E sz w S none 0 0 []:=⟨rfl,[],Sl.none_ w S sz,fun i x h=>by simp at h⟩
theorem Row.R8 (h:Row E sz w S A n c L) {k:Nat}(hk:k≤n):Row E sz w S A k c (L.take k):=by
 obtain ⟨h0,vs,h1,h2⟩:=h;refine ⟨by rw [List.length_take,h0]; omega,_,h1.R8 hk,fun i x hi=>?_⟩
 have hik:i<k:=by
  have:=(List.getElem?_eq_some_iff.1 hi).1
  rw [List.length_take] at this;omega
 rw [List.getElem?_take,if_pos hik] at hi
 have e:((vs.take (k*sz)).drop (i*sz)).take sz=(vs.drop (i*sz)).take sz:=by
  rw [List.drop_take,List.take_take]
  congr 1
  have:i*sz+sz≤k*sz:=by rw [← Nat.succ_mul]; exact Nat.mul_le_mul_right sz hik
  omega
 rw [e];exact h2 i x hi
theorem Row.at_ (h:Row E sz w S A n c L) {k:Nat}(hk:k<n):∃ b o us x,A=some ⟨b,o,none⟩∧S b∧b<w.heap.size∧us.length=sz∧(∀ j u,us[j]?=some u→w.cell? ⟨b,o+k*sz+j,none⟩=some u)∧E w S us x∧Hid (L[k]?=some x):=by
 obtain ⟨h0,vs,h1,h2⟩:=h;obtain ⟨b,o,rfl,hb,hl,hc⟩:=h1.has (by omega)
 have hL:L[k]?=some (L[k]'(by omega)):=List.getElem?_eq_getElem (by omega)
 have hle:k*sz+sz≤n*sz:=by rw [← Nat.succ_mul]; exact Nat.mul_le_mul_right sz hk
 refine ⟨b,o,_,_,rfl,hb,hl,by rw [List.length_take,List.length_drop,h1.len]; omega,fun j u hu=>?_,h2 k _ hL,hid hL⟩
 rw [List.getElem?_take] at hu
 split at hu
 ·rw [List.getElem?_drop] at hu
  rw [Nat.add_assoc];exact hc _ u hu
 ·cases hu
theorem Row.at1 {L:List (List α)}(h:Row (Zf E sz) 1 w S A n c L) {k:Nat}(hk:k<n):∃ b o A' n' c' l,A=some ⟨b,o,none⟩∧S b∧b<w.heap.size∧w.cell? ⟨b,o+k,none⟩=some (.slice A' n' c')∧Row E sz w S A' n' c' l∧Hid (L[k]?=some l):=by
 obtain ⟨b,o,us,x,h1,h2,h3,h4,h5,⟨A',n',c',rfl,h6⟩,h7⟩:=h.at_ hk;refine ⟨b,o,A',n',c',x,h1,h2,h3,?_,h6,h7⟩
 have:=h5 0 _ rfl
 rwa [Nat.mul_one,Nat.add_zero] at this
theorem Row.at2 {sz' : Nat}{L:List (List α × List β)}(h:Row (Ua (Zf E sz) 1 (Zf F sz')) 2 w S A n c L) {k:Nat}(hk:k<n):∃ b o A1 n1 c1 A2 n2 c2 p q,A=some ⟨b,o,none⟩∧S b∧b<w.heap.size ∧
  w.cell? ⟨b,o+k*2,none⟩=some (.slice A1 n1 c1)∧w.cell? ⟨b,o+k*2+1,none⟩=some (.slice A2 n2 c2)∧Row E sz w S A1 n1 c1 p∧Row F sz' w S A2 n2 c2 q∧Hid (L[k]?=some (p,q)):=by
 obtain ⟨b,o,us,x,h1,h2,h3,h4,h5,⟨⟨A1,n1,c1,e1,h6⟩,A2,n2,c2,e2,h7⟩,h8⟩:=h.at_ hk
 match us,h4 with
 | [u0,u1],_ =>
  simp at e1 e2;subst e1 e2;exact ⟨b,o,A1,n1,c1,A2,n2,c2,x.1,x.2,h1,h2,h3,h5 0 _ rfl,h5 1 _ rfl,h6,h7,h8⟩
/-! ### .. and the words that were before -/
theorem Row.Ymd {G:α→Value}(hG:∀ w S us x,E w S us x→us=[G x]) (h:Row E 1 w S A n c L):∃ vs,vs=L.map G∧Sl w S A n c 1 vs:=by
 obtain ⟨h0,vs,h1,h2⟩:=h;refine ⟨vs,List.ext_getElem? fun i=>?_,h1⟩
 rw [List.getElem?_map]
 by_cases hi:i<n
 ·have hL:L[i]?=some (L[i]'(by omega)):=List.getElem?_eq_getElem (by omega)
  have h3:=hG _ _ _ _ (h2 i _ hL)
  have h4:=congrArg (fun l=>l[0]?) h3
  simp only [Nat.mul_one,List.getElem?_take,List.getElem?_drop,Nat.lt_one_iff,if_true,Nat.add_zero,List.getElem?_cons_zero] at h4;rw [h4,hL];rfl
 ·rw [List.getElem?_eq_none (by rw [h1.len]; omega),List.getElem?_eq_none (by omega)]
  rfl
theorem Sl.Ytk {vs:List Value}(h:Sl w S A n c 1 vs):Has w w.heap.size A vs:=fun hn=>by
 obtain ⟨b,o,e,_,hl,hc⟩:=h.has (by have:=h.len; omega)
 exact ⟨b,o,e,hl,hc⟩
theorem Row.Ea {L:List Txt}(h:Row Yy 1 w S A n c L):Zn w w.heap.size A n c L:=by
 obtain ⟨vs,rfl,h1⟩:=h.Ymd (G:=Xp) fun _ _ _ _ e=>e
 exact ⟨h.1,h1.cap,h1.fit,h1.void,h1.Ytk⟩
theorem Row.Qr {L:List Int}(h:Row Yr 1 w S A n c L):Yx w w.heap.size A n c L:=by
 obtain ⟨vs,rfl,h1⟩:=h.Ymd (G:=Xe) fun _ _ _ _ e=>e
 exact ⟨h.1,h1.cap,h1.fit,h1.void,h1.Ytk⟩
theorem Row.Ytm {L:List (List Int)}(h:Row (Zf Yr 1) 1 w S A n c L):Ux w w.heap.size A n c L:=by
 refine ⟨h.1,h.cap,h.fit,h.void,fun i hi=>?_⟩
 obtain ⟨b,o,A',n',c',l,e,_,hl,hc,hr,he⟩:=h.at1 hi
 have e1:L.getD i []=l:=by rw [List.getD_eq_getElem?_getD,he.out]; rfl
 rw [e1];exact ⟨b,o,A',n',c',e,hl,hc,hr.Qr⟩
theorem Sl.Yo1 {vs:List Value}{B:Nat}(hl:vs.length=n) (hc:n≤c) (hf:c≤maxLen) (hv:A=none→c=0) (h:Has w B A vs):Sl w (fun b=>b<B) A n c 1 vs :=
 ⟨by omega,hc,hf,hv,fun hn=>by
  obtain ⟨b,o,e,hb,hcell⟩:=h (by omega)
  have h0:=hcell 0 _ (List.getElem?_eq_getElem (by omega))
  exact ⟨b,o,e,hb,World.block_lt_of_cell? w _ h0,hcell⟩⟩
theorem Row.of1 {G:α→Value}(hG:∀ x,E w S [G x] x) (h:Sl w S A n c 1 (L.map G)):Row E 1 w S A n c L :=
 ⟨by have:=h.len; simp at this; omega,_,h,fun i x hi=>by
  have e:((L.map G).drop (i*1)).take 1=[G x]:=by
   apply List.ext_getElem?;intro j;rw [List.getElem?_take]
   match j with
   | 0=>simp [hi]
   | j+1=>simp
  rw [e];exact hG x⟩
theorem Zn.row {B:Nat}{L:List Txt}(h:Zn w B A n c L):Row Yy 1 w (fun b=>b<B) A n c L:=Row.of1 (G:=Xp) (fun _=>rfl) (Sl.Yo1 (by rw [List.length_map]; exact h.len) h.cap h.fit h.void h.has)
theorem Yx.row {B:Nat}{L:List Int}(h:Yx w B A n c L):Row Yr 1 w (fun b=>b<B) A n c L:=Row.of1 (G:=Xe) (fun _=>rfl) (Sl.Yo1 (by rw [List.length_map]; exact h.len) h.cap h.fit h.void h.has)
end
/-! ### Rows of the call's own -/
section
variable {α:Type}{E:ElT α}{w w' : World}{S S' : Nat→Prop}{n sz base:Nat}{T:TypeId}{v:Value}{L:List α}
def Ys (E:ElT α) (T:TypeId) (sz:Nat) (w:World) (base:Nat) (S:Nat→Prop) (v:Value) (L:List α):Prop :=
 ∃ vs,w.ownsRow base T sz v L.length vs∧∀ i x,L[i]?=some x→E w (fun k=>S k∧v.ownBlock≠some k) ((vs.drop (i*sz)).take sz) x
theorem Ys.Zj (w:World) (base:Nat) (S:Nat→Prop):Ys E T sz w base S (.slice none 0 0) []:=⟨[],World.ownsRow_nil _ _ _ _,fun i x h=>by simp at h⟩
theorem Ys.lt (h:Ys E T sz w base S v L):∀ k,v.ownBlock=some k→base≤k∧k<w.heap.size:=by
 obtain ⟨vs,h1,_⟩:=h;exact World.ownsRow.lt h1
theorem Ys.mv (hE:E.Ok) (h:Ys E T sz w base S v L) (m:Mv w (fun k=>S k∨v.ownBlock=some k) w' (fun _=>True)) (hos:w.grownBy w' none∨∃ r,w.grownBy w' (some r)∧v.ownBlock≠some r):Ys E T sz w' base S v L:=by
 obtain ⟨vs,h1,h2⟩:=h;refine ⟨vs,?_,fun i x hi=>hE _ _ _ _ _ _ (fun b hb hl=>⟨(m b (.inl hb.1) hl).1,hb⟩) (h2 i x hi)⟩
 rcases hos with hg | ⟨r,hg,hne⟩
 ·exact World.ownsRow.kept h1 hg (by cases v.ownBlock <;> simp)
 ·exact World.ownsRow.kept h1 hg (.inr hne)
theorem Ys.below (hE:E.Ok) (h:Ys E T sz w base S v L) (hb:Below w.heap.size w w'):Ys E T sz w' base S v L :=
 h.mv hE (fun b _ hl=>⟨hb.block b hl,trivial⟩) (.inl ⟨hb.os,hb.tape,hb.output,hb.size,fun k hk _=>hb.block k hk⟩)
theorem Ys.alloc (hE:E.Ok) (h:Ys E T sz w base S v L) (o:Obj):Ys E T sz (w.alloc o) base S v L:=h.below hE (Ya w o)
theorem Ys.drewN (h:Ys E T sz w base S v L) (hE:E.Ok) (k:Nat):Ys E T sz (w.drewN k) base S v L:=h.mv hE (fun _ _ _=>⟨rfl,trivial⟩) (.inl ⟨rfl,rfl,rfl,Nat.le_refl _,fun _ _ _=>rfl⟩)
theorem Ys.to (hE:E.Ok) (h:Ys E T sz w base S v L) (hS:∀ b,S b→b<w.heap.size→S' b):Ys E T sz w base S' v L:=by
 obtain ⟨vs,h1,h2⟩:=h;exact ⟨vs,h1,fun i x hi=>hE _ _ _ _ _ _ (Mv.to w fun b hb hl=>⟨hS b hb.1 hl,hb.2⟩) (h2 i x hi)⟩
theorem Ys.low {base' : Nat}(h:Ys E T sz w base S v L) (hb:base'≤base):Ys E T sz w base' S v L:=by
 obtain ⟨vs,h1,h2⟩:=h;exact ⟨vs,Uv h1 hb,h2⟩
theorem Ys.shape (h:Ys E T sz w base S v L):∃ A c,v=.slice A L.length c:=by
 obtain ⟨vs,h1,_⟩:=h
 rcases h1.2 with ⟨rfl,h0⟩ | ⟨g,cap,cur,rfl,_⟩
 ·exact ⟨none,0,by rw [h0]⟩
 ·exact ⟨_,cap,rfl⟩
theorem Ys.read (hE:E.Ok) (h:Ys E T sz w base S v L):∃ A c,v=.slice A L.length c∧Row E sz w (fun k=>S k∨(base≤k∧v.ownBlock=some k)) A L.length c L:=by
 obtain ⟨vs,h1,h2⟩:=h
 rcases h1.2 with ⟨rfl,h0⟩ | ⟨g,cap,cur,rfl,hb,hg,hnc,hcm,_⟩
 ·obtain rfl:L=[]:=List.eq_nil_of_length_eq_zero h0
  exact ⟨none,0,rfl,Row.none_ _ _⟩
 ·refine ⟨_,cap,rfl,rfl,vs,⟨h1.1,hnc,hcm,(fun h=>by cases h),fun _=>⟨g,0,rfl,.inr ⟨hb,rfl⟩,(Array.getElem?_eq_some_iff.1 hg).1,fun j u hu=>?_⟩⟩,fun i x hi=>hE _ _ _ _ _ _ (Mv.to w fun b hb _=>.inl hb.1) (h2 i x hi)⟩
  have:=h1.cells (g:=g) rfl j u hu
  rwa [Yt] at this
theorem Ys.snoc (hE:E.Ok) {vs us:List Value}{x:α}{v' : Value}(hr:w.ownsRow base T sz v L.length vs) (h:∀ i x,L[i]?=some x→E w (fun k=>S k∧v.ownBlock≠some k) ((vs.drop (i*sz)).take sz) x) (hus:us.length=sz) (hx:E w (fun k=>S k∧v.ownBlock≠some k) us x)
  (hown:w'.ownsRow base T sz v' (L.length+1) (vs++us)) (hg:Z7 w v w' v'):Ys E T sz w' base S v' (L++[x]):=by
 have hm:Mv w (fun k=>S k∧v.ownBlock≠some k) w' (fun k=>S k∧v'.ownBlock≠some k):=Mv.Kk hg
 have hl:=hr.1
 refine ⟨_,by simpa using hown,fun i y hi=>hE _ _ _ _ _ _ hm ?_⟩
 by_cases hlt:i<L.length
 ·rw [List.getElem?_append_left hlt] at hi
  have hle:i*sz+sz≤L.length*sz:=by rw [← Nat.succ_mul]; exact Nat.mul_le_mul_right sz hlt
  rw [List.drop_append_of_le_length (by omega),List.take_append_of_le_length (by rw [List.length_drop]; omega)]
  exact h i y hi
 ·have hie:i=L.length:=by
   have:=(List.getElem?_eq_some_iff.1 hi).1
   simp at this;omega
  subst hie;simp at hi;subst hi;rw [← hl,List.drop_left,List.take_of_length_le (by omega)]
  exact hx
end
theorem Wq {α:Type}{E:ElT α} (hE:E.Ok) {T TS:TypeId}{sz bytes:Nat}{z:Value}{w:World}{ops:Array Oper}{rest:List Oper}{o:Oper}{a:Act}{Q:Exit→Act→World→Prop}(hgd:o.guard=none) (s x:Operand)
  (ho:o.op=.call { callee:=.builtin .append,args:=#[s,x],argTypes:=#[TS,TS] }) (hinfo:(Tryz.prog.info? T).map (fun i=>(i.zero,i.size,i.bytes))=some (some z,sz,bytes)) (hTS:Tryz.prog.underlying TS=some (.slice T)) (hzs:z.cells.size=sz) (hsz:0<sz∧sz≤100∧bytes≤1000)
  (base:Nat) (S:Nat→Prop) (v:Value) (L:List α) (hs:a.eval s=v) (hown:Ys E T sz w base S v L) (g:Nat) (hx:a.eval x=.slice (some ⟨g,0,none⟩) 1 1) (us:List Value) (hus:us.length=sz) (y:α)
  (hy:∀ j u,us[j]?=some u→w.cell? ((⟨g,0,none⟩ : Addr).add j)=some u) (hone:∀ u∈us,u.oneCell'=true) (hE' : E w (fun k=>S k∧v.ownBlock≠some k) us y) (hlen:L.length≤1000000) (hbase:base≤w.heap.size)
  (h:∀ v' w',Ys E T sz w' base S v' (L++[y])→Z7 w v w' v'→wpList Tryz.prog ops Q rest (a.put o.dst v') w'):wpList Tryz.prog ops Q (o :: rest) a w:=by
 obtain ⟨i,hi,hz0,hz1,hz2⟩:=info_parts hinfo;obtain ⟨vs,hr,hxs⟩:=hown;refine wpList_append_own_at w hgd s x TS ho base T i _ sz bytes hTS hi hz0 hz1 hz2 hzs hsz.1 v L.length vs hs hr ⟨g,0,none⟩ 1 1 us hx (by rw [hus]; omega) hy hone (by unfold maxLen; omega) (by have:=Nat.mul_le_mul (show L.length+1≤1000001 by omega) hsz.2.2; omega) hbase ?_
 intro v' w' h1 h2 _ h4
 have hG:Z7 w v w' v':=⟨h2,fun k hk=>by
  rcases h4 with h4 | h4
  ·exact .inl (h4 ▸ hk)
  ·rw [h4] at hk
   injection hk with hk
   exact .inr (Nat.le_of_eq hk)⟩
 exact h v' w' (Ys.snoc hE hr hxs hus hE' h1 hG) hG
theorem Yf.row (h:Yf w base v l):∃ A c,v=.slice A l.length c∧Row Yr 1 w (fun k=>base≤k∧v.ownBlock=some k) A l.length c l:=by
 have h' : Ys Yr 3 1 w base (fun _=>False) v l:=⟨_,h,fun i x hi=>by
  have e:((l.map Xe).drop (i*1)).take 1=[Xe x]:=by
   apply List.ext_getElem?;intro j;rw [List.getElem?_take]
   match j with
   | 0=>simp [hi]
   | j+1=>simp
  exact e⟩
 obtain ⟨A,c,e,hr⟩:=h'.read Yh;exact ⟨A,c,e,hr.mv Yh (Mv.to w fun b hb _=>by rcases hb with hb | hb; exact hb.elim; exact hb)⟩
theorem Xb.row {l:List Txt} (h:Xb w base v l):∃ A c,v=.slice A l.length c∧Row Yy 1 w (fun k=>base≤k∧v.ownBlock=some k) A l.length c l:=by
 have h' : Ys Yy 9 1 w base (fun _=>False) v l:=⟨_,h,fun i x hi=>by
  have e:((l.map Xp).drop (i*1)).take 1=[Xp x]:=by
   apply List.ext_getElem?;intro j;rw [List.getElem?_take]
   match j with
   | 0=>simp [hi]
   | j+1=>simp
  exact e⟩
 obtain ⟨A,c,e,hr⟩:=h'.read Yp;exact ⟨A,c,e,hr.mv Yp (Mv.to w fun b hb _=>by rcases hb with hb | hb; exact hb.elim; exact hb)⟩
/-! ### Elements that are rows of the call's own: they may be written -/
theorem Ev {vs:List Value} (h:w.ownsRow base T sz v n vs) (hm:∀ k,v.ownBlock=some k→w'.heap[k]?=w.heap[k]?):w'.ownsRow base T sz v n vs:=by
 refine ⟨h.1,?_⟩
 rcases h.2 with ⟨rfl,h0⟩ | ⟨g,cap,cur,rfl,hb,hg,hr⟩
 ·exact .inl ⟨rfl,h0⟩
 ·exact .inr ⟨g,cap,cur,rfl,hb,(hm g rfl).trans hg,hr⟩
def Vg {α:Type}(E:ElT α) (T:TypeId) (sz:Nat):ElT (List α):=fun w S us L=>∃ v,us=[v]∧Ys E T sz w 0 S v L∧∀ k,v.ownBlock=some k→S k
section
variable {α:Type}{E E' : ElT α}{w w' : World}{S S' : Nat→Prop}{A:Option Addr}{n c sz base:Nat}{T:TypeId}{v:Value}{L:List α}{us:List Value}
theorem Zw (hE:E.Ok):(Vg E T sz).Ok:=fun _ _ _ _ _ _ m ⟨v,e,⟨vs,h1,h2⟩,h3⟩ =>
 ⟨v,e,⟨vs,Ev h1 fun k hk=>(m k (h3 k hk) (h1.lt k hk).2).1,fun i x hi=>hE _ _ _ _ _ _ (fun b hb hl=>⟨(m b hb.1 hl).1,(m b hb.1 hl).2,hb.2⟩) (h2 i x hi)⟩,fun k hk=>(m k (h3 k hk) (h1.lt k hk).2).2⟩
theorem Row.map (hEE:∀ us x,E w S us x→E' w S us x) (h:Row E sz w S A n c L):Row E' sz w S A n c L:=by
 obtain ⟨h0,vs,h1,h2⟩:=h;exact ⟨h0,vs,h1,fun i x hi=>hEE _ _ (h2 i x hi)⟩
theorem Og (hE:E.Ok) (hEE:∀ us x,E w S us x→E' w S us x) (h:Vg E T sz w S us L):Zf E' sz w S us L:=by
 obtain ⟨v,rfl,h1,h2⟩:=h;obtain ⟨A,c,rfl,hr⟩:=h1.read hE;exact ⟨A,_,c,rfl,(hr.mv hE (Mv.to w fun b hb _=>by
  rcases hb with hb | ⟨_,hb⟩
  ·exact hb
  ·exact h2 b hb)).map hEE⟩
theorem Yjs (h:Vg E T sz w S us L):∃ A n c,us=[.slice A n c]:=by
 obtain ⟨v,rfl,h1,_⟩:=h;obtain ⟨A,c,rfl⟩:=h1.shape;exact ⟨A,_,c,rfl⟩
theorem Ys.el (hE:E.Ok) {u:Value}{B:Nat}(h:Ys E T sz w B (fun k=>B≤k) v L) (hu:∀ k,u.ownBlock=some k→k<B) (hb:base≤B):Vg E T sz w (fun k=>base≤k∧u.ownBlock≠some k) [v] L :=
 ⟨v,rfl,(h.to hE fun b hB _=>⟨Nat.le_trans hb hB,fun e=>by have:=hu b e; omega⟩).low (Nat.zero_le _),fun k hk=>⟨Nat.le_trans hb (h.lt k hk).1,fun e=>by have:=hu k e; have:=(h.lt k hk).1; omega⟩⟩
end
def Told {α:Type}(E:ElT α) (T:TypeId) (sz:Nat) (w:World) (L:List α) (e:Ending) (w' : World):Prop :=
 ∃ v,e=.returned v∧Ys E T sz w' w.heap.size (fun k=>w.heap.size≤k) v L∧Below w.heap.size w w'
theorem Yf.Yk6 (h:Yf w base v l):Ys Yr 3 1 w base S v l:=⟨_,h,fun i x hi=>by
  have e:((l.map Xe).drop (i*1)).take 1=[Xe x]:=by
   apply List.ext_getElem?;intro j;rw [List.getElem?_take]
   match j with
   | 0=>simp [hi]
   | j+1=>simp
  exact e⟩
theorem Xb.Yk6 {l:List Txt} (h:Xb w base v l):Ys Yy 9 1 w base S v l:=⟨_,h,fun i x hi=>by
  have e:((l.map Xp).drop (i*1)).take 1=[Xp x]:=by
   apply List.ext_getElem?;intro j;rw [List.getElem?_take]
   match j with
   | 0=>simp [hi]
   | j+1=>simp
  exact e⟩
/-! ### What came in -/
theorem RC.row {α:Type}{E:ElT α}{G:α→Prop}{P:Program}{a:Option Addr} (ht:P.underlying t=some (.slice e)) (hc:P.cellsOf e=sz) (hsz:0<sz)
  (hE:∀ cs,RC P w e cs→∃ x,E w (fun b=>b<w.heap.size) cs x∧G x) (h:RC P w t [.slice a n c]):∃ L,Row E sz w (fun b=>b<w.heap.size) a n c L∧∀ x∈L,G x:=by
 have hs:=h.slice ht
 have hshape:n≤c∧c≤maxLen∧(a=none→c=0):=by
  rcases hs with ⟨h1,h2,h3⟩ | ⟨ad,h1,h2,h3,_⟩
  ·subst h2 h3; exact ⟨Nat.le_refl _,Nat.zero_le _,fun _=>rfl⟩
  ·exact ⟨h2,h3,fun e=>by rw [h1] at e; cases e⟩
 rcases Nat.eq_zero_or_pos n with h0 | h0
 ·subst h0
  exact ⟨[],⟨rfl,[],⟨by simp,Nat.zero_le _,hshape.2.1,hshape.2.2,fun h=>absurd h (by omega)⟩,fun i x h=>by simp at h⟩,fun x hx=>by simp at hx⟩
 ·obtain ⟨b,o,rfl,hb,_,_,hi⟩:=h.rows ht (by omega) h0
  rw [hc] at hi
  have key:∀ m,m≤n→∃ (vs:List Value) (L:List α),L.length=m∧vs.length=m*sz∧(∀ j u,vs[j]?=some u→w.cell? ⟨b,o+j,none⟩=some u)∧(∀ i x,L[i]?=some x→E w (fun b=>b<w.heap.size) ((vs.drop (i*sz)).take sz) x)∧∀ x∈L,G x:=by
   intro m
   induction m with
   | zero=>intro _; exact ⟨[],[],rfl,by simp,fun j u h=>by simp at h,fun i x h=>by simp at h,fun x hx=>by simp at hx⟩
   | succ m ih =>
    intro hm;obtain ⟨vs,L,h1,h2,h3,h4,h5⟩:=ih (by omega)
    obtain ⟨cs,hl,hcell,hr⟩:=hi m (by omega)
    obtain ⟨x,hx,hgx⟩:=hE cs hr;refine ⟨vs++cs,L++[x],by simp [h1],by rw [List.length_append,h2,hl,Nat.succ_mul],fun j u hu=>?_,fun i y hy=>?_,fun y hy=>?_⟩
    ·by_cases hj:j<vs.length
     ·rw [List.getElem?_append_left hj] at hu
      exact h3 j u hu
     ·rw [List.getElem?_append_right (by omega)] at hu
      have hjl:j - vs.length<sz:=by have:=(List.getElem?_eq_some_iff.1 hu).1; omega
      have:=hcell _ hjl
      rw [hu] at this;rw [← this]
      congr 2
      omega
    ·by_cases hlt:i<L.length
     ·rw [List.getElem?_append_left hlt] at hy
      have hle:i*sz+sz≤L.length*sz:=by rw [← Nat.succ_mul]; exact Nat.mul_le_mul_right sz hlt
      rw [h1] at hle;rw [List.drop_append_of_le_length (by omega),List.take_append_of_le_length (by rw [List.length_drop]; omega)]
      exact h4 i y hy
     ·have hie:i=L.length:=by
       have:=(List.getElem?_eq_some_iff.1 hy).1
       simp at this;omega
      subst hie;simp at hy;subst hy;rw [show L.length*sz=vs.length by rw [h1,h2],List.drop_left,List.take_of_length_le (by omega)]
      exact hx
    ·rcases List.mem_append.1 hy with hy | hy
     ·exact h5 y hy
     ·rw [List.mem_singleton.1 hy]
      exact hgx
  obtain ⟨vs,L,h1,h2,h3,h4,h5⟩:=key n (Nat.le_refl _);exact ⟨L,⟨h1,vs,⟨h2,hshape.1,hshape.2.1,hshape.2.2,fun _=>⟨b,o,rfl,hb,hb,h3⟩⟩,h4⟩,h5⟩
theorem RC.Yy {P:Program} (ht:P.underlying t=some .string) {cs:List Value}(h:RC P w t cs):∃ x,Yy w S cs x∧x.length≤maxLen:=by
 obtain ⟨x,h1,h2⟩:=h.text ht;exact ⟨x,h1,h2⟩
theorem RC.Yr {P:Program} (ht:P.underlying t=some (.int .i64)) {cs:List Value}(h:RC P w t cs):∃ x,Yr w S cs x∧(-9223372036854775808≤x∧x≤9223372036854775807):=by
 obtain ⟨x,h1,h2⟩:=h.int ht;exact ⟨x,h1,Kq h2⟩
theorem RC.Zf {α:Type}{E:ElT α}{G:α→Prop}{P:Program} (ht:P.underlying t=some (.slice e)) (hc:P.cellsOf e=sz) (hsz:0<sz)
  (hE:∀ cs,RC P w e cs→∃ x,E w (fun b=>b<w.heap.size) cs x∧G x) {cs:List Value}(h:RC P w t cs):∃ L,Zf E sz w (fun b=>b<w.heap.size) cs L∧∀ x∈L,G x:=by
 obtain ⟨a,n,c,rfl⟩:=h.Uh ht;obtain ⟨L,h1,h2⟩:=h.row ht hc hsz hE;exact ⟨L,⟨a,n,c,rfl,h1⟩,h2⟩
end
theorem Row.lit {α:Type}{E:ElT α} (hE:E.Ok) (w:World) (C:Array Value) (T:TypeId) (n:Nat) (L:List α) (hL:L.length=n) (hC:C.size=n*sz) (hn:n≤1000000) (g:Nat) (hg:g=w.heap.size)
  (hx:∀ i x,L[i]?=some x→E w (fun b=>b<w.heap.size) ((C.toList.drop (i*sz)).take sz) x):Row E sz (w.alloc (.cells C T)) (fun b=>b<(w.alloc (.cells C T)).heap.size) (some ⟨g,0,none⟩) n n L:=by
 subst hg
 have hz:(w.alloc (.cells C T)).heap.size=w.heap.size+1:=by simp
 refine ⟨hL,C.toList,⟨by simpa using hC,Nat.le_refl _,by unfold maxLen; omega,(fun h=>by cases h),fun _=>⟨w.heap.size,0,rfl,by omega,by omega,fun j u hu=>?_⟩⟩,fun i x hi=>hE _ _ _ _ _ _ (fun b hb hl=>⟨Below.heap_alloc w _ b hl,?_⟩) (hx i x hi)⟩
 ·rw [Nat.zero_add,Zk]
  simpa using hu
 ·have:b<w.heap.size:=hb
  omega
theorem Row.up {α:Type}{E:ElT α}{L:List α} (hE:E.Ok) (h:Row E sz w (fun b=>b<w.heap.size) A n c L) (o:Obj):Row E sz (w.alloc o) (fun b=>b<(w.alloc o).heap.size) A n c L :=
 h.mv hE (fun b hb hl=>⟨Below.heap_alloc w o b hl,by have:b<w.heap.size:=hb; rw [World.size_alloc]; omega⟩)
theorem Row.Yq2 {α:Type}{E:ElT α} (hE:E.Ok) (w:World) (C:Array Value) (T:TypeId) (n:Nat) (L:List α) (hL:L.length=n) (hC:C.size=n*sz) (hn:n≤1000000) (g:Nat) (hg:g=w.heap.size) (hS:S g)
  (hx:∀ i x,L[i]?=some x→E w S ((C.toList.drop (i*sz)).take sz) x):Row E sz (w.alloc (.cells C T)) S (some ⟨g,0,none⟩) n n L:=by
 subst hg
 have hz:(w.alloc (.cells C T)).heap.size=w.heap.size+1:=by simp
 refine ⟨hL,C.toList,⟨by simpa using hC,Nat.le_refl _,by unfold maxLen; omega,(fun h=>by cases h),fun _=>⟨w.heap.size,0,rfl,hS,by omega,fun j u hu=>?_⟩⟩,fun i x hi=>hE _ _ _ _ _ _ (Mv.alloc w _ S) (hx i x hi)⟩
 rw [Nat.zero_add,Zk];simpa using hu
theorem Row.Uw {α:Type}{E:ElT α}{L:List α} (h:Row E sz w S A n c L) (k:Nat):Row E sz w S A (min n k) c (L.take k):=by
 rcases Nat.le_total k n with h1 | h1
 ·rw [Nat.min_eq_right h1]; exact h.R8 h1
 ·rw [Nat.min_eq_left h1,List.take_of_length_le (by have:=h.len; omega)]; exact h
theorem Kr:(Tryz.prog.info? 27).map (fun i=>(i.zero,i.size,i.bytes))=some (some (.slice none 0 0),1,24):=by kernel_rfl
theorem Yk1 (A:Option Addr) (n c:Nat):∀ u∈[Value.slice A n c],u.oneCell'=true:=by
 intro u hu;simp at hu;subst hu;rfl
theorem Yx.back (h:Yx w' C A n c l) (hb:Below C w w'):Yx w C A n c l :=
 h.Vj fun b o hp=>(hb.cell (p:=⟨b,o,none⟩) hp).symm
theorem L7 (w:World) (y:Value) (t:TypeId) (g:Nat) (hg:g=w.heap.size):(w.alloc (.cells #[y] t)).cell? ⟨g,0,none⟩=some y:=by
 subst hg;rw [Zk]; rfl
theorem Dr.ltB {L:List (List Int)} (h:Dr w base C T v L):∀ k,v.ownBlock=some k→base≤k∧k<w.heap.size:=by
 obtain ⟨xs,hr,_⟩:=h;exact hr.lt
theorem Az {α:Type}{E:ElT α} (hE:E.Ok) {T TS:TypeId}{sz bytes:Nat}{z:Value}{w:World}{ops:Array Oper}{o:Oper}{a:Act}{Q:Exit→Act→World→Prop}{K:Act→World→Prop}{Fl:Prop}(hgd:o.guard=none) (s x:Operand)
  (ho:o.op=.call { callee:=.builtin .append,args:=#[s,x],argTypes:=#[TS,TS] }) (hinfo:(Tryz.prog.info? T).map (fun i=>(i.zero,i.size,i.bytes))=some (some z,sz,bytes)) (hTS:Tryz.prog.underlying TS=some (.slice T)) (hzs:z.cells.size=sz) (hsz:0<sz∧sz≤100∧bytes≤1000)
  (base:Nat) (S:Nat→Prop) (v:Value) (L:List α) (hs:a.eval s=v) (hown:Ys E T sz w base S v L) (g:Nat) (hx:a.eval x=.slice (some ⟨g,0,none⟩) 1 1) (us:List Value) (hus:us.length=sz) (y:α)
  (hy:∀ j u,us[j]?=some u→w.cell? ((⟨g,0,none⟩ : Addr).add j)=some u) (hone:∀ u∈us,u.oneCell'=true) (hE' : E w (fun k=>S k∧v.ownBlock≠some k) us y) (hlen:L.length≤1000000) (hbase:base≤w.heap.size)
  (h:∀ v' w',Ys E T sz w' base S v' (L++[y])→Z7 w v w' v'→K (a.put o.dst v') w') :
  if Region.wanted o (yielded ops a.tmps)=true then Oper.wp Tryz.prog o a w K Q else Fl:=by
 have hw:Region.wanted o (yielded ops a.tmps)=true:=by simp [Region.wanted,hgd]
 rw [if_pos hw];obtain ⟨i,hi,hz0,hz1,hz2⟩:=info_parts hinfo;obtain ⟨vs,hr,hxs⟩:=hown;obtain ⟨v',w',hrun,h2,h3,_,h5⟩:=run_append_own_at (P:=Tryz.prog) w base TS o.type T i _ sz bytes hTS hi hz0 hz1 hz2 hzs hsz.1 v L.length vs hr ⟨g,0,none⟩ 1 1 us (by rw [hus]; omega) hy hone (by unfold maxLen; omega) (by have:=Nat.mul_le_mul (show L.length+1≤1000001 by omega) hsz.2.2; omega) hbase
 unfold Oper.wp execOp;simp only [ho,resolve,invoke,builtin,Sem.run_bind,Sem.run_pure,Result.andThen_ok,List.map_toArray,List.map_cons,List.map_nil,hs,hx,hrun]
 have hG:Z7 w v w' v':=⟨h3,fun q hq=>by
  rcases h5 with h5 | h5
  ·exact .inl (h5 ▸ hq)
  ·rw [h5] at hq
   injection hq with hq
   exact .inr (Nat.le_of_eq hq)⟩
 exact h v' w' (Ys.snoc hE hr hxs hus hE' h2 hG) hG
theorem Jx:(Tryz.prog.info? 9).map (fun i=>(i.zero,i.size,i.bytes))=some (some (.string ByteArray.empty),1,16):=by kernel_rfl
theorem P7 {w:World}{ops:Array Oper}{rest:List Oper}{o:Oper}{a:Act}{Q:Exit→Act→World→Prop} (hgd:o.guard=none) (s x:Operand)
  (ho:o.op=.call { callee:=.builtin .append,args:=#[s,x],argTypes:=#[23,23] })
  (base:Nat) (v:Value) (l:List Txt) (hs:a.eval s=v) (hown:Xb w base v l) (g:Nat) (hx:a.eval x=.slice (some ⟨g,0,none⟩) 1 1) (y:Txt) (hy:w.cell? ⟨g,0,none⟩=some (Xp y)) (hl:l.length≤1000000) (hbase:base≤w.heap.size)
  (h:∀ v' w',Xb w' base v' (l++[y])→Z7 w v w' v'→wpList Tryz.prog ops Q rest (a.put o.dst v') w'):wpList Tryz.prog ops Q (o :: rest) a w:=by
 obtain ⟨i,hi,hz0,hz1,hz2⟩:=info_parts Jx;refine wpList_append_own_at w hgd s x 23 ho base 9 i _ 1 16 Tryz.underlying23 hi hz0 hz1 hz2 rfl (by decide) v l.length (l.map Xp) hs hown ⟨g,0,none⟩ 1 1 [Xp y] hx rfl (fun j u hj=>?_) (fun u hu=>?_) (by unfold maxLen; omega) (by omega) hbase ?_
 ·match j,hj with
  | 0,hj=>simp at hj; subst hj; rw [Yt]; exact hy
  | (j+1),hj=>simp at hj
 ·simp at hu; subst hu; rfl
 ·intro v' w' h1 h2 _ h4
  refine h v' w' (by unfold Xb; simpa [Xp] using h1) ⟨h2,fun k hk=>?_⟩
  rcases h4 with h4 | h4
  ·exact .inl (h4 ▸ hk)
  ·rw [h4] at hk
   injection hk with hk
   exact .inr (Nat.le_of_eq hk)
end Go.Proofs.YtkablhecedcngaaGreat
