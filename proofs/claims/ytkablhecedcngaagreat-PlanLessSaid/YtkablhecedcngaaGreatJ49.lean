/- LtB, LtC, LtH, PlnZ, LtI, LtJ, LtK, LtL, LtN, LtP, LtQ, LtR, LuL, LuM -/
import Derived.Test.YtkablhecedcngaaGreatJ46
import Derived.Test.YtkablhecedcngaaGreatJ48
namespace Go.Proofs.YtkablhecedcngaaGreat
set_option maxRecDepth 100000
set_option maxHeartbeats 8000000
open Go.RowKit
open Go.Lib (hid)
variable {w w':World}{B W b b1 b2 base c c1 c2 c3 g m n n1 n2 n3 o sz:Nat}{Qs:List (List Pth)}{Cs:List Cub}{F R S:Nat→Prop}{X1 X2 X3 dv v vv:Value}{cn cnt view:Int}{A1 A2 B1 B2:Option Addr}{D:List Yg}{V:List (List Int)}{N:List Nat}{C:Cub}{K:List Int}{M:List Txt}{e:Ending}{L:List (List Int × List PC)}
section
open Go.RowKit Go.Maps Go.Sort Go.Shelf
/-! ### arrays of elements of several cells -/
section
variable {α:Type}{enc:α→List Value}{k:Nat}(hk:∀ x,(enc x).length=k)
include hk
theorem Cx (d:List α):(d.flatMap enc).length=d.length*k:=by
 induction d with
 | nil=>simp
 | cons a d ih=>rw [List.flatMap_cons,List.length_append,ih,hk,List.length_cons,Nat.succ_mul,Nat.add_comm]
theorem R2 (d:List α) (i c:Nat) (hc:c<k) (x:α) (hx:d[i]?=some x):(d.flatMap enc)[i*k+c]?=(enc x)[c]?:=by
 induction d generalizing i with
 | nil=>simp at hx
 | cons a d ih =>
  rw [List.flatMap_cons]
  cases i with
  | zero =>
   simp at hx;subst hx;rw [Nat.zero_mul,Nat.zero_add,List.getElem?_append_left (by rw [hk]; exact hc)]
  | succ i =>
   rw [List.getElem?_append_right (by rw [hk,Nat.succ_mul]; omega)]
   have e:(i+1)*k+c - (enc a).length=i*k+c:=by rw [hk,Nat.succ_mul]; omega
   rw [e];exact ih i (by simpa using hx)
end
section
variable {α:Type} [Inhabited α] {enc:α→List Value}{k:Nat}
end
/-! ### rows,sorted -/
theorem Ya4 {a b c:Zd} (h1:¬ Z0 a b) (h2:¬ Z0 b c):¬ Z0 a c:=fun h=>by
 rcases Kv b a with h3 | rfl | h3
 ·exact h2 (Rl h3 h)
 ·exact h2 h
 ·exact h1 h3
abbrev Ys6 (w:World) (S:Nat→Prop):={ p:List Value × (Zd × PC) // Yr7 w S p.1 p.2 }
theorem Pp (w:World) (S:Nat→Prop):Um w S [.slice none 0 0] []:=⟨_,rfl,Ys.Zj _ _ _,fun k h=>by cases h⟩
theorem Yjt (w:World) (S:Nat→Prop):Yr7 w S [.slice none 0 0,.int .i64 0,.slice none 0 0,.slice none 0 0,.slice none 0 0] ([],0,[],[],[]) :=
 ⟨⟨_,rfl,Ys.Zj _ _ _,fun k h=>by cases h⟩,rfl,Pp w S,Pp w S,Pp w S⟩
instance (w:World) (S:Nat→Prop):Inhabited (Ys6 w S):=⟨⟨(_,_),Yjt w S⟩⟩
end
theorem Jh.some_ {u:PC} (h:Jh w (some u) e w'):(∃ v1 v2 v3,e=.returned (.tuple #[.agg #[.int .i64 u.1,v1,v2,v3],.bool true])∧X5 w' w.heap.size v1 v2 v3 u.2.1 u.2.2.1 u.2.2.2)∧Below w.heap.size w w':=h
theorem Jh.none_ (h:Jh w none e w'):e=.returned (.tuple #[.agg #[.int .i64 0,.slice none 0 0,.slice none 0 0,.slice none 0 0],.bool false])∧Below w.heap.size w w':=h
theorem Ym6 (hC:Wr W m C) {t:Nat}{K:List Int}{u:PC}(h:C[t]?=some (K,u)):Kj W C K=some u:=by
 unfold Kj
 have hm:=List.mem_of_getElem? h
 rw [if_pos (hC.key _ hm)];exact Ps hC.ris hm
def J8 (Qs:List (List Pth)) (C:Cub):Rws:=C.map fun e=>(Us Qs e.1,e.2)
theorem Sg:(Tryz.prog.info? 151).map (fun i=>(i.zero,i.size,i.bytes))=some (some (.agg #[.slice none 0 0,.int .i64 0,.slice none 0 0,.slice none 0 0,.slice none 0 0]),5,104):=by kernel_rfl
theorem Ycy (A0:Option Addr) (n0 c0:Nat) (p:Int) (A1:Option Addr) (n1 c1:Nat) (A2:Option Addr) (n2 c2:Nat) (A3:Option Addr) (n3 c3:Nat):∀ u∈[Value.slice A0 n0 c0,.int .i64 p,.slice A1 n1 c1,.slice A2 n2 c2,.slice A3 n3 c3],u.oneCell'=true:=by
 intro u hu;simp at hu
 rcases hu with rfl | rfl | rfl | rfl | rfl <;> rfl
theorem Pk (w:World) (us:List Value) (t:TypeId) (g:Nat) (hg:g=w.heap.size):∀ j u,us[j]?=some u→(w.alloc (.cells us.toArray t)).cell? ((⟨g,0,none⟩ : Addr).add j)=some u:=by
 subst hg;intro j u hj;rw [Yt,Nat.zero_add,(Block.new w t us.toArray).cell j];simpa using hj
section
def gc7 (view:Int) (p:Value × Value):List Value:=[.int .i64 view,p.1,p.2,.int .i64 0,.slice none 0 0,.slice none 0 0,.slice none 0 0]
theorem Rj (view:Int) (p:Value × Value):(gc7 view p).length=7:=rfl
theorem Yqs (view:Int) {p:Value × Value}(h1:p.1.oneCell'=true) (h2:p.2.oneCell'=true):∀ u∈gc7 view p,u.oneCell'=true:=by
 intro u hu;simp [gc7] at hu
 rcases hu with rfl | rfl | rfl | rfl | rfl
 ·rfl
 ·exact h1
 ·exact h2
 ·rfl
 ·rfl
def Vb (w:World) (B:Nat) (view:Int) (v:Value) (L:List (List Int × List PC)):Prop :=
 ∃ ps:List (Value × Value),ps.length=L.length∧w.ownsRow B 107 7 v L.length (ps.flatMap (gc7 view)) ∧
  (∀ (i:Nat) (p:Value × Value) (x:List Int × List PC),ps[i]?=some p→L[i]?=some x→Yf w B p.1 x.1∧S9 w B p.2 x.2) ∧
  ∀ (i j:Nat) (p q:Value × Value),i≠j→ps[i]?=some p→ps[j]?=some q→∀ k,p.2.ownBlock=some k→q.2.ownBlock≠some k
section
variable {w w' : World}{B:Nat}{view:Int}{v:Value}{L:List (List Int × List PC)}
theorem Vb.Zj (w:World) (B:Nat) (view:Int):Vb w B view (.slice none 0 0) []:=⟨[],rfl,World.ownsRow_nil _ _ _ _,fun i p x h=>by simp at h,fun i j p q _ h=>by simp at h⟩
theorem Vb.below (h:Vb w B view v L) (hb:Below w.heap.size w w'):Vb w' B view v L:=by
 obtain ⟨ps,h0,h1,h2,h3⟩:=h;exact ⟨ps,h0,Z8 h1 hb,fun i p x hp hx=>⟨Z8 (h2 i p x hp hx).1 hb,(h2 i p x hp hx).2.kept (P:=fun _=>False) (Kept.Yz hb _) (fun _ _ h=>h) (fun _ _ h=>h)⟩,h3⟩
theorem Vb.lt (h:Vb w B view v L):∀ k,v.ownBlock=some k→B≤k∧k<w.heap.size:=by
 obtain ⟨ps,h0,h1,h2,h3⟩:=h;exact World.ownsRow.lt h1
theorem Vb.low {B' : Nat}(h:Vb w B view v L) (hb:B'≤B):Vb w B' view v L:=by
 obtain ⟨ps,h0,h1,h2,h3⟩:=h;exact ⟨ps,h0,Uv h1 hb,fun i p x hp hx=>⟨(h2 i p x hp hx).1.low hb,(h2 i p x hp hx).2.low hb⟩,h3⟩
theorem S9.shape {w:World}{B:Nat}{v:Value}{M:List PC}(h:S9 w B v M):∃ A c,v=.slice A M.length c:=Ys.shape h
theorem Vb.shape (h:Vb w B view v L):∃ A c,v=.slice A L.length c:=by
 obtain ⟨ps,h0,h1,h2,h3⟩:=h;exact Sj h1
theorem Vb.at_ (h:Vb w B view v L) {i:Nat}{K:List Int}{M:List PC}(hi:L[i]?=some (K,M)):∃ g c A1 n1 c1 A2 n2 c2,v=.slice (some ⟨g,0,none⟩) L.length c∧g<w.heap.size∧w.cell? ⟨g,i*7,none⟩=some (.int .i64 view)∧w.cell? ⟨g,i*7+1,none⟩=some (.slice A1 n1 c1)∧w.cell? ⟨g,i*7+2,none⟩=some (.slice A2 n2 c2)∧w.cell? ⟨g,i*7+3,none⟩=some (.int .i64 0)∧w.cell? ⟨g,i*7+4,none⟩=some (.slice none 0 0)∧w.cell? ⟨g,i*7+5,none⟩=some (.slice none 0 0)∧w.cell? ⟨g,i*7+6,none⟩=some (.slice none 0 0)∧(∀ j,w.frozen? ⟨g,j,none⟩=false)∧Yf w B (.slice A1 n1 c1) K∧S9 w B (.slice A2 n2 c2) M:=by
 obtain ⟨ps,h0,h1,h2,h3⟩:=h
 have hil:=(List.getElem?_eq_some_iff.1 hi).1
 obtain ⟨p,hp⟩ : ∃ p,ps[i]?=some p:=⟨_,List.getElem?_eq_getElem (by omega)⟩
 obtain ⟨q1,q2⟩:=h2 i p _ hp hi;obtain ⟨A1,n1,c1,e1,_⟩:=q1.Yu;obtain ⟨A2,c2,e2⟩:=q2.shape;obtain ⟨p1,p2⟩:=p
 dsimp only at e1 e2 q1 q2
 subst e1 e2
 rcases h1.2 with ⟨rfl,e0⟩ | ⟨g,cap,cur,rfl,hb,hg,_⟩
 ·omega
 ·have hc:=fun c (hc:c<7)=>(h1.cellAt (g:=g) (i*7+c) (by omega)).trans (R2 (Rj view) ps i c hc _ hp)
  exact ⟨g,cap,A1,n1,c1,A2,_,c2,rfl,(Array.getElem?_eq_some_iff.1 hg).1,hc 0 (by decide),hc 1 (by decide),hc 2 (by decide),hc 3 (by decide),hc 4 (by decide),hc 5 (by decide),hc 6 (by decide),fun j=>h1.frozenAt j,q1,q2⟩
theorem Vb.push {w8:World}{kv v' : Value}{K:List Int}{ps:List (Value × Value)}(h0:ps.length=L.length) (h1:w.ownsRow B 107 7 v L.length (ps.flatMap (gc7 view)))
  (h2:∀ (i:Nat) (p:Value × Value) (x:List Int × List PC),ps[i]?=some p→L[i]?=some x→Yf w B p.1 x.1∧S9 w B p.2 x.2) (h3:∀ (i j:Nat) (p q:Value × Value),i≠j→ps[i]?=some p→ps[j]?=some q→∀ k,p.2.ownBlock=some k→q.2.ownBlock≠some k)
  (hk:Yf w B kv K) (hO:w8.ownsRow B 107 7 v' (L.length+1) (ps.flatMap (gc7 view)++gc7 view (kv,.slice none 0 0))) (hG:Z7 w v w8 v'):Vb w8 B view v' (L++[(K,[])]):=by
 have kI:∀ {u:Value}{l:List Int},Yf w B u l→Yf w8 B u l:=fun {u l} hu=>World.ownsRow.kept hu hG.1 (Vz hu h1 (by decide))
 have kX:∀ {u:Value}{l:List PC},S9 w B u l→S9 w8 B u l:=fun {u l} hu=>hu.kept (Kept.Wl hG.1) (fun k hk e=>by
  obtain ⟨cs,hc⟩:=hk;exact Y6 h1 hc (by decide) e) (fun k hk e=>by
  obtain ⟨xs,hx,_⟩:=hu
  rcases Vz hx h1 (by decide) with h4 | h4
  ·rw [hk] at h4; cases h4
  ·exact h4 (hk.trans e.symm))
 refine ⟨ps++[(kv,.slice none 0 0)],by simp [h0],by simpa using hO,fun i p x hp hx=>?_,fun i j p q hij hp hq k hk hk'=>?_⟩
 ·rcases Xd hp with ⟨a1,a2⟩ | ⟨a1,rfl⟩
  ·rcases Xd hx with ⟨b1,b2⟩ | ⟨b1,_⟩
   ·exact ⟨kI (h2 i p x a2 b2).1,kX (h2 i p x a2 b2).2⟩
   ·omega
  ·rcases Xd hx with ⟨b1,_⟩ | ⟨_,rfl⟩
   ·omega
   ·exact ⟨kI hk,Ys.Zj _ _ _⟩
 ·rcases Xd hp with ⟨a1,a2⟩ | ⟨_,rfl⟩
  ·rcases Xd hq with ⟨b1,b2⟩ | ⟨_,rfl⟩
   ·exact h3 i j p q hij a2 b2 k hk hk'
   ·cases hk'
  ·cases hk
theorem Ydb:(Tryz.prog.info? 107).map (fun i=>(i.zero,i.size,i.bytes))=some (some (.agg #[.int .i64 0,.slice none 0 0,.slice none 0 0,.int .i64 0,.slice none 0 0,.slice none 0 0,.slice none 0 0]),7,136):=by kernel_rfl
theorem Ye6 {ops:Array Oper}{rest:List Oper}{o:Oper}{a:Act}{Q:Exit→Act→World→Prop}(hgd:o.guard=none) (s x:Operand)
  (ho:o.op=.call { callee:=.builtin .append,args:=#[s,x],argTypes:=#[100,100] }) (hs:a.eval s=v) (h:Vb w B view v L) (g:Nat) (hx:a.eval x=.slice (some ⟨g,0,none⟩) 1 1) (A:Option Addr) (n c:Nat) (K:List Int)
  (hy:∀ j u,(gc7 view (.slice A n c,.slice none 0 0))[j]?=some u→w.cell? ((⟨g,0,none⟩ : Addr).add j)=some u) (hk:Yf w B (.slice A n c) K) (hl:L.length≤1000000) (hbase:B≤w.heap.size)
  (hq:∀ v' w',Vb w' B view v' (L++[(K,[])])→Z7 w v w' v'→wpList Tryz.prog ops Q rest (a.put o.dst v') w'):wpList Tryz.prog ops Q (o :: rest) a w:=by
 obtain ⟨i,hi,hz0,hz1,hz2⟩:=info_parts Ydb;obtain ⟨ps,h0,h1,h2,h3⟩:=h;refine wpList_append_own_at w hgd s x 100 ho B 107 i _ 7 136 Tryz.underlying100 hi hz0 hz1 hz2 rfl (by decide) v L.length _ hs h1 ⟨g,0,none⟩ 1 1 (gc7 view (.slice A n c,.slice none 0 0)) hx rfl hy (Yqs view rfl rfl) (by unfold maxLen; omega) (by omega) hbase ?_
 intro v' w' e1 e2 _ e4
 have hG:Z7 w v w' v':=⟨e2,fun k hk=>by
  rcases e4 with e4 | e4
  ·exact .inl (e4 ▸ hk)
  ·rw [e4] at hk
   injection hk with hk
   exact .inr (Nat.le_of_eq hk)⟩
 exact hq v' w' (Vb.push h0 h1 h2 h3 hk e1 hG) hG
theorem Vb.more {w8:World}{g c i:Nat}{K:List Int}{M:List PC}{x:PC}{m m' : Value}(h:Vb w B view (.slice (some ⟨g,0,none⟩) L.length c) L) (hi:L[i]?=some (K,M)) (hm:w.cell? ⟨g,i*7+2,none⟩=some m) (hO:S9 w8 B m' (M++[x])) (hG:Z7 w m w8 m'):w8.cell? ⟨g,i*7+2,none⟩=some m∧w8.frozen? ⟨g,i*7+2,none⟩=false∧Vb (w8.setCell ⟨g,i*7+2,none⟩ m') B view (.slice (some ⟨g,0,none⟩) L.length c) (L.set i (K,M++[x])):=by
 obtain ⟨ps,h0,h1,h2,h3⟩:=h
 have hil:=(List.getElem?_eq_some_iff.1 hi).1
 obtain ⟨p,hp⟩ : ∃ p,ps[i]?=some p:=⟨_,List.getElem?_eq_getElem (by omega)⟩
 obtain ⟨q1,q2⟩:=h2 i p _ hp hi
 have hpm:p.2=m:=by
  have h4:=(h1.cellAt (g:=g) (i*7+2) (by omega)).trans (R2 (Rj view) ps i 2 (by decide) _ hp)
  rw [hm] at h4;exact (Option.some.inj h4).symm
 have hmr:∃ xs,w.ownsRow B 105 4 m M.length xs:=by
  obtain ⟨xs,hx,_⟩:=q2;rw [hpm] at hx;exact ⟨xs,hx⟩
 obtain ⟨mx,hmr⟩:=hmr
 have h8:w8.ownsRow B 107 7 (.slice (some ⟨g,0,none⟩) L.length c) L.length (ps.flatMap (gc7 view)):=World.ownsRow.kept h1 hG.1 (Vz h1 hmr (by decide))
 have kI:∀ {u:Value}{l:List Int},Yf w B u l→Yf w8 B u l:=fun {u l} hu=>World.ownsRow.kept hu hG.1 (Vz hu hmr (by decide))
 have kX:∀ {j:Nat}{q:Value × Value}{y:List Int × List PC},j≠i→ps[j]?=some q→L[j]?=some y→S9 w8 B q.2 y.2:=fun {j q y} hj hq hy=>(h2 j q y hq hy).2.kept (Kept.Wl hG.1) (fun k hk e=>by
  obtain ⟨cs,hc⟩:=hk;exact Y6 hmr hc (by decide) e) (fun k hk e=>h3 j i q p hj hq hp k hk (by rw [hpm]; exact e))
 have hs:Chg (fun k=>k=g) w8 (w8.setCell ⟨g,i*7+2,none⟩ m'):=(Chg.refl _ w8).Yo g _ m' fun _=>rfl
 have hK:Kept w8 (w8.setCell ⟨g,i*7+2,none⟩ m') (fun k=>k=g):=⟨hs.os,hs.tape,hs.output,hs.size,hs.block⟩
 have sI:∀ {u:Value}{l:List Int},Yf w8 B u l→Yf (w8.setCell ⟨g,i*7+2,none⟩ m') B u l:=fun {u l} hu=>hs.row hu fun k hk e=>by
  rcases Vz hu h8 (by decide) with h4 | h4
  ·rw [hk] at h4; cases h4
  ·exact h4 (by rw [hk,e]; rfl)
 have sX:∀ {u:Value}{l:List PC},S9 w8 B u l→S9 (w8.setCell ⟨g,i*7+2,none⟩ m') B u l:=fun {u l} hu=>hu.kept hK (fun k hk e=>by
  obtain ⟨cs,hc⟩:=hk;exact Y6 h8 hc (by decide) (by rw [e]; rfl)) (fun k hk e=>by
  obtain ⟨xs,hx,_⟩:=hu
  rcases Vz hx h8 (by decide) with h4 | h4
  ·rw [hk] at h4; cases h4
  ·exact h4 (by rw [hk,e]; rfl))
 have hst:=(World.ownsRow.stored h8 (i*7+2) m').1
 have hfl:(ps.flatMap (gc7 view)).set (i*7+2) m'=(ps.set i (p.1,m')).flatMap (gc7 view):=by
  refine List.ext_getElem? fun t=>?_
  have hl1:(ps.flatMap (gc7 view)).length=ps.length*7:=Cx (Rj view) ps
  have hl2:((ps.set i (p.1,m')).flatMap (gc7 view)).length=ps.length*7:=by rw [Cx (Rj view),List.length_set]
  by_cases ht:t<ps.length*7
  ·have e1:t / 7*7+t % 7=t:=by omega
   have h5:t % 7<7:=by omega
   have h6:t / 7<ps.length:=by omega
   rw [List.getElem?_set]
   by_cases hti:t / 7=i
   ·have h7:=R2 (Rj view) (ps.set i (p.1,m')) (t / 7) (t % 7) h5 (p.1,m') (by rw [hti,List.getElem?_set,if_pos rfl,if_pos (by omega)])
    have h8':=R2 (Rj view) ps (t / 7) (t % 7) h5 p (by rw [hti]; exact hp)
    rw [e1] at h7 h8';rw [h7]
    by_cases h9:i*7+2=t
    ·rw [if_pos h9,if_pos (by omega),show t % 7=2 by omega]
     rfl
    ·rw [if_neg h9,h8']
     have h10:t % 7≠2:=by omega
     match hh:t % 7,h5,h10 with
     | 0,_,_=>rfl
     | 1,_,_=>rfl
     | 3,_,_=>rfl
     | 4,_,_=>rfl
     | 5,_,_=>rfl
     | 6,_,_=>rfl
   ·obtain ⟨q,hq⟩ : ∃ q,ps[t / 7]?=some q:=⟨_,List.getElem?_eq_getElem h6⟩
    have h7:=R2 (Rj view) (ps.set i (p.1,m')) (t / 7) (t % 7) h5 q (by rw [List.getElem?_set,if_neg (fun e=>hti e.symm)]; exact hq)
    have h8':=R2 (Rj view) ps (t / 7) (t % 7) h5 q hq
    rw [e1] at h7 h8';rw [h7,h8',if_neg (by omega)]
  ·rw [List.getElem?_eq_none (by rw [List.length_set]; omega),List.getElem?_eq_none (by omega)]
 rw [hfl] at hst;refine ⟨(World.cell?_of_block (hG.1.block g ?_ ?_)).trans hm,h8.frozenAt _,ps.set i (p.1,m'),by simp [h0],by rw [List.length_set]; exact hst,fun j q y hq hy=>?_,fun a b q r hab hq hr k hk hk'=>?_⟩
 ·exact (World.ownsRow.lt h1 g rfl).2
 ·intro e
  rcases Vz h1 hmr (by decide) with h4 | h4
  ·cases h4
  ·exact h4 e
 ·rw [List.getElem?_set] at hq hy
  by_cases hij:i=j
  ·subst hij
   rw [if_pos rfl,if_pos (by omega)] at hq
   rw [if_pos rfl,if_pos hil] at hy;rw [← Option.some.inj hq,← Option.some.inj hy];exact ⟨sI (kI q1),sX hO⟩
  ·rw [if_neg hij] at hq hy
   exact ⟨sI (kI (h2 j q y hq hy).1),sX (kX (fun e=>hij e.symm) hq hy)⟩
 ·rw [List.getElem?_set] at hq hr
  have hnew:∀ {a:Nat}{q:Value × Value},a≠i→ps[a]?=some q→∀ k,q.2.ownBlock=some k→m'.ownBlock≠some k:=fun {a q} ha hq k hk hk'=>by
   rcases hG.2 k hk' with h4 | h4
   ·exact h3 a i q p ha hq hp k hk (by rw [hpm]; exact h4)
   ·have hal:=(List.getElem?_eq_some_iff.1 hq).1
    obtain ⟨xs,hx,_⟩:=(h2 a q (L[a]'(by omega)) hq (List.getElem?_eq_getElem (by omega))).2
    have:=(World.ownsRow.lt hx k hk).2
    omega
  by_cases h4:i=a
  ·subst h4
   rw [if_pos rfl,if_pos (by omega)] at hq
   rw [if_neg hab] at hr;rw [← Option.some.inj hq] at hk;exact hnew (fun e=>hab e.symm) hr k hk' hk
  ·rw [if_neg h4] at hq
   by_cases h5:i=b
   ·subst h5
    rw [if_pos rfl,if_pos (by omega)] at hr
    rw [← Option.some.inj hr] at hk';exact hnew (fun e=>h4 e.symm) hq k hk hk'
   ·rw [if_neg h5] at hr
    exact h3 a b q r hab hq hr k hk hk'
end
/-! ### the one under a key -/
theorem Ta (w:World) (a b c d e f h:Value):Block (w.alloc (.cells #[a,b,c,d,e,f,h] 107)) w.heap.size 107 #[a,b,c,d,e,f,h]:=Block.new w _ _
theorem Yhg {W:World}{Ak:Option Addr}{nk ck kb:Nat}{J:List Int} (hK:Yx W W.heap.size A1 n1 c1 K) (hkb:W.cell? ⟨kb,0,none⟩=some (.slice Ak nk ck)) (hl:kb<W.heap.size) (hJ:Yx W W.heap.size Ak nk ck J) {r:Bool}(hr:Hid (decide (K=J)=r)) :
  Calls Tryz.prog 108 #[.agg #[.int .i64 view,.slice A1 n1 c1,.slice A2 n2 c2,.int .i64 0,.slice none 0 0,.slice none 0 0,.slice none 0 0],.pointer (some ⟨kb,0,none⟩)] W fun e w'=>e=.returned (.bool r)∧Below W.heap.size W w':=by
 have hb:=Ya W (.cells #[.int .i64 view,.slice A1 n1 c1,.slice A2 n2 c2,.int .i64 0,.slice none 0 0,.slice none 0 0,.slice none 0 0] 107)
 have k0:=(Ta W (.int .i64 view) (.slice A1 n1 c1) (.slice A2 n2 c2) (.int .i64 0) (.slice none 0 0) (.slice none 0 0) (.slice none 0 0)).cell 1
 have k1:=(hb.cell (p:=⟨kb,0,none⟩) hl).trans hkb
 have hX:=Ft (hK.below hb (Nat.le_refl _)) (hJ.below hb (Nat.le_refl _))
 rw [hr.out] at hX
 have HX:=hid hX
 clear hK hJ hX hkb;go_enter Tryz.func108,Tryz.ntmps108;go_wp2_with fail;generalize W.alloc (.cells #[.int .i64 view,.slice A1 n1 c1,.slice A2 n2 c2,.int .i64 0,.slice none 0 0,.slice none 0 0,.slice none 0 0] 107)=W0 at hb k0 k1 HX ⊢;go_wp2_with fail;refine HX.out.mono ?_;rintro e w1 ⟨rfl,q,rfl⟩;go_wp2_with fail;go_ret;exact ⟨rfl,below_drewN hb q⟩
def AtK (L:List (List Int × List PC)) (J:List Int) (r:Int):Prop:=(∃ (i:Nat) (M:List PC),r=(i:Int)∧L[i]?=some (J,M))∨(r=-1∧J∉L.map (·.1))
theorem Yf5 (h:Vb w B view v L) {Ak:Option Addr}{nk ck kb:Nat}{J:List Int}(hkb:w.cell? ⟨kb,0,none⟩=some (.slice Ak nk ck)) (hlb:kb<w.heap.size) (hJ:Yx w w.heap.size Ak nk ck J) (hn:L.length≤1000) :
  Calls Tryz.prog 107 #[v,.func (.func 108) #[] #[.pointer (some ⟨kb,0,none⟩)]] w fun e w'=>(∃ r,e=.returned (.int .i64 r)∧AtK L J r)∧Below w.heap.size w w':=by
 have HG:=hid h
 obtain ⟨A,c,rfl⟩:=h.shape
 have HJ:=hid hJ
 have Hkb:=hid hkb
 have hnm:L.length≤9223372036854775807:=by omega
 clear h hJ hkb;go_enter Tryz.func107,Tryz.ntmps107;go_wp2_with fail;go_loopw [8] (fun i wr=>∃ k:Nat,k≤L.length∧i=.int .i64 k∧Hid (∀ (j:Nat) (x:List Int × List PC),j<k→L[j]?=some x→x.1≠J)∧Below w.heap.size w wr) (fun i _=>L.length - (intOf i).toNat)
 case atStart=>exact ⟨0,Nat.zero_le _,rfl,hid fun j x hj=>absurd hj (by omega),Below.refl _ _⟩
 case round =>
  obtain ⟨k,hk,rfl,hno,hB⟩:=hrel
  by_cases hlt:k<L.length
  ·have i0:(0:Int)≤(k:Int):=by omega
   have i1:(k:Int)<(L.length:Int):=by omega
   obtain ⟨K,M,hKM⟩ : ∃ K M,Hid (L[k]?=some (K,M)):=⟨_,_,hid (List.getElem?_eq_getElem hlt)⟩;obtain ⟨g,c',A1,n1,c1,A2,n2,c2,ev,_,e0,e1,e2,e3,e4,e5,e6,_,hI,hX⟩:=(HG.out.below hB).at_ hKM.out;injection ev with ev1 _ ev3
   subst ev1 ev3;obtain ⟨A1',n1',c1',ek,hHI,_⟩:=hI.Yu;injection ek with ek1 ek2 ek3
   subst ek1 ek2 ek3
   have hJ':=HJ.out.below hB (Nat.le_refl _)
   obtain ⟨r,hr⟩ : ∃ r,Hid (decide (K=J)=r):=⟨_,hid rfl⟩
   have HC:=hid (Yhg (view:=view) (A2:=A2) (n2:=n2) (c2:=c2) hHI ((hB.cell (p:=⟨kb,0,none⟩) hlb).trans Hkb.out) (Nat.lt_of_lt_of_le hlb hB.size) (hJ'.more hB.size) hr)
   clear hI hX hHI hJ'
   by_cases hr1:r=true
   ·subst hr1
    have hKJ:Hid (K=J):=hid (of_decide_eq_true hr.out)
    go_wp2_with fail;refine HC.out.mono ?_;rintro e w1 ⟨rfl,hb1⟩;go_wp2_with fail;go_ret;exact ⟨⟨_,rfl,.inl ⟨k,M,rfl,by rw [← hKJ.out]; exact hKM.out⟩⟩,hB.trans (hb1.mono hB.size)⟩
   ·have hr2:r=false:=by simpa using hr1
    subst hr2
    have hKJ:Hid (K≠J):=hid (of_decide_eq_false hr.out)
    clear hr1;go_wp2_with fail;refine HC.out.mono ?_;rintro e w1 ⟨rfl,hb1⟩;go_wp2_with fail;go_roundw
    case rel=>exact ⟨k+1,by omega,by go_num,hid fun j x hj hx=>by
     by_cases hjk:j<k
     ·exact hno.out j x hjk hx
     ·obtain rfl:j=k:=by omega
      rw [hKM.out] at hx;rw [← Option.some.inj hx];exact hKJ.out,hB.trans (hb1.mono hB.size)⟩
    case measure=>simp [intOf]; omega
  ·have hF:=hid (show AtK L J (-1) from .inr ⟨rfl,fun hm=>by
    obtain ⟨x,hx,e⟩:=List.mem_map.1 hm;obtain ⟨j,hj⟩:=List.getElem?_of_mem hx;exact hno.out j x (by have:=(List.getElem?_eq_some_iff.1 hj).1; omega) hj e⟩)
   go_wp2_with fail;go_ret;exact ⟨⟨_,rfl,hF.out⟩,hB⟩
end
theorem Yno:(Tryz.prog.info? 66).map (fun i=>(i.zero,i.size,i.bytes))=some (some (.complex .f64 0 0),1,16):=by kernel_rfl
theorem Yjh {cnt:Int→Nat}{u:Int} 
  (h:Lt w R g F D M V Qs Cs cn) (hl:Hid (Yge Cs u=(((cnt u:Nat):Int),0))) :
  Calls Tryz.prog 29 #[.pointer (some ⟨g,0,none⟩),.int .i64 u] w fun e w'=>e=.returned (cpx cnt u)∧w=w':=by
 obtain ⟨cu,hcu⟩ : ∃ cu,cnt u=cu:=⟨_,rfl⟩;obtain ⟨fu,hfu⟩ : ∃ fu,flo (cu:Int)=fu:=⟨_,rfl⟩;obtain ⟨gu,hgu⟩ : ∃ gu,flo u=gu:=⟨_,rfl⟩
 have HE:Hid (cpx cnt u=.complex .f64 fu gu):=hid (by unfold cpx; rw [hcu,hfu,hgu])
 rw [hcu] at hl
 have e1:floatOfInt .f64 (cu:Int)=fu:=hfu
 have e2:floatOfInt .f64 u=gu:=hgu
 have HL:=hid (Yds h u hl)
 rw [HE.out];clear h hl hcu hfu hgu;go_enter Tryz.func29,Tryz.ntmps29;go_wp2_with fail;refine HL.out.mono ?_;rintro e w2 ⟨rfl,rfl⟩;clear HL;go_wp2_with fail;go_ret;exact ⟨rfl,rfl⟩
theorem Ycp {q:Qry}{cnt:Int→Nat} 
  (h:Lt w R g F D M V Qs Cs cn) (hf:Sq D) (hM:∀ s∈M,s.length≤maxLen) (hcl:Cs.length=(Ye D V).length) (hcn:∀ i:Nat,i<(Ye D V).length→cnt i=(Cs.getD i []).length) (hE:∀ i:Nat,i<(Ye D V).length→cnt i≤1000000) (hq:V0 w S A1 n1 c1 A2 n2 c2 q) (hm:Wk D M V q=0) :
  Calls Tryz.prog 14 #[.pointer (some ⟨g,0,none⟩),O4 A1 n1 c1 A2 n2 c2] w fun e w'=>∃ v:Int,e=.returned (.tuple #[.int .i64 v,.int .i64 0])∧Va cnt (Vd D V q) v∧Below w.heap.size w w':=by
 have hb0:=Ya w (.cells #[.slice A1 n1 c1,.slice A2 n2 c2] 30)
 have hbl:=Block.new w 30 #[.slice A1 n1 c1,.slice A2 n2 c2]
 have h0:=hq.Yc hb0
 have hL:=h.below hb0
 have hmS:=(Wv hm).1
 have hdm:=W4 hmS
 have hvl:V.length≤6:=hmS.2.2.1
 clear h hq;obtain ⟨CQ,hCQ⟩ : ∃ CQ,Hid (Vd D V q=CQ):=⟨_,hid rfl⟩
 have HAt:Hid (∀ u∈CQ,∃ i:Nat,i<V.length+1∧u=(i:Int)):=hid fun u hu=>by
  rw [← hCQ.out] at hu;obtain ⟨i,h1,h2,_⟩:=Hr hu;exact ⟨i,h1,h2⟩
 have HRI:Hid (CQ.Pairwise (·<·)):=hid (by rw [← hCQ.out]; exact Cp _ _ _)
 rw [hCQ.out];go_enter Tryz.func14,Tryz.ntmps14;go_wp2_with fail;generalize w.alloc (.cells #[.slice A1 n1 c1,.slice A2 n2 c2] 30)=W at hb0 hbl h0 hL ⊢
 have q0:W.cell? ⟨w.heap.size,0,none⟩=some (.slice A1 n1 c1):=hbl.cell 0
 have q1:W.cell? ⟨w.heap.size,1,none⟩=some (.slice A2 n2 c2):=hbl.cell 1
 have HSC:=hid (J9 (hL.below (below_drewN (Below.refl _ W) 1)))
 have HBL:=hid hbl
 have HQ:=hid h0
 have HL:=hid hL
 have HB0:=hid hb0
 have Hm:=hid hm
 have HCL:=hid hcl
 have HCN:=hid hcn
 have HE:=hid hE
 have K:∀ z,Below W.heap.size W z→z.cell? ⟨w.heap.size,0,none⟩=some (.slice A1 n1 c1)∧z.cell? ⟨w.heap.size,1,none⟩=some (.slice A2 n2 c2):=fun z hz=>⟨(hbl.below hz hbl.lt).cell 0,(hbl.below hz hbl.lt).cell 1⟩
 have K:=hid K
 clear hbl h0 hL hb0 hm hmS hcl hcn hE;go_wp2_with fail;go_region_held3 (fun z=>z.cell? ⟨w.heap.size,0,none⟩=some (.slice A1 n1 c1)∧z.cell? ⟨w.heap.size,1,none⟩=some (.slice A2 n2 c2))
  (first
   | go_keep
   | exact K.out _ hB3
   | exact K.out _ hB2)
  (first
   | (go_at_call 28; refine HSC.out.mono ?_; rintro e w2 ⟨⟨v1,v2,v3,rfl,hO2⟩,hb2⟩; obtain ⟨E1,k1,E2,k2,E3,k3,rfl,rfl,rfl,hS2⟩:=hO2.read; have hB2:Below W.heap.size W w2:=(below_drewN (Below.refl _ W) 1).trans hb2; have hQ2:=HQ.out.Yc hB2; have HCV:=Ve (hS2.mv (R':=fun b=>b<w2.heap.size) (Mv.to _ fun b _ hl=>hl)).has hf hM (by omega) (by omega) hQ2; rw [Hm.out,Tp Hm.out] at HCV)
   | (go_at_call 9; refine HCV.mono ?_; rintro e w3 ⟨v3,rfl,hO3,hb3⟩; have hB3:=hB2.trans (hb3.mono hB2.size); obtain ⟨Av,nv,cv,rfl,hN3,_⟩:=hO3.Yu))
 obtain ⟨T,hT⟩:=Kd Hm.out
 have hne:0<nv:=by have h1:=hN3.len; rw [hT] at h1; simp at h1; omega
 have HLN:Hid ((Vd D V q).length=nv):=hid hN3.len
 have hmx:nv≤7:=by have h1:=Mp (Ye D V) (Xa q) (Ye D V).length; have h2:=HLN.out; unfold Vd at h2; have h3:(Ye D V).length=V.length+1:=rfl; omega
 have hBw:=HB0.out.trans (hB3.mono HB0.out.size)
 have hz3:=hBw.size
 clear HSC hS2 hQ2 HCV hO2 hb2 hb3 hO3 hT q0 q1 hB2;go_wp2_with fail;rw [hCQ.out] at hN3 HLN;go_loopw [8,25] (fun cv i wr=>∃ k:Nat,k≤nv∧i=.int .i64 k∧Ys (Ke cnt) 66 1 wr w3.heap.size (fun _=>False) cv (CQ.take k)∧Below w3.heap.size w3 wr) (fun _ i _=>nv - (intOf i).toNat)
 case atStart=>exact ⟨0,Nat.zero_le _,rfl,by rw [List.take_zero]; exact Ys.Zj _ _ _,Below.refl _ _⟩
 case round =>
  obtain ⟨k,hk,rfl,hO,hB⟩:=hrel
  by_cases hlt:k<nv
  ·obtain ⟨bb,o,u,rfl,g0,hu⟩:=(hN3.below hB (Nat.le_refl _)).get hlt
   have i0:(0:Int)≤(k:Int):=by omega
   have i1:(k:Int)<(nv:Int):=by omega
   obtain ⟨j,hj,rfl⟩:=HAt.out u (List.mem_of_getElem? hu.out)
   have hvl3:(Ye D V).length=V.length+1:=rfl
   have HLA:Hid (Yge Cs (j:Int)=(((cnt (j:Int):Nat):Int),0)):=hid (by
    unfold Yge;rw [if_pos ⟨by omega,by rw [HCL.out]; omega⟩,HCN.out j (by omega)]
    rfl)
   have HCo:=hid (Yjh (HL.out.below (hB3.trans (hB.mono hB3.size))) HLA)
   obtain ⟨fu,hfu⟩ : ∃ fu,flo (cnt (j:Int):Nat)=fu:=⟨_,rfl⟩;obtain ⟨gu,hgu⟩ : ∃ gu,flo (j:Int)=gu:=⟨_,rfl⟩
   have hcv:Hid (cpx cnt (j:Int)=.complex .f64 fu gu):=hid (by unfold cpx; rw [hfu,hgu])
   have hel:Ke cnt (wr.alloc (.cells #[.complex .f64 fu gu] 66)) (fun k=>False∧u8.ownBlock≠some k) [.complex .f64 fu gu] (j:Int):=by
    show [Value.complex .f64 fu gu]=[cpx cnt (j:Int)]
    rw [hcv.out]
   have hone:∀ u∈[Value.complex .f64 fu gu],u.oneCell'=true:=fun u hu=>by
    rw [List.mem_singleton.1 hu,← hcv.out]; rfl
   rw [hcv.out] at HCo
   have hO1:=hO.alloc R1 (.cells #[.complex .f64 fu gu] 66)
   have hlo:=fun g e=>(hO.lt g e).1
   have hlb:Hid ((CQ.take k).length≤1000000):=hid (by rw [List.length_take]; omega)
   have hbs:w3.heap.size≤(wr.alloc (.cells #[.complex .f64 fu gu] 66)).heap.size:=by have:=hB.size; rw [World.size_alloc]; omega
   have hsz:=hB.size
   clear hvl3 HLA hj hfu hgu;go_wp2_with fail;refine HCo.out.mono ?_;rintro e w5 ⟨rfl,rfl⟩;clear HCo g0;go_wp2_with (at_builtin; refine Wq R1 rfl _ _ rfl Yno Tryz.underlying65 rfl (by decide) w3.heap.size _ _ _ rfl hO1 _ rfl [.complex .f64 fu gu] rfl (j:Int) (Ci _ _ _) hone hel hlb.out hbs ?_)
   intro v' w8 hO3 hG2
   have hF:=hid (show Ys (Ke cnt) 66 1 w8 w3.heap.size (fun _=>False) v' (CQ.take (k+1))∧Below w3.heap.size w3 w8 from ⟨by rw [← Z4 hu.out]; exact hO3,(hB.alloc hsz (.cells #[.complex .f64 fu gu] 66)).trans (hG2.Y4 hbs hlo)⟩)
   clear hO hO1 hO3 hG2 hB hlo hel hone;go_wp2_with fail;go_roundw
   case rel=>exact ⟨k+1,by omega,by go_num,hF.out⟩
   case measure=>simp [intOf]; omega
  ·obtain rfl:k=nv:=by omega
   rw [List.take_of_length_le (by rw [HLN.out]; exact Nat.le_refl _)] at hO
   obtain ⟨Am,cm,rfl,hRow⟩:=hO.read R1;rw [HLN.out] at hRow ⊢
   have HM:=hid (Yon hRow HRI.out (fun u hu=>by
    obtain ⟨i,h1,rfl⟩:=HAt.out u hu;refine ⟨HE.out i ?_,by omega,by omega⟩
    show i<V.length+1
    exact h1) hne)
   have hBX:=hBw.trans (hB.mono hz3)
   clear hO hRow hB;go_wp2_with fail;refine HM.out.mono ?_;rintro e w9 ⟨v,rfl,hv,hb9⟩
   have hvn:v.natAbs<2 ^ 53:=by
    obtain ⟨i,h1,rfl⟩:=HAt.out v hv.1;omega
   obtain ⟨fv,hfv⟩ : ∃ fv,flo (cnt v:Nat)=fv:=⟨_,rfl⟩;obtain ⟨gv,hgv⟩ : ∃ gv,flo v=gv:=⟨_,rfl⟩
   have HNu:=hid (Yoy (x:=fv) w9 hvn hgv)
   rw [show cpx cnt v=.complex .f64 fv gv by unfold cpx; rw [hfv,hgv]]
   have hF:=hid (And.intro hv (hBX.trans (hb9.mono hBX.size)))
   clear HM hfv hgv hv hb9 hvn hBX;go_wp2_with fail;refine HNu.out.mono ?_;rintro e w10 ⟨rfl,rfl⟩;clear HNu;go_wp2_with fail;go_ret2;exact ⟨v,rfl,hF.out⟩
theorem Yfl {x:Nat}{q:Qry} 
  (h:Lt w R g F D M V Qs Cs cn) (hmS:Z3 D M V) (hf:Sq D) (hM:∀ s∈M,s.length≤maxLen) (hq:V0 w S A1 n1 c1 A2 n2 c2 q) (hm:Wk D M V q=x) (hx0:x≠0) :
  Calls Tryz.prog 14 #[.pointer (some ⟨g,0,none⟩),O4 A1 n1 c1 A2 n2 c2] w fun e w'=>e=.returned (.tuple #[.int .i64 0,.int .i64 x])∧Below w.heap.size w w':=by
 have hb0:=Ya w (.cells #[.slice A1 n1 c1,.slice A2 n2 c2] 30)
 have hbl:=Block.new w 30 #[.slice A1 n1 c1,.slice A2 n2 c2]
 have h0:=hq.Yc hb0
 have hL:=h.below hb0
 have hdm:=W4 hmS
 have hvl:V.length≤6:=hmS.2.2.1
 have hx1:((x:Int) != 0)=true:=by simp; omega
 clear h hq;go_enter Tryz.func14,Tryz.ntmps14;go_wp2_with fail;generalize w.alloc (.cells #[.slice A1 n1 c1,.slice A2 n2 c2] 30)=W at hb0 hbl h0 hL ⊢
 have q0:W.cell? ⟨w.heap.size,0,none⟩=some (.slice A1 n1 c1):=hbl.cell 0
 have q1:W.cell? ⟨w.heap.size,1,none⟩=some (.slice A2 n2 c2):=hbl.cell 1
 have HSC:=hid (J9 (hL.below (below_drewN (Below.refl _ W) 1)))
 have HBL:=hid hbl
 have HQ:=hid h0
 have HL:=hid hL
 have HB0:=hid hb0
 have Hm:=hid hm
 have K:∀ z,Below W.heap.size W z→z.cell? ⟨w.heap.size,0,none⟩=some (.slice A1 n1 c1)∧z.cell? ⟨w.heap.size,1,none⟩=some (.slice A2 n2 c2):=fun z hz=>⟨(hbl.below hz hbl.lt).cell 0,(hbl.below hz hbl.lt).cell 1⟩
 have K:=hid K
 clear hbl h0 hL hb0 hm hmS hx0;go_wp2_with fail;go_region_held3 (fun z=>z.cell? ⟨w.heap.size,0,none⟩=some (.slice A1 n1 c1)∧z.cell? ⟨w.heap.size,1,none⟩=some (.slice A2 n2 c2))
  (first
   | go_keep
   | exact K.out _ hB3
   | exact K.out _ hB2)
  (first
   | (go_at_call 28; refine HSC.out.mono ?_; rintro e w2 ⟨⟨v1,v2,v3,rfl,hO2⟩,hb2⟩; obtain ⟨E1,k1,E2,k2,E3,k3,rfl,rfl,rfl,hS2⟩:=hO2.read; have hB2:Below W.heap.size W w2:=(below_drewN (Below.refl _ W) 1).trans hb2; have hQ2:=HQ.out.Yc hB2; have HCV:=Ve (hS2.mv (R':=fun b=>b<w2.heap.size) (Mv.to _ fun b _ hl=>hl)).has hf hM (by omega) (by omega) hQ2; rw [Hm.out] at HCV)
   | (go_at_call 9; refine HCV.mono ?_; rintro e w3 ⟨v3,rfl,hO3,hb3⟩; have hB3:=hB2.trans (hb3.mono hB2.size); obtain ⟨Av,nv,cv,rfl,_⟩:=hO3.Yu))
 have hBw:=HB0.out.trans (hB3.mono HB0.out.size)
 clear HSC hS2 hQ2 HCV hO2 hb2 hb3 hO3 q0 q1 hB2 hB3;go_wp2_with fail;go_ret2;exact ⟨rfl,hBw⟩
theorem Yco (w:World) (A1 A2:Option Addr) (n1 c1 n2 c2:Nat) :
  Calls Tryz.prog 14 #[.pointer none,O4 A1 n1 c1 A2 n2 c2] w fun e w'=>e=.returned (.tuple #[.int .i64 0,.int .i64 1])∧Below w.heap.size w w':=by
 have hb0:=Ya w (.cells #[.slice A1 n1 c1,.slice A2 n2 c2] 30)
 go_enter Tryz.func14,Tryz.ntmps14;go_wp2_with fail;go_ret2;exact ⟨rfl,hb0⟩
theorem Ym3 (hm:m≤2) {q:List Int}(h:isVal m q):Wn m [q]=(Wb q,0):=by
 have hc:=B5 hm h
 rw [Yc5 hm (by simp) (by simp) (fun v hv=>by rw [List.mem_singleton.1 hv]; exact h)]
 rw [show [q].map Wb=[Wb q] from rfl,Jd hc.full,if_pos hc.1]
theorem Yi9 (w:World) (n:Int) (A1:Option Addr) (n1 c1:Nat) (A2:Option Addr) (n2 c2:Nat) (A3:Option Addr) (n3 c3:Nat) (g:Nat) (hg:g=w.heap.size):∀ j u,[Value.int .i64 n,.slice A1 n1 c1,.slice A2 n2 c2,.slice A3 n3 c3][j]?=some u→(w.alloc (.cells #[.int .i64 n,.slice A1 n1 c1,.slice A2 n2 c2,.slice A3 n3 c3] 105)).cell? ((⟨g,0,none⟩ : Addr).add j)=some u:=Pk w [.int .i64 n,.slice A1 n1 c1,.slice A2 n2 c2,.slice A3 n3 c3] 105 g hg
theorem C5 (k:Int) (A1:Option Addr) (n1 c1:Nat) (A2:Option Addr) (n2 c2:Nat) (A3:Option Addr) (n3 c3:Nat):∀ u∈[Value.int .i64 k,.slice A1 n1 c1,.slice A2 n2 c2,.slice A3 n3 c3],u.oneCell'=true:=by
 intro u hu;simp at hu
 rcases hu with rfl | rfl | rfl | rfl <;> rfl
theorem Du {ds:List DAt}{vs:List CAt} (h:LtM w g X1 X2 X3 dv vv ds vs N Qs W m Cs cnt) (hN:N.length≤3) (view:Int) {Av Ak Af:Option Addr}{nv cv nk ck nf cf:Nat}{S:Nat→Prop}{v:List Int}{Ks:List (List Int)}{G:List Fct}
  (hV:Yx w w.heap.size Av nv cv v) (hv:Qb N v) (hK:Ux w w.heap.size Ak nk ck Ks) (hF:Tj w S Af nf cf G) (hn:nf≤1000) (hsm:∀ f∈G,Ge f) (hval:m≤2∧∀ f∈G,isVal m f.2) (hnk:nk=nf)
  (hkey:∀ (i:Nat) (f:Fct),G[i]?=some f→O9 N Qs (Ks.getD i [])∧upB Qs (Ks.getD i []) v=kC Qs v f) :
  Calls Tryz.prog 78 #[.pointer (some ⟨g,0,none⟩),.int .i64 view,.slice Av nv cv,.slice Ak nk ck,.slice Af nf cf] w fun e w'=>(∃ r,e=.returned r∧Vb w' w.heap.size view r (X6 (kC Qs v) Y8 G))∧Below w.heap.size w w':=by
 subst hnk
 have HVs:=hid (Yhk hF hn hsm)
 have Hlen:=hid hF.len
 have HM:=hid h
 have HV:=hid hV
 have Hv:=hid hv
 have HK:=hid hK
 have HN:=hid hN
 have Hval:=hid hval
 have Hkey:=hid hkey
 have hcapk:=hK.cap
 have hmf:∀ (fn:Fn) (first cap:Array Value) (w:World),(Instr.makeFunc fn first cap).run Tryz.prog w=.ok (.func fn first cap) w:=fun _ _ _ _=>rfl
 clear h hV hv hK hF hsm hN hval hkey;go_enter Tryz.func78,Tryz.ntmps78;go_wp2_with fail;refine HVs.out.mono ?_;rintro e w1 ⟨rv,rfl,hO1,hB1⟩
 have hO1':=hO1
 obtain ⟨Ar,cr,rfl,hRr⟩:=hO1.read (Zw Yh)
 have hlr:(G.map Prod.snd).length=nk:=by rw [List.length_map]; exact Hlen.out
 rw [hlr] at hRr ⊢
 have HRr:Hid (Row (Zf Yr 1) 1 w1 (fun b=>w.heap.size≤b∧b<w1.heap.size) Ar nk cr (G.map Prod.snd)):=hid ((hRr.mv (Zw Yh) (Mv.to w1 fun b hb hl=>⟨by
  rcases hb with hb | hb
  ·exact hb
  ·exact hb.1,hl⟩)).map fun us x h=>Og Yh (fun _ _ h=>h) h)
 have HB1:=hid hB1
 clear hO1 hO1' hRr hlr hB1 HVs;go_wp2_with fail;go_loopw [11,21] (fun al i wr=>∃ k:Nat,k≤nk∧i=.int .i64 k∧Hid (Vb wr w1.heap.size view al (X6 (kC Qs v) Y8 (G.take k)))∧Below w1.heap.size w1 wr) (fun _ i _=>nk - (intOf i).toNat)
 case atStart=>exact ⟨0,Nat.zero_le _,rfl,hid (Vb.Zj _ _ _),Below.refl _ _⟩
 case round =>
  obtain ⟨k,hk,rfl,hO,hB⟩:=hrel
  have hBw:=HB1.out.trans (hB.mono HB1.out.size)
  by_cases hlt:k<nk
  ·obtain ⟨b,o,Aq,nq,cq,q,rfl,_,hbq,gq1,hq,heq⟩:=HRr.out.at1 hlt
   have gq:wr.cell? ⟨b,o+k,none⟩=some (.slice Aq nq cq):=(hB.cell (p:=⟨b,o+k,none⟩) hbq).trans gq1
   have i0:(0:Int)≤(k:Int):=by omega
   have i1:(k:Int)<(nk:Int):=by omega
   obtain ⟨f,hf⟩ : ∃ f,Hid (G[k]?=some f):=by
    have h1:=heq.out
    rw [List.getElem?_map,Option.map_eq_some_iff] at h1;obtain ⟨f,h2,_⟩:=h1;exact ⟨f,hid h2⟩
   have hfq:f.2=q:=by
    have h1:=heq.out
    rw [List.getElem?_map,hf.out] at h1;exact Option.some.inj h1
   have hvalq:=Hval.out.2 f (List.mem_of_getElem? hf.out)
   rw [hfq] at hvalq
   have hql:q.length=m:=by have:=hvalq.1; omega
   have hqn:m=nq:=by rw [← hql]; exact hq.len
   subst hqn;obtain ⟨bk,ok,Bk,mk,dk,KK,rfl,hbk,gk,hKK,hKe⟩:=HK.out.at_ hlt
   have gk' : wr.cell? ⟨bk,ok+k,none⟩=some (.slice Bk mk dk):=(hBw.cell (p:=⟨bk,ok+k,none⟩) hbk).trans gk
   obtain ⟨hfull,hup⟩:=Hkey.out k f hf.out;rw [← hKe] at hfull hup
   have hX:=Yrz (HM.out.below hBw) HN.out ((hKK.below hBw (Nat.le_refl _)).more hBw.size) ((HV.out.below hBw (Nat.le_refl _)).more hBw.size) hfull Hv.out
   rw [hup] at hX
   have HX:=hid hX
   have HQ:=hid hq
   have HqL:=hid (show isVal m q∧q.length=m∧f.2=q from ⟨hvalq,hql,hfq⟩)
   clear hq hKK hfull hup hX gk hvalq hql hfq;go_wp2_with fail;refine HX.out.mono ?_;rintro e w5 ⟨⟨kv,rfl,hkv⟩,hB5⟩;obtain ⟨Akv,nkv,ckv,rfl,hkI,_⟩:=hkv.Yu
   have hb6:=Ya w5 (.cells #[.slice Akv nkv ckv] 27)
   have hbb:=(Block.new w5 27 #[.slice Akv nkv ckv])
   have hkb:=hbb.cell 0
   have HG6:=hid ((hO.out.below hB5).below hb6)
   have hB6:=hB5.trans (hb6.mono hB5.size)
   have HB6:=hid (hB.trans (hB6.mono hB.size))
   have hkv6:Yf (w5.alloc (.cells #[.slice Akv nkv ckv] 27)) w1.heap.size (.slice Akv nkv ckv) (kC Qs v f):=World.ownsRow.alloc (hkv.low hB.size) _
   have HKv:=hid hkv6
   have hkI6:=hkI.below hb6 (Nat.le_refl _)
   have hlg:(X6 (kC Qs v) Y8 (G.take k)).length≤1000:=Nat.le_trans (F8 _ _ _) (Nat.le_trans (List.length_take_le k _) (by omega))
   have HI:=hid (Yf5 HG6.out hkb (hbb.lt) (hkI6.more hb6.size) hlg)
   have Hlg:=hid hlg
   clear hkv hkI hO hB5 hkv6 hkI6 hlg HX;go_wp2_with fail;generalize w5.alloc (.cells #[.slice Akv nkv ckv] 27)=Y at hb6 hbb hkb HG6 hB6 HB6 HKv HI ⊢;go_wp2_with fail;refine HI.out.mono ?_;rintro e w7 ⟨⟨r,rfl,hat⟩,hB7⟩
   have HG7:=hid (HG6.out.below hB7)
   have HB7:=hid (HB6.out.trans (hB7.mono HB6.out.size))
   have hkb7:w7.cell? ⟨w5.heap.size,0,none⟩=some (.slice Akv nkv ckv):=(hB7.cell (p:=⟨w5.heap.size,0,none⟩) hbb.lt).trans hkb
   have HKv7:=hid (Z8 HKv.out hB7)
   have Hat:=hid hat
   clear hat hB7 hB6 hb6 HG6 HB6 HKv HI;obtain ⟨Lk,hLk⟩ : ∃ Lk,Hid (X6 (kC Qs v) Y8 (G.take k)=Lk):=⟨_,hid rfl⟩;rw [hLk.out] at HG7 Hat Hlg
   have HF:=hid (show (∀ (j:Nat) (M:List PC),Lk[j]?=some (kC Qs v f,M)→Lk.set j (kC Qs v f,M++[Y8 f])=X6 (kC Qs v) Y8 (G.take (k+1)))∧(kC Qs v f∉Lk.map (·.1)→Lk++[(kC Qs v f,[Y8 f])]=X6 (kC Qs v) Y8 (G.take (k+1))) from
    ⟨fun j M hj=>by rw [← hLk.out] at hj ⊢; exact (Ym9 hf.out hj).symm,fun hno=>by rw [← hLk.out,C8] at hno; rw [← hLk.out]; exact (Yna hf.out hno).symm⟩)
   go_upto_if 37 with fail
   go_cut [11,15] (fun s11 s15 wx=>∃ (j c gA n' : Nat) (M:List PC) (L' : List (List Int × List PC)),s11=.slice (some ⟨gA,0,none⟩) n' c∧s15=.int .i64 j∧j<n'∧n'≤1001∧Hid (L'.length=n'∧Vb wx w1.heap.size view (.slice (some ⟨gA,0,none⟩) n' c) L'∧L'[j]?=some (kC Qs v f,M)∧L'.set j (kC Qs v f,M++[Y8 f])=X6 (kC Qs v) Y8 (G.take (k+1))∧Below w1.heap.size w1 wx))
   case first =>
    rcases Hat.out with ⟨j,M,rfl,hj⟩ | ⟨rfl,hno⟩
    ·obtain ⟨gA,cA,A1,n1,c1,A2,n2,c2,ev,_⟩:=HG7.out.at_ hj
     subst ev
     have hj0:¬ (j:Int)<0:=by omega
     have hjl:=(List.getElem?_eq_some_iff.1 hj).1
     have hl1:=Hlg.out
     have hEnd:=hid (show Lk.length=Lk.length∧Vb w7 w1.heap.size view (.slice (some ⟨gA,0,none⟩) Lk.length cA) Lk∧Lk[j]?=some (kC Qs v f,M)∧Lk.set j (kC Qs v f,M++[Y8 f])=X6 (kC Qs v) Y8 (G.take (k+1))∧Below w1.heap.size w1 w7 from ⟨rfl,HG7.out,hj,HF.out.1 j M hj,HB7.out⟩)
     clear hj;go_wp2_with fail;go_meet;exact ⟨j,cA,gA,_,M,Lk,rfl,rfl,hjl,by omega,hid ⟨rfl,hEnd.out.2⟩⟩
    ·obtain ⟨Aal,cal,eal⟩:=HG7.out.shape
     subst eal
     have hb8:=Ya w7 (.cells #[.int .i64 view,.slice Akv nkv ckv,.slice none 0 0,.int .i64 0,.slice none 0 0,.slice none 0 0,.slice none 0 0] 107)
     have HG8:=hid (HG7.out.below hb8)
     have HKv8:Hid (Yf (w7.alloc (.cells #[.int .i64 view,.slice Akv nkv ckv,.slice none 0 0,.int .i64 0,.slice none 0 0,.slice none 0 0,.slice none 0 0] 107)) w1.heap.size (.slice Akv nkv ckv) (kC Qs v f)):=hid (World.ownsRow.alloc HKv7.out _)
     have HC8:=hid (Pk w7 (gc7 view (.slice Akv nkv ckv,.slice none 0 0)) 107 w7.heap.size rfl)
     have hl8:Hid (Lk.length≤1000000):=hid (by have:=Hlg.out; omega)
     have hs8:Hid (w1.heap.size≤(w7.alloc (.cells #[.int .i64 view,.slice Akv nkv ckv,.slice none 0 0,.int .i64 0,.slice none 0 0,.slice none 0 0,.slice none 0 0] 107)).heap.size):=hid (by rw [World.size_alloc]; have:=HB7.out.size; omega)
     have Hno:=hid hno
     have Hb8:=hid hb8
     clear hno hb8;go_wp2_with (at_builtin; refine Ye6 rfl _ _ rfl rfl HG8.out _ rfl Akv nkv ckv _ HC8.out HKv8.out hl8.out hs8.out ?_)
     intro v' w9 hG9 hGr
     have hlast:(Lk++[(kC Qs v f,([] : List PC))])[Lk.length]?=some (kC Qs v f,[]):=by simp
     obtain ⟨gA,cA,A1,n1,c1,A2,n2,c2,ev,_⟩:=hG9.at_ hlast;subst ev
     have hlw:=HG8.out.lt
     have hl1:=Hlg.out
     have hEnd:=hid (show (Lk++[(kC Qs v f,([] : List PC))]).length=Lk.length+1∧Vb w9 w1.heap.size view (.slice (some ⟨gA,0,none⟩) (Lk.length+1) cA) (Lk++[(kC Qs v f,([] : List PC))])∧(Lk++[(kC Qs v f,([] : List PC))])[Lk.length]?=some (kC Qs v f,[])∧(Lk++[(kC Qs v f,([] : List PC))]).set Lk.length (kC Qs v f,[]++[Y8 f])=X6 (kC Qs v) Y8 (G.take (k+1))∧Below w1.heap.size w1 w9 from
      ⟨by simp,by have h:=hG9; rw [List.length_append,List.length_singleton] at h; exact h,hlast,by rw [← HF.out.2 Hno.out]; simp,(HB7.out.trans (Hb8.out.mono HB7.out.size)).trans (hGr.Y4 hs8.out fun k e=>(hlw k e).1)⟩)
     rw [List.length_append,List.length_singleton];clear hG9 hGr hlast hlw;go_wp2_with fail;go_meet;exact ⟨Lk.length,cA,gA,_,[],_,rfl,rfl,by omega,by omega,hEnd⟩
   case rest =>
    obtain ⟨j,cA,gA,n',M,L',rfl,rfl,hjn,hn',H⟩:=hcut;obtain ⟨hL',hGc,hjL,hset,hBc⟩:=H.out
    have hqc:=HQ.out.mv Yh (Mv.below hBc fun b hb=>hb.2)
    have hb8:=Ya wc (.cells #[.slice Aq m cq] 27)
    have hFo:=Yc6 (m:Int) (Ux.one hqc 27) (by decide)
    have hfo:Wn ((m:Nat):Int) [q]=(Wb q,0):=Ym3 Hval.out.1 HqL.out.1
    obtain ⟨⟨n9,Su,Mi,Ma⟩,hcc⟩ : ∃ cc,Hid (Wb q=cc):=⟨_,hid rfl⟩;rw [hcc.out] at hfo;rw [hfo] at hFo
    have HFo:=hid hFo
    have HGc:=hid (hGc.below hb8)
    have HBc:=hid (hBc.trans (hb8.mono hBc.size))
    have Hset:=hid (show L'[j]?=some (kC Qs v f,M)∧L'.set j (kC Qs v f,M++[Y8 f])=X6 (kC Qs v) Y8 (G.take (k+1))∧L'.length=n' from ⟨hjL,hset,hL'⟩)
    clear hqc hb8 hFo hfo hGc hBc H hjL hset hL';go_wp2_with fail;refine HFo.out.mono ?_;intro e w9 hte;obtain ⟨⟨v1,v2,v3,rfl,hOC⟩,hB9⟩:=hte;obtain ⟨A1,n1,c1,e1,_,_⟩:=hOC.s.Yu;obtain ⟨A2,n2,c2,e2,_,_⟩:=hOC.m.Yu;obtain ⟨A3,n3,c3,e3,_,_⟩:=hOC.x.Yu;subst e1 e2 e3
    have hb10:=Ya w9 (.cells #[.int .i64 n9,.slice A1 n1 c1,.slice A2 n2 c2,.slice A3 n3 c3] 105)
    have hbk:=Block.new w9 105 #[.int .i64 n9,.slice A1 n1 c1,.slice A2 n2 c2,.slice A3 n3 c3]
    have HG10:=hid ((HGc.out.below hB9).below hb10)
    have hB10:=HBc.out.trans ((hB9.trans (hb10.mono hB9.size)).mono HBc.out.size)
    have HB10:=hid hB10
    have HOC:=hid (show X5 (w9.alloc (.cells #[.int .i64 n9,.slice A1 n1 c1,.slice A2 n2 c2,.slice A3 n3 c3] 105)) w1.heap.size (.slice A1 n1 c1) (.slice A2 n2 c2) (.slice A3 n3 c3) Su Mi Ma from ⟨Yf.low (hOC.s.alloc _) HBc.out.size,Yf.low (hOC.m.alloc _) HBc.out.size,Yf.low (hOC.x.alloc _) HBc.out.size⟩)
    clear hOC hB9 HFo HGc HBc hB10;go_wp2_with fail;generalize w9.alloc (.cells #[.int .i64 n9,.slice A1 n1 c1,.slice A2 n2 c2,.slice A3 n3 c3] 105)=Y at hb10 hbk HG10 HB10 HOC ⊢
    have hLn:=Hset.out.2.2
    have hG0:=HG10.out
    obtain ⟨gA',cA',Bq,nq',cq',Am,nm,cm,ev,hgl,_,_,p0,_,_,_,_,_,_,hXm⟩:=hG0.at_ Hset.out.1;injection ev with e1 e2 e3
    injection e1 with e1
    injection e1 with e1 _ _
    subst e1 e3
    have q0:=hbk.cell 0
    have q1:=hbk.cell 1
    have q2:=hbk.cell 2
    have q3:=hbk.cell 3
    have hbZ:Below Y.heap.size Y (Y.drew.alloc (.cells #[.int .i64 n9,.slice A1 n1 c1,.slice A2 n2 c2,.slice A3 n3 c3] 105)):=(below_drewN (Below.refl _ Y) 1).alloc (Nat.le_refl _) _
    have pz:(Y.alloc (.cells #[.int .i64 n9,.slice A1 n1 c1,.slice A2 n2 c2,.slice A3 n3 c3] 105)).drew.cell? ⟨gA,j*7+2,none⟩=some (.slice Am nm cm):=(hbZ.cell (p:=⟨gA,j*7+2,none⟩) hgl).trans p0
    have Pz:=hid ((hbZ.cell (p:=⟨gA,j*7+2,none⟩) hgl).trans p0)
    have HXz:=hid (hXm.kept (P:=fun _=>False) (Kept.Yz hbZ _) (fun _ _ h=>h) (fun _ _ h=>h))
    have HGz:Hid (Vb (Y.drew.alloc (.cells #[.int .i64 n9,.slice A1 n1 c1,.slice A2 n2 c2,.slice A3 n3 c3] 105)) w1.heap.size view (.slice (some ⟨gA,0,none⟩) L'.length cA) L'):=hid (by rw [hLn]; exact hG0.below hbZ)
    have HCz:=hid (Yi9 Y.drew n9 A1 n1 c1 A2 n2 c2 A3 n3 c3 Y.heap.size rfl)
    have HEz:=hid ((HOC.out.below hbZ (Nat.le_refl _)).elB (n:=n9) (fun k=>Yb0 (Y.drew.alloc (.cells #[.int .i64 n9,.slice A1 n1 c1,.slice A2 n2 c2,.slice A3 n3 c3] 105)) k∧(Value.slice Am nm cm).ownBlock≠some k) fun k hk _=>⟨hk,HXz.out.Yor (by decide) hk⟩)
    have hMl1:Hid ((M++[(n9,Su,Mi,Ma)]).length=M.length+1):=hid (by simp)
    have hMl:Hid (M.length≤1000000):=hid (by
     have h1:=Hset.out.2.1
     have h2:(kC Qs v f,M++[Y8 f])∈X6 (kC Qs v) Y8 (G.take (k+1)):=by rw [← h1]; exact List.mem_of_getElem? (i:=j) (by rw [List.getElem?_set,if_pos rfl,if_pos (by omega)])
     obtain ⟨_,h3⟩:=Ur.1 h2
     have h4:=congrArg List.length h3
     have h5:(Yi (kC Qs v) Y8 (G.take (k+1)) (kC Qs v f)).length≤(G.take (k+1)).length:=by unfold Yi; rw [List.length_map]; exact List.length_filter_le _ _
     have h6:=List.length_take_le (k+1) G
     simp only [List.length_append,List.length_singleton] at h4;omega)
    have hbs:Hid (w1.heap.size≤(Y.drew.alloc (.cells #[.int .i64 n9,.slice A1 n1 c1,.slice A2 n2 c2,.slice A3 n3 c3] 105)).heap.size):=hid (Nat.le_trans HB10.out.size hbZ.size)
    have hBZ:=hid (HB10.out.trans (hbZ.mono HB10.out.size))
    have hlm:=HXz.out.lt
    have hlG:=hG0.lt
    have hjl0:(0:Int)≤(j:Int):=by omega
    have hjl1:(j:Int)<(n' : Int):=by omega
    have hof:Hid (Y8 f=(n9,Su,Mi,Ma)):=hid (by show Wb f.2=_; rw [HqL.out.2.2]; exact hcc.out)
    clear hbZ hXm hG0 hb10 hgl HG10 HB10 e2;go_region_law (refine Az Zh rfl _ _ rfl Qt Tryz.underlying103 rfl (by decide) w1.heap.size (Yb0 _) (.slice Am nm cm) M rfl HXz.out _ rfl [.int .i64 n9,.slice A1 n1 c1,.slice A2 n2 c2,.slice A3 n3 c3] rfl (n9,Su,Mi,Ma) HCz.out (C5 _ _ _ _ _ _ _ _ _ _) HEz.out hMl.out hbs.out ?_; intro v' w12 hO12 hG12; have hO13:=HXz.out.app (by decide) hO12 hG12; obtain ⟨A12,c12,e12⟩:=hO13.shape; rw [hMl1.out] at e12; obtain ⟨p12,f12,hM12⟩:=HGz.out.more Hset.out.1 Pz.out hO13 hG12; subst e12)
    all_goals
     have hFin:=hid (show Vb (w12.setCell ⟨gA,j*7+2,none⟩ (.slice A12 (M.length+1) c12)) w1.heap.size view (.slice (some ⟨gA,0,none⟩) n' cA) (X6 (kC Qs v) Y8 (G.take (k+1)))∧Below w1.heap.size w1 (w12.setCell ⟨gA,j*7+2,none⟩ (.slice A12 (M.length+1) c12)) from
      ⟨by rw [← Hset.out.2.1,hof.out,← hLn]; exact hM12,(hBZ.out.trans (hG12.Y4 hbs.out fun q e=>(hlm q e).1)).setCell (p:=⟨gA,j*7+2,none⟩) (hlG gA rfl).1 _⟩)
     clear hO12 hG12 hO13 hM12 HEz HXz HGz HCz Pz pz p0 q0 q1 q2 q3 hlm hlG HOC;go_wp2_with fail;go_roundw
     case rel=>exact ⟨k+1,by omega,by go_num,hid hFin.out.1,hFin.out.2⟩
     case measure=>simp [intOf]; omega
  ·obtain rfl:k=nk:=by omega
   have hFin:=hid (show Vb wr w.heap.size view u11 (X6 (kC Qs v) Y8 G) from by
    have h1:=hO.out
    rw [List.take_of_length_le (by have:=Hlen.out; omega)] at h1
    exact h1.low HB1.out.size)
   clear hO;go_wp2_with fail;go_ret;exact ⟨⟨_,rfl,hFin.out⟩,hBw⟩
section
theorem Vu {α:Type}{E:ElT α}(hE:E.Ok) {T TS:TypeId}{sz bytes:Nat}{z:Value}{w:World}{ops:Array Oper}{rest:List Oper}{o:Oper}{a:Act}{Q:Exit→Act→World→Prop}(hgd:o.guard=none) (s x:Operand)
  (ho:o.op=.call { callee:=.builtin .append,args:=#[s,x],argTypes:=#[TS,TS] }) (hinfo:(Tryz.prog.info? T).map (fun i=>(i.zero,i.size,i.bytes))=some (some z,sz,bytes)) (hTS:Tryz.prog.underlying TS=some (.slice T)) (hzs:z.cells.size=sz) (hsz:0<sz∧sz≤100∧bytes≤1000)
  (base:Nat) (S:Nat→Prop) (v:Value) (L:List α) (hs:a.eval s=v) (hown:Ys E T sz w base S v L) (ad:Addr) (n c:Nat) (L2:List α) (hx:a.eval x=.slice (some ad) n c) (hr:Row E sz w (fun k=>S k∧v.ownBlock≠some k) (some ad) n c L2) (hone:∀ S us y,E w S us y→us.length=sz→∀ u∈us,u.oneCell'=true) (hlen:L.length+n≤1000000) (hbase:base≤w.heap.size)
  (h:∀ v' w',Ys E T sz w' base S v' (L++L2)→Z7 w v w' v'→wpList Tryz.prog ops Q rest (a.put o.dst v') w'):wpList Tryz.prog ops Q (o :: rest) a w:=by
 obtain ⟨i,hi,hz0,hz1,hz2⟩:=info_parts hinfo;obtain ⟨vs,h1,h2⟩:=hown;obtain ⟨hl2,us,hS,hE2⟩:=hr
 have hul:=hS.len
 have hcut:∀ j,j<n→((us.drop (j*sz)).take sz).length=sz:=fun j hj=>by
  have:j*sz+sz≤n*sz:=by rw [← Nat.succ_mul]; exact Nat.mul_le_mul_right sz hj
  rw [List.length_take,List.length_drop]; omega
 have h1c:∀ u∈us,u.oneCell'=true:=fun u hu=>by
  obtain ⟨t,ht⟩:=List.getElem?_of_mem hu
  have htl:=(List.getElem?_eq_some_iff.1 ht).1
  have hj:t / sz<n:=(Nat.div_lt_iff_lt_mul hsz.1).2 (by omega)
  have hm:t % sz<sz:=Nat.mod_lt _ hsz.1
  refine hone _ _ _ (hE2 (t / sz) _ (List.getElem?_eq_getElem (by omega))) (hcut _ hj) u (List.mem_of_getElem? (i:=t % sz) ?_)
  rw [List.getElem?_take,if_pos hm,List.getElem?_drop,Nat.mul_comm,Nat.div_add_mod,ht]
 have hcells:∀ j u,us[j]?=some u→w.cell? (ad.add j)=some u:=fun j u hu=>by
  have hpos:0<n:=by
   have h3:=(List.getElem?_eq_some_iff.1 hu).1
   rcases Nat.eq_zero_or_pos n with h4 | h4
   ·rw [h4,Nat.zero_mul] at hul; omega
   ·exact h4
  obtain ⟨b,q,e,_,_,hc⟩:=hS.has hpos;injection e with e
  subst e;rw [Yt];exact hc j u hu
 refine wpList_append_own_at w hgd s x TS ho base T i _ sz bytes hTS hi hz0 hz1 hz2 hzs hsz.1 v L.length vs hs h1 ad n c us hx hul hcells h1c (by unfold maxLen; omega) (by have:=Nat.mul_le_mul hlen hsz.2.2; omega) hbase ?_
 intro v' w' e1 e2 _ e4
 have hG:Z7 w v w' v':=⟨e2,fun k hk=>by
  rcases e4 with e4 | e4
  ·exact .inl (e4 ▸ hk)
  ·rw [e4] at hk
   injection hk with hk
   exact .inr (Nat.le_of_eq hk)⟩
 have hm:Mv w (fun k=>S k∧v.ownBlock≠some k) w' (fun k=>S k∧v'.ownBlock≠some k):=Mv.Kk hG
 have hvl:=h1.1
 refine h v' w' ⟨vs++us,by rw [List.length_append,hl2]; exact e1,fun j y hj=>hE _ _ _ _ _ _ hm ?_⟩ hG
 by_cases hlt:j<L.length
 ·rw [List.getElem?_append_left hlt] at hj
  have hle:j*sz+sz≤L.length*sz:=by rw [← Nat.succ_mul]; exact Nat.mul_le_mul_right sz hlt
  rw [List.drop_append_of_le_length (by omega),List.take_append_of_le_length (by rw [List.length_drop]; omega)]
  exact h2 j y hj
 ·rw [List.getElem?_append_right (by omega)] at hj
  have e:j*sz=vs.length+(j - L.length)*sz:=by rw [hvl,← Nat.add_mul]; congr 1; omega
  rw [e,List.drop_append,List.drop_of_length_le (by omega),List.nil_append,Nat.add_sub_cancel_left]
  exact hE2 _ y hj
theorem Yf0 {w:World}{S:Nat→Prop}{us:List Value}{x:PC}(h:Wi w S us x) (_hl:us.length=4):∀ u∈us,u.oneCell'=true:=by
 obtain ⟨n,A1,n1,c1,A2,n2,c2,A3,n3,c3,Su,M,X,rfl,_⟩:=Tq h;exact C5 _ _ _ _ _ _ _ _ _ _
theorem Ys.Yt9 {w:World}{n:Int}{A1 A2 A3:Option Addr}{n1 c1 n2 c2 n3 c3:Nat}{Su M X:List Int}(h:Wi w (fun b=>b<w.heap.size) [.int .i64 n,.slice A1 n1 c1,.slice A2 n2 c2,.slice A3 n3 c3] (n,Su,M,X)):Ys Wi 105 4 (w.alloc (.cells #[.int .i64 n,.slice A1 n1 c1,.slice A2 n2 c2,.slice A3 n3 c3] 105)) w.heap.size (fun b=>b<w.heap.size) (.slice (some ⟨w.heap.size,0,none⟩) 1 1) [(n,Su,M,X)]:=by
 refine ⟨[.int .i64 n,.slice A1 n1 c1,.slice A2 n2 c2,.slice A3 n3 c3],⟨rfl,.inr ⟨w.heap.size,1,_,rfl,Nat.le_refl _,heap_alloc_new w _,Nat.le_refl _,by unfold maxLen; omega,rfl,rfl⟩⟩,fun i x hi=>?_⟩
 match i,hi with
 | 0,hi =>
  simp at hi;subst hi;exact Zh _ _ _ _ _ _ ((Mv.alloc w _ _).trans (Mv.to _ fun b hb _=>⟨hb,fun e=>by simp [Value.ownBlock] at e; omega⟩)) h
 | i+1,hi=>simp at hi
section
variable {w:World}{g:Nat}{X1 X2 X3 dv vv:Value}{ds:List DAt}{vs:List CAt}{N:List Nat}{Qs:List (List Pth)}{W m:Nat}{Cs:List Cub}{cnt:Int}
theorem Yc8 {W m:Nat}{C:Cub}(hC:Wr W m C) (K:List Int):Kj W C K=Zb C K:=by
 unfold Kj
 by_cases hk:isKey W K
 ·rw [if_pos hk]
 ·rw [if_neg hk]
  rcases hg:Zb C K with _ | u
  ·rfl
  ·exact absurd (hC.key _ (Xz hg)) hk
abbrev Tw:Array Value:=#[.int .i64 0,.slice none 0 0,.slice none 0 0,.slice none 0 0]
theorem Sv (W1:World):Below W1.heap.size W1 W1.drew:=below_drewN (Below.refl _ W1) 1
theorem Uk (W1:World) (b:Obj):Below W1.heap.size W1 (W1.alloc b).drew:=((Below.refl _ W1).alloc (Nat.le_refl _) b).trans (below_drewN (Below.refl _ _) 1)
def Ys7 (r:Nat) (w1:World) (x:PC × Int) (e:Ending) (w' : World):Prop :=
 (∃ A1 n1 c1 A2 n2 c2 A3 n3 c3,e=.returned (.tuple #[.agg #[.int .i64 x.1.1,.slice A1 n1 c1,.slice A2 n2 c2,.slice A3 n3 c3],.int .i64 x.2])∧X5 w' w1.heap.size (.slice A1 n1 c1) (.slice A2 n2 c2) (.slice A3 n3 c3) x.1.2.1 x.1.2.2.1 x.1.2.2.2)∧Below w1.heap.size w1 w'∧Block w' r 105 Tw
theorem Yhc {w1 y:World}{r:Nat}{A:Option Addr}{n c:Nat}{L:List PC}(h:Z9 y y.heap.size A n c L) (hn:n≤1000000) (hb:Below w1.heap.size w1 y) (hr:Block w1 r 105 Tw) :
  Calls Tryz.prog 80 #[.slice A n c] y (Ys7 r w1 (V8 L)):=by
 refine (Rc h hn).mono ?_;rintro e w6 ⟨⟨v1,v2,v3,rfl,hO⟩,hB⟩;obtain ⟨A1,n1,c1,rfl,_,_⟩:=hO.s.Yu;obtain ⟨A2,n2,c2,rfl,_,_⟩:=hO.m.Yu;obtain ⟨A3,n3,c3,rfl,_,_⟩:=hO.x.Yu
 have hb6:=hb.trans (hB.mono hb.size)
 exact ⟨⟨_,_,_,_,_,_,_,_,_,rfl,⟨Yf.low hO.s hb.size,Yf.low hO.m hb.size,Yf.low hO.x hb.size⟩⟩,hb6,hr.below hb6 hr.lt⟩
theorem Ylh (h:LtM w g X1 X2 X3 dv vv ds vs N Qs W m Cs cnt) {v:Nat}(hv:v<Cs.length) {q:Int}{A1 A3 A4 A5:Option Addr}{ad:Addr}{n1 c1 n2 c2 n3 c3 n4 c4 n5 c5:Nat}{K:List Int}{M:List PC}{S:Nat→Prop}(hK:Yx w w.heap.size A1 n1 c1 K) (hM:Row Wi 4 w S (some ad) n2 c2 M) (hn:n2≤1000) (hgk:Zb (Cs.getD v []) K=none) :
  Calls Tryz.prog 79 #[.pointer (some ⟨g,0,none⟩),.agg #[.int .i64 v,.slice A1 n1 c1,.slice (some ad) n2 c2,.int .i64 q,.slice A3 n3 c3,.slice A4 n4 c4,.slice A5 n5 c5]] w (O6 w (Z5 (Cs.getD v []) K M)):=by
 obtain ⟨Av,cv,evv,hvl,hat⟩:=h.Ykk;subst evv;obtain ⟨⟨gv,bw⟩,hcc⟩ : ∃ cc,Hid (vs[v]?=some cc):=⟨_,hid (List.getElem?_eq_getElem (by omega))⟩
 obtain ⟨bv,rfl,_,hbv,hcell⟩:=hat v _ hcc.out;obtain ⟨C,hCe⟩ : ∃ C,C=Cs.getD v []:=⟨_,rfl⟩
 have hCb:=h.cbs.at_ v _ hcc.out
 dsimp only at hCb hcell
 rw [← hCe] at hCb hgk ⊢
 have hb0:=(Ya w (.cells #[.int .i64 v,.slice A1 n1 c1,.slice (some ad) n2 c2,.int .i64 q,.slice A3 n3 c3,.slice A4 n4 c4,.slice A5 n5 c5] 107))
 have hb1:=Yb hb0 (Ya (w.alloc (.cells #[.int .i64 v,.slice A1 n1 c1,.slice (some ad) n2 c2,.int .i64 q,.slice A3 n3 c3,.slice A4 n4 c4,.slice A5 n5 c5] 107)) (.cells #[.int .i64 0,.slice none 0 0,.slice none 0 0,.slice none 0 0] 105))
 have hbl:=(Ta w (.int .i64 v) (.slice A1 n1 c1) (.slice (some ad) n2 c2) (.int .i64 q) (.slice A3 n3 c3) (.slice A4 n4 c4) (.slice A5 n5 c5)).alloc (.cells #[.int .i64 0,.slice none 0 0,.slice none 0 0,.slice none 0 0] 105)
 have hbr:=Block.new (w.alloc (.cells #[.int .i64 v,.slice A1 n1 c1,.slice (some ad) n2 c2,.int .i64 q,.slice A3 n3 c3,.slice A4 n4 c4,.slice A5 n5 c5] 107)) 105 #[.int .i64 0,.slice none 0 0,.slice none 0 0,.slice none 0 0]
 rw [World.size_alloc] at hbr
 have hM1:=h.below hb1
 have k4:=hM1.c4
 have g0:=(hb1.cell (p:=⟨bv,v,none⟩) hbv).trans hcell
 have HMr:=hid (hM.mv Zh ((Mv.to w (S':=fun b=>S b∧b<w.heap.size) fun b hb hl=>⟨hb,hl⟩).trans (Mv.below hb1 fun b hb=>hb.2)))
 have HSum:=hid fun y (hy:Below ((w.alloc (.cells #[.int .i64 v,.slice A1 n1 c1,.slice (some ad) n2 c2,.int .i64 q,.slice A3 n3 c3,.slice A4 n4 c4,.slice A5 n5 c5] 107)).alloc (.cells #[.int .i64 0,.slice none 0 0,.slice none 0 0,.slice none 0 0] 105)).heap.size ((w.alloc (.cells #[.int .i64 v,.slice A1 n1 c1,.slice (some ad) n2 c2,.int .i64 q,.slice A3 n3 c3,.slice A4 n4 c4,.slice A5 n5 c5] 107)).alloc (.cells #[.int .i64 0,.slice none 0 0,.slice none 0 0,.slice none 0 0] 105)) y)=>Yhc (HMr.out.mv Zh ((Mv.to _ (S':=fun b=>(S b∧b<w.heap.size)∧b<((w.alloc (.cells #[.int .i64 v,.slice A1 n1 c1,.slice (some ad) n2 c2,.int .i64 q,.slice A3 n3 c3,.slice A4 n4 c4,.slice A5 n5 c5] 107)).alloc (.cells #[.int .i64 0,.slice none 0 0,.slice none 0 0,.slice none 0 0] 105)).heap.size) fun b hb hl=>⟨hb,hl⟩).trans (Mv.below hy fun b hb=>hb.2))).Yh3 (by omega) hy hbr
 have HGt:Hid (∀ y,Below ((w.alloc (.cells #[.int .i64 v,.slice A1 n1 c1,.slice (some ad) n2 c2,.int .i64 q,.slice A3 n3 c3,.slice A4 n4 c4,.slice A5 n5 c5] 107)).alloc (.cells #[.int .i64 0,.slice none 0 0,.slice none 0 0,.slice none 0 0] 105)).heap.size ((w.alloc (.cells #[.int .i64 v,.slice A1 n1 c1,.slice (some ad) n2 c2,.int .i64 q,.slice A3 n3 c3,.slice A4 n4 c4,.slice A5 n5 c5] 107)).alloc (.cells #[.int .i64 0,.slice none 0 0,.slice none 0 0,.slice none 0 0] 105)) y→Calls Tryz.prog 111 #[.pointer (some ⟨gv,0,none⟩),.slice A1 n1 c1] y (Jh y (Kj W C K))):=hid fun y hy=>by
  have hy1:=hb1.trans (hy.mono hb1.size)
  exact Ns (hCb.Yc hy1) ((hK.below hy1 (Nat.le_refl _)).more hy1.size)
 have HCo:=hid hCb.ok
 have l1:=hbl.lt
 have l2:=Nat.lt_of_lt_of_le h.blk.lt hb1.size
 have l3:=Nat.lt_of_lt_of_le hbv hb1.size
 have i0:(0:Int)≤(v:Int):=by omega
 have i1:(v:Int)<(Cs.length:Int):=by omega
 clear h hat hCb hK hM hcell hM1 hb0 hCe;go_enter Tryz.func79,Tryz.ntmps79;go_wp2_with fail;generalize (w.alloc (.cells #[.int .i64 v,.slice A1 n1 c1,.slice (some ad) n2 c2,.int .i64 q,.slice A3 n3 c3,.slice A4 n4 c4,.slice A5 n5 c5] 107)).alloc (.cells #[.int .i64 0,.slice none 0 0,.slice none 0 0,.slice none 0 0] 105)=W1 at hb1 hbl hbr k4 g0 l1 l2 l3 HMr HSum HGt ⊢
 have k0:=hbl.cell 0
 have k1:=hbl.cell 1
 have k2:=hbl.cell 2
 have hgt:=HGt.out
 rw [Yc8 HCo.out,hgk] at hgt
 have HGt:=hid hgt
 have hwp:Z5 C K M=V8 M:=by unfold Z5; rw [hgk]; rfl
 obtain ⟨⟨⟨q9,Sx,Mx,Xx⟩,er⟩,hZ⟩ : ∃ z,Hid (Z5 C K M=z):=⟨_,hid rfl⟩
 have HZ:=hid (hwp.symm.trans hZ.out)
 clear hgt hwp;go_upto_region 1 with fail
 go_cut [6,7] (fun s6 s7 wx=>s7=.bool false∧Below W1.heap.size W1 wx∧∃ gB:Nat,s6=.pointer (some ⟨gB,0,none⟩))
 case first =>
  go_region_law (go_simp; go_at_call 111; first
   | (refine Calls.mono (HGt.out W1.drew (Sv W1)) ?_; intro e w5 hte; obtain ⟨rfl,hB5⟩:=hte.none_; have hC5:=(Sv W1).trans hB5)
   | (refine Calls.mono (HGt.out (W1.alloc (.cells Tw 105)).drew (Uk W1 _)) ?_; intro e w5 hte; obtain ⟨rfl,hB5⟩:=hte.none_; have hC5:=(Uk W1 (.cells Tw 105)).trans (hB5.mono (Uk W1 (.cells Tw 105)).size); have hZ5:Block w5 W1.heap.size 105 Tw:=((Block.new W1 105 Tw).drewN 1).below hB5 (by rw [World.size_drew,World.size_alloc]; omega); have z0:=hZ5.cell 0; have z1:=hZ5.cell 1; have z2:=hZ5.cell 2; have z3:=hZ5.cell 3; have y0:=hZ5.free 0; have y1:=hZ5.free 1; have y2:=hZ5.free 2; have y3:=hZ5.free 3))
  all_goals
   go_wp2_with fail;go_meet
   first
    | exact ⟨rfl,hC5.alloc hC5.size _,_,rfl⟩
    | exact ⟨rfl,Y0 (r:=W1.heap.size) hC5 (Nat.le_refl _) _ _ _ _,_,rfl⟩
 case rest =>
  obtain ⟨rfl,hC5,gB,rfl⟩:=hcut
  have l5:=Nat.lt_of_lt_of_le l1 hC5.size
  have kk2:=(hC5.cell (p:=⟨w.heap.size,2,none⟩) l1).trans k2
  clear HGt k0 k1 k2 k4 g0;go_wp2_with fail;refine Calls.mono (HSum.out _ hC5) ?_;rintro e w6 ⟨⟨E1,d1,e1,E2,d2,e2,E3,d3,e3,rfl,hO6⟩,hB6,hR6⟩
  have hB7:=hb1.trans (hB6.mono hb1.size)
  have hrl:=hbr.lt
  have hz1:=hb1.size
  rw [HZ.out] at hO6 ⊢
  dsimp only at hO6 ⊢
  have r0:=hR6.cell 0
  have r1:=hR6.cell 1
  have r2:=hR6.cell 2
  have r3:=hR6.cell 3
  have f0:=hR6.free 0
  have f1:=hR6.free 1
  have f2:=hR6.free 2
  have f3:=hR6.free 3
  have hRR:=hid (hR6.Zy (.int .i64 q9) (.slice E1 d1 e1) (.slice E2 d2 e2) (.slice E3 d3 e3))
  have hRO:=hid ((hO6.Zy hrl (.int .i64 q9) (.slice E1 d1 e1) (.slice E2 d2 e2) (.slice E3 d3 e3)).low hz1)
  have hRB:=hid (Y0 (r:=w.heap.size+1) hB7 (by omega) (.int .i64 q9) (.slice E1 d1 e1) (.slice E2 d2 e2) (.slice E3 d3 e3))
  clear hO6 hB6 hR6 hB7;go_wp2_with fail;refine bodyPost_ret (Yj rfl _ _ (w.heap.size+1) _ _ rfl hRR.out Tryz.underlying105 rfl Y5) rfl ?_;rw [hZ.out];exact ⟨⟨_,_,_,rfl,hRO.out⟩,hRB.out⟩
theorem Yli (h:LtM w g X1 X2 X3 dv vv ds vs N Qs W m Cs cnt) {v:Nat}(hv:v<Cs.length) {q:Int}{A1 A3 A4 A5:Option Addr}{ad:Addr}{n1 c1 n2 c2 n3 c3 n4 c4 n5 c5:Nat}{K:List Int}{M:List PC}{S:Nat→Prop}(hK:Yx w w.heap.size A1 n1 c1 K) (hM:Row Wi 4 w S (some ad) n2 c2 M) (hn:n2≤1000) {n9:Int}{Su Mi Ma:List Int}(hgk:Zb (Cs.getD v []) K=some (n9,Su,Mi,Ma)) :
  Calls Tryz.prog 79 #[.pointer (some ⟨g,0,none⟩),.agg #[.int .i64 v,.slice A1 n1 c1,.slice (some ad) n2 c2,.int .i64 q,.slice A3 n3 c3,.slice A4 n4 c4,.slice A5 n5 c5]] w (O6 w (Z5 (Cs.getD v []) K M)):=by
 obtain ⟨Av,cv,evv,hvl,hat⟩:=h.Ykk;subst evv;obtain ⟨⟨gv,bw⟩,hcc⟩ : ∃ cc,Hid (vs[v]?=some cc):=⟨_,hid (List.getElem?_eq_getElem (by omega))⟩
 obtain ⟨bv,rfl,_,hbv,hcell⟩:=hat v _ hcc.out;obtain ⟨C,hCe⟩ : ∃ C,C=Cs.getD v []:=⟨_,rfl⟩
 have hCb:=h.cbs.at_ v _ hcc.out
 dsimp only at hCb hcell
 rw [← hCe] at hCb hgk ⊢
 have hb0:=(Ya w (.cells #[.int .i64 v,.slice A1 n1 c1,.slice (some ad) n2 c2,.int .i64 q,.slice A3 n3 c3,.slice A4 n4 c4,.slice A5 n5 c5] 107))
 have hb1:=Yb hb0 (Ya (w.alloc (.cells #[.int .i64 v,.slice A1 n1 c1,.slice (some ad) n2 c2,.int .i64 q,.slice A3 n3 c3,.slice A4 n4 c4,.slice A5 n5 c5] 107)) (.cells #[.int .i64 0,.slice none 0 0,.slice none 0 0,.slice none 0 0] 105))
 have hbl:=(Ta w (.int .i64 v) (.slice A1 n1 c1) (.slice (some ad) n2 c2) (.int .i64 q) (.slice A3 n3 c3) (.slice A4 n4 c4) (.slice A5 n5 c5)).alloc (.cells #[.int .i64 0,.slice none 0 0,.slice none 0 0,.slice none 0 0] 105)
 have hbr:=Block.new (w.alloc (.cells #[.int .i64 v,.slice A1 n1 c1,.slice (some ad) n2 c2,.int .i64 q,.slice A3 n3 c3,.slice A4 n4 c4,.slice A5 n5 c5] 107)) 105 #[.int .i64 0,.slice none 0 0,.slice none 0 0,.slice none 0 0]
 rw [World.size_alloc] at hbr
 have hM1:=h.below hb1
 have k4:=hM1.c4
 have g0:=(hb1.cell (p:=⟨bv,v,none⟩) hbv).trans hcell
 have HMr:=hid (hM.mv Zh ((Mv.to w (S':=fun b=>S b∧b<w.heap.size) fun b hb hl=>⟨hb,hl⟩).trans (Mv.below hb1 fun b hb=>hb.2)))
 have HSum:=hid fun y (hy:Below ((w.alloc (.cells #[.int .i64 v,.slice A1 n1 c1,.slice (some ad) n2 c2,.int .i64 q,.slice A3 n3 c3,.slice A4 n4 c4,.slice A5 n5 c5] 107)).alloc (.cells #[.int .i64 0,.slice none 0 0,.slice none 0 0,.slice none 0 0] 105)).heap.size ((w.alloc (.cells #[.int .i64 v,.slice A1 n1 c1,.slice (some ad) n2 c2,.int .i64 q,.slice A3 n3 c3,.slice A4 n4 c4,.slice A5 n5 c5] 107)).alloc (.cells #[.int .i64 0,.slice none 0 0,.slice none 0 0,.slice none 0 0] 105)) y)=>Yhc (HMr.out.mv Zh ((Mv.to _ (S':=fun b=>(S b∧b<w.heap.size)∧b<((w.alloc (.cells #[.int .i64 v,.slice A1 n1 c1,.slice (some ad) n2 c2,.int .i64 q,.slice A3 n3 c3,.slice A4 n4 c4,.slice A5 n5 c5] 107)).alloc (.cells #[.int .i64 0,.slice none 0 0,.slice none 0 0,.slice none 0 0] 105)).heap.size) fun b hb hl=>⟨hb,hl⟩).trans (Mv.below hy fun b hb=>hb.2))).Yh3 (by omega) hy hbr
 have HGt:Hid (∀ y,Below ((w.alloc (.cells #[.int .i64 v,.slice A1 n1 c1,.slice (some ad) n2 c2,.int .i64 q,.slice A3 n3 c3,.slice A4 n4 c4,.slice A5 n5 c5] 107)).alloc (.cells #[.int .i64 0,.slice none 0 0,.slice none 0 0,.slice none 0 0] 105)).heap.size ((w.alloc (.cells #[.int .i64 v,.slice A1 n1 c1,.slice (some ad) n2 c2,.int .i64 q,.slice A3 n3 c3,.slice A4 n4 c4,.slice A5 n5 c5] 107)).alloc (.cells #[.int .i64 0,.slice none 0 0,.slice none 0 0,.slice none 0 0] 105)) y→Calls Tryz.prog 111 #[.pointer (some ⟨gv,0,none⟩),.slice A1 n1 c1] y (Jh y (Kj W C K))):=hid fun y hy=>by
  have hy1:=hb1.trans (hy.mono hb1.size)
  exact Ns (hCb.Yc hy1) ((hK.below hy1 (Nat.le_refl _)).more hy1.size)
 have HCo:=hid hCb.ok
 have l1:=hbl.lt
 have l2:=Nat.lt_of_lt_of_le h.blk.lt hb1.size
 have l3:=Nat.lt_of_lt_of_le hbv hb1.size
 have i0:(0:Int)≤(v:Int):=by omega
 have i1:(v:Int)<(Cs.length:Int):=by omega
 clear h hat hCb hK hM hcell hM1 hb0 hCe;go_enter Tryz.func79,Tryz.ntmps79;go_wp2_with fail;generalize (w.alloc (.cells #[.int .i64 v,.slice A1 n1 c1,.slice (some ad) n2 c2,.int .i64 q,.slice A3 n3 c3,.slice A4 n4 c4,.slice A5 n5 c5] 107)).alloc (.cells #[.int .i64 0,.slice none 0 0,.slice none 0 0,.slice none 0 0] 105)=W1 at hb1 hbl hbr k4 g0 l1 l2 l3 HMr HSum HGt ⊢
 have k0:=hbl.cell 0
 have k1:=hbl.cell 1
 have k2:=hbl.cell 2
 have hgt:=HGt.out
 rw [Yc8 HCo.out,hgk] at hgt
 have HGt:=hid hgt
 have hwp:Z5 C K M=V8 ((n9,Su,Mi,Ma) :: M):=by unfold Z5; rw [hgk]; rfl
 obtain ⟨⟨⟨q9,Sx,Mx,Xx⟩,er⟩,hZ⟩ : ∃ z,Hid (Z5 C K M=z):=⟨_,hid rfl⟩
 have HZ:=hid (hwp.symm.trans hZ.out)
 clear hgt hwp;go_upto_region 1 with fail
 go_cut [6,7] (fun s6 s7 wx=>s7=.bool true∧Below W1.heap.size W1 wx∧∃ (gB:Nat) (D1:Option Addr) (m1 d1:Nat) (D2:Option Addr) (m2 d2:Nat) (D3:Option Addr) (m3 d3:Nat),s6=.pointer (some ⟨gB,0,none⟩)∧Block wx gB 105 #[.int .i64 n9,.slice D1 m1 d1,.slice D2 m2 d2,.slice D3 m3 d3]∧Hid (X5 wx W1.heap.size (.slice D1 m1 d1) (.slice D2 m2 d2) (.slice D3 m3 d3) Su Mi Ma))
 case first =>
  go_region_law (go_simp; go_at_call 111; first
   | (refine Calls.mono (HGt.out W1.drew (Sv W1)) ?_; intro e w5 hte; obtain ⟨⟨v1,v2,v3,rfl,hOC⟩,hB5⟩:=hte.some_; obtain ⟨D1,m1,d1,rfl,_,_⟩:=hOC.s.Yu; obtain ⟨D2,m2,d2,rfl,_,_⟩:=hOC.m.Yu; obtain ⟨D3,m3,d3,rfl,_,_⟩:=hOC.x.Yu; have hC5:=(Sv W1).trans hB5)
   | (refine Calls.mono (HGt.out (W1.alloc (.cells Tw 105)).drew (Uk W1 _)) ?_; intro e w5 hte; obtain ⟨⟨v1,v2,v3,rfl,hOC⟩,hB5⟩:=hte.some_; obtain ⟨D1,m1,d1,rfl,_,_⟩:=hOC.s.Yu; obtain ⟨D2,m2,d2,rfl,_,_⟩:=hOC.m.Yu; obtain ⟨D3,m3,d3,rfl,_,_⟩:=hOC.x.Yu; have hC5:=(Uk W1 (.cells Tw 105)).trans (hB5.mono (Uk W1 (.cells Tw 105)).size); have hZ5:Block w5 W1.heap.size 105 Tw:=((Block.new W1 105 Tw).drewN 1).below hB5 (by rw [World.size_drew,World.size_alloc]; omega); have z0:=hZ5.cell 0; have z1:=hZ5.cell 1; have z2:=hZ5.cell 2; have z3:=hZ5.cell 3; have y0:=hZ5.free 0; have y1:=hZ5.free 1; have y2:=hZ5.free 2; have y3:=hZ5.free 3))
  all_goals
   go_wp2_with fail;go_meet
   first
    | exact ⟨rfl,hC5.alloc hC5.size _,_,_,_,_,_,_,_,_,_,_,rfl,Block.new w5 _ _,hid ⟨hOC.s.alloc _,hOC.m.alloc _,hOC.x.alloc _⟩⟩
    | exact ⟨rfl,Y0 (r:=W1.heap.size) hC5 (Nat.le_refl _) _ _ _ _,_,_,_,_,_,_,_,_,_,_,rfl,hZ5.Zy _ _ _ _,hid ((hOC.Zy (r:=W1.heap.size) (by rw [World.size_drew,World.size_alloc]; omega) _ _ _ _).low (by rw [World.size_drew,World.size_alloc]; omega))⟩
 case rest =>
  obtain ⟨rfl,hC5,gB,D1,m1,d1,D2,m2,d2,D3,m3,d3,rfl,hBk,hOC⟩:=hcut
  have hz1:=hb1.size
  have hsz:=hC5.size
  have l5:=Nat.lt_of_lt_of_le l1 hC5.size
  have kk2:=(hC5.cell (p:=⟨w.heap.size,2,none⟩) l1).trans k2
  have q0:=hBk.cell 0
  have q1:=hBk.cell 1
  have q2:=hBk.cell 2
  have q3:=hBk.cell 3
  have hLit:=hid (Ys.Yt9 (hOC.out.elB (n:=n9) (fun b=>b<wc.heap.size) fun k hk _=>(Array.getElem?_eq_some_iff.1 hk.choose_spec).1))
  have hb8:=hC5.trans ((Ya wc (.cells #[.int .i64 n9,.slice D1 m1 d1,.slice D2 m2 d2,.slice D3 m3 d3] 105)).mono hsz)
  have HM8:=hid (HMr.out.mv Zh ((Mv.below hb8 fun b hb=>Nat.lt_of_lt_of_le hb.2 hz1).trans (Mv.to _ (S':=fun k=>k<wc.heap.size∧(Value.slice (some ⟨wc.heap.size,0,none⟩) 1 1).ownBlock≠some k) fun b hb _=>⟨by have:=hb.2; omega,fun e=>by simp [Value.ownBlock] at e; have:=hb.2; omega⟩)))
  have hml:=HMr.out.1
  have hs8:Hid (wc.heap.size≤(wc.alloc (.cells #[.int .i64 n9,.slice D1 m1 d1,.slice D2 m2 d2,.slice D3 m3 d3] 105)).heap.size):=hid (by rw [World.size_alloc]; omega)
  have hlm:Hid ([(n9,Su,Mi,Ma)].length+n2≤1000000):=hid (by simp only [List.length_singleton]; omega)
  have HB8:=hid hb8
  clear HGt k0 k1 k2 k4 g0 hb8;go_wp2_with (at_builtin; refine Vu Zh rfl _ _ rfl Qt Tryz.underlying103 rfl (by decide) wc.heap.size (fun b=>b<wc.heap.size) (.slice (some ⟨wc.heap.size,0,none⟩) 1 1) [(n9,Su,Mi,Ma)] rfl hLit.out ad n2 c2 M rfl HM8.out (fun _ _ _ h hl=>Yf0 h hl) hlm.out hs8.out ?_)
  intro v' w9 hO9 hG9;obtain ⟨A9,c9,rfl,hRw⟩:=hO9.read Zh
  have hb9:=HB8.out.trans (hG9.Y4 HB8.out.size fun k e=>by simp [Value.ownBlock] at e; omega)
  have hs9:=Yhc hRw.Yh3 (by rw [List.length_cons]; omega) hb9 hbr
  rw [List.length_cons,hml] at hs9
  have HS9:=hid hs9
  clear hO9 hG9 hRw hLit HM8 HMr hs9;go_wp2_with fail;refine Calls.mono HS9.out ?_;rintro e w6 ⟨⟨E1,d1,e1,E2,d2,e2,E3,d3,e3,rfl,hO6⟩,hB6,hR6⟩
  have hB7:=hb1.trans (hB6.mono hb1.size)
  have hrl:=hbr.lt
  have hz1:=hb1.size
  rw [HZ.out] at hO6 ⊢
  dsimp only at hO6 ⊢
  have r0:=hR6.cell 0
  have r1:=hR6.cell 1
  have r2:=hR6.cell 2
  have r3:=hR6.cell 3
  have f0:=hR6.free 0
  have f1:=hR6.free 1
  have f2:=hR6.free 2
  have f3:=hR6.free 3
  have hRR:=hid (hR6.Zy (.int .i64 q9) (.slice E1 d1 e1) (.slice E2 d2 e2) (.slice E3 d3 e3))
  have hRO:=hid ((hO6.Zy hrl (.int .i64 q9) (.slice E1 d1 e1) (.slice E2 d2 e2) (.slice E3 d3 e3)).low hz1)
  have hRB:=hid (Y0 (r:=w.heap.size+1) hB7 (by omega) (.int .i64 q9) (.slice E1 d1 e1) (.slice E2 d2 e2) (.slice E3 d3 e3))
  clear hO6 hB6 hR6 hB7;go_wp2_with fail;refine bodyPost_ret (Yj rfl _ _ (w.heap.size+1) _ _ rfl hRR.out Tryz.underlying105 rfl Y5) rfl ?_;rw [hZ.out];exact ⟨⟨_,_,_,rfl,hRO.out⟩,hRB.out⟩
theorem Ypn (h:LtM w g X1 X2 X3 dv vv ds vs N Qs W m Cs cnt) {v:Nat}(hv:v<Cs.length) {q:Int}{A1 A3 A4 A5:Option Addr}{ad:Addr}{n1 c1 n2 c2 n3 c3 n4 c4 n5 c5:Nat}{K:List Int}{M:List PC}{S:Nat→Prop}(hK:Yx w w.heap.size A1 n1 c1 K) (hM:Row Wi 4 w S (some ad) n2 c2 M) (hn:n2≤1000) :
  Calls Tryz.prog 79 #[.pointer (some ⟨g,0,none⟩),.agg #[.int .i64 v,.slice A1 n1 c1,.slice (some ad) n2 c2,.int .i64 q,.slice A3 n3 c3,.slice A4 n4 c4,.slice A5 n5 c5]] w (O6 w (Z5 (Cs.getD v []) K M)):=by
 rcases hgk:Zb (Cs.getD v []) K with _ | ⟨n9,Su,Mi,Ma⟩
 ·exact Ylh h hv hK hM hn hgk
 ·exact Yli h hv hK hM hn hgk
end
end
section
def KdB (w:World):Nat→Prop:=fun k=>∃ cs T,(T=3∨T=105)∧w.heap[k]?=some (.cells cs T (0,0))
section
variable {w w' : World}
theorem KdB.mv (h:∀ k cs T,(T=3∨T=105)→k<w.heap.size→w.heap[k]?=some (.cells cs T (0,0))→w'.heap[k]?=w.heap[k]?):Mv w (KdB w) w' (KdB w'):=fun b hb hl=>by
 obtain ⟨cs,T,hT,hc⟩:=hb
 have e:=h b cs T hT hl hc
 exact ⟨e,cs,T,hT,e.trans hc⟩
theorem KdB.below (hb:Below w.heap.size w w'):Mv w (KdB w) w' (KdB w'):=KdB.mv fun k _ _ _ hl _=>hb.block k hl
theorem KdB.Kk {B size n:Nat}{e:TypeId}{v v' : Value}{xs:List Value}(hr:w.ownsRow B e size v n xs) (hG:Z7 w v w' v') (h1:e≠3) (h2:e≠105):Mv w (KdB w) w' (KdB w'):=KdB.mv fun k cs T hT hl hc=>hG.1.block k hl fun e'=>Y6 hr hc (by rcases hT with rfl | rfl <;> assumption) e'.symm
end
def Mu:ElT Chn:=fun w S us x=>∃ (A1:Option Addr) (n1 c1:Nat) (ad:Addr) (n2 c2:Nat) (n:Int) (A3:Option Addr) (n3 c3:Nat) (A4:Option Addr) (n4 c4:Nat) (A5:Option Addr) (n5 c5:Nat),
 us=[.int .i64 (x.1.1:Int),.slice A1 n1 c1,.slice (some ad) n2 c2,.int .i64 n,.slice A3 n3 c3,.slice A4 n4 c4,.slice A5 n5 c5]∧Row Yr 1 w S A1 n1 c1 x.1.2∧Row Wi 4 w S (some ad) n2 c2 x.2.1∧Wi w S [.int .i64 n,.slice A3 n3 c3,.slice A4 n4 c4,.slice A5 n5 c5] x.2.2
theorem Tr:Mu.Ok:=fun _ _ _ _ _ _ hm ⟨A1,n1,c1,ad,n2,c2,n,A3,n3,c3,A4,n4,c4,A5,n5,c5,e,h1,h2,h3⟩=>⟨A1,n1,c1,ad,n2,c2,n,A3,n3,c3,A4,n4,c4,A5,n5,c5,e,h1.mv Yh hm,h2.mv Zh hm,Zh _ _ _ _ _ _ hm h3⟩
abbrev Ro (w:World) (base:Nat) (v:Value) (L:List Chn):Prop:=Ys Mu 107 7 w base (KdB w) v L
section
variable {w w' : World}{base B:Nat}{v v' : Value}{L L' : List Chn}
theorem Ro.Zj (w:World) (base:Nat):Ro w base (.slice none 0 0) []:=Ys.Zj _ _ _
theorem Ro.to_ (h:Ys Mu 107 7 w' base (KdB w) v L) (hm:Mv w (KdB w) w' (KdB w')):Ro w' base v L:=h.to Tr fun k hk _=>by
 have hl:k<w.heap.size:=by
  obtain ⟨cs,T,_,hc⟩:=hk;exact (Array.getElem?_eq_some_iff.1 hc).1
 exact (hm k hk hl).2
theorem Ro.below (h:Ro w base v L) (hb:Below w.heap.size w w'):Ro w' base v L:=Ro.to_ (Ys.below Tr h hb) (KdB.below hb)
theorem Ro.app (h:Ro w base v L) (h6:Ys Mu 107 7 w' base (KdB w) v' L') (hG:Z7 w v w' v'):Ro w' base v' L':=by
 obtain ⟨vs,h1,_⟩:=h;exact Ro.to_ h6 (KdB.Kk h1 hG (by decide) (by decide))
theorem Vb.Kk {view:Int}{r:Value}{G:List (List Int × List PC)}(hg:Vb w B view r G) (h:Ro w base v L) (hG:Z7 w v w' v') (hne:∀ k,r.ownBlock=some k→v.ownBlock≠some k):Vb w' B view r G:=by
 obtain ⟨xs,hx,_⟩:=h;obtain ⟨ps,h0,h1,h2,h3⟩:=hg
 have kI:∀ {u:Value}{l:List Int},Yf w B u l→Yf w' B u l:=fun {u l} hu=>World.ownsRow.kept hu hG.1 (Vz hu hx (by decide))
 have kX:∀ {u:Value}{l:List PC},S9 w B u l→S9 w' B u l:=fun {u l} hu=>hu.kept (Kept.Wl hG.1) (fun k hk e=>by
  obtain ⟨cs,hc⟩:=hk;exact Y6 hx hc (by decide) e) (fun k hk e=>by
  obtain ⟨xs',hx',_⟩:=hu
  rcases Vz hx' hx (by decide) with h4 | h4
  ·rw [hk] at h4; cases h4
  ·exact h4 (hk.trans e.symm))
 refine ⟨ps,h0,?_,fun i p x hp hx=>⟨kI (h2 i p x hp hx).1,kX (h2 i p x hp hx).2⟩,h3⟩
 refine World.ownsRow.kept h1 hG.1 ?_
 rcases hr:r.ownBlock with _ | k
 ·exact .inl rfl
 ·exact .inr fun e=>hne k hr e.symm
theorem Yf1 {vw:Nat}{K:List Int}{M:List PC}{n:Int}{A1 A3 A4 A5:Option Addr}{ad:Addr}{n1 c1 n2 c2 n3 c3 n4 c4 n5 c5 B0:Nat}{Su Mi Ma:List Int}(h:Ro w base v L) (hK:Yf w B (.slice A1 n1 c1) K) (hM:S9 w B (.slice (some ad) n2 c2) M) (hC:X5 w B0 (.slice A3 n3 c3) (.slice A4 n4 c4) (.slice A5 n5 c5) Su Mi Ma) :
  Mu w (fun k=>KdB w k∧v.ownBlock≠some k) [.int .i64 vw,.slice A1 n1 c1,.slice (some ad) n2 c2,.int .i64 n,.slice A3 n3 c3,.slice A4 n4 c4,.slice A5 n5 c5] ((vw,K),(M,(n,Su,Mi,Ma))):=by
 obtain ⟨xs,hx,_⟩:=h
 have hne:∀ k,KdB w k→v.ownBlock≠some k:=fun k hk=>by
  obtain ⟨cs,T,hT,hc⟩:=hk;exact Y6 hx hc (by rcases hT with rfl | rfl <;> decide)
 have hI:∀ k,Yb0 w k→KdB w k:=fun k ⟨cs,hc⟩=>⟨cs,_,.inl rfl,hc⟩
 refine ⟨A1,n1,c1,ad,n2,c2,n,A3,n3,c3,A4,n4,c4,A5,n5,c5,rfl,?_,?_,hC.elB _ fun k hk _=>⟨hI k hk,hne k (hI k hk)⟩⟩
 ·have h2:Ys Yr 3 1 w B (fun _=>False) (.slice A1 n1 c1) K:=hK.Yk6
  obtain ⟨A,c,e,hr⟩:=h2.read Yh;injection e with e1 e2 e3
  subst e1 e2 e3;refine hr.mv Yh (Mv.to w fun b hb hl=>?_)
  rcases hb with hb | ⟨_,hb⟩
  ·exact hb.elim
  ·obtain ⟨cs,fr,hc⟩:=Xn hK hb
   have hk:KdB w b:=by
    rcases hK.2 with ⟨e0,_⟩ | ⟨g,cap,cur,e0,_,hg,_⟩
    ·rw [e0] at hb; cases hb
    ·rw [e0] at hb
     have e3:g=b:=by simpa [Value.ownBlock] using hb
     subst e3;exact ⟨_,_,.inl rfl,hg⟩
   exact ⟨hk,hne b hk⟩
 ·obtain ⟨ys,hy,_⟩:=id hM
  obtain ⟨A,c,e,hr⟩:=Ys.read Zh hM;injection e with e1 e2 e3
  subst e1 e2 e3;refine hr.mv Zh (Mv.to w fun b hb hl=>?_)
  rcases hb with hb | ⟨_,hb⟩
  ·exact ⟨hI b hb,hne b (hI b hb)⟩
  ·have hk:KdB w b:=by
    rcases hy.2 with ⟨e0,_⟩ | ⟨g,cap,cur,e0,_,hg,_⟩
    ·rw [e0] at hb; cases hb
    ·rw [e0] at hb
     have e3:g=b:=by simpa [Value.ownBlock] using hb
     subst e3;exact ⟨_,_,.inr rfl,hg⟩
   exact ⟨hk,hne b hk⟩
end
end
def KeB (w:World):Nat→Prop:=fun k=>∃ cs T,(T=3∨T=105∨T=107)∧w.heap[k]?=some (.cells cs T (0,0))
theorem KeB.Ysf {ds:List DAt}{vs:List CAt} (hL:LtM w g X1 X2 X3 dv vv ds vs N Qs W m Cs cnt) (hc:Chg (Zg g dv vv ds vs) w w'):Mv w (KeB w) w' (KeB w'):=fun k hb hl=>by
 obtain ⟨cs,T,hT,hk⟩:=hb
 have e:=hc.block k hl fun hf=>by
  obtain ⟨o,ho,hi⟩:=hL.kind hf;rw [hk] at ho;injection ho with ho
  subst ho
  rcases hT with rfl | rfl | rfl <;> simp [Tt] at hi
 exact ⟨e,cs,T,hT,e.trans hk⟩
theorem KeB.below (hb:Below w.heap.size w w'):Mv w (KeB w) w' (KeB w'):=fun k h hl=>by
 obtain ⟨cs,T,hT,hk⟩:=h;exact ⟨hb.block k hl,cs,T,hT,(hb.block k hl).trans hk⟩
theorem Ro.Ytv {L:List Chn} (h:Ro w base v L):∃ A c,v=.slice A L.length c∧Row Mu 7 w (KeB w) A L.length c L:=by
 obtain ⟨A,c,e,hr⟩:=Ys.read Tr h;obtain ⟨xs,hx,_⟩:=h;refine ⟨A,c,e,hr.mv Tr (Mv.to w fun b hb hl=>?_)⟩
 rcases hb with ⟨cs,T,hT,hc⟩ | ⟨_,hb⟩
 ·exact ⟨cs,T,by rcases hT with h | h <;> simp [h],hc⟩
 ·rcases hx.2 with ⟨e0,_⟩ | ⟨g,cap,cur,e0,_,hg,_⟩
  ·rw [e0] at hb; cases hb
  ·rw [e0] at hb
   have e3:g=b:=by simpa [Value.ownBlock] using hb
   subst e3;exact ⟨_,_,.inr (.inr rfl),hg⟩
theorem G0 (Rs:List (List Pth)) (Vs:List (List Int)) (Cs:List Cub) (G:List Fct):∀ n,(To Rs Vs Cs G n).length≤n*G.length
 | 0=>by simp [Yjb]
 | n+1=>by
  rw [Ka,List.length_append,Nat.succ_mul]
  have h1:=G0 Rs Vs Cs G n
  have h2:=F8 (kC Rs (Vs.getD n [])) Y8 G
  have h3:(O3 n (Cs.getD n []) (X6 (kC Rs (Vs.getD n [])) Y8 G)).length=(X6 (kC Rs (Vs.getD n [])) Y8 G).length:=by unfold O3; rw [List.length_map]
  omega
theorem Yja {v:Nat}{j:Nat}{M:List PC} (h:L[j]?=some (K,M)):(O3 v C L).take (j+1)=(O3 v C L).take j++[((v,K),(M,(Z5 C K M).1))] :=
 Xi (by unfold O3; rw [List.getElem?_map,h]; rfl)
def Ho (w:World) (Qs:List (List Pth)) (Vs:List (List Int)) (Cs:List Cub) (cnt:Int) (G:List Fct) (e:Ending) (w' : World):Prop :=
 ((1099511627776<cnt+(G.length:Int)∧e=.returned (.tuple #[.slice none 0 0,.int .i64 14])) ∨
   (cnt+(G.length:Int)≤1099511627776∧∃ (i:Nat) (x:List Int × List PC),i<Vs.length∧x∈X6 (kC Qs (Vs.getD i [])) Y8 G∧(Z5 (Cs.getD i []) x.1 x.2).2≠0∧e=.returned (.tuple #[.slice none 0 0,.int .i64 (Z5 (Cs.getD i []) x.1 x.2).2])) ∨
   (cnt+(G.length:Int)≤1099511627776∧(∀ i,i<Vs.length→okV (Cs.getD i []) (X6 (kC Qs (Vs.getD i [])) Y8 G))∧∃ A c,e=.returned (.tuple #[.slice A (To Qs Vs Cs G Vs.length).length c,.int .i64 0])∧Row Mu 7 w' (KeB w') A (To Qs Vs Cs G Vs.length).length c (To Qs Vs Cs G Vs.length))) ∧
 Below w.heap.size w w'
theorem X5.Yo {r:Nat}{v1 v2 v3:Value}{S M X:List Int} (h:X5 w base v1 v2 v3 S M X) (hr:r<base) (j:Nat) (u:Value):X5 (w.setCell ⟨r,j,none⟩ u) base v1 v2 v3 S M X:=by
 have key:∀ {v:Value}{l:List Int},Yf w base v l→Yf (w.setCell ⟨r,j,none⟩ u) base v l:=fun h=>h.other (fun e=>by have:=(h.lt r e).1; omega) u
 exact ⟨key h.s,key h.m,key h.x⟩
theorem Yg5 (i:Int) (A1:Option Addr) (n1 c1:Nat) (A2:Option Addr) (n2 c2:Nat) (j:Int) (A3:Option Addr) (n3 c3:Nat) (A4:Option Addr) (n4 c4:Nat) (A5:Option Addr) (n5 c5:Nat):∀ u∈[Value.int .i64 i,.slice A1 n1 c1,.slice A2 n2 c2,.int .i64 j,.slice A3 n3 c3,.slice A4 n4 c4,.slice A5 n5 c5],u.oneCell'=true:=by
 intro u hu;simp only [List.mem_cons,List.not_mem_nil,or_false] at hu
 rcases hu with rfl | rfl | rfl | rfl | rfl | rfl | rfl <;> rfl
theorem Yaq {B3:Option Addr}{ds:List DAt}{vs:List CAt}{Me:List Txt} (h:LtM w g (.slice B1 n1 c1) (.slice B2 n2 c2) (.slice B3 n3 c3) dv vv ds vs (Yk D) Qs W m Cs cnt) (hS:Wm w R B1 n1 c1 B2 n2 c2 B3 n3 c3 D Me V) (hm:Z3 D Me V) (hCl:Cs.length=(Ye D V).length) (hc0:0≤cnt) (hc1:cnt≤1099511627776) {Ak Af:Option Addr}{nk ck nf cf:Nat}{S:Nat→Prop}{Ks:List (List Int)}{G:List Fct}
  (hK:Ux w w.heap.size Ak nk ck Ks) (hF:Tj w S Af nf cf G) (hn:nf≤1000) (hsm:∀ f∈G,Ge f) (hval:m≤2∧∀ f∈G,isVal m f.2) (hnk:nk=nf)
  (hkey:∀ (i:Nat) (f:Fct),G[i]?=some f→O9 (Yk D) Qs (Ks.getD i [])∧∀ v,Qb (Yk D) v→upB Qs (Ks.getD i []) v=kC Qs v f) :
  Calls Tryz.prog 52 #[.pointer (some ⟨g,0,none⟩),.slice Ak nk ck,.slice Af nf cf] w (Ho w Qs (Ye D V) Cs cnt G):=by
 subst hnk
 have Hlen:=hid (hF.len)
 obtain ⟨Av,cv,evv,hvl,hat⟩:=h.Ykk;subst evv
 have hfew:=Vt hm
 have hDl:D.length≤3:=by have:=hm.1.2.2.1; rw [List.length_map] at this; exact this
 have hNl:(Yk D).length≤3:=by unfold Yk; rw [List.length_map]; exact hDl
 have hsms:=S8 hm
 have HLev:=hid (Sk hm)
 have hsl1:=hS.d.1
 have hsl3:=hS.v.1
 have HVw:=hid (Jf hS.has (by omega) (by have:=hsms.v.1; omega) hsms.v.2)
 have k4:=h.c4
 have k0:=h.c0
 have k1:=h.c1
 have k2:=h.c2
 have k5:=h.c5
 have HM:=hid h
 have HK:=hid hK
 have HF:=hid hF
 have Hsm:=hid hsm
 have Hval:=hid hval
 have Hkey:=hid hkey
 have HN:=hid hNl
 have hnk2:nk≤1000:=hn
 have hwr:IntKind.i64.wrap (cnt+(nk:Int))=cnt+(nk:Int):=IntWalk.i64_in _ (by omega)
 have hcapk:=hK.cap
 obtain ⟨nv,hnv⟩ : ∃ nv,Hid ((Ye D V).length=nv):=⟨_,hid rfl⟩;rw [hnv.out] at hfew hCl
 have HCl:=hid hCl
 rw [hCl] at k4;obtain ⟨Vs,hVs⟩ : ∃ Vs,Hid (Ye D V=Vs):=⟨_,hid rfl⟩;rw [hVs.out] at hnv HVw HLev ⊢;clear h hS hm hCl hK hF hsm hval hkey hNl hsms hvl hat hsl1 hsl3 hn hDl
 by_cases hbig:1099511627776<cnt+(nk:Int)
 ·have hE:=hid (show Ho w Qs Vs Cs cnt G (.returned (.tuple #[.slice none 0 0,.int .i64 14])) w from ⟨.inl ⟨by rw [Hlen.out]; exact hbig,rfl⟩,Below.refl _ _⟩)
  go_enter Tryz.func52,Tryz.ntmps52;go_wp2_with fail;go_ret2;exact hE.out
 ·have Hbig:Hid (cnt+(G.length:Int)≤1099511627776):=hid (by rw [Hlen.out]; omega)
  go_enter Tryz.func52,Tryz.ntmps52;go_wp2_with fail;refine HVw.out.mono ?_;rintro e w1 ⟨⟨cr,rfl,hcr⟩,hB1⟩;obtain ⟨Ac,cc,rfl,hCr⟩:=hcr.form;rw [hnv.out] at hCr ⊢
  have q4:=(HM.out.below hB1).c4
  rw [HCl.out] at q4
  have HCr:=hid hCr
  have HB1:=hid hB1
  clear hcr hCr hB1 HVw;go_wp2_with fail;go_loopw [8,32] (fun al i wr=>∃ k:Nat,k≤nv∧i=.int .i64 k∧Hid (Ro wr w1.heap.size al (To Qs Vs Cs G k))∧Hid (∀ i,i<k→okV (Cs.getD i []) (X6 (kC Qs (Vs.getD i [])) Y8 G))∧Below w1.heap.size w1 wr) (fun _ i _=>nv - (intOf i).toNat)
  case atStart=>exact ⟨0,Nat.zero_le _,rfl,hid (Ro.Zj _ _),hid fun i hi=>absurd hi (by omega),Below.refl _ _⟩
  case round =>
   obtain ⟨k,hk,rfl,hO,hOk,hB⟩:=hrel
   have hBw:=HB1.out.trans (hB.mono HB1.out.size)
   by_cases hlt:k<nv
   ·have i0:(0:Int)≤(k:Int):=by omega
    have i1:(k:Int)<(nv:Int):=by omega
    obtain ⟨bc,oc,Al,nl,cl,lv,rfl,hbc,gc,hlv,hle⟩:=HCr.out.at_ hlt
    have gl:wr.cell? ⟨bc,oc+k,none⟩=some (.slice Al nl cl):=(hB.cell (p:=⟨bc,oc+k,none⟩) hbc).trans gc
    have hlvm:lv∈Vs:=by
     rw [hle.out,List.getD_eq_getElem?_getD,List.getElem?_eq_getElem (by rw [hnv.out]; exact hlt)]
     exact List.getElem_mem _
    obtain ⟨Lg,hLg⟩ : ∃ Lg,Hid (X6 (kC Qs lv) Y8 G=Lg):=⟨_,hid rfl⟩
    have hg:=Du (HM.out.below hBw) HN.out (k:Int) (((hlv.below hB (Nat.le_refl _)).more hB.size)) (HLev.out lv hlvm) ((HK.out.below hBw (Nat.le_refl _)).more hBw.size) (HF.out.mv Y1 (Mv.Yc hBw _)) hnk2 Hsm.out Hval.out rfl fun i f hi=>⟨(Hkey.out i f hi).1,(Hkey.out i f hi).2 lv (HLev.out lv hlvm)⟩
    rw [hLg.out] at hg
    have HGa:=hid hg
    have Hlv:=hid (show X6 (kC Qs (Vs.getD k [])) Y8 G=Lg by rw [← hle.out]; exact hLg.out)
    clear hg hlv gc hlvm;go_wp2_with fail;refine HGa.out.mono ?_;rintro e w5 ⟨⟨rv,rfl,hG5⟩,hB5⟩;obtain ⟨Ar,cr5,rfl⟩:=hG5.shape
    have hLl:Lg.length≤1000:=by
     have h1:=F8 (kC Qs lv) Y8 G
     rw [hLg.out] at h1
     have:=Hlen.out
     omega
    have HO5:=hid (hO.out.below hB5)
    have HB5:=hid (hB.trans (hB5.mono hB.size))
    have hlo:=HO5.out.lt
    have hlg:=hG5.lt
    have hne5:Hid (∀ q,(Value.slice Ar Lg.length cr5).ownBlock=some q→u8.ownBlock≠some q):=hid fun q h1 h2=>by
     have h3:=(hlg q h1).1
     have h4:=(hO.out.lt q h2).2
     omega
    have HG5:=hid hG5
    have Hk:=hid (show (To Qs Vs Cs G k).length≤7000 from Nat.le_trans (G0 Qs Vs Cs G k) (by rw [Hlen.out]; exact Nat.mul_le_mul (show k≤7 by omega) hnk2))
    clear hG5 hO hB hBw hB5 HGa hlo hlg;go_wp2_with fail;go_loopw [8,45] (fun al i2 w2=>∃ j:Nat,j≤Lg.length∧i2=.int .i64 j∧Hid (Ro w2 w1.heap.size al (To Qs Vs Cs G k++(O3 k (Cs.getD k []) Lg).take j))∧Hid (∀ x∈Lg.take j,(Z5 (Cs.getD k []) x.1 x.2).2=0)∧Hid (Vb w2 wr.heap.size k (.slice Ar Lg.length cr5) Lg)∧Hid (∀ q,(Value.slice Ar Lg.length cr5).ownBlock=some q→al.ownBlock≠some q)∧Below w1.heap.size w1 w2) (fun _ i2 _=>Lg.length - (intOf i2).toNat)
    case atStart=>exact ⟨0,Nat.zero_le _,rfl,hid (by rw [List.take_zero,List.append_nil]; exact HO5.out),hid fun x hx=>by simp at hx,HG5,hne5,HB5.out⟩
    case round =>
     obtain ⟨j,hj,rfl,hO,hIn,hG,hne,hB⟩:=hrel
     have hBw:=HB1.out.trans (hB.mono HB1.out.size)
     by_cases hjl:j<Lg.length
     ·obtain ⟨⟨K,M⟩,hjx⟩ : ∃ x,Hid (Lg[j]?=some x):=⟨_,hid (List.getElem?_eq_getElem hjl)⟩
      obtain ⟨gA,cA,A1,d1,e1,A2,d2,e2,ev,hgl,p0,p1,p2,p3,p4,p5,p6,_,hKo,hMo⟩:=hG.out.at_ hjx.out;injection ev with ev _ ev2
      subst ev ev2
      have hM0:M≠[]∧M.length≤1000:=by
       have h1:(K,M)∈X6 (kC Qs lv) Y8 G:=by rw [hLg.out]; exact List.mem_of_getElem? hjx.out
       obtain ⟨⟨f,hf,hfk⟩,h2⟩:=Ur.1 h1
       dsimp only at h2 hfk
       refine ⟨fun h0=>?_,?_⟩
       ·have h3:Y8 f∈Yi (kC Qs lv) Y8 G K:=by unfold Yi; exact List.mem_map.2 ⟨f,List.mem_filter.2 ⟨hf,by simp [hfk]⟩,rfl⟩
        rw [← h2,h0] at h3
        cases h3
       ·have h5:(Yi (kC Qs lv) Y8 G K).length≤G.length:=by unfold Yi; rw [List.length_map]; exact List.length_filter_le _ _
        rw [h2]
        have:=Hlen.out
        omega
      obtain ⟨AM,cM,eM,hMr⟩:=Ys.read Zh hMo;injection eM with eM1 eM2 eM3
      subst eM1 eM2 eM3;obtain ⟨ad,rfl⟩ : ∃ ad,A2=some ad:=by
       rcases A2 with _ | ad
       ·exact absurd hM0.1 (fun h=>h (List.eq_nil_of_length_eq_zero (by have:=hMr.void rfl; have:=hMr.cap; omega)))
       ·exact ⟨ad,rfl⟩
      obtain ⟨_,_,_,eK,hKi,_⟩:=hKo.Yu;injection eK with eK1 eK2 eK3
      subst eK1 eK2 eK3
      have j0:(0:Int)≤(j:Int):=by omega
      have j1:(j:Int)<(Lg.length:Int):=by omega
      have hb8:=Ya wr (.cells #[.int .i64 k,.slice A1 d1 e1,.slice (some ad) M.length e2,.int .i64 0,.slice none 0 0,.slice none 0 0,.slice none 0 0] 107)
      have hbk:=Ta wr (.int .i64 k) (.slice A1 d1 e1) (.slice (some ad) M.length e2) (.int .i64 0) (.slice none 0 0) (.slice none 0 0) (.slice none 0 0)
      have hX:=Ypn (q:=0) (A3:=none) (n3:=0) (c3:=0) (A4:=none) (n4:=0) (c4:=0) (A5:=none) (n5:=0) (c5:=0) ((HM.out.below hBw).below hb8) (show k<Cs.length by rw [HCl.out]; exact hlt) ((hKi.below hb8 (Nat.le_refl _)).more hb8.size) (hMr.mv Zh (Mv.Yc hb8 _)) hM0.2
      obtain ⟨⟨⟨n9,Su,Mi,Ma⟩,er⟩,hwp⟩ : ∃ z,Hid (Z5 (Cs.getD k []) K M=z):=⟨_,hid rfl⟩;rw [hwp.out] at hX
      have HX:=hid hX
      have HKo:=hid hKo
      have HMo:=hid hMo
      have Hb8:=hid hb8
      have c0:=hbk.cell 0
      have c1':=hbk.cell 1
      have c2':=hbk.cell 2
      have c3':=hbk.cell 3
      have c4':=hbk.cell 4
      have c5':=hbk.cell 5
      have c6':=hbk.cell 6
      have hHK:=HKo.out.lt
      clear hX hKi hMr hKo hMo hBw hb8;go_wp2_with fail;refine HX.out.mono ?_;rintro e w9 ⟨⟨v1,v2,v3,rfl,hOC⟩,hB9⟩;obtain ⟨E1,m1,f1,rfl,_,_⟩:=hOC.s.Yu;obtain ⟨E2,m2,f2,rfl,_,_⟩:=hOC.m.Yu;obtain ⟨E3,m3,f3,rfl,_,_⟩:=hOC.x.Yu
      have hbk9:=hbk.below hB9 hbk.lt
      have hb9:=Hb8.out.trans (hB9.mono Hb8.out.size)
      have HBZ:=hid ((((hb9.setCell (p:=⟨wr.heap.size,3,none⟩) (Nat.le_refl _) (.int .i64 n9)).setCell (p:=⟨wr.heap.size,4,none⟩) (Nat.le_refl _) (.slice E1 m1 f1)).setCell (p:=⟨wr.heap.size,5,none⟩) (Nat.le_refl _) (.slice E2 m2 f2)).setCell (p:=⟨wr.heap.size,6,none⟩) (Nat.le_refl _) (.slice E3 m3 f3))
      have hbZ:Block ((((w9.setCell ⟨wr.heap.size,3,none⟩ (.int .i64 n9)).setCell ⟨wr.heap.size,4,none⟩ (.slice E1 m1 f1)).setCell ⟨wr.heap.size,5,none⟩ (.slice E2 m2 f2)).setCell ⟨wr.heap.size,6,none⟩ (.slice E3 m3 f3)) wr.heap.size 107 #[.int .i64 k,.slice A1 d1 e1,.slice (some ad) M.length e2,.int .i64 n9,.slice E1 m1 f1,.slice E2 m2 f2,.slice E3 m3 f3]:=(((hbk9.Yo 3 (.int .i64 n9)).Yo 4 (.slice E1 m1 f1)).Yo 5 (.slice E2 m2 f2)).Yo 6 (.slice E3 m3 f3)
      have hlt8:wr.heap.size<(wr.alloc (.cells #[.int .i64 k,.slice A1 d1 e1,.slice (some ad) M.length e2,.int .i64 0,.slice none 0 0,.slice none 0 0,.slice none 0 0] 107)).heap.size:=by rw [World.size_alloc]; omega
      have HOC:=hid ((((hOC.Yo hlt8 3 (.int .i64 n9)).Yo hlt8 4 (.slice E1 m1 f1)).Yo hlt8 5 (.slice E2 m2 f2)).Yo hlt8 6 (.slice E3 m3 f3))
      have d3:=hbk9.cell 3
      have d4:=hbk9.cell 4
      have d5:=hbk9.cell 5
      have d6:=hbk9.cell 6
      have g3:=hbk9.free 3
      have g4:=hbk9.free 4
      have g5:=hbk9.free 5
      have g6:=hbk9.free 6
      clear hOC hB9 HX hb9 c0 c1' c2' c3' c4' c5' c6' hbk hbk9;go_upto_region 13 with fail
      generalize (((w9.setCell ⟨wr.heap.size,3,none⟩ (.int .i64 n9)).setCell ⟨wr.heap.size,4,none⟩ (.slice E1 m1 f1)).setCell ⟨wr.heap.size,5,none⟩ (.slice E2 m2 f2)).setCell ⟨wr.heap.size,6,none⟩ (.slice E3 m3 f3)=Z at HBZ hbZ HOC ⊢
      have z0:=hbZ.cell 0
      have z1:=hbZ.cell 1
      have z2:=hbZ.cell 2
      have z3:=hbZ.cell 3
      have z4:=hbZ.cell 4
      have z5:=hbZ.cell 5
      have z6:=hbZ.cell 6
      by_cases her:er=0
      ·subst her
       have hb2:=Ya Z (.cells #[.int .i64 k,.slice A1 d1 e1,.slice (some ad) M.length e2,.int .i64 n9,.slice E1 m1 f1,.slice E2 m2 f2,.slice E3 m3 f3] 107)
       have hBZ2:=HBZ.out.trans (hb2.mono HBZ.out.size)
       have HBZ2:=hid hBZ2
       have HO2:=hid (hO.out.below hBZ2)
       have HG2:=hid (hG.out.below hBZ2)
       have HC2:=hid (Pk Z [.int .i64 k,.slice A1 d1 e1,.slice (some ad) M.length e2,.int .i64 n9,.slice E1 m1 f1,.slice E2 m2 f2,.slice E3 m3 f3] 107 Z.heap.size rfl)
       have HE2:=hid (Yf1 (vw:=k) (n:=n9) HO2.out (Z8 HKo.out hBZ2) (HMo.out.kept (P:=fun _=>False) (Kept.Yz hBZ2 _) (fun _ _ h=>h) (fun _ _ h=>h)) ((show X5 _ _ _ _ _ _ _ _ from ⟨HOC.out.s.alloc _,HOC.out.m.alloc _,HOC.out.x.alloc _⟩)))
       have hl2:Hid ((To Qs Vs Cs G k++(O3 k (Cs.getD k []) Lg).take j).length≤1000000):=hid (by
        have h1:=Hk.out
        have h2:=List.length_take_le j (O3 k (Cs.getD k []) Lg)
        rw [List.length_append];omega)
       have hs2:Hid (w1.heap.size≤(Z.alloc (.cells #[.int .i64 k,.slice A1 d1 e1,.slice (some ad) M.length e2,.int .i64 n9,.slice E1 m1 f1,.slice E2 m2 f2,.slice E3 m3 f3] 107)).heap.size):=hid (Nat.le_trans hB.size hBZ2.size)
       clear hb2 hBZ2;go_wp2_with (at_builtin; refine Wq Tr rfl _ _ rfl Ydb Tryz.underlying100 rfl (by decide) w1.heap.size _ _ _ rfl HO2.out _ rfl [.int .i64 k,.slice A1 d1 e1,.slice (some ad) M.length e2,.int .i64 n9,.slice E1 m1 f1,.slice E2 m2 f2,.slice E3 m3 f3] rfl ((k,K),(M,(n9,Su,Mi,Ma))) HC2.out (Yg5 _ _ _ _ _ _ _ _ _ _ _ _ _ _ _ _ _) HE2.out hl2.out hs2.out ?_)
       intro v' w12 hO12 hG12
       have hO13:=HO2.out.app hO12 hG12
       have hG13:=HG2.out.Kk HO2.out hG12 hne.out
       have hlg:=HG2.out.lt
       have hloo:=HO2.out.lt
       have hne13:Hid (∀ q,(Value.slice (some ⟨gA,0,none⟩) Lg.length cr5).ownBlock=some q→v'.ownBlock≠some q):=hid fun q h1 h2=>by
        rcases hG12.2 q h2 with h3 | h3
        ·exact hne.out q h1 h3
        ·have:=(hlg q h1).2; omega
       have hFin:=hid (show Ro w12 w1.heap.size v' (To Qs Vs Cs G k++(O3 k (Cs.getD k []) Lg).take (j+1))∧(∀ x∈Lg.take (j+1),(Z5 (Cs.getD k []) x.1 x.2).2=0)∧Below w1.heap.size w1 w12 from
        ⟨by rw [Yja hjx.out,hwp.out]; simpa only [List.getD_eq_getElem?_getD,List.append_assoc] using hO13,fun x hx=>by
         rw [Xi hjx.out,List.mem_append,List.mem_singleton] at hx
         rcases hx with hx | rfl
         ·exact hIn.out x hx
         ·exact congrArg Prod.snd hwp.out,(hB.trans (HBZ2.out.mono hB.size)).trans (hG12.Y4 hs2.out fun q e=>(hloo q e).1)⟩)
       have HG13:=hid hG13
       clear hO12 hG12 hO13 hG13 hlg hloo HO2 HG2 HC2 HE2 z0 z1 z2 z3 z4 z5 z6 d3 d4 d5 d6 g3 g4 g5 g6 p0 p1 p2 p3 p4 p5 p6;go_wp2_with fail;go_roundw
       case rel=>exact ⟨j+1,by omega,by go_num,hid hFin.out.1,hid hFin.out.2.1,HG13,hne13,hFin.out.2.2⟩
       case measure=>simp [intOf]; omega
      ·have hFin:=hid (show Ho w Qs Vs Cs cnt G (.returned (.tuple #[.slice none 0 0,.int .i64 er])) Z from
        ⟨.inr (.inl ⟨Hbig.out,k,(K,M),by rw [hnv.out]; exact hlt,by rw [Hlv.out]; exact List.mem_of_getElem? hjx.out,by rw [hwp.out]; exact her,by rw [hwp.out]⟩),HB1.out.trans ((hB.trans (HBZ.out.mono hB.size)).mono HB1.out.size)⟩)
       clear z0 z1 z2 z3 z4 z5 z6 d3 d4 d5 d6 g3 g4 g5 g6 p0 p1 p2 p3 p4 p5 p6;go_wp2_with fail;go_ret2;exact hFin.out
     ·obtain rfl:j=Lg.length:=by omega
      have hFin:=hid (show Ro wr w1.heap.size u8 (To Qs Vs Cs G (k+1))∧(∀ i,i<k+1→okV (Cs.getD i []) (X6 (kC Qs (Vs.getD i [])) Y8 G)) from
       ⟨by
        have h1:=hO.out
        rw [List.take_of_length_le (by unfold O3; rw [List.length_map]; exact Nat.le_refl _)] at h1
        rw [Ka,Hlv.out];exact h1,fun i hi=>by
        by_cases hik:i=k
        ·subst hik
         rw [Hlv.out];intro x hx;exact hIn.out x (by rw [List.take_length]; exact hx)
        ·exact hOk.out i (by omega)⟩)
      clear hO hIn hG hne;go_wp2_with fail;go_roundw
      case rel=>exact ⟨k+1,by omega,by go_num,hid hFin.out.1,hid hFin.out.2,hB⟩
      case measure=>simp [intOf]; omega
   ·obtain rfl:k=nv:=by omega
    obtain ⟨A,c,e,hr⟩:=hO.out.Ytv
    have hFin:=hid (show Ho w Qs Vs Cs cnt G (.returned (.tuple #[u8,.int .i64 0])) wr from ⟨.inr (.inr ⟨Hbig.out,by rw [hnv.out]; exact hOk.out,A,c,by rw [hnv.out,e],by rw [hnv.out]; exact hr⟩),hBw⟩)
    clear hO hr;go_wp2_with fail;go_ret2;exact hFin.out
theorem Ypr {x:PC} (hr:Ris C) (hk:∀ e∈C,isKey W e.1) (hc:∀ e∈C,Yw m e.2) (hx:Yw m x) {i:Nat}{key:List Int}{u:PC}(h:C[i]?=some (key,u)) :
  Pg W m ((U6 C K x).take i) key (if key=K then x else u)=((U6 C K x).take (i+1),0):=by
 have hm:=List.mem_of_getElem? h
 have ha:=Ye3 (k:=K) (x:=x) hr h
 have hn:Zb ((U6 C K x).take i) key=none:=Ym7 fun j e hj he hk=>by
  have h1:=ha e (List.mem_of_getElem? he)
  rw [hk] at h1;exact absurd h1 (by rw [Wt]; decide)
 rw [Mh ⟨hk _ hm,by
  by_cases e:key=K
  ·rw [if_pos e]; exact hx
  ·rw [if_neg e]; exact hc _ hm⟩ hn,Ax ha,Ypq h]
theorem D4 {ds:List DAt}{vs:List CAt} (h:LtM w g (.slice B1 W b1) (.slice B2 m b2) X3 dv vv ds vs N Qs W m Cs cnt) (hWm:1≤W∧W≤3∧1≤m∧m≤2) {v:Nat}(hv:v<Cs.length) {q:Int}{A1 A3 A4 A5:Option Addr}{ad:Addr}{n1 c1 n2 c2 n3 c3 n4 c4 n5 c5:Nat}{K:List Int}{Sx Mx Xx:List Int}{S:Nat→Prop}(hK:Yx w w.heap.size A1 n1 c1 K) (hX:Wi w S [.int .i64 q,.slice A3 n3 c3,.slice A4 n4 c4,.slice A5 n5 c5] (q,Sx,Mx,Xx)) (hx:Yw m (q,Sx,Mx,Xx)) (hcl:∀ e∈Cs.getD v [],Yw m e.2) :
  Calls Tryz.prog 81 #[.pointer (some ⟨g,0,none⟩),.agg #[.int .i64 v,.slice A1 n1 c1,.slice (some ad) n2 c2,.int .i64 q,.slice A3 n3 c3,.slice A4 n4 c4,.slice A5 n5 c5]] w fun e w'=>(∃ p,e=.returned p∧D8 w W m (U6 (Cs.getD v []) K (q,Sx,Mx,Xx)) p w')∧Below w.heap.size w w':=by
 obtain ⟨Av,cv,evv,hvl,hat⟩:=h.Ykk;subst evv;obtain ⟨⟨gv,bw⟩,hcc⟩ : ∃ cc,Hid (vs[v]?=some cc):=⟨_,hid (List.getElem?_eq_getElem (by omega))⟩
 obtain ⟨bv,rfl,_,hbv,hcell⟩:=hat v _ hcc.out;obtain ⟨C,hCe⟩ : ∃ C,C=Cs.getD v []:=⟨_,rfl⟩
 have hCb:=h.cbs.at_ v _ hcc.out
 dsimp only at hCb hcell
 rw [← hCe] at hCb hcl ⊢;obtain ⟨E1,E2,E3,e1,e2,e3,hE3⟩ : ∃ (E1 E2 E3:List Int) (_:E1=Sx) (_:E2=Mx) (_:E3=Xx),Row Yr 1 w S A3 n3 c3 E1∧Row Yr 1 w S A4 n4 c4 E2∧Row Yr 1 w S A5 n5 c5 E3:=by
  obtain ⟨n,A1',n1',c1',A2',n2',c2',A3',n3',c3',Su,M,X,e,h1,h2,h3,ex⟩:=Tq hX;simp only [List.cons.injEq,Value.int.injEq,Value.slice.injEq,and_true,true_and] at e;obtain ⟨rfl,⟨rfl,rfl,rfl⟩,⟨rfl,rfl,rfl⟩,rfl,rfl,rfl⟩:=e;simp only [Prod.mk.injEq] at ex;obtain ⟨_,rfl,rfl,rfl⟩:=ex;exact ⟨_,_,_,rfl,rfl,rfl,h1,h2,h3⟩
 subst e1 e2 e3
 have hb0:=(Ya w (.cells #[.int .i64 v,.slice A1 n1 c1,.slice (some ad) n2 c2,.int .i64 q,.slice A3 n3 c3,.slice A4 n4 c4,.slice A5 n5 c5] 107))
 have hbl:=(Ta w (.int .i64 v) (.slice A1 n1 c1) (.slice (some ad) n2 c2) (.int .i64 q) (.slice A3 n3 c3) (.slice A4 n4 c4) (.slice A5 n5 c5))
 have hM1:=h.below hb0
 have HEm:=hid (Fq hM1.c0 hM1.c1 hWm hM1.blk.lt)
 have HM:=hid h
 have g0:=hcell
 have hcell:=hid hcell
 have hcell:=hid hcell
 have HK:=hid hK
 have HX:=hid hE3
 have HCb:=hid hCb
 have Hcl:=hid hcl
 have Hx:=hid hx
 have i0:(0:Int)≤(v:Int):=by omega
 have i1:(v:Int)<(Cs.length:Int):=by omega
 have hgl:=h.blk.lt
 clear h hat hCb hK hX hE3 hM1 hCe hcl hx;go_enter Tryz.func81,Tryz.ntmps81;go_wp2_with fail;refine HEm.out.mono ?_;rintro e w2 ⟨⟨p,rfl,gN,bN,rfl,hN,hgN,hbN⟩,hB2⟩;rw [World.size_alloc] at hgN hbN
 have hb2:=hb0.trans (hB2.mono hb0.size)
 have hbl2:=hbl.below hB2 hbl.lt
 have k0:=hbl2.cell 0
 have k4:=(HM.out.below hb2).c4
 have g2:=(hb2.cell (p:=⟨bv,v,none⟩) hbv).trans g0
 have HKe:=hid (Yn0 ((HCb.out.Yc hb2).drewN 1))
 have Hb2:=hid hb2
 have Hbl2:=hid hbl2
 have HN:=hid hN
 clear hN hB2 hbl hb0 HEm g0;obtain ⟨n,hn⟩ : ∃ n,Hid (C.length=n):=⟨_,hid rfl⟩
 have hnm:n≤68921:=by have:=HCb.out.len; rw [hn.out] at this; exact this
 go_upto_region 2 with fail
 go_cut [20,21,22] (fun s20 s21 s22 wx=>∃ (AK:Option Addr) (cK:Nat),s20=.slice AK n cK∧s21=.int .i64 n∧s22=.int .i64 0∧Hid (Row Ty 1 wx (fun k=>w2.heap.size≤k∧k<wx.heap.size) AK n cK (C.map (·.1)))∧Below w2.heap.size w2 wx)
 case first =>
  go_region_with (go_at_call 117; refine HKe.out.mono ?_; rintro e w3 ⟨vk,rfl,hO3,hB3⟩; obtain ⟨AK,cK,rfl,hRK⟩:=hO3.read Vf; have hcap3:=hRK.cap)
  all_goals
   have hF:=hid (show Row Ty 1 w3 (fun k=>w2.heap.size≤k∧k<w3.heap.size) AK n cK (C.map (·.1))∧Below w2.heap.size w2 w3 from ⟨by
    have h1:Row Ty 1 w3 (fun k=>w2.heap.size≤k∧k<w3.heap.size) AK (C.map (·.1)).length cK (C.map (·.1)):=(hRK.mv Vf (Mv.to w3 fun k hk hl=>⟨by
     rcases hk with hk | hk
     ·exact hk
     ·exact hk.1,hl⟩)).map fun us x h=>Yav h
    rw [List.length_map,hn.out] at h1;exact h1,(Sv w2).trans hB3⟩)
   clear hRK hO3;go_wp2_with fail;go_meet;exact ⟨AK,cK,by rw [← hn.out],by rw [← hn.out],rfl,hid hF.out.1,hF.out.2⟩
 case rest =>
  obtain ⟨AK,cK,rfl,rfl,rfl,HRK,hB3⟩:=hcut;obtain ⟨w3,hw3⟩ : ∃ w3,w3=wc:=⟨_,rfl⟩;subst hw3
  have hb3:=Hb2.out.trans (hB3.mono Hb2.out.size)
  have Hb3:=hid hb3
  have hz2:=Hb2.out.size
  have hz3:=hB3.size
  have HN3:=hid (HN.out.Yc hB3)
  have hw1:w.heap.size<w2.heap.size:=Hbl2.out.lt
  have hbN1:w.heap.size+1≤bN:=hbN
  have hgN1:w.heap.size+1≤gN:=hgN
  have hbN2:bN<w2.heap.size:=HN.out.map.lt
  -- while only the new cuboid and what is new is written
  have HK3:Hid (∀ y,Chg (fun k=>k=bN) w3 y→(Block y w.heap.size 107 #[.int .i64 v,.slice A1 n1 c1,.slice (some ad) n2 c2,.int .i64 q,.slice A3 n3 c3,.slice A4 n4 c4,.slice A5 n5 c5]∧y.cell? ⟨g,4,none⟩=some (.slice (some ⟨bv,0,none⟩) Cs.length cv)∧y.cell? ⟨bv,v,none⟩=some (.pointer (some ⟨gv,0,none⟩)))∧Cb y gv bw W m C∧Yx y y.heap.size A1 n1 c1 K∧Ww y y.heap.size A3 n3 c3 A4 n4 c4 A5 n5 c5 E1 E2 E3∧Below w.heap.size w y):=hid fun y hy=>by
   have hb:Below w.heap.size w y:=Hb3.out.trans (hy.below (by omega) fun k hk=>by omega)
   refine ⟨⟨((Hbl2.out.below hB3 hw1).chg hy (by omega)),(HM.out.below hb).c4,(hb.cell (p:=⟨bv,v,none⟩) hbv).trans hcell.out⟩,HCb.out.Yc hb,(HK.out.below hb (Nat.le_refl _)).more hb.size,?_,hb⟩
   have hx:=HX.out
   exact ⟨(hx.1.mv Yh (Mv.Yc hb _)).Qr,(hx.2.1.mv Yh (Mv.Yc hb _)).Qr,(hx.2.2.mv Yh (Mv.Yc hb _)).Qr⟩
  clear hb3 HM HK HX HCb Hbl2 HKe HN k0 k4 g2 hbl2 hb2 hcell;go_wp2_with fail;go_loopw [22] (fun i wr=>∃ k:Nat,k≤n∧i=.int .i64 k∧Hid (Cb wr gN bN W m ((U6 C K (q,E1,E2,E3)).take k))∧Chg (fun k=>k=bN) w3 wr) (fun i _=>n - (intOf i).toNat)
  case atStart=>exact ⟨0,Nat.zero_le _,rfl,by rw [List.take_zero]; exact HN3,Chg.refl _ _⟩
  case round =>
   obtain ⟨k,hk,rfl,hO,hB⟩:=hrel
   by_cases hlt:k<n
   ·obtain ⟨b,o,A',n',c',key,rfl,_,hbk,gk,hl,he0⟩:=(HRK.out.mv Wj (Mv.chg hB fun b hb e=>by omega)).at1 hlt
    have i2:(0:Int)≤(k:Int):=by omega
    have i3:(k:Int)<(n:Int):=by omega
    obtain ⟨⟨uq,uS,uM,uX⟩,hu⟩ : ∃ u,Hid (C[k]?=some (key,u)):=by
     have h1:=he0.out
     rw [List.getElem?_map,Option.map_eq_some_iff] at h1;obtain ⟨⟨K',u⟩,h2,rfl⟩:=h1;exact ⟨u,hid h2⟩
    obtain ⟨⟨hbx,k4,g0⟩,hCw,hKw,hXw,hBw⟩:=HK3.out wr hB
    have k0:=hbx.cell 0
    have HTp:=hid (Ypr (W:=W) (m:=m) (K:=K) (x:=(q,E1,E2,E3)) hCw.ok.ris (fun e he=>hCw.ok.key e he) Hcl.out Hx.out hu.out)
    have HGt:Hid (∀ y,Below wr.heap.size wr y→Calls Tryz.prog 111 #[.pointer (some ⟨gv,0,none⟩),.slice A' n' c'] y (Jh y (some (uq,uS,uM,uX)))):=hid fun y hy=>by
     have h1:=Ns (hCw.Yc hy) ((hl.Qr.below hy (Nat.le_refl _)).more hy.size)
     rw [Ym6 hCw.ok hu.out] at h1;exact h1
    have HKey:=hid hl.Qr
    have l1:=hbx.lt
    have l2:g<wr.heap.size:=Nat.lt_of_lt_of_le hgl hBw.size
    have l3:bv<wr.heap.size:=Nat.lt_of_lt_of_le hbv hBw.size
    clear hl hCw hKw hXw hbx;go_upto_region 5 with fail
    go_cut [8] (fun s8 wx=>∃ (gB:Nat) (D1:Option Addr) (m1 d1:Nat) (D2:Option Addr) (m2 d2:Nat) (D3:Option Addr) (m3 d3:Nat),s8=.pointer (some ⟨gB,0,none⟩)∧wr.heap.size≤gB∧Block wx gB 105 #[.int .i64 uq,.slice D1 m1 d1,.slice D2 m2 d2,.slice D3 m3 d3]∧Hid (X5 wx wr.heap.size (.slice D1 m1 d1) (.slice D2 m2 d2) (.slice D3 m3 d3) uS uM uX)∧Below wr.heap.size wr wx)
    case first =>
     go_region_law (go_simp; go_at_call 111; first
      | (refine Calls.mono (HGt.out wr.drew (Sv wr)) ?_; intro e w5 hte; obtain ⟨⟨v1,v2,v3,rfl,hOC⟩,hB5⟩:=hte.some_; obtain ⟨D1,m1,d1,rfl,_,_⟩:=hOC.s.Yu; obtain ⟨D2,m2,d2,rfl,_,_⟩:=hOC.m.Yu; obtain ⟨D3,m3,d3,rfl,_,_⟩:=hOC.x.Yu; have hC5:=(Sv wr).trans hB5)
      | (refine Calls.mono (HGt.out (wr.alloc (.cells Tw 105)).drew (Uk wr _)) ?_; intro e w5 hte; obtain ⟨⟨v1,v2,v3,rfl,hOC⟩,hB5⟩:=hte.some_; obtain ⟨D1,m1,d1,rfl,_,_⟩:=hOC.s.Yu; obtain ⟨D2,m2,d2,rfl,_,_⟩:=hOC.m.Yu; obtain ⟨D3,m3,d3,rfl,_,_⟩:=hOC.x.Yu; have hC5:=(Uk wr (.cells Tw 105)).trans (hB5.mono (Uk wr (.cells Tw 105)).size); have hZ5:Block w5 wr.heap.size 105 Tw:=((Block.new wr 105 Tw).drewN 1).below hB5 (by rw [World.size_drew,World.size_alloc]; omega); have z0:=hZ5.cell 0; have z1:=hZ5.cell 1; have z2:=hZ5.cell 2; have z3:=hZ5.cell 3; have y0:=hZ5.free 0; have y1:=hZ5.free 1; have y2:=hZ5.free 2; have y3:=hZ5.free 3))
     all_goals
      go_wp2_with fail;go_meet
      first
       | exact ⟨_,_,_,_,_,_,_,_,_,_,rfl,hC5.size,Block.new w5 _ _,hid ⟨hOC.s.alloc _,hOC.m.alloc _,hOC.x.alloc _⟩,hC5.alloc hC5.size _⟩
       | exact ⟨_,_,_,_,_,_,_,_,_,_,rfl,Nat.le_refl _,hZ5.Zy _ _ _ _,hid ((hOC.Zy (r:=wr.heap.size) (by rw [World.size_drew,World.size_alloc]; omega) _ _ _ _).low (by rw [World.size_drew,World.size_alloc]; omega)),Y0 (r:=wr.heap.size) hC5 (Nat.le_refl _) _ _ _ _⟩
    case rest =>
     obtain ⟨gB,D1,m1,d1,D2,m2,d2,D3,m3,d3,rfl,hgB,hBk,hOC,hB5⟩:=hcut
     have hBc:Chg (fun k=>k=bN) w3 wc:=hB.trans (Chg.Yz (S:=fun k=>k=bN) hB5 (Nat.le_refl _)) fun _ _ h=>h
     obtain ⟨⟨hbx,_,_⟩,_,hKc,_,_⟩:=HK3.out wc hBc
     have hkc:=((HKey.out.below hB5 (Nat.le_refl _)).more hB5.size)
     have HEq:=hid (Ft hkc hKc)
     have q1:=hbx.cell 1
     have hNc:=hO.out.Yc hB5
     have HNc:=hid hNc
     have hwrw:w3.heap.size≤wr.heap.size:=hB.size
     clear HGt k0 k4 g0 hKc hbx hkc hNc gk;go_wp2_with fail;refine HEq.out.mono ?_;rintro e w9 ⟨rfl,kk,rfl⟩
     have hbD:Below wc.heap.size wc (wc.drewN kk):=below_drewN (Below.refl _ _) kk
     generalize wc.drewN kk=wd at hbD ⊢
     have hB6:=hB5.trans (hbD.mono hB5.size)
     have hBd:Chg (fun k=>k=bN) w3 wd:=hB.trans (Chg.Yz (S:=fun k=>k=bN) hB6 (Nat.le_refl _)) fun _ _ h=>h
     have hBkd:=hBk.below hbD hBk.lt
     have hNd:=HNc.out.Yc hbD
     have hkd:=((HKey.out.below hB6 (Nat.le_refl _)).more hB6.size)
     have b0:=hBkd.cell 0
     have b1:=hBkd.cell 1
     have b2:=hBkd.cell 2
     have b3:=hBkd.cell 3
     clear q1 HEq HNc
     by_cases he:key=K
     ·have hde:decide (key=K)=true:=decide_eq_true he
      rw [hde];obtain ⟨⟨hbx,_,_⟩,_,_,_,_⟩:=HK3.out wd hBd
      have x3:=hbx.cell 3
      have x4:=hbx.cell 4
      have x5:=hbx.cell 5
      have x6:=hbx.cell 6
      have y0:=hBkd.free 0
      have y1:=hBkd.free 1
      have y2:=hBkd.free 2
      have y3:=hBkd.free 3
      have hbP:Below wr.heap.size wd ((((wd.setCell ⟨gB,0,none⟩ (.int .i64 q)).setCell ⟨gB,1,none⟩ (.slice A3 n3 c3)).setCell ⟨gB,2,none⟩ (.slice A4 n4 c4)).setCell ⟨gB,3,none⟩ (.slice A5 n5 c5)):=Y0 (r:=gB) (Below.refl wr.heap.size wd) hgB (.int .i64 q) (.slice A3 n3 c3) (.slice A4 n4 c4) (.slice A5 n5 c5)
      have hBkP:Block ((((wd.setCell ⟨gB,0,none⟩ (.int .i64 q)).setCell ⟨gB,1,none⟩ (.slice A3 n3 c3)).setCell ⟨gB,2,none⟩ (.slice A4 n4 c4)).setCell ⟨gB,3,none⟩ (.slice A5 n5 c5)) gB 105 #[.int .i64 q,.slice A3 n3 c3,.slice A4 n4 c4,.slice A5 n5 c5]:=hBkd.Zy (.int .i64 q) (.slice A3 n3 c3) (.slice A4 n4 c4) (.slice A5 n5 c5)
      have hgBd:=hBkd.lt
      clear hde hbx;go_upto_region 8 with fail
      generalize (((wd.setCell ⟨gB,0,none⟩ (.int .i64 q)).setCell ⟨gB,1,none⟩ (.slice A3 n3 c3)).setCell ⟨gB,2,none⟩ (.slice A4 n4 c4)).setCell ⟨gB,3,none⟩ (.slice A5 n5 c5)=wz at hbP hBkP ⊢
      have hBz6:=hB6.trans hbP
      have hBz:Chg (fun k=>k=bN) w3 wz:=hB.trans (Chg.Yz (S:=fun k=>k=bN) hBz6 (Nat.le_refl _)) fun _ _ h=>h
      have hNz:=hO.out.Yc hBz6
      have hkz:=((HKey.out.below hBz6 (Nat.le_refl _)).more hBz6.size)
      obtain ⟨_,_,_,hXz,_⟩:=HK3.out wz hBz
      have f0:=hBkP.cell 0
      have f1:=hBkP.cell 1
      have f2:=hBkP.cell 2
      have f3:=hBkP.cell 3
      have HAd:=hid (Nr (q:=q) hNz hkz hXz)
      clear hNz hkz hXz hNd hkd hOC x3 x4 x5 x6 y0 y1 y2 y3 b0 b1 b2 b3;go_wp2_with fail;refine HAd.out.mono ?_;rintro e w10 ⟨rfl,hC10,hg10⟩
      have hF:=hid (show Cb w10 gN bN W m ((U6 C K (q,E1,E2,E3)).take (k+1))∧Chg (fun k=>k=bN) w3 w10 from ⟨by
       have h1:=HTp.out
       rw [if_pos he] at h1;rw [h1] at hC10;exact hC10,hBz.trans (Chg.Wl (S:=fun k=>k=bN) hg10 fun k e _=>(Option.some.inj e).symm) fun _ _ h=>h⟩)
      clear hC10 hg10 HAd;go_wp2_with fail;go_roundw
      case rel=>exact ⟨k+1,by omega,by go_num,hid hF.out.1,hF.out.2⟩
      case measure=>simp [intOf]; omega
     ·have hde:decide (key=K)=false:=decide_eq_false he
      rw [hde];obtain ⟨_,_,_,_,_,_,_,_,_,h1,h2,h3,hXd⟩:=(show X5 wd wr.heap.size (.slice D1 m1 d1) (.slice D2 m2 d2) (.slice D3 m3 d3) uS uM uX from ⟨Z8 hOC.out.s hbD,Z8 hOC.out.m hbD,Z8 hOC.out.x hbD⟩).form
      injection h1 with h1 h1' h1''
      injection h2 with h2 h2' h2''
      injection h3 with h3 h3' h3''
      subst h1 h1' h1'' h2 h2' h2'' h3 h3' h3''
      have HAd:=hid (Nr (q:=uq) hNd hkd hXd)
      clear hNd hkd hXd hOC hde;go_wp2_with fail;refine HAd.out.mono ?_;rintro e w10 ⟨rfl,hC10,hg10⟩
      have hF:=hid (show Cb w10 gN bN W m ((U6 C K (q,E1,E2,E3)).take (k+1))∧Chg (fun k=>k=bN) w3 w10 from ⟨by
       have h1:=HTp.out
       rw [if_neg he] at h1;rw [h1] at hC10;exact hC10,hBd.trans (Chg.Wl (S:=fun k=>k=bN) hg10 fun k e _=>(Option.some.inj e).symm) fun _ _ h=>h⟩)
      clear hC10 hg10 HAd;go_wp2_with fail;go_roundw
      case rel=>exact ⟨k+1,by omega,by go_num,hid hF.out.1,hF.out.2⟩
      case measure=>simp [intOf]; omega
   ·obtain rfl:k=n:=by omega
    have hF:=hid (show (∃ p,Ending.returned (.pointer (some ⟨gN,0,none⟩))=.returned p∧D8 w W m (U6 C K (q,E1,E2,E3)) p wr)∧Below w.heap.size w wr from ⟨⟨_,rfl,gN,bN,rfl,by
     have h1:=hO.out
     rw [List.take_of_length_le (by unfold U6; rw [List.length_map,hn.out]; exact Nat.le_refl _)] at h1
     exact h1,by omega,by omega⟩,(HK3.out wr hB).2.2.2.2⟩)
    clear hO;go_wp2_with fail;go_ret;exact hF.out
theorem Ygu {size:Nat}{e:TypeId}{xs:List Value} (h:w.ownsRow B e size v n xs) (hv:v.ownBlock=some b) (j:Nat):w.frozen? ⟨b,j,none⟩=false:=by
 rcases h.2 with ⟨e0,_⟩ | ⟨b',cap,cur,e0,_⟩
 ·rw [e0] at hv; cases hv
 ·rw [e0] at hv h
  have e3:b'=b:=by simpa [Value.ownBlock] using hv
  subst e3;exact World.ownsRow.frozenAt h j
def Yai (w:World) (g:Nat) (X1 X2 X3 dv vv:Value) (ds:List DAt) (vs:List CAt) (N:List Nat) (Qs:List (List Pth)) (W m:Nat) (Cs:List Cub) (cnt:Int) (e:Ending) (w' : World):Prop :=
 e=.returned (.tuple #[])∧∃ vs',LtM w' g X1 X2 X3 dv vv ds vs' N Qs W m Cs cnt∧Chg (Zg g dv vv ds vs) w w'∧∀ k,Zg g dv vv ds vs' k→Zg g dv vv ds vs k∨w.heap.size≤k
theorem Ypf {ds:List DAt}{vs:List CAt} (h:LtM w g (.slice B1 W b1) (.slice B2 m b2) X3 dv vv ds vs N Qs W m Cs cnt) (hWm:1≤W∧W≤3∧1≤m∧m≤2) {v:Nat}(hv:v<Cs.length) {q:Int}{A1 A3 A4 A5:Option Addr}{ad:Addr}{n1 c1 n2 c2 n3 c3 n4 c4 n5 c5:Nat}{K:List Int}{M:List PC}{Sx Mx Xx:List Int}{S:Nat→Prop}(hK:Yx w w.heap.size A1 n1 c1 K) (hM:Row Wi 4 w S (some ad) n2 c2 M) (hn:n2≤1000) (hX:Wi w S [.int .i64 q,.slice A3 n3 c3,.slice A4 n4 c4,.slice A5 n5 c5] (q,Sx,Mx,Xx)) (hx:Yw m (q,Sx,Mx,Xx)) (hcl:∀ e∈Cs.getD v [],Yw m e.2) (hk:isKey W K) (hMc:∀ c∈M,Yw m c) (hMn:M≠[]) (hw:Z5 (Cs.getD v []) K M=((q,Sx,Mx,Xx),0)) :
  Calls Tryz.prog 53 #[.pointer (some ⟨g,0,none⟩),.agg #[.int .i64 v,.slice A1 n1 c1,.slice (some ad) n2 c2,.int .i64 q,.slice A3 n3 c3,.slice A4 n4 c4,.slice A5 n5 c5]] w (Yai w g (.slice B1 W b1) (.slice B2 m b2) X3 dv vv ds vs N Qs W m (Cs.set v (Vn (Cs.getD v []) K (q,Sx,Mx,Xx))) cnt):=by
 obtain ⟨Av,cv,evv,hvl,hat⟩:=h.Ykk;obtain ⟨Cz,hCz⟩ : ∃ Cz,Hid (Cs.set v (Vn (Cs.getD v []) K (q,Sx,Mx,Xx))=Cz):=⟨_,hid rfl⟩;rw [hCz.out];subst evv;obtain ⟨⟨gv,bw⟩,hcc⟩ : ∃ cc,Hid (vs[v]?=some cc):=⟨_,hid (List.getElem?_eq_getElem (by omega))⟩
 obtain ⟨bv,rfl,hob,hbv,hcell⟩:=hat v _ hcc.out
 have hCb:=h.cbs.at_ v _ hcc.out
 dsimp only at hCb hcell
 have hb0:=(Ya w (.cells #[.int .i64 v,.slice A1 n1 c1,.slice (some ad) n2 c2,.int .i64 q,.slice A3 n3 c3,.slice A4 n4 c4,.slice A5 n5 c5] 107))
 have hbl:=(Ta w (.int .i64 v) (.slice A1 n1 c1) (.slice (some ad) n2 c2) (.int .i64 q) (.slice A3 n3 c3) (.slice A4 n4 c4) (.slice A5 n5 c5))
 have HSm:=hid (Rc (hM.mv Zh (Mv.Yc hb0 _)).Yh3 (by omega))
 obtain ⟨⟨⟨n9,Su,Mi,Ma⟩,er⟩,hcs⟩ : ∃ z,Hid (V8 M=z):=⟨_,hid rfl⟩
 have Hadd:Hid (er=0→Pg W m (Cs.getD v []) K (n9,Su,Mi,Ma)=(Vn (Cs.getD v []) K (q,Sx,Mx,Xx),0)):=hid fun h0=>by
  have h1:=Yix (k:=K) hcl hk hMc hMn (by rw [hcs.out]; exact h0) (by rw [hw])
  rw [hcs.out,hw] at h1;exact h1
 have Htn:Hid (er≠0→U6 (Cs.getD v []) K (q,Sx,Mx,Xx)=Vn (Cs.getD v []) K (q,Sx,Mx,Xx)):=hid fun h0=>Yaf hCb.ok.ris (by
  rcases hg:Zb (Cs.getD v []) K with _ | u
  ·exfalso
   have h1:Z5 (Cs.getD v []) K M=V8 M:=by unfold Z5; rw [hg]; rfl
   rw [hw,hcs.out] at h1;injection h1 with _ h1
   exact h0 h1.symm
  ·rfl)
 rw [hcs.out] at HSm
 have HM:=hid h
 have g0:=hid hcell
 have HK:=hid hK
 have HX:=hid hX
 have HCb:=hid hCb
 have Hcl:=hid hcl
 have Hx:=hid hx
 have Hob:=hid hob
 have hgl:=h.blk.lt
 have i0:(0:Int)≤(v:Int):=by omega
 have i1:(v:Int)<(Cs.length:Int):=by omega
 have k2:=hbl.cell 2
 clear h hat hCb hK hM hX hcell hcl hx hw hMc hMn hob;go_enter Tryz.func53,Tryz.ntmps53;go_wp2_with fail;refine HSm.out.mono ?_;rintro e w3 ⟨⟨v1,v2,v3,rfl,hOC⟩,hB3⟩;obtain ⟨E1,m1,d1,rfl,_,_⟩:=hOC.s.Yu;obtain ⟨E2,m2,d2,rfl,_,_⟩:=hOC.m.Yu;obtain ⟨E3,m3,d3,rfl,_,_⟩:=hOC.x.Yu
 have hb3:=hb0.trans (hB3.mono hb0.size)
 have hb4:=hb3.trans ((Ya w3 (.cells #[.int .i64 n9,.slice E1 m1 d1,.slice E2 m2 d2,.slice E3 m3 d3] 105)).mono hb3.size)
 have hbx:=(hbl.below hB3 hbl.lt).alloc (.cells #[.int .i64 n9,.slice E1 m1 d1,.slice E2 m2 d2,.slice E3 m3 d3] 105)
 have hbc:=Block.new w3 105 #[.int .i64 n9,.slice E1 m1 d1,.slice E2 m2 d2,.slice E3 m3 d3]
 have hOc:=(show X5 (w3.alloc (.cells #[.int .i64 n9,.slice E1 m1 d1,.slice E2 m2 d2,.slice E3 m3 d3] 105)) _ _ _ _ _ _ _ from ⟨hOC.s.alloc _,hOC.m.alloc _,hOC.x.alloc _⟩)
 clear hOC hB3 HSm hb0 hbl k2 hb3;go_upto_region 2 with fail
 generalize w3.alloc (.cells #[.int .i64 n9,.slice E1 m1 d1,.slice E2 m2 d2,.slice E3 m3 d3] 105)=Y at hb4 hbx hbc hOc ⊢
 have k0:=hbx.cell 0
 have k1:=hbx.cell 1
 have k2:=hbx.cell 2
 have k3:=hbx.cell 3
 have k4:=hbx.cell 4
 have k5:=hbx.cell 5
 have k6:=hbx.cell 6
 have q0:=hbc.cell 0
 have q1:=hbc.cell 1
 have q2:=hbc.cell 2
 have q3:=hbc.cell 3
 have v4:=(HM.out.below hb4).c4
 have g4:=(hb4.cell (p:=⟨bv,v,none⟩) hbv).trans g0.out
 have hbD:Below Y.heap.size Y (Y.drewN 1):=below_drewN (Below.refl _ Y) 1
 have hbY:=hb4.trans (hbD.mono hb4.size)
 have hMD:=hid (HM.out.below hbY)
 have hzY:=hb4.size
 by_cases her:er=0
 ·subst her
  obtain ⟨_,_,_,_,_,_,_,_,_,h1,h2,h3,hXd⟩:=hOc.form;injection h1 with h1 h1' h1''
  injection h2 with h2 h2' h2''
  injection h3 with h3 h3' h3''
  subst h1 h1' h1'' h2 h2' h2'' h3 h3' h3''
  have hA:=Nr (q:=n9) (HCb.out.Yc hbY) ((HK.out.below hbY (Nat.le_refl _)).more hbY.size) (hXd.Yc hbD)
  rw [Hadd.out rfl] at hA
  have HA:=hid hA
  clear hA hXd hOc;go_wp2_with fail;go_still_tail 11,(by kernel_rfl)
  change wpList _ _ _ _ _ Y.drew
  go_wp2_with fail;refine HA.out.mono ?_;rintro e w9 ⟨rfl,hC9,hg9⟩
  ·have hch:Chg (V2 (gv,bw)) (Y.drewN 1) w9:=Chg.Wl hg9 fun k e _=>.inr (Option.some.inj e).symm
   have hF:=hid (show Yai w g (.slice B1 W b1) (.slice B2 m b2) X3 dv (.slice (some ⟨bv,0,none⟩) Cs.length cv) ds vs N Qs W m Cz cnt (.returned (.tuple #[])) w9 from
    ⟨rfl,vs,by rw [← hCz.out]; exact hMD.out.Yue hcc.out hch hC9,(Chg.Yz (S:=Zg g dv (.slice (some ⟨bv,0,none⟩) Cs.length cv) ds vs) hbY (Nat.le_refl _)).trans (hch.mono (S':=Zg g dv (.slice (some ⟨bv,0,none⟩) Cs.length cv) ds vs) fun k _ hk=>.inr (.inr (.inr (.inr ⟨_,List.mem_of_getElem? hcc.out,hk⟩)))) fun _ _ h=>h,fun k hk=>.inl hk⟩)
   clear hC9 hg9 hch HA;go_wp2_with fail;refine bodyPost_end (results_none rfl _ _ _) rfl ?_;exact hF.out
 ·have HR:=hid (D4 (ad:=ad) (n2:=n2) (c2:=c2) hMD.out hWm hv ((HK.out.below hbY (Nat.le_refl _)).more hbY.size) (Zh _ _ _ _ _ _ (Mv.Yc hbY _) HX.out) Hx.out Hcl.out)
  clear hOc;go_wp2_with fail;go_region_law (go_simp; go_at_call 81; refine HR.out.mono ?_; rintro e w9 ⟨⟨p,rfl,gN,bN,rfl,hN9,hgN,hbN⟩,hB9⟩; have hB9' : Below Y.heap.size Y w9:=hbD.trans (hB9.mono hbD.size); have hM9:=HM.out.below (hb4.trans (hB9'.mono hzY)); have v4':=hM9.c4; have k0':=(hB9'.cell (p:=⟨w.heap.size,0,none⟩) hbx.lt).trans k0; have fz:w9.frozen? ⟨bv,v,none⟩=false:=Ygu hM9.vr Hob.out v; have g4':=(hB9'.cell (p:=⟨bv,v,none⟩) (Nat.lt_of_lt_of_le hbv hzY)).trans g4)
  all_goals
   obtain ⟨hP,hf⟩:=hMD.out.Pd hB9 hcc.out Hob.out (c':=(gN,bN)) hN9 (fun k hk=>by rcases hk with rfl | rfl <;> assumption)
   rw [Htn.out her,hCz.out] at hP
   have hF:=hid (show Yai w g (.slice B1 W b1) (.slice B2 m b2) X3 dv (.slice (some ⟨bv,0,none⟩) Cs.length cv) ds vs N Qs W m Cz cnt (.returned (.tuple #[])) (w9.setCell ⟨bv,v,none⟩ (Xo gN)) from
    ⟨rfl,_,hP,((Chg.Yz (S:=Zg g dv (.slice (some ⟨bv,0,none⟩) Cs.length cv) ds vs) (hbY.trans (hB9.mono hbY.size)) (Nat.le_refl _)).Yo bv v _ fun _=>.inr (.inr (.inl Hob.out))),fun k hk=>(hf k hk).imp id fun h=>Nat.le_trans hbY.size h⟩)
   clear hP hf hN9 hM9;go_wp2_with fail;refine bodyPost_end (results_none rfl _ _ _) rfl ?_;exact hF.out
def Yl2 (w:World) (m:Nat) (κ:Fct→Zd) (G:List Fct) (e:Ending) (w' : World):Prop :=
 ((okF m κ Y8 G∧∃ A c L,e=.returned (.tuple #[.slice A L.length c,.int .i64 0])∧W7 m κ Y8 G L∧Row Sd 5 w' (fun b=>w.heap.size≤b) A L.length c L)∨(¬ okF m κ Y8 G∧e=.returned (.tuple #[.slice none 0 0,.int .i64 14])))∧Below w.heap.size w w'
theorem Mw (S:Nat→Prop) (w:World):∀ (us:List Value) (y:Zd × PC),Sd w S us y→us.length=5→∀ u∈us,u.oneCell'=true:=by
 intro us y h _ u hu;obtain ⟨A0,n0,c0,n,A1,n1,c1,A2,n2,c2,A3,n3,c3,K,Su,M,X,rfl,_⟩:=Ct h;simp at hu
 rcases hu with rfl | rfl | rfl | rfl | rfl <;> rfl
theorem Ye2 {L:List (List Txt)} (h:Ys Xr 23 1 w' w.heap.size (fun b=>w.heap.size≤b) v L):∃ A c,v=.slice A L.length c∧Row Xr 1 w' (fun b=>w.heap.size≤b∧b<w'.heap.size) A L.length c L:=by
 obtain ⟨A,c,e,hr⟩:=h.read Z2;exact ⟨A,c,e,hr.mv Z2 (Mv.to w' fun b hb hl=>⟨by
  rcases hb with hb | hb
  ·exact hb
  ·exact hb.1,hl⟩)⟩
theorem Row.Yth {α:Type}{E:ElT α}{L:List α} (h:Row E sz w S (some ⟨b,o,none⟩) n c L) {k:Nat}(hk:k≤n):Row E sz w S (some ⟨b,o+k*sz,none⟩) (n - k) (c - k) (L.drop k):=by
 obtain ⟨h0,vs,h1,h2⟩:=h
 have hcap:=h1.cap
 have hfit:=h1.fit
 have hmul:(n - k)*sz=n*sz - k*sz:=Nat.sub_mul n k sz
 refine ⟨by rw [List.length_drop,h0],vs.drop (k*sz),⟨by rw [List.length_drop,h1.len,hmul],by omega,by omega,(fun h=>by cases h),fun hn=>?_⟩,fun i y hi=>?_⟩
 ·obtain ⟨b',o',e,hb,hl,hc⟩:=h1.has (by omega)
  injection e with e
  injection e with e3 e4
  subst e3 e4;refine ⟨b,o+k*sz,rfl,hb,hl,fun j u hu=>?_⟩
  rw [List.getElem?_drop] at hu;rw [Nat.add_assoc];exact hc _ u hu
 ·rw [List.getElem?_drop] at hi
  have h3:=h2 _ y hi
  rw [List.drop_drop,show k*sz+i*sz=(k+i)*sz from (Nat.add_mul k i sz).symm]
  exact h3
theorem Row.Yt0 {α:Type}{E:ElT α}{A:Option Addr} (hc:c≤maxLen) (hA:A=none→c=0):Row E sz w S A 0 c ([] : List α) :=
 ⟨rfl,[],⟨by simp,Nat.zero_le _,hc,hA,fun h=>absurd h (by omega)⟩,fun i x h=>by simp at h⟩
theorem Yii {y:World}{L:Rws} (h:Row Sd 5 y S (some ⟨b,o,none⟩) n c L) {t:Nat}(ht:t<n):∃ A0 n0 c0 e,y.cell? ⟨b,o+t*5,none⟩=some (.slice A0 n0 c0)∧Row Xr 1 y S A0 n0 c0 (e:Zd × PC).1∧Hid (L[t]?=some e):=by
 obtain ⟨b9,o9,A0,n0,c0,x0,X1,y1,z1,X2,y2,z2,X3,y3,z3,K9,Su,M9,X9,e,_,_,k0,_,_,_,_,hK9,_,_,_,he9⟩:=h.atR ht;injection e with e
 injection e with e3 e4
 subst e3 e4;exact ⟨A0,n0,c0,_,k0,hK9,he9⟩
def Yg8 (v:Value):Nat:=match v with | .slice _ n _=>n | _=>0
theorem Yep {A3 Af Av:Option Addr}{nf cf nv cv:Nat}{G:List Fct}{v:List Int} (hG:Tj w (fun b=>b<w.heap.size) Af nf cf G) (hv:Yx w w.heap.size Av nv cv v) (hm2:m≤2) (hfit:∀ f∈G,nv≤f.1.length∧isVal m f.2∧∀ p∈f.1,p.length≤1000000) (hn:nf≤1000) (hnv:nv≤1000) :
  Calls Tryz.prog 56 #[V6 A1 n1 c1 A2 m c2 A3 n3 c3,.slice Af nf cf,.slice Av nv cv] w (Yl2 w m (kP v) G):=by
 have HGl:=hid hG.len
 have HFit:=hid hfit
 have hb1:=Ya w (.cells #[.slice A1 n1 c1,.slice A2 m c2,.slice A3 n3 c3] 26)
 have hX:=Block.new w 26 #[.slice A1 n1 c1,.slice A2 m c2,.slice A3 n3 c3]
 have KG:Hid (∀ y,Below w.heap.size w y→Tj y (fun b=>b<w.heap.size) Af nf cf G∧Yx y w.heap.size Av nv cv v):=hid fun y hy=>⟨hG.mv Y1 (Mv.below hy fun b hb=>hb),hv.below hy (Nat.le_refl _)⟩
 obtain ⟨κ,hκ⟩ : ∃ κ,kP (β:=List Int) v=κ:=⟨_,rfl⟩
 have HKe:Hid (∀ f:Fct,U1 v f.1=κ f):=hid fun f=>by rw [← hκ]; rfl
 rw [hκ];clear hG hv hfit hκ;go_enter Tryz.func56,Tryz.ntmps56;go_wp2_with fail;obtain ⟨bx,hbx⟩ : ∃ bx,w.heap.size=bx:=⟨_,rfl⟩
 have HB1:Hid (Below w.heap.size w (w.alloc (.cells #[.slice A1 n1 c1,.slice A2 m c2,.slice A3 n3 c3] 26))):=hid hb1
 have hz1:w.heap.size≤(w.alloc (.cells #[.slice A1 n1 c1,.slice A2 m c2,.slice A3 n3 c3] 26)).heap.size:=hb1.size
 clear hb1;rw [hbx] at hX ⊢;generalize w.alloc (.cells #[.slice A1 n1 c1,.slice A2 m c2,.slice A3 n3 c3] 26)=w1 at hX HB1 hz1 ⊢
 have KX:Hid (∀ y,Below w1.heap.size w1 y→y.cell? ⟨bx,1,none⟩=some (.slice A2 m c2)):=hid fun y hy=>(hX.below hy hX.lt).cell 1
 have HBx:=hid hbx
 clear hX hbx;go_loopw [9,10] (fun d i wr=>∃ k:Nat,k≤nf∧i=.int .i64 k∧Hid (Ys Sd 151 5 wr w1.heap.size (fun b=>w1.heap.size≤b) d (Vv m κ Y8 G k)∧okT m κ G k)∧Below w1.heap.size w1 wr) (fun _ i _=>nf - (intOf i).toNat)
 case atStart=>exact ⟨0,Nat.zero_le _,rfl,hid ⟨by rw [show Vv m κ Y8 G 0=[] from rfl]; exact Ys.Zj _ _ _,Yo3⟩,Below.refl _ _⟩
 case round =>
  obtain ⟨k,hk,rfl,hO,hB⟩:=hrel
  have hBw:=HB1.out.trans (hB.mono hz1)
  obtain ⟨DD,hDD⟩ : ∃ DD,Hid (Vv m κ Y8 G k=DD):=⟨_,hid rfl⟩
  have hDl:DD.length≤1000:=by rw [← hDD.out]; exact Nat.le_trans Yjl (by omega)
  have hO1:=hO.out
  rw [hDD.out] at hO1;obtain ⟨A9,c9,e9,hdone⟩:=hO1.1.read Zz;subst e9;obtain ⟨nd,hnd⟩ : ∃ nd,Hid (DD.length=nd):=⟨_,hid rfl⟩;rw [hnd.out] at hO1 hdone hDl ⊢
  have HO:=hid hO1
  have KD:Hid (∀ y,Below wr.heap.size wr y→Row Sd 5 y (fun b=>w1.heap.size≤b∧b<wr.heap.size) A9 nd c9 DD):=hid fun y hy=>hdone.mv Zz ((Mv.to wr (S':=fun b=>w1.heap.size≤b∧b<wr.heap.size) fun b hb hl=>⟨by
   rcases hb with hb | hb
   ·exact hb
   ·exact hb.1,hl⟩).trans (Mv.Yc hy _))
  have hzr:w1.heap.size≤wr.heap.size:=hB.size
  have HB:=hid hB
  have HBw:=hid hBw
  clear hO hO1 hdone hB hBw
  by_cases hlt:k<nf
  ·obtain ⟨hGr,hvr⟩:=KG.out wr HBw.out
   obtain ⟨b,o,P,np,cp,Q,nq,cq,p,q,rfl,_,_,gp,gq,hp,hq,he⟩:=hGr.at2 hlt
   have hf:nv≤p.length∧isVal m q∧∀ x∈p,x.length≤1000000:=HFit.out _ (List.mem_of_getElem? he.out)
   have i0:(0:Int)≤(k:Int):=by omega
   have i1:(k:Int)<(nf:Int):=by omega
   have hpl:=hp.len
   have hvl:=hvr.len
   have HK:=hid (E5 (Q:=Q) (nq:=nq) (cq:=cq) hp (hvr.more HBw.out.size) (by have:=hf.1; omega) hnv hf.2.2)
   have hkl:Hid ((U1 v p).length=nv):=hid (by rw [M3 (by have:=hf.1; omega)]; exact hvl)
   obtain ⟨K,hK⟩ : ∃ K,Hid (κ (p,q)=K):=⟨_,hid rfl⟩
   have hKK:Hid (U1 v p=K):=hid ((HKe.out (p,q)).trans hK.out)
   rw [hKK.out] at HK hkl;obtain ⟨wo,rfl⟩ : ∃ wo,wo=wr:=⟨_,rfl⟩;clear hGr hvr hp hq hf hpl hvl;go_wp2_with fail;refine HK.out.mono ?_;rintro e w2 ⟨vk,rfl,hOk,hb2⟩;obtain ⟨Ak,ck,rfl,hKr⟩:=Ye2 hOk;rw [hkl.out] at hKr ⊢
   have HB2:=hid hb2
   have KK:Hid (∀ y,Below w2.heap.size w2 y→Row Xr 1 y (fun b=>wo.heap.size≤b∧b<w2.heap.size) Ak nv ck K):=hid fun y hy=>hKr.mv Z2 (Mv.Yc hy _)
   have hz2:wo.heap.size≤w2.heap.size:=hb2.size
   clear hOk hKr HK hb2 gp gq;go_wp2_with fail;go_loopw [12,13] (fun h j wr=>∃ (t:Nat) (bb:Bool),t≤nd∧h=.bool bb∧j=.int .i64 t∧Below w2.heap.size w2 wr∧Hid (F9 DD K t bb)) (fun _ j _=>nd - (intOf j).toNat)
   case atStart=>exact ⟨0,false,Nat.zero_le _,rfl,rfl,Below.refl _ _,hid Yj5⟩
   case round =>
    obtain ⟨t,bb,ht,rfl,rfl,hBt,hbb⟩:=hrel
    have HBt:=hid hBt
    clear hBt
    by_cases hlt2:t<nd
    ·have j0:(0:Int)≤(t:Int):=by omega
     have j1:(t:Int)<(nd:Int):=by omega
     obtain ⟨b9,o9,A0,n0,c0,x0,X1,y1,z1,X2,y2,z2,X3,y3,z3,K9,Su,M9,X9,rfl,_,_,k0,_,_,_,_,hK9,_,_,_,he9⟩:=(KD.out wr (HB2.out.trans (HBt.out.mono hz2))).atR hlt2
     cases bb
     ·obtain ⟨x,hx⟩ : ∃ x,Hid (cmpL K9 K=x):=⟨_,hid rfl⟩
      have HC:=hid (P2 hK9 (KK.out wr HBt.out) hx)
      by_cases hx0:x=0
      ·subst hx0
       have HN:Hid (F9 DD K (t+1) true):=hid (Ync he9.out ((Od _ _).1 hx.out))
       clear hK9 he9;go_wp2_with fail;refine HC.out.mono ?_;rintro e w9 ⟨rfl,q9,rfl⟩
       have HB9:=hid (below_drewN HBt.out q9)
       clear HC;go_wp2_with fail;go_roundw
       case rel=>exact ⟨t+1,true,by omega,rfl,by go_num,HB9.out,HN⟩
       case measure=>simp [intOf]; omega
      ·have hxb:((x:Int) == 0)=false:=by simpa using hx0
       have HN:Hid (F9 DD K (t+1) false):=hid (Yqt hbb.out he9.out fun h1=>by
        have h1:K9=K:=h1
        rw [h1] at hx;exact hx0 (hx.out.symm.trans (Oc K)))
       clear hK9 he9 hx0;go_wp2_with fail;refine HC.out.mono ?_;rintro e w9 ⟨rfl,q9,rfl⟩
       have HB9:=hid (below_drewN HBt.out q9)
       clear HC;go_wp2_with fail;go_roundw
       case rel=>exact ⟨t+1,false,by omega,rfl,by go_num,HB9.out,HN⟩
       case measure=>simp [intOf]; omega
     ·have HN:Hid (F9 DD K (t+1) true):=hid (Yj4 hbb.out he9.out)
      clear hK9 he9;go_wp2_with fail;go_roundw
      case rel=>exact ⟨t+1,true,by omega,rfl,by go_num,HBt.out,HN⟩
      case measure=>simp [intOf]; omega
    ·have hin:=hbb.out
     rw [← hDD.out] at hin
     have hin:=hid (Ynb hin (by rw [hDD.out,hnd.out]; omega))
     have HB3:=hid (HB2.out.trans (HBt.out.mono hz2))
     cases bb
     ·have hnew:=hid (hin.out.2 rfl)
      obtain ⟨w3,rfl⟩ : ∃ w3,w3=wr:=⟨_,rfl⟩
      have HB3w:=hid (HBw.out.trans (HB3.out.mono HBw.out.size))
      have hz3:wo.heap.size≤w3.heap.size:=HB3.out.size
      have hzw3:w.heap.size≤w3.heap.size:=HB3w.out.size
      go_wp2_with fail;go_loopw [14,15] (fun u j wr=>∃ t:Nat,k≤t∧t≤nf∧j=.int .i64 t∧Hid (Ys Ty 27 1 wr w3.heap.size (fun b=>b<w.heap.size) u (Vw κ G K k t))∧Below w3.heap.size w3 wr) (fun _ j _=>nf - (intOf j).toNat)
      case atStart=>exact ⟨k,Nat.le_refl _,by omega,rfl,hid (by rw [Yhj]; exact Ys.Zj _ _ _),Below.refl _ _⟩
      case round =>
       obtain ⟨t,hkt,htn,rfl,hV,hBv⟩:=hrel
       have HBv:=hid hBv
       have HBvw:=hid (HB3w.out.trans (hBv.mono hzw3))
       clear hBv
       by_cases hlt3:t<nf
       ·obtain ⟨hGt,hvt⟩:=KG.out wr HBvw.out
        obtain ⟨b4,o4,P4,np4,cp4,Q4,nq4,cq4,p4,q4,e4,hb4,_,gp4,gq4,hp4,hq4,he4⟩:=hGt.at2 hlt3;injection e4 with e4
        injection e4 with e4a e4b
        subst e4a e4b
        have hf4:nv≤p4.length∧isVal m q4∧∀ x∈p4,x.length≤1000000:=HFit.out _ (List.mem_of_getElem? he4.out)
        have j0:(0:Int)≤(t:Int):=by omega
        have j1:(t:Int)<(nf:Int):=by omega
        have hpl4:=hp4.len
        have HK4:=hid (E5 (Q:=Q4) (nq:=nq4) (cq:=cq4) hp4 (hvt.more HBvw.out.size) (by have:=hf4.1; omega) hnv hf4.2.2)
        have hkl4:Hid ((U1 v p4).length=nv):=hid (by rw [M3 (by have:=hf4.1; have:=hvt.len; omega)]; exact hvt.len)
        obtain ⟨K4,hK4⟩ : ∃ K4,Hid (κ (p4,q4)=K4):=⟨_,hid rfl⟩
        have hKK4:Hid (U1 v p4=K4):=hid ((HKe.out (p4,q4)).trans hK4.out)
        rw [hKK4.out] at HK4 hkl4
        have KQ:Hid (∀ y,Below w.heap.size w y→y.cell? ⟨b,o+t*2+1,none⟩=some (.slice Q4 nq4 cq4)∧Row Yr 1 y (fun b=>b<w.heap.size) Q4 nq4 cq4 q4):=hid fun y hy=>by
         obtain ⟨b5,o5,P5,np5,cp5,Q5,nq5,cq5,p5,q5,e5,_,_,_,gq5,_,hq5,he5⟩:=(KG.out y hy).1.at2 hlt3;injection e5 with e5
         injection e5 with e5a e5b
         subst e5a e5b
         have h1:=(hy.cell (p:=⟨b,o+t*2+1,none⟩) hb4).trans ((HBvw.out.cell (p:=⟨b,o+t*2+1,none⟩) hb4).symm.trans gq4)
         rw [gq5] at h1;injection h1 with h1
         injection h1 with h2 h3 h4
         subst h2 h3 h4
         have h5:=he5.out
         rw [he4.out] at h5;injection h5 with h5
         injection h5 with _ h5
         subst h5;exact ⟨gq5,hq5⟩
        have hst:=hid (Yhi (κ:=κ) (K:=K) (i:=k) he4.out hkt)
        have hlo:=hV.out.lt
        have hlb:Hid ((Vw κ G K k t).length≤1000000):=hid (Nat.le_trans Je (by have:=HGl.out; omega))
        have hzv:w3.heap.size≤wr.heap.size:=HBv.out.size
        clear hGt hvt hp4 hq4 hf4 hpl4 he4;go_wp2_with fail;refine HK4.out.mono ?_;rintro e w5 ⟨vk4,rfl,hOk4,hb5⟩;obtain ⟨Ak4,ck4,rfl,hKr4⟩:=Ye2 hOk4;rw [hkl4.out] at hKr4 ⊢
        have HB5:=hid (HBv.out.trans (hb5.mono hzv))
        obtain ⟨x,hx⟩ : ∃ x,Hid (cmpL K4 K=x):=⟨_,hid rfl⟩
        have HC:=hid (P2 hKr4 (KK.out w5 (HBt.out.trans ((HB5.out).mono HBt.out.size))) hx)
        have HV5:=hid (hV.out.below Wj hb5)
        clear hOk4 hKr4 HK4 hb5 hV gp4 gq4
        by_cases hx0:x=0
        ·subst hx0
         have hkk:K4=K:=(Od _ _).1 hx.out
         have hst2:Hid (Vw κ G K k (t+1)=Vw κ G K k t++[q4]):=hid (by rw [hst.out,if_pos (by rw [hK4.out,hkk])])
         clear hkk;go_wp2_with fail;refine HC.out.mono ?_;rintro e w6 ⟨rfl,q6,rfl⟩
         have HB6:=hid (below_drewN HB5.out q6)
         obtain ⟨gq6,hq6⟩:=KQ.out (w5.drewN q6) (HB3w.out.trans (HB6.out.mono hzw3))
         have HO6:=hid ((HV5.out.drewN Wj q6).alloc Wj (.cells #[.slice Q4 nq4 cq4] 27))
         have HE6:Hid (Ty ((w5.drewN q6).alloc (.cells #[.slice Q4 nq4 cq4] 27)) (fun b=>b<w.heap.size∧u14.ownBlock≠some b) [.slice Q4 nq4 cq4] q4):=hid ⟨Q4,nq4,cq4,rfl,hq6.mv Yh ((Mv.alloc (w5.drewN q6) _ _).trans (Mv.to _ fun b hb _=>⟨hb,fun e=>by have:=(hlo b e).1; omega⟩))⟩
         have hB7:=HB6.out.trans ((Ya (w5.drewN q6) (.cells #[.slice Q4 nq4 cq4] 27)).mono HB6.out.size)
         have hbs:w3.heap.size≤((w5.drewN q6).alloc (.cells #[.slice Q4 nq4 cq4] 27)).heap.size:=hB7.size
         clear hq6 HC;go_wp2_with (at_builtin; refine Wq Wj rfl _ _ rfl Bb Tryz.underlying24 rfl (by decide) w3.heap.size _ u14 _ rfl HO6.out _ rfl [.slice Q4 nq4 cq4] rfl q4 (Ycj (w5.drewN q6) Q4 nq4 cq4 27 _ rfl) (Yil Q4 nq4 cq4) HE6.out hlb.out hbs ?_)
         intro v8 w8 hO8 hG8
         have hF:=hid (show Ys Ty 27 1 w8 w3.heap.size (fun b=>b<w.heap.size) v8 (Vw κ G K k (t+1))∧Below w3.heap.size w3 w8 from ⟨by rw [hst2.out]; exact hO8,hB7.trans (hG8.Y4 hbs fun j e=>(hlo j e).1)⟩)
         clear hO8 hG8 hB7;go_wp2_with fail;go_roundw
         case rel=>exact ⟨t+1,by omega,by omega,by go_num,hid hF.out.1,hF.out.2⟩
         case measure=>simp [intOf]; omega
        ·have hxb:((x:Int) == 0)=false:=by simpa using hx0
         have hst2:Hid (Vw κ G K k (t+1)=Vw κ G K k t):=hid (by
          rw [hst.out,if_neg];rw [hK4.out];intro h1;rw [h1] at hx;exact hx0 (hx.out.symm.trans (Oc K)))
         clear hx0;go_wp2_with fail;refine HC.out.mono ?_;rintro e w6 ⟨rfl,q6,rfl⟩
         have HO6:=hid (HV5.out.drewN Wj q6)
         have HB6:=hid (below_drewN HB5.out q6)
         clear HC;go_wp2_with fail;go_roundw
         case rel=>exact ⟨t+1,by omega,by omega,by go_num,hid (by rw [hst2.out]; exact HO6.out),HB6.out⟩
         case measure=>simp [intOf]; omega
       ·have htG:G.length≤t:=by have:=HGl.out; omega
        obtain ⟨Au,cu,eu,hVr⟩:=hV.out.read Wj;subst eu
        have hvl:(Vw κ G K k t).length≤1000:=Nat.le_trans Je (by have:=HGl.out; omega)
        have hfold:=Ym2 hm2 (fun f hf=>(HFit.out f hf).2.1) (by have:=HGl.out; omega) htG he.out hK.out hnew.out
        have HFo:=Yek (m:Int) hVr.Ytm hvl
        rw [hfold] at HFo;obtain ⟨nu,hnu⟩ : ∃ nu,(Vw κ G K k t).length=nu:=⟨_,rfl⟩;rw [hnu] at HFo ⊢;obtain ⟨⟨sq,sS,sM,sX⟩,hsum⟩ : ∃ z:PC,Hid (Yq m (Yi κ Y8 G K)=z):=⟨_,hid rfl⟩
        have HBw2:=hid (HB2.out.trans (HBt.out.mono hz2))
        have HBo:=hid (HB3.out.trans (HBv.out.mono hz3))
        have HB1r:=hid (HB.out.trans (HBo.out.mono hzr))
        have xm:=KX.out wr HB1r.out
        rw [hsum.out] at HFo;clear hVr hV hvl hfold hnu
        by_cases hmay:Zm (Yq m (Yi κ Y8 G K))
        ·rw [hsum.out] at hmay
         rw [if_pos hmay] at HFo
         have HFo:=hid HFo
         have hnk:κ (p,q)∉Vh κ (G.take k) []:=by rw [hK.out]; exact hnew.out
         have hdn:=Yjn (m:=m) (c:=Y8) he.out hnk
         rw [hK.out,hsum.out,hDD.out] at hdn
         have hokn:okT m κ G (k+1):=Yrf HO.out.2 he.out (by rw [hK.out,hsum.out]; exact hmay)
         have HDn:=hid (And.intro hdn hokn)
         clear hmay hnk hdn hokn;go_wp2_with fail;refine HFo.out.mono ?_;rintro e w5 ⟨⟨v1,v2,v3,rfl,hOC⟩,hb5⟩;obtain ⟨B1,d1,rfl,hR1⟩:=hOC.s.row;obtain ⟨B2,d2,rfl,hR2⟩:=hOC.m.row;obtain ⟨B3,d3,rfl,hR3⟩:=hOC.x.row;obtain ⟨m1,hm1⟩ : ∃ m1,sS.length=m1:=⟨_,rfl⟩;obtain ⟨m2,hm2'⟩ : ∃ m2,sM.length=m2:=⟨_,rfl⟩;obtain ⟨m3,hm3⟩ : ∃ m3,sX.length=m3:=⟨_,rfl⟩;rw [hm1] at hR1 ⊢;rw [hm2'] at hR2 ⊢;rw [hm3] at hR3 ⊢
         have hX5:=Block.new w5 105 #[.int .i64 sq,.slice B1 m1 d1,.slice B2 m2 d2,.slice B3 m3 d3]
         have hb6:=Ya w5 (.cells #[.int .i64 sq,.slice B1 m1 d1,.slice B2 m2 d2,.slice B3 m3 d3] 105)
         have hb7:=Ya (w5.alloc (.cells #[.int .i64 sq,.slice B1 m1 d1,.slice B2 m2 d2,.slice B3 m3 d3] 105)) (.cells #[.slice Ak nv ck,.int .i64 sq,.slice B1 m1 d1,.slice B2 m2 d2,.slice B3 m3 d3] 151)
         have hb57:=Yb hb6 hb7
         have hbr7:=Yb hb5 hb57
         have hzr5:=hbr7.size
         have HBo7:=hid (HBo.out.trans (hbr7.mono HBo.out.size))
         have HB17:=hid (HB1r.out.trans (hbr7.mono HB1r.out.size))
         have hlo:=HO.out.1.lt
         have hwo3:=HBo.out.size
         have HO7:=hid (HO.out.1.below Zz HBo7.out)
         have hKz:=KK.out _ ((HBt.out.trans (HBv.out.mono HBt.out.size)).trans (hbr7.mono (HBt.out.trans (HBv.out.mono HBt.out.size)).size))
         have hcell:∀ b,wr.heap.size≤b→w1.heap.size≤b∧(Value.slice A9 nd c9).ownBlock≠some b:=fun b hb=>⟨by omega,fun e=>by have:=(hlo b e).2; omega⟩
         have HE7:=hid (Yh0 (n:=sq) (hKz.mv Z2 (Mv.to _ (S':=fun b=>w1.heap.size≤b∧(Value.slice A9 nd c9).ownBlock≠some b) fun b hb _=>⟨by have:=hb.1; omega,fun e=>by have:=(hlo b e).2; have:=hb.1; omega⟩)) (hR1.mv Yh ((Mv.Yc hb57 _).trans (Mv.to _ fun b hb _=>hcell b hb.1))) (hR2.mv Yh ((Mv.Yc hb57 _).trans (Mv.to _ fun b hb _=>hcell b hb.1))) (hR3.mv Yh ((Mv.Yc hb57 _).trans (Mv.to _ fun b hb _=>hcell b hb.1))))
         have x0:(w5.alloc (.cells #[.int .i64 sq,.slice B1 m1 d1,.slice B2 m2 d2,.slice B3 m3 d3] 105)).cell? ⟨w5.heap.size,0,none⟩=some (.int .i64 sq):=hX5.cell 0
         have x1:(w5.alloc (.cells #[.int .i64 sq,.slice B1 m1 d1,.slice B2 m2 d2,.slice B3 m3 d3] 105)).cell? ⟨w5.heap.size,1,none⟩=some (.slice B1 m1 d1):=hX5.cell 1
         have x2:(w5.alloc (.cells #[.int .i64 sq,.slice B1 m1 d1,.slice B2 m2 d2,.slice B3 m3 d3] 105)).cell? ⟨w5.heap.size,2,none⟩=some (.slice B2 m2 d2):=hX5.cell 2
         have x3:(w5.alloc (.cells #[.int .i64 sq,.slice B1 m1 d1,.slice B2 m2 d2,.slice B3 m3 d3] 105)).cell? ⟨w5.heap.size,3,none⟩=some (.slice B3 m3 d3):=hX5.cell 3
         have hbs:w1.heap.size≤((w5.alloc (.cells #[.int .i64 sq,.slice B1 m1 d1,.slice B2 m2 d2,.slice B3 m3 d3] 105)).alloc (.cells #[.slice Ak nv ck,.int .i64 sq,.slice B1 m1 d1,.slice B2 m2 d2,.slice B3 m3 d3] 151)).heap.size:=HB17.out.size
         have hlb:Hid (DD.length≤1000000):=hid (by rw [hnd.out]; omega)
         have HC7:=hid (Pk (w5.alloc (.cells #[.int .i64 sq,.slice B1 m1 d1,.slice B2 m2 d2,.slice B3 m3 d3] 105)) [.slice Ak nv ck,.int .i64 sq,.slice B1 m1 d1,.slice B2 m2 d2,.slice B3 m3 d3] 151 (w5.heap.size+1) (by rw [World.size_alloc]))
         clear hOC hb5 hR1 hR2 hR3 hX5 hb6 hb7 hb57 hbr7 hKz hcell HFo hm1 hm2' hm3 xm;go_wp2_with (at_builtin; refine Wq Zz rfl _ _ rfl Sg Tryz.underlying74 rfl (by decide) w1.heap.size _ (.slice A9 nd c9) _ rfl HO7.out _ rfl [.slice Ak nv ck,.int .i64 sq,.slice B1 m1 d1,.slice B2 m2 d2,.slice B3 m3 d3] rfl (K,sq,sS,sM,sX) HC7.out (Ycy _ _ _ _ _ _ _ _ _ _ _ _ _) HE7.out hlb.out hbs ?_)
         intro v8 w8 hO8 hG8
         have hF:=hid (show (Ys Sd 151 5 w8 w1.heap.size (fun b=>w1.heap.size≤b) v8 (Vv m κ Y8 G (k+1))∧okT m κ G (k+1))∧Below w1.heap.size w1 w8 from ⟨⟨by rw [HDn.out.1]; exact hO8,HDn.out.2⟩,HB17.out.trans (hG8.Y4 hbs fun j e=>(hlo j e).1)⟩)
         clear hO8 hG8 x0 x1 x2 x3;go_wp2_with fail;go_roundw
         case rel=>exact ⟨k+1,by omega,by go_num,hid hF.out.1,hF.out.2⟩
         case measure=>simp [intOf]; omega
        ·rw [hsum.out] at hmay
         rw [if_neg hmay] at HFo
         have HFo:=hid HFo
         have HNo:Hid (¬ okF m κ Y8 G):=hid fun h=>hmay (by rw [← hsum.out,← hK.out]; exact h _ (List.mem_of_getElem? he.out))
         clear hmay;go_wp2_with fail;refine HFo.out.mono ?_;rintro e w5 ⟨⟨v1,v2,v3,rfl,hOC⟩,hb5⟩;obtain ⟨B1,m1,d1,rfl,_,_⟩:=hOC.s.Yu;obtain ⟨B2,m2,d2,rfl,_,_⟩:=hOC.m.Yu;obtain ⟨B3,m3,d3,rfl,_,_⟩:=hOC.x.Yu
         have HB5:=hid (HB1r.out.trans (hb5.mono HB1r.out.size))
         have HBe:=hid (HB1.out.trans ((HB5.out.trans ((Ya w5 (.cells #[.int .i64 Ym.1,.slice B1 m1 d1,.slice B2 m2 d2,.slice B3 m3 d3] 105)).mono HB5.out.size)).mono hz1))
         clear hOC hb5 HFo xm;go_wp2_with fail;go_ret2;exact ⟨.inr ⟨HNo.out,rfl⟩,HBe.out⟩
     ·have hmem:=hin.out.1 rfl
      rw [← hK.out] at hmem
      have h1:=Yjk (m:=m) (c:=Y8) he.out hmem
      have hF:=hid (show Ys Sd 151 5 wr w1.heap.size (fun b=>w1.heap.size≤b) (.slice A9 nd c9) (Vv m κ Y8 G (k+1))∧okT m κ G (k+1) from ⟨by
       rw [h1,hDD.out];exact HO.out.1.below Zz HB3.out,Yre HO.out.2 he.out hmem⟩)
      have HB4:=hid (HB.out.trans (HB3.out.mono hzr))
      clear hmem h1;go_wp2_with fail;go_roundw
      case rel=>exact ⟨k+1,by omega,by go_num,hF,HB4.out⟩
      case measure=>simp [intOf]; omega
  ·have hkG:G.length=k:=by have:=HGl.out; omega
   have HOK:=hid (Yrd HO.out.2 (by omega))
   have hDDl:DD=Vv m κ Y8 G G.length:=by rw [hkG,hDD.out]
   have HDD:=hid hDDl
   have HSel0:=hid (Sel.begin (all:=DD) (by rw [hDDl]; exact Yjo m κ Y8 G _))
   obtain ⟨wo,rfl⟩ : ∃ wo,wo=wr:=⟨_,rfl⟩
   have hD0:=hid ((KD.out wo (Below.refl _ _)).mv Zz (Mv.to wo (S':=fun b=>w.heap.size≤b∧(Value.slice none 0 0).ownBlock≠some b) fun b hb _=>⟨by have:=hb.1; omega,fun e=>by cases e⟩))
   have hzwo:w.heap.size≤wo.heap.size:=HBw.out.size
   clear hkG hDDl;go_wp2_with fail;go_loopw [8,9] (fun u d wr=>∃ (A:Option Addr) (n c:Nat) (Lo Ld:Rws),d=.slice A n c∧Hid (Ys Sd 151 5 wr wo.heap.size (fun b=>w.heap.size≤b) u Lo∧Row Sd 5 wr (fun b=>w.heap.size≤b∧u.ownBlock≠some b) A n c Ld∧Sel DD Lo Ld)∧n≤nd∧Below wo.heap.size wo wr) (fun _ d _=>Yg8 d)
   case atStart=>exact ⟨A9,nd,c9,[],DD,rfl,hid ⟨Ys.Zj _ _ _,hD0.out,HSel0.out⟩,Nat.le_refl _,Below.refl _ _⟩
   case round =>
    obtain ⟨A,n,c,Lo,Ld,rfl,HS,hnn,hBs⟩:=hrel
    have HBs:=hid hBs
    have hLd:=HS.out.2.1.len
    have hperm:=HS.out.2.2.perm.length_eq
    rw [List.length_append,hnd.out] at hperm
    have hLo:Hid (Lo.length≤1000):=hid (by omega)
    have HLdn:=hid hLd
    have hnc:=HS.out.2.1.cap
    have hcm:=HS.out.2.1.Z1
    have hcf:=hid HS.out.2.1.fit
    clear hBs hperm hLd
    by_cases hn0:0<n
    ·obtain ⟨b,o,_,_,rfl,_,_,_,_,_,_⟩:=HS.out.2.1.at_ hn0
     obtain ⟨wx,rfl⟩ : ∃ wx,wx=wr:=⟨_,rfl⟩
     have hn0' : (0:Int)<(n:Int):=by omega
     go_wp2_with fail;go_loopw [19,20] (fun l j wi=>∃ a t:Nat,l=.int .i64 a∧j=.int .i64 t∧1≤t∧t≤n∧a<n∧Hid (Qa Ld t a)∧Below wx.heap.size wx wi) (fun _ j _=>n - (intOf j).toNat)
     case atStart=>exact ⟨0,1,rfl,rfl,Nat.le_refl _,hn0,hn0,hid Ydq,Below.refl _ _⟩
     case round =>
      obtain ⟨a,t,rfl,rfl,ht1,htn,han,hle,hBi⟩:=hrel
      have HBi:=hid hBi
      have HRi:=hid (HS.out.2.1.mv Zz (Mv.Yc hBi _))
      clear hBi
      have a0:(0:Int)≤(a:Int):=by omega
      have a1:(a:Int)<(n:Int):=by omega
      by_cases hlt2:t<n
      ·obtain ⟨At,nt,ct,et,gt,hKt,het⟩:=Yii HRi.out hlt2
       obtain ⟨Aa,na,ca,ea,ga,hKa,hea⟩:=Yii HRi.out han
       have j0:(0:Int)≤(t:Int):=by omega
       have j1:(t:Int)<(n:Int):=by omega
       obtain ⟨x,hx⟩ : ∃ x,Hid (cmpL et.1 ea.1=x):=⟨_,hid rfl⟩
       have HC:=hid (fun q=>P2 (hKt.mv Z2 (Mv.drewN wr q _)) (hKa.mv Z2 (Mv.drewN wr q _)) hx)
       by_cases hx0:x<0
       ·have hxd:decide (x<0)=true:=decide_eq_true hx0
        have HL:=hid (Ya2 hle.out het.out hea.out (by unfold Z0; rw [hx.out]; exact hx0))
        clear hKt hKa het hea;go_wp2_with fail;go_quiet ((go_at_call 86; exact Calls.quiet_of (HC.out _)))
        have HB9:=hid (below_drewN HBi.out nq)
        go_wp2_with fail;go_roundw
        case rel=>exact ⟨t,t+1,rfl,by go_num,by omega,by omega,by omega,HL,HB9.out⟩
        case measure=>simp [intOf]; omega
       ·have hxd:decide (x<0)=false:=decide_eq_false hx0
        have HL:=hid (Ydp hle.out het.out hea.out (by unfold Z0; rw [hx.out]; exact hx0))
        clear hKt hKa het hea;go_wp2_with fail;go_quiet ((go_at_call 86; exact Calls.quiet_of (HC.out _)))
        have HB9:=hid (below_drewN HBi.out nq)
        go_wp2_with fail;go_roundw
        case rel=>exact ⟨a,t+1,rfl,by go_num,by omega,by omega,han,HL,HB9.out⟩
        case measure=>simp [intOf]; omega
      ·have htn' : t=n:=by omega
       subst htn';obtain ⟨b9,o9,A0,n0,c0,x0,X1,y1,z1,X2,y2,z2,X3,y3,z3,K9,Su,M9,X9,e9,_,_,k0,k1,k2,k3,k4,hK9,hS9,hM9,hX9,he9⟩:=HRi.out.atR han;injection e9 with e9
       injection e9 with e9a e9b
       subst e9a e9b
       have hmin:∀ e∈Ld,¬ Z0 e.1 K9:=Ydo (by rw [HLdn.out]; exact hle.out) he9.out
       have HSel:=hid (HS.out.2.2.step he9.out hmin)
       have hlo:=HS.out.1.lt
       have hzx:wo.heap.size≤wx.heap.size:=HBs.out.size
       have HBw9:=hid (HBs.out.trans (HBi.out.mono hzx))
       have HO7:=hid (HS.out.1.below Zz (HBi.out.trans ((Ya wr (.cells #[.slice A0 n0 c0,.int .i64 x0,.slice X1 y1 z1,.slice X2 y2 z2,.slice X3 y3 z3] 151)).mono HBi.out.size)))
       have HE7:=hid (Zz _ _ _ _ _ _ (Mv.alloc wr (.cells #[.slice A0 n0 c0,.int .i64 x0,.slice X1 y1 z1,.slice X2 y2 z2,.slice X3 y3 z3] 151) _) (Yh0 (n:=x0) hK9 hS9 hM9 hX9))
       have HC7:=hid (Pk wr [.slice A0 n0 c0,.int .i64 x0,.slice X1 y1 z1,.slice X2 y2 z2,.slice X3 y3 z3] 151 wr.heap.size rfl)
       have hb7:=HBw9.out.trans ((Ya wr (.cells #[.slice A0 n0 c0,.int .i64 x0,.slice X1 y1 z1,.slice X2 y2 z2,.slice X3 y3 z3] 151)).mono HBw9.out.size)
       have HB7:=hid hb7
       have hbs:wo.heap.size≤(wr.alloc (.cells #[.slice A0 n0 c0,.int .i64 x0,.slice X1 y1 z1,.slice X2 y2 z2,.slice X3 y3 z3] 151)).heap.size:=hb7.size
       have hlb:Hid (Lo.length≤1000000):=hid (by have:=hLo.out; omega)
       have hA1:(0:Nat)+a≤1000000:=by omega
       have HA1:Hid (([] : Rws).length+a≤1000000):=hid (by simp; omega)
       have HA2:Hid ((Ld.take a).length+(t - (a+1))≤1000000):=hid (by rw [List.length_take]; omega)
       have a2:(a:Int)+1≤(t:Int):=by omega
       have a3:(a:Int)≤(c:Int):=by omega
       clear hb7 hK9 hS9 hM9 hX9 he9 hmin;go_wp2_with (at_builtin; refine Wq Zz rfl _ _ rfl Sg Tryz.underlying74 rfl (by decide) wo.heap.size _ _ _ rfl HO7.out _ rfl [.slice A0 n0 c0,.int .i64 x0,.slice X1 y1 z1,.slice X2 y2 z2,.slice X3 y3 z3] rfl (K9,x0,Su,M9,X9) HC7.out (Ycy _ _ _ _ _ _ _ _ _ _ _ _ _) HE7.out hlb.out hbs ?_)
       intro v8 w8 hO8 hG8
       have HR8:=hid (HRi.out.mv Zz ((Mv.alloc wr (.cells #[.slice A0 n0 c0,.int .i64 x0,.slice X1 y1 z1,.slice X2 y2 z2,.slice X3 y3 z3] 151) _).trans ((Mv.Kk hG8).trans (Mv.to w8 (S':=fun b=>(w.heap.size≤b∧v8.ownBlock≠some b)∧b<w8.heap.size) fun b hb hl=>⟨hb,hl⟩))))
       have HB8:=hid (HB7.out.trans (hG8.Y4 hbs fun j e=>(hlo j e).1))
       have HO8:=hid hO8
       have hlo8:=hO8.lt
       have HD8:=hid ((HR8.out.R8 (k:=a) (by omega)).mv Zz (Mv.to w8 (S':=fun b=>(w.heap.size≤b∧v8.ownBlock≠some b)∧(Value.slice none 0 0).ownBlock≠some b) fun b hb _=>⟨hb.1,fun e=>by cases e⟩))
       have hzo:w.heap.size≤w8.heap.size:=Nat.le_trans hzwo HB8.out.size
       have hEND:∀ v w',Ys Sd 151 5 w' w8.heap.size (fun b=>w.heap.size≤b∧v8.ownBlock≠some b) v (Ld.take a++Ld.drop (a+1))→Below w8.heap.size w8 w'→∃ A n' c',v=.slice A n' c'∧Ys Sd 151 5 w' wo.heap.size (fun b=>w.heap.size≤b) v8 (Lo++[(K9,x0,Su,M9,X9)])∧Row Sd 5 w' (fun b=>w.heap.size≤b∧v8.ownBlock≠some b) A n' c' (Ld.take a++Ld.drop (a+1))∧n'<t∧Below wo.heap.size wo w':=fun v w' hO hb=>by
        obtain ⟨A,c',e,hr⟩:=hO.read Zz;refine ⟨A,_,c',e,HO8.out.below Zz hb,hr.mv Zz (Mv.to w' fun b hb' _=>?_),?_,HB8.out.trans (hb.mono HB8.out.size)⟩
        ·rcases hb' with hb' | ⟨h1,h2⟩
         ·exact hb'
         ·exact ⟨by omega,fun e'=>by have:=(hlo8 b e').2; omega⟩
        ·have h1:=HLdn.out
         rw [List.length_append,List.length_take,List.length_drop];omega
       clear hO8 hG8 k0 k1 k2 k3 k4
       by_cases hca:c=a+1
       ·subst hca
        have HT8:=hid (show Row Sd 5 w8 (fun b=>(w.heap.size≤b∧v8.ownBlock≠some b)∧b<w8.heap.size) (some ⟨b,o,none⟩) 0 0 (Ld.drop (a+1)) from (by rw [List.drop_eq_nil_of_le (show Ld.length≤a+1 by have:=HLdn.out; omega)]; exact Row.Yt0 (by omega) (fun h=>by cases h)))
        go_wp2_with (at_builtin; refine Vu Zz rfl _ _ rfl Sg Tryz.underlying74 rfl (by decide) w8.heap.size (fun b=>w.heap.size≤b∧v8.ownBlock≠some b) (.slice none 0 0) [] rfl (Ys.Zj _ _ _) ⟨b,o,none⟩ a (a+1) (Ld.take a) rfl HD8.out (fun S us y=>Mw S _ us y) HA1.out (Nat.le_refl _) ?_)
        intro v9 w9 hO9 hG9
        have hb9:Below w8.heap.size w8 w9:=hG9.Y4 (Nat.le_refl _) (fun j e=>by cases e)
        have hlo9:=hO9.lt
        have HO9:=hid (show Ys Sd 151 5 w9 w8.heap.size (fun b=>w.heap.size≤b∧v8.ownBlock≠some b) v9 (Ld.take a) from hO9)
        have HT9:=hid (HT8.out.mv Zz ((Mv.Yc hb9 _).trans (Mv.to w9 (S':=fun b=>(w.heap.size≤b∧v8.ownBlock≠some b)∧v9.ownBlock≠some b) fun b hb _=>⟨hb.1,fun e=>by have:=(hlo9 b e).1; have:=hb.2; omega⟩)))
        obtain ⟨A9',c9',e9'⟩:=hO9.shape;rw [show (Ld.take a).length=a by rw [List.length_take]; have:=HLdn.out; omega] at e9'
        subst e9'
        have HB9:=hid hb9
        clear hO9 hG9 hb9;go_wp2_with (at_builtin; refine Vu Zz rfl _ _ rfl Sg Tryz.underlying74 rfl (by decide) w8.heap.size (fun b=>w.heap.size≤b∧v8.ownBlock≠some b) (.slice A9' a c9') (Ld.take a) rfl HO9.out ⟨b,o,none⟩ 0 0 (Ld.drop (a+1)) rfl HT9.out (fun S us y=>Mw S _ us y) (Nat.le_trans (Nat.add_le_add_left (Nat.zero_le _) _) HA2.out) HB9.out.size ?_)
        intro v10 w10 hO10 hG10
        have hb10:Below w8.heap.size w8 w10:=HB9.out.trans (hG10.Y4 HB9.out.size (fun j e=>(hlo9 j e).1))
        have HEnd:=hid (hEND v10 w10 hO10 hb10)
        clear hO10 hG10 hb10;obtain ⟨A10,n10,c10,rfl⟩ : ∃ A n c,v10=.slice A n c:=by
         obtain ⟨A,n,c,e,_⟩:=HEnd.out;exact ⟨A,n,c,e⟩
        go_wp2_with fail;go_roundw
        case rel =>
         obtain ⟨A,n',c',e,h1,h2,h3,h4⟩:=HEnd.out;injection e with e1 e2 e3
         subst e1 e2 e3;exact ⟨_,_,_,_,_,rfl,hid ⟨h1,h2,HSel.out⟩,by omega,h4⟩
        case measure =>
         obtain ⟨A,n',c',e,h1,h2,h3,h4⟩:=HEnd.out;injection e with e1 e2 e3
         subst e1 e2 e3;simp only [Yg8];omega
       ·have hca2:¬ c=a+1:=hca
        have HT8:=hid (show Row Sd 5 w8 (fun b=>(w.heap.size≤b∧v8.ownBlock≠some b)∧b<w8.heap.size) (some ⟨b,o+(a+1)*5,none⟩) (t - (a+1)) (c - (a+1)) (Ld.drop (a+1)) from HR8.out.Yth (by omega))
        go_wp2_with (at_builtin; refine Vu Zz rfl _ _ rfl Sg Tryz.underlying74 rfl (by decide) w8.heap.size (fun b=>w.heap.size≤b∧v8.ownBlock≠some b) (.slice none 0 0) [] rfl (Ys.Zj _ _ _) ⟨b,o,none⟩ a c (Ld.take a) rfl HD8.out (fun S us y=>Mw S _ us y) HA1.out (Nat.le_refl _) ?_)
        intro v9 w9 hO9 hG9
        have hb9:Below w8.heap.size w8 w9:=hG9.Y4 (Nat.le_refl _) (fun j e=>by cases e)
        have hlo9:=hO9.lt
        have HO9:=hid (show Ys Sd 151 5 w9 w8.heap.size (fun b=>w.heap.size≤b∧v8.ownBlock≠some b) v9 (Ld.take a) from hO9)
        have HT9:=hid (HT8.out.mv Zz ((Mv.Yc hb9 _).trans (Mv.to w9 (S':=fun b=>(w.heap.size≤b∧v8.ownBlock≠some b)∧v9.ownBlock≠some b) fun b hb _=>⟨hb.1,fun e=>by have:=(hlo9 b e).1; have:=hb.2; omega⟩)))
        obtain ⟨A9',c9',e9'⟩:=hO9.shape;rw [show (Ld.take a).length=a by rw [List.length_take]; have:=HLdn.out; omega] at e9'
        subst e9'
        have HB9:=hid hb9
        clear hO9 hG9 hb9;go_wp2_with (at_builtin; refine Vu Zz rfl _ _ rfl Sg Tryz.underlying74 rfl (by decide) w8.heap.size (fun b=>w.heap.size≤b∧v8.ownBlock≠some b) (.slice A9' a c9') (Ld.take a) rfl HO9.out ⟨b,o+(a+1)*5,none⟩ (t - (a+1)) (c - (a+1)) (Ld.drop (a+1)) rfl HT9.out (fun S us y=>Mw S _ us y) HA2.out HB9.out.size ?_)
        intro v10 w10 hO10 hG10
        have hb10:Below w8.heap.size w8 w10:=HB9.out.trans (hG10.Y4 HB9.out.size (fun j e=>(hlo9 j e).1))
        have HEnd:=hid (hEND v10 w10 hO10 hb10)
        clear hO10 hG10 hb10;obtain ⟨A10,n10,c10,rfl⟩ : ∃ A n c,v10=.slice A n c:=by
         obtain ⟨A,n,c,e,_⟩:=HEnd.out;exact ⟨A,n,c,e⟩
        go_wp2_with fail;go_roundw
        case rel =>
         obtain ⟨A,n',c',e,h1,h2,h3,h4⟩:=HEnd.out;injection e with e1 e2 e3
         subst e1 e2 e3;exact ⟨_,_,_,_,_,rfl,hid ⟨h1,h2,HSel.out⟩,by omega,h4⟩
        case measure =>
         obtain ⟨A,n',c',e,h1,h2,h3,h4⟩:=HEnd.out;injection e with e1 e2 e3
         subst e1 e2 e3;simp only [Yg8];omega
    ·obtain rfl:Ld=[]:=List.eq_nil_of_length_eq_zero (by have:=HLdn.out; omega)
     have hsel:=HS.out.2.2
     rw [HDD.out] at hsel
     have HRw:=hid (Yfx hsel)
     obtain ⟨A5,c5,e5,hr5⟩:=HS.out.1.read Zz;subst e5
     have HR5:=hid (show Row Sd 5 wr (fun b=>w.heap.size≤b) A5 Lo.length c5 Lo from hr5.mv Zz (Mv.to wr fun b hb _=>by
      rcases hb with hb | hb
      ·exact hb
      ·omega))
     have HBe:=hid (HBw.out.trans (HBs.out.mono hzwo))
     have hn0' : ¬ (0:Int)<(n:Int):=by omega
     clear hr5 hsel;go_wp2_with fail;go_ret2;exact ⟨.inl ⟨HOK.out,A5,c5,Lo,rfl,HRw.out,HR5.out⟩,HBe.out⟩
end Go.Proofs.YtkablhecedcngaaGreat
