/- Clone, IntsB, IntsA, IntsW, Bel, Same, CloneI, Sets, Se -/
import Derived.Test.YtmepdkdeanbbaaaGreatJ2
import Derived.BigQuiet
import Derived.DeepKeys4
import Derived.Lib.SliceRun
import Derived.Maps.AppendAt
import Derived.Maps.RangeWalk
namespace Go.Proofs.YtmepdkdeanbbaaaGreat
set_option maxRecDepth 100000
set_option maxHeartbeats 8000000
open Go.RowKit
open Proofs.Tryz renaming prog→aa,underlying47→ag,underlying50→aq,ntmps91→bn,ntmps64→bo,ntmps22→bp,func91→bs,func64→bz,func22→ch
open Nat renaming le_refl→ae,zero_le→ax,le_of_eq→cj
open List renaming getElem?_eq_getElem→af,take_succ_eq_append_getElem→ai,eq_nil_of_length_eq_zero→ak,getElem?_map→ar,getD_eq_getElem?_getD→au,pairwise_iff_getElem→av,take_of_length_le→aw,nodup_append→ay,any_eq_true→az,map_cons→bj,mem_map→br
open Lib renaming run_eql_slice_nil→aj
open Maps renaming size→an,has→bg
open DataW.held renaming injEq→ao
open Go.Lib (hid)
variable {W w:World}{base n:Nat}{v:Value}{l:List Int}
theorem Ew:(aa.info? 5).map (λi=>(i.zero,i.size,i.bytes))=some (some (.int .u8 0),1,1):=by kernel_rfl
theorem Zc.empty(w:World)(e:TypeId):Zc (w.alloc (.cells #[] e)) w.heap.size e (.slice (some ⟨w.heap.size,0,none⟩) 0 0) []:=
 ⟨rfl,.inr ⟨w.heap.size,0,#[],rfl,ae _,heap_alloc_new w _,ae _,ax _,rfl,rfl⟩⟩
theorem Ycz(A:Option Addr)(n c:Nat)(l:List UInt8)(w:World)(hr:Xo w w.heap.size A n c l)(hn:n<=140737488355328):
  Calls aa 64 #[.slice A n c] w λx w'=>(∃v',x=.returned v'∧Zc w' w.heap.size 5 v' l)/\Below w.heap.size w w':=by
 obtain⟨i0,hi,hz0,hz1,hz2⟩:=info_parts Ew
 rcases A with _|ad
 ·obtain rfl:=hr.void rfl
  obtain rfl:n=0:=by have:=hr.cap;omega
  obtain rfl:l=[]:=ak hr.len
  have q:∀W,(binOp .eql 50 (.slice none 0 0) (.slice none 0 0)).run aa W=.ok (.bool true) W:=λW=>aj W _ _ none 0 0 0 0 aq
  go_enter bz,bo;go_wp2;go_ret;exact⟨⟨_,rfl,Zc.Zj _ _ _⟩,Below.refl _ _⟩
 ·have q:∀W,(binOp .eql 50 (.slice (some ad) n c) (.slice none 0 0)).run aa W=.ok (.bool false) W:=λW=>aj W _ _ (some ad) n c 0 0 aq
  have hr1:=hr.alloc (ae _) (.cells #[] 5)
  have Hn:=hid hn
  clear hn;go_enter bz,bo;go_wp2_with (at_builtin;refine Vd _ rfl _ _ 50 rfl w.heap.size 5 i0 (.int .u8 0) aq hi hz0 hz1 hz2 rfl _ [] rfl (Zc.empty w 5) w.heap.size _ n _ l rfl hr1 (by simpa using Hn.out) (by simp) ?_)
  intro v2 w2 ho2 hg2
  have hb2:Below w.heap.size w w2:=((Below.refl _ _).alloc (ae _) (.cells #[] 5)).trans (hg2.Yw (by simp) (λk hk=>by injection hk with hk;subst hk;exact ae _))
  have H:=hid ho2
  clear ho2 hg2;go_wp2;go_ret;exact⟨⟨v2,rfl,H.out⟩,hb2⟩
section
theorem Yo{w:World}{ops:Array Oper}{rest:List Oper}{o:Oper}{a:Act}{Q:Exit->Act->World->Prop}(hgd:o.guard=none)(s x:Operand)
  (ho:o.op=.call {callee:=.builtin .append,args:=#[s,x],argTypes:=#[47,47]})
  (base:Nat) (v:Value) (l:List Int) (hs:a.eval s=v) (hown:Yi w base v l) (g:Nat) (hx:a.eval x=.slice (some ⟨g,0,none⟩) 1 1) (y:Int) (hy:w.cell? ⟨g,0,none⟩=some (.int .i64 y)) (hl:l.length<=1000000) (hbase:base<=w.heap.size)
  (h:∀v' w',Yi w' base v' (l++[y])->Zl w v w' v'→wpList aa ops Q rest (a.put o.dst v') w'):wpList aa ops Q (o::rest) a w:=by
 obtain⟨i,hi,hz0,hz1,hz2⟩:=info_parts Rx;refine wpList_append_own_at w hgd s x 47 ho base 3 i _ 1 8 ag hi hz0 hz1 hz2 rfl (by decide) v l.length (l.map X6) hs hown ⟨g,0,none⟩ 1 1 [.int .i64 y] hx rfl (λj u hj=>?_) (λu hu=>?_) (by unfold maxLen;omega) (by omega) hbase ?_
 ·match j,hj with
  |0,hj=>simp at hj;subst hj;rw[Yu];exact hy
  |(j+1),hj=>simp at hj
 ·simp at hu;subst hu;rfl
 ·intro v' w' h1 h2 _ h4
  refine h v' w' (by unfold Yi;simpa[X6]using h1) ⟨h2,λk hk=>?_⟩
  rcases h4 with h4|h4
  ·exact .inl (h4▸hk)
  ·rw[h4]at hk
   injection hk with hk
   exact .inr (cj hk)
theorem Y6(w:World)(y:Int)(t:TypeId)(g:Nat)(hg:g=w.heap.size):(w.alloc (.cells #[.int .i64 y] t)).cell? ⟨g,0,none⟩=some (.int .i64 y):=by
 subst hg;rw[Zq];rfl
section
variable {w w' : World}{base:Nat}{v:Value}{l:List Int}
theorem Yi.len_{A:Option Addr}{n cap:Nat}(h:Yi w base (.slice A n cap) l):l.length=n:=by
 obtain⟨A',c',e',_⟩:=h.form;injection e' with _ e2 _
 exact e2.symm
theorem Yi.Yb8{g n cap:Nat}(h:Yi w base (.slice (some ⟨g,0,none⟩) n cap) l)(j:Nat)(hj:j<l.length):w.cell? ⟨g,j,none⟩=some (.int .i64 (l.getD j 0)):=by
 have hc:=World.ownsRow.cells h (g:=g) rfl j (X6 (l.getD j 0)) (by simp[ar,au,af hj])
 rwa [Yu,Nat.zero_add]at hc
theorem Yi.free{g n cap:Nat}(h:Yi w base (.slice (some ⟨g,0,none⟩) n cap) l)(j:Nat):w.frozen? ⟨g,j,none⟩=false:=by
 have hn:=h.len_
 unfold Yi at h;rw[hn]at h;exact World.ownsRow.frozenAt h j
theorem Yi.Ys{g n cap:Nat}(h:Yi w base (.slice (some ⟨g,0,none⟩) n cap) l)(j:Nat)(u:Int):Yi (w.setCell ⟨g,j,none⟩ (.int .i64 u)) base (.slice (some ⟨g,0,none⟩) n cap) (l.set j u):=by
 have hn:=h.len_
 unfold Yi at h⊢;rw[List.length_set,List.map_set,hn];rw[hn]at h;exact(World.ownsRow.stored h j (X6 u)).1
theorem Yi.other(h:Yi w base v l){g j:Nat}(hg:v.ownBlock≠some g)(u:Value):Yi (w.setCell ⟨g,j,none⟩ u) base v l:=ownsRow_setCell_other h (a:=⟨g,j,none⟩) hg u
theorem Yi.has{A:Option Addr}{n c:Nat}(h:Yi w base (.slice A n c) l):Y2 w w.heap.size A n c l:=by
 obtain⟨A',n',c',e',h',_⟩:=h.Yr;injection e' with e1 e2 e3
 subst e1 e2 e3;exact h'
end
theorem Yi.Ybi(h:Yi w base v l)(hl:0<l.length):
  ∃g c,v=.slice (some ⟨g,0,none⟩) l.length c/\base<=g/\g<w.heap.size/\l.length<=c/\c<=9223372036854775807/\∀j,j<l.length->w.cell? ⟨g,j,none⟩=some (.int .i64 (l.getD j 0)):=by
 rcases h.2 with⟨_,h0⟩|⟨g,cap,cur,rfl,hb,hg,hnc,hcm,_⟩
 ·omega
 ·exact⟨g,cap,rfl,hb,(Array.getElem?_eq_some_iff.1 hg).1,hnc,by unfold maxLen at hcm;omega,λj hj=>h.Yb8 j hj⟩
theorem Ov{w:World}{ops:Array Oper}{rest:List Oper}{o:Oper}{a:Act}{Q:Exit->Act->World->Prop}(hgd:o.guard=none)(s x:Operand)
  (ho:o.op=.call {callee:=.builtin .append,args:=#[s,x],argTypes:=#[47,47]})
  (base:Nat) (v:Value) (l:List Int) (hs:a.eval s=v) (hown:Yi w base v l) (B:Nat) (A:Option Addr) (m c:Nat) (news:List Int) (hx:a.eval x=.slice A m c) (hr:Y2 w B A m c news) (hbytes:(l.length+m)*8<=140737488355328) (hbase:base<=w.heap.size)
  (h:∀v' w',Yi w' base v' (l++news)->Zl w v w' v'→wpList aa ops Q rest (a.put o.dst v') w'):wpList aa ops Q (o::rest) a w:=by
 obtain⟨i,hi,hz0,hz1,hz2⟩:=info_parts Rx
 have hml:=hr.len
 have hmap:(l++news).map X6=l.map X6++news.map X6:=List.map_append
 have key:∃v' w',(Builtin.append_ #[47,47] o.type #[v,.slice A m c]).run aa w=.ok v' w'∧Yi w' base v' (l++news)/\Zl w v w' v':=by
  rcases A with _|ad
  ·obtain rfl:=hr.void rfl
   have hc:=hr.cap
   obtain rfl:m=0:=by omega
   obtain rfl:news=[]:=ak hml;exact⟨v,w,run_append_owned_none (P:=aa) (w:=w) base 47 o.type 3 i 1 ag hi v l.length (l.map X6) hown,by rw[List.append_nil];exact hown,Zl.refl w v⟩
  ·have hcells:∀j u,(news.map X6)[j]?=some u->w.cell? (ad.add j)=some u:=by
    intro j u hu
    have hj:j<(news.map X6).length:=by
     rcases Nat.lt_or_ge j (news.map X6).length with h1|h1
     ·exact h1
     ·rw[List.getElem?_eq_none h1]at hu;cases hu
    obtain⟨b,o',e',_,hc⟩:=hr.has (by omega)
    injection e' with e'
    subst e';rw[Yu];exact hc j u hu
   obtain⟨v',w',h1,h2,h3,_,h5⟩:=run_append_own_at (P:=aa) w base 47 o.type 3 i _ 1 8 ag hi hz0 hz1 hz2 rfl (by decide) v l.length (l.map X6) hown ad m c (news.map X6) (by simp[hml]) hcells (Qv news) (by unfold maxLen;omega) (by omega) hbase
   refine⟨v',w',h1,by unfold Yi;rw[hmap,List.length_append,hml];exact h2,h3,λk hk=>?_⟩
   rcases h5 with h5|h5
   ·exact .inl (h5▸hk)
   ·rw[h5]at hk
    injection hk with hk
    exact .inr (cj hk)
 obtain⟨v',w',hrun,h2,h3⟩:=key;refine wpList_plain hgd λK hK=>?_
 unfold Oper.wp execOp;simp only[ho,resolve,invoke,builtin,Sem.run_bind,Sem.run_pure,Result.andThen_ok,List.map_toArray,bj,List.map_nil,hs,hx,hrun];exact hK _ _ (h v' w' h2 h3)
theorem Yi.Wt{s:Nat}{T:TypeId}{cs:Array Value}(h:Yi w base v l)(hb:Block w s T cs)(hT:T≠3):v.ownBlock≠some s:=by
 rcases h.2 with⟨rfl,_⟩|⟨g,cap,cur,rfl,_,hg,_⟩
 ·intro e;cases e
 ·intro e
  simp only[Value.ownBlock,Option.some.injEq]at e;subst e
  have hb:w.heap[g]?=some (.cells cs T (0,0)):=hb
  rw[hg]at hb;simp only[Option.some.injEq,Obj.cells.injEq]at hb;exact hT hb.2.1.symm
end
theorem J1{base g n cap:Nat}: ∀(ys:List Int) (o:Nat) (l:List Int) (w:World),o+ys.length<=l.length->Yi w base (.slice (some ⟨g,0,none⟩) n cap) l→
  Yi (w.setCells g o (ys.map (Value.int .i64))) base (.slice (some ⟨g,0,none⟩) n cap) (l.take o++ys++l.drop (o+ys.length))
 |[],o,l,w,_,h=>by simpa[World.setCells]using h
 |y::r,o,l,w,hl,h=>by
  have hl':o+1+r.length<=(l.set o y).length:=by simp at hl⊢;omega
  have h2:=J1 r (o+1) (l.set o y) (w.setCell ⟨g,o,none⟩ (.int .i64 y)) hl' (h.Ys o y)
  simp only[bj,World.setCells]
  have hol:o<l.length:=by simp at hl;omega
  have e:(l.set o y).take (o+1)++r++(l.set o y).drop (o+1+r.length)=l.take o++(y::r)++l.drop (o+(y::r).length):=by
   rw[List.drop_set_of_lt (by omega),ai (by simpa using hol)]
   simp[Nat.add_assoc,Nat.add_comm 1,List.take_set_of_le]
  rwa [e]at h2
theorem Ny(g:Nat):∀(ys:List Value) (o:Nat) (w:World),w.grownBy (w.setCells g o ys) (some g)
 |[],o,w=>World.grownBy.refl w _
 |y::r,o,w=>by
  have h1:w.grownBy (w.setCell ⟨g,o,none⟩ y) (some g):=⟨rfl,rfl,rfl,by simp[World.setCell],λk _ hk=>by
   simp[World.setCell,Array.getElem?_modify];intro e;exact absurd (congrArg some e.symm) hk⟩
  exact Vm h1 (Ny g r (o+1) _) (λk hk=>.inl hk)
/-! ### A region that draws its order,reads,and calls what only makes memory: one walk -/
structure Bel (W:World) where
 w:World
 b:Below W.heap.size W w
instance (W:World):Nonempty (Bel W):=⟨⟨W,Below.refl _ _⟩⟩
theorem Xl{P:Program}{id:Nat}{Q:Exit->Act->World->Prop}{a:Act}{l:List Oper}(hm:P.follows .mixedOrders=true)(hB:Region.lexB .any l.toArray=true)
  (h:wpQuiet P l.toArray (λw'=>∃y:Bel W,w'=y.w) (λa'=>∀w',(∃y:Bel W,w'=y.w)->Q .normal a' w') l a):(Code.region id l.toArray true).wp P Q a W:=
 wp_region_quiet (C:=λw'=>∃y:Bel W,w'=y.w) hm hB ⟨⟨_,Below.drew (Below.refl _ _)⟩,rfl⟩ (by simpa using h)
theorem Bel.cell(y:Bel W){b o:Nat}{v:Value}(h:W.cell? ⟨b,o,none⟩=some v):y.w.cell? ⟨b,o,none⟩=some v:=
 (y.b.cell (p:=⟨b,o,none⟩) (World.block_lt_of_cell? W _ h)).trans h
theorem Bel.calls{P:Program}{f:FuncId}{args:Array Value}(y:Bel W)(h:∀w,Below W.heap.size W w->Calls P f args w λe w'=>e=.returned v/\Below w.heap.size w w'):
  Calls P f args y.w λe w''=>e=.returned v/\∃z:Bel W,w''=z.w:=
 (h y.w y.b).mono λ_ w' ⟨he,hb⟩=>⟨he,⟨w',Ya y.b hb⟩,rfl⟩
theorem Yn9{l l':List UInt8}{k:Nat}(h:l.take k=l'.take k)(hk:k<l.length)(hk':k<l'.length)(e:(l.getD k 0).toNat=(l'.getD k 0).toNat):l.take (k+1)=l'.take (k+1):=by
 rw[ai hk,ai hk',h]
 have e':=UInt8.toNat_inj.1 e
 simp only[au,af hk,af hk',Option.getD_some]at e';rw[e']
theorem Yps(A A':Option Addr)(n c n' c':Nat)(l l':List UInt8)(w:World)(B B':Nat)(hr:Xo w B A n c l)(hr':Xo w B' A' n' c' l'):
  Calls aa 22 #[.slice A n c,.slice A' n' c'] w λe w'=>e=.returned (.bool (l==l'))/\∃k,w'=w.drewN k:=by
 have hn:=hr.Ym
 have hll:=hr.len
 have hll':=hr'.len
 by_cases h:n=n'
 ·subst h
  have hne:((n:Int) != (n:Int))=false:=by simp
  go_enter ch,bp;go_wp2;clear hne;go_loopw [5] (λi wr=>∃k q:Nat,k<=n/\i=.int .i64 k/\wr=w.drewN q/\Hid (l.take k=l'.take k)) (λi _=>n-(intOf i).toNat)
  case atStart=>exact⟨0,0,ax _,rfl,rfl,rfl⟩
  case round=>
   obtain⟨k,q,hk,rfl,rfl,ht⟩:=hrel
   by_cases hlt:k<n
   ·obtain⟨b,o,x,rfl,hb,hc,hx,ex⟩:=hr.at_ hlt
    obtain⟨b',o',x',rfl,hb',hc',hx',ex'⟩:=hr'.at_ hlt
    by_cases hxx:x=x'
    ·subst hxx
     have hxn:((x:Int) != (x:Int))=false:=by simp
     have H:Hid (l.take (k+1)=l'.take (k+1)):=hid (Yn9 ht.out (by omega) (by omega) (ex.out.symm.trans ex'.out))
     go_wp2;go_quiet (fail);go_wp2;go_roundw
     case rel=>exact⟨k+1,q+nq,by omega,by go_num,rfl,H⟩
     case measure=>simp[intOf];omega
    ·have hxn:((x:Int) != (x':Int))=true:=by simp;omega
     have H:Hid ((l==l')=false):=hid (by
      simp only[beq_eq_false_iff_ne,ne_eq];rintro rfl;exact hxx (ex.out.trans ex'.out.symm))
     go_wp2;go_quiet (fail);go_wp2;go_ret;exact⟨Yd (by rw[H.out]),q+nq,World.drewN_drewN _ _ _⟩
   ·have H:Hid ((l==l')=true):=hid (by
     have h1:=ht.out
     rw[aw (by omega),aw (by omega)]at h1
     simp[h1])
    go_wp2;go_ret;exact⟨Yd (by rw[H.out]),q,rfl⟩
 ·have H:Hid ((l==l')=false):=hid (by simp;intro e;subst e;omega)
  have hne:((n:Int) != (n':Int))=true:=by simp;omega
  go_enter ch,bp;go_wp2;go_ret;exact⟨Yd (by rw[H.out]),0,rfl⟩
def Yly(w:World)(l:List Int)(e:Ending)(w':World):Prop:=(∃v,e=.returned v/\Yi w' w.heap.size v l)/\Below w.heap.size w w'
theorem Yi.empty(w:World):Yi (w.alloc (.cells #[] 3)) w.heap.size (.slice (some ⟨w.heap.size,0,none⟩) 0 0) []:=
 ⟨rfl,.inr ⟨w.heap.size,0,#[],rfl,ae _,heap_alloc_new w _,ae _,ax _,rfl,rfl⟩⟩
theorem Tn{A:Option Addr}{c:Nat}(hr:Y2 w w.heap.size A n c l)(hn:n<=1000000):
  Calls aa 91 #[.slice A n c] w (Yly w l):=by
 rcases A with _|ad
 ·obtain rfl:=hr.void rfl
  obtain rfl:n=0:=by have:=hr.cap;omega
  obtain rfl:l=[]:=ak hr.len
  have q:∀W,(binOp .eql 47 (.slice none 0 0) (.slice none 0 0)).run aa W=.ok (.bool true) W:=λW=>aj W _ _ none 0 0 0 0 ag
  go_enter bs,bn;go_wp2;go_ret;exact⟨⟨_,rfl,Yi.Zj _ _⟩,Below.refl _ _⟩
 ·have q:∀W,(binOp .eql 47 (.slice (some ad) n c) (.slice none 0 0)).run aa W=.ok (.bool false) W:=λW=>aj W _ _ (some ad) n c 0 0 ag
  have hr1:=hr.alloc (ae _) (.cells #[] 3)
  have Hn:=hid (show(([]:List Int).length+n)*8<=140737488355328 by simp;omega)
  clear hn;go_enter bs,bn;go_wp2_with (at_builtin;refine Ov rfl _ _ rfl w.heap.size _ [] rfl (Yi.empty w) w.heap.size _ n _ l rfl hr1 Hn.out (by simp) ?_)
  intro v2 w2 ho2 hg2
  have hb2:Below w.heap.size w w2:=((Below.refl _ _).alloc (ae _) (.cells #[] 3)).trans (hg2.Yw (by simp) (λk hk=>by injection hk with hk;subst hk;exact ae _))
  have H:=hid ho2
  clear ho2 hg2;go_wp2;go_ret;exact⟨⟨v2,rfl,H.out⟩,hb2⟩
section
open Go.RowKit Go.Maps
theorem fold_add:∀(ks acc:List Lit),(∀x∈ks,WideAt.IsKeyLit x)->acc.Nodup→
  (ks.foldl addKey acc).length<=acc.length+ks.length/\((ks.foldl addKey acc).length=acc.length+ks.length↔(acc++ks).Nodup)
 |[],acc,_,h=>by simpa using h
 |x::r,acc,hk,h=>by
  have hx:=hk x (by simp)
  have hr:∀y∈r,WideAt.IsKeyLit y:=λy hy=>hk y (List.mem_cons_of_mem _ hy)
  rw[List.foldl_cons]
  by_cases hm:x∈acc
  ·have e:addKey acc x=acc:=by
    unfold addKey;rw[if_pos];exact az.2 ⟨x,hm,WideAt.sameKey_self hx⟩
   rw[e]
   have ih:=(fold_add r acc hr h).1
   refine⟨by simp;omega,λh'=>?_,λh'=>?_⟩
   ·simp at h';omega
   ·exact absurd hm (λhm=>by
     have:=(ay.1 h').2.2 x hm x (by simp)
     exact this rfl)
  ·have e:addKey acc x=acc++[x]:=by
    unfold addKey;rw[if_neg];intro h';obtain⟨y,hy,hs⟩:=az.1 h';exact hm (WideAt.sameKey_eq hs▸hy)
   rw[e]
   have hn:(acc++[x]).Nodup:=ay.2 ⟨h,by simp,λa ha b hb=>by
    simp at hb;subst hb;intro e;exact hm (e▸ha)⟩
   have ih:=fold_add r (acc++[x]) hr hn
   have e1:(acc++[x]).length+r.length=acc.length+(x::r).length:=by simp;omega
   have e2:acc++[x]++r=acc++x::r:=by simp
   rw[e1,e2]at ih;exact ih
def P1(w:World)(K:TypeId)(b:Nat)(vs:List Value):Prop:=
 ∃(n:Nat) (ks:List Lit),n<=vs.length/\vs.map (keyOf aa K)=ks.map some/\w.ownsMap aa K (unitElem (H:=Unit)) b n (setOf (.agg []) ks)
section
variable {w w' : World}{K:TypeId}{b:Nat}{vs:List Value}
theorem P1.made(w:World)(K:TypeId):P1 (w.alloc (.map #[] 0)) K w.heap.size []:=⟨0,[],ae _,rfl,World.ownsMap_made _ _ _ _⟩
theorem P1.kept{row:Option Nat}(h:P1 w K b vs)(hg:w.grownBy w' row)(hne:some b≠row):P1 w' K b vs:=by
 obtain⟨n,ks,h1,h2,h3⟩:=h;exact⟨n,ks,h1,h2,h3.kept hg hne⟩
theorem P1.alloc(h:P1 w K b vs)(o:Obj):P1 (w.alloc o) K b vs:=h.kept (World.grownBy_alloc w o none) (by simp)
theorem P1.store(law:Keyed aa K){t e:TypeId}(ht:aa.underlying t=some (.map K e))(h:P1 w K b vs){x:Value}{kl:Lit}(hkey:keyOf aa K x=some kl)(hl:vs.length<=1000000):
  ∃w',(Instr.mapUpdate t (.map (some b)) x (.agg #[])).run aa w=.ok () w'∧P1 w' K b (vs++[x])/\w.grownBy w' (some b):=by
 obtain⟨n,ks,h1,h2,h3⟩:=h;obtain⟨w',hrun,hown,hg⟩:=h3.update law ht (by unfold maxLen;omega) hkey unitElem_mk
 refine⟨w',hrun,⟨n+1,ks++[kl],by simp;omega,by simp[h2,hkey],?_⟩,hg⟩
 rw[setOf_snoc];exact hown
theorem P1.count(law:Keyed aa K)(h:P1 w K b vs):∃(n m:Nat) (D:DataW Unit),w.ownsMap aa K (unitElem (H:=Unit)) b n D/\an D=m/\m<=vs.length/\(m=vs.length↔vs.Nodup):=by
 obtain⟨n,ks,h1,h2,h3⟩:=h
 have hkl:ks.length=vs.length:=by have:=congrArg List.length h2;simpa using this.symm
 have hks:∀x∈ks,WideAt.IsKeyLit x:=λx hx=>by
  have:some x∈vs.map (keyOf aa K):=by rw[h2];exact br.2 ⟨x,hx,rfl⟩
  obtain⟨v,_,hv⟩:=br.1 this;exact law.key hv
 have hsz:=size_setOf (.agg []:DataW Unit) ks hks
 have hf:=fold_add ks [] hks List.nodup_nil
 have hnd:ks.Nodup↔vs.Nodup:=by
  have key:∀(i:Nat) (hi:i<vs.length),keyOf aa K vs[i]=some (ks[i]'(by omega)):=λi hi=>by
   have h4:(vs[i]?).map (keyOf aa K)=(ks[i]?).map some:=by rw[<-ar,h2,ar]
   rw[af hi,af (show i<ks.length by omega)]at h4
   simpa using h4
  unfold List.Nodup;rw[av,av];constructor
  ·intro h i j hi hj hij e
   refine h i j (by omega) (by omega) hij ?_
   have h4:=key i hi
   have h5:=key j hj
   rw[e,h5]at h4;simpa using h4.symm
  ·intro h i j hi hj hij e
   refine h i j (by omega) (by omega) hij ?_
   exact law.inj (key i (by omega)) (e▸key j (by omega))
 refine⟨n,_,_,h3,hsz,?_,?_⟩
 ·have:=hf.1
  simp at this;omega
 ·rw[<-hkl,<-hnd]
  have:=hf.2
  simpa using this
end
theorem Yqz:laidOutB aa=true:=by kernel_rfl
end
section
open Go.RowKit Go.Maps
def Et(v:Value):Option (DataW Value×List MemPlace):=some (.held v,[])
theorem Yal{v:Value}{y:DataW Value×List MemPlace}(h:Et v=some y):y=(.held v,[]):=by
 unfold Et at h;exact(Option.some.inj h).symm
def Se(w:World)(K:TypeId)(b m:Nat)(F:Lit->Option Value):Prop:=
 ∃D,w.ownsMap aa K Et b m D/\an D=m/\∀kl,bg D kl=(F kl).isSome/\∀z,D.atKey kl (.held z)=.held ((F kl).getD z)
open Classical in
noncomputable def Yj5 (F:Lit->Option Value) (kl:Lit) (v:Value):Lit->Option Value:=λk=>if k=kl then some v else F k
theorem Gg{F:Lit->Option Value}{kl:Lit}{v:Value}:Yj5 F kl v kl=some v:=if_pos rfl
theorem Oi{F:Lit->Option Value}{kl k:Lit}{v:Value}(h:¬k=kl):Yj5 F kl v k=F k:=if_neg h
theorem Yaz{H:Type}{R:Value->Option (DataW H×List MemPlace)}{w:World}{P:Program}{K:TypeId}{b n:Nat}{D:DataW H}(h:w.ownsMap P K R b n D):w.ownsMap P K R b (an D) D:=by
 obtain⟨es,clock,hb,F,_,rfl⟩:=h;refine⟨es,clock,hb,F,?_,rfl⟩
 have e1:an (DataW.map ((es.toList.map (WideElems.rg P K R)).foldr DataW.insert []))=es.size:=by simp[an,length_sorted]
 rw[e1];exact ae _
section
variable {w w' : World}{K:TypeId}{b m:Nat}{F:Lit->Option Value}
theorem Se.lt(h:Se w K b m F):b<w.heap.size:=by obtain⟨D,h1,_⟩:=h;exact h1.lt
theorem Se.made(w:World)(K:TypeId):Se (w.alloc (.map #[] 0)) K w.heap.size 0 λ_=>none:=
 ⟨.map [],World.ownsMap_made _ _ _ _,rfl,λkl=>⟨by simp[bg],λz=>by simp[DataW.atKey]⟩⟩
theorem Se.same(h:Se w K b m F)(hb:w'.heap[b]?=w.heap[b]?):Se w' K b m F:=by
 obtain⟨D,⟨es,clock,h1,h2,h3,h4⟩,h5⟩:=h;exact⟨D,⟨es,clock,hb.trans h1,h2,h3,h4⟩,h5⟩
theorem Se.R1(h:Se w K b m F):∃es clock,w.heap[b]?=some (.map es clock):=by
 obtain⟨D,⟨es,clock,h1,_⟩,_⟩:=h;exact⟨es,clock,h1⟩
theorem Se.look{t e:TypeId}{z key:Value}{kl:Lit}(h:Se w K b m F)(law:Keyed aa K)(ht:aa.underlying t=some (.map K e))(hz:(zeroValue e).run aa w=.ok z w)(hkey:keyOf aa K key=some kl):
  (Instr.lookup t (.map (some b)) key true).run aa w=.ok (.tuple #[(F kl).getD z,.bool (F kl).isSome]) w:=by
 obtain⟨D,h1,_,h3⟩:=h;obtain⟨v,ps,hrun,hv⟩:=h1.look_ok law ht hz (zd:=.held z) (zp:=[]) rfl hkey;obtain⟨h4,h5⟩:=h3 kl;rw[h5]at hv
 have e:v=(F kl).getD z:=by
  have:=Yal hv
  simp only[Prod.mk.injEq,ao]at this;exact this.1.symm
 rw[hrun,h4,e]
theorem Se.get{t e:TypeId}{z key:Value}{kl:Lit}(h:Se w K b m F)(law:Keyed aa K)(ht:aa.underlying t=some (.map K e))(hz:(zeroValue e).run aa w=.ok z w)(hkey:keyOf aa K key=some kl):
  (Instr.lookup t (.map (some b)) key false).run aa w=.ok ((F kl).getD z) w:=by
 obtain⟨D,h1,_,h3⟩:=h;obtain⟨v,ps,hrun,hv⟩:=h1.lookup law ht hz (zd:=.held z) (zp:=[]) rfl hkey;rw[(h3 kl).2]at hv
 have e:v=(F kl).getD z:=by
  have:=Yal hv
  simp only[Prod.mk.injEq,ao]at this;exact this.1.symm
 rw[hrun,e]
theorem Se.store{t e:TypeId}{key v:Value}{kl:Lit}(h:Se w K b m F)(law:Keyed aa K)(ht:aa.underlying t=some (.map K e))(hm:m<maxLen)(hkey:keyOf aa K key=some kl):
  ∃w',(Instr.mapUpdate t (.map (some b)) key v).run aa w=.ok () w'∧Se w' K b (if (F kl).isSome then m else m+1) (Yj5 F kl v)/\w.grownBy w' (some b):=by
 obtain⟨D,h1,h2,h3⟩:=h;obtain⟨w',hrun,hown,hg⟩:=h1.update law ht hm hkey (val:=v) rfl
 have hs:an (D.put kl (.held v))=if (F kl).isSome then m else m+1:=by rw[size_put (h1.tidy law),(h3 kl).1,h2]
 refine⟨w',hrun,⟨_,hs▸Yaz hown,hs,λk=>?_⟩,hg⟩
 by_cases hk:k=kl
 ·subst hk
  rw[Gg];refine⟨has_put_same h1.isMap (law.key hkey) _,λz=>?_⟩
  rw[atKey_put_same h1.isMap (law.key hkey)];rfl
 ·rw[Oi hk]
  refine⟨?_,λz=>?_⟩
  ·rw[has_put_other hk]
   exact(h3 k).1
  ·rw[atKey_put_other hk]
   exact(h3 k).2 z
theorem Se.len{t e:TypeId}(h:Se w K b m F)(ht:aa.underlying t=some (.map K e))(ty:TypeId):(Builtin.len_ #[t] ty #[.map (some b)]).run aa w=.ok (.int .i64 m) w:=by
 obtain⟨D,h1,h2,_⟩:=h;rw[h1.len ht ty,h2]
theorem Se.own(h:Se w K b m F):∃D,w.ownsMap aa K Et b m D/\an D=m/\(∀kl,bg D kl=(F kl).isSome)/\∀kl v,(∀zd,D.atKey kl zd=.held v)->F kl=some v:=by
 obtain⟨D,h1,h2,h3⟩:=h;refine⟨D,h1,h2,λkl=>(h3 kl).1,λkl v hv=>?_⟩
 have hh:=has_true_of_atKey hv
 rw[(h3 kl).1]at hh;obtain⟨u,hu⟩:=Option.isSome_iff_exists.1 hh
 have h4:=((h3 kl).2 v).symm.trans (hv _)
 rw[hu]at h4;simp only[Option.getD_some,ao]at h4;rw[hu,h4]
end
end
end Go.Proofs.YtmepdkdeanbbaaaGreat
