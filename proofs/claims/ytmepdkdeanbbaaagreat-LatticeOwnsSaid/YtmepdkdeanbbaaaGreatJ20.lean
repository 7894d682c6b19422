/- SchemaA -/
import Derived.Test.YtmepdkdeanbbaaaGreatJ17
import Derived.Laws.CopyOwn
namespace Go.Proofs.YtmepdkdeanbbaaaGreat
set_option maxRecDepth 100000
set_option maxHeartbeats 8000000
open Go.RowKit
open Proofs.Tryz renaming prog→aa,underlying177→ae,underlying279→ai
open Nat renaming le_refl→af,lt_of_lt_of_le→aj,zero_le→aq
open List renaming length_map→ag,getD_eq_getElem?_getD→ak,getElem?_eq_getElem→an,flatMap_cons→ao
open Go.Lib (hid)
variable {w:World}
section
open Go.RowKit Go.Maps
abbrev T3:=Int×Int×Int
def acs(t:T3):List Value:=[.int .i64 t.1,.int .i64 t.2.1,.int .i64 t.2.2]
def Ydy(t:T3):Value:=.agg #[.int .i64 t.1,.int .i64 t.2.1,.int .i64 t.2.2]
def Ox(v:List Int):T3:=(v.getD 0 0,v.getD 1 0,v.getD 2 0)
theorem Yfw(l:List Int):splice [.int .i64 0,.int .i64 0,.int .i64 0] 0 ((l.take 3).map X6)=acs (Ox l):=by
 match l with
 |[]=>rfl
 |[a]=>rfl
 |[a,b]=>rfl
 |a::b::c::r=>rfl
theorem Yon:(aa.info? 3).map (·.size)=some 1:=by kernel_rfl
theorem Yst:(aa.info? 177).map (·.size)=some 3:=by kernel_rfl
theorem Yg1{A:Option Addr}{n c:Nat}{l:List Int}{w:World}(h:Y2 w w.heap.size A n c l){x y z:Int}(hx:Hid (Ox l=(x,y,z))):
  Calls aa 156 #[.slice A n c] w λe w'=>e=.returned (.agg #[.int .i64 x,.int .i64 y,.int .i64 z])/\Below w.heap.size w w':=by
 have hb2:=Wz w (.cells #[.int .i64 0,.int .i64 0,.int .i64 0] 177) (.cells #[.int .i64 0,.int .i64 0,.int .i64 0] 177)
 have h1:=h.Yc hb2
 have hG:((w.alloc (.cells #[.int .i64 0,.int .i64 0,.int .i64 0] 177)).alloc (.cells #[.int .i64 0,.int .i64 0,.int .i64 0] 177)).heap[w.heap.size+1]?=some (.cells ([.int .i64 0,.int .i64 0,.int .i64 0]:List Value).toArray 177 (0,0)):=by
  have:=Block.new (w.alloc (.cells #[.int .i64 0,.int .i64 0,.int .i64 0] 177)) 177 #[.int .i64 0,.int .i64 0,.int .i64 0]
  rw[World.size_alloc]at this;exact this
 have hR:=(Block.new w 177 #[.int .i64 0,.int .i64 0,.int .i64 0]).alloc (.cells #[.int .i64 0,.int .i64 0,.int .i64 0] 177)
 obtain⟨cs,hcs⟩: ∃cs,Hid ((l.take 3).map X6=cs):=⟨_,hid rfl⟩
 have hn:Hid (cs.length=Nat.min n 3):=hid (by rw[<-hcs.out,ag,List.length_take,h.len,Nat.min_comm])
 have hsp:Hid (splice [.int .i64 0,.int .i64 0,.int .i64 0] 0 cs=[.int .i64 x,.int .i64 y,.int .i64 z]):=hid (by rw[<-hcs.out,Yfw,hx.out];rfl)
 have hfit:Hid (0+cs.length<=([.int .i64 0,.int .i64 0,.int .i64 0]:List Value).length):=hid (by rw[hn.out];have:=Nat.min_le_right n 3;simp;exact this)
 have hone:Hid (∀v∈cs,v.oneCell'=true):=hid (by rw[<-hcs.out];exact Qv _)
 have hpos:Hid (0<cs.length->∃ad,A=some ad/\∀j v,cs[j]?=some v->((w.alloc (.cells #[.int .i64 0,.int .i64 0,.int .i64 0] 177)).alloc (.cells #[.int .i64 0,.int .i64 0,.int .i64 0] 177)).cell? (ad.add j)=some v):=hid λh0=>by
  have hl:0<(l.map X6).length:=by
   rw[<-hcs.out]at h0;simp at h0⊢;omega
  obtain⟨b,o,e,_,hc⟩:=h1.has hl;refine⟨_,e,λj v hv=>?_⟩
  rw[Yu];refine hc j v ?_;rw[<-hcs.out,List.map_take,List.getElem?_take]at hv
  split at hv
  ·exact hv
  ·cases hv
 have hgs:w.heap.size<((w.alloc (.cells #[.int .i64 0,.int .i64 0,.int .i64 0] 177)).alloc (.cells #[.int .i64 0,.int .i64 0,.int .i64 0] 177)).heap.size:=by simp;omega
 clear h h1 hcs hx;go_enter Tryz.func156,Tryz.ntmps156;go_wp2_with (refine wpList_copy_splice (o:=⟨some 6,_,_,_,_,_⟩) rfl _ _ 47 47 rfl 3 Tryz.underlying47 Yon _ A 3 3 n c rfl rfl (w.heap.size+1) 0 [.int .i64 0,.int .i64 0,.int .i64 0] 177 hG cs hn.out (λh0=>⟨rfl,hpos.out h0⟩) hfit.out hone.out (w.heap.size+1) _ (Below.refl _ _) (af _) ?_)
 intro w2 HG2 hB2
 have hG2:Block w2 (w.heap.size+1) 177 #[.int .i64 x,.int .i64 y,.int .i64 z]:=by
  have:=HG2.out
  rw[hsp.out]at this;exact this
 have hR2:=hR.below hB2 (Nat.lt_succ_self _)
 have hbe:=hb2.trans (hB2.mono (Nat.le_succ _))
 have a0:w2.cell? ⟨w.heap.size+1,0,none⟩=some (.int .i64 x):=hG2.cell 0
 have a1:w2.cell? ⟨w.heap.size+1,1,none⟩=some (.int .i64 y):=hG2.cell 1
 have a2:w2.cell? ⟨w.heap.size+1,2,none⟩=some (.int .i64 z):=hG2.cell 2
 have r0:w2.cell? ⟨w.heap.size,0,none⟩=some (.int .i64 0):=hR2.cell 0
 have r1:w2.cell? ⟨w.heap.size,1,none⟩=some (.int .i64 0):=hR2.cell 1
 have r2:w2.cell? ⟨w.heap.size,2,none⟩=some (.int .i64 0):=hR2.cell 2
 have f0:=hR2.free 0
 have f1:=hR2.free 1
 have f2:=hR2.free 2
 have HR:=hid (hR2.Ys3 (.int .i64 x) (.int .i64 y) (.int .i64 z))
 have HB:=hid (Kh hbe (af _) (.int .i64 x) (.int .i64 y) (.int .i64 z))
 clear HG2 hG2 hR2 hbe hB2 hb2 hG hR hn hsp hfit hone hpos hgs;go_wp2_with fail;refine bodyPost_ret (Zi rfl _ _ w.heap.size _ _ rfl HR.out ae rfl Yst) rfl ?_;exact⟨rfl,HB.out⟩
/-! ### Rows of them -/
structure Yio (w:World) (B:Nat) (A:Option Addr) (n c:Nat) (L:List T3):Prop where
 len:L.length=n
 cap:n<=c
 fit:c<=maxLen
 void:A=none->c=0
 has:∀i,i<n->∃b o,A=some ⟨b,o,none⟩∧b<B/\w.cell? ⟨b,o+i*3,none⟩=some (.int .i64 (L.getD i (0,0,0)).1)/\w.cell? ⟨b,o+i*3+1,none⟩=some (.int .i64 (L.getD i (0,0,0)).2.1)/\w.cell? ⟨b,o+i*3+2,none⟩=some (.int .i64 (L.getD i (0,0,0)).2.2)
theorem Yuu{L:List T3}{i:Nat}(h:i<L.length):(L.flatMap acs)[i*3]?=some (.int .i64 (L.getD i (0,0,0)).1)/\(L.flatMap acs)[i*3+1]?=some (.int .i64 (L.getD i (0,0,0)).2.1)/\(L.flatMap acs)[i*3+2]?=some (.int .i64 (L.getD i (0,0,0)).2.2):=by
 induction L generalizing i with
 |nil=>simp at h
 |cons e r ih=>
  cases i with
  |zero=>simp[ao,acs]
  |succ i=>
   have:=ih (i:=i) (by simpa using h)
   rw[show(i+1)*3=i*3+1+1+1 by omega]
   simpa[ao,acs]using this
def Ng(w:World)(base:Nat)(v:Value)(L:List T3):Prop:=w.ownsRow base 177 3 v L.length (L.flatMap acs)
section
variable {w w' : World}{base:Nat}{v:Value}{L:List T3}
theorem Ng.below(h:Ng w base v L)(hb:Below w.heap.size w w'):Ng w' base v L:=Xi h hb
theorem Ng.alloc(h:Ng w base v L)(o:Obj):Ng (w.alloc o) base v L:=World.ownsRow.alloc h o
theorem Ng.lt(h:Ng w base v L):∀k,v.ownBlock=some k->base<=k/\k<w.heap.size:=World.ownsRow.lt h
theorem Ng.form(h:Ng w base v L):∃A c,v=.slice A L.length c/\Yio w w.heap.size A L.length c L:=by
 rcases h.2 with⟨rfl,h0⟩|⟨g,cap,cur,rfl,hb,hg,hnc,hcm,hcs,ht⟩
 ·have hl:L=[]:=List.eq_nil_of_length_eq_zero h0
  subst hl;exact⟨none,0,rfl,rfl,af _,aq _,λ_=>rfl,λi h=>absurd h (by simp)⟩
 ·refine⟨_,cap,rfl,rfl,hnc,hcm,(λh=>by cases h),λi hi=>?_⟩
  have hc:=World.ownsRow.cells h (g:=g) rfl
  obtain⟨h1,h2,h3⟩:=Yuu hi
  have e1:=hc _ _ h1
  have e2:=hc _ _ h2
  have e3:=hc _ _ h3
  rw[Yu]at e1 e2 e3;rw[<-Nat.add_assoc]at e2 e3;exact⟨g,0,rfl,(Array.getElem?_eq_some_iff.1 hg).1,e1,e2,e3⟩
theorem Ng.lit(w:World)(t:T3)(g:Nat)(hg:g=w.heap.size)(base:Nat)(hb:base<=g):Ng (w.alloc (.cells #[.int .i64 t.1,.int .i64 t.2.1,.int .i64 t.2.2] 177)) base (.slice (some ⟨g,0,none⟩) 1 1) [t]:=by
 subst hg;exact⟨rfl,.inr ⟨w.heap.size,1,#[.int .i64 t.1,.int .i64 t.2.1,.int .i64 t.2.2],rfl,hb,heap_alloc_new w _,af _,by decide,rfl,rfl⟩⟩
end
section
variable {w w' : World}{B B' n c:Nat}{A:Option Addr}{L:List T3}
theorem Yio.below{C:Nat}(h:Yio w B A n c L)(hb:Below C w w')(hC:B<=C):Yio w' B A n c L:=
 ⟨h.len,h.cap,h.fit,h.void,λi hi=>by
  obtain⟨b,o,h1,h2,h3,h4,h5⟩:=h.has i hi;exact⟨b,o,h1,h2,(hb.cell (p:=⟨b,o+i*3,none⟩) (aj h2 hC)).trans h3,(hb.cell (p:=⟨b,o+i*3+1,none⟩) (aj h2 hC)).trans h4,(hb.cell (p:=⟨b,o+i*3+2,none⟩) (aj h2 hC)).trans h5⟩⟩
theorem Yio.at_(h:Yio w B A n c L){k:Nat}(hk:k<n):∃b o x y z,A=some ⟨b,o,none⟩∧b<B/\w.cell? ⟨b,o+k*3,none⟩=some (.int .i64 x)/\w.cell? ⟨b,o+k*3+1,none⟩=some (.int .i64 y)/\w.cell? ⟨b,o+k*3+2,none⟩=some (.int .i64 z)/\Hid (L.getD k (0,0,0)=(x,y,z)):=by
 obtain⟨b,o,h1,h2,h3,h4,h5⟩:=h.has k hk;exact⟨b,o,_,_,_,h1,h2,h3,h4,h5,hid rfl⟩
end
theorem Yl9:(aa.info? 177).map (λi=>(i.zero,i.size,i.bytes))=some (some (.agg #[.int .i64 0,.int .i64 0,.int .i64 0]),3,24):=by kernel_rfl
theorem Ytv(t:T3):∀u∈acs t,u.oneCell'=true:=by
 intro u hu;simp[acs]at hu
 rcases hu with rfl|rfl|rfl <;> rfl
theorem Yp3(w:World)(t:T3)(e:TypeId)(g:Nat)(hg:g=w.heap.size):∀j u,(acs t)[j]?=some u->(w.alloc (.cells #[.int .i64 t.1,.int .i64 t.2.1,.int .i64 t.2.2] e)).cell? ((⟨g,0,none⟩:Addr).add j)=some u:=by
 intro j u hj;subst hg;rw[Yu,Nat.zero_add,Zq];simpa[acs]using hj
theorem Yf5{w:World}{ops:Array Oper}{rest:List Oper}{o:Oper}{a:Act}{Q:Exit->Act->World->Prop}(hgd:o.guard=none)(s x:Operand)
  (ho:o.op=.call {callee:=.builtin .append,args:=#[s,x],argTypes:=#[223,223]})
  (base:Nat) (v:Value) (L:List T3) (hs:a.eval s=v) (hown:Ng w base v L) (g:Nat) (hx:a.eval x=.slice (some ⟨g,0,none⟩) 1 1) (t:T3)
  (hy:∀j u,(acs t)[j]?=some u->w.cell? ((⟨g,0,none⟩:Addr).add j)=some u) (hl:L.length<=1000) (hbase:base<=w.heap.size)
  (h:∀v' w',Ng w' base v' (L++[t])->Zl w v w' v'→wpList aa ops Q rest (a.put o.dst v') w'):wpList aa ops Q (o::rest) a w:=by
 obtain⟨i,hi,hz0,hz1,hz2⟩:=info_parts Yl9;refine wpList_append_own_at w hgd s x 223 ho base 177 i _ 3 24 Tryz.underlying223 hi hz0 hz1 hz2 rfl (by decide) v L.length (L.flatMap acs) hs hown ⟨g,0,none⟩ 1 1 (acs t) hx rfl hy (Ytv t) (by unfold maxLen;omega) (by omega) hbase ?_
 intro v' w' h1 h2 _ h4;refine h v' w' (by unfold Ng;simpa using h1) ⟨h2,λk hk=>?_⟩
 rcases h4 with h4|h4
 ·exact .inl (h4▸hk)
 ·rw[h4]at hk
  injection hk with hk
  exact .inr (Nat.le_of_eq hk)
/-! ### None of them twice -/
theorem Yta:aa.keyTypeAt 4 177=true:=by kernel_rfl
theorem Yrl:Keyed aa 177:=Keyed.of_law (deep_law_laid Yqz (m:=4) (by decide) (of_decide_eq_true (by kernel_rfl)) Yta (by kernel_rfl))
theorem Yw9{x y z:Int}(hx:(Lit.int .i64 x).wf=true)(hy:(Lit.int .i64 y).wf=true)(hz:(Lit.int .i64 z).wf=true):∃kl,keyOf aa 177 (.agg #[.int .i64 x,.int .i64 y,.int .i64 z])=some kl:=by
 have h1:aa.keyType 177=true:=by kernel_rfl
 have h3:aa.cellsOf 177=3:=by kernel_rfl
 have h4:aa.cellsOf 3=1:=by kernel_rfl
 have hf:(Value.agg #[.int .i64 x,.int .i64 y,.int .i64 z]).formed aa 177=true:=by
  simp[Value.formed,ae,h3]
 unfold keyOf;rw[ae,h1,hf];simp only[Bool.and_self,if_true]
 have hl:∃ls,aa.keyLits (aa.types.size+1) 177 (Value.agg #[.int .i64 x,.int .i64 y,.int .i64 z]).cells.toList=some ls:=by
  have h2:0<aa.types.size:=of_decide_eq_true (by kernel_rfl)
  obtain⟨d,hd⟩: ∃d,aa.types.size+1=d+2:=⟨aa.types.size-1,by omega⟩
  rw[hd];clear hd h2 h1 hf
  have hr:List.range 3=[0,1,2]:=by decide
  simp[Program.keyLits,ae,Tryz.underlying3,Value.cells,h3,h4,hr,hx,hy,hz]
 obtain⟨ls,hl⟩:=hl;rw[hl];exact⟨_,rfl⟩
theorem Ym0(w:World):(Instr.makeMap 279 none).run aa w=.ok (.map (some w.heap.size)) (w.alloc (.map #[] 0)):=run_makeMap _ w
theorem Ysk{a b:T3}(h:Ydy a=Ydy b):a=b:=by
 obtain⟨a1,a2,a3⟩:=a;obtain⟨b1,b2,b3⟩:=b;simp only[Ydy,Value.agg.injEq,Array.mk.injEq,List.cons.injEq,Value.int.injEq,and_true,true_and]at h;obtain⟨h1,h2,h3⟩:=h;rw[h1,h2,h3]
theorem Yoj{l:List T3}{k:Nat}{t:T3}(hk:k<l.length)(e:l.getD k (0,0,0)=t):(l.take k).map Ydy++[Ydy t]=(l.take (k+1)).map Ydy:=by
 rw[List.take_succ_eq_append_getElem hk,List.map_append,<-e,ak,an hk];rfl
def Wf3(t:T3):Prop:=(Lit.int .i64 t.1).wf=true/\(Lit.int .i64 t.2.1).wf=true/\(Lit.int .i64 t.2.2).wf=true
theorem Yie{A:Option Addr}{n c:Nat}{L:List T3}(h:Yio w w.heap.size A n c L)(hn:n<=1000)(hm:∀t∈L,Wf3 t):
  Calls aa 158 #[.slice A n c] w λe w'=>e=.returned (.bool (decide (¬L.Nodup)))/\Below w.heap.size w w':=by
 have HL:=hid h.len
 have HM:=hid hm
 have hmk:=Ym0
 clear hm;go_enter Tryz.func158,Tryz.ntmps158;go_wp2_with fail
 have hK0:=P1.made w 177
 have hb0:=Yb w (.map #[] 0)
 clear hmk;generalize w.alloc (.map #[] 0)=w1 at hK0 hb0⊢;go_loopw [9] (λi wr=>∃k:Nat,k<=n/\i=.int .i64 k/\P1 wr 177 w.heap.size ((L.take k).map Ydy)/\Below w.heap.size w wr) (λi _=>n-(intOf i).toNat)
 case atStart=>exact⟨0,aq _,rfl,hK0,hb0⟩
 case round=>
  obtain⟨k,hk,rfl,hK,hB⟩:=hrel
  by_cases hlt:k<n
  ·obtain⟨b,o,x,y,z,rfl,hb,g0,g1,g2,ex⟩:=(h.below hB (af _)).at_ hlt
   have i0:(0:Int)<=(k:Int):=by omega
   have i1:(k:Int)<(n:Int):=by omega
   obtain⟨kl,hkl⟩: ∃kl,keyOf aa 177 (.agg #[.int .i64 x,.int .i64 y,.int .i64 z])=some kl:=by
    have h1:L.getD k (0,0,0)∈L:=by rw[ak,an (by have:=HL.out;omega)];exact List.getElem_mem _
    have h2:=HM.out _ h1
    rw[ex.out]at h2;exact Yw9 h2.1 h2.2.1 h2.2.2
   obtain⟨w2,hrun,hK2,hg2⟩:=(hK.alloc (.cells #[.int .i64 x,.int .i64 y,.int .i64 z] 177)).store Yrl ai hkl (by rw[ag];exact Nat.le_trans (List.length_take_le k _) (by omega))
   have hK2:P1 w2 177 w.heap.size ((L.take k).map Ydy++[Ydy (x,y,z)]):=hK2
   rw[Yoj (by have:=HL.out;omega) ex.out]at hK2
   have HK2:=hid hK2
   have hz:=hB.size
   have hB1:=hB.alloc hz (.cells #[.int .i64 x,.int .i64 y,.int .i64 z] 177)
   have HB2:=hid (hB1.grown hg2 hB1.size (λj hj=>by cases hj;exact af _))
   clear hK hK2 hg2 hB hB1 hkl;go_wp2_with fail;go_roundw
   case rel=>exact⟨k+1,by omega,by go_num,HK2.out,HB2.out⟩
   case measure=>simp[intOf];omega
  ·have e:L.take k=L:=List.take_of_length_le (by have:=HL.out;omega)
   rw[e]at hK;obtain⟨N,m,Dm,hown,hsz,hle,hnd⟩:=hK.count Yrl;rw[Ya3 λ_ _=>Ysk,ag,HL.out]at hnd
   rw[ag,HL.out]at hle;clear e hK
   by_cases hno:L.Nodup
   ·obtain rfl:m=n:=hnd.2 hno
    have H:Hid (decide (¬L.Nodup)=false):=hid (by simpa using hno)
    have hs:Hid (Maps.size Dm=m):=hid hsz
    clear hnd hno hsz;go_wp2_with (at_len;refine wpList_len_own _ rfl _ 279 rfl 177 278 ai (unitElem (H:=Unit)) w.heap.size N Dm rfl hown ?_;rw[hs.out]);go_ret;exact⟨Yd H.out.symm,hB⟩
   ·have hlt2:m<n:=by
     have:m≠n:=λe=>hno (hnd.1 e)
     omega
    have H:Hid (decide (¬L.Nodup)=true):=hid (by simpa using hno)
    have hs:Hid (Maps.size Dm=m):=hid hsz
    have hlt3:(m:Int)<(n:Int):=by omega
    clear hnd hno hsz;go_wp2_with (at_len;refine wpList_len_own _ rfl _ 279 rfl 177 278 ai (unitElem (H:=Unit)) w.heap.size N Dm rfl hown ?_;rw[hs.out]);go_ret;exact⟨Yd H.out.symm,hB⟩
end
end Go.Proofs.YtmepdkdeanbbaaaGreat
