/- Base, NamesM, DictM, DictN, Put3, RowNe, SchemaM, WideM, CellM, CellN, CubM, CubN, CubR, CubA, CubS, CubK, LatM, WireM, Ints -/
import Derived.Deep.Draws
import Derived.Laws.AppendOwnNone
import Derived.Lib.Hide
import Derived.Shelf.Bytes.SlSmallAll
import Derived.Test.YtmepdkdeanbbaaaGreatRows
namespace Go.Proofs.YtmepdkdeanbbaaaGreat
set_option maxRecDepth 100000
set_option maxHeartbeats 8000000
open Go.RowKit
open List renaming getD_eq_getElem?_getD→aa,getElem?_eq_getElem→ae,getElem?_eq_some_iff→af,mem_cons_of_mem→ag,mem_cons→ai,pairwise_cons→aj,mem_map→ak,mem_singleton→an,getElem?_map→ao,getElem?_append_left→aq,map_cons→ar,eq_nil_of_length_eq_zero→au,range→av,getElem?_drop→aw,getElem?_eq_none→ax,mem_of_getElem?→ay,zipWith→bj,mem_append→bn,drop_eq_getElem_cons→br,mem_cons_self→bs,drop_eq_nil_of_le→ch,getElem?_of_mem→cj,filter_eq_self→cn,take_take→da,replicate→db,getElem?_take→dc,exists_mem_of_ne_nil→df,length_cons→dg,getElem_mem→dh,map_nil→dm,filter_eq_nil_iff→dn,take_append_drop→dp,mem_append_right→dq,dropLast_eq_take→dt,mem_append_left→du,dropLast_concat→dw,map_congr_left→dx,length_pos_iff→dy,take_succ_eq_append_getElem→ee,take_add_one→ei,length_take→ez,ext_getElem→fb,map_append→fh,length_map→fi,getElem?_append_right→fl,getLastD_eq_getLast?→fo,pairwise_singleton→fq,filter_cons_of_neg→ft,take_of_length_le→fu,singleton_append→gg,getElem?_zipWith→gh,mem_of_mem_take→gm,length→gn,drop_eq_nil_iff→gw,take_succ_cons→ic,getElem?_range→ie,length_append→ig,filter_append→ij,flatten_cons→ik,ext_getElem?→il,append_assoc→im,not_mem_nil→iq,mem_flatten→ir,length_drop→iu,cons_append→iv,nil_append→ix,mem_filter→iy,foldl_cons→iz,append_nil→ja,map_map→jc,not_lt→jd
open Option.some renaming inj→az,injEq→fp
open Nat renaming le_refl→bg,eq_zero_or_pos→bz,lt_of_lt_of_le→dz,mul_one→fg,min_eq_left→fk,zero_add→fw,lt_or_ge→fx,le_trans→fy,zero_le→gz,pow_add→ia,div_lt_of_lt_mul→ib
open Decidable renaming byContradiction→bo
open Prod renaming ext→bp
open Classical renaming byContradiction→cw
open _root_.Array renaming getElem?_eq_some_iff→cz,getElem?_modify→fv
open UInt8 renaming ofNat→dd,toNat_ofNat'→gy
open Bool renaming and_eq_true→di,or_eq_true→jb
open World.ownsRow renaming kept→dj,cells→fc,alloc→ff,lt→fm
open Int renaming le_refl→fj,ediv_eq_zero_of_lt→gi,toNat_natCast→iw,le_total→je,pow_pos→jf
open Go.Lib (hid)
variable {B base base' g i m n:Nat}{a b k l p q:List Int}{c w:World}{u v:Value}{e:TypeId}{x z:Int}{cs:Array Value}
section
def Has(w:World)(B:Nat)(A:Option Addr)(xs:List Value):Prop:=
 0<xs.length->∃b o,A=some ⟨b,o,none⟩∧b<B/\∀j u,xs[j]?=some u->w.cell? ⟨b,o+j,none⟩=some u
section
variable {w w' : World}{B B' : Nat}{A:Option Addr}{xs:List Value}
theorem Has.Zj:Has w B A []:=λh=>absurd h (by simp)
theorem Has.V0(h:Has w B A xs)(hk:∀b o,b<B->w'.cell? ⟨b,o,none⟩=w.cell? ⟨b,o,none⟩):Has w' B A xs:=λhn=>by
 obtain⟨b,o,e,hb,hc⟩:=h hn;exact⟨b,o,e,hb,λj u hu=>(hk b _ hb).trans (hc j u hu)⟩
theorem Has.more(h:Has w B A xs)(hB:B<=B'):Has w B' A xs:=λhn=>by
 obtain⟨b,o,e,hb,hc⟩:=h hn;exact⟨b,o,e,dz hb hB,hc⟩
theorem Has.below{C:Nat}(h:Has w B A xs)(hb:Below C w w')(hC:B<=C):Has w' B A xs:=
 h.V0 λb o hp=>hb.cell (p:=⟨b,o,none⟩) (dz hp hC)
theorem Has.grown{row:Option Nat}(h:Has w B A xs)(hg:w.grownBy w' row)(hB:B<=w.heap.size)(hr:∀g,row=some g->B<=g):Has w' B A xs:=
 h.V0 λb o hp=>World.cell?_of_block (hg.block b (by omega) (λe=>by have:=hr _ e.symm;omega))
theorem Has.Q3(h:Has w B A xs)(k:Nat):Has w B A (xs.take k):=λhn=>by
 obtain⟨b,o,e,hb,hc⟩:=h (by have:=List.length_take_le k xs;have:(xs.take k).length<=xs.length:=List.length_take_le' k xs;omega)
 refine⟨b,o,e,hb,λj u hu=>hc j u ?_⟩
 rw[dc]at hu
 split at hu
 ·exact hu
 ·cases hu
theorem Yu(b o j:Nat):(⟨b,o,none⟩:Addr).add j=⟨b,o+j,none⟩:=by
 unfold Addr.add
 split
 ·simp[*]
 ·rfl
end
theorem below_drewN{a:World}(h:Below B a w)(k:Nat):Below B a (w.drewN k):=⟨h.os,h.tape,h.output,h.size,h.block⟩
def byt(u:UInt8):Value:=.int .u8 (u.toNat:Int)
theorem Yln(l:List UInt8):∀u∈l.map byt,u.oneCell'=true:=by
 intro u hu;obtain⟨x,_,rfl⟩:=ak.1 hu;rfl
structure Xo (w:World) (B:Nat) (A:Option Addr) (n c:Nat) (l:List UInt8):Prop where
 len:l.length=n
 cap:n<=c
 fit:c<=maxLen
 void:A=none->c=0
 has:Has w B A (l.map byt)
section
variable {w w' : World}{B B' n c:Nat}{A:Option Addr}{l:List UInt8}
theorem Xo.V0(h:Xo w B A n c l)(hk:∀b o,b<B->w'.cell? ⟨b,o,none⟩=w.cell? ⟨b,o,none⟩):Xo w' B A n c l:=⟨h.len,h.cap,h.fit,h.void,h.has.V0 hk⟩
theorem Xo.more(h:Xo w B A n c l)(hB:B<=B'):Xo w B' A n c l:=⟨h.len,h.cap,h.fit,h.void,h.has.more hB⟩
theorem Xo.below{C:Nat}(h:Xo w B A n c l)(hb:Below C w w')(hC:B<=C):Xo w' B A n c l:=⟨h.len,h.cap,h.fit,h.void,h.has.below hb hC⟩
theorem Xo.drewN(h:Xo w B A n c l)(k:Nat):Xo (w.drewN k) B A n c l:=⟨h.len,h.cap,h.fit,h.void,h.has⟩
theorem Xo.alloc(h:Xo w B A n c l)(hB:B<=w.heap.size)(o:Obj):Xo (w.alloc o) B A n c l:=
 h.V0 λb k hp=>World.cell?_alloc_lt w o ⟨b,k,none⟩ (by show b<_;omega)
theorem Xo.Yc(h:Xo w w.heap.size A n c l)(hb:Below w.heap.size w w'):Xo w' w'.heap.size A n c l:=(h.below hb (bg _)).more hb.size
theorem Xo.Ym(h:Xo w B A n c l):n<=9223372036854775807:=by
 have h1:=h.cap;have h2:=h.fit
 unfold maxLen at h2;omega
theorem Xo.at_(h:Xo w B A n c l){k:Nat}(hk:k<n):
  ∃b o q,A=some ⟨b,o,none⟩∧b<B/\w.cell? ⟨b,o+k,none⟩=some (.int .u8 (q:Nat))/\q<256/\Hid (q=(l.getD k 0).toNat):=by
 obtain⟨hl,_,_,_,hh⟩:=h;obtain⟨b,o,e,hb,hc⟩:=hh (by simp;omega)
 refine⟨b,o,(l.getD k 0).toNat,e,hb,hc k _ ?_,(l.getD k 0).toNat_lt,hid rfl⟩;simp[byt,ao,aa,ae (show k<l.length by omega)]
end
theorem Ysm(h:(Lit.int .u8 x).wf=true):0<=x/\x<256:=by
 have h1:IntKind.u8.min=0:=rfl
 have h2:IntKind.u8.max=255:=rfl
 simp only[Lit.wf,di,decide_eq_true_eq]at h;omega
theorem Ya6(h:(Lit.int .i64 x).wf=true): -9223372036854775808<=x/\x<=9223372036854775807:=by
 have h1:IntKind.i64.min=-9223372036854775808:=rfl
 have h2:IntKind.i64.max=9223372036854775807:=rfl
 simp only[Lit.wf,di,decide_eq_true_eq]at h;omega
theorem Zq(w:World)(C:Array Value)(e:TypeId)(fr:Nat×Nat)(j:Nat):(w.alloc (.cells C e fr)).cell? ⟨w.heap.size,j,none⟩=C[j]?:=by
 have h:(w.alloc (.cells C e fr)).heap[w.heap.size]?=some (.cells C e fr):=heap_alloc_new w _
 unfold World.cell?;rw[h];rfl
theorem Xo.Yb3(w:World)(l:List UInt8)(C:Array Value)(hC:C=(l.map byt).toArray)(e:TypeId)(fr:Nat×Nat)(n:Nat)(hn:n=l.length)(hl:n<=9223372036854775807)(g:Nat)(hg:g=w.heap.size):
  Xo (w.alloc (.cells C e fr)) (g+1) (some ⟨g,0,none⟩) n n l:=by
 subst hC hn hg;exact⟨rfl,bg _,by unfold maxLen;omega,(λh=>by cases h),λ_=>⟨w.heap.size,0,rfl,by omega,λj u hu=>by
  rw[fw,Zq];simpa using hu⟩⟩
def Block(w:World)(g:Nat)(e:TypeId)(cs:Array Value):Prop:=w.heap[g]?=some (.cells cs e (0,0))
section
variable {w w' : World}{g:Nat}{e:TypeId}{cs:Array Value}
theorem Block.lt(h:Block w g e cs):g<w.heap.size:=(cz.1 h).1
theorem Block.cell(h:Block w g e cs)(i:Nat):w.cell? ⟨g,i,none⟩=cs[i]?:=cell_of_row w g i cs e (0,0) h
theorem Block.free(h:Block w g e cs)(i:Nat):w.frozen? ⟨g,i,none⟩=false:=by
 have h':w.heap[g]?=some (.cells cs e (0,0)):=h
 simp[World.frozen?,h']
theorem Block.new(w:World)(e:TypeId)(cs:Array Value):Block (w.alloc (.cells cs e)) w.heap.size e cs:=heap_alloc_new w _
theorem Block.Ys(h:Block w g e cs)(i:Nat)(u:Value):Block (w.setCell ⟨g,i,none⟩ u) g e (cs.setIfInBounds i u):=by
 have h':w.heap[g]?=some (.cells cs e (0,0)):=h
 unfold Block;simp[World.setCell,fv,h']
theorem Block.drewN(h:Block w g e cs)(k:Nat):Block (w.drewN k) g e cs:=h
theorem Block.alloc(h:Block w g e cs)(o:Obj):Block (w.alloc o) g e cs:=(Below.heap_alloc w o g h.lt).trans h
theorem Block.below{B:Nat}(h:Block w g e cs)(hb:Below B w w')(hg:g<B):Block w' g e cs:=(hb.block g hg).trans h
theorem Block.grown{row:Option Nat}(h:Block w g e cs)(hb:w.grownBy w' row)(hg:row≠some g):Block w' g e cs:=(hb.block g h.lt (λe=>hg e.symm)).trans h
end
def Zc(w:World)(base:Nat)(e:TypeId)(v:Value)(l:List UInt8):Prop:=w.ownsRow base e 1 v l.length (l.map byt)
section
variable {w w' : World}{base:Nat}{e:TypeId}{v:Value}{l:List UInt8}
theorem Zc.Zj(w:World)(base:Nat)(e:TypeId):Zc w base e (.slice none 0 0) []:=World.ownsRow_nil w base e 1
theorem Zc.form(h:Zc w base e v l):∃A c,v=.slice A l.length c/\Xo w w.heap.size A l.length c l/\(∀a,A=some a->base<=a.block):=by
 rcases h.2 with⟨rfl,h0⟩|⟨g,cap,cur,rfl,hb,hg,hnc,hcm,hcs,ht⟩
 ·have hl:l=[]:=au h0
  subst hl;exact⟨none,0,rfl,⟨rfl,bg _,gz _,λ_=>rfl,Has.Zj⟩,λ_ h=>by cases h⟩
 ·have hlt:g<w.heap.size:=(cz.1 hg).1
  refine⟨_,cap,rfl,⟨rfl,hnc,hcm,(λh=>by cases h),λ_=>⟨g,0,rfl,hlt,λj u hu=>?_⟩⟩,λa ha=>by injection ha with ha;subst ha;exact hb⟩
  have:=fc h (g:=g) rfl j u hu
  rwa [Yu]at this
theorem Zc.Yr(h:Zc w base e v l):∃A n c,v=.slice A n c/\Xo w w.heap.size A n c l/\(∀a,A=some a->base<=a.block):=by
 obtain⟨A,c,h1,h2,h3⟩:=h.form;exact⟨A,_,c,h1,h2,h3⟩
theorem Zc.alloc(h:Zc w base e v l)(o:Obj):Zc (w.alloc o) base e v l:=ff h o
theorem Zc.drewN(h:Zc w base e v l)(k:Nat):Zc (w.drewN k) base e v l:=h
theorem Zc.lt(h:Zc w base e v l):∀k,v.ownBlock=some k->base<=k/\k<w.heap.size:=fm h
theorem Zc.below{C:Nat}(h:Zc w base e v l)(hb:Below C w w')(hC:w.heap.size<=C):Zc w' base e v l:=
 dj (row:=none) h ⟨hb.os,hb.tape,hb.output,hb.size,λk hk _=>hb.block k (by omega)⟩ (by cases v.ownBlock <;> simp)
end
theorem Vu{size:Nat}{xs:List Value}(h:w.ownsRow base e size v n xs)(hb:base'<=base):w.ownsRow base' e size v n xs:=
 ⟨h.1,h.2.imp id (fun⟨g,cap,cur,a,b,c⟩=>⟨g,cap,cur,a,fy hb b,c⟩)⟩
theorem Zc.low{l:List UInt8}(h:Zc w base e v l)(hb:base'<=base):Zc w base' e v l:=Vu h hb
theorem Yk6{P:Program}(w:World)(t ty:TypeId)
  (base:Nat) (e:TypeId) (i:TypeInfo) (z:Value) (ht:P.underlying t=some (.slice e)) (hi:P.info? e=some i) (hz:i.zero=some z)
  (hsize:i.size=1) (hby:i.bytes=1) (hzs:z.cells.size=1)
  (v:Value) (l:List UInt8) (hown:Zc w base e v l)
  (B:Nat) (A:Option Addr) (m c:Nat) (news:List UInt8) (hr:Xo w B A m c news)
  (hbytes:l.length+m<=140737488355328) (hbase:base<=w.heap.size):
  ∃v' w',(Builtin.append_ #[t,t] ty #[v,.slice A m c]).run P w=.ok v' w'∧Zc w' base e v' (l++news)/\w.grownBy w' v.ownBlock:=by
 have hml:=hr.len
 have hsum:(l++news).length=l.length+m:=by rw[ig,hml]
 have hmap:(l++news).map byt=l.map byt++news.map byt:=fh
 have hone:l.length+m<=maxLen:=by unfold maxLen;omega
 rcases A with _|ad
 ·obtain rfl:=hr.void rfl
  have hc:=hr.cap
  obtain rfl:m=0:=by omega
  obtain rfl:news=[]:=au hml;exact⟨v,w,run_append_owned_none (P:=P) (w:=w) base t ty e i 1 ht hi v l.length (l.map byt) hown,by rw[ja];exact hown,World.grownBy.refl w _⟩
 ·have hcells:∀j u,(news.map byt)[j]?=some u->w.cell? (ad.add j)=some u:=by
   intro j u hu
   have hj:j<(news.map byt).length:=by
    rcases fx j (news.map byt).length with h1|h1
    ·exact h1
    ·rw[ax h1]at hu;cases hu
   obtain⟨b,o',e',_,hc⟩:=hr.has (by omega)
   injection e' with e'
   subst e';rw[Yu];exact hc j u hu
  obtain⟨v',w',hrun,hown',hg,_⟩:=run_append_own (P:=P) w base t ty e i z 1 1 ht hi hz hsize hby hzs (by decide) v l.length (l.map byt) hown ad m c (news.map byt) (by simp[hml]) hcells (Yln news) hone (by omega) hbase
  exact⟨v',w',hrun,by unfold Zc;rw[hsum,hmap];exact hown',hg⟩
section
variable {P:Program}(w:World) {ops:Array Oper}{rest:List Oper}{o:Oper}{a:Act}{Q:Exit->Act->World->Prop}
end
/-! ### What Ly,and where the row went -/
def Zl(w:World)(v:Value)(w':World)(v':Value):Prop:=w.grownBy w' v.ownBlock/\∀k,v'.ownBlock=some k->v.ownBlock=some k∨w.heap.size<=k
theorem Vm{a b:World}{r r':Option Nat}(h:a.grownBy b r)(h':b.grownBy c r')(hr:∀k,r'=some k->r=some k∨a.heap.size<=k):a.grownBy c r:=
 ⟨h'.os.trans h.os,h'.tape.trans h.tape,h'.output.trans h.output,fy h.size h'.size,λk hk hne=>(h'.block k (dz hk h.size) (λe=>by
  rcases hr k e.symm with h1|h1
  ·exact hne h1.symm
  ·omega)).trans (h.block k hk hne)⟩
theorem Zl.refl(w:World)(v:Value):Zl w v w v:=⟨World.grownBy.refl w _,λ_ h=>.inl h⟩
theorem Zl.trans{a b:World}{x:Value}(h:Zl a u b v)(h':Zl b v c x):Zl a u c x:=
 ⟨Vm h.1 h'.1 h.2,λk hk=>by
  rcases h'.2 k hk with h1|h1
  ·exact h.2 k h1
  ·exact .inr (fy h.1.size h1)⟩
theorem Zl.alloc{a b:World}(h:Zl a u b v)(o:Obj):Zl a u (b.alloc o) v:=
 h.trans ⟨World.grownBy_alloc b o _,λ_ h=>.inl h⟩
theorem Zl.drewN{a b:World}(h:Zl a u b v)(k:Nat):Zl a u (b.drewN k) v:=⟨⟨h.1.os,h.1.tape,h.1.output,h.1.size,h.1.block⟩,h.2⟩
theorem Zl.Yw{a b:World}(h:Zl a u b v){base:Nat}(hs:base<=a.heap.size)(hu:∀k,u.ownBlock=some k->base<=k):Below base a b:=
 ⟨h.1.os,h.1.tape,h.1.output,h.1.size,λk hk=>h.1.block k (by omega) (λe=>by have:=hu k e.symm;omega)⟩
theorem Ypo{P:Program}(w:World)(t ty:TypeId)
  (base:Nat) (e:TypeId) (i:TypeInfo) (z:Value) (ht:P.underlying t=some (.slice e)) (hi:P.info? e=some i) (hz:i.zero=some z)
  (hsize:i.size=1) (hby:i.bytes=1) (hzs:z.cells.size=1)
  (v:Value) (l:List UInt8) (hown:Zc w base e v l)
  (B:Nat) (A:Option Addr) (m c:Nat) (news:List UInt8) (hr:Xo w B A m c news)
  (hbytes:l.length+m<=140737488355328) (hbase:base<=w.heap.size):
  ∃v' w',(Builtin.append_ #[t,t] ty #[v,.slice A m c]).run P w=.ok v' w'∧Zc w' base e v' (l++news)/\Zl w v w' v':=by
 obtain⟨v',w',hrun,ho,hg⟩:=Yk6 (P:=P) w t ty base e i z ht hi hz hsize hby hzs v l hown B A m c news hr hbytes hbase;refine⟨v',w',hrun,ho,hg,?_⟩
 have hml:=hr.len
 rcases A with _|ad
 ·obtain rfl:=hr.void rfl
  have hc:=hr.cap
  obtain rfl:m=0:=by omega
  have h1:=run_append_owned_none (P:=P) (w:=w) base t ty e i 1 ht hi v l.length (l.map byt) hown
  rw[h1]at hrun;injection hrun with hrun _
  subst hrun;exact λk hk=>.inl hk
 ·rcases hown.2 with⟨rfl,h0⟩|⟨g,cap,cur,rfl,hbg,hgg,hnc,hcm,hcs,htake⟩
  ·have hl0:l=[]:=au h0
   subst hl0;obtain⟨v2,w2,hrun2,ho2,_⟩:=Yk6 (P:=P) w t ty w.heap.size e i z ht hi hz hsize hby hzs (.slice none 0 0) [] (Zc.Zj w _ e) B (some ad) m c news hr hbytes (bg _)
   have h1:=hrun2
   rw[hrun]at h1;injection h1 with h1 _
   subst h1;exact λk hk=>.inr (ho2.lt k hk).1
  ·have hone:l.length+m<=maxLen:=by unfold maxLen;omega
   have hcells:∀j u,(news.map byt)[j]?=some u->w.cell? (ad.add j)=some u:=by
    intro j u hu
    have hj:j<(news.map byt).length:=by
     rcases fx j (news.map byt).length with h1|h1
     ·exact h1
     ·rw[ax h1]at hu;cases hu
    obtain⟨b,o',e',_,hc⟩:=hr.has (by omega)
    injection e' with e'
    subst e';rw[Yu];exact hc j u hu
   by_cases hroom:l.length+m<=cap
   ·have h1:=run_append_room (P:=P) w t ty e i ht hi g l.length cap cur hgg ad m c (news.map byt) (by rw[hsize,fg];simpa using hml) hcells (Yln news) hroom (by rw[hsize,fg,hcs,fi,hml];omega)
    rw[hrun]at h1;injection h1 with h1 _
    subst h1;exact λk hk=>.inl hk
   ·have hmap:=hown.1
    have h1:=run_append_grow (P:=P) w t ty e i z ht hi hz ⟨g,0,none⟩ l.length cap (l.map byt) (by rw[hsize];simp) (hown.cells (g:=g) rfl) ad m c (news.map byt) (by rw[hsize,fg];simpa using hml) hcells (by omega) (by omega) (growslice_fits (by omega) (by rw[hby];omega))
    rw[hrun]at h1;injection h1 with h1 _
    subst h1;exact λk hk=>.inr (by injection hk with hk;subst hk;exact bg _)
section
variable {P:Program}(w:World) {ops:Array Oper}{rest:List Oper}{o:Oper}{a:Act}{Q:Exit->Act->World->Prop}
theorem Yty{K:Act->World->Prop}(s x:Operand)(t:TypeId)
  (ho:o.op=.call {callee:=.builtin .append,args:=#[s,x],argTypes:=#[t,t]})
  (base:Nat) (e:TypeId) (i:TypeInfo) (z:Value) (ht:P.underlying t=some (.slice e)) (hi:P.info? e=some i) (hz:i.zero=some z)
  (hsize:i.size=1) (hby:i.bytes=1) (hzs:z.cells.size=1)
  (v:Value) (l:List UInt8) (hs:a.eval s=v) (hown:Zc w base e v l)
  (B:Nat) (A:Option Addr) (m c:Nat) (news:List UInt8) (hx:a.eval x=.slice A m c) (hr:Xo w B A m c news)
  (hbytes:l.length+m<=140737488355328) (hbase:base<=w.heap.size)
  (h:∀v' w',Zc w' base e v' (l++news)->Zl w v w' v'→K (a.put o.dst v') w'):o.wp P a w K Q:=by
 obtain⟨v',w',hrun,h2,h3⟩:=Ypo (P:=P) w t o.type base e i z ht hi hz hsize hby hzs v l hown B A m c news hr hbytes hbase;unfold Oper.wp execOp;simp only[ho,resolve,invoke,builtin,Sem.run_bind,Sem.run_pure,Result.andThen_ok,List.map_toArray,ar,dm,hs,hx,hrun];exact h v' w' h2 h3
theorem Vd(hgd:o.guard=none)(s x:Operand)(t:TypeId)
  (ho:o.op=.call {callee:=.builtin .append,args:=#[s,x],argTypes:=#[t,t]})
  (base:Nat) (e:TypeId) (i:TypeInfo) (z:Value) (ht:P.underlying t=some (.slice e)) (hi:P.info? e=some i) (hz:i.zero=some z)
  (hsize:i.size=1) (hby:i.bytes=1) (hzs:z.cells.size=1)
  (v:Value) (l:List UInt8) (hs:a.eval s=v) (hown:Zc w base e v l)
  (B:Nat) (A:Option Addr) (m c:Nat) (news:List UInt8) (hx:a.eval x=.slice A m c) (hr:Xo w B A m c news)
  (hbytes:l.length+m<=140737488355328) (hbase:base<=w.heap.size)
  (h:∀v' w',Zc w' base e v' (l++news)->Zl w v w' v'→wpList P ops Q rest (a.put o.dst v') w'):wpList P ops Q (o::rest) a w:=
 wpList_plain hgd λ_ hK=>Yty w s x t ho base e i z ht hi hz hsize hby hzs v l hs hown B A m c news hx hr hbytes hbase λv' w' h2 h3=>hK _ _ (h v' w' h2 h3)
end
theorem Xo.string{P:Program}{c:Nat}{A:Option Addr}{l:List UInt8}(h:Xo w B A n c l)(src e dst:TypeId)
  (hs:P.underlying src=some (.slice e)) (he:P.underlying e=some (.int .u8)) (hd:P.underlying dst=some .string):
  (convert src dst (.slice A n c)).run P w=.ok (.string ⟨l.toArray⟩) w:=by
 have hl:=h.len
 have key:strOfNums (l.map λu=>(u.toNat:Int))=⟨l.toArray⟩:=by
  unfold strOfNums
  congr 2
  rw[jc];exact(dx (λu _=>by simp)).trans (List.map_id l)
 rcases bz n with hn|hn
 ·subst hn
  obtain rfl:l=[]:=au hl;exact run_convert_bytes_zero w src e hs he A c dst hd
 ·obtain⟨b,o,rfl,_,hc⟩:=h.has (by simp;omega)
  rw[<-key];refine run_convert_bytes_arg (P:=P) w src e hs he b o n c _ (by simpa using hl) (λi hi=>hc i _ ?_) dst hd
  simp[byt,ao,aa,ae (show i<l.length by omega)]
theorem Yd{a b:Bool}(h:a=b):Ending.returned (.bool a)=.returned (.bool b):=by rw[h]
theorem X8{a b:Int}(h:a=b):Ending.returned (.int .i64 a)=.returned (.int .i64 b):=by rw[h]
theorem Yih{P:Program}{f:FuncId}{args:Array Value}
  (h:Calls P f args (w.drewN n) λe w'=>e=.returned v/\w.drewN n=w'):Calls P f args (w.drewN n) λe w''=>e=.returned v/\∃m,w''=w.drewN m:=
 h.mono λ_ _ ⟨he,hm⟩=>⟨he,n,hm.symm⟩
end
abbrev Txt:=List UInt8
def isLet(b:UInt8):Bool:=(97<=b&&b<=122)||(48<=b&&b<=57)||b==45||b==95
def Z6(s:Txt):Prop:=1<=s.length/\s.length<=12/\∀b∈s,isLet b=true
instance (s:Txt):Decidable (Z6 s):=by unfold Z6;exact inferInstance
def Un(p:List Txt):Prop:=p.length<=3/\∀s∈p,Z6 s
instance (p:List Txt):Decidable (Un p):=by unfold Un;exact inferInstance
def D7:Txt->List Txt
 |[]=>[[]]
 |b::s=>if b=47 then []::D7 s else match D7 s with|[]=>[[b]]|a::r=>(b::a)::r
/-! ### The order -/
def X4:List Txt->List Txt->Int
 |[],[]=>0
 |[],_::_=>-1
 |_::_,[]=>1
 |a::p,b::q=>if a<b then -1 else if b<a then 1 else X4 p q
theorem Hw{a b:Txt}(h1:¬a<b)(h2:¬b<a):a=b:=List.le_antisymm (jd.1 h2) (jd.1 h1)
theorem Vx(a:Txt):¬a<a:=List.lt_irrefl a
theorem Ybb{a b:Txt}(h:a<b):¬b<a:=List.lt_asymm h
theorem Ymo{a b c:Txt}(h:a<b)(h':b<c):a<c:=List.lt_trans h h'
theorem Yb2:∀p:List Txt,X4 p p=0
 |[]=>rfl
 |a::p=>by rw[X4,if_neg (Vx a),if_neg (Vx a)];exact Yb2 p
theorem D9:∀p q:List Txt,X4 p q=-1∨X4 p q=0∨X4 p q=1
 |[],[]=>.inr (.inl rfl)
 |[],_::_=>.inl rfl
 |_::_,[]=>.inr (.inr rfl)
 |a::p,b::q=>by
  rw[X4]
  split
  ·exact .inl rfl
  ·split
   ·exact .inr (.inr rfl)
   ·exact D9 p q
theorem Ai:∀p q:List Txt,X4 p q=-X4 q p
 |[],[]=>rfl
 |[],_::_=>rfl
 |_::_,[]=>rfl
 |a::p,b::q=>by
  rw[X4,X4]
  by_cases h1:a<b
  ·rw[if_pos h1,if_neg (Ybb h1),if_pos h1]
  ·by_cases h2:b<a
   ·rw[if_neg h1,if_pos h2,if_pos h2];rfl
   ·rw[if_neg h1,if_neg h2,if_neg h2,if_neg h1];exact Ai p q
theorem Uu:∀p q:List Txt,X4 p q=0↔p=q
 |[],[]=>by simp[X4]
 |[],_::_=>by simp[X4]
 |_::_,[]=>by simp[X4]
 |a::p,b::q=>by
  rw[X4]
  by_cases h1:a<b
  ·rw[if_pos h1]
   exact⟨(λh=>by cases h),(λh=>by injection h with h _;subst h;exact absurd h1 (Vx a))⟩
  ·by_cases h2:b<a
   ·rw[if_neg h1,if_pos h2]
    exact⟨(λh=>by cases h),(λh=>by injection h with h _;subst h;exact absurd h2 (Vx a))⟩
   ·rw[if_neg h1,if_neg h2,Uu p q]
    have:=Hw h1 h2
    subst this;simp
theorem Dy:∀p q r:List Txt,X4 p q<=0->X4 q r<=0->X4 p r<=0
 |[],_,[]=>λ_ _=>(show(0:Int)<=0 by decide)
 |[],_,_::_=>λ_ _=>(show(-1:Int)<=0 by decide)
 |_::_,[],_=>λh _=>absurd (show(1:Int)<=0 from h) (by decide)
 |_::_,_::_,[]=>λ_ h=>absurd (show(1:Int)<=0 from h) (by decide)
 |a::p,b::q,c::r=>by
  intro h1 h2;rw[X4]at h1 h2⊢
  by_cases ab:a<b
  ·by_cases bc:b<c
   ·rw[if_pos (Ymo ab bc)];decide
   ·rw[if_neg bc]at h2
    by_cases cb:c<b
    ·rw[if_pos cb]at h2;exact absurd h2 (by decide)
    ·have:=Hw bc cb
     subst this;rw[if_pos ab];decide
  ·rw[if_neg ab]at h1
   by_cases ba:b<a
   ·rw[if_pos ba]at h1;exact absurd h1 (by decide)
   ·rw[if_neg ba]at h1
    have:=Hw ab ba
    subst this
    by_cases ac:a<c
    ·rw[if_pos ac];decide
    ·rw[if_neg ac]at h2⊢
     by_cases ca:c<a
     ·rw[if_pos ca]at h2;exact absurd h2 (by decide)
     ·rw[if_neg ca]at h2⊢
      exact Dy p q r h1 h2
def Ysq(p q:List Txt):Prop:=q.length<=p.length/\p.take q.length=q
instance (p q:List Txt):Decidable (Ysq p q):=by unfold Ysq;exact inferInstance
theorem Lb:∀(i:Nat) (p q:List Txt),i<=p.length->i<=q.length->p.take i=q.take i->X4 p q=X4 (p.drop i) (q.drop i)
 |0,_,_=>λ_ _ _=>rfl
 |i+1,[],_=>λh=>absurd h (by simp)
 |i+1,_::_,[]=>λ_ h=>absurd h (by simp)
 |i+1,a::p,b::q=>by
  intro h1 h2 h3;simp only[ic,List.cons.injEq]at h3;obtain⟨rfl,h3⟩:=h3;rw[X4,if_neg (Vx a),if_neg (Vx a)];exact Lb i p q (by simpa using h1) (by simpa using h2) h3
def upP(p:List Txt)(n:Int):List Txt:=p.take n.toNat
section
abbrev Pth:=List Txt
theorem Ybo{α:Type}{L:List α}{x:α}(hd:L.Nodup){i j:Nat}(hi:L[i]?=some x)(hj:L[j]?=some x):i=j:=by
 induction L generalizing i j with
 |nil=>simp at hi
 |cons y r ih=>
  obtain⟨h1,h2⟩:=List.nodup_cons.1 hd
  cases i with
  |zero=>
   cases j with
   |zero=>rfl
   |succ j=>
    simp at hi hj;exact absurd (hi▸ay hj) h1
  |succ i=>
   cases j with
   |zero=>
    simp at hi hj;exact absurd (hj▸ay hi) h1
   |succ j=>
    simp at hi hj;rw[ih h2 hi hj]
def fnd{α:Type}[DecidableEq α]:List α->α->Nat
 |[],_=>0
 |y::r,x=>if y=x then 1 else if fnd r x=0 then 0 else fnd r x+1
section
variable {α:Type} [DecidableEq α] {L M:List α}{x y:α}
theorem Bp:fnd L x=0↔x∉L:=by
 induction L with
 |nil=>simp[fnd]
 |cons y r ih=>
  unfold fnd
  by_cases h:y=x
  ·simp[h]
  ·by_cases h0:fnd r x=0
   ·have:=ih.1 h0
    simp[h,h0,this,Ne.symm h]
   ·have:=(not_congr ih).1 h0
    rw[if_neg h,if_neg h0];simp only[Nat.add_eq_zero_iff,Nat.succ_ne_self,and_false,false_iff];simpa[Ne.symm h]using this
theorem S1(h:x∉L):fnd L x=0:=Bp.2 h
theorem Vh:0<fnd L x↔x∈L:=by
 have:=Bp (L:=L) (x:=x)
 constructor
 ·intro h;exact cw λhn=>by have:=this.2 hn;omega
 ·intro h
  rcases bz (fnd L x)with h0|h0
  ·exact absurd h (this.1 h0)
  ·exact h0
theorem Rv:fnd L x<=L.length:=by
 induction L with
 |nil=>simp[fnd]
 |cons y r ih=>
  unfold fnd
  split
  ·simp
  ·split <;> simp <;> omega
theorem Oo(h:x∈L):L[fnd L x-1]?=some x:=by
 induction L with
 |nil=>simp at h
 |cons y r ih=>
  unfold fnd
  by_cases e:y=x
  ·simp[e]
  ·have hr:x∈r:=by simpa[Ne.symm e]using h
   have h0:=Vh.2 hr
   rw[if_neg e,if_neg (by omega),Nat.add_sub_cancel]
   have:=ih hr
   obtain⟨k,hk⟩: ∃k,fnd r x=k+1:=⟨fnd r x-1,by omega⟩
   rw[hk]at this⊢;simpa using this
theorem Ya8{j:Nat}(h:j+1<fnd L x):L[j]?≠some x:=by
 induction L generalizing j with
 |nil=>simp
 |cons y r ih=>
  unfold fnd at h
  split at h
  ·omega
  ·rename_i e
   split at h
   ·omega
   ·cases j with
    |zero=>simpa using e
    |succ j=>simpa using ih (by omega)
theorem Ydn{i:Nat}(h:L[i]?=some x)(hn:∀j,j<i->L[j]?≠some x):fnd L x=i+1:=by
 have hm:x∈L:=ay h
 have h1:=Oo hm
 have hp:=Vh.2 hm
 have h2:¬fnd L x-1<i:=λhlt=>hn _ hlt h1
 have h3:¬i+1<fnd L x:=λhlt=>Ya8 hlt h
 omega
theorem Mp(hd:L.Nodup){i:Nat}(h:L[i]?=some x):fnd L x=i+1:=
 Ydn h λj hj hh=>by have:=Ybo hd h hh;omega
theorem Ytq(h:fnd L x=fnd L y)(hx:x∈L):x=y:=by
 have hy:y∈L:=Vh.1 (by rw[<-h];exact Vh.2 hx)
 have h1:=Oo hx
 have h2:=Oo hy
 rw[h,h2]at h1;exact(az h1).symm
theorem Ja(h:x∈L):fnd (L++M) x=fnd L x:=by
 have hp:=Vh.2 h
 have hl:=Rv (L:=L) (x:=x)
 have e:fnd L x=(fnd L x-1)+1:=by omega
 rw[e];refine Ydn (by rw[aq (by omega)];exact Oo h) λj hj hh=>?_
 rw[aq (by omega)]at hh
 exact Ya8 (by omega) hh
theorem Yk5(h:x∉L):fnd (L++[x]) x=L.length+1:=by
 refine Ydn (by simp) λj hj hh=>h ?_
 rw[aq hj]at hh;exact ay hh
theorem Yco(h:x≠y):fnd (L++[y]) x=fnd L x:=by
 by_cases hx:x∈L
 ·exact Ja hx
 ·rw[S1 hx,S1]
  simp[hx,h]
end
theorem Yt2{α β:Type}[DecidableEq α][DecidableEq β]{L:List α}{x:α}(f:α->β)(hf:∀y∈L,f y=f x->y=x):fnd (L.map f) (f x)=fnd L x:=by
 induction L with
 |nil=>rfl
 |cons y r ih=>
  have ih':=ih λz hz=>hf z (ag _ hz)
  simp only[ar,fnd,ih']
  by_cases e:y=x
  ·simp[e]
  ·rw[if_neg e,if_neg λh=>e (hf y (by simp) h)]
def pth(Q:List Pth)(c:Nat):Pth:=if c=0 then []else Q.getD (c-1) []
def ent(Q:List Pth)(q:Pth):Nat×Txt:=(fnd Q q.dropLast,q.getLastD [])
def Xa(Q:List Pth):List (Nat×Txt):=Q.map (ent Q)
structure Good (n:Nat) (Q:List Pth):Prop where
 lv:1<=n/\n<=3
 size:Q.length<=40
 one:∀q∈Q,1<=q.length/\q.length<=n
 nam:∀q∈Q,∀s∈q,Z6 s
 nodup:Q.Nodup
 up:∀(i:Nat) (q:Pth),Q[i]?=some q->q.dropLast=[]∨q.dropLast∈Q.take i
def Whole(n:Nat)(Q:List Pth):Prop:=∀(i:Nat) (q:Pth),Q[i]?=some q->q.length<n->∃q',Q[i+1]?=some q'∧q'.dropLast=q
theorem Dj(h:1<=n/\n<=3):Good n []:=⟨h,by simp,by simp,by simp,by simp,by simp⟩
theorem Ym1(n:Nat):Whole n []:=λi q h=>by simp at h
section
variable {n:Nat}{Q:List Pth}
theorem Good.ne_nil(h:Good n Q):[]∉Q:=λhm=>by have:=(h.one _ hm).1;simp at this
theorem Good.Na(h:Good n Q):fnd Q []=0:=S1 h.ne_nil
theorem Good.Yk1(h:Good n Q){c:Nat}:(pth Q c).length<=n:=by
 unfold pth
 split
 ·simp
 ·by_cases hc:c-1<Q.length
  ·rw[aa,ae hc]
   exact(h.one _ (dh hc)).2
  ·rw[aa,ax (by omega)]
   simp
theorem Js{c:Nat}(h0:0<c)(hc:c<=Q.length):Q[c-1]?=some (pth Q c):=by
 unfold pth;rw[if_neg (by omega),aa,ae (by omega)]
 rfl
theorem Yed{c:Nat}(h0:0<c)(hc:c<=Q.length):pth Q c∈Q:=ay (Js h0 hc)
theorem Good.Yda(h:Good n Q){c:Nat}(hc:c<=Q.length):fnd Q (pth Q c)=c:=by
 rcases bz c with h0|h0
 ·subst h0;exact h.Na
 ·rw[Mp h.nodup (Js h0 hc)];omega
theorem Qd{q:Pth}(hq:q∈Q):pth Q (fnd Q q)=q:=by
 have h1:=Js (Vh.2 hq) (Rv (L:=Q) (x:=q))
 rw[Oo hq]at h1;exact(az h1).symm
theorem Good.Cr(h:Good n Q){q:Pth}(hq:q∈Q):q.dropLast=[]∨q.dropLast∈Q:=by
 obtain⟨i,hi⟩:=cj hq;exact(h.up i q hi).imp id gm
theorem Good.Po(h:Good n Q){q:Pth}(hq:q∈Q):∀{k:Nat},1<=k->k<=q.length->q.take k∈Q:=by
 intro k h1 h2;obtain⟨d,hd⟩: ∃d,q.length=k+d:=⟨q.length-k,by omega⟩
 clear h2
 induction d generalizing q with
 |zero=>rw[fu (by omega)];exact hq
 |succ d ih=>
  rcases h.Cr hq with e|e
  ·have:=congrArg gn e
   simp at this;omega
  ·have:=ih e (by simp;omega)
   rwa [dt,da,fk (by omega)]at this
theorem Good.Ye0(h:Good n Q){M:List Pth}(hM:[]∉M){q:Pth}(hq:q.dropLast=[]∨q.dropLast∈Q):fnd (Q++M) q.dropLast=fnd Q q.dropLast:=by
 rcases hq with e|e
 ·rw[e,S1 h.ne_nil,S1]
  simp[h.ne_nil,hM]
 ·exact Ja e
theorem Good.Yvi(h:Good n Q){q:Pth}(hq:1<=q.length/\q.length<=n)(hn:∀s∈q,Z6 s)(hnew:q∉Q)(hup:q.dropLast=[]∨q.dropLast∈Q)(hs:Q.length<40):Good n (Q++[q]):=by
 refine⟨h.lv,by simp;omega,λx hx=>?_,λx hx=>?_,?_,λi x hx=>?_⟩
 ·rcases bn.1 hx with hx|hx
  ·exact h.one x hx
  ·rw[an.1 hx];exact hq
 ·rcases bn.1 hx with hx|hx
  ·exact h.nam x hx
  ·rw[an.1 hx];exact hn
 ·rw[List.nodup_append]
  exact⟨h.nodup,by simp,λa ha b hb=>by rw[an.1 hb];exact λe=>hnew (e▸ha)⟩
 ·by_cases hi:i<Q.length
  ·rw[aq hi]at hx
   rw[List.take_append_of_le_length (by omega)]
   exact h.up i x hx
  ·have hie:i=Q.length:=by
    have:=(af.1 hx).1
    simp at this;omega
   subst hie;simp at hx;subst hx;simpa using hup
theorem Good.Yn5(h:Good n Q){q:Pth}(hne:q≠[])(hup:q.dropLast=[]∨q.dropLast∈Q):Xa (Q++[q])=Xa Q++[(fnd Q q.dropLast,q.getLastD [])]:=by
 have hM:([]:Pth)∉[q]:=by simpa using hne.symm
 unfold Xa;rw[fh]
 congr 1
 ·refine dx λx hx=>?_
  unfold ent;rw[h.Ye0 hM (h.Cr hx)]
 ·simp only[ar,dm,ent]
  rw[h.Ye0 hM hup]
theorem Sq(Q:List Pth):(Xa Q).length=Q.length:=by simp[Xa]
theorem Ry{i:Nat}{q:Pth}(h:Q[i]?=some q):(Xa Q)[i]?=some (fnd Q q.dropLast,q.getLastD []):=by
 unfold Xa;rw[ao,h];rfl
theorem Ydl(q:Pth)(s:Txt):(q++[s]).getLastD []=s:=by simp[fo]
theorem Db{q:Pth}(h:q≠[]):q.dropLast++[q.getLastD []]=q:=by
 have:=List.dropLast_concat_getLast h
 rwa [<-show q.getLastD []=q.getLast h from by rw[fo,List.getLast?_eq_some_getLast h];rfl]at this
theorem Good.Yfd(h:Good n Q){a:Nat}{s:Txt}(ha:a<=Q.length):fnd (Xa Q) (a,s)=fnd Q (pth Q a++[s]):=by
 have e:(a,s)=ent Q (pth Q a++[s]):=by
  unfold ent;rw[dw,Ydl,h.Yda ha]
 rw[e];refine Yt2 (ent Q) λy hy hh=>?_
 rw[<-e]at hh;simp only[ent,Prod.mk.injEq]at hh
 have hyn:y≠[]:=λe=>h.ne_nil (e▸hy)
 have h1:y.dropLast=pth Q a:=by
  rcases h.Cr hy with e1|e1
  ·rw[e1,h.Na]at hh
   rw[e1,<-hh.1];rfl
  ·rw[<-hh.1,Qd e1]
 rw[<-h1,<-hh.2,Db hyn]
theorem Good.Yfc(h:Good n Q){a:Nat}{s:Txt}(ha:a<=Q.length):(a,s)∈Xa Q↔pth Q a++[s]∈Q:=by
 rw[<-Vh,h.Yfd ha,Vh]
end
end
section
def cds(Q:List Pth)(p:Pth)(m:Nat):List Int:=(av m).map λi=>((fnd Q (p.take i):Nat):Int)
theorem Xc(Q:List Pth)(p:Pth)(m:Nat):(cds Q p m).length=m:=by simp[cds]
theorem Yfj(Q:List Pth)(p:Pth)(m:Nat):cds Q p (m+1)=cds Q p m++[((fnd Q (p.take m):Nat):Int)]:=by
 simp[cds,List.range_succ]
theorem E6{Q:List Pth}{p:Pth}{m i:Nat}(h:i<m):(cds Q p m).getD i 0=((fnd Q (p.take i):Nat):Int):=by
 simp[cds,aa,h]
theorem Yup{n:Nat}{Q:List Pth}(h:Good n Q)(p:Pth):cds Q p 1=[0]:=by
 simp[cds,h.Na]
def Ti(p:Pth):List Pth:=(av p.length).map λi=>p.take (i+1)
theorem Vk(p:Pth):(Ti p).length=p.length:=by simp[Ti]
theorem Ui{p:Pth}{i:Nat}(h:i<p.length):(Ti p)[i]?=some (p.take (i+1)):=by simp[Ti,h]
theorem Yq5{Q:List Pth}(p:Pth):(cds Q p (p.length+1)).drop 1=(Ti p).map λq=>((fnd Q q:Nat):Int):=by
 apply il;intro i;rw[aw,ao]
 by_cases h:i<p.length
 ·rw[Ui h]
  unfold cds;rw[ao,ie (show 1+i<p.length+1 by omega),Nat.add_comm 1 i]
  rfl
 ·rw[ax (by rw[Xc];omega),ax (by rw[Vk];omega)]
  rfl
def S4(Q:List Pth)(p:Pth):List Pth:=(Ti p).filter λq=>decide (q∉Q)
section
variable {n:Nat}{Q:List Pth}{p:Pth}
theorem Good.Mw(h:Good n Q){k:Nat}(hk:k<=p.length)(hall:∀j,j<k->p.take (j+1)∈Q)(hno:k=p.length∨p.take (k+1)∉Q):S4 Q p=(Ti p).drop k:=by
 unfold S4
 conv=>lhs;rw[<-dp k (Ti p),ij]
 have h1:((Ti p).take k).filter (λq=>decide (q∉Q))=[]:=by
  rw[dn];intro q hq;obtain⟨j,hj⟩:=cj hq;rw[dc]at hj
  split at hj
  ·rename_i hjk
   rw[Ui (by omega)]at hj
   rw[<-az hj];simpa using hall j hjk
  ·cases hj
 have h2:((Ti p).drop k).filter (λq=>decide (q∉Q))=(Ti p).drop k:=by
  rw[cn];intro q hq;obtain⟨j,hj⟩:=cj hq;rw[aw]at hj
  have hjl:=(af.1 hj).1
  rw[Vk]at hjl;rw[Ui hjl]at hj
  rcases hno with e|e
  ·omega
  ·rw[<-az hj]
   simp only[decide_eq_true_eq];intro hm;refine e ?_
   have:=h.Po hm (k:=k+1) (by omega) (by simp;omega)
   rwa [da,fk (by omega)]at this
 rw[h1,h2,ix]
def Lm(Q:List Pth)(p:Pth)(k:Nat):Prop:=k<=p.length/\(∀j,j<k->p.take (j+1)∈Q)/\(k=p.length∨p.take (k+1)∉Q)
def grown(Q:List Pth)(p:Pth)(k j:Nat):List Pth:=Q++((Ti p).drop k).take j
theorem Oe(k:Nat):grown Q p k 0=Q:=by simp[grown]
theorem Gk{k j:Nat}(h:k+j<=p.length):(grown Q p k j).length=Q.length+j:=by
 simp[grown,Vk];omega
theorem Rk{k j:Nat}(h:k+j<p.length):grown Q p k (j+1)=grown Q p k j++[p.take (k+j+1)]:=by
 unfold grown;rw[im]
 congr 1
 have hl:j<((Ti p).drop k).length:=by simp[Vk];omega
 rw[ee hl]
 congr 2
 have:=Ui (p:=p) (i:=k+j) h
 rw[<-aw,ae hl]at this;exact az this
theorem J5{k:Nat}(_h:k<=p.length):grown Q p k (p.length-k)=Q++(Ti p).drop k:=by
 unfold grown;rw[fu (by simp[Vk])]
theorem Gv{k j i:Nat}(hk:Lm Q p k)(h:k+j<i+1)(hi:i<p.length)(hg:Good n Q):p.take (i+1)∉grown Q p k j:=by
 intro hm
 rcases bn.1 hm with hm|hm
 ·rcases hk.2.2 with e|e
  ·omega
  ·have:=hg.Po hm (k:=k+1) (by omega) (by simp;omega)
   rw[da,fk (by omega)]at this
   exact e this
 ·obtain⟨a,ha⟩:=cj hm
  rw[dc]at ha
  split at ha
  ·rename_i haj
   rw[aw]at ha;rw[Ui (by omega)]at ha
   have:=congrArg gn (az ha)
   simp at this;omega
  ·cases ha
theorem Gs{k j i:Nat}(hk:Lm Q p k)(h:i+1<=k+j)(hi:i<p.length):p.take (i+1)∈grown Q p k j:=by
 by_cases hik:i<k
 ·exact du _ (hk.2.1 i hik)
 ·refine dq _ ?_
  refine ay (i:=i-k) ?_;rw[dc,if_pos (by omega),aw,show k+(i-k)=i by omega]
  exact Ui hi
theorem Yqs{k j:Nat}(hk:Lm Q p k)(h:k+j<p.length):(p.take (k+j+1)).dropLast=[]∨(p.take (k+j+1)).dropLast∈grown Q p k j:=by
 have e:(p.take (k+j+1)).dropLast=p.take (k+j):=by
  rw[dt,da,ez]
  congr 1
  omega
 rw[e]
 rcases bz (k+j)with h0|h0
 ·left;rw[h0];rfl
 ·right
  obtain⟨i,hi⟩: ∃i,k+j=i+1:=⟨k+j-1,by omega⟩
  rw[hi];exact Gs hk (by omega) (by omega)
theorem L6(hg:Good n Q)(hn:∀s∈p,Z6 s)(hl:p.length<=n){k:Nat}(hk:Lm Q p k)(h40:Q.length+(p.length-k)<=40):∀{j:Nat},k+j<=p.length->Good n (grown Q p k j):=by
 intro j hj
 induction j with
 |zero=>rw[Oe];exact hg
 |succ j ih=>
  rw[Rk (by omega)]
  refine(ih (by omega)).Yvi ⟨by simp;omega,by simp;omega⟩ (λs hs=>hn s (gm hs)) (Gv hk (by omega) (by omega) hg) (Yqs hk (by omega)) ?_
  rw[Gk (by omega)]
  omega
theorem Yl8(hg:Good n Q){k j:Nat}(hk:Lm Q p k)(h:k+j<p.length):cds (grown Q p k (j+1)) p (k+(j+1)+1)=cds (grown Q p k j) p (k+j+1)++[((Q.length+j+1:Nat):Int)]:=by
 rw[show k+(j+1)+1=(k+j+1)+1 by omega,Yfj]
 congr 1
 ·unfold cds
  refine dx λi hi=>?_
  have hi:=List.mem_range.1 hi
  rw[Rk h,Yco];intro e
  have:=congrArg gn e
  simp at this;omega
 ·rw[Rk h,Yk5 (Gv hk (by omega) h hg),Gk (by omega)]
theorem Yc2{q:Pth}{k:Nat}(h:k<q.length):(q.take (k+1)).getLastD []=q.getD k []:=by
 rw[ee h,Ydl];simp[aa,h]
theorem drop_take{q:Pth}{k:Nat}(h:k<q.length):(q.take (k+1)).dropLast=q.take k:=by
 rw[dt,da,ez]
 congr 1
 omega
end
def Pc(n:Nat)(Q:List Pth)(p:Pth):Prop:=(p.length=n/\Un p)/\Q.length+(S4 Q p).length<=40
instance (n:Nat) (Q:List Pth) (p:Pth):Decidable (Pc n Q p):=by unfold Pc;exact inferInstance
def V4(n:Nat)(Q:List Pth)(p:Pth):List Pth:=if Pc n Q p then Q++S4 Q p else Q
def Jo(n:Nat)(Q:List Pth)(p:Pth):List Int:=if Pc n Q p then (Ti p).map λq=>((fnd (Q++S4 Q p) q:Nat):Int)else []
def Qr(n:Nat)(Q:List Pth)(p:Pth):Nat:=if Pc n Q p then 0 else if p.length=n/\Un p then 15 else 10
section
variable {n:Nat}{Q:List Pth}{p:Pth}
theorem Jn(h:¬(p.length=n/\Un p)):V4 n Q p=Q/\Jo n Q p=[]/\Qr n Q p=10:=by
 have h': ¬Pc n Q p:=λa=>h a.1
 simp[V4,Jo,Qr,h',h]
theorem Yft(h:p.length=n/\Un p)(h':40<Q.length+(S4 Q p).length):V4 n Q p=Q/\Jo n Q p=[]/\Qr n Q p=15:=by
 have h': ¬Pc n Q p:=λa=>by have:=a.2;omega
 simp[V4,Jo,Qr,h',h]
theorem Gn(h:p.length=n/\Un p)(h':Q.length+(S4 Q p).length<=40):V4 n Q p=Q++S4 Q p/\Jo n Q p=(Ti p).map (λq=>((fnd (Q++S4 Q p) q:Nat):Int))/\Qr n Q p=0:=by
 have h':Pc n Q p:=⟨h,h'⟩
 simp[V4,Jo,Qr,h']
theorem Dk(Q:List Pth)(p:Pth):∃k,Lm Q p k:=by
 have key:∀m,m<=p.length->(∀j,j<m->p.take (j+1)∈Q)->∃k,Lm Q p k:=by
  intro m hm hall;obtain⟨d,hd⟩: ∃d,p.length=m+d:=⟨p.length-m,by omega⟩
  induction d generalizing m with
  |zero=>exact⟨m,hm,hall,.inl (by omega)⟩
  |succ d ih=>
   by_cases h:p.take (m+1)∈Q
   ·exact ih (m+1) (by omega) (λj hj=>by
     rcases fx j m with h1|h1
     ·exact hall j h1
     ·obtain rfl:j=m:=by omega
      exact h) (by omega)
   ·exact⟨m,hm,hall,.inr h⟩
 exact key 0 (gz _) (λj hj=>by omega)
theorem Good.add(h:Good n Q):Good n (V4 n Q p):=by
 by_cases ho:Pc n Q p
 ·obtain⟨k,hk⟩:=Dk Q p
  have hl:=h.Mw hk.1 hk.2.1 hk.2.2
  have h40:=ho.2
  rw[hl,iu,Vk]at h40;rw[(Gn ho.1 ho.2).1,hl,<-J5 hk.1];exact L6 h ho.1.2.2 (Nat.le_of_eq ho.1.1) hk h40 (by have:=hk.1;omega)
 ·unfold V4;rw[if_neg ho];exact h
theorem Whole.add(h:Good n Q)(hw:Whole n Q):Whole n (V4 n Q p):=by
 by_cases ho:Pc n Q p
 ·obtain⟨k,hk⟩:=Dk Q p
  have hl:=h.Mw hk.1 hk.2.1 hk.2.2
  rw[(Gn ho.1 ho.2).1,hl]
  have hpn:p.length=n:=ho.1.1
  intro i q hi hq
  by_cases hlt:i<Q.length
  ·rw[aq hlt]at hi
   obtain⟨q',h1,h2⟩:=hw i q hi hq
   have:i+1<Q.length:=(af.1 h1).1
   exact⟨q',by rw[aq this];exact h1,h2⟩
  ·have hil:=(af.1 hi).1
   simp only[ig,iu,Vk]at hil;rw[fl (by omega),aw,Ui (by omega)]at hi
   have e:=az hi
   have hlen:q.length=k+(i-Q.length)+1:=by rw[<-e];simp;omega
   refine⟨p.take (k+(i-Q.length)+2),?_,?_⟩
   ·rw[fl (by omega),aw,show k+(i+1-Q.length)=k+(i-Q.length)+1 by omega]
    exact Ui (by omega)
   ·rw[<-e]
    exact drop_take (by omega)
 ·unfold V4;rw[if_neg ho];exact hw
theorem Yoe(h:Good n Q)(ho:Pc n Q p):p∈V4 n Q p:=by
 obtain⟨k,hk⟩:=Dk Q p
 have hl:=h.Mw hk.1 hk.2.1 hk.2.2
 rw[(Gn ho.1 ho.2).1,hl,<-J5 hk.1]
 have hn:=h.lv.1
 have hp:p.length=n:=ho.1.1
 have:=Gs (Q:=Q) (p:=p) (k:=k) (j:=p.length-k) (i:=p.length-1) hk (by have:=hk.1;omega) (by omega)
 rwa [Nat.sub_add_cancel (by omega),List.take_length]at this
end
def Yqf(n:Nat)(Q:List Pth):Nat:=if (pth Q Q.length).length<n then Q.length else 0
def Ysn(n:Nat)(Q:List Pth)(a:Nat)(s:Txt):Prop:=Z6 s/\(pth Q a).length<n/\pth Q a++[s]∉Q/\(Yqf n Q=0∨Yqf n Q=a)
instance (n:Nat) (Q:List Pth) (a:Nat) (s:Txt):Decidable (Ysn n Q a s):=by unfold Ysn;exact inferInstance
theorem Good.Ymt{Q:List Pth}{a:Nat}{s:Txt}(h:Good n Q)(ha:a<=Q.length):Xa (Q++[pth Q a++[s]])=Xa Q++[(a,s)]:=by
 rw[h.Yn5 (by simp) (by
  rw[dw]
  rcases bz a with h0|h0
  ·left;subst h0;rfl
  ·right;exact Yed h0 ha),dw,Ydl,h.Yda ha]
end
def Ys7(w:World)(g:Nat)(a b c:Value):World:=((w.setCell ⟨g,0,none⟩ a).setCell ⟨g,1,none⟩ b).setCell ⟨g,2,none⟩ c
theorem Block.Ys3{x y z:Value}(h:Block w g e #[x,y,z])(a b c:Value):Block (Ys7 w g a b c) g e #[a,b,c]:=by
 exact((h.Ys 0 a).Ys 1 b).Ys 2 c
theorem Kh{w0:World}(h:Below B w0 w){g:Nat}(hg:B<=g)(a b c:Value):Below B w0 (Ys7 w g a b c):=
 ((h.setCell (p:=⟨g,0,none⟩) hg a).setCell (p:=⟨g,1,none⟩) hg b).setCell (p:=⟨g,2,none⟩) hg c
section
section
variable {w w' : World}{B:Nat}{v:Value}
theorem Xi{base:Nat}{e:TypeId}{size n:Nat}{xs:List Value}(h:w.ownsRow base e size v n xs)(hb:Below w.heap.size w w'):w'.ownsRow base e size v n xs:=
 h.kept (row:=none) ⟨hb.os,hb.tape,hb.output,hb.size,λk hk _=>hb.block k hk⟩ (by cases v.ownBlock <;> simp)
theorem V3{B' e e' size size' n n':Nat}{v':Value}{xs xs':List Value}(h:w.ownsRow B e size v n xs)(h':w.ownsRow B' e' size' v' n' xs')(hne:e≠e'):v.ownBlock=none∨v.ownBlock≠v'.ownBlock:=by
 rcases h.2 with⟨rfl,_⟩|⟨g,cap,cur,rfl,_,hgg,_⟩
 ·exact .inl rfl
 ·rcases h'.2 with⟨rfl,_⟩|⟨g',cap',cur',rfl,_,hgg',_⟩
  ·exact .inr (by simp[Value.ownBlock])
  ·refine .inr λhe=>?_
   simp only[Value.ownBlock,fp]at he;subst he;rw[hgg]at hgg';simp only[fp,Obj.cells.injEq]at hgg';exact hne hgg'.2.1
end
end
abbrev Yk:=Txt×List Txt
def Wp:Yk:=([],[])
def Zn(l:List Txt)(m:Nat):Prop:=1<=l.length/\l.length<=m/\(∀s∈l,Z6 s)/\l.Nodup
instance (l:List Txt) (m:Nat):Decidable (Zn l m):=by unfold Zn;exact inferInstance
def Yn(D:List Yk):List Int:=D.map λd=>(d.2.length:Int)
def Z5(D:List Yk)(v:List Int):Prop:=v.length=D.length/\∀i,i<v.length->0<=v.getD i 0/\v.getD i 0<=(((D.getD i Wp).2.length:Nat):Int)
instance (D:List Yk) (v:List Int):Decidable (Z5 D v):=by unfold Z5;exact inferInstance
def Ylv(v w:List Int):Prop:=v.length=w.length/\∀i,i<v.length->w.getD i 0<=v.getD i 0
instance (v w:List Int):Decidable (Ylv v w):=by unfold Ylv;exact inferInstance
def Yg(D:List Yk)(V:List (List Int)):List (List Int):=Yn D::V
def Nf(D:List Yk):Prop:=(∀d∈D,Zn d.2 3)/\Zn (D.map (·.1)) 3
instance (D:List Yk):Decidable (Nf D):=by unfold Nf;exact inferInstance
def N7(D:List Yk)(V:List (List Int)):Prop:=V.length<=6/\(∀v∈V,Z5 D v)/\(Yg D V).Nodup
instance (D:List Yk) (V:List (List Int)):Decidable (N7 D V):=by unfold N7;exact inferInstance
def Wk(D:List Yk)(M:List Txt)(V:List (List Int)):Prop:=Nf D/\Zn M 2/\N7 D V
instance (D:List Yk) (M:List Txt) (V:List (List Int)):Decidable (Wk D M V):=by unfold Wk;exact inferInstance
theorem Ysp{v w:List Int}(h:v.length=w.length)(he:∀i,i<v.length->v.getD i 0=w.getD i 0):v=w:=by
 apply fb h;intro i h1 h2
 have:=he i h1
 simpa[aa,ae h1,ae h2]using this
/-! ### The base covers each corner; each of all is one -/
theorem Tt(D:List Yk):(Yn D).length=D.length:=by simp[Yn]
theorem G7{D:List Yk}(h:i<D.length):(Yn D).getD i 0=((D.getD i Wp).2.length:Int):=by
 simp[Yn,aa,ae h]
theorem Fy(D:List Yk):Z5 D (Yn D):=
 ⟨Tt D,λi hi=>by
  rw[Tt]at hi;rw[G7 hi];omega⟩
/-! ### The number of a view -/
def bitsOf:Nat->Int->List Int
 |0,_=>[]
 |n+1,z=>z%2::bitsOf n (z/2)
def shR(z:Int):Nat->Int
 |0=>z
 |k+1=>shR z k/2
theorem Yhv(z:Int)(k:Nat):shR (z/2) k=shR z (k+1):=by
 induction k with
 |zero=>rfl
 |succ k ih=>show shR (z/2) k/2=_;rw[ih];rfl
theorem Yua(z:Int)(j k:Nat):shR (shR z j) k=shR z (j+k):=by
 induction k with
 |zero=>rfl
 |succ k ih=>show shR (shR z j) k/2=_;rw[ih];rfl
theorem Yl1(z:Int)(k:Nat):shR z k=z/2 ^ k:=by
 induction k with
 |zero=>simp[shR]
 |succ k ih=>
  show shR z k/2=_
  rw[ih,Int.ediv_ediv_of_nonneg (Int.le_of_lt (jf (by decide))),Int.pow_succ]
theorem Qt(n:Nat)(z:Int):(bitsOf n z).length=n:=by
 induction n generalizing z with
 |zero=>rfl
 |succ n ih=>simp[bitsOf,ih]
theorem Ykn(n:Nat)(z:Int)(k:Nat)(hk:k<n):(bitsOf n z)[k]?=some (shR z k%2):=by
 induction n generalizing z k with
 |zero=>omega
 |succ n ih=>
  cases k with
  |zero=>rfl
  |succ k=>
   show(bitsOf n (z/2))[k]?=_
   rw[ih _ k (by omega),Yhv]
theorem Sw(n:Nat)(z:Int)(k:Nat)(hk:k<n):(bitsOf n z).getD k 0=shR z k%2:=by
 rw[aa,Ykn n z k hk];rfl
theorem Fp(n:Nat)(z:Int):bitsOf (n+1) z=bitsOf n z++[shR z n%2]:=by
 induction n generalizing z with
 |zero=>rfl
 |succ n ih=>
  show z%2::bitsOf (n+1) (z/2)=z%2::(bitsOf n (z/2)++_)
  rw[ih,Yhv]
theorem Yid(m n:Nat)(z:Int)(h:m<=n):(bitsOf n z).take m=bitsOf m z:=by
 induction m generalizing n z with
 |zero=>rfl
 |succ m ih=>
  cases n with
  |zero=>omega
  |succ n=>show z%2::(bitsOf n (z/2)).take m=_;rw[ih n _ (by omega)];rfl
theorem Yk9(z:Int)(k:Nat):0<=shR z k%2/\shR z k%2<=1:=by omega
theorem Yfx(h0: -(2 ^ m)<=z)(h1:z<2 ^ m):(0<=z/\shR z m=0)∨(z<0/\shR z m=-1):=by
 have hp:(0:Int)<2 ^ m:=jf (by decide)
 rw[Yl1]
 by_cases h:0<=z
 ·exact .inl ⟨h,gi h h1⟩
 ·refine .inr ⟨by omega,?_⟩
  have e:z=(z+2 ^ m)+(-1)*2 ^ m:=by omega
  rw[e,Int.add_mul_ediv_right _ _ (by omega),gi (by omega) (by omega)]
  rfl
theorem Ypr(j:Nat)(h:z=0∨z=-1):shR z j=z:=by
 induction j with
 |zero=>rfl
 |succ j ih=>show shR z j/2=z;rw[ih];omega
theorem Yji{m:Int}(k:Nat)(h:m<=z)(hm:m<=0):m<=shR z k:=by
 induction k with
 |zero=>exact h
 |succ k ih=>show m<=shR z k/2;omega
theorem Yjm{m:Int}(k:Nat)(h:z<=m)(hm:0<=m):shR z k<=m:=by
 induction k with
 |zero=>exact h
 |succ k ih=>show shR z k/2<=m;omega
def Yaa(x y:Int)(k:Nat):Int:=shR (x+y) k-shR x k-shR y k
theorem Yct(x y:Int):Yaa x y 0=0:=by show x+y-x-y=0;omega
theorem Yg3(x y:Int)(k:Nat):0<=Yaa x y k/\Yaa x y k<=1:=by
 induction k with
 |zero=>rw[Yct];decide
 |succ k ih=>
  unfold Yaa at ih⊢
  show 0<=shR (x+y) k/2-shR x k/2-shR y k/2/\shR (x+y) k/2-shR x k/2-shR y k/2<=1
  omega
theorem Ysd(x y:Int)(k:Nat):(shR x k%2+shR y k%2+Yaa x y k)%2=shR (x+y) k%2:=by
 unfold Yaa;omega
theorem Yoi(x y:Int)(k:Nat):(shR x k%2+shR y k%2+Yaa x y k)/2=Yaa x y (k+1):=by
 have h:=Yg3 x y k
 unfold Yaa at h⊢
 show _=shR (x+y) k/2-shR x k/2-shR y k/2
 omega
def wHi(z:Int):Int:=z/4294967296
def wLo(z:Int):Int:=z%4294967296
def N4(hi lo:Int):Prop:=0<=lo/\lo<4294967296∧-1099511627776<=hi/\hi<=1099511627776
instance (hi lo:Int):Decidable (N4 hi lo):=by unfold N4;exact inferInstance
def Kp(hi lo:Int):Int:=hi*4294967296+lo
def wIn(z:Int):Prop:=-4722366482869645213696<=z/\z<=4722366482869645213696+4294967295
theorem Ydd(z:Int):N4 (wHi z) (wLo z)↔wIn z:=by unfold N4 wHi wLo wIn;omega
def Y4:List Int->Int
 |[]=>0
 |x::l=>x+Y4 l
theorem Be(a b:List Int):Y4 (a++b)=Y4 a+Y4 b:=by
 induction a with
 |nil=>simp[Y4]
 |cons x a ih=>simp only[iv,Y4,ih];omega
theorem Ybu{k:Nat}(hk:k<l.length):Y4 (l.take (k+1))=Y4 (l.take k)+l.getD k 0:=by
 rw[ei,Be,ae hk,aa,ae hk];simp[Y4]
theorem Eo(h:∀x∈l,-9223372036854775808<=x/\x<=9223372036854775807): -9223372036854775808*(l.length:Int)<=Y4 l/\Y4 l<=9223372036854775807*(l.length:Int):=by
 induction l with
 |nil=>simp[Y4]
 |cons x l ih=>
  have h0:=h x (by simp)
  have h1:=ih λy hy=>h y (by simp[hy])
  simp only[Y4,dg];omega
abbrev PC:=Int×List Int×List Int×List Int
def Yl:PC:=(0,[],[],[])
def inV(x:Int):Prop:=-2305843009213693952<=x/\x<=2305843009213693952
def inS(x:Int):Prop:=-4611686018427387904<=x/\x<=4611686018427387904
instance (x:Int):Decidable (inV x):=by unfold inV;exact inferInstance
instance (x:Int):Decidable (inS x):=by unfold inS;exact inferInstance
def Y0(m:Nat):PC:=(0,db m 0,db m 0,db m 0)
def S8(n s lo hi:Int):Prop:=lo<=hi/\inV lo/\inV hi/\inS s/\(n=1->s=lo/\s=hi)
instance (n s lo hi:Int):Decidable (S8 n s lo hi):=by unfold S8;exact inferInstance
def M7(c:PC):Prop:=1<=c.1/\c.1<=1099511627776/\∀i,i<c.2.1.length->S8 c.1 (c.2.1.getD i 0) (c.2.2.1.getD i 0) (c.2.2.2.getD i 0)
instance (c:PC):Decidable (M7 c):=by unfold M7;exact inferInstance
def Zo(c:PC):Prop:=c.2.1.length<=2/\c.2.2.1.length=c.2.1.length/\c.2.2.2.length=c.2.1.length/\(c=Y0 c.2.1.length∨M7 c)
instance (c:PC):Decidable (Zo c):=by unfold Zo;exact inferInstance
def W7(n s lo hi:Int):Prop:=(n=0/\s=0/\lo=0/\hi=0)∨(n≠0/\S8 n s lo hi)
instance (n s lo hi:Int):Decidable (W7 n s lo hi):=by unfold W7;exact inferInstance
theorem Rh(hl:l.length=m):l=db m 0↔∀i,i<m->l.getD i 0=0:=by
 constructor
 ·rintro rfl i hi
  simp[aa,hi]
 ·intro h
  apply fb (by simp[hl])
  intro k h1 h2
  have:=h k (by omega)
  rw[aa,ae h1]at this;simpa using this
theorem Sg(n:Int)(S M X:List Int):Zo (n,S,M,X)↔S.length<=2/\M.length=S.length/\X.length=S.length/\0<=n/\n<=1099511627776/\∀i,i<S.length->W7 n (S.getD i 0) (M.getD i 0) (X.getD i 0):=by
 unfold Zo
 show(S.length<=2/\M.length=S.length/\X.length=S.length/\((n,S,M,X)=Y0 S.length∨M7 (n,S,M,X)))↔_
 constructor
 ·rintro⟨h1,h2,h3,h4⟩
  refine⟨h1,h2,h3,?_⟩
  rcases h4 with h4|⟨h5,h6,h7⟩
  ·simp only[Y0,Prod.mk.injEq]at h4
   obtain⟨rfl,e1,e2,e3⟩:=h4
   have a1:=(Rh (l:=S) (m:=S.length) rfl).1 e1
   have a2:=(Rh h2).1 e2
   have a3:=(Rh h3).1 e3
   exact⟨by decide,by decide,λi hi=>.inl ⟨rfl,a1 i hi,a2 i hi,a3 i hi⟩⟩
  ·have h5:1<=n:=h5
   have h6:n<=1099511627776:=h6
   exact⟨by omega,h6,λi hi=>.inr ⟨by omega,h7 i hi⟩⟩
 ·rintro⟨h1,h2,h3,h4,h5,h6⟩
  refine⟨h1,h2,h3,?_⟩
  by_cases hn:n=0
  ·subst hn
   left
   have key:∀i,i<S.length->S.getD i 0=0/\M.getD i 0=0/\X.getD i 0=0:=λi hi=>by
    rcases h6 i hi with⟨_,a,b,c⟩|⟨h,_⟩
    ·exact⟨a,b,c⟩
    ·exact absurd rfl h
   simp only[Y0,Prod.mk.injEq];exact⟨trivial,(Rh (l:=S) (m:=S.length) rfl).2 λi hi=>(key i hi).1,(Rh h2).2 λi hi=>(key i hi).2.1,(Rh h3).2 λi hi=>(key i hi).2.2⟩
  ·right
   refine⟨by show 1<=n;omega,h5,λi hi=>?_⟩
   rcases h6 i hi with⟨h,_⟩|⟨_,h⟩
   ·exact absurd h hn
   ·exact h
theorem Kd(h:m<=2):Zo (Y0 m):=⟨by simpa[Y0]using h,by simp[Y0],by simp[Y0],.inl (by simp[Y0])⟩
/-! ### The least and the greatest -/
def Wy:List Int->Int
 |[]=>0
 |x::l=>l.foldl min x
def Ws:List Int->Int
 |[]=>0
 |x::l=>l.foldl max x
theorem Yc5(h:l≠[])(x:Int):Wy (l++[x])=min (Wy l) x:=by
 cases l with
 |nil=>exact absurd rfl h
 |cons y l=>simp[Wy]
theorem Ycd(h:l≠[])(x:Int):Ws (l++[x])=max (Ws l) x:=by
 cases l with
 |nil=>exact absurd rfl h
 |cons y l=>simp[Ws]
theorem Tq:∀(l:List Int),l≠[]->Wy l∈l/\∀y∈l,Wy l<=y:=by
 have key:∀(l:List Int) (x:Int),(l.foldl min x=x∨l.foldl min x∈l)/\l.foldl min x<=x/\∀y∈l,l.foldl min x<=y:=by
  intro l
  induction l with
  |nil=>intro x;exact⟨.inl rfl,fj _,λy hy=>by cases hy⟩
  |cons z l ih=>
   intro x;obtain⟨h1,h2,h3⟩:=ih (min x z);simp only[iz,ai];refine⟨?_,by omega,λy hy=>?_⟩
   ·rcases h1 with h|h
    ·rw[h]
     rcases je x z with h4|h4
     ·exact .inl (by omega)
     ·exact .inr (.inl (by omega))
    ·exact .inr (.inr h)
   ·rcases hy with rfl|hy
    ·omega
    ·exact h3 y hy
 intro l hl
 cases l with
 |nil=>exact absurd rfl hl
 |cons x l=>
  obtain⟨h1,h2,h3⟩:=key l x;refine⟨?_,λy hy=>?_⟩
  ·rcases h1 with h|h
   ·show l.foldl min x∈x::l
    rw[h];exact bs ..
   ·exact ag _ h
  ·rcases ai.1 hy with rfl|hy
   ·exact h2
   ·exact h3 y hy
theorem Tl:∀(l:List Int),l≠[]->Ws l∈l/\∀y∈l,y<=Ws l:=by
 have key:∀(l:List Int) (x:Int),(l.foldl max x=x∨l.foldl max x∈l)/\x<=l.foldl max x/\∀y∈l,y<=l.foldl max x:=by
  intro l
  induction l with
  |nil=>intro x;exact⟨.inl rfl,fj _,λy hy=>by cases hy⟩
  |cons z l ih=>
   intro x;obtain⟨h1,h2,h3⟩:=ih (max x z);simp only[iz,ai];refine⟨?_,by omega,λy hy=>?_⟩
   ·rcases h1 with h|h
    ·rw[h]
     rcases je x z with h4|h4
     ·exact .inr (.inl (by omega))
     ·exact .inl (by omega)
    ·exact .inr (.inr h)
   ·rcases hy with rfl|hy
    ·omega
    ·exact h3 y hy
 intro l hl
 cases l with
 |nil=>exact absurd rfl hl
 |cons x l=>
  obtain⟨h1,h2,h3⟩:=key l x;refine⟨?_,λy hy=>?_⟩
  ·rcases h1 with h|h
   ·show l.foldl max x∈x::l
    rw[h];exact bs ..
   ·exact ag _ h
  ·rcases ai.1 hy with rfl|hy
   ·exact h2
   ·exact h3 y hy
theorem Gi(ha:a≠[])(hb:b≠[])(h:∀x,x∈a↔x∈b):Wy a=Wy b:=by
 obtain⟨h1,h2⟩:=Tq a ha;obtain⟨h3,h4⟩:=Tq b hb
 have h5:=h2 _ ((h _).2 h3)
 have h6:=h4 _ ((h _).1 h1)
 omega
theorem Gd(ha:a≠[])(hb:b≠[])(h:∀x,x∈a↔x∈b):Ws a=Ws b:=by
 obtain⟨h1,h2⟩:=Tl a ha;obtain⟨h3,h4⟩:=Tl b hb
 have h5:=h2 _ ((h _).2 h3)
 have h6:=h4 _ ((h _).1 h1)
 omega
theorem Ypt(ha:a≠[])(hb:b≠[]):Wy (a++b)=min (Wy a) (Wy b):=by
 obtain⟨h1,h2⟩:=Tq a ha;obtain⟨h3,h4⟩:=Tq b hb;obtain⟨h5,h6⟩:=Tq (a++b) (by simp[ha])
 have h7:=h6 _ (du b h1)
 have h8:=h6 _ (dq a h3)
 rcases bn.1 h5 with h|h
 ·have:=h2 _ h;omega
 ·have:=h4 _ h;omega
theorem Ysu(ha:a≠[])(hb:b≠[]):Ws (a++b)=max (Ws a) (Ws b):=by
 obtain⟨h1,h2⟩:=Tl a ha;obtain⟨h3,h4⟩:=Tl b hb;obtain⟨h5,h6⟩:=Tl (a++b) (by simp[ha])
 have h7:=h6 _ (du b h1)
 have h8:=h6 _ (dq a h3)
 rcases bn.1 h5 with h|h
 ·have:=h2 _ h;omega
 ·have:=h4 _ h;omega
theorem Yc7(h:a.Perm b):Y4 a=Y4 b:=by
 induction h with
 |nil=>rfl
 |cons x _ ih=>simp only[Y4,ih]
 |swap x y l=>simp only[Y4];omega
 |trans _ _ h1 h2=>rw[h1,h2]
/-! ### Folds -/
def isVal(m:Int)(v:List Int):Prop:=(v.length:Int)=m/\∀x∈v,inV x
instance (m:Int) (v:List Int):Decidable (isVal m v):=by unfold isVal;exact inferInstance
def Wq(l:List (List Int))(k:Nat):List Int:=l.map λv=>v.getD k 0
def S3(m:Nat)(l:List (List Int)):PC:=(l.length,(av m).map λk=>Y4 (Wq l k),(av m).map λk=>Wy (Wq l k),(av m).map λk=>Ws (Wq l k))
def Vf(m:Int)(l:List (List Int)):PC×Int:=
 if m<0∨2<m then (Yl,1)
 else if ∃v∈l,¬isVal m v then (Yl,1)
 else if l=[]then (Y0 m.toNat,0)
 else if ∀k,k<m.toNat->inS (Y4 (Wq l k))then (S3 m.toNat l,0)
 else (Yl,14)
/-! ### Two together -/
def P7(a b:PC):PC:=(a.1+b.1,bj (·+·) a.2.1 b.2.1,bj min a.2.2.1 b.2.2.1,bj max a.2.2.2 b.2.2.2)
def Zs(a b:PC):PC×Int:=
 if ¬Zo a∨¬Zo b∨a.2.1.length≠b.2.1.length then (Yl,1)
 else if a.1=0 then (b,0)
 else if b.1=0 then (a,0)
 else if (∀k,k<a.2.1.length->inS ((P7 a b).2.1.getD k 0))/\a.1+b.1<=1099511627776 then (P7 a b,0)
 else (Yl,14)
theorem Nc(m:Nat)(l:List (List Int)):(S3 m l).2.1.length=m/\(S3 m l).2.2.1.length=m/\(S3 m l).2.2.2.length=m:=by simp[S3]
theorem Gq{k:Nat}(l:List (List Int))(h:k<m):(S3 m l).2.1.getD k 0=Y4 (Wq l k)/\(S3 m l).2.2.1.getD k 0=Wy (Wq l k)/\(S3 m l).2.2.2.getD k 0=Ws (Wq l k):=by
 simp[S3,aa,h]
theorem Bz{l:List (List Int)}(h:∀v∈l,isVal m v){k:Nat}(hk:k<m):∀x∈Wq l k,inV x:=by
 intro x hx;obtain⟨v,hv,rfl⟩:=ak.1 hx;obtain⟨h1,h2⟩:=h v hv
 have hl:k<v.length:=by omega
 rw[aa,ae hl];exact h2 _ (dh hl)
theorem Ylk{l:List (List Int)}(h:l≠[])(k:Nat):Wq l k≠[]:=by simp[Wq,h]
theorem Ypa{l:List (List Int)}(hm:m<=2)(hl:l≠[])(hn:l.length<=1000)(hv:∀v∈l,isVal m v)(hs:∀k,k<m->inS (Y4 (Wq l k))):Zo (S3 m l):=by
 obtain⟨h1,h2,h3⟩:=Nc m l;refine⟨by omega,by omega,by omega,.inr ⟨?_,?_,λi hi=>?_⟩⟩
 ·have:0<l.length:=dy.2 hl
  show 1<=(l.length:Int)
  omega
 ·show(l.length:Int)<=_
  omega
 ·rw[h1]at hi
  obtain⟨e1,e2,e3⟩:=Gq l hi;rw[e1,e2,e3];obtain⟨a1,a2⟩:=Tq _ (Ylk hl i);obtain⟨b1,b2⟩:=Tl _ (Ylk hl i);refine⟨a2 _ b1,Bz hv hi _ a1,Bz hv hi _ b1,hs i hi,λe=>?_⟩
  have e:(l.length:Int)=1:=e
  match l,hl,e with
  |[v],_,_=>simp[Wq,Y4,Wy,Ws]
  |_::_::_,_,e=>simp at e;omega
theorem Z3(ha:a.length=m)(hb:b.length=m)(h:∀k,k<m->a.getD k 0=b.getD k 0):a=b:=by
 apply fb (by omega)
 intro k h1 h2
 have:=h k (by omega)
 rwa [aa,aa,ae h1,ae h2]at this
theorem Ro(f:Int->Int->Int){a b:List Int}{m k:Nat}(ha:a.length=m)(hb:b.length=m)(hk:k<m):(bj f a b).getD k 0=f (a.getD k 0) (b.getD k 0):=by
 simp only[aa,gh,ae (show k<a.length by omega),ae (show k<b.length by omega)]
 rfl
theorem Tx{m:Int}{l:List (List Int)}(h:m<0∨2<m∨∃v∈l,¬isVal m v):Vf m l=(Yl,1):=by
 unfold Vf
 by_cases h1:m<0∨2<m
 ·rw[if_pos h1]
 ·rw[if_neg h1,if_pos (by rcases h with h|h|h;exact absurd (.inl h) h1;exact absurd (.inr h) h1;exact h)]
theorem Dt{m:Int}(h:¬(m<0∨2<m)):Vf m []=(Y0 m.toNat,0):=by
 unfold Vf;rw[if_neg h,if_neg (by simp),if_pos rfl]
theorem J4{m:Int}{l:List (List Int)}(h:¬(m<0∨2<m))(hv:∀v∈l,isVal m v)(hl:l≠[]):Vf m l=if ∀k,k<m.toNat->inS (Y4 (Wq l k))then (S3 m.toNat l,0)else (Yl,14):=by
 unfold Vf;rw[if_neg h,if_neg (by rintro⟨v,h1,h2⟩;exact h2 (hv v h1)),if_neg hl]
/-! ### Many together -/
def Y5(l:List PC):List PC:=l.filter λc=>decide (c.1≠0)
def Yp(m:Nat)(l:List PC):PC:=
 (Y4 (l.map (·.1)),(av m).map λk=>Y4 (l.map λc=>c.2.1.getD k 0),(av m).map λk=>Wy ((Y5 l).map λc=>c.2.2.1.getD k 0),(av m).map λk=>Ws ((Y5 l).map λc=>c.2.2.2.getD k 0))
def Fu(l:List PC):Nat:=(l.headD Yl).2.1.length
def Um(l:List PC):PC×Int:=
 if l=[]∨∃c∈l,¬Zo c∨c.2.1.length≠Fu l then (Yl,1)
 else if Y4 (l.map (·.1))<=1099511627776/\∀k,k<Fu l->inS (Y4 (l.map λc=>c.2.1.getD k 0))then (Yp (Fu l) l,0)
 else (Yl,14)
theorem Rn{c:PC}(h:Zo c)(hm:c.2.1.length=m)(h0:c.1=0):c=Y0 m:=by
 obtain⟨_,_,_,h4|⟨h5,_⟩⟩:=h
 ·rw[hm]at h4;exact h4
 ·omega
theorem Mc{f:PC->Int}: ∀{L:List PC},(∀c∈L,c.1=0->f c=0)->Y4 (L.map f)=Y4 ((Y5 L).map f):=by
 intro L
 induction L with
 |nil=>intro _;rfl
 |cons c L ih=>
  intro h
  have h1:=ih λd hd=>h d (ag _ hd)
  unfold Y5 at h1⊢
  by_cases h0:c.1=0
  ·rw[ft (by simpa using h0),ar]
   simp only[Y4];rw[h c (bs ..) h0,h1,Int.zero_add]
  ·rw[List.filter_cons_of_pos (by simpa using h0),ar,ar]
   simp only[Y4];rw[h1]
theorem Yhd(L:List PC):Y5 (Y5 L)=Y5 L:=by
 unfold Y5;exact cn.2 λc hc=>(iy.1 hc).2
theorem Kf(m k:Nat):(Y0 m).2.1.getD k 0=0:=by
 simp only[Y0,aa,List.getElem?_replicate]
 split <;> rfl
theorem Ur{L:List PC}(h:∀c∈L,c.1=0->c=Y0 m):Yp m L=Yp m (Y5 L):=by
 unfold Yp;rw[Yhd,Mc (f:=(·.1)) (λc _ h0=>h0)]
 have h2:∀k,Y4 (L.map λc=>c.2.1.getD k 0)=Y4 ((Y5 L).map λc=>c.2.1.getD k 0):=λk=>
  Mc (f:=λc=>c.2.1.getD k 0) λc hc h0=>by show c.2.1.getD k 0=0;rw[h c hc h0];exact Kf m k
 simp only[h2]
theorem Gz(m:Nat):Yp m []=Y0 m:=by
 simp[Yp,Y0,Y4,Y5,Wy,Ws,List.map_const']
theorem Yhm{c:PC}(h:Zo c)(hm:c.2.1.length=m)(h0:c.1≠0):Yp m [c]=c:=by
 have hf:Y5 [c]=[c]:=by unfold Y5;simp[h0]
 obtain⟨_,l2,l3,_⟩:=h;refine bp ?_ (bp ?_ (bp ?_ ?_))
 ·simp[Yp,Y4]
 ·refine Z3 (m:=m) (by simp[Yp]) hm λk hk=>?_
  simp[Yp,Y4,aa,hk]
 ·refine Z3 (m:=m) (by simp[Yp]) (by omega) λk hk=>?_
  unfold Yp;rw[hf];simp[Wy,aa,hk]
 ·refine Z3 (m:=m) (by simp[Yp]) (by omega) λk hk=>?_
  unfold Yp;rw[hf];simp[Ws,aa,hk]
theorem Yhq(h:∀x∈l,1<=x):(l.length:Int)<=Y4 l:=by
 induction l with
 |nil=>simp[Y4]
 |cons x l ih=>
  have h1:=h x (by simp)
  have h2:=ih λy hy=>h y (by simp[hy])
  simp only[Y4,dg];omega
theorem Yfz{L:List PC}(hm:m<=2)(hL:∀c∈L,Zo c/\c.2.1.length=m)(hf:Y5 L≠[]):
  Zo (Yp m L)↔Y4 (L.map (·.1))<=1099511627776/\∀k,k<m->inS (Y4 (L.map λc=>c.2.1.getD k 0)):=by
 have hemp:∀c∈L,c.1=0->c=Y0 m:=λc hc h0=>Rn (hL c hc).1 (hL c hc).2 h0
 have hfull:∀c∈Y5 L,1<=c.1/\Zo c/\c.2.1.length=m/\∀k,k<m->S8 c.1 (c.2.1.getD k 0) (c.2.2.1.getD k 0) (c.2.2.2.getD k 0):=by
  intro c hc;obtain⟨h1,h2⟩:=iy.1 hc;obtain⟨h3,h4⟩:=hL c h1
  have h5:c.1≠0:=by simpa using h2
  have h6:=h3
  obtain⟨n,S,M,X⟩:=c;obtain⟨_,_,_,a1,_,a2⟩:=(Sg n S M X).1 h6
  have h5:n≠0:=h5
  have h4':S.length=m:=h4
  refine⟨by show 1<=n;omega,h3,h4,λk hk=>?_⟩
  rcases a2 k (by omega)with⟨h,_⟩|⟨_,h⟩
  ·exact absurd h h5
  ·exact h
 have e1:Y4 (L.map (·.1))=Y4 ((Y5 L).map (·.1)):=Mc (f:=(·.1)) (λc _ h0=>h0)
 have e2:∀k,Y4 (L.map λc=>c.2.1.getD k 0)=Y4 ((Y5 L).map λc=>c.2.1.getD k 0):=λk=>
  Mc (f:=λc=>c.2.1.getD k 0) λc hc h0=>by show c.2.1.getD k 0=0;rw[hemp c hc h0];exact Kf m k
 have hlen:0<(Y5 L).length:=dy.2 hf
 have hpos:((Y5 L).length:Int)<=Y4 ((Y5 L).map (·.1)):=by
  have:=Yhq (l:=(Y5 L).map (·.1)) λx hx=>by
   obtain⟨c,hc,rfl⟩:=ak.1 hx;exact(hfull c hc).1
  rwa [fi]at this
 have eS:∀k,k<m->(Yp m L).2.1.getD k 0=Y4 (L.map λc=>c.2.1.getD k 0):=λk hk=>by simp[Yp,aa,hk]
 have eM:∀k,k<m->(Yp m L).2.2.1.getD k 0=Wy ((Y5 L).map λc=>c.2.2.1.getD k 0):=λk hk=>by simp[Yp,aa,hk]
 have eX:∀k,k<m->(Yp m L).2.2.2.getD k 0=Ws ((Y5 L).map λc=>c.2.2.2.getD k 0):=λk hk=>by simp[Yp,aa,hk]
 have l1:(Yp m L).2.1.length=m:=by simp[Yp]
 have l2:(Yp m L).2.2.1.length=m:=by simp[Yp]
 have l3:(Yp m L).2.2.2.length=m:=by simp[Yp]
 have e0:(Yp m L).1=Y4 (L.map (·.1)):=rfl
 generalize Yp m L=s at eS eM eX l1 l2 l3 e0⊢;obtain⟨n,S,M,X⟩:=s
 have eS:∀k,k<m->S.getD k 0=Y4 (L.map λc=>c.2.1.getD k 0):=eS
 have eM:∀k,k<m->M.getD k 0=Wy ((Y5 L).map λc=>c.2.2.1.getD k 0):=eM
 have eX:∀k,k<m->X.getD k 0=Ws ((Y5 L).map λc=>c.2.2.2.getD k 0):=eX
 have l1:S.length=m:=l1
 have l2:M.length=m:=l2
 have l3:X.length=m:=l3
 have e0:n=Y4 (L.map (·.1)):=e0
 rw[Sg];constructor
 ·rintro⟨_,_,_,_,h5,h6⟩
  refine⟨by omega,λk hk=>?_⟩
  rcases h6 k (by omega)with⟨h,_⟩|⟨_,_,_,_,h,_⟩
  ·omega
  ·rwa [eS k hk]at h
 ·rintro⟨h1,h2⟩
  refine⟨by omega,by omega,by omega,by omega,by omega,λk hk=>.inr ⟨by omega,?_⟩⟩
  rw[l1]at hk;rw[eS k hk,eM k hk,eX k hk]
  have ne1:((Y5 L).map λc=>c.2.2.1.getD k 0)≠[]:=by simpa using hf
  have ne2:((Y5 L).map λc=>c.2.2.2.getD k 0)≠[]:=by simpa using hf
  obtain⟨a1,a2⟩:=Tq _ ne1;obtain⟨b1,b2⟩:=Tl _ ne2;obtain⟨c,hc,ec⟩:=ak.1 a1;obtain⟨d,hd,ed⟩:=ak.1 b1
  have mc:=(hfull c hc).2.2.2 k hk
  have md:=(hfull d hd).2.2.2 k hk
  have hcd:c.2.2.2.getD k 0<=Ws ((Y5 L).map λc=>c.2.2.2.getD k 0):=b2 _ (ak.2 ⟨c,hc,rfl⟩)
  refine⟨?_,?_,?_,h2 k hk,λhn=>?_⟩
  ·rw[<-ec]
   have:=mc.1
   exact Int.le_trans this hcd
  ·rw[<-ec];exact mc.2.1
  ·rw[<-ed];exact md.2.2.1
  ·rw[e0,e1]at hn
   rw[e2]
   match hx:Y5 L,hlen,hpos with
   |[x],_,_=>
    rw[hx]at hn
    have hx1:=(hfull x (by rw[hx];simp)).2.2.2 k hk
    have hx2:x.1=1:=by simpa[Y4]using hn
    obtain⟨_,_,_,_,h⟩:=hx1
    have h:=h hx2
    simp only[ar,dm,Y4,Wy,Ws,List.foldl_nil];omega
   |x::y::t,_,hp=>
    rw[hx]at hn;simp only[dg]at hp;omega
theorem Yqa{L:List PC}(h:L≠[])(hL:∀c∈L,c.2.1.length=m):Fu L=m:=by
 cases L with
 |nil=>exact absurd rfl h
 |cons c L=>exact hL c (bs ..)
theorem Kn{L:List PC}(h:L=[]∨∃c∈L,¬Zo c∨c.2.1.length≠Fu L):Um L=(Yl,1):=if_pos h
theorem Nv{L:List PC}(hm:m<=2)(hn:L≠[])(hL:∀c∈L,Zo c/\c.2.1.length=m):Um L=if Zo (Yp m L)then (Yp m L,0)else (Yl,14):=by
 have hh:=Yqa hn λc hc=>(hL c hc).2
 unfold Um;rw[if_neg (by rintro(h|⟨c,hc,h|h⟩);exact hn h;exact h (hL c hc).1;exact h (by rw[hh];exact(hL c hc).2)),hh]
 by_cases hf:Y5 L=[]
 ·have hs:Yp m L=Y0 m:=by
   rw[Ur (λc hc h0=>Rn (hL c hc).1 (hL c hc).2 h0),hf];exact Gz m
  rw[if_pos (show Zo (Yp m L)from by rw[hs];exact Kd hm),if_pos]
  have e0:(Yp m L).1=Y4 (L.map (·.1)):=rfl
  have eS:∀k,k<m->(Yp m L).2.1.getD k 0=Y4 (L.map λc=>c.2.1.getD k 0):=λk hk=>by simp[Yp,aa,hk]
  refine⟨by rw[<-e0,hs];exact(by decide:(0:Int)<=1099511627776),λk hk=>?_⟩
  rw[<-eS k hk,hs,Kf];exact⟨by decide,by decide⟩
 ·simp only[Yfz hm hL hf]
theorem Ybj{L:List PC}(hm:m<=2)(hn:L≠[])(hL:∀c∈L,Zo c/\c.2.1.length=m)(h0:∀c∈L,c.1=0):Um L=(Y0 m,0):=by
 have hf:Y5 L=[]:=by unfold Y5;exact dn.2 λc hc=>by simpa using h0 c hc
 have hs:Yp m L=Y0 m:=by
  rw[Ur (λc hc h0=>Rn (hL c hc).1 (hL c hc).2 h0),hf];exact Gz m
 rw[Nv hm hn hL,hs,if_pos (Kd hm)]
theorem Ycy{L:List PC}(hm:m<=2)(hn:L≠[])(hL:∀c∈L,Zo c/\c.2.1.length=m){k:Nat}(h0:∀c∈L.take k,c.1=0):Um L=if Zo (Yp m (L.drop k))then (Yp m (L.drop k),0)else (Yl,14):=by
 have hE:∀{L:List PC},(∀c∈L,Zo c/\c.2.1.length=m)->∀c∈L,c.1=0->c=Y0 m:=λhL c hc h0=>Rn (hL c hc).1 (hL c hc).2 h0
 have hs:Yp m (L.drop k)=Yp m L:=by
  rw[Ur (hE hL),Ur (hE λc hc=>hL c (List.mem_of_mem_drop hc))]
  congr 1
  have:Y5 (L.take k)=[]:=by unfold Y5;exact dn.2 λc hc=>by simpa using h0 c hc
  have h2:Y5 (L.take k++L.drop k)=Y5 (L.take k)++Y5 (L.drop k):=by unfold Y5;exact ij ..
  rw[dp,this,ix]at h2;exact h2.symm
 rw[hs];exact Nv hm hn hL
theorem Yqc{a b:PC}(ha:Zo a)(hb:Zo b)(la:a.2.1.length=m)(lb:b.2.1.length=m)(a0:a.1≠0)(b0:b.1≠0):Yp m [a,b]=P7 a b:=by
 have hf:Y5 [a,b]=[a,b]:=by unfold Y5;simp[a0,b0]
 obtain⟨_,a2,a3,_⟩:=ha;obtain⟨_,b2,b3,_⟩:=hb;refine bp ?_ (bp ?_ (bp ?_ ?_))
 ·simp[Yp,Y4,P7]
 ·refine Z3 (m:=m) (by simp[Yp]) (by simp[P7];omega) λk hk=>?_
  rw[show(P7 a b).2.1=bj (·+·) a.2.1 b.2.1 from rfl,Ro _ la lb hk]
  simp[Yp,Y4,aa,hk]
 ·refine Z3 (m:=m) (by simp[Yp]) (by simp[P7];omega) λk hk=>?_
  rw[show(P7 a b).2.2.1=bj min a.2.2.1 b.2.2.1 from rfl,Ro _ (by omega) (by omega) hk]
  unfold Yp;rw[hf];simp[Wy,aa,hk]
 ·refine Z3 (m:=m) (by simp[Yp]) (by simp[P7];omega) λk hk=>?_
  rw[show(P7 a b).2.2.2=bj max a.2.2.2 b.2.2.2 from rfl,Ro _ (by omega) (by omega) hk]
  unfold Yp;rw[hf];simp[Ws,aa,hk]
theorem Yfl(a b:PC):Um [a,b]=Zs a b:=by
 by_cases h:¬Zo a∨¬Zo b∨a.2.1.length≠b.2.1.length
 ·have h1:Zs a b=(Yl,1):=if_pos h
  rw[h1];refine Kn (.inr ?_)
  rcases h with h|h|h
  ·exact⟨a,by simp,.inl h⟩
  ·exact⟨b,by simp,.inl h⟩
  ·exact⟨b,by simp,.inr λe=>h e.symm⟩
 ·have ha:Zo a:=bo λh1=>h (.inl h1)
  have hb:Zo b:=bo λh1=>h (.inr (.inl h1))
  have hl:a.2.1.length=b.2.1.length:=bo λh1=>h (.inr (.inr h1))
  have hL:∀c∈[a,b],Zo c/\c.2.1.length=a.2.1.length:=by
   intro c hc;simp only[ai,iq,or_false]at hc
   rcases hc with rfl|rfl
   ·exact⟨ha,rfl⟩
   ·exact⟨hb,hl.symm⟩
  have hm:a.2.1.length<=2:=ha.1
  have hE:∀c∈[a,b],c.1=0->c=Y0 a.2.1.length:=λc hc h0=>Rn (hL c hc).1 (hL c hc).2 h0
  rw[Nv hm (by simp) hL]
  unfold Zs;rw[if_neg h]
  by_cases a0:a.1=0
  ·rw[if_pos a0]
   by_cases b0:b.1=0
   ·have hs:Yp a.2.1.length [a,b]=b:=by
     rw[Ur hE,show Y5 [a,b]=[]from by unfold Y5;simp[a0,b0],Gz]
     exact(Rn hb hl.symm b0).symm
    rw[hs,if_pos hb]
   ·have hs:Yp a.2.1.length [a,b]=b:=by
     rw[Ur hE,show Y5 [a,b]=[b]from by unfold Y5;simp[a0,b0],Yhm hb hl.symm b0]
    rw[hs,if_pos hb]
  ·rw[if_neg a0]
   by_cases b0:b.1=0
   ·have hs:Yp a.2.1.length [a,b]=a:=by
     rw[Ur hE,show Y5 [a,b]=[a]from by unfold Y5;simp[a0,b0],Yhm ha rfl a0]
    rw[hs,if_pos ha,if_pos b0]
   ·rw[if_neg b0]
    have hs:=Yqc ha hb rfl hl.symm a0 b0
    have hf:Y5 [a,b]≠[]:=by unfold Y5;simp[a0,b0]
    have hc:=Yfz hm hL hf
    rw[hs]at hc⊢
    have e1:Y4 ([a,b].map (·.1))=a.1+b.1:=by simp[Y4]
    have e2:∀k,k<a.2.1.length->Y4 ([a,b].map λc=>c.2.1.getD k 0)=(P7 a b).2.1.getD k 0:=λk hk=>by
     rw[show(P7 a b).2.1=bj (·+·) a.2.1 b.2.1 from rfl,Ro _ rfl hl.symm hk]
     simp[Y4]
    rw[e1]at hc
    have hc2:Zo (P7 a b)↔(∀k,k<a.2.1.length->inS ((P7 a b).2.1.getD k 0))/\a.1+b.1<=1099511627776:=by
     rw[hc];exact⟨fun⟨h1,h2⟩=>⟨λk hk=>by rw[<-e2 k hk];exact h2 k hk,h1⟩,fun⟨h1,h2⟩=>⟨h2,λk hk=>by rw[e2 k hk];exact h1 k hk⟩⟩
    simp only[hc2]
def W6(v:List Int):PC:=(1,v,v,v)
theorem Jk(hm:m<=2)(v:List Int):(Zo (W6 v)/\(W6 v).2.1.length=m)↔isVal m v:=by
 unfold W6 isVal;rw[Sg];constructor
 ·rintro⟨⟨_,_,_,_,_,h⟩,hl⟩
  have hl:v.length=m:=hl
  refine⟨by omega,λx hx=>?_⟩
  obtain⟨k,hk,rfl⟩:=List.mem_iff_getElem.1 hx
  rcases h k hk with⟨h,_⟩|⟨_,_,h,_⟩
  ·cases h
  ·rwa [aa,ae hk]at h
 ·rintro⟨hl,h⟩
  have hl:v.length=m:=by omega
  refine⟨⟨by omega,rfl,rfl,by decide,by decide,λk hk=>.inr ⟨by decide,?_⟩⟩,hl⟩
  rw[aa,ae hk]
  have hx:=h _ (dh hk)
  refine⟨fj _,hx,hx,?_,λ_=>⟨rfl,rfl⟩⟩
  unfold inV at hx;unfold inS;simp only[Option.getD_some];omega
theorem Ybl(hm:m<=2)(l:List (List Int))(hn:l.length<=1000):Um (Y0 m::l.map W6)=Vf m l:=by
 have hm': ¬((m:Int)<0∨2<(m:Int)):=by omega
 by_cases hv:∃v∈l,¬isVal m v
 ·rw[Tx (.inr (.inr hv))]
  obtain⟨v,h1,h2⟩:=hv;refine Kn (.inr ⟨W6 v,ag _ (ak.2 ⟨v,h1,rfl⟩),?_⟩)
  have hh:Fu (Y0 m::l.map W6)=m:=by show(db m (0:Int)).length=m;simp
  rw[hh]
  by_cases h3:Zo (W6 v)
  ·exact .inr λh4=>h2 ((Jk hm v).1 ⟨h3,h4⟩)
  ·exact .inl h3
 ·have hv': ∀v∈l,isVal m v:=λv h1=>bo λh2=>hv ⟨v,h1,h2⟩
  have hem:Zo (Y0 m)/\(Y0 m).2.1.length=m:=⟨Kd hm,by simp[Y0]⟩
  have hL:∀c∈Y0 m::l.map W6,Zo c/\c.2.1.length=m:=by
   intro c hc
   rcases ai.1 hc with rfl|hc
   ·exact hem
   ·obtain⟨v,h1,rfl⟩:=ak.1 hc
    exact(Jk hm v).2 (hv' v h1)
  by_cases hl:l=[]
  ·subst hl
   rw[Dt hm',iw];exact Ybj hm (by simp) hL λc hc=>by
    simp only[dm,ai,iq,or_false]at hc;rw[hc];rfl
  ·rw[J4 hm' hv' hl,iw,Nv hm (by simp) hL]
   have hfl:Y5 (l.map W6)=l.map W6:=by
    unfold Y5;exact cn.2 λc hc=>by
     obtain⟨v,_,rfl⟩:=ak.1 hc;simp[W6]
   have hff:Y5 (Y0 m::l.map W6)=l.map W6:=by
    have:Y5 (Y0 m::l.map W6)=Y5 (l.map W6):=by unfold Y5;rw[ft (by simp[Y0])]
    rw[this,hfl]
   have hs:Yp m (Y0 m::l.map W6)=S3 m l:=by
    rw[Ur (λc hc h0=>Rn (hL c hc).1 (hL c hc).2 h0),hff]
    unfold Yp S3 Wq;rw[hfl];simp only[jc];refine bp ?_ rfl
    have:∀l:List (List Int),Y4 (l.map ((λx:PC=>x.1) ∘ W6))=(l.length:Int):=by
     intro l
     induction l with
     |nil=>rfl
     |cons v l ih=>
      simp only[ar,Y4,ih,dg]
      show(1:Int)+_=_
      omega
    exact this l
   have hc:Zo (S3 m l)↔∀k,k<m->inS (Y4 (Wq l k)):=by
    constructor
    ·intro h k hk
     rcases hf:S3 m l with⟨n,S,M,X⟩
     have e:=(Gq l hk).1
     have el:=(Nc m l).1
     rw[hf]at h e el;obtain⟨_,_,_,_,_,h6⟩:=(Sg n S M X).1 h
     rcases h6 k (by have:S.length=m:=el;omega)with⟨h0,h1,_⟩|⟨_,_,_,_,h1,_⟩
     ·rw[<-e]
      show inS (S.getD k 0)
      rw[h1];exact⟨by decide,by decide⟩
     ·rw[<-e];exact h1
    ·exact λh=>Ypa hm hl hn hv' h
   rw[hs];simp only[hc]
def Ze:List Int->List Int->Bool
 |[],[]=>false
 |[],_::_=>true
 |_::_,[]=>false
 |a::p,b::q=>if a=b then Ze p q else decide (a<b)
theorem Vi:∀p:List Int,Ze p p=false
 |[]=>rfl
 |a::p=>by rw[Ze,if_pos rfl];exact Vi p
theorem Vb:∀{p q r:List Int},Ze p q=true->Ze q r=true->Ze p r=true
 |[],[],_,h,_=>by simp[Ze]at h
 |[],_::_,[],_,h=>by simp[Ze]at h
 |[],_::_,_::_,_,_=>rfl
 |_::_,[],_,h,_=>by simp[Ze]at h
 |_::_,_::_,[],_,h=>by simp[Ze]at h
 |a::p,b::q,c::r,h,h'=>by
  rw[Ze]at h h'⊢
  by_cases h1:a=b
  ·subst h1
   rw[if_pos rfl]at h
   by_cases h2:a=c
   ·rw[if_pos h2]at h'⊢
    exact Vb h h'
   ·rw[if_neg h2]at h'⊢
    exact h'
  ·rw[if_neg h1]at h
   have h1':=of_decide_eq_true h
   by_cases h2:b=c
   ·subst h2
    rw[if_neg h1];exact h
   ·rw[if_neg h2]at h'
    have h2':=of_decide_eq_true h'
    rw[if_neg (by omega)]
    exact decide_eq_true (by omega)
theorem Q7:∀p q:List Int,Ze p q=true∨p=q∨Ze q p=true
 |[],[]=>.inr (.inl rfl)
 |[],_::_=>.inl rfl
 |_::_,[]=>.inr (.inr rfl)
 |a::p,b::q=>by
  rw[Ze,Ze]
  by_cases h:a=b
  ·subst h
   rw[if_pos rfl,if_pos rfl]
   rcases Q7 p q with h|h|h
   ·exact .inl h
   ·exact .inr (.inl (by rw[h]))
   ·exact .inr (.inr h)
  ·rw[if_neg h,if_neg (λe=>h e.symm)]
   rcases Int.lt_or_gt_of_ne h with h1|h1
   ·exact .inl (decide_eq_true h1)
   ·exact .inr (.inr (decide_eq_true h1))
theorem Ek(h:Ze p q=true):Ze q p=false:=by
 rcases h2:Ze q p with _|_
 ·rfl
 ·have:=Vb h h2
  rw[Vi]at this
  cases this
theorem W9(h:Ze p q=true):p≠q:=by
 intro e;subst e;rw[Vi]at h
 cases h
abbrev Cub:=List (List Int×PC)
def Ris(C:Cub):Prop:=C.Pairwise λa b=>Ze a.1 b.1=true
def Za:Cub->List Int->Option PC
 |[],_=>none
 |e::C,k=>if e.1=k then some e.2 else Za C k
def Wo:Cub->List Int->PC->Cub
 |[],k,x=>[(k,x)]
 |e::C,k,x=>if e.1=k then (k,x)::C else if Ze k e.1 then (k,x)::e::C else e::Wo C k x
theorem Xg{C:Cub}{x:PC}(h:Za C k=some x):(k,x)∈C:=by
 induction C with
 |nil=>cases h
 |cons e C ih=>
  rw[Za]at h
  split at h
  ·rename_i he
   injection h with h
   subst h he;simp
  ·exact ag _ (ih h)
theorem Us{C:Cub}(hC:Ris C){k:List Int}{x:PC}(h:(k,x)∈C):Za C k=some x:=by
 induction C with
 |nil=>simp at h
 |cons e C ih=>
  rw[Za]
  rcases ai.1 h with h|h
  ·rw[<-h,if_pos rfl]
  ·have h1:=(aj.1 hC).1 _ h
   rw[if_neg (W9 h1)];exact ih (aj.1 hC).2 h
theorem Tw{C:Cub}:Za C k=none↔k∉C.map (·.1):=by
 induction C with
 |nil=>simp[Za]
 |cons e C ih=>
  rw[Za]
  split
  ·rename_i he
   simp[he]
  ·rename_i he
   rw[ih];simp only[ar,ai,not_or];exact⟨λh=>⟨λe'=>he e'.symm,h⟩,λh=>h.2⟩
theorem Jf{C:Cub}{x:PC}{e:List Int×PC}(h:e∈Wo C k x):e=(k,x)∨e∈C:=by
 induction C with
 |nil=>rw[Wo]at h;exact .inl (an.1 h)
 |cons d C ih=>
  rw[Wo]at h
  split at h
  ·rcases ai.1 h with h|h
   ·exact .inl h
   ·exact .inr (ag _ h)
  ·split at h
   ·rcases ai.1 h with h|h
    ·exact .inl h
    ·exact .inr h
   ·rcases ai.1 h with h|h
    ·exact .inr (h▸bs)
    ·rcases ih h with h|h
     ·exact .inl h
     ·exact .inr (ag _ h)
theorem Yah{C:Cub}(h:Ris C)(k:List Int)(x:PC):Ris (Wo C k x):=by
 induction C with
 |nil=>exact fq _ _
 |cons e C ih=>
  obtain⟨h1,h2⟩:=aj.1 h;rw[Wo]
  split
  ·rename_i he
   subst he;exact aj.2 ⟨h1,h2⟩
  ·rename_i he
   split
   ·rename_i hl
    refine aj.2 ⟨λd hd=>?_,h⟩
    rcases ai.1 hd with hd|hd
    ·rw[hd];exact hl
    ·exact Vb hl (h1 d hd)
   ·rename_i hl
    refine aj.2 ⟨λd hd=>?_,ih h2⟩
    rcases Jf hd with hd|hd
    ·rw[hd]
     rcases Q7 e.1 k with h3|h3|h3
     ·exact h3
     ·exact absurd h3 he
     ·exact absurd h3 hl
    ·exact h1 d hd
theorem Uq{C:Cub}(k:List Int)(x:PC)(j:List Int):Za (Wo C k x) j=if j=k then some x else Za C j:=by
 induction C with
 |nil=>
  show(if k=j then some x else none)=if j=k then some x else none
  by_cases h:j=k
  ·rw[if_pos h,if_pos h.symm]
  ·rw[if_neg h,if_neg λe=>h e.symm]
 |cons e C ih=>
  rw[Wo]
  by_cases he:e.1=k
  ·rw[if_pos he,Za,Za]
   by_cases h:j=k
   ·rw[if_pos h,if_pos h.symm]
   ·rw[if_neg h,if_neg λe=>h e.symm,if_neg λe'=>h (e'.symm.trans he)]
  ·rw[if_neg he]
   by_cases hl:Ze k e.1=true
   ·rw[if_pos hl,Za]
    by_cases h:j=k
    ·rw[if_pos h,if_pos h.symm]
    ·rw[if_neg h,if_neg λe=>h e.symm]
   ·rw[if_neg hl,Za,Za,ih]
    by_cases h:j=k
    ·rw[if_pos h,if_pos h,if_neg λe'=>he (e'.trans h)]
    ·rw[if_neg h,if_neg h]
theorem Yl2:∀{C D:Cub},Ris C->Ris D->(∀k,Za C k=Za D k)->C=D:=by
 intro C
 induction C with
 |nil=>
  intro D _ _ h
  rcases D with _|⟨d,D⟩
  ·rfl
  ·have:=h d.1
   rw[Za,Za,if_pos rfl]at this
   cases this
 |cons c C ih=>
  intro D hC hD h
  rcases D with _|⟨d,D⟩
  ·have:=h c.1
   rw[Za,Za,if_pos rfl]at this
   cases this
  ·obtain⟨c1,c2⟩:=aj.1 hC
   obtain⟨d1,d2⟩:=aj.1 hD
   have key:c.1=d.1:=by
    rcases Q7 c.1 d.1 with h1|h1|h1
    ·have h2:=h c.1
     rw[Za,if_pos rfl,Za,if_neg (λe=>W9 h1 e.symm)]at h2
     have h3:=Xg h2.symm
     have h4:=d1 _ h3
     have h5:=Vb h1 h4
     rw[Vi]at h5
     cases h5
    ·exact h1
    ·have h2:=h d.1
     rw[Za,if_neg (λe=>W9 h1 e.symm),Za,if_pos rfl]at h2
     have h3:=Xg h2
     have h4:=c1 _ h3
     have h5:=Vb h1 h4
     rw[Vi]at h5
     cases h5
   have val:c.2=d.2:=by
    have h2:=h c.1
    rw[Za,if_pos rfl,Za,if_pos key.symm]at h2;injection h2
   have hcd:c=d:=bp key val
   subst hcd
   congr 1
   refine ih c2 d2 λk=>?_
   by_cases hk:k=c.1
   ·subst hk
    have n1:Za C c.1=none:=Tw.2 λhm=>by
     obtain⟨e,he,hee⟩:=ak.1 hm;exact W9 (c1 e he) hee.symm
    have n2:Za D c.1=none:=Tw.2 λhm=>by
     obtain⟨e,he,hee⟩:=ak.1 hm;exact W9 (d1 e he) hee.symm
    rw[n1,n2]
   ·have h2:=h k
    rw[Za,if_neg λe=>hk e.symm,Za,if_neg λe=>hk e.symm]at h2
    exact h2
def isKey(w:Nat)(k:List Int):Prop:=k.length=w/\∀c∈k,0<=c/\c<=40
instance (w:Nat) (k:List Int):Decidable (isKey w k):=by unfold isKey;exact inferInstance
def Yv(m:Nat)(x:PC):Prop:=Zo x/\x.1≠0/\x.2.1.length=m
instance (m:Nat) (x:PC):Decidable (Yv m x):=by unfold Yv;exact inferInstance
def R6(w m:Nat)(C:Cub)(k:List Int)(x:PC):Cub×Int:=
 if isKey w k/\Yv m x then
  match Za C k with
  |none=>(Wo C k x,0)
  |some y=>if (Zs y x).2=0 then (Wo C k (Zs y x).1,0)else (C,(Zs y x).2)
 else (C,1)
structure Xw (w m:Nat) (C:Cub):Prop where
 ris:Ris C
 key:∀e∈C,isKey w e.1
 cell:∀e∈C,Yv m e.2
theorem Xw.Zj(w m:Nat):Xw w m []:=⟨List.Pairwise.nil,λ_ h=>by simp at h,λ_ h=>by simp at h⟩
theorem Xw.Ys{w:Nat}{C:Cub}(h:Xw w m C){k:List Int}{x:PC}(hk:isKey w k)(hx:Yv m x):Xw w m (Wo C k x):=
 ⟨Yah h.ris k x,λe he=>by
  rcases Jf he with he|he
  ·rw[he];exact hk
  ·exact h.key e he,λe he=>by
  rcases Jf he with he|he
  ·rw[he];exact hx
  ·exact h.cell e he⟩
def Full(m:Nat)(c:PC):Prop:=c.1≠0/\0<=c.1/\c.2.1.length=m/\c.2.2.1.length=m/\c.2.2.2.length=m
theorem Yv.full{c:PC}(h:Yv m c):Full m c:=by
 obtain⟨⟨_,h2,h3,h4⟩,h5,h6⟩:=h;refine⟨h5,?_,h6,by omega,by omega⟩
 rcases h4 with h4|h4
 ·rw[h4];exact fj 0
 ·have:=h4.1;omega
theorem Pj{L:List PC}(h:∀c∈L,Full m c):Y5 L=L:=by
 unfold Y5;exact cn.2 λc hc=>by simpa using(h c hc).1
theorem Ow{α β:Type}{f:α->β}{l:List α}(h:l≠[]):l.map f≠[]:=λe=>h (List.map_eq_nil_iff.1 e)
theorem Ynl(op:Int->Int->Int)(f g:Nat->Int):bj op ((av m).map f) ((av m).map g)=(av m).map λk=>op (f k) (g k):=by
 apply il;intro i;rw[gh,ao,ao,ao]
 by_cases hi:i<m
 ·rw[ie hi];rfl
 ·rw[ax (by simpa using hi)];rfl
theorem Ky{A B:List PC}(hA:∀c∈A,Full m c)(hB:∀c∈B,Full m c)(nA:A≠[])(nB:B≠[]):Yp m (A++B)=P7 (Yp m A) (Yp m B):=by
 have hAB:∀c∈A++B,Full m c:=λc hc=>(bn.1 hc).elim (hA c) (hB c)
 unfold Yp;rw[Pj hAB,Pj hA,Pj hB];unfold P7;simp only[Ynl,fh,Be,λk=>Ypt (Ow (f:=λc:PC=>c.2.2.1.getD k 0) nA) (Ow (f:=λc:PC=>c.2.2.1.getD k 0) nB),λk=>Ysu (Ow (f:=λc:PC=>c.2.2.2.getD k 0) nA) (Ow (f:=λc:PC=>c.2.2.2.getD k 0) nB)]
theorem Yu0{α:Type}{f:α->Int}{l:List α}(h:∀x∈l,1<=f x)(hn:l≠[]):1<=Y4 (l.map f):=by
 have h1:=Yhq (l:=l.map f) λx hx=>by
  obtain⟨y,hy,rfl⟩:=ak.1 hx;exact h y hy
 have h2:=dy.2 hn
 rw[fi]at h1;omega
theorem Rb{L:List PC}(h:∀c∈L,Full m c)(hn:L≠[]):Full m (Yp m L):=by
 have h1:1<=(Yp m L).1:=Yu0 (f:=λc:PC=>c.1) (λc hc=>by have:=(h c hc).1;have:=(h c hc).2.1;omega) hn
 exact⟨by omega,by omega,by simp[Yp],by simp[Yp],by simp[Yp]⟩
theorem J9{A B:List PC}(h:A.Perm B)(hA:∀c∈A,Full m c)(hn:A≠[]):Yp m A=Yp m B:=by
 have hB:∀c∈B,Full m c:=λc hc=>hA c (h.mem_iff.2 hc)
 have nB:B≠[]:=λe=>hn (by subst e;exact h.eq_nil)
 unfold Yp;rw[Pj hA,Pj hB]
 have e1:=Yc7 (h.map (·.1))
 have e2:=λk=>Yc7 (h.map λc:PC=>c.2.1.getD k 0)
 have e3:=λk=>Gi (Ow (f:=λc:PC=>c.2.2.1.getD k 0) hn) (Ow (f:=λc:PC=>c.2.2.1.getD k 0) nB) λx=>(h.map λc:PC=>c.2.2.1.getD k 0).mem_iff
 have e4:=λk=>Gd (Ow (f:=λc:PC=>c.2.2.2.getD k 0) hn) (Ow (f:=λc:PC=>c.2.2.2.getD k 0) nB) λx=>(h.map λc:PC=>c.2.2.2.getD k 0).mem_iff
 simp only[e1,e2,e3,e4]
theorem Q0{s:PC}(hs:Full m s):Yp m [s]=s:=by
 obtain⟨s1,s2,s3,s4,s5⟩:=hs
 have hf:Y5 [s]=[s]:=by unfold Y5;simpa using s1
 refine bp ?_ (bp ?_ (bp ?_ ?_))
 ·simp[Yp,Y4]
 ·refine Z3 (m:=m) (by simp[Yp]) s3 λk hk=>?_
  show((av m).map λk=>Y4 ([s].map λc=>c.2.1.getD k 0)).getD k 0=_
  simp[aa,hk,Y4]
 ·refine Z3 (m:=m) (by simp[Yp]) s4 λk hk=>?_
  show((av m).map λk=>Wy ((Y5 [s]).map λc=>c.2.2.1.getD k 0)).getD k 0=_
  rw[hf];simp[aa,hk,Wy]
 ·refine Z3 (m:=m) (by simp[Yp]) s5 λk hk=>?_
  show((av m).map λk=>Ws ((Y5 [s]).map λc=>c.2.2.2.getD k 0)).getD k 0=_
  rw[hf];simp[aa,hk,Ws]
theorem Yo8: ∀{G:List (List PC)},(∀g∈G,g≠[]/\∀c∈g,Full m c)->G≠[]->Yp m (G.map (Yp m))=Yp m G.flatten:=by
 intro G
 induction G with
 |nil=>intro _ h;exact absurd rfl h
 |cons g G ih=>
  intro h _
  have hg:=h g (by simp)
  by_cases hG:G=[]
  ·subst hG
   simp only[ar,dm,ik,List.flatten_nil,ja];exact Q0 (Rb hg.2 hg.1)
  ·have hG':=λx hx=>h x (ag _ hx)
   have f1:∀c∈[Yp m g],Full m c:=λc hc=>by rw[an.1 hc];exact Rb hg.2 hg.1
   have f2:∀c∈G.map (Yp m),Full m c:=λc hc=>by
    obtain⟨x,hx,rfl⟩:=ak.1 hc;exact Rb (hG' x hx).2 (hG' x hx).1
   have f3:∀c∈G.flatten,Full m c:=λc hc=>by
    obtain⟨x,hx,hcx⟩:=ir.1 hc;exact(hG' x hx).2 c hcx
   have n3:G.flatten≠[]:=by
    obtain⟨x,hx⟩:=df G hG;obtain⟨c,hc⟩:=df x (hG' x hx).1;exact List.ne_nil_of_mem (ir.2 ⟨x,hx,hc⟩)
   rw[ar,ik,show Yp m g::G.map (Yp m)=[Yp m g]++G.map (Yp m)from rfl,Ky f1 f2 (by simp) (Ow hG),Ky hg.2 f3 hg.1 n3,ih hG' hG]
   rw[Q0 (Rb hg.2 hg.1)]
theorem Ob{L:List PC}(h:∀c∈L,Yv m c)(hn:L≠[]):Um L=if Zo (Yp m L)then (Yp m L,0)else (Yl,14):=by
 obtain⟨c,hc⟩:=df L hn
 have hm:m<=2:=by
  have h1:=(h c hc).1.1
  rw[(h c hc).2.2]at h1;exact h1
 exact Nv hm hn λc hc=>⟨(h c hc).1,(h c hc).2.2⟩
theorem Bt{L:List PC}(h:∀c∈L,Yv m c):∀c∈L,Full m c:=λc hc=>(h c hc).full
theorem Of{L:List PC}(h:∀c∈L,Yv m c)(hn:L≠[])(hs:(Um L).2=0):(Um L).1=Yp m L/\Yv m (Yp m L):=by
 rw[Ob h hn]at hs⊢
 by_cases hm:Zo (Yp m L)
 ·rw[if_pos hm]
  have hf:=Rb (Bt h) hn
  exact⟨rfl,hm,hf.1,hf.2.2.1⟩
 ·rw[if_neg hm]at hs
  cases hs
def grp(C:Cub)(u:List Int->Option (List Int))(j:List Int):List PC:=(C.filter λe=>decide (u e.1=some j)).map (·.2)
def Yv9(C:Cub)(u:List Int->Option (List Int)):List (List Int)->Cub
 |[]=>[]
 |j::J=>Wo (Yv9 C u J) j (Um (grp C u j)).1
/-! ### Twice is once -/
theorem El{y x:PC}(hy:Yv m y)(hx:Yv m x):Zs y x=if Zo (Yp m [y,x])then (Yp m [y,x],0)else (Yl,14):=by
 rw[<-Yfl];exact Ob (λc hc=>by
  rcases ai.1 hc with rfl|hc
  ·exact hy
  ·rw[an.1 hc];exact hx) (by simp)
theorem Jd{w:Nat}{C:Cub}{x:PC}(h:¬(isKey w k/\Yv m x)):R6 w m C k x=(C,1):=by unfold R6;rw[if_neg h]
theorem Pf{w:Nat}{C:Cub}{x:PC}(h:isKey w k/\Yv m x)(hg:Za C k=none):R6 w m C k x=(Wo C k x,0):=by unfold R6;rw[if_pos h,hg]
theorem La{w:Nat}{C:Cub}{x y:PC}(h:isKey w k/\Yv m x)(hg:Za C k=some y)(hm:(Zs y x).2=0):R6 w m C k x=(Wo C k (Zs y x).1,0):=by unfold R6;rw[if_pos h,hg];exact if_pos hm
theorem Aj{w:Nat}{C:Cub}{x y:PC}(h:isKey w k/\Yv m x)(hg:Za C k=some y)(hm:(Zs y x).2≠0):R6 w m C k x=(C,(Zs y x).2):=by unfold R6;rw[if_pos h,hg];exact if_neg hm
theorem Nr{w:Nat}{C:Cub}(h:Xw w m C)(k:List Int)(x:PC):Xw w m (R6 w m C k x).1:=by
 by_cases hkx:isKey w k/\Yv m x
 ·rcases hg:Za C k with _|y
  ·rw[Pf hkx hg]
   exact h.Ys hkx.1 hkx.2
  ·by_cases hm:(Zs y x).2=0
   ·rw[La hkx hg hm]
    have hy:Yv m y:=h.cell _ (Xg hg)
    have hs:=El hy hkx.2
    rw[hs]at hm⊢
    by_cases hc:Zo (Yp m [y,x])
    ·rw[if_pos hc]
     have hf:=Rb (m:=m) (L:=[y,x]) (λc hc=>by
      rcases ai.1 hc with rfl|hc
      ·exact hy.full
      ·rw[an.1 hc];exact hkx.2.full) (by simp)
     exact h.Ys hkx.1 ⟨hc,hf.1,hf.2.2.1⟩
    ·rw[if_neg hc]at hm
     cases hm
   ·rw[Aj hkx hg hm]
    exact h
 ·rw[Jd hkx]
  exact h
def S2(w m:Nat)(D:List (List Int×PC)):Nat->Cub
 |0=>[]
 |i+1=>match D[i]? with
  |some d=>(R6 w m (S2 w m D i) d.1 d.2).1
  |none=>S2 w m D i
theorem Ca{w:Nat}{D:List (List Int×PC)}{x:PC}(h:D[i]?=some (k,x)):S2 w m D (i+1)=(R6 w m (S2 w m D i) k x).1:=by
 rw[S2,h]
theorem V9{w m:Nat}{D:List (List Int×PC)}: ∀i,Xw w m (S2 w m D i)
 |0=>Xw.Zj w m
 |i+1=>by
  rw[S2]
  split
  ·exact Nr (V9 i) _ _
  ·exact V9 i
def under(D:List (List Int×PC))(j:List Int):List PC:=(D.filter λd=>decide (d.1=j)).map (·.2)
def Np(put:Bool)(D:Cub)(k:List Int)(x:PC):Cub:=if put then D else Wo D k x
theorem Ype(put:Bool)(k:List Int)(x:PC):Np put [] k x=if put then []else [(k,x)]:=by
 cases put <;> rfl
theorem Ygg{D:Cub}{e:List Int×PC}{x:PC}(h1:¬e.1=k)(h2:Ze k e.1=false):Np false (e::D) k x=e::Np false D k x:=by
 show Wo (e::D) k x=e::Wo D k x
 rw[Wo,if_neg h1,if_neg (by simp[h2])]
theorem Yja{D:Cub}{e:List Int×PC}{x:PC}(h1:e.1=k):Np false (e::D) k x=(k,x)::Np true D k x:=by
 show Wo (e::D) k x=(k,x)::D
 rw[Wo,if_pos h1]
theorem Yoo{D:Cub}{e:List Int×PC}{x:PC}(h1:¬e.1=k)(h2:Ze k e.1=true):Np false (e::D) k x=(k,x)::e::Np true D k x:=by
 show Wo (e::D) k x=(k,x)::e::D
 rw[Wo,if_neg h1,if_pos h2]
theorem Yim{D:Cub}{e:List Int×PC}{x:PC}:Np true (e::D) k x=e::Np true D k x:=rfl
theorem Yi9{C:Cub}(h:Ris C){i j:Nat}{d e:List Int×PC}(hd:C[i]?=some d)(he:C[j]?=some e)(hij:i<j):Ze d.1 e.1=true:=by
 obtain⟨h1,rfl⟩:=af.1 hd;obtain⟨h2,rfl⟩:=af.1 he;exact List.pairwise_iff_getElem.1 h i j h1 h2 hij
theorem Yqq{C:Cub}(h:Ris C){i j:Nat}{d e:List Int×PC}{k:List Int}(hd:C[i]?=some d)(he:C[j]?=some e)(hij:i<j)(hk:d.1=k∨Ze k d.1=true):¬e.1=k:=by
 have h1:=Yi9 h hd he hij
 rcases hk with rfl|hk
 ·exact λe'=>W9 h1 e'.symm
 ·exact λe'=>W9 (Vb hk h1) e'.symm
theorem Ycc{C:Cub}: ∀{i:Nat},(∀j e,j<i->C[j]?=some e→¬e.1=k)->Za C k=Za (C.drop i) k:=by
 intro i
 induction i generalizing C with
 |zero=>intro _;rfl
 |succ i ih=>
  intro h
  cases C with
  |nil=>rfl
  |cons d C=>
   rw[Za,if_neg (h 0 d (Nat.succ_pos _) rfl),List.drop_succ_cons];exact ih λj e hj he=>h (j+1) e (Nat.succ_lt_succ hj) (by simpa using he)
theorem Yma{C:Cub}{e:List Int×PC}(h:∀j e,j<i->C[j]?=some e→¬e.1=k)(he:C[i]?=some e)(hk:e.1=k):Za C k=some e.2:=by
 obtain⟨h1,rfl⟩:=af.1 he;rw[Ycc h,br h1,Za,if_pos hk]
theorem Yew{C:Cub}(h:∀j e,j<C.length->C[j]?=some e→¬e.1=k):Za C k=none:=by
 rw[Ycc h,List.drop_length];rfl
/-! ### keys in arrays of three -/
def Sc(k:List Int):Int×Int×Int:=(k.getD 0 0,k.getD 1 0,k.getD 2 0)
def Nh(t:Int×Int×Int):List Int:=[t.1,t.2.1,t.2.2]
theorem G8(h:k.length<=3):(Nh (Sc k)).take k.length=k:=by
 match k,h with
 |[],_=>rfl
 |[_],_=>rfl
 |[_,_],_=>rfl
 |[_,_,_],_=>rfl
 |_::_::_::_::_,h=>simp at h
theorem Yey(h:a.length=b.length)(h3:a.length<=3)(e:Sc a=Sc b):a=b:=by
 have h1:=G8 h3
 have h2:=G8 (k:=b) (h▸h3)
 rw[e,h]at h1;exact h1.symm.trans h2
theorem Ynx(h:a.length=b.length)(h3:a.length<=3):Ze (Nh (Sc a)) (Nh (Sc b))=Ze a b:=by
 match a,b,h,h3 with
 |[],[],_,_=>rfl
 |[x],[y],_,_=>simp[Ze,Nh,Sc]
 |[x,x'],[y,y'],_,_=>simp[Ze,Nh,Sc]
 |[x,x',x''],[y,y',y''],_,_=>simp[Ze,Nh,Sc]
 |_::_::_::_::_,_,_,h=>simp at h
def Oz(a b:List Int):Int:=if Ze a b then -1 else if a=b then 0 else 1
theorem Yb6:Oz a b<0↔Ze a b=true:=by
 unfold Oz
 by_cases h:Ze a b=true
 ·rw[if_pos h];simp[h]
 ·rw[if_neg h]
  by_cases h2:a=b
  ·rw[if_pos h2];simp[h]
  ·rw[if_neg h2];simp[h]
theorem Yph{a b:Int}:Oz (a::p) (b::q)=if a<b then -1 else if b<a then 1 else Oz p q:=by
 unfold Oz;rw[Ze]
 by_cases h:a=b
 ·subst h
  simp
 ·rw[if_neg h,if_neg (λe=>h (List.cons.inj e).1)]
  by_cases h2:a<b
  ·simp[h2]
  ·rw[if_neg (by simpa using h2),if_neg h2,if_pos (by omega)]
/-! ### is it a key: code by code -/
/-! ### keys further up: code by code -/
/-! ### what is under a key,in a roll -/
abbrev Zd:=List (List Txt)
def cmpL:Zd->Zd->Int
 |[],[]=>0
 |[],_::_=>-1
 |_::_,[]=>1
 |p::a,q::b=>if X4 p q=0 then cmpL a b else X4 p q
theorem Ri:∀a:Zd,cmpL a a=0
 |[]=>rfl
 |p::a=>by rw[cmpL,if_pos (Yb2 p)];exact Ri a
theorem D6:∀a b:Zd,cmpL a b=-1∨cmpL a b=0∨cmpL a b=1
 |[],[]=>.inr (.inl rfl)
 |[],_::_=>.inl rfl
 |_::_,[]=>.inr (.inr rfl)
 |p::a,q::b=>by
  rw[cmpL]
  by_cases h:X4 p q=0
  ·rw[if_pos h];exact D6 a b
  ·rw[if_neg h];exact D9 p q
theorem Ye5:∀a b:Zd,cmpL a b=-cmpL b a
 |[],[]=>rfl
 |[],_::_=>rfl
 |_::_,[]=>rfl
 |p::a,q::b=>by
  rw[cmpL,cmpL]
  have h1:=Ai p q
  by_cases h:X4 p q=0
  ·rw[if_pos h,if_pos (by omega)];exact Ye5 a b
  ·rw[if_neg h,if_neg (by omega)];exact h1
theorem Mk:∀a b:Zd,cmpL a b=0↔a=b
 |[],[]=>by simp[cmpL]
 |[],_::_=>by simp[cmpL]
 |_::_,[]=>by simp[cmpL]
 |p::a,q::b=>by
  rw[cmpL]
  by_cases h:X4 p q=0
  ·rw[if_pos h,Mk a b]
   have:=(Uu p q).1 h
   simp[this]
  ·rw[if_neg h]
   have h2:¬p=q:=λe=>h ((Uu p q).2 e)
   simp[h,h2]
def Xb(a b:Zd):Prop:=cmpL a b<0
theorem W4(a:Zd):¬Xb a a:=by unfold Xb;rw[Ri];omega
theorem Yfe{p q r:List Txt}(h1:X4 p q<0)(h2:X4 q r<0):X4 p r<0:=by
 have h3:=Dy p q r (by omega) (by omega)
 rcases Int.lt_or_eq_of_le h3 with h|h
 ·exact h
 ·have e:=(Uu p r).1 h
  subst e
  have:=Ai p q
  omega
theorem Sn:∀{a b c:Zd},Xb a b->Xb b c->Xb a c
 |[],[],_,h,_=>absurd h (W4 _)
 |[],_::_,[],_,h=>by unfold Xb at h;simp[cmpL]at h
 |[],_::_,_::_,_,_=>by unfold Xb;simp[cmpL]
 |_::_,[],_,h,_=>by unfold Xb at h;simp[cmpL]at h
 |_::_,_::_,[],_,h=>by unfold Xb at h;simp[cmpL]at h
 |p::a,q::b,r::c,h,h'=>by
  unfold Xb at h h'⊢;rw[cmpL]at h h'⊢
  by_cases h1:X4 p q=0
  ·rw[if_pos h1]at h
   have e1:=(Uu p q).1 h1
   subst e1
   by_cases h2:X4 p r=0
   ·rw[if_pos h2]at h'⊢
    exact Sn (a:=a) (b:=b) (c:=c) h h'
   ·rw[if_neg h2]at h'⊢
    exact h'
  ·rw[if_neg h1]at h
   by_cases h2:X4 q r=0
   ·have e2:=(Uu q r).1 h2
    subst e2;rw[if_neg h1];exact h
   ·rw[if_neg h2]at h'
    have h3:=Yfe h h'
    rw[if_neg (by omega)]
    exact h3
theorem Gb(a b:Zd):Xb a b∨a=b∨Xb b a:=by
 unfold Xb
 rcases D6 a b with h|h|h
 ·exact .inl (by omega)
 ·exact .inr (.inl ((Mk a b).1 h))
 ·exact .inr (.inr (by have:=Ye5 b a;omega))
theorem Yqv{a b:Zd}(h:Xb a b):a≠b:=λe=>by subst e;exact W4 _ h
theorem Yev{a b:Zd}(h:Xb a b):¬Xb b a:=λh'=>W4 _ (Sn h h')
theorem Gy:∀(i:Nat) (a b:Zd),i<=a.length->i<=b.length->a.take i=b.take i->cmpL a b=cmpL (a.drop i) (b.drop i)
 |0,a,b,_,_,_=>rfl
 |i+1,[],_,h,_,_=>by simp at h
 |i+1,_::_,[],_,h,_=>by simp at h
 |i+1,p::a,q::b,h1,h2,h=>by
  simp only[ic,List.cons.injEq]at h;rw[cmpL,if_pos ((Uu p q).2 h.1)];exact Gy i a b (by simpa using h1) (by simpa using h2) h.2
theorem Ylu{a b:Zd}{p q:List Txt}(h:a.take i=b.take i)(ha:a[i]?=some p)(hb:b[i]?=some q)(hn:X4 p q≠0):cmpL a b=X4 p q:=by
 obtain⟨h1,rfl⟩:=af.1 ha;obtain⟨h2,rfl⟩:=af.1 hb;rw[Gy i a b (by omega) (by omega) h,br h1,br h2,cmpL,if_neg hn]
theorem Ycn{a b:Zd}{p q:List Txt}(h:a.take i=b.take i)(ha:a[i]?=some p)(hb:b[i]?=some q)(hn:X4 p q=0):a.take (i+1)=b.take (i+1):=by
 rw[ei,ei,h,ha,hb,(Uu p q).1 hn]
theorem Bs{a b:Zd}(h:a.take i=b.take i)(ha:i<=a.length)(hb:i<=b.length)(he:a.length=i∨b.length=i):cmpL a b=if a.length<b.length then -1 else if b.length<a.length then 1 else 0:=by
 rw[Gy i a b ha hb h]
 rcases he with he|he
 ·have ha0:a.drop i=[]:=ch (by omega)
  rw[ha0]
  rcases hd:b.drop i with _|⟨q,r⟩
  ·have:b.length<=i:=gw.1 hd
   rw[if_neg (by omega),if_neg (by omega)];rfl
  ·have:i<b.length:=cw λhn=>by rw[ch (by omega)]at hd;cases hd
   rw[if_pos (by omega)];rfl
 ·have hb0:b.drop i=[]:=ch (by omega)
  rw[hb0]
  rcases hd:a.drop i with _|⟨q,r⟩
  ·have:a.length<=i:=gw.1 hd
   rw[if_neg (by omega),if_neg (by omega)];rfl
  ·have:i<a.length:=cw λhn=>by rw[ch (by omega)]at hd;cases hd
   rw[if_neg (by omega),if_pos (by omega)];rfl
/-! ### rows -/
abbrev Rws:=List (Zd×PC)
def Cl(R:Rws):Prop:=R.Pairwise λa b=>Xb a.1 b.1
theorem Yge:∀{R Q:Rws},Cl R->Cl Q->(∀x,x∈R↔x∈Q)->R=Q
 |[],[],_,_,_=>rfl
 |[],q::Q,_,_,h=>absurd ((h q).2 (by simp)) (by simp)
 |r::R,[],_,_,h=>absurd ((h r).1 (by simp)) (by simp)
 |r::R,q::Q,hR,hQ,h=>by
  obtain⟨r1,r2⟩:=aj.1 hR;obtain⟨q1,q2⟩:=aj.1 hQ
  have e:r=q:=by
   rcases ai.1 ((h r).1 (by simp))with h1|h1
   ·exact h1
   ·rcases ai.1 ((h q).2 (by simp))with h2|h2
    ·exact h2.symm
    ·exact absurd (q1 r h1) (Yev (r1 q h2))
  subst e
  congr 1
  refine Yge r2 q2 λx=>?_
  have h1:=h x
  constructor
  ·intro hx
   rcases ai.1 (h1.1 (ag _ hx))with h2|h2
   ·subst h2;exact absurd (r1 x hx) (W4 _)
   ·exact h2
  ·intro hx
   rcases ai.1 (h1.2 (ag _ hx))with h2|h2
   ·subst h2;exact absurd (q1 x hx) (W4 _)
   ·exact h2
/-! ### the least one first -/
structure Sel (all out done:Rws):Prop where
 perm:(out++done).Perm all
 ris:Cl out
 lt:∀a∈out,∀b∈done,Xb a.1 b.1
 one:done.Pairwise λa b=>a.1≠b.1
theorem Sel.begin{all:Rws}(h:all.Pairwise λa b=>a.1≠b.1):Sel all [] all:=⟨List.Perm.refl _,List.Pairwise.nil,λ_ h=>by simp at h,h⟩
theorem Sel.step{all out done:Rws}(h:Sel all out done){j:Nat}{x:Zd×PC}(hx:done[j]?=some x)(hl:∀b∈done,¬Xb b.1 x.1):Sel all (out++[x]) (done.take j++done.drop (j+1)):=by
 obtain⟨hj,rfl⟩:=af.1 hx
 have hp:(done[j]::(done.take j++done.drop (j+1))).Perm done:=by
  have e:done=done.take j++done[j]::done.drop (j+1):=by
   rw[<-br hj,dp]
  have h2:(done.take j++done[j]::done.drop (j+1)).Perm (done[j]::(done.take j++done.drop (j+1))):=List.perm_middle
  rw[<-e]at h2;exact h2.symm
 have hone:(done[j]::(done.take j++done.drop (j+1))).Pairwise λa b=>a.1≠b.1:=(hp.symm.pairwise_iff (λh e=>h e.symm)).1 h.one
 obtain⟨o1,o2⟩:=aj.1 hone
 have hsub:∀b∈done.take j++done.drop (j+1),b∈done:=λb hb=>hp.mem_iff.1 (ag _ hb)
 refine⟨?_,?_,?_,o2⟩
 ·rw[im,gg]
  exact(hp.append_left out).trans h.perm
 ·refine List.pairwise_append.2 ⟨h.ris,fq _ _,λa ha b hb=>?_⟩
  rw[an.1 hb];exact h.lt a ha _ (dh hj)
 ·intro a ha b hb
  rcases bn.1 ha with ha|ha
  ·exact h.lt a ha b (hsub b hb)
  ·rw[an.1 ha]
   rcases Gb (done[j]).1 b.1 with h1|h1|h1
   ·exact h1
   ·exact absurd h1 (o1 b hb)
   ·exact absurd h1 (hl b (hsub b hb))
theorem Sel.end_{all out:Rws}(h:Sel all out []):Cl out/\out.Perm all:=⟨h.ris,by simpa using h.perm⟩
def zig(n:Int):Nat:=if 0<=n then (2*n).toNat else (-2*n-1).toNat
def zag(u:Nat):Int:=if u%2=0 then ((u/2:Nat):Int)else -((u/2:Nat):Int)-1
theorem Yti(n:Int):zag (zig n)=n:=by
 unfold zag zig;split <;> split <;> omega
theorem Tm{n:Int}(h: -9223372036854775808<=n)(h':n<=9223372036854775807):zig n<18446744073709551616:=by
 unfold zig;split <;> omega
theorem Yqu(n:Int):zig n/2=(if n<0 then -(n+1)else n).toNat:=by
 unfold zig;split <;> split <;> omega
def enc(u:Nat):List UInt8:=if u<128 then [dd u]else dd (u%128+128)::enc (u/128)
termination_by u
decreasing_by omega
theorem Sa{u:Nat}(h:u<128):enc u=[dd u]:=by rw[enc,if_pos h]
theorem M4{u:Nat}(h:¬u<128):enc u=dd (u%128+128)::enc (u/128):=by rw[enc,if_neg h]
theorem Yk0(u:Nat):1<=(enc u).length:=by
 by_cases h:u<128
 ·rw[Sa h];simp
 ·rw[M4 h];simp
theorem Yv8(k:Nat):∀u,u<2 ^ (7*k+7)->(enc u).length<=k+1:=by
 induction k with
 |zero=>intro u h;rw[Sa (by simpa using h)];simp
 |succ k ih=>
  intro u h
  by_cases hs:u<128
  ·rw[Sa hs];simp
  ·rw[M4 hs]
   have h1:u/128<2 ^ (7*k+7):=by
    rw[show 7*(k+1)+7=(7*k+7)+7 from by omega,ia]at h
    exact ib (by omega)
   have:=ih _ h1
   simp;omega
theorem U8{u:Nat}(h:u<18446744073709551616):(enc u).length<=10:=Yv8 9 u (Nat.lt_trans h (by decide))
def Ysl(c i:Nat):Bool:=(i==9&&decide (1<c))||(decide (0<i)&&c==0)
def got:List UInt8->Nat->Nat->Nat×Nat×Nat
 |[],_,_=>(0,0,3)
 |c::r,i,u=>if Ysl c.toNat i then (0,0,2)else if 128<=c.toNat then got r (i+1) (u+c.toNat%128*2 ^ (7*i))else (u+c.toNat*2 ^ (7*i),i+1,0)
def gN(l:List UInt8):Int:=zag (got l 0 0).1
def gK(l:List UInt8):Nat:=(got l 0 0).2.1
def gE(l:List UInt8):Nat:=(got l 0 0).2.2
theorem Ytb(v:Nat):∀(r:List UInt8) (i u:Nat),i<=9->(0<i->0<v)->v<2 ^ (64-7*i)->got (enc v++r) i u=(u+v*2 ^ (7*i),i+(enc v).length,0):=by
 induction v using Nat.strongRecOn with
 |_ v ih=>
  intro r i u hi h0 hv
  by_cases hs:v<128
  ·have hn:(dd v).toNat=v:=by rw[gy];omega
   rw[Sa hs,gg,got,hn,if_neg,if_neg (by omega)]
   ·rfl
   ·simp only[Ysl,jb,di,beq_iff_eq,decide_eq_true_eq,not_or,not_and]
    refine⟨λh9=>?_,λhp=>by have:=h0 hp;omega⟩
    subst h9
    have:v<2:=by simpa using hv
    omega
  ·have hn:(dd (v%128+128)).toNat=v%128+128:=by rw[gy];omega
   have hi9:i<9:=by
    apply Nat.lt_of_le_of_ne hi;rintro rfl
    have:v<2:=by simpa using hv
    omega
   have hv':v/128<2 ^ (64-7*(i+1)):=by
    rw[show 64-7*i=(64-7*(i+1))+7 from by omega,ia]at hv
    exact ib (by omega)
   rw[M4 hs,iv,got,hn,if_neg,if_pos (by omega),ih (v/128) (by omega) r (i+1) _ (by omega) (λ_=>by omega) hv']
   ·refine bp ?_ (bp ?_ rfl)
    ·show u+(v%128+128)%128*2 ^ (7*i)+v/128*2 ^ (7*(i+1))=u+v*2 ^ (7*i)
     rw[show 7*(i+1)=7+7*i from by omega,ia,<-Nat.mul_assoc,Nat.add_assoc,<-Nat.add_mul]
     congr 2
     omega
    ·show i+1+(enc (v/128)).length=i+(enc (v/128)).length.succ
     omega
   ·simp only[Ysl,jb,di,beq_iff_eq,decide_eq_true_eq,not_or,not_and]
    exact⟨λh9=>by omega,λ_=>by omega⟩
theorem Ywx{n:Int}(h: -9223372036854775808<=n)(h':n<=9223372036854775807)(r:List UInt8):gN (enc (zig n)++r)=n/\gK (enc (zig n)++r)=(enc (zig n)).length/\gE (enc (zig n)++r)=0:=by
 have e:=Ytb (zig n) r 0 0 (by omega) (by omega) (by simpa using Tm h h')
 simp only[Nat.mul_zero,Nat.pow_zero,fg,fw]at e;unfold gN gK gE;rw[e];exact⟨Yti n,rfl,rfl⟩
section
def X6(x:Int):Value:=.int .i64 x
theorem Qv(l:List Int):∀u∈l.map X6,u.oneCell'=true:=by
 intro u hu;obtain⟨x,_,rfl⟩:=ak.1 hu;rfl
structure Y2 (w:World) (B:Nat) (A:Option Addr) (n c:Nat) (l:List Int):Prop where
 len:l.length=n
 cap:n<=c
 fit:c<=maxLen
 void:A=none->c=0
 has:Has w B A (l.map X6)
section
variable {w w' : World}{B B' n c:Nat}{A:Option Addr}{l:List Int}
theorem Y2.V0(h:Y2 w B A n c l)(hk:∀b o,b<B->w'.cell? ⟨b,o,none⟩=w.cell? ⟨b,o,none⟩):Y2 w' B A n c l:=⟨h.len,h.cap,h.fit,h.void,h.has.V0 hk⟩
theorem Y2.more(h:Y2 w B A n c l)(hB:B<=B'):Y2 w B' A n c l:=⟨h.len,h.cap,h.fit,h.void,h.has.more hB⟩
theorem Y2.below{C:Nat}(h:Y2 w B A n c l)(hb:Below C w w')(hC:B<=C):Y2 w' B A n c l:=⟨h.len,h.cap,h.fit,h.void,h.has.below hb hC⟩
theorem Y2.grown{row:Option Nat}(h:Y2 w B A n c l)(hg:w.grownBy w' row)(hB:B<=w.heap.size)(hr:∀g,row=some g->B<=g):Y2 w' B A n c l:=⟨h.len,h.cap,h.fit,h.void,h.has.grown hg hB hr⟩
theorem Y2.drewN(h:Y2 w B A n c l)(k:Nat):Y2 (w.drewN k) B A n c l:=⟨h.len,h.cap,h.fit,h.void,h.has⟩
theorem Y2.drew(h:Y2 w B A n c l):Y2 w.drew B A n c l:=⟨h.len,h.cap,h.fit,h.void,h.has⟩
theorem Y2.alloc(h:Y2 w B A n c l)(hB:B<=w.heap.size)(o:Obj):Y2 (w.alloc o) B A n c l:=
 h.V0 λb k hp=>World.cell?_alloc_lt w o ⟨b,k,none⟩ (by show b<_;omega)
theorem Y2.Rz(h:Y2 w w.heap.size A n c l)(o:Obj):Y2 (w.alloc o) (w.alloc o).heap.size A n c l:=(h.alloc (bg _) o).more (by simp)
theorem Y2.Yc(h:Y2 w w.heap.size A n c l)(hb:Below w.heap.size w w'):Y2 w' w'.heap.size A n c l:=(h.below hb (bg _)).more hb.size
theorem Y2.Ym(h:Y2 w B A n c l):n<=9223372036854775807:=by
 have h1:=h.cap;have h2:=h.fit
 unfold maxLen at h2;omega
theorem Y2.Xf(h:Y2 w B A n c l):c<=9223372036854775807:=by
 have h2:=h.fit
 unfold maxLen at h2;omega
theorem Y2.at_(h:Y2 w B A n c l){k:Nat}(hk:k<n):
  ∃b o x,A=some ⟨b,o,none⟩∧b<B/\w.cell? ⟨b,o+k,none⟩=some (.int .i64 x)/\Hid (x=l.getD k 0):=by
 obtain⟨hl,_,_,_,hh⟩:=h;obtain⟨b,o,e,hb,hc⟩:=hh (by simp;omega)
 refine⟨b,o,l.getD k 0,e,hb,hc k _ ?_,hid rfl⟩;simp[X6,ao,aa,ae (show k<l.length by omega)]
theorem Y2.Q3(h:Y2 w B A n c l)(k:Nat)(hk:k<=n):Y2 w B A k c (l.take k):=
 ⟨by have:=h.len;rw[ez];omega,by have:=h.cap;omega,h.fit,h.void,by rw[List.map_take];exact h.has.Q3 k⟩
end
theorem Y2.Yb3(w:World)(l:List Int)(C:Array Value)(hC:C=(l.map X6).toArray)(e:TypeId)(fr:Nat×Nat)(n:Nat)(hn:n=l.length)(hl:n<=9223372036854775807)(g:Nat)(hg:g=w.heap.size):
  Y2 (w.alloc (.cells C e fr)) (g+1) (some ⟨g,0,none⟩) n n l:=by
 subst hC hn hg;exact⟨rfl,bg _,by unfold maxLen;omega,(λh=>by cases h),λ_=>⟨w.heap.size,0,rfl,by omega,λj u hu=>by
  rw[fw,Zq];simpa using hu⟩⟩
def Yi(w:World)(base:Nat)(v:Value)(l:List Int):Prop:=w.ownsRow base 3 1 v l.length (l.map X6)
section
variable {w w' : World}{base:Nat}{v:Value}{l:List Int}
theorem Yi.Zj(w:World)(base:Nat):Yi w base (.slice none 0 0) []:=World.ownsRow_nil w base _ 1
theorem Yi.form(h:Yi w base v l):∃A c,v=.slice A l.length c/\Y2 w w.heap.size A l.length c l/\(∀a,A=some a->base<=a.block):=by
 rcases h.2 with⟨rfl,h0⟩|⟨g,cap,cur,rfl,hb,hg,hnc,hcm,hcs,ht⟩
 ·have hl:l=[]:=au h0
  subst hl;exact⟨none,0,rfl,⟨rfl,bg _,gz _,λ_=>rfl,Has.Zj⟩,λ_ h=>by cases h⟩
 ·have hlt:g<w.heap.size:=(cz.1 hg).1
  refine⟨_,cap,rfl,⟨rfl,hnc,hcm,(λh=>by cases h),λ_=>⟨g,0,rfl,hlt,λj u hu=>?_⟩⟩,λa ha=>by injection ha with ha;subst ha;exact hb⟩
  have:=fc h (g:=g) rfl j u hu
  rwa [Yu]at this
theorem Yi.Yr(h:Yi w base v l):∃A n c,v=.slice A n c/\Y2 w w.heap.size A n c l/\(∀a,A=some a->base<=a.block):=by
 obtain⟨A,c,h1,h2,h3⟩:=h.form;exact⟨A,_,c,h1,h2,h3⟩
theorem Yi.kept{row:Option Nat}(h:Yi w base v l)(hg:w.grownBy w' row)(hne:v.ownBlock=none∨v.ownBlock≠row):Yi w' base v l:=dj h hg hne
theorem Yi.alloc(h:Yi w base v l)(o:Obj):Yi (w.alloc o) base v l:=ff h o
theorem Yi.drewN(h:Yi w base v l)(k:Nat):Yi (w.drewN k) base v l:=h
theorem Yi.lt(h:Yi w base v l):∀k,v.ownBlock=some k->base<=k/\k<w.heap.size:=fm h
theorem Yi.below{C:Nat}(h:Yi w base v l)(hb:Below C w w')(hC:w.heap.size<=C):Yi w' base v l:=
 dj (row:=none) h ⟨hb.os,hb.tape,hb.output,hb.size,λk hk _=>hb.block k (by omega)⟩ (by cases v.ownBlock <;> simp)
theorem Yi.low{base':Nat}(h:Yi w base v l)(hb:base'<=base):Yi w base' v l:=Vu h hb
end
/-! ### What only makes new memory,step by step; a new variable that holds a struct -/
theorem Ya{a b:World}(h:Below a.heap.size a b)(h':Below b.heap.size b c):Below a.heap.size a c:=h.trans (h'.mono h.size)
theorem Yb(w:World)(o:Obj):Below w.heap.size w (w.alloc o):=(Below.refl _ _).alloc (bg _) o
theorem Wz(w:World)(o p:Obj):Below w.heap.size w ((w.alloc o).alloc p):=Ya (Yb w o) (Yb _ p)
theorem Jc(w:World)(o p q:Obj):Below w.heap.size w (((w.alloc o).alloc p).alloc q):=Ya (Wz w o p) (Yb _ q)
theorem Qx{w1:World}{T:TypeId}(hb:Below (w.alloc (.cells cs T)).heap.size (w.alloc (.cells cs T)) w1){g:Nat}(hg:g=w.heap.size):Block w1 g T cs:=by
 subst hg;exact(Block.new w T cs).below hb (by simp)
theorem Block.Zg(h:Block w g e cs)(b i:Nat)(u:Value)(hne:b≠g):Block (w.setCell ⟨b,i,none⟩ u) g e cs:=by
 have h':w.heap[g]?=some (.cells cs e (0,0)):=h
 unfold Block;simp[World.setCell,fv,h',hne]
theorem Zi{P:Program}{fn:Func}{p:Tmp}{ty:TypeId}(h:fn.results=#[.cell p ty])(tmps:Array Value)(w:World)(g:Nat)(cs:Array Value)(d:TypeDesc)
  (hp:tmps.getD p undef=.pointer (some ⟨g,0,none⟩)) (hb:Block w g ty cs)
  (hu:P.underlying ty=some d) (hd:(match d with| .struct _| .array _ _=>true|_=>false)=true) (hi:(P.info? ty).map (·.size)=some cs.size):
  (results fn tmps).run P w=.ok (.agg cs) w:=by
 have hp':tmps[p]?.getD undef=.pointer (some ⟨g,0,none⟩):=by simpa using hp
 simp[results,h,hp',asAddr,run_loadVar_row w g ty ty cs (0,0) d hb hu hd hi]
theorem Ye{P:Program}{fn:Func}{p t:Tmp}{ty:TypeId}(h:fn.results=#[.cell p ty,.tmp t])(tmps:Array Value)(w:World)(g:Nat)(cs:Array Value)(d:TypeDesc)
  (hp:tmps.getD p undef=.pointer (some ⟨g,0,none⟩)) (hb:Block w g ty cs)
  (hu:P.underlying ty=some d) (hd:(match d with| .struct _| .array _ _=>true|_=>false)=true) (hi:(P.info? ty).map (·.size)=some cs.size):
  (results fn tmps).run P w=.ok (.tuple #[.agg cs,tmps.getD t undef]) w:=by
 have hp':tmps[p]?.getD undef=.pointer (some ⟨g,0,none⟩):=by simpa using hp
 simp[results,h,hp',asAddr,run_loadVar_row w g ty ty cs (0,0) d hb hu hd hi]
theorem Rx:(Tryz.prog.info? 3).map (λi=>(i.zero,i.size,i.bytes))=some (some (.int .i64 0),1,8):=by kernel_rfl
theorem Du(w:World)(x:Value)(t:TypeId)(g:Nat)(hg:g=w.heap.size):∀j u,[x][j]?=some u->(w.alloc (.cells #[x] t)).cell? ((⟨g,0,none⟩:Addr).add j)=some u:=by
 intro j u hj;subst hg
 match j,hj with
 |0,hj=>simp at hj;subst hj;simp[Addr.add]
 |(j+1),hj=>simp at hj
end
end Go.Proofs.YtmepdkdeanbbaaaGreat
