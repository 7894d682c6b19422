/- DictY, DictB, DictX, DictU, LatU, LatV, LatW, LatX, LatY, LatZ, LtD, LtT, LuD, LuK, LuU -/
import Derived.Test.YtmepdkdeanbbaaaGreatJ14
import Derived.Test.YtmepdkdeanbbaaaGreatJ31
import Derived.Test.YtmepdkdeanbbaaaGreatJ40
import Derived.Shelf.SlMaps.Clone
namespace Go.Proofs.YtmepdkdeanbbaaaGreat
set_option maxRecDepth 100000
set_option maxHeartbeats 8000000
open Go.RowKit
open List renaming getD_eq_getElem?_getD→aa,getElem?_eq_getElem→ae,getElem?_eq_some_iff→af,mem_map→ag,take_of_length_le→ai,getD_cons_succ→aj,getElem?_map→ak,mem_of_getElem?→an,length_cons→ao,length_take→aq,length_append→ar,mem_append→au,length_map→av,mem_cons→aw,append_assoc→ax,length→az,take_add_one→bg,map_map→bj,map_cons→bo,mem_of_mem_take→bp,mem_cons_of_mem→br,getElem?_of_mem→bs,mem_filter→bz,mem_singleton→cj,getElem?_take→cn,not_mem_nil→cz,append_eq_nil_iff→da,map_append→db,take_append_drop→dc,map_congr_left→dd,nodup_nil→di,mem_range→dj,pairwise_iff_getElem→dm,map_nil→dp,length_filter_le→dq,flatMap_append→du,nodup_append→dy,getElem?_set→dz,filter_congr→ee,mem_flatMap→ei,nil_append→ez,drop_left→fb,map_id→fg,range→fh
open Nat renaming le_refl→ay,le_trans→ch,zero_le→dt,add_sub_cancel→dx
open Int renaming toNat_natCast→bn
open Proofs.Tryz renaming prog→cw,underlying158→df,underlying157→dw,ntmps101→fc,func101→ff
open Prod renaming ext→dg,fst→fi
open Option renaming map_some→dh,map_eq_some_iff→dn
open Go.Lib (hid)
variable {i j m n:Nat}{L:Rws}{K:Zd}{N:List Nat}{G:List Fct}{w:World}{Q:List Pth}{e:Zd × PC}{C:Cub}{k:List Int}{Qs Rs:List (List Pth)}{E:List (Nat × Txt)}{p q:Pth}{Cs:List Cub}{x:PC}{f:Fct}
theorem Vp.empty(w:World):Vp (w.alloc (.cells #[] 168)) w.heap.size (.slice (some ⟨w.heap.size,0,none⟩) 0 0) []:=
 ⟨rfl,.inr ⟨w.heap.size,0,#[],rfl,ay _,heap_alloc_new w _,ay _,dt _,rfl,rfl⟩⟩
theorem Yiw{base:Nat}{A:Option Addr}{c:Nat}(h:Vp w base (.slice A m c) E)(hm:m<=1000):
  Calls cw 101 #[.slice A m c] w λe w'=>∃A' c',e=.returned (.slice A' m c')/\Vp w' w.heap.size (.slice A' m c') E/\Below w.heap.size w w':=by
 obtain⟨i0,hi,hz0,hz1,hz2⟩:=info_parts Ycg
 have hform:=h.2
 rcases hform with⟨e,h0⟩|⟨g,cap,cur,e,hb,hg,hnc,hcm,_⟩
 ·injection e with e1 e2 e3
  subst e1 e2 e3;obtain rfl:E=[]:=List.eq_nil_of_length_eq_zero h0
  have q:∀W,(binOp .eql 158 (.slice none 0 0) (.slice none 0 0)).run cw W=.ok (.bool true) W:=λW=>Lib.run_eql_slice_nil W _ _ none 0 0 0 0 df
  go_enter ff,fc;go_wp2;go_ret;exact⟨none,0,rfl,Vp.Zj _ _,Below.refl _ _⟩
 ·injection e with e1 e2 e3
  subst e1 e3
  have q:∀W,(binOp .eql 158 (.slice (some ⟨g,0,none⟩) m c) (.slice none 0 0)).run cw W=.ok (.bool false) W:=λW=>Lib.run_eql_slice_nil W _ _ (some ⟨g,0,none⟩) m c 0 0 df
  have hcells:=hid (World.ownsRow.cells (World.ownsRow.alloc h (.cells #[] 168)) (g:=g) rfl)
  have hEm:E.length=m:=e2.symm
  have HE:=hid hEm
  clear hg hEm e2;go_enter ff,fc;go_wp2_with (at_builtin;refine wpList_append_own_at _ rfl _ _ 158 rfl w.heap.size 168 i0 _ 2 24 df hi hz0 hz1 hz2 rfl (by decide) _ 0 [] rfl (Vp.empty w) ⟨g,0,none⟩ m c (E.flatMap pcs) rfl (by rw[Yts,HE.out]) hcells.out (Yum E) (by unfold maxLen;omega) (by omega) (by simp) ?_)
  intro v2 w2 hO hG hnil _
  have hO2:Vp w2 w.heap.size v2 E:=by unfold Vp;rw[HE.out];simpa using hO
  have hB2:Below w.heap.size w w2:=⟨hG.os,hG.tape,hG.output,ch (by simp) hG.size,λk hk=>(hG.block k (by simp;omega) (λe=>by simp[Value.ownBlock]at e;omega)).trans (Below.heap_alloc w _ k hk)⟩
  obtain⟨A2,c2,rfl,_⟩:=hO2.form
  have hF:=hid (show Vp w2 w.heap.size (.slice A2 m c2) E/\Below w.heap.size w w2 from⟨by have:=hO2;rwa [HE.out]at this,hB2⟩)
  rw[HE.out];clear hO hG hnil hO2 hB2;go_wp2;go_ret;exact⟨A2,c2,rfl,hF.out.1,hF.out.2⟩
theorem Yjk{b:Nat}(h:Vn w b E):
  Calls cw 102 #[.map (some b)] w λe w'=>e=.returned (.map (some w.heap.size))/\Vn w' w.heap.size E/\Below w.heap.size w w':=by
 obtain⟨n,D,⟨es,clock,hb,F,hs,hD⟩,hn,hlook⟩:=h
 have hq:=λw=>run_eql_map_nil_sl (P:=cw) w 157 _ _ (some b) dw
 have hF:=hid (show Vn (w.alloc (.map es clock)) w.heap.size E/\Below w.heap.size w (w.alloc (.map es clock))from⟨⟨n,D,⟨es,clock,(MapKept.heap_alloc w _).1,F,hs,hD⟩,hn,hlook⟩,Yb w _⟩)
 clear F hs hD hlook;go_enter Tryz.func102,Tryz.ntmps102;go_wp2;rw[run_callFunc_extern Tryz.func161 (by kernel_rfl) (by kernel_rfl) (by kernel_rfl) (e:=Extern.MapsClone.clone) (by kernel_rfl),run_maps_clone_sl w 157 hb]
 simp only[Result.andThen];rw[Oper.upon_value];go_wp2;rw[run_typeAssert_map_sl _ 157 20 _ _ _ dw];simp only[Result.andThen];rw[Oper.upon_value];go_wp2;go_ret;exact⟨rfl,hF.out.1,hF.out.2⟩
theorem Yp8{base g:Nat}{pv:Value}{bm:Nat}(h:Dc w base g pv bm n Q):
  Calls cw 48 #[.pointer (some ⟨g,0,none⟩)] w λe w'=>∃g' pv' bm',e=.returned (.pointer (some ⟨g',0,none⟩))/\Dc w' w.heap.size g' pv' bm' n Q/\Below w.heap.size w w':=by
 have hgl:=h.block.lt
 have hQ:=h.good.size
 have HH:=hid h
 have K:Hid (∀y,Below w.heap.size w y->y.cell? ⟨g,0,none⟩=some (.int .i64 n)/\y.cell? ⟨g,1,none⟩=some pv/\y.cell? ⟨g,2,none⟩=some (.map (some bm))):=hid λy hy=>⟨(h.below hy).c0,(h.below hy).c1,(h.below hy).c2⟩
 obtain⟨A,cap,rfl,_⟩:=h.form
 have c0:=h.c0
 have c1:=h.c1
 have c2:=h.c2
 have hrow:Vp w.drew base (.slice A Q.length cap) (Xa Q):=h.row
 have hcl:=Yiw hrow (by omega)
 clear h;go_enter Tryz.func48,Tryz.ntmps48;go_wp2_with fail;go_region_held3 (λw'=>w'.cell? ⟨g,0,none⟩=some (.int .i64 n)/\w'.cell? ⟨g,1,none⟩=some (.slice A Q.length cap)/\w'.cell? ⟨g,2,none⟩=some (.map (some bm)))
  (first
   |go_keep
   |exact K.out _ hBB2
   |exact K.out _ hBB1)
  (first
   |(go_at_call 101;refine hcl.mono ?_;rintro e w1 ⟨A1,cap1,rfl,hO1,hB1⟩;have hBB1:Below w.heap.size w w1:=((below_drewN (Below.refl _ w) 1).trans hB1);have hM1:=(HH.out.below hBB1).map)
   |(go_at_call 102;refine(Yjk hM1).mono ?_;rintro e w2 ⟨rfl,hM2,hB2⟩;have hBB2:=hBB1.trans (hB2.mono hBB1.size)))
 have hs1:=hBB1.size
 have hs2:=hBB2.size
 have hF:=hid (show Dc (w2.alloc (.cells #[.int .i64 n,.slice A1 Q.length cap1,.map (some w1.heap.size)] 160)) w.heap.size w2.heap.size (.slice A1 Q.length cap1) w1.heap.size n Q/\Below w.heap.size w (w2.alloc (.cells #[.int .i64 n,.slice A1 Q.length cap1,.map (some w1.heap.size)] 160))from
  ⟨⟨Block.new w2 _ _,Vp.alloc (w:=w2) (Vp.low (Vp.below hO1 hB2) (ay _)) _,hM2.alloc _,hs2,hs1,HH.out.good⟩,hBB2.alloc hs2 _⟩)
 clear hO1 hB1 hB2 hM1 hM2 hBB1 hBB2;go_wp2_with fail;go_ret;exact⟨_,_,_,rfl,hF.out.1,hF.out.2⟩
section
def Off(gr base:Nat)(w w':World):Prop:=Chg (λk=>k=gr∨base<=k) w w'
section
variable {gr base:Nat}{w a b:World}
theorem Off.size(h:Off gr base w a):w.heap.size<=a.heap.size:=Chg.size h
end
end
theorem Yt5(h:q.length=j+1):q.getLastD []=q.getD j []:=by
 have:=Yc2 (q:=q) (k:=j) (by omega)
 rwa [ai (by omega)]at this
theorem Yun(h:q.length=j+1):q.dropLast=q.take j:=by
 rw[List.dropLast_eq_take,h,dx]
theorem Ygf{base r:Nat}{Lv:Value}(h:Rf w base r n Lv Q){A:Option Addr}{m c:Nat}{l:List UInt8}(hb:Xo w w.heap.size A m c l)(hm:m<=100000):
  Calls cw 83 #[.pointer (some ⟨r,0,none⟩),.slice A m c] w λe w'=>∃v,e=.returned v/\Zc w' w.heap.size 5 v (l++U6 Q)/\Below w.heap.size w w':=by
 obtain⟨A2,cap,rfl,hT⟩:=h.row.form
 have hc1:=h.c1
 have hcap:=hT.cap
 have hQ:=h.good.size
 have hrl:=h.block.lt
 have hgood:=hid h.good
 have hz:=Tm (n:=(Q.length:Int)) (by omega) (by omega)
 have hten:=hid (U8 hz)
 have HL:=hid hb.len
 have K:Hid (∀y,Below w.heap.size w y->y.cell? ⟨r,1,none⟩=some (.slice A2 Q.length cap)/\Rf y base r n (.slice A2 Q.length cap) Q/\Yu5 y A2 Q.length cap Q):=hid λy hy=>⟨(hy.cell (p:=⟨r,1,none⟩) hrl).trans hc1,h.below hy,by
  obtain⟨A3,c3,e,h3⟩:=(h.below hy).row.form;injection e with e1 e2 e3
  subst e1 e3;exact h3⟩
 have hp:=Uf hb (Q.length:Int) (by omega) (by omega) (by omega)
 clear hz hT h;go_enter Tryz.func83,Tryz.ntmps83;go_wp2_with fail;refine hp.mono ?_;rintro e w1 ⟨v1,rfl,hO1,hB1⟩
 have HO1:=hid hO1
 clear hp hO1;go_wp2_with fail;go_loopw [5,6] (λv i wr=>∃k:Nat,k<=Q.length/\i=.int .i64 k/\Zc wr w.heap.size 5 v (l++enc (zig (Q.length:Int))++((Xa Q).take k).flatMap Vq)/\Below w.heap.size w wr/\Hid ((((Xa Q).take k).flatMap Vq).length<=32*k)) (λ_ i _=>Q.length-(intOf i).toNat)
 case atStart=>exact⟨0,dt _,rfl,by simpa using HO1.out,hB1,hid (by simp)⟩
 case round=>
  obtain⟨k,hk,rfl,hO,hB,hle⟩:=hrel;obtain⟨c1,hRf,hTs⟩:=K.out wr hB
  by_cases hlt:k<Q.length
  ·obtain⟨q,hq⟩: ∃q,Hid (Q[k]?=some q):=⟨_,hid (ae hlt)⟩
   obtain⟨b,o,A',n',c',rfl,hb1,hc0,hTq⟩:=hTs.has k q hq.out
   have hqm:=an hq.out
   obtain⟨j,rfl⟩: ∃j,n'=j+1:=⟨n'-1,by have:=(hgood.out.one q hqm).1;have:=hTq.len;omega⟩
   obtain⟨b2,o2,s,rfl,hb2,hcs,hs⟩:=hTq.at_ (k:=j) (by omega)
   obtain⟨a,ha⟩: ∃a,Hid (fnd Q (q.take j)=a):=⟨_,hid rfl⟩
   have hent:Hid ((Xa Q)[k]?=some (a,s)):=hid (by rw[Ry hq.out,Yun hTq.len,ha.out,Yt5 hTq.len,hs.out])
   obtain⟨ha40,hs12⟩:=hgood.out.Ydm hent.out
   have hcapq:=hTq.cap
   have hf:=Qj hRf (hTq.Q3 j (by omega)) ha
   have hft:=hid (Mn Vq hent.out)
   have hel:=hid (Yad (e:=(a,s)) (by omega) hs12)
   have Hle2:Hid ((((Xa Q).take (k+1)).flatMap Vq).length<=32*(k+1)):=hid (by rw[hft.out,ar];have:=hle.out;have:=hel.out;omega)
   have Hll:Hid ((l++enc (zig (Q.length:Int))++((Xa Q).take k).flatMap Vq).length<=200000):=hid (by
    simp only[ar]
    have h1:=hle.out;have h2:=hten.out;have h3:=HL.out
    omega)
   obtain⟨A3,n3,c3,rfl,hv3,_⟩:=hO.Yr
   have hn3:n3<=200000:=by rw[<-hv3.len];exact Hll.out
   have hk0:(0:Int)<=(k:Int):=by omega
   have hk1:(k:Int)<(Q.length:Int):=by omega
   have hj5:j<=3:=by have h1:=(hgood.out.one q hqm).2;have h2:=hgood.out.lv.2;have:=hTq.len;omega
   have hj1:(j:Int)+1-1=(j:Int):=by omega
   have hj2:(0:Int)<=(j:Int):=by omega
   have hj3:(j:Int)<=(c':Int):=by omega
   have hj4:(j:Int)<(j:Int)+1:=by omega
   have HS:Hid (s.length<=12):=hid hs12
   have Hbs:=hB.size
   have hcs2:wr.cell? ⟨b2,o2+j,none⟩=some (.string ⟨s.toArray⟩):=hcs
   have hbl:Hid (b2<wr.heap.size):=hid hb2
   have Hv3:=hid hv3
   clear hqm hTs hTq hRf hcs hle hO hv3 hlt;go_wp2_with fail;refine hf.mono ?_;rintro e w2 ⟨rfl,jj,rfl⟩;go_wp2_with fail;refine(Uf (w:=wr.drewN jj) (Hv3.out.drewN jj) (a:Int) (by omega) (by omega) (by omega)).mono ?_
   rintro e w3 ⟨v4,rfl,hO4,hB4⟩
   have hB4':Below wr.heap.size wr w3:=(below_drewN (Below.refl _ wr) jj).trans hB4
   have hcs3:=(hB4'.cell (p:=⟨b2,o2+j,none⟩) hbl.out).trans hcs2
   have h10:=U8 (Tm (n:=(a:Int)) (by omega) (by omega))
   obtain⟨A4,n4,c4,rfl,hv4,_⟩:=hO4.Yr
   have hn4:n4+s.length+10<=1000000000:=by
    have h1:=hv4.len
    have h2:=Hll.out
    have h3:=HS.out
    rw[ar]at h1;omega
   have Hv4:=hid hv4
   have hbs3:=ch Hbs hB4'.size
   have hB5:=hB.trans (hB4'.mono Hbs)
   clear hO4 hB4 hv4 h10 hB;go_wp2_with fail;refine(D0 Hv4.out s hn4).mono ?_;rintro e w5 ⟨v6,rfl,hO6,hB6⟩
   have hF:=hid (show Zc w5 w.heap.size 5 v6 (l++enc (zig (Q.length:Int))++((Xa Q).take (k+1)).flatMap Vq)/\Below w.heap.size w w5 from⟨by
    rw[hft.out]
    have:=hO6.low hbs3
    simpa only[Vq,ax]using this,hB5.trans (hB6.mono hbs3)⟩)
   clear hO6 hB6 hB5;go_wp2_with fail;go_roundw
   case rel=>exact⟨k+1,by omega,by go_num,hF.out.1,hF.out.2,Hle2⟩
   case measure=>simp[intOf];omega
  ·have hke:Hid (((Xa Q).take k).flatMap Vq=(Xa Q).flatMap Vq):=hid (by rw[ai (by rw[Sq];omega)])
   go_wp2_with fail;go_ret;exact⟨_,rfl,by rw[hke.out,ax]at hO;exact hO,hB⟩
section
section
variable {n:Nat}{Q:List Pth}
theorem Good.up_(h:Good n Q){k:Nat}{q:Pth}(hq:Q[k]?=some q):fnd Q q.dropLast<=k/\pth (Q.take k) (fnd Q q.dropLast)=q.dropLast:=by
 rcases h.up k q hq with e|e
 ·rw[e,h.Na]
  exact⟨dt _,rfl⟩
 ·have h1:fnd (Q.take k++Q.drop k) q.dropLast=fnd (Q.take k) q.dropLast:=Ja e
  rw[dc]at h1;rw[h1];exact⟨ch Rv (List.length_take_le _ _),Qd e⟩
theorem Ys1(hg:Good n Q)(hw:Whole n Q){k:Nat}{q:Pth}(hq:Q[k]?=some q):Yqf n (Q.take k)=0∨Yqf n (Q.take k)=fnd Q q.dropLast:=by
 have hkl:=(af.1 hq).1
 have hlen:(Q.take k).length=k:=by simp;omega
 unfold Yqf
 split
 ·rename_i h1
  rcases k with _|j
  ·left;simp
  ·right
   rw[hlen]at h1⊢
   have h2:Q[j]?=some (pth (Q.take (j+1)) (j+1)):=by
    have:=Js (Q:=Q.take (j+1)) (c:=j+1) (by omega) (by omega)
    rw[dx,cn,if_pos (by omega)]at this
    exact this
   obtain⟨q',h3,h4⟩:=hw j _ h2 h1;rw[hq]at h3;obtain rfl:=Option.some.inj h3;rw[h4,Mp hg.nodup h2]
 ·left;rfl
theorem Yqi{F R:List UInt8}{m:Nat}{hi:Int}(hm:(m:Int)<=hi)(hb:m<=1000):lk (F++(enc (zig (m:Int))++R)) F.length 0 0 hi=((m:Int),(enc (zig (m:Int))).length,0):=by
 have hd:(F++(enc (zig (m:Int))++R)).drop F.length=enc (zig (m:Int))++R:=fb
 obtain⟨g1,g2,g3⟩:=Ywx (n:=(m:Int)) (by omega) (by omega) R
 rw[Ywf (by rw[hd];exact g3) (by rw[hd,g1];omega),hd,g1,g2]
theorem Yvn{F R:List UInt8}{s:Txt}(hs:s.length<=12):tx (F++(enc (zig (s.length:Int))++(s++R))) F.length 0 12=(s,F.length+(enc (zig (s.length:Int))).length+s.length,0):=by
 have h1:=Yqi (F:=F) (R:=s++R) (m:=s.length) (hi:=12) (by omega) (by omega)
 have hd:(F++(enc (zig (s.length:Int))++(s++R))).drop (F.length+(enc (zig (s.length:Int))).length)=s++R:=by
  rw[<-ax,<-ar,fb]
 rw[Yw2 h1 (by simp),hd,bn,List.take_left]
theorem Ywk(hg:Good n Q)(hw:Whole n Q)(F R:List UInt8):∀{k:Nat},k<=Q.length->rdN n (F++(U6 Q++R)) ([],F.length+(enc (zig (Q.length:Int))).length,0) k=(Q.take k,(F++(enc (zig (Q.length:Int))++((Xa Q).take k).flatMap Vq)).length,0):=by
 intro k
 induction k with
 |zero=>intro _;simp[rdN]
 |succ k ih=>
  intro hk;obtain⟨q,hq⟩: ∃q,Q[k]?=some q:=⟨_,ae (by omega)⟩
  have hqm:=an hq
  have hne:q≠[]:=λe=>by have:=(hg.one q hqm).1;rw[e]at this;simp at this
  have hent:=Ry hq
  obtain⟨hak,hpt⟩:=hg.up_ hq
  have hdue:=Ys1 hg hw hq
  obtain⟨ha40,hs12⟩:=hg.Ydm hent
  have hsl:=Db hne
  have hnm:Z6 (q.getLastD []):=hg.nam q hqm _ (by
   have h1:q.getLastD []∈q.dropLast++[q.getLastD []]:=by simp
   rwa [hsl]at h1)
  generalize fnd Q q.dropLast=a at *;generalize q.getLastD []=s at *
  have hft:=Mn Vq hent
  have hsplit:F++(U6 Q++R)=F++(enc (zig (Q.length:Int))++((Xa Q).take k).flatMap Vq)++(enc (zig (a:Int))++(enc (zig (s.length:Int))++(s++(((Xa Q).drop (k+1)).flatMap Vq++R)))):=by
   have h1:(Xa Q).flatMap Vq=((Xa Q).take (k+1)).flatMap Vq++((Xa Q).drop (k+1)).flatMap Vq:=by
    rw[<-du,dc]
   unfold U6;rw[h1,hft];simp only[Vq,ax]
  have hlen:(Q.take k).length=k:=by simp;omega
  show rdS n (F++(U6 Q++R)) (rdN n (F++(U6 Q++R)) _ k)=_
  rw[ih (by omega)]
  have h1:lk (F++(U6 Q++R)) (F++(enc (zig (Q.length:Int))++((Xa Q).take k).flatMap Vq)).length 0 0 (Q.take k).length=((a:Int),(enc (zig (a:Int))).length,0):=by
   rw[hsplit];exact Yqi (by rw[hlen];omega) (by omega)
  have h2:tx (F++(U6 Q++R)) ((F++(enc (zig (Q.length:Int))++((Xa Q).take k).flatMap Vq)).length+(enc (zig (a:Int))).length) 0 12=(s,(F++(enc (zig (Q.length:Int))++((Xa Q).take k).flatMap Vq)).length+(enc (zig (a:Int))).length+(enc (zig (s.length:Int))).length+s.length,0):=by
   rw[hsplit,<-ar,<-ax _ (enc (zig (a:Int))) _];exact Yvn hs12
  have hmay:Ysn n (Q.take k) a s:=by
   refine⟨hnm,?_,?_,hdue⟩
   ·rw[hpt,List.length_dropLast]
    have:=hg.one q hqm
    omega
   ·rw[hpt,hsl]
    intro hm;obtain⟨j,hj⟩:=bs hm;rw[cn]at hj
    split at hj
    ·have e1:=Mp hg.nodup hj
     have e2:=Mp hg.nodup hq
     omega
    ·cases hj
  rw[Yvm h1 h2,if_pos hmay,hpt,hsl,bg,hq,hft];refine dg rfl (dg ?_ rfl);simp only[Vq,ar];omega
theorem Yf7(hg:Good n Q):1<=(U6 Q).length/\(U6 Q).length<=2000:=by
 have h1:∀{k:Nat},k<=Q.length->(((Xa Q).take k).flatMap Vq).length<=32*k:=by
  intro k
  induction k with
  |zero=>intro _;simp
  |succ k ih=>
   intro hk;obtain⟨a,s,hent⟩: ∃a s,(Xa Q)[k]?=some (a,s):=⟨_,_,Ry (ae (show k<Q.length by omega))⟩
   obtain⟨ha40,hs12⟩:=hg.Ydm hent
   have h2:=ih (by omega)
   have h3:=Yad (e:=(a,s)) (by omega) hs12
   rw[Mn Vq hent,ar];omega
 have h2:=h1 (ay Q.length)
 rw[ai (by rw[Sq];exact ay _)]at h2
 have h3:=hg.size
 have h4:=Yk0 (zig (Q.length:Int))
 have h5:=U8 (Tm (n:=(Q.length:Int)) (by omega) (by omega))
 unfold U6;rw[ar];omega
end
end
section
def Yen(m:Nat)(Qs:List (List Pth))(B:Cub):List UInt8:=Qs.flatMap U6++Yot m B
def O2:List Nat->List (List Pth)->Prop
 |n::N,Q::Qs=>Whole n Q/\O2 N Qs
 |_,_=>True
theorem C0:∀{N:List Nat}{Qs:List (List Pth)}(P:List Pth),Xz N Qs->O2 N Qs->O2 N (Vj N Qs P)
 |_::_,_::_,_::P,⟨g,g'⟩,⟨h,h'⟩=>⟨Whole.add g h,C0 P g' h'⟩
 |[],[],_,_,h=>h
 |_::_,_::_,[],_,h=>h
 |[],_::_,_,h,_=>h.elim
 |_::_,[],_,h,_=>h.elim
def Q8:List Nat->List (List Pth)->List Int->Prop
 |n::N,Q::Qs,c::k=>(0<c/\c<=(Q.length:Int)/\(pth Q c.toNat).length=n)/\Q8 N Qs k
 |[],[],[]=>True
 |_,_,_=>False
def Yxt(D:List Yk)(M:List Txt)(V:List (List Int))(Qs:List (List Pth))(B:Cub):Prop:=
 (∀e∈B,Q8 (Yj D) Qs e.1)/\(∀v∈Yg D V,okF M.length (λe:List Int×PC=>Vo v (Z1 Qs e.1)) (λe=>e.2) B)/\Y4 (B.map λe=>e.2.1)<=1099511627776
theorem He:∀{D:List Yk}{Qs:List (List Pth)}{P:List Pth},Xz (Yj D) Qs->Xv Qs (Yn D) P->P.map az=Yj D->(∀p∈P,p≠[])->Q8 (Yj D) Qs (Xn Qs (Yn D) P)
 |[],[],[],_,_,_,_=>trivial
 |d::D,Q::Qs,p::P,⟨g,g'⟩,⟨h,h'⟩,hl,hn=>by
  simp only[Yj,bo,List.cons.injEq]at hl
  have hp:p.take ((d.2.length:Int)).toNat=p:=ai (by rw[bn,hl.1];exact ay _)
  refine⟨?_,He g' h' hl.2 λq hq=>hn q (br _ hq)⟩
  have hm:p∈Q:=by
   have h1:p.take ((d.2.length:Int)).toNat=[]∨p.take ((d.2.length:Int)).toNat∈Q:=h
   rw[hp]at h1;exact h1.resolve_left (hn p (by simp))
  show 0<((fnd Q (p.take ((d.2.length:Int)).toNat):Nat):Int)/\_/\_
  rw[hp,bn,Qd hm]
  have h1:=Vh.2 hm
  have h2:=Rv (L:=Q) (x:=p)
  exact⟨by omega,by omega,hl.1⟩
 |[],[],_::_,_,h,_,_=>h.elim
 |[],_::_,_,h,_,_,_=>h.elim
 |_::_,[],_,h,_,_,_=>h.elim
 |_::_,_::_,[],_,h,_,_=>h.elim
theorem To:∀{D:List Yk}{P:List Pth},P.map az=Yj D->Vo (Yn D) P=P
 |[],[],_=>rfl
 |d::D,p::P,h=>by
  simp only[Yj,bo,List.cons.injEq]at h
  have hp:p.take ((d.2.length:Int)).toNat=p:=ai (by rw[bn,h.1];exact ay _)
  show p.take ((d.2.length:Int)).toNat::Vo (Yn D) P=_
  rw[hp,To h.2]
 |[],_::_,h=>by simp[Yj]at h
 |_::_,[],h=>by simp[Yj]at h
theorem Ylg{D:List Yk}{P:List Pth}(hD:∀d∈D,Zn d.2 3)(h:P.map az=Yj D):∀p∈P,p≠[]:=by
 intro p hp e
 have h1:p.length∈P.map az:=ag.2 ⟨p,hp,rfl⟩
 rw[h]at h1;obtain⟨d,hd,hl⟩:=ag.1 h1
 have h2:=(hD d hd).1
 rw[e]at hl;simp at hl;rw[hl]at h2;simp at h2
section
variable {D:List Yk}{M:List Txt}{V:List (List Int)}{E:List Hld}{Qs:List (List Pth)}{B:Cub}
theorem X5.base(h:X5 D M V E Qs){e:Hld}(he:e∈E):Z1 Qs (kC Qs (Yn D) e)=e.1:=by
 have h1:Z1 Qs (Xn Qs (Yn D) e.1)=Vo (Yn D) e.1:=Pw h.good.Q1 (h.has _ (by simp[Yg]) e he)
 rw[To (h.lev e he)]at h1;exact h1
theorem X5.chk(h:X5 D M V E Qs)(hB:Wr M.length (kC Qs (Yn D)) Zk E B):Yxt D M V Qs B:=by
 refine⟨λe he=>?_,λv _ e he=>?_,?_⟩
 ·obtain⟨⟨f,hf,hk⟩,_⟩:=(hB.all e).1 he
  rw[<-hk];exact He h.good (h.has _ (by simp[Yg]) f hf) (h.lev f hf) (Ylg h.may.1.1 (h.lev f hf))
 ·have hs:=Wr.sum (g:=λk=>Vo v (Z1 Qs k)) (k:=Vo v (Z1 Qs e.1)) h.cell hB ⟨e,he,rfl⟩
  obtain⟨⟨f,hf,hk⟩,_⟩:=(hB.all e).1 he
  have hc:Yf (λf=>Vo v (Z1 Qs (kC Qs (Yn D) f))) Zk E=Yf (kP v) Zk E:=by
   funext k
   unfold Yf
   congr 1
   refine ee λf hf=>?_
   show decide (Vo v (Z1 Qs (kC Qs (Yn D) f))=k)=decide (Vo v f.1=k)
   rw[h.base hf]
  show Zo (Yp _ (Yf (λe:List Int×PC=>Vo v (Z1 Qs e.1)) (λe=>e.2) B (Vo v (Z1 Qs e.1))))
  rw[hs,hc,<-hk,h.base hf];exact h.ok v (by assumption) f hf
 ·have hc:=h.cnt
  by_cases hn:B=[]
  ·subst hn
   decide
  ·obtain⟨e,he⟩:=List.exists_mem_of_ne_nil _ hn
   have hs:=Wr.sum (g:=λ_=>()) (k:=()) h.cell hB ⟨e,he,rfl⟩
   have h1:∀{α:Type}(c:α->PC) (κ:α->Unit) (L:List α),(Yp M.length (Yf κ c L ())).1=Y4 (L.map λa=>(c a).1):=λc κ L=>by
    have h2:(L.filter λf=>decide (κ f=()))=L:=List.filter_eq_self.2 λa _=>by simp
    unfold Yf;rw[h2];unfold Yp;rw[bj];rfl
   have h3:=congrArg fi hs
   rw[h1,h1]at h3;rw[h3];exact hc
end
end
section
def Yv5:Nat->List (List Int)
 |0=>[[]]
 |n+1=>(fh 40).flatMap λi=>(Yv5 n).map λk=>((i+1:Nat):Int)::k
theorem Yp9:∀{N:List Nat}{Qs:List (List Pth)}{k:List Int},Xz N Qs->Q8 N Qs k->k∈Yv5 N.length
 |[],[],[],_,_=>by simp[Yv5]
 |n::N,Q::Qs,c::k,⟨g,g'⟩,⟨h,h'⟩=>by
  have hs:=g.size
  refine ei.2 ⟨c.toNat-1,dj.2 (by omega),ag.2 ⟨k,Yp9 g' h',?_⟩⟩
  congr 1
  omega
 |[],[],_::_,_,h=>h.elim
 |[],_::_,_,h,_=>h.elim
 |_::_,[],_,h,_=>h.elim
 |_::_,_::_,[],_,h=>h.elim
theorem An:∀{N:List Nat}{Qs:List (List Pth)}{k:List Int},Xz N Qs->Q8 N Qs k->isKey N.length k
 |[],[],[],_,_=>⟨rfl,λc h=>by simp at h⟩
 |n::N,Q::Qs,c::k,⟨g,g'⟩,⟨h,h'⟩=>by
  have hs:=g.size
  obtain⟨h1,h2⟩:=An g' h';refine⟨by simp[h1],λx hx=>?_⟩
  rcases aw.1 hx with rfl|hx
  ·omega
  ·exact h2 x hx
 |[],[],_::_,_,h=>h.elim
 |[],_::_,_,h,_=>h.elim
 |_::_,[],_,h,_=>h.elim
 |_::_,_::_,[],_,h=>h.elim
section
variable {D:List Yk}{M:List Txt}{V:List (List Int)}{E:List Hld}{Qs:List (List Pth)}{B:Cub}
theorem X5.Yak(h:X5 D M V E Qs)(hB:Wr M.length (kC Qs (Yn D)) Zk E B):Xw D.length M.length B:=by
 have hk:=(h.chk hB).1
 refine⟨hB.ris,λe he=>?_,λe he=>?_⟩
 ·have h1:=An h.good (hk e he)
  rwa [show(Yj D).length=D.length by simp[Yj]]at h1
 ·obtain⟨_,hv⟩:=(hB.all e).1 he
  obtain⟨⟨f,hf,e1⟩,_⟩:=(hB.all e).1 he
  have h1:=h.ok (Yn D) (by simp[Yg]) f hf
  have h2:Yf (kC Qs (Yn D)) Zk E (kC Qs (Yn D) f)=Yf (kP (Yn D)) Zk E (kP (Yn D) f):=by
   unfold Yf
   congr 1
   refine ee λg hg=>?_
   have h3:=Tc h.good.Q1 (h.has (Yn D) (by simp[Yg])) g hg f hf
   exact decide_eq_decide.2 h3
  rw[hv,<-e1,h2]
  have hfull:∀x∈Yf (kP (Yn D)) Zk E (kP (Yn D) f),Full M.length x:=Ut h.cell _
  have hne:Yf (kP (Yn D)) Zk E (kP (Yn D) f)≠[]:=Wm.2 ⟨f,hf,rfl⟩
  have h4:=Rb hfull hne
  exact⟨h1,h4.1,h4.2.2.1⟩
end
end
section
theorem Ft{N:List Nat}: ∀{F:List Fct}{Qs:List (List Pth)},Xz N Qs->O2 N Qs->O2 N (Zh N Qs F).1
 |[],_,_,h=>h
 |f::F,Qs,g,h=>by
  rw[Zh]
  split
  ·exact h
  ·exact Ft (Mf f.1 g) (C0 f.1 g h)
theorem Ygv{D:List Yk}{M:List Txt}{V:List (List Int)}(h:Wk D M V):∀n∈Yj D,1<=n/\n<=3:=λn hn=>by
 obtain⟨d,hd,rfl⟩:=ag.1 hn;exact⟨(h.1.1 d hd).1,(h.1.1 d hd).2.1⟩
section
variable {D:List Yk}{M:List Txt}{V:List (List Int)}{E:List Hld}{G:List Fct}{Qs:List (List Pth)}
theorem Yek(hg:Xz (Yj D) Qs)(h:O2 (Yj D) Qs)(G:List Fct):O2 (Yj D) (Y9 D M V E Qs G).1.2:=by
 unfold Y9
 split
 ·exact h
 split
 ·exact h
 split
 ·exact h
 split
 ·exact h
 ·exact Ft hg h
theorem Yan:∀D:List Yk,O2 (Yj D) (D.map λ_=>[])
 |[]=>trivial
 |_::D=>⟨Ym1 _,Yan D⟩
end
end
section
/-! ### keys,place by place -/
theorem Pp:∀{Qs:List (List Pth)}{v:List Int}{P:List Pth},v.length=Qs.length->P.length=Qs.length->(Xn Qs v P).length=Qs.length
 |[],[],[],_,_=>rfl
 |Q::Qs,n::v,p::P,h,h'=>by
  simp only[Xn,ao]at h h'⊢;rw[Pp (by omega) (by omega)]
 |[],_::_,_,h,_=>by simp at h
 |[],[],_::_,_,h=>by simp at h
 |_::_,[],_,h,_=>by simp at h
 |_::_,_::_,[],_,h=>by simp at h
theorem Nl:∀{Qs:List (List Pth)}{v:List Int}{P:List Pth}{i:Nat},i<Qs.length->v.length=Qs.length->P.length=Qs.length->(Xn Qs v P).getD i 0=((fnd (Qs.getD i []) ((P.getD i []).take (v.getD i 0).toNat):Nat):Int)
 |Q::Qs,n::v,p::P,0,_,_,_=>rfl
 |Q::Qs,n::v,p::P,i+1,h,h1,h2=>by
  simp only[Xn,ao,aj]at h h1 h2⊢;exact Nl (by omega) (by omega) (by omega)
 |[],_,_,_,h,_,_=>by simp at h
 |_::_,[],_,_,_,h,_=>by simp at h
 |_::_,_::_,[],_,_,_,h=>by simp at h
theorem O5:∀{Qs:List (List Pth)}{k:List Int},k.length=Qs.length->(Z1 Qs k).length=Qs.length
 |[],[],_=>rfl
 |Q::Qs,c::k,h=>by
  simp only[Z1,ao]at h⊢;rw[O5 (by omega)]
 |[],_::_,h=>by simp at h
 |_::_,[],h=>by simp at h
theorem Kg:∀{Qs:List (List Pth)}{k:List Int}{i:Nat},i<Qs.length->k.length=Qs.length->(Z1 Qs k).getD i []=pth (Qs.getD i []) (k.getD i 0).toNat
 |Q::Qs,c::k,0,_,_=>rfl
 |Q::Qs,c::k,i+1,h,h'=>by
  simp only[Z1,ao,aj]at h h'⊢;exact Kg (by omega) (by omega)
 |[],_,_,h,_=>by simp at h
 |_::_,[],_,_,h=>by simp at h
theorem Xz.len:∀{N:List Nat}{Qs:List (List Pth)},Xz N Qs->Qs.length=N.length
 |[],[],_=>rfl
 |n::N,Q::Qs,h=>by simp[Xz.len h.2]
 |[],_::_,h=>h.elim
 |_::_,[],h=>h.elim
theorem Xz.get:∀{N:List Nat}{Qs:List (List Pth)}{i:Nat},Xz N Qs->i<N.length->Good (N.getD i 0) (Qs.getD i [])
 |n::N,Q::Qs,0,h,_=>h.1
 |n::N,Q::Qs,i+1,h,hi=>by
  simp only[ao,aj]at hi⊢;exact Xz.get h.2 (by omega)
 |[],_,_,_,hi=>by simp at hi
 |_::_,[],_,h,_=>h.elim
theorem Xz.of:∀{N:List Nat}{Qs:List (List Pth)},Qs.length=N.length->(∀i,i<N.length->Good (N.getD i 0) (Qs.getD i []))->Xz N Qs
 |[],[],_,_=>trivial
 |n::N,Q::Qs,hl,h=>⟨h 0 (by simp),Xz.of (by simpa using hl) λi hi=>by
  have:=h (i+1) (by simpa using hi)
  simpa only[aj]using this⟩
 |[],_::_,hl,_=>by simp at hl
 |_::_,[],hl,_=>by simp at hl
theorem M1:∀{N:List Nat}{Qs:List (List Pth)}{k:List Int},Q8 N Qs k->Qs.length=N.length/\k.length=N.length
 |[],[],[],_=>⟨rfl,rfl⟩
 |n::N,Q::Qs,c::k,h=>by
  have:=M1 h.2
  simp[this.1,this.2]
 |[],_::_,_,h=>h.elim
 |[],[],_::_,h=>h.elim
 |_::_,[],_,h=>h.elim
 |_::_,_::_,[],h=>h.elim
theorem Yc3:∀{N:List Nat}{Qs:List (List Pth)}{k:List Int}{i:Nat},Q8 N Qs k->i<N.length->0<k.getD i 0/\k.getD i 0<=((Qs.getD i []).length:Int)/\(pth (Qs.getD i []) (k.getD i 0).toNat).length=N.getD i 0
 |n::N,Q::Qs,c::k,0,h,_=>h.1
 |n::N,Q::Qs,c::k,i+1,h,hi=>by
  simp only[ao,aj]at hi⊢;exact Yc3 h.2 (by omega)
 |[],_,_,_,_,hi=>by simp at hi
 |_::_,[],_,_,h,_=>h.elim
 |_::_,_::_,[],_,h,_=>h.elim
theorem On.len:∀{N:List Nat}{v:List Int},On N v->v.length=N.length
 |[],[],_=>rfl
 |n::N,x::v,h=>by simp[On.len h.2.2]
 |[],_::_,h=>h.elim
 |_::_,[],h=>h.elim
theorem On.get:∀{N:List Nat}{v:List Int}{i:Nat},On N v->i<N.length->0<=v.getD i 0/\v.getD i 0<=((N.getD i 0:Nat):Int)
 |n::N,x::v,0,h,_=>⟨h.1,h.2.1⟩
 |n::N,x::v,i+1,h,hi=>by
  simp only[ao,aj]at hi⊢;exact On.get h.2.2 (by omega)
 |[],_,_,_,hi=>by simp at hi
 |_::_,[],_,h,_=>h.elim
def upB(Qs:List (List Pth))(k v:List Int):List Int:=Xn Qs v (Z1 Qs k)
theorem Yuv{D:List Yk}{Qs:List (List Pth)}{v:List Int}{P:List Pth}(hg:Xz (Yj D) Qs)(hP:Xv Qs (Yn D) P)(hl:P.map az=Yj D):upB Qs (Xn Qs (Yn D) P) v=Xn Qs v P:=by
 unfold upB;rw[Pw hg.Q1 hP,To hl]
theorem Yue{N:List Nat}{Qs:List (List Pth)}{k v:List Int}(hk:Q8 N Qs k)(hv:On N v):(upB Qs k v).length=N.length:=by
 have h1:=M1 hk
 have h2:=hv.len
 unfold upB;rw[Pp (by omega) (by rw[O5 (by omega)]),h1.1]
theorem Ytc{N:List Nat}{Qs:List (List Pth)}{k v:List Int}(hk:Q8 N Qs k)(hv:On N v){i:Nat}(hi:i<N.length):(upB Qs k v).getD i 0=((fnd (Qs.getD i []) ((pth (Qs.getD i []) (k.getD i 0).toNat).take (v.getD i 0).toNat):Nat):Int):=by
 have h1:=M1 hk
 have h2:=hv.len
 unfold upB;rw[Nl (by omega) (by omega) (by rw[O5 (by omega)]),Kg (by omega) (by omega)]
/-! ### what comes under each key -/
section
variable {α K:Type} [DecidableEq K] {κ:α->K}{c:α->PC}{G:List α}
theorem Z8{i:Nat}{f:α}(h:G[i]?=some f):G.take (i+1)=G.take i++[f]:=by rw[bg,h];rfl
theorem Qh{i:Nat}{f:α}(h:G[i]?=some f)(k:K):Yf κ c (G.take (i+1)) k=if κ f=k then Yf κ c (G.take i) k++[c f]else Yf κ c (G.take i) k:=by
 rw[Z8 h,Tu];unfold Yf
 by_cases hk:κ f=k
 ·simp[hk]
 ·simp[hk]
def Wu(κ:α->K)(c:α->PC)(G:List α):List (K×List PC):=(V1 κ G []).map λk=>(k,Yf κ c G k)
theorem Yba(κ:α->K)(c:α->PC)(G:List α):(Wu κ c G).map (·.1)=V1 κ G []:=by
 unfold Wu;rw[bj];exact fg _
theorem Ysf{i:Nat}{f:α}(h:G[i]?=some f){j:Nat}{M:List PC}(hj:(Wu κ c (G.take i))[j]?=some (κ f,M)):Wu κ c (G.take (i+1))=(Wu κ c (G.take i)).set j (κ f,M++[c f]):=by
 unfold Wu at hj⊢;rw[ak,dn]at hj;obtain⟨k,hk,e⟩:=hj;obtain⟨rfl,rfl⟩:=Prod.mk.inj e
 have hn:=Pt κ (G.take i) [] di
 rw[M3 h,if_pos (an hk)];refine List.ext_getElem? λq=>?_
 rw[ak,dz,av,ak]
 by_cases hq:j=q
 ·subst hq
  rw[if_pos rfl,if_pos (af.1 hk).1,hk];simp only[dh,Qh h,if_pos]
 ·rw[if_neg hq]
  rcases hx:(V1 κ (G.take i) [])[q]? with _|x
  ·rfl
  ·have hne:¬κ f=x:=λe=>hq (Ybo hn hk (by rw[hx,e]))
   simp only[dh,Qh h,if_neg hne]
theorem Yri{i:Nat}{f:α}(h:G[i]?=some f)(hn:κ f∉V1 κ (G.take i) []):Wu κ c (G.take (i+1))=Wu κ c (G.take i)++[(κ f,[c f])]:=by
 unfold Wu;rw[M3 h,if_neg hn,db]
 have h0:Yf κ c (G.take i) (κ f)=[]:=by
  by_cases h':Yf κ c (G.take i) (κ f)=[]
  ·exact h'
  ·obtain⟨g,hg,e⟩:=Wm.1 h'
   exact absurd ((Si κ _ [] _).2 (.inr ⟨g,hg,e⟩)) hn
 congr 1
 ·refine dd λx hx=>?_
  have hne:¬κ f=x:=λe=>hn (e▸hx)
  rw[Qh h,if_neg hne]
 ·simp only[bo,dp,Qh h,if_pos,h0,ez]
theorem U4{x:K×List PC}:x∈Wu κ c G↔(∃f∈G,κ f=x.1)/\x.2=Yf κ c G x.1:=by
 unfold Wu;rw[ag];constructor
 ·rintro⟨k,hk,rfl⟩
  rcases(Si κ G [] k).1 hk with h|h
  ·simp at h
  ·exact⟨h,rfl⟩
 ·rintro⟨h,e⟩
  exact⟨x.1,(Si κ G [] _).2 (.inr h),by rw[<-e]⟩
theorem Bg(κ:α->K)(c:α->PC)(G:List α):(Wu κ c G).length<=G.length:=by
 unfold Wu;rw[av];simpa using Dx κ G []
end
/-! ### what a cell is with the cells that Yvi -/
def Xd(C:Cub)(k:List Int)(M:List PC):PC×Int:=Um ((Za C k).toList++M)
abbrev Chn:=(Nat×List Int)×(List PC×PC)
def Lc(v:Nat)(C:Cub)(L:List (List Int×List PC)):List Chn:=L.map λx=>((v,x.1),(x.2,(Xd C x.1 x.2).1))
def okV(C:Cub)(L:List (List Int×List PC)):Prop:=∀x∈L,(Xd C x.1 x.2).2=0
def Bo(Cs:List Cub)(x:Chn):List Cub:=Cs.set x.1.1 (Wo (Cs.getD x.1.1 []) x.1.2 x.2.2)
def V2(Cs:List Cub)(L:List Chn):List Cub:=L.foldl Bo Cs
theorem Ygu(Cs:List Cub)(x:Chn):(Bo Cs x).length=Cs.length:=by unfold Bo;rw[List.length_set]
theorem Yci(L:List Chn):∀Cs:List Cub,(V2 Cs L).length=Cs.length:=by
 induction L with
 |nil=>exact λ_=>rfl
 |cons x L ih=>exact λCs=>(ih (Bo Cs x)).trans (Ygu Cs x)
theorem Yj2{L:List Chn}{x:Chn}(h:L[i]?=some x):V2 Cs (L.take (i+1))=Bo (V2 Cs (L.take i)) x:=by
 unfold V2;rw[Z8 h,List.foldl_append];rfl
theorem Ybd{x:Chn}(hx:x.1.1<Cs.length)(v:Nat):(Bo Cs x).getD v []=if x.1.1=v then Wo (Cs.getD v []) x.1.2 x.2.2 else Cs.getD v []:=by
 unfold Bo;rw[aa,dz]
 by_cases h:x.1.1=v
 ·rw[if_pos h,if_pos h,if_pos (h▸hx),h];rfl
 ·rw[if_neg h,if_neg h,aa]
theorem Ff{n:Nat}(Wh:Nat->List Int->PC)(v:Nat)(k:List Int):∀(L:List Chn) (Cs:List Cub),Cs.length=n->(∀x∈L,x.1.1<n/\x.2.2=Wh x.1.1 x.1.2)->Za ((V2 Cs L).getD v []) k=if ∃x∈L,x.1=(v,k)then some (Wh v k)else Za (Cs.getD v []) k
 |[],Cs,_,_=>by simp[V2]
 |x::L,Cs,hn,hL=>by
  show Za ((V2 (Bo Cs x) L).getD v []) k=_
  rw[Ff Wh v k L (Bo Cs x) (by rw[Ygu,hn]) λy hy=>hL y (br _ hy),Ybd (by rw[hn];exact(hL x (by simp)).1)]
  by_cases h:∃y∈L,y.1=(v,k)
  ·obtain⟨y,hy,e⟩:=h
   rw[if_pos ⟨y,hy,e⟩,if_pos ⟨y,br _ hy,e⟩]
  ·rw[if_neg h]
   by_cases hx:x.1=(v,k)
   ·rw[if_pos (show x.1.1=v by rw[hx]),Uq,if_pos (show k=x.1.2 by rw[hx]),if_pos ⟨x,by simp,hx⟩,(hL x (by simp)).2,hx]
   ·have hn': ¬∃y∈x::L,y.1=(v,k):=by
     rintro⟨y,hy,e⟩
     rcases aw.1 hy with rfl|hy
     ·exact hx e
     ·exact h ⟨y,hy,e⟩
    rw[if_neg hn']
    by_cases h1:x.1.1=v
    ·rw[if_pos h1,Uq,if_neg λe=>hx (dg h1 e.symm)]
    ·rw[if_neg h1]
theorem Yce:∀(L:List Chn) (Cs:List Cub),(∀v,Ris (Cs.getD v []))->∀v,Ris ((V2 Cs L).getD v [])
 |[],Cs,h,v=>h v
 |x::L,Cs,h,v=>Yce L (Bo Cs x) (λq=>by
  by_cases hx:x.1.1<Cs.length
  ·rw[Ybd hx]
   split
   ·exact Yah (h q) _ _
   ·exact h q
  ·have e:Bo Cs x=Cs:=List.set_eq_of_length_le (by omega)
   rw[e];exact h q) v
end
section
theorem Kc{Rs:List (List Pth)}{v:List Int}(G:List Fct)(k:List Int):Yf (kC Rs v) Zk (G.map Zy) k=Yf (kC Rs v) Zb G k:=by
 unfold Yf;rw[List.filter_map,bj];rfl
theorem Bi:∀{N:List Nat}{Qs:List (List Pth)}{v:List Int}{P:List Pth},Xz N Qs->Xv Qs v P->isKey N.length (Xn Qs v P)
 |[],[],[],[],_,_=>⟨rfl,λc h=>by simp[Xn]at h⟩
 |n::N,Q::Qs,x::v,p::P,hg,hp=>by
  obtain⟨h1,h2⟩:=Bi hg.2 hp.2;refine⟨by simp only[Xn,ao,h1],λc hc=>?_⟩
  simp only[Xn,aw]at hc
  rcases hc with rfl|hc
  ·have:=@Rv _ _ Q (p.take x.toNat)
   have:=hg.1.size
   omega
  ·exact h2 c hc
 |[],_::_,_,_,h,_=>h.elim
 |_::_,[],_,_,h,_=>h.elim
 |[],[],_::_,_,_,h=>h.elim
 |[],[],[],_::_,_,h=>h.elim
 |_::_,_::_,[],_,_,h=>h.elim
 |_::_,_::_,_::_,[],_,h=>h.elim
structure Wn (D:List Yk) (M:List Txt) (V:List (List Int)) (E:List Hld) (Qs:List (List Pth)) (Cs:List Cub):Prop where
 len:Cs.length=(Yg D V).length
 at_:∀i v,(Yg D V)[i]?=some v->Wr M.length (kC Qs v) Zk E (Cs.getD i [])
def Sd(Rs:List (List Pth))(Vs:List (List Int))(Cs:List Cub)(G:List Fct)(n:Nat):List Chn:=(fh n).flatMap λi=>Lc i (Cs.getD i []) (Wu (kC Rs (Vs.getD i [])) Zb G)
theorem Ypk(Rs:List (List Pth))(Vs:List (List Int))(Cs:List Cub)(G:List Fct):Sd Rs Vs Cs G 0=[]:=rfl
theorem Hc(Rs:List (List Pth))(Vs:List (List Int))(Cs:List Cub)(G:List Fct)(n:Nat):Sd Rs Vs Cs G (n+1)=Sd Rs Vs Cs G n++Lc n (Cs.getD n []) (Wu (kC Rs (Vs.getD n [])) Zb G):=by
 unfold Sd;rw[List.range_succ,du];simp
theorem Ph{Rs:List (List Pth)}{Vs:List (List Int)}{Cs:List Cub}{G:List Fct}{n:Nat}{x:Chn}:x∈Sd Rs Vs Cs G n↔x.1.1<n/\(∃g∈G,kC Rs (Vs.getD x.1.1 []) g=x.1.2)/\x.2.1=Yf (kC Rs (Vs.getD x.1.1 [])) Zb G x.1.2/\x.2.2=(Xd (Cs.getD x.1.1 []) x.1.2 x.2.1).1:=by
 unfold Sd Lc;rw[ei];constructor
 ·rintro⟨i,hi,hx⟩
  obtain⟨y,hy,rfl⟩:=ag.1 hx;obtain⟨h1,h2⟩:=U4.1 hy;exact⟨dj.1 hi,h1,h2,rfl⟩
 ·rintro⟨h1,h2,h3,h4⟩
  refine⟨x.1.1,dj.2 h1,ag.2 ⟨(x.1.2,x.2.1),U4.2 ⟨h2,h3⟩,?_⟩⟩;rw[<-h4]
theorem Ygi(Rs:List (List Pth))(Vs:List (List Int))(Cs:List Cub)(G:List Fct):∀n,((Sd Rs Vs Cs G n).map (·.1)).Nodup
 |0=>di
 |n+1=>by
  rw[Hc,db];refine dy.2 ⟨Ygi Rs Vs Cs G n,?_,?_⟩
  ·have e:(Lc n (Cs.getD n []) (Wu (kC Rs (Vs.getD n [])) Zb G)).map (·.1)=(V1 (kC Rs (Vs.getD n [])) G []).map λk=>(n,k):=by
    rw[<-Yba (kC Rs (Vs.getD n [])) Zb G];unfold Lc;rw[bj,bj];rfl
   rw[e];exact List.Pairwise.map _ (λa b h e=>h (Prod.mk.inj e).2) (Pt _ G [] di)
  ·intro a ha b hb e
   subst e;obtain⟨x,hx,rfl⟩:=ag.1 ha;obtain⟨y,hy,e⟩:=ag.1 hb
   have h1:=(Ph.1 hx).1
   unfold Lc at hy;obtain⟨z,_,rfl⟩:=ag.1 hy
   have:=congrArg fi e
   simp at this;omega
section
variable {D:List Yk}{M:List Txt}{V:List (List Int)}{E:List Hld}{Qs Rs:List (List Pth)}{Cs:List Cub}{G:List Fct}
theorem Wn.begin(D:List Yk)(M:List Txt)(V:List (List Int))(Qs:List (List Pth)):Wn D M V [] Qs ((Yg D V).map λ_=>[]):=
 ⟨by rw[av],λi v hi=>by
  rw[aa,ak,hi];exact⟨List.Pairwise.nil,λx=>by simp⟩⟩
theorem Wn.grown(h:Wn D M V E Qs Cs)(hL:X5 D M V E Qs)(hg:Vg Qs Rs)(h0:Qy Rs):Wn D M V E Rs Cs:=
 ⟨h.len,λi v hi=>(h.at_ i v hi).grown hg h0 (hL.has v (an hi))⟩
theorem Ytw{v:List Int}{C:Cub}(hE:∀e∈E,Yv M.length e.2)(hG:∀f∈G,Yv M.length (Zb f))(hg:Qy Rs)(hPE:∀e∈E,Xv Rs v e.1)(hPG:∀f∈G,Xv Rs v f.1)(hC:Wr M.length (kC Rs v) Zk E C)(hok:okF M.length (kP v) Zk E)(hcell:∀e∈C,Yv M.length e.2):
  okV C (Wu (kC Rs v) Zb G)↔okF M.length (kP v) Zk (E++G.map Zy):=by
 have hG': ∀f∈G.map Zy,Yv M.length (Zk f):=λf hf=>by
  obtain⟨g,hgm,rfl⟩:=ag.1 hf;exact hG g hgm
 have hP': ∀f∈E++G.map Zy,Xv Rs v f.1:=λf hf=>by
  rcases au.1 hf with hf|hf
  ·exact hPE f hf
  ·obtain⟨g,hgm,rfl⟩:=ag.1 hf
   exact hPG g hgm
 rw[<-Ybc (Tc (β:=PC) hg hP'),Yp7 hE hG' hC ((Ybc (Tc (β:=PC) hg hPE)).2 hok)]
 have key:∀g∈G,((Xd C (kC Rs v g) (Yf (kC Rs v) Zb G (kC Rs v g))).2=0↔Zo (Yp M.length ((Za C (kC Rs v g)).toList++Yf (kC Rs v) Zb G (kC Rs v g)))):=λg hgm=>by
  unfold Xd;rw[Ob (m:=M.length)]
  ·split
   ·rename_i h;exact⟨λ_=>h,λ_=>rfl⟩
   ·rename_i h;exact⟨λh'=>by simp at h',λh'=>absurd h' h⟩
  ·intro c hc
   rcases au.1 hc with hc|hc
   ·rcases hq:Za C (kC Rs v g)with _|y
    ·rw[hq]at hc;simp at hc
    ·rw[hq]at hc
     simp at hc;subst hc;exact hcell _ (Xg hq)
   ·unfold Yf at hc
    obtain⟨f,hf,rfl⟩:=ag.1 hc;exact hG f (bz.1 hf).1
  ·intro e
   have:=(da.1 e).2
   exact Wm.2 ⟨g,hgm,rfl⟩ this
 constructor
 ·intro h f hf
  obtain⟨g,hgm,rfl⟩:=ag.1 hf;rw[Kc];exact(key g hgm).1 (h (kC Rs v g,_) (U4.2 ⟨⟨g,hgm,rfl⟩,rfl⟩))
 ·intro h x hx
  obtain⟨⟨g,hgm,e⟩,e2⟩:=U4.1 hx
  have h1:=h (Zy g) (ag.2 ⟨g,hgm,rfl⟩)
  rw[Kc]at h1;rw[e2,<-e];exact(key g hgm).2 h1
theorem Wn.put(hE:∀e∈E,Yv M.length e.2)(hG:∀f∈G,Yv M.length (Zb f))(h:Wn D M V E Rs Cs)(hris:∀i,Ris (Cs.getD i []))(hcell:∀i,∀e∈Cs.getD i [],Yv M.length e.2)
  (hok:∀i v,(Yg D V)[i]?=some v->okV (Cs.getD i []) (Wu (kC Rs v) Zb G)):Wn D M V (E++G.map Zy) Rs (V2 Cs (Sd Rs (Yg D V) Cs G (Yg D V).length)):=by
 refine⟨by rw[Yci];exact h.len,λi v hi=>?_⟩
 have hil:=(af.1 hi).1
 have hv:(Yg D V).getD i []=v:=by rw[aa,hi];rfl
 refine Wr.more (C:=Cs.getD i []) hE (λf hf=>?_) (h.at_ i v hi) (Yce _ _ hris i) λk=>?_
 ·obtain⟨g,hgm,rfl⟩:=ag.1 hf
  exact hG g hgm
 ·rw[Ff (n:=(Yg D V).length) (λv k=>(Xd (Cs.getD v []) k (Yf (kC Rs ((Yg D V).getD v [])) Zb G k)).1) i k _ Cs h.len (λx hx=>by
   obtain⟨h1,_,h3,h4⟩:=Ph.1 hx;exact⟨h1,by rw[h4,h3]⟩)]
  rw[Kc]
  have hiff:(∃x∈Sd Rs (Yg D V) Cs G (Yg D V).length,x.1=(i,k))↔∃g∈G,kC Rs v g=k:=by
   constructor
   ·rintro⟨x,hx,e⟩
    obtain⟨_,h2,_⟩:=Ph.1 hx;rw[e,hv]at h2;exact h2
   ·rintro hg
    exact⟨((i,k),(Yf (kC Rs v) Zb G k,(Xd (Cs.getD i []) k (Yf (kC Rs v) Zb G k)).1)),Ph.2 ⟨hil,by rw[hv];exact hg,by rw[hv],rfl⟩,rfl⟩
  have hiff2:(∃g∈G.map Zy,kC Rs v g=k)↔∃g∈G,kC Rs v g=k:=by
   constructor
   ·rintro⟨f,hf,e⟩
    obtain⟨g,hgm,rfl⟩:=ag.1 hf;exact⟨g,hgm,e⟩
   ·rintro⟨g,hgm,e⟩
    exact⟨Zy g,ag.2 ⟨g,hgm,rfl⟩,e⟩
  by_cases hk:∃g∈G,kC Rs v g=k
  ·rw[if_pos (hiff.2 hk),if_pos (hiff2.2 hk),hv]
   have h2:=hok i v hi (k,Yf (kC Rs v) Zb G k) (U4.2 ⟨hk,rfl⟩)
   unfold Xd at h2⊢
   have hcs:∀c∈(Za (Cs.getD i []) k).toList++Yf (kC Rs v) Zb G k,Yv M.length c:=λc hc=>by
    rcases au.1 hc with hc|hc
    ·rcases hq:Za (Cs.getD i []) k with _|y
     ·rw[hq]at hc;simp at hc
     ·rw[hq]at hc
      simp at hc;subst hc;exact hcell i _ (Xg hq)
    ·unfold Yf at hc
     obtain⟨f,hf,rfl⟩:=ag.1 hc;exact hG f (bz.1 hf).1
   rw[(Of hcs (λe=>Wm.2 hk (da.1 e).2) h2).1]
  ·rw[if_neg λh'=>hk (hiff.1 h'),if_neg λh'=>hk (hiff2.1 h')]
end
/-! ### one change is put -/
theorem Yd9{y:PC}{L:List PC}(hy:Yv m y)(hL:∀c∈L,Yv m c)(hn:L≠[]):Yp m [y,Yp m L]=Yp m (y::L):=by
 have hF:∀c∈L,Full m c:=Bt hL
 have hY:∀c∈[y],Full m c:=λc hc=>by rw[cj.1 hc];exact hy.full
 have hs:Full m (Yp m L):=Rb hF hn
 rw[show Yp m [y,Yp m L]=Yp m [Yp m L,y]from J9 (List.Perm.swap _ _ _) (λc hc=>by
  simp at hc
  rcases hc with rfl|rfl
  ·exact hy.full
  ·exact hs) (by simp),Hq hF hY hn]
 exact J9 List.perm_append_comm (λc hc=>by
  rcases au.1 hc with hc|hc
  ·exact hF c hc
  ·exact hY c hc) (by simp)
theorem Ynp{W:Nat}{L:List PC}(hc:∀e∈C,Yv m e.2)(hk:isKey W k)(hL:∀c∈L,Yv m c)(hn:L≠[])(h0:(Um L).2=0)(hw:(Xd C k L).2=0):R6 W m C k (Um L).1=(Wo C k (Xd C k L).1,0):=by
 obtain⟨e1,i1⟩:=Of hL hn h0;rw[e1];unfold Xd at hw⊢
 rcases hq:Za C k with _|y
 ·rw[Pf ⟨hk,i1⟩ hq]
  show _=(Wo C k (Um ([]++L)).1,0)
  rw[ez,e1]
 ·rw[hq]at hw
  have hy:=hc _ (Xg hq)
  have hyL:∀c∈y::L,Yv m c:=λc h=>by
   rcases aw.1 h with rfl|h
   ·exact hy
   ·exact hL c h
  have hw':(Um (y::L)).2=0:=hw
  obtain⟨e2,i2⟩:=Of hyL (by simp) hw'
  have hm:Zs y (Yp m L)=(Yp m (y::L),0):=by
   rw[El hy i1,Yd9 hy hL hn,if_pos i2.1]
  rw[La ⟨hk,i1⟩ hq (by rw[hm]),hm]
  show _=(Wo C k (Um (y::L)).1,0)
  rw[e2]
theorem Ybf:∀{C:Cub}{k:List Int}{x:PC},(∀e∈C,Ze e.1 k=true)->Wo C k x=C++[(k,x)]
 |[],_,_,_=>rfl
 |e::C,k,x,h=>by
  have h1:=h e (by simp)
  rw[Wo,if_neg (W9 h1),if_neg (by rw[Ek h1];simp),Ybf λy hy=>h y (br _ hy)]
  rfl
def Tk(C:Cub)(k:List Int)(x:PC):Cub:=C.map λe=>if e.1=k then (k,x)else e
theorem Yc4:∀{C:Cub}{k:List Int}{x:PC},Ris C->(Za C k).isSome->Tk C k x=Wo C k x
 |[],_,_,_,h=>by simp[Za]at h
 |e::C,k,x,hr,h=>by
  obtain⟨r1,r2⟩:=List.pairwise_cons.1 hr;unfold Tk;rw[bo,Wo]
  by_cases he:e.1=k
  ·rw[if_pos he,if_pos he]
   congr 1
   conv=>rhs;rw[<-fg C]
   refine dd λy hy=>?_
   rw[if_neg λey=>W9 (r1 y hy) (he.trans ey.symm)]
   rfl
  ·rw[Za,if_neg he]at h
   obtain⟨y,hy⟩:=Option.isSome_iff_exists.1 h
   have hl:Ze e.1 k=true:=r1 _ (Xg hy)
   rw[if_neg he,if_neg he,if_neg (by rw[Ek hl];simp)]
   congr 1
   exact Yc4 r2 h
theorem Yqm{e:List Int×PC}(h:C[i]?=some e):(Tk C k x).take (i+1)=(Tk C k x).take i++[(e.1,if e.1=k then x else e.2)]:=by
 have h1:(Tk C k x)[i]?=some (e.1,if e.1=k then x else e.2):=by
  unfold Tk;rw[ak,h]
  show some _=some _
  by_cases he:e.1=k
  ·show some (if e.1=k then (k,x)else e)=_
   rw[if_pos he,if_pos he,he]
  ·show some (if e.1=k then (k,x)else e)=_
   rw[if_neg he,if_neg he]
 exact Z8 h1
theorem Yfh(hr:Ris C){i:Nat}{e:List Int×PC}(h:C[i]?=some e):∀y∈(Tk C k x).take i,Ze y.1 e.1=true:=by
 intro y hy;obtain⟨j,hj⟩:=bs hy
 have hji:j<i:=by
  have:=(af.1 hj).1
  rw[aq]at this;omega
 rw[cn,if_pos hji]at hj;unfold Tk at hj;rw[ak,dn]at hj;obtain⟨z,hz,rfl⟩:=hj
 have hl:Ze z.1 e.1=true:=by
  have:=dm.1 hr j i (af.1 hz).1 (af.1 h).1 hji
  rwa [(af.1 hz).2,(af.1 h).2]at this
 by_cases hk:z.1=k
 ·rw[if_pos hk,<-hk];exact hl
 ·rw[if_neg hk];exact hl
end
section
def R4(N:List Nat):List Int:=N.map fun(n:Nat)=>(n:Int)
theorem Yl3(D:List Yk):Yn D=R4 (Yj D):=by
 unfold Yn R4 Yj;rw[bj];rfl
theorem Da:∀N:List Nat,On N (R4 N)
 |[]=>trivial
 |n::N=>⟨Int.natCast_nonneg n,Int.le_refl _,Da N⟩
theorem Yab(N:List Nat):(R4 N).length=N.length:=by unfold R4;rw[av]
theorem Ypv(N:List Nat){j:Nat}(hj:j<N.length):(R4 N).getD j 0=((N.getD j 0:Nat):Int):=by
 unfold R4;rw[aa,ak,ae hj,aa,ae hj];rfl
theorem Nb{α:Type}{L:List α}{k:Nat}(x:α)(h:k<L.length):L.take (k+1)=L.take k++[L.getD k x]:=by
 rw[bg,ae h,aa,ae h];rfl
theorem Sf:∀{N:List Nat}{Qs:List (List Pth)}{P:List Pth},Qs.length=N.length->P.length=N.length->(Vj N Qs P).length=N.length
 |[],[],[],_,_=>rfl
 |n::N,Q::Qs,p::P,h,h'=>by
  simp only[Vj,ao]at h h'⊢;rw[Sf (by omega) (by omega)]
 |[],_::_,_,h,_=>by simp at h
 |[],[],_::_,_,h=>by simp at h
 |_::_,[],_,h,_=>by simp at h
 |_::_,_::_,[],_,h=>by simp at h
abbrev Ru(N:List Nat)(Qs:List (List Pth))(P:List Pth)(j:Nat):Nat:=Qr (N.getD j 0) (Qs.getD j []) (P.getD j [])
abbrev Bu(N:List Nat)(Qs:List (List Pth))(P:List Pth)(j:Nat):List Pth:=V4 (N.getD j 0) (Qs.getD j []) (P.getD j [])
theorem Ag:∀{N:List Nat}{Qs:List (List Pth)}{P:List Pth}{j:Nat},j<N.length->Qs.length=N.length->P.length=N.length->(Vj N Qs P).getD j []=Bu N Qs P j
 |n::N,Q::Qs,p::P,0,_,_,_=>rfl
 |n::N,Q::Qs,p::P,j+1,hj,h,h'=>by
  simp only[Vj,ao,aj]at hj h h'⊢;rw[Ag (by omega) (by omega) (by omega)]
  simp only[Bu,aj]
 |[],_,_,_,hj,_,_=>by simp at hj
 |_::_,[],_,_,_,h,_=>by simp at h
 |_::_,_::_,[],_,_,_,h=>by simp at h
theorem Hj:∀{N:List Nat}{Qs:List (List Pth)}{P:List Pth},Qs.length=N.length->P.length=N.length->(∀i,i<N.length->Ru N Qs P i=0)->N8 N Qs P=0
 |[],[],[],_,_,_=>rfl
 |n::N,Q::Qs,p::P,h,h',ha=>by
  rw[N8,if_neg (λh0=>h0 (ha 0 (by simp)))]
  exact Hj (by simpa using h) (by simpa using h') λi hi=>by
   have:=ha (i+1) (by simpa using hi)
   simpa only[Ru,aj]using this
 |[],_::_,_,h,_,_=>by simp at h
 |[],[],_::_,_,h,_=>by simp at h
 |_::_,[],_,h,_,_=>by simp at h
 |_::_,_::_,[],_,h,_=>by simp at h
theorem Ydv:∀{N:List Nat}{Qs:List (List Pth)}{P:List Pth}{j:Nat},j<N.length->Qs.length=N.length->P.length=N.length->(∀i,i<j->Ru N Qs P i=0)->Ru N Qs P j≠0->N8 N Qs P=Ru N Qs P j
 |n::N,Q::Qs,p::P,0,_,_,_,_,he=>by
  have he':Qr n Q p≠0:=he
  rw[N8,if_pos he'];rfl
 |n::N,Q::Qs,p::P,j+1,hj,h,h',ha,he=>by
  rw[N8,if_neg (λh0=>h0 (ha 0 (by simp)))]
  have e:Ru (n::N) (Q::Qs) (p::P) (j+1)=Ru N Qs P j:=by simp only[Ru,aj]
  rw[e]at he⊢;exact Ydv (by simpa using hj) (by simpa using h) (by simpa using h') (λi hi=>by
   have:=ha (i+1) (by omega)
   simpa only[Ru,aj]using this) he
 |[],_,_,_,hj,_,_,_,_=>by simp at hj
 |_::_,[],_,_,_,h,_,_,_=>by simp at h
 |_::_,_::_,[],_,_,_,h,_,_=>by simp at h
def Qb(N:List Nat)(Qs:List (List Pth))(P:List Pth)(j:Nat):List (List Pth):=(Vj N Qs P).take j++Qs.drop j
section
variable {N:List Nat}{Qs:List (List Pth)}{P:List Pth}
theorem Yae:Qb N Qs P 0=Qs:=by simp[Qb]
theorem Ycx(h:Qs.length=N.length)(h':P.length=N.length):Qb N Qs P N.length=Vj N Qs P:=by
 unfold Qb;rw[ai (by rw[Sf h h'];exact ay _),List.drop_of_length_le (by omega),List.append_nil]
theorem Ybm(h:Qs.length=N.length)(h':P.length=N.length){j:Nat}(hj:j<N.length):(Qb N Qs P j).getD j []=Qs.getD j []:=by
 unfold Qb;rw[aa,List.getElem?_append_right (by rw[aq,Sf h h'];omega),aq,Sf h h',List.getElem?_drop,aa]
 congr 2
 omega
theorem Ck(h:Qs.length=N.length)(h':P.length=N.length){j:Nat}(hj:j<N.length):(Qb N Qs P j).set j (Bu N Qs P j)=Qb N Qs P (j+1):=by
 unfold Qb
 have hl:((Vj N Qs P).take j).length=j:=by rw[aq,Sf h h'];omega
 rw[List.set_append_right _ _ (by omega),hl,Nat.sub_self,List.drop_eq_getElem_cons (by omega),List.set_cons_zero,Nb [] (by rw[Sf h h'];exact hj),Ag hj h h',ax]
 rfl
end
theorem Ylb(h:Qr n Q p=0):Pc n Q p:=Classical.byContradiction λh'=>by
 unfold Qr at h;rw[if_neg h']at h
 split at h <;> cases h
theorem Yns(h:Qr n Q p=0)(hn:1<=n):(Jo n Q p).length=n/\(Jo n Q p).getD (n-1) 0=((fnd (V4 n Q p) p:Nat):Int):=by
 have ho:=Ylb h
 have hl:=ho.1.1
 obtain⟨e1,e2,_⟩:=Gn ho.1 ho.2;rw[e1,e2];refine⟨by rw[av,Vk,hl],?_⟩
 rw[aa,ak,Ui (by omega),show n-1+1=n by omega,ai (by omega)]
 rfl
theorem Yv2{P:List Pth}(h:Qs.length=N.length)(h':P.length=N.length){j:Nat}(hj:j<N.length)(hl:(P.getD j []).length=N.getD j 0):(Xn (Vj N Qs P) (R4 N) P).take j++[((fnd (Bu N Qs P j) (P.getD j []):Nat):Int)]=(Xn (Vj N Qs P) (R4 N) P).take (j+1):=by
 have hal:=Sf h h'
 have hkl:(Xn (Vj N Qs P) (R4 N) P).length=N.length:=by rw[Pp (by rw[Yab];omega) (by omega),hal]
 have hg:=Nl (Qs:=Vj N Qs P) (v:=R4 N) (P:=P) (i:=j) (by omega) (by rw[Yab];omega) (by omega)
 rw[Ag hj h h',Ypv N hj,bn,ai (by omega)]at hg
 rw[bg,ae (by omega)]
 rw[aa,ae (by omega)]at hg
 rw[<-hg];rfl
theorem Gf(N:List Nat):∀(F F':List Fct) (Qs:List (List Pth)),Zh N Qs (F++F')=if (Zh N Qs F).2≠0 then Zh N Qs F else Zh N (Zh N Qs F).1 F'
 |[],F',Qs=>by simp[Zh]
 |f::F,F',Qs=>by
  rw[List.cons_append,Zh,Zh]
  by_cases h:N8 N Qs f.1≠0
  ·rw[if_pos h,if_pos h,if_pos h]
  ·rw[if_neg h,if_neg h,Gf N F F']
theorem Od(h:G[i]?=some f)(h0:Zh N Qs (G.take i)=(Rs,0)):Zh N Qs (G.take (i+1))=if N8 N Rs f.1≠0 then (Rs,N8 N Rs f.1)else (Vj N Rs f.1,0):=by
 rw[Z8 h,Gf,h0,if_neg (by simp),Zh,Zh]
theorem Dp(h:(Zh N Qs (G.take i)).2≠0):Zh N Qs G=Zh N Qs (G.take i):=by
 conv=>lhs;rw[<-dc i G]
 rw[Gf,if_pos h]
def Vy(N:List Nat)(Rs:List (List Pth))(G:List Fct):List (List Int):=G.map λf=>Xn Rs (R4 N) f.1
theorem Yfr{Ts:List (List Pth)}(hg:Vg Rs Ts)(h0:Qy Ts)(h:∀f∈G,Xv Rs (R4 N) f.1):Vy N Ts G=Vy N Rs G:=by
 unfold Vy;exact dd λf hf=>Kj hg h0 (h f hf)
theorem Ykv(h:G[i]?=some f):Vy N Rs (G.take i)++[Xn Rs (R4 N) f.1]=Vy N Rs (G.take (i+1)):=by
 unfold Vy;rw[Z8 h,db];rfl
end
section
theorem Yi8{α:Type}{L:List α}(h:L.Nodup){i:Nat}{a:α}(hi:L[i]?=some a):a∉L.take i:=by
 have h1:(L.take (i+1)).Nodup:=h.sublist (List.take_sublist _ _)
 rw[Z8 hi,dy]at h1;intro hm;exact h1.2.2 a hm a (cj.2 rfl) rfl
section
variable {Rs:List (List Pth)}{Vs:List (List Int)}{Cs:List Cub}{G:List Fct}{n W m i:Nat}{x:Chn}
structure Fits (W m n:Nat) (Cs:List Cub) (G:List Fct) (x:Chn):Prop where
 view:x.1.1<n
 key:isKey W x.1.2
 more:∀c∈x.2.1,Yv m c
 some_:x.2.1≠[]
 few:x.2.1.length<=G.length
 whole:Yv m x.2.2
 sum:Xd (Cs.getD x.1.1 []) x.1.2 x.2.1=(x.2.2,0)
theorem Yr3(hl:Cs.length=n)(hC:∀v,v<n->Xw W m (Cs.getD v []))(hok:∀v,v<n->okV (Cs.getD v []) (Wu (kC Rs (Vs.getD v [])) Zb G))(hG:∀f∈G,Yv m (Zb f))(hkey:∀v,v<n->∀f∈G,isKey W (kC Rs (Vs.getD v []) f))(hx:(Sd Rs Vs Cs G n)[i]?=some x):
  Fits W m n (V2 Cs ((Sd Rs Vs Cs G n).take i)) G x:=by
 have hm:=an hx
 obtain⟨h1,⟨f,hf,hfk⟩,h3,h4⟩:=Ph.1 hm
 have hM:∀c∈x.2.1,Yv m c:=λc hc=>by
  rw[h3]at hc;unfold Yf at hc;obtain⟨f',hf',rfl⟩:=ag.1 hc;exact hG f' (bz.1 hf').1
 have hne:x.2.1≠[]:=λh0=>by
  have h5:Zb f∈Yf (kC Rs (Vs.getD x.1.1 [])) Zb G x.1.2:=by unfold Yf;exact ag.2 ⟨f,bz.2 ⟨hf,decide_eq_true hfk⟩,rfl⟩
  rw[<-h3,h0]at h5
  cases h5
 have h5:(Xd (Cs.getD x.1.1 []) x.1.2 x.2.1).2=0:=hok x.1.1 h1 (x.1.2,x.2.1) (U4.2 ⟨⟨f,hf,hfk⟩,h3⟩)
 have hall:∀c∈(Za (Cs.getD x.1.1 []) x.1.2).toList++x.2.1,Yv m c:=λc hc=>by
  rcases au.1 hc with hc|hc
  ·rcases hq:Za (Cs.getD x.1.1 []) x.1.2 with _|y
   ·rw[hq]at hc;simp at hc
   ·rw[hq]at hc
    simp at hc;subst hc;exact(hC x.1.1 h1).cell _ (Xg hq)
  ·exact hM c hc
 obtain⟨e1,i1⟩:=Of hall (λh0=>hne (da.1 h0).2) h5
 have hg:=Ff (n:=n) (λv k=>(Xd (Cs.getD v []) k (Yf (kC Rs (Vs.getD v [])) Zb G k)).1) x.1.1 x.1.2 ((Sd Rs Vs Cs G n).take i) Cs hl (λy hy=>by
  obtain⟨a1,_,a3,a4⟩:=Ph.1 (bp hy);exact⟨a1,by rw[a4,a3]⟩)
 have hno:¬∃y∈(Sd Rs Vs Cs G n).take i,y.1=(x.1.1,x.1.2):=by
  rintro⟨y,hy,e⟩
  have h6:=Yi8 (Ygi Rs Vs Cs G n) (i:=i) (a:=x.1) (by rw[ak,hx];rfl)
  refine h6 ?_;rw[<-List.map_take];exact ag.2 ⟨y,hy,e⟩
 rw[if_neg hno]at hg;refine⟨h1,by rw[<-hfk];exact hkey x.1.1 h1 f hf,hM,hne,?_,?_,?_⟩
 ·rw[h3];unfold Yf;rw[av];exact dq _ _
 ·rw[h4]
  show Yv m (Um _).1
  rw[e1];exact i1
 ·have e2:Xd ((V2 Cs ((Sd Rs Vs Cs G n).take i)).getD x.1.1 []) x.1.2 x.2.1=Xd (Cs.getD x.1.1 []) x.1.2 x.2.1:=by unfold Xd;rw[hg]
  rw[e2,h4];exact dg rfl h5
end
end
def LxD:List Yk:=[([100],[[108],[109]])]
def LxM:List Txt:=[[118]]
def LxV:List (List Int):=[[1]]
def LxF:List Fct:=[([[[97],[120]]],[5]),([[[97],[121]]],[7]),([[[98],[120]]],[1])]
def LxR:Rws:=[([[[97]]],(2,[12],[5],[7])),([[[98]]],(1,[1],[1],[1]))]
theorem Yju:Wk LxD LxM LxV:=by decide +kernel
theorem Jg:Yg LxD LxV=[[2],[1]]:=by decide +kernel
theorem Yfs:(Y9 LxD LxM LxV [] (LxD.map λ_=>[]) LxF).2=0/\(Y9 LxD LxM LxV [] (LxD.map λ_=>[]) LxF).1.1=LxF.map Zy:=by decide +kernel
theorem Ywc:Q2 (LxF.map Zy)=3:=by decide +kernel
theorem Ytr(h:Xu 1 (kP [1]) Zk (LxF.map Zy) L):L=LxR:=by
 refine h.one ⟨by unfold Cl Xb;decide +kernel,λx=>⟨λhx=>?_,?_⟩⟩
 ·simp only[LxR,aw,cz,or_false]at hx
  rcases hx with rfl|rfl <;> decide +kernel
 ·rintro⟨⟨f,hf,hk⟩,hc⟩
  obtain⟨k,c⟩:=x;simp only at hk hc;subst hk;subst hc;simp only[LxF,bo,dp,aw,cz,or_false]at hf
  rcases hf with rfl|rfl|rfl <;> decide +kernel
def LxB:Rws:=[([[[97],[120]]],(1,[5],[5],[5])),([[[97],[121]]],(1,[7],[7],[7])),([[[98],[120]]],(1,[1],[1],[1]))]
theorem Yt4:Xu 1 (kP [2]) Zk (LxF.map Zy) LxB:=by
 refine⟨by unfold Cl Xb;decide +kernel,λx=>⟨λhx=>?_,?_⟩⟩
 ·simp only[LxB,aw,cz,or_false]at hx
  rcases hx with rfl|rfl|rfl <;> decide +kernel
 ·rintro⟨⟨f,hf,hk⟩,hc⟩
  obtain⟨k,c⟩:=x;simp only at hk hc;subst hk;subst hc;simp only[LxF,bo,dp,aw,cz,or_false]at hf
  rcases hf with rfl|rfl|rfl <;> decide +kernel
section
def Ua(κ:Fct->Zd)(G:List Fct)(K:Zd)(i t:Nat):List (List Int):=(((G.take t).drop i).filter λf=>decide (κ f=K)).map (·.2)
section
variable {κ:Fct->Zd}{G:List Fct}{K:Zd}{i t m:Nat}
theorem Yis:Ua κ G K i i=[]:=by
 unfold Ua;rw[List.drop_eq_nil_of_le (by rw[aq];omega)]
 rfl
theorem Yjy{g:Fct}(h:G[t]?=some g)(hi:i<=t):Ua κ G K i (t+1)=if κ g=K then Ua κ G K i t++[g.2]else Ua κ G K i t:=by
 have hl:=(af.1 h).1
 unfold Ua;rw[Z8 h,List.drop_append_of_le_length (by rw[aq];omega),List.filter_append,db]
 by_cases hk:κ g=K
 ·rw[if_pos hk,List.filter_cons_of_pos (by simpa using hk)]
  rfl
 ·rw[if_neg hk,List.filter_cons_of_neg (by simpa using hk)]
  simp
theorem G5:(Ua κ G K i t).length<=G.length:=by
 unfold Ua;rw[av];refine ch (dq _ _) ?_;rw[List.length_drop,aq];omega
theorem Ynw(ht:G.length<=t):(Ua κ G K i t).map W6=Yf κ Zb (G.drop i) K:=by
 unfold Ua Yf;rw[ai ht,bj];rfl
def okT(m:Nat)(κ:Fct->Zd)(G:List Fct)(i:Nat):Prop:=∀f∈G.take i,Zo (Yp m (Yf κ Zb G (κ f)))
theorem Yqh:okT m κ G 0:=λf hf=>by simp at hf
theorem Yud{f:Fct}(h:okT m κ G i)(hf:G[i]?=some f)(hh:κ f∈V1 κ (G.take i) []):okT m κ G (i+1):=λg hg=>by
 rw[Z8 hf]at hg
 rcases au.1 hg with hg|hg
 ·exact h g hg
 ·rw[cj.1 hg]
  rcases(Si κ _ [] _).1 hh with h1|⟨g',hg',e⟩
  ·simp at h1
  ·rw[<-e]
   exact h g' hg'
theorem Yt6{f:Fct}(h:okT m κ G i)(hf:G[i]?=some f)(hh:Zo (Yp m (Yf κ Zb G (κ f)))):okT m κ G (i+1):=λg hg=>by
 rw[Z8 hf]at hg
 rcases au.1 hg with hg|hg
 ·exact h g hg
 ·rw[cj.1 hg]
  exact hh
theorem Ytx(h:okT m κ G i)(hi:G.length<=i):okF m κ Zb G:=λf hf=>h f (by rw[ai hi];exact hf)
theorem Yro(hm:m<=2)(hG:∀f∈G,isVal m f.2)(hn:G.length<=1000)(ht:G.length<=t){f:Fct}(hf:G[i]?=some f)(hk:κ f=K)(hnew:K∉V1 κ (G.take i) []):Vf m (Ua κ G K i t)=if Zo (Yp m (Yf κ Zb G K))then (Yp m (Yf κ Zb G K),0)else (Yl,14):=by
 have h1:(Ua κ G K i t).map W6=Yf κ Zb G K:=(Ynw ht).trans (Yic hnew)
 rw[Yh3 hm (ch G5 hn) ?_ ?_,h1]
 ·intro h0
  rw[h0]at h1;exact Wm.2 ⟨f,an hf,hk⟩ h1.symm
 ·intro v hv
  unfold Ua at hv;obtain⟨g,hg,rfl⟩:=ag.1 hv;exact hG g (bp (List.mem_of_mem_drop (bz.1 hg).1))
theorem Ymb{k:Zd}:(∃t:Nat,∃e:Zd×PC,(Ud m κ Zb G i)[t]?=some e/\e.1=k)↔k∈V1 κ (G.take i) []:=by
 rw[<-Yaq m κ Zb G i,ag];constructor
 ·rintro⟨t,e,h,rfl⟩
  exact⟨e,an h,rfl⟩
 ·rintro⟨e,h,rfl⟩
  obtain⟨t,ht⟩:=bs h;exact⟨t,e,ht,rfl⟩
theorem Yl6:(Ud m κ Zb G i).length<=i:=by
 have h1:=congrArg az (Yaq m κ Zb G i)
 rw[av]at h1;rw[h1];refine ch (Dx κ _ []) ?_;rw[aq];simp;omega
end
def Ysw(L:Rws)(K:Zd)(j:Nat):Prop:=∃t e,t<j/\L[t]?=some e/\e.1=K
theorem Yop: ¬Ysw L K 0:=fun⟨t,e,h,_⟩=>by omega
theorem Gr(h:L[j]?=some e):Ysw L K (j+1)↔Ysw L K j∨e.1=K:=by
 constructor
 ·rintro⟨t,x,ht,hx,hk⟩
  by_cases hj:t=j
  ·subst hj
   rw[h]at hx;injection hx with hx
   subst hx;exact .inr hk
  ·exact .inl ⟨t,x,by omega,hx,hk⟩
 ·rintro(⟨t,x,ht,hx,hk⟩|hk)
  ·exact⟨t,x,by omega,hx,hk⟩
  ·exact⟨j,e,by omega,h,hk⟩
theorem Yrx(hj:L.length<=j):Ysw L K j↔∃t:Nat,∃e:Zd×PC,L[t]?=some e/\e.1=K:=by
 constructor
 ·rintro⟨t,e,_,h,k⟩
  exact⟨t,e,h,k⟩
 ·rintro⟨t,e,h,k⟩
  exact⟨t,e,by have:=(af.1 h).1;omega,h,k⟩
def Dq(L:Rws)(K:Zd)(j:Nat)(b:Bool):Prop:=b=true↔Ysw L K j
theorem Ym8:Dq L K 0 false:=⟨λh=>(nomatch h),λh=>absurd h Yop⟩
theorem Yp1(h:L[j]?=some e)(hk:e.1=K):Dq L K (j+1) true:=⟨λ_=>(Gr h).2 (.inr hk),λ_=>rfl⟩
theorem Yu1(hb:Dq L K j false)(h:L[j]?=some e)(hk:e.1≠K):Dq L K (j+1) false:=⟨λh=>(nomatch h),λh1=>((Gr h).1 h1).elim (λh2=>hb.2 h2) λh2=>absurd h2 hk⟩
theorem Yod(hb:Dq L K j true)(h:L[j]?=some e):Dq L K (j+1) true:=⟨λ_=>(Gr h).2 (.inl (hb.1 rfl)),λ_=>rfl⟩
theorem Ysg{κ:Fct->Zd}{b:Bool}(hb:Dq (Ud m κ Zb G i) K j b)(hj:(Ud m κ Zb G i).length<=j):(b=true->K∈V1 κ (G.take i) [])/\(b=false->K∉V1 κ (G.take i) []):=by
 have h1:b=true↔K∈V1 κ (G.take i) []:=hb.trans ((Yrx hj).trans Ymb)
 refine⟨h1.1,λh h2=>?_⟩
 rw[h1.2 h2]at h
 cases h
end
section
def Qi(Qs:List (List Pth))(D:List Yk)(L:Rws):List (List Int×PC):=L.map λx=>(Xn Qs (Yn D) x.1,x.2)
section
variable {D:List Yk}{M:List Txt}{V:List (List Int)}{E:List Hld}{Qs:List (List Pth)}{L:Rws}{B:Cub}
theorem Jx(h:X5 D M V E Qs)(hR:Xu M.length (kP (Yn D)) Zk E L){x:Zd×PC}(hx:x∈L):∃f∈E,x.1=f.1/\x.2=Yp M.length (Yf (kC Qs (Yn D)) Zk E (kC Qs (Yn D) f)):=by
 obtain⟨⟨f,hf,e⟩,hs⟩:=(hR.all x).1 hx
 have e1:kP (Yn D) f=f.1:=To (h.lev f hf)
 refine⟨f,hf,by rw[<-e,e1],?_⟩
 rw[Vc (Tc h.good.Q1 (h.has _ (by simp[Yg]))) hf,hs,e]
theorem Az(h:X5 D M V E Qs)(hR:Xu M.length (kP (Yn D)) Zk E L){x y:Zd×PC}(hx:x∈L)(hy:y∈L)(he:Xn Qs (Yn D) x.1=Xn Qs (Yn D) y.1):x=y:=by
 obtain⟨f,hf,e1,e2⟩:=Jx h hR hx;obtain⟨g,hg,e3,e4⟩:=Jx h hR hy;rw[e1,e3]at he
 have hk:kC Qs (Yn D) f=kC Qs (Yn D) g:=he
 have h1:=(Tc h.good.Q1 (h.has (Yn D) (by simp[Yg])) f hf g hg).1 hk
 have e5:kP (Yn D) f=f.1:=To (h.lev f hf)
 have e6:kP (Yn D) g=g.1:=To (h.lev g hg)
 refine dg ?_ ?_
 ·rw[e1,e3,<-e5,<-e6];exact h1
 ·rw[e2,e4,hk]
theorem Yk7(h:X5 D M V E Qs)(hB:Wr M.length (kC Qs (Yn D)) Zk E B)(hR:Xu M.length (kP (Yn D)) Zk E L){x:Zd×PC}(hx:x∈L):(Xn Qs (Yn D) x.1,x.2)∈B:=by
 obtain⟨f,hf,e1,e2⟩:=Jx h hR hx
 have hk:Xn Qs (Yn D) x.1=kC Qs (Yn D) f:=by rw[e1];rfl
 exact(hB.all _).2 ⟨⟨f,hf,hk.symm⟩,by rw[e2];show _=Yp M.length (Yf _ _ _ (Xn Qs (Yn D) x.1));rw[hk]⟩
theorem Ya9(hR:Cl L){k:Nat}{y:Zd×PC}(hk:L[k]?=some y):y∉L.take k:=λhm=>by
 obtain⟨i,hi⟩:=bs hm
 have hil:=(af.1 hi).1
 rw[aq]at hil;rw[cn,if_pos (by omega)]at hi
 obtain⟨h1,h2⟩:=af.1 hi;obtain⟨h3,h4⟩:=af.1 hk
 have:=dm.1 hR i k h1 h3 (by omega)
 rw[h2,h4]at this;unfold Xb at this;rw[Ri]at this;exact absurd this (by decide)
theorem Ygz(h:X5 D M V E Qs)(hB:Wr M.length (kC Qs (Yn D)) Zk E B)(hR:Xu M.length (kP (Yn D)) Zk E L):∀k,k<=L.length->∀x,x∈S2 D.length M.length (Qi Qs D L) k↔∃y∈L.take k,x=(Xn Qs (Yn D) y.1,y.2)
 |0,_,x=>by simp[S2]
 |k+1,hk,x=>by
  have ih:=Ygz h hB hR k (by omega)
  obtain⟨y,hy⟩: ∃y,L[k]?=some y:=⟨_,ae (by omega)⟩
  have hyL:=an hy
  have hin:=Yk7 h hB hR hyL
  have hc:=h.Yak hB
  have hris:=(V9 (w:=D.length) (m:=M.length) (D:=Qi Qs D L) k).ris
  have hno:Za (S2 D.length M.length (Qi Qs D L) k) (Xn Qs (Yn D) y.1)=none:=Tw.2 λhm=>by
   obtain⟨e,he,e1⟩:=ag.1 hm;obtain⟨z,hz,rfl⟩:=(ih e).1 he;obtain rfl:=Az h hR (bp hz) hyL e1;exact Ya9 hR.ris hy hz
  rw[Ca (k:=Xn Qs (Yn D) y.1) (x:=y.2) (by unfold Qi;rw[ak,hy];rfl),Pf ⟨hc.key _ hin,hc.cell _ hin⟩ hno,bg,hy]
  constructor
  ·intro hx
   rcases Jf hx with rfl|hx
   ·exact⟨y,by simp,rfl⟩
   ·obtain⟨z,hz,e⟩:=(ih x).1 hx
    exact⟨z,List.mem_append_left _ hz,e⟩
  ·rintro⟨z,hz,rfl⟩
   rcases au.1 hz with hz1|hz1
   ·have h1:=(ih _).2 ⟨z,hz1,rfl⟩
    refine Xg ?_;rw[Uq,if_neg (λe=>?_)]
    ·exact Us hris h1
    ·have e9:=Az h hR (bp hz1) hyL e
     exact Ya9 hR.ris hy (e9▸hz1)
   ·have e:z=y:=by simpa using hz1
    subst e;exact Xg (by rw[Uq,if_pos rfl])
theorem Ys0(h:X5 D M V E Qs)(hB:Wr M.length (kC Qs (Yn D)) Zk E B)(hR:Xu M.length (kP (Yn D)) Zk E L):S2 D.length M.length (Qi Qs D L) L.length=B:=by
 have hris:=(V9 (w:=D.length) (m:=M.length) (D:=Qi Qs D L) L.length).ris
 have hm:∀x,x∈S2 D.length M.length (Qi Qs D L) L.length↔x∈B:=λx=>by
  rw[Ygz h hB hR _ (ay _),List.take_length];constructor
  ·rintro⟨y,hy,rfl⟩
   exact Yk7 h hB hR hy
  ·intro hx
   obtain⟨⟨f,hf,e1⟩,e2⟩:=(hB.all x).1 hx
   have e5:kP (Yn D) f=f.1:=To (h.lev f hf)
   refine⟨(kP (Yn D) f,Yp M.length (Yf (kP (Yn D)) Zk E (kP (Yn D) f))),(hR.all _).2 ⟨⟨f,hf,rfl⟩,rfl⟩,dg ?_ ?_⟩
   ·show x.1=Xn Qs (Yn D) (kP (Yn D) f)
    rw[e5,<-e1];rfl
   ·show x.2=Yp M.length (Yf (kP (Yn D)) Zk E (kP (Yn D) f))
    rw[e2,<-e1,Vc (Tc h.good.Q1 (h.has _ (by simp[Yg]))) hf]
 refine Yl2 hris hB.ris λk=>?_
 rcases hg:Za B k with _|x
 ·refine Tw.2 λhk=>?_
  obtain⟨e,he,rfl⟩:=ag.1 hk;exact Tw.1 hg (ag.2 ⟨e,(hm e).1 he,rfl⟩)
 ·exact Us hris ((hm _).2 (Xg hg))
theorem Xv.get:∀{Qs:List (List Pth)}{v:List Int}{P:List Pth}{i:Nat},Xv Qs v P->i<Qs.length->(P.getD i []).take (v.getD i 0).toNat=[]∨(P.getD i []).take (v.getD i 0).toNat∈Qs.getD i []
 |Q::Qs,n::v,p::P,0,h,_=>h.1
 |Q::Qs,n::v,p::P,i+1,h,hi=>by
  have:=Xv.get (i:=i) h.2 (by simpa using hi)
  simpa only[aj]using this
theorem Yox(h:X5 D M V E Qs)(hR:Xu M.length (kP (Yn D)) Zk E L){x:Zd×PC}(hx:x∈L):x.1.length=D.length/\(Xn Qs (Yn D) x.1).length=D.length/\∀i,i<D.length->∃c:Nat,Ygh (Qs.getD i []) (x.1.getD i [])=(c,0)/\(Xn Qs (Yn D) x.1).getD i 0=(c:Int):=by
 obtain⟨f,hf,e1,_⟩:=Jx h hR hx;rw[e1]
 have hl:=h.lev f hf
 have hlen:f.1.length=D.length:=by have:=congrArg az hl;simpa[Yj]using this
 have hq:Qs.length=D.length:=by have:=h.good.len;simpa[Yj]using this
 have hN:(Yj D).length=D.length:=by simp[Yj]
 refine⟨hlen,?_,λi hi=>?_⟩
 ·rw[Pp (by rw[Tt,hq]) (by rw[hlen,hq]),hq]
 have hg:=h.good.get (i:=i) (by rw[hN];exact hi)
 have hb:=G7 hi
 have hpl:(f.1.getD i []).length=(D.getD i Wp).2.length:=by
  have h1:(f.1.map az)[i]?=(Yj D)[i]?:=by rw[hl]
  unfold Yj at h1;rw[ak,ak,ae (by omega),ae (by omega)]at h1
  simp only[dh,Option.some.injEq]at h1;rw[aa,ae (by omega),aa,ae (by omega)]
  exact h1
 have hnl:(Yj D).getD i 0=(D.getD i Wp).2.length:=by
  unfold Yj;rw[aa,ak,ae hi,aa,ae hi];rfl
 have ht:(f.1.getD i []).take ((Yn D).getD i 0).toNat=f.1.getD i []:=ai (by rw[hb,hpl];omega)
 have hh:=Xv.get (h.has (Yn D) (by simp[Yg]) f hf) (by omega:i<Qs.length)
 rw[ht]at hh
 have h1:=hg.lv
 rw[hnl]at h1 hg
 have hne:f.1.getD i []≠[]:=λe=>by
  rw[e]at hpl
  have h9:(0:Nat)=(D.getD i Wp).2.length:=hpl
  omega
 have hin:f.1.getD i []∈Qs.getD i []:=hh.resolve_left hne
 refine⟨fnd (Qs.getD i []) (f.1.getD i []),?_,?_⟩
 ·unfold Ygh
  rw[if_pos (show Un _ from⟨by rw[hpl];exact h1.2,hg.nam _ hin⟩),if_neg hne,if_pos hin]
 ·rw[Nl (by omega) (by rw[Tt,hq]) (by omega),ht]
end
end
end Go.Proofs.YtmepdkdeanbbaaaGreat
