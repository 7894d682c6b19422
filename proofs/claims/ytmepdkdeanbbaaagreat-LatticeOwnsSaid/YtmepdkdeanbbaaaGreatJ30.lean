/- CellT, CellP, CellRT, CellU, CellRE, CellRM, CellRG, CellRF, CellS, CellF -/
import Derived.Test.YtmepdkdeanbbaaaGreatJ11
import Derived.Test.YtmepdkdeanbbaaaGreatJ28
namespace Go.Proofs.YtmepdkdeanbbaaaGreat
set_option maxRecDepth 100000
set_option maxHeartbeats 8000000
open Go.RowKit
open List renaming getD_eq_getElem?_getD→aa,getElem?_eq_getElem→ag,take_of_length_le→ai,getElem?_append_left→ak,replicate→ao,getElem?_append_right→aq,length_map→aw,zipWith→ay,cons_append→bg,mem_iff_getElem→bj,length_take_le→bn,getElem_mem→br,mem_map→bs,getElem?_take→ch,take_add_one→cn,length_take→da,eq_nil_of_length_eq_zero→db,map_append→dc,mem_cons→df,getElem?_replicate→dg,map_eq_nil_iff→dn,append_nil→dt
open Nat renaming le_refl→ae,zero_le→ar,le_of_lt→au,lt_of_lt_of_le→av,le_trans→cw,ne_of_lt→dj
open Proofs.Tryz renaming underlying71→af,prog→an,ntmps138→bz,func138→cj,ntmps169→dd,ntmps61→dh,func169→di,func61→dm,underlying107→dq,ntmps116→du,ntmps106→dw,func116→dx,func106→dy
open Bool renaming eq_false_iff→aj
open World.ownsRow renaming stored→ax
open World renaming size_alloc→az,drewN_drewN→dp
open Decidable renaming byContradiction→bo
open And renaming intro→bp
open Int renaming toNat_natCast→cz
open Go.Lib (hid)
variable {L:List PC}{w:World}{base c c1 c2 c3 d1 d2 d3 g i j k m m1 m2 m3 n n1 n2 n3:Nat}{M M' S S' X X' l:List Int}{A A1 A2 A3 B1 B2 B3:Option Addr}{q q' x0 y:Int}
def Qu(l:List Int)(k:Nat):List Int:=l.take k++ao (l.length-k) 0
theorem M6(l:List Int):Qu l 0=ao l.length 0:=by simp[Qu]
theorem Jp(l:List Int):Qu l l.length=l:=by simp[Qu]
theorem K5(h:k<l.length):(Qu l k).set k (l.getD k 0)=Qu l (k+1):=by
 apply List.ext_getElem?;intro j;unfold Qu;rw[List.getElem?_set]
 by_cases hj:k=j
 ·subst hj
  rw[if_pos rfl,if_pos (by simp;omega),ak (by simp;omega),ch,if_pos (by omega),aa,ag h]
  rfl
 ·rw[if_neg hj]
  by_cases hjk:j<k
  ·rw[ak (by simp;omega),ak (by simp;omega),ch,ch,if_pos hjk,if_pos (by omega)]
  ·rw[aq (by simp;omega),aq (by simp;omega),dg,dg,da,da]
   by_cases hl:j<l.length
   ·rw[if_pos (by omega),if_pos (by omega)]
   ·rw[if_neg (by omega),if_neg (by omega)]
theorem Qg(l:List Int)(k:Nat)(h:k<=l.length):(Qu l k).length=l.length:=by simp[Qu];omega
def Nu(z:Int):Prop:=-9223372036854775808<=z/\z<=9223372036854775807
instance (z:Int):Decidable (Nu z):=by unfold Nu;exact inferInstance
theorem Ys9(z:Int):Kp (z/4294967296) (z%4294967296)=z:=by unfold Kp;omega
theorem Ci(h:Xr w w.heap.size A n c L)(hn:n<=1000000)(fid:Nat)(lb:Array Value)(f:PC->Int)
  (eg:∀args W,(callFunc fid args).run an W=.ok (.enter fid args) W)
  (HF:∀k,k<n->∀q A1 n1 c1 A2 n2 c2 A3 n3 c3 S M X W,Below w.heap.size w W->Wi W W.heap.size A1 n1 c1 A2 n2 c2 A3 n3 c3 S M X->L.getD k Yl=(q,S,M,X)→
   Calls an fid (#[S6 q A1 n1 c1 A2 n2 c2 A3 n3 c3]++lb) W λe w'=>e=.returned (.int .i64 (f (q,S,M,X)))/\Below W.heap.size W w')
  (hI:I64 (L.map f)) {z x:Int}(hs:(Nu (Y4 (L.map f))/\z=Y4 (L.map f)/\x=0)∨(¬Nu (Y4 (L.map f))/\z=0/\x=14)):
  Calls an 223 #[.slice A n c,.func (.func fid) #[] lb] w λe w'=>e=.returned (.tuple #[.int .i64 z,.int .i64 x])/\Below w.heap.size w w':=by
 have hlm:=h.Ym
 have hll:=hid h.len
 have HI:=hid hI
 have HS:=hid hs
 have HFF:=hid HF
 clear hI hs HF
 have HK:∀W:World,(Instr.makeSlice 47 (.int .i64 n) (.int .i64 n)).run an W=.ok (.slice (some ⟨W.heap.size,0,none⟩) n n) (W.alloc (.cells (Bd n) 3)):=λW=>Ybg n W (by omega)
 go_enter Tryz.func223,Tryz.ntmps223;go_wp2_with fail;clear HK
 have hO:Yi (w.alloc (.cells (Bd n) 3)) w.heap.size (.slice (some ⟨w.heap.size,0,none⟩) n n) (Qu (L.map f) 0):=by
  rw[M6,aw,hll.out];exact Jl (Block.new w _ _) (ae _) hn
 have hb0:=Yb w (.cells (Bd n) 3)
 go_loopw [16] (λi wr=>∃k:Nat,k<=n/\i=.int .i64 k/\Yi wr w.heap.size (.slice (some ⟨w.heap.size,0,none⟩) n n) (Qu (L.map f) k)/\Below w.heap.size w wr) (λi _=>n-(intOf i).toNat)
 case atStart=>exact⟨0,ar _,rfl,hO,hb0⟩
 case round=>
  obtain⟨k,hk,rfl,hR,hbe⟩:=hrel;clear hO hb0
  by_cases hlt:k<n
  ·obtain⟨b,o,q,A1,n1,c1,A2,n2,c2,A3,n3,c3,S,M,X,rfl,hb,g0,g1,g2,g3,hC,hq⟩:=(h.below hbe (ae _)).at_ hlt
   have i0:(0:Int)<=(k:Int):=by omega
   have i1:(k:Int)<(n:Int):=by omega
   have hbx:=Yb wr (.cells #[.int .i64 q,.slice A1 n1 c1,.slice A2 n2 c2,.slice A3 n3 c3] 71)
   have hR1:=hR.alloc (.cells #[.int .i64 q,.slice A1 n1 c1,.slice A2 n2 c2,.slice A3 n3 c3] 71)
   have hB:=Block.new wr 71 #[.int .i64 q,.slice A1 n1 c1,.slice A2 n2 c2,.slice A3 n3 c3]
   have hbW:=hbe.trans (hbx.mono hbe.size)
   have hCW:=(hC.below hbx hbe.size).more hbW.size
   have HC:=hid (HFF.out k hlt q A1 n1 c1 A2 n2 c2 A3 n3 c3 S M X _ hbW hCW hq.out)
   have hfx:Hid ((L.map f).getD k 0=f (q,S,M,X)):=hid (by
    rw[aa,List.getElem?_map,<-hq.out,aa,ag (by rw[hll.out];exact hlt)]
    rfl)
   generalize f (q,S,M,X)=y at HC hfx
   have hnx:Hid ((Qu (L.map f) k).set k y=Qu (L.map f) (k+1)):=hid (by rw[<-hfx.out];exact K5 (by rw[aw,hll.out];exact hlt))
   have hkl:k<(Qu (L.map f) k).length:=by rw[Qg _ _ (by rw[aw,hll.out];omega),aw,hll.out];exact hlt
   clear hC hCW hR hbx;go_wp2_with fail;generalize wr.alloc (.cells #[.int .i64 q,.slice A1 n1 c1,.slice A2 n2 c2,.slice A3 n3 c3] 71)=W at hR1 hB hbW HC⊢
   have k0:W.cell? ⟨wr.heap.size,0,none⟩=some (.int .i64 q):=hB.cell 0
   have k1:W.cell? ⟨wr.heap.size,1,none⟩=some (.slice A1 n1 c1):=hB.cell 1
   have k2:W.cell? ⟨wr.heap.size,2,none⟩=some (.slice A2 n2 c2):=hB.cell 2
   have k3:W.cell? ⟨wr.heap.size,3,none⟩=some (.slice A3 n3 c3):=hB.cell 3
   clear g0 g1 g2 g3 hB;go_wp2_with fail;refine HC.out.mono ?_;rintro e w2 ⟨rfl,hb2⟩
   have hR2:=hR1.below hb2 (ae _)
   have hbe2:=hbW.trans (hb2.mono hbW.size)
   have s0:=hR2.Yb8 k hkl
   have s1:=hR2.free k
   have hN:Hid (Yi (w2.setCell ⟨w.heap.size,k,none⟩ (.int .i64 y)) w.heap.size (.slice (some ⟨w.heap.size,0,none⟩) n n) (Qu (L.map f) (k+1))):=hid (by rw[<-hnx.out];exact hR2.Ys k y)
   have hNB:=hid (hbe2.setCell (p:=⟨w.heap.size,k,none⟩) (ae _) (.int .i64 y))
   clear hR1 hR2 hb2 hbW hbe hbe2 HC k0 k1 k2 k3;go_wp2_with fail;go_roundw
   case rel=>exact⟨k+1,by omega,by go_num,hN.out,hNB.out⟩
   case measure=>simp[intOf];omega
  ·obtain rfl:k=n:=by omega
   have hA:Yi wr w.heap.size (.slice (some ⟨w.heap.size,0,none⟩) k k) (L.map f):=by
    have h1:=Jp (L.map f)
    rw[aw,hll.out]at h1
    rwa [h1]at hR
   have hH:=hA.has
   obtain⟨s,hsd⟩: ∃s,Y4 (L.map f)=s:=⟨_,rfl⟩
   have HS2:=HS.out
   rw[hsd]at HS2
   have HS3:=hid HS2
   have hsd:=hid hsd
   clear HS2 HS hR hA
   by_cases hw:wIn s
   ·have HT:=hid (Ycq _ k k _ wr hH hn HI.out (s/4294967296) (s%4294967296) 0 (.inl ⟨by rw[hsd.out];exact hw,by rw[hsd.out],by rw[hsd.out],rfl⟩))
    have hwm:N4 (s/4294967296) (s%4294967296):=(Ydd s).2 hw
    clear hH;go_wp2_with fail;refine HT.out.mono ?_;rintro e w2 ⟨rfl,hb2⟩
    have hbe2:=hbe.trans (hb2.mono hbe.size)
    have hbx:=Yb w2 (.cells #[.int .i64 (s/4294967296),.int .i64 (s%4294967296)] 305)
    have hbe3:=hbe2.trans (hbx.mono hbe2.size)
    clear hb2 hbe HT
    have hI:=hid λW=>Ytz (s/4294967296) (s%4294967296) W hwm z x (by
     rw[Ys9]
     rcases HS3.out with⟨⟨a,b⟩,c,d⟩|⟨a,c,d⟩
     ·exact .inl ⟨a,b,c,d⟩
     ·exact .inr ⟨a,c,d⟩)
    clear hwm hw;go_wp2_with fail;refine(hI.out _).mono ?_;rintro e w3 ⟨rfl,hb3⟩
    have hbe4:=hbe3.trans (hb3.mono hbe3.size)
    clear hb3 hI;go_wp2_with fail;go_ret2;exact⟨rfl,hbe4⟩
   ·have HT:=hid (Ycq _ k k _ wr hH hn HI.out 0 0 14 (.inr ⟨by rw[hsd.out];exact hw,rfl,rfl,rfl⟩))
    have hzx:z=0/\x=14:=by
     rcases HS3.out with⟨h1,_⟩|⟨_,h1,h2⟩
     ·unfold Nu at h1
      unfold wIn at hw;omega
     ·exact⟨h1,h2⟩
    obtain⟨rfl,rfl⟩:=hzx;clear hH hw HS3;go_wp2_with fail;refine HT.out.mono ?_;rintro e w2 ⟨rfl,hb2⟩
    have hbe2:=hbe.trans (hb2.mono hbe.size)
    have hbx:=Yb w2 (.cells #[.int .i64 0,.int .i64 0] 305)
    have hbe3:=hbe2.trans (hbx.mono hbe2.size)
    clear hb2 hbe HT;go_wp2_with fail;go_ret2;exact⟨rfl,hbe3⟩
def loL(L:List PC)(i:Nat):List Int:=(L.getD 0 Yl).2.2.1.getD i 0::(Y5 L).map λc=>c.2.2.1.getD i 0
def hiL(L:List PC)(i:Nat):List Int:=(L.getD 0 Yl).2.2.2.getD i 0::(Y5 L).map λc=>c.2.2.2.getD i 0
def loK(L:List PC)(i k:Nat):List Int:=(L.getD 0 Yl).2.2.1.getD i 0::(Y5 (L.take k)).map λc=>c.2.2.1.getD i 0
def hiK(L:List PC)(i k:Nat):List Int:=(L.getD 0 Yl).2.2.2.getD i 0::(Y5 (L.take k)).map λc=>c.2.2.2.getD i 0
theorem Py(hk:k<L.length):Y5 (L.take (k+1))=Y5 (L.take k)++if (L.getD k Yl).1≠0 then [L.getD k Yl]else []:=by
 unfold Y5;rw[cn,List.filter_append,ag hk,aa,ag hk];simp only[Option.toList_some,Option.getD_some,List.filter_cons,List.filter_nil]
 congr 1
 by_cases h:L[k].1=0 <;> simp[h]
theorem Yrm(hk:k<L.length)(h:(L.getD k Yl).1≠0):Wy (loK L i (k+1))=leS (Wy (loK L i k)) ((L.getD k Yl).2.2.1.getD i 0):=by
 unfold loK leS;rw[Py hk,if_pos h,dc,<-bg];exact Yc5 (by simp) _
theorem Ysr(hk:k<L.length)(h:(L.getD k Yl).1≠0):Ws (hiK L i (k+1))=grS (Ws (hiK L i k)) ((L.getD k Yl).2.2.2.getD i 0):=by
 unfold hiK grS;rw[Py hk,if_pos h,dc,<-bg];exact Ycd (by simp) _
theorem Yrg(hk:k<L.length)(h:(L.getD k Yl).1=0):loK L i (k+1)=loK L i k:=by
 unfold loK;rw[Py hk,if_neg (by simpa using h),dt]
theorem Yr8(hk:k<L.length)(h:(L.getD k Yl).1=0):hiK L i (k+1)=hiK L i k:=by
 unfold hiK;rw[Py hk,if_neg (by simpa using h),dt]
theorem Ysh(h:Xr w w.heap.size A n c L)(i m:Nat)(him:i<m)(hm2:m<=2)(h0:0<n)
  (HL:∀k,k<n->0<=(L.getD k Yl).1/\(L.getD k Yl).2.2.1.length=m/\(L.getD k Yl).2.2.2.length=m) {a b:Int}(ha:a=Wy (loL L i)) (hb:b=Ws (hiL L i)):
  Calls an 226 #[.slice A n c,.int .i64 i] w λe w'=>e=.returned (.tuple #[.int .i64 a,.int .i64 b])/\Below w.heap.size w w':=by
 have hlm:=h.Ym
 have hll:=hid h.len
 have HLL:=hid HL
 have HA:=hid ha
 have HB:=hid hb
 clear HL ha hb;obtain⟨p,o,q,A1,n1,c1,A2,n2,c2,A3,n3,c3,S,M,X,rfl,hp,g0,g1,g2,g3,hC,hq⟩:=h.at_ h0;rw[show o+0*4+2=o+2 from by omega]at g2
 rw[show o+0*4+3=o+3 from by omega]at g3
 have hl0:=HLL.out 0 h0
 rw[hq.out]at hl0;obtain⟨_,hl2,hl3⟩:=hl0
 have e2:n2=m:=by rw[<-hC.m.len];exact hl2
 have e3:n3=m:=by rw[<-hC.x.len];exact hl3
 subst e2;obtain rfl:=e3;obtain⟨b2,o2,lo,rfl,_,cm,em⟩:=hC.m.at_ him;obtain⟨b3,o3,hi,rfl,_,cx,ex⟩:=hC.x.at_ him
 have HE:Hid (lo=Wy (loK L i 0)/\hi=Ws (hiK L i 0)):=hid (by
  unfold loK hiK;rw[hq.out];exact⟨em.out,ex.out⟩)
 have i0:(0:Int)<=(i:Int):=by omega
 have i1:(i:Int)<(n3:Int):=by omega
 have i2:(0:Int)<(n:Int):=by omega
 clear g0 g1 hC hl2 hl3;go_enter Tryz.func226,Tryz.ntmps226;go_wp2_with fail;go_quiet (fail)
 have hb0:Below w.heap.size w (w.drewN nq):=below_drewN (Below.refl _ _) _
 generalize w.drewN nq=w0 at hb0⊢;clear g2 g3 cm cx i2;go_wp2_with fail;go_loopw [6,7,26] (λa b j wr=>∃(k:Nat) (x y:Int),k<=n/\a=.int .i64 x/\b=.int .i64 y/\j=.int .i64 k/\Hid (x=Wy (loK L i k)/\y=Ws (hiK L i k))/\Below w.heap.size w wr) (λ_ _ j _=>n-(intOf j).toNat)
 case atStart=>exact⟨0,lo,hi,ar _,rfl,rfl,rfl,HE,hb0⟩
 case round=>
  obtain⟨k,x,y,hk,rfl,rfl,rfl,hxy,hbe⟩:=hrel;clear hb0 HE
  by_cases hlt:k<n
  ·obtain⟨p',o',q',A1,n1,c1,A2,n2,c2,A3,n3',c3,S,M,X,he,hp',g0,g1,g2,g3,hC,hq⟩:=(h.below hbe (ae _)).at_ hlt
   injection he with he
   injection he with he1 he2
   subst he1 he2
   have hl0:=HLL.out k hlt
   rw[hq.out]at hl0;obtain⟨hq0,hl2,hl3⟩:=hl0
   have e2:n2=n3:=by rw[<-hC.m.len];exact hl2
   have e3:n3'=n3:=by rw[<-hC.x.len];exact hl3
   subst e2;obtain rfl:=e3
   have hq0:0<=q':=hq0
   have j0:(0:Int)<=(k:Int):=by omega
   have j1:(k:Int)<(n:Int):=by omega
   have hbx:=Yb wr (.cells #[.int .i64 q',.slice A1 n1 c1,.slice A2 n3' c2,.slice A3 n3' c3] 71)
   have hB:=Block.new wr 71 #[.int .i64 q',.slice A1 n1 c1,.slice A2 n3' c2,.slice A3 n3' c3]
   have hbW:=hbe.trans (hbx.mono hbe.size)
   have hCW:=hC.below hbx hbe.size
   clear hC hbx hl2 hl3;go_wp2_with fail;generalize wr.alloc (.cells #[.int .i64 q',.slice A1 n1 c1,.slice A2 n3' c2,.slice A3 n3' c3] 71)=W at hB hbW hCW⊢;clear g0 g1 g2 g3
   have k0:W.cell? ⟨wr.heap.size,0,none⟩=some (.int .i64 q'):=hB.cell 0
   have k1:W.cell? ⟨wr.heap.size,1,none⟩=some (.slice A1 n1 c1):=hB.cell 1
   have k2:W.cell? ⟨wr.heap.size,2,none⟩=some (.slice A2 n3' c2):=hB.cell 2
   have k3:W.cell? ⟨wr.heap.size,3,none⟩=some (.slice A3 n3' c3):=hB.cell 3
   by_cases hf:0<q'
   ·have hX:Hid (leS x (M.getD i 0)=Wy (loK L i (k+1))/\grS y (X.getD i 0)=Ws (hiK L i (k+1))):=hid (by
     have hne:(L.getD k Yl).1≠0:=by rw[hq.out];show q'≠0;omega
     rw[Yrm (by rw[hll.out];exact hlt) hne,Ysr (by rw[hll.out];exact hlt) hne,<-hxy.out.1,<-hxy.out.2,hq.out]
     exact⟨rfl,rfl⟩)
    go_wp2_with fail;refine(Oq q' A1 n1 c1 A2 n3' c2 A3 n3' c3 _ (r:=true) (by simpa using hf)).mono ?_
    rintro e w2 ⟨rfl,hb2⟩
    have hbe2:=hbW.trans (hb2.mono hbW.size)
    have hB2:=hB.below hb2 hB.lt
    have hC2:=hCW.below hb2 hbW.size
    obtain⟨b2,o2,lo',rfl,_,cm,em⟩:=hC2.m.at_ him;obtain⟨b3,o3,hi',rfl,_,cx,ex⟩:=hC2.x.at_ him;rw[<-em.out,<-ex.out]at hX
    have l2:w2.cell? ⟨wr.heap.size,2,none⟩=some (.slice (some ⟨b2,o2,none⟩) n3' c2):=hB2.cell 2
    have l3:w2.cell? ⟨wr.heap.size,3,none⟩=some (.slice (some ⟨b3,o3,none⟩) n3' c3):=hB2.cell 3
    clear k0 k1 k2 k3 hB hCW hB2 hC2 hb2 em ex hbW;go_wp2_with fail;go_quiet (first|(go_at_call 221;exact Yih (Bb x lo' _))|(go_at_call 222;exact Yih (Fi y hi' _)))
    have hbe3:Below w.heap.size w (w2.drewN nq):=below_drewN hbe2 _
    generalize w2.drewN nq=w3 at hbe3⊢;clear l2 l3 cm cx hbe2;go_wp2_with fail;go_roundw
    case rel=>exact⟨k+1,_,_,by omega,rfl,rfl,by go_num,hX,hbe3⟩
    case measure=>simp[intOf];omega
   ·have hX:Hid (x=Wy (loK L i (k+1))/\y=Ws (hiK L i (k+1))):=hid (by
     have hne:(L.getD k Yl).1=0:=by rw[hq.out];show q'=0;omega
     rw[Yrg (by rw[hll.out];exact hlt) hne,Yr8 (by rw[hll.out];exact hlt) hne]
     exact hxy.out)
    go_wp2_with fail;refine(Oq q' A1 n1 c1 A2 n3' c2 A3 n3' c3 _ (r:=false) (by simpa using hf)).mono ?_
    rintro e w2 ⟨rfl,hb2⟩
    have hbe2:=hbW.trans (hb2.mono hbW.size)
    clear k0 k1 k2 k3 hB hCW hb2 hbW;go_wp2_with fail;go_roundw
    case rel=>exact⟨k+1,_,_,by omega,rfl,rfl,by go_num,hX,hbe2⟩
    case measure=>simp[intOf];omega
  ·obtain rfl:k=n:=by omega
   have e1:x=a:=by rw[HA.out,hxy.out.1];unfold loK loL;rw[ai (by rw[hll.out];exact ae _)]
   have e2:y=b:=by rw[HB.out,hxy.out.2];unfold hiK hiL;rw[ai (by rw[hll.out];exact ae _)]
   subst e1 e2;go_wp2_with fail;go_ret2;exact⟨rfl,hbe⟩
/-! ### Cells that may be,of one number of measures -/
def Ya1(m:Nat)(L:List PC):Prop:=∀k,k<L.length->Zo (L.getD k Yl)/\(L.getD k Yl).2.1.length=m
def O7(L:List PC)(k:Nat):List Int:=L.map λc=>c.2.1.getD k 0
def Yf0(m:Nat)(L:List PC):PC×Int:=if Zo (Yp m L)then (Yp m L,0)else (Yl,14)
theorem R0{c:PC}(h:Zo c):0<=c.1/\c.1<=1099511627776:=by
 obtain⟨n,S,M,X⟩:=c;obtain⟨_,_,_,h1,h2,_⟩:=(Sg n S M X).1 h;exact⟨h1,h2⟩
theorem E0{c:PC}(h:Zo c){k:Nat}(hk:k<c.2.1.length):inS (c.2.1.getD k 0):=by
 obtain⟨n,S,M,X⟩:=c;obtain⟨_,_,_,_,_,h3⟩:=(Sg n S M X).1 h
 rcases h3 k hk with⟨_,h,_⟩|⟨_,_,_,_,h,_⟩
 ·have h:S.getD k 0=0:=h
  show inS (S.getD k 0)
  rw[h];exact⟨by decide,by decide⟩
 ·exact h
theorem Ya1.mem(h:Ya1 m L):∀c∈L,Zo c/\c.2.1.length=m:=by
 intro c hc;obtain⟨k,hk,rfl⟩:=bj.1 hc
 have:=h k hk
 rwa [aa,ag hk]at this
theorem Ya1.Yxh(h:Ya1 m L):I64 (L.map λc=>c.1):=by
 intro x hx;obtain⟨c,hc,rfl⟩:=bs.1 hx
 have:=R0 (h.mem c hc).1
 show -9223372036854775808<=c.1/\c.1<=9223372036854775807
 omega
theorem Ya1.Yxk(h:Ya1 m L){k:Nat}(hk:k<m):I64 (O7 L k):=by
 intro x hx;obtain⟨c,hc,rfl⟩:=bs.1 hx;obtain⟨h1,h2⟩:=h.mem c hc
 have:=E0 h1 (k:=k) (by omega)
 unfold inS at this
 show -9223372036854775808<=c.2.1.getD k 0/\c.2.1.getD k 0<=9223372036854775807
 omega
theorem Cw:∀{l:List Int},(∀x∈l,0<=x/\x<=1099511627776)->0<=Y4 l/\Y4 l<=1099511627776*(l.length:Int):=by
 intro l
 induction l with
 |nil=>intro _;simp[Y4]
 |cons x l ih=>
  intro h
  have h1:=h x (by simp)
  have h2:=ih λy hy=>h y (by simp[hy])
  simp only[Y4,List.length_cons];omega
theorem Ya1.count(h:Ya1 m L)(hn:L.length<=1000000):0<=Y4 (L.map λc=>c.1)/\Nu (Y4 (L.map λc=>c.1)):=by
 have h1:=Cw (l:=L.map λc=>c.1) (by
  intro x hx;obtain⟨c,hc,rfl⟩:=bs.1 hx;exact R0 (h.mem c hc).1)
 rw[aw]at h1;unfold Nu;omega
theorem Yhb(L:List PC)(h:k<m):(Yp m L).2.1.getD k 0=Y4 (O7 L k)/\(Yp m L).2.2.1.getD k 0=Wy ((Y5 L).map λc=>c.2.2.1.getD k 0)/\(Yp m L).2.2.2.getD k 0=Ws ((Y5 L).map λc=>c.2.2.2.getD k 0):=by
 simp[Yp,O7,aa,h]
theorem Ea(m:Nat)(L:List PC):(Yp m L).2.1.length=m/\(Yp m L).2.2.1.length=m/\(Yp m L).2.2.2.length=m:=by simp[Yp]
theorem Yrk(hk:k<m)(h:¬Nu (Y4 (O7 L k))):Yf0 m L=(Yl,14):=by
 unfold Yf0;rw[if_neg];intro hc
 have:=E0 hc (k:=k) (by rw[(Ea m L).1];exact hk)
 rw[(Yhb L hk).1]at this;apply h;unfold inS at this;unfold Nu;omega
theorem De(h0:0<L.length)(h:0<(L.getD 0 Yl).1):L.getD 0 Yl∈Y5 L:=by
 rw[aa,ag h0]at h⊢;refine List.mem_filter.2 ⟨br h0,?_⟩;simp only[Option.getD_some]at h⊢;simp only[decide_eq_true_eq];omega
theorem Yv7(h0:0<L.length)(h:0<(L.getD 0 Yl).1)(i:Nat):Wy (loL L i)=Wy ((Y5 L).map λc=>c.2.2.1.getD i 0):=by
 have hm:=De h0 h
 refine Gi (by simp[loL]) (λe=>?_) λx=>?_
 ·rw[dn]at e;rw[e]at hm;cases hm
 ·unfold loL
  rw[df];exact⟨λhx=>hx.elim (λe=>by rw[e];exact bs.2 ⟨_,hm,rfl⟩) id,.inr⟩
theorem Yvu(h0:0<L.length)(h:0<(L.getD 0 Yl).1)(i:Nat):Ws (hiL L i)=Ws ((Y5 L).map λc=>c.2.2.2.getD i 0):=by
 have hm:=De h0 h
 refine Gd (by simp[hiL]) (λe=>?_) λx=>?_
 ·rw[dn]at e;rw[e]at hm;cases hm
 ·unfold hiL
  rw[df];exact⟨λhx=>hx.elim (λe=>by rw[e];exact bs.2 ⟨_,hm,rfl⟩) id,.inr⟩
def Ylz(s z:Int)(b:Bool):Prop:=(inS s/\z=s/\b=true)∨(¬inS s/\b=false/\((Nu s/\z=s)∨(¬Nu s/\z=0)))
theorem Ybq(s:Int):∃z b,Ylz s z b:=by
 by_cases h:inS s
 ·exact⟨_,_,.inl ⟨h,rfl,rfl⟩⟩
 ·by_cases h2:Nu s
  ·exact⟨_,_,.inr ⟨h,rfl,.inl ⟨h2,rfl⟩⟩⟩
  ·exact⟨_,_,.inr ⟨h,rfl,.inr ⟨h2,rfl⟩⟩⟩
theorem Yam(h:Y2 w w.heap.size A n c l)(hn:n<=10000)(hx:I64 l){z:Int}{b:Bool}(hs:Ylz (Y4 l) z b):
  Calls an 118 #[.slice A n c] w λe w'=>e=.returned (.tuple #[.int .i64 z,.bool b])/\Below w.heap.size w w':=by
 have hfar:Yq8 (Y4 l):=by
  have h1:=Eo hx
  have h2:=h.len
  unfold Yq8;omega
 obtain⟨s,hsd⟩: ∃s,Y4 l=s:=⟨_,rfl⟩;rw[hsd]at hs hfar
 have HT:=hid (Ydf A n c l w h hx)
 rw[hsd]at HT
 have HF:=hid hfar
 have HS:=hid hs
 clear hs hfar hsd hx h;go_enter Tryz.func118,Tryz.ntmps118;go_wp2_with fail;refine HT.out.mono ?_;rintro e w1 ⟨⟨v,rfl,ho⟩,hb1⟩;obtain⟨g,k,rfl,hrow,-,-⟩:=L4 ho;clear HT ho
 by_cases h6:Nu s
 ·have hI:=hid (Fw _ _ _ s _ hrow HF.out s 0 (.inl ⟨h6.1,h6.2,rfl,rfl⟩))
  have hz:z=s:=by
   rcases HS.out with⟨_,h,_⟩|⟨_,_,⟨_,h⟩|⟨h,_⟩⟩
   ·exact h
   ·exact h
   ·exact absurd h6 h
  subst hz
  have hb:Hid (inB z 4611686018427387904=b):=hid (by
   rw[Yr5]
   rcases HS.out with⟨h,_,h2⟩|⟨h,h2,_⟩
   ·rw[h2];simpa using h
   ·rw[h2];simpa using h)
  clear hrow h6;go_wp2_with fail;refine hI.out.mono ?_;rintro e w2 ⟨rfl,q,hw2⟩
  have hb2:Below w.heap.size w w2:=by rw[hw2];exact below_drewN hb1 q
  clear hw2 hI hb1;go_wp2_with fail;refine(Pd z 4611686018427387904 _ (by decide) (by decide)).mono ?_
  rintro e w3 ⟨rfl,rfl⟩;rw[hb.out];go_wp2_with fail;go_ret2;exact⟨rfl,hb2⟩
 ·have hI:=hid (Fw _ _ _ s _ hrow HF.out 0 14 (.inr ⟨h6,rfl,rfl⟩))
  obtain⟨rfl,rfl⟩:z=0/\b=false:=by
   rcases HS.out with⟨h,_⟩|⟨_,h,⟨h2,_⟩|⟨_,h2⟩⟩
   ·unfold inS at h
    unfold Nu at h6;omega
   ·exact absurd h2 h6
   ·exact⟨h2,h⟩
  clear hrow h6;go_wp2_with fail;refine hI.out.mono ?_;rintro e w2 ⟨rfl,q,hw2⟩
  have hb2:Below w.heap.size w w2:=by rw[hw2];exact below_drewN hb1 q
  clear hw2 hI hb1;go_wp2_with fail;go_ret2;exact⟨rfl,hb2⟩
theorem Qp(x:Int){A:Option Addr}{n c:Nat}{l:List Int}{w:World}(h:Y2 w w.heap.size A n c l){r:Bool}(hr:r=true↔isVal x l):
  Calls an 116 #[.int .i64 x,.slice A n c] w λe w'=>e=.returned (.bool r)/\w=w':=by
 have R:=hid hr
 have hll:=hid h.len
 have hlm:=h.Ym
 clear hr
 by_cases hx:(n:Int)=x
 ·subst hx
  have k0:((n:Int) != (n:Int))=false:=by simp
  go_enter dx,du;go_wp2_with fail;go_loop [5] (λi=>∃k:Nat,k<=n/\i=.int .i64 k/\Hid (∀j,j<k->inV (l.getD j 0))) (λi=>n-(intOf i).toNat)
  case atStart=>exact⟨0,ar _,rfl,hid λj hj=>absurd hj (by omega)⟩
  case round=>
   obtain⟨k,hk,rfl,hJ⟩:=hrel
   by_cases hlt:k<n
   ·obtain⟨b,o,y,rfl,_,cy,ey⟩:=h.at_ hlt
    have i0:(0:Int)<=(k:Int):=by omega
    have i1:(k:Int)<(n:Int):=by omega
    obtain⟨b,hb⟩: ∃b,inB y 2305843009213693952=b:=⟨_,rfl⟩
    have hbP:Hid (b=true↔inV (l.getD k 0)):=hid (by rw[<-hb,Yck,<-ey.out];simp)
    have HI:Hid (∀w,Calls an 195 #[.int .i64 y,.int .i64 2305843009213693952] w λe w'=>e=.returned (.bool b)/\w=w'):=hid λw=>by have:=Pd y 2305843009213693952 w (by decide) (by decide);rwa [hb]at this
    clear hb
    cases b
    ·have Z:Hid (r=false):=hid (by
      rw[aj];intro h
      have h1:=(R.out.1 h).2 (l.getD k 0) (by
       rw[aa,ag (by rw[hll.out];exact hlt)]
       exact br _)
      cases hbP.out.2 h1)
     go_wp2_with fail;refine(HI.out _).mono ?_;rintro e w2 ⟨rfl,rfl⟩;go_wp2_with fail;go_ret;exact⟨Yd Z.out.symm,rfl⟩
    ·have hJ2:Hid (∀j,j<k+1->inV (l.getD j 0)):=hid λj hj=>by
      by_cases h:j<k
      ·exact hJ.out j h
      ·obtain rfl:j=k:=by omega
       exact hbP.out.1 rfl
     go_wp2_with fail;refine(HI.out _).mono ?_;rintro e w2 ⟨rfl,rfl⟩;go_wp2_with fail;go_round
     case rel=>exact⟨k+1,by omega,by go_num,hJ2⟩
     case measure=>simp[intOf];omega
   ·obtain rfl:k=n:=by omega
    have Z:Hid (r=true):=hid (R.out.2 ⟨by rw[hll.out],λx hx=>by
     obtain⟨j,hj,rfl⟩:=bj.1 hx
     have:=hJ.out j (by rw[<-hll.out];exact hj)
     rwa [aa,ag hj]at this⟩)
    go_wp2_with fail;go_ret;exact⟨Yd Z.out.symm,rfl⟩
 ·have Z:Hid (r=false):=hid (by
   rw[aj];intro h
   have:=(R.out.1 h).1
   rw[hll.out]at this;exact hx this)
  have k0:((n:Int) != x)=true:=by simpa using hx
  clear hx;go_enter dx,du;go_wp2_with fail;go_ret;exact⟨Yd Z.out.symm,rfl⟩
section
structure Tj (w0 w:World) (s:Nat) (q:Int) (g1 g2 g3 m k1 k2 k3:Nat) (S M X:List Int):Prop where
 blk:Block w s 71 #[.int .i64 q,.slice (some ⟨g1,0,none⟩) m m,.slice (some ⟨g2,0,none⟩) m m,.slice (some ⟨g3,0,none⟩) m m]
 rs:Yi w w0.heap.size (.slice (some ⟨g1,0,none⟩) m m) (Qu S k1)
 rm:Yi w w0.heap.size (.slice (some ⟨g2,0,none⟩) m m) (Qu M k2)
 rx:Yi w w0.heap.size (.slice (some ⟨g3,0,none⟩) m m) (Qu X k3)
 bel:Below w0.heap.size w0 w
 n1:g1≠s
 n2:g2≠s
 n3:g3≠s
 hs:w0.heap.size<=s
section
variable {w0 w w' : World}{s g1 g2 g3 m k1 k2 k3:Nat}{q:Int}{S M X:List Int}
theorem Tj.below(h:Tj w0 w s q g1 g2 g3 m k1 k2 k3 S M X)(hb:Below w.heap.size w w'):Tj w0 w' s q g1 g2 g3 m k1 k2 k3 S M X:=
 ⟨h.blk.below hb h.blk.lt,h.rs.below hb (ae _),h.rm.below hb (ae _),h.rx.below hb (ae _),h.bel.trans (hb.mono h.bel.size),h.n1,h.n2,h.n3,h.hs⟩
theorem Tj.Pu{g:Nat}(h:g≠s):(Value.slice (some ⟨g,0,none⟩) m m).ownBlock≠some s:=by
 intro e;injection e with e
 exact h e
theorem Tj.Yxy(h:Tj w0 w s q g1 g2 g3 m k1 k2 k3 S M X)(q':Int):Tj w0 (w.setCell ⟨s,0,none⟩ (.int .i64 q')) s q' g1 g2 g3 m k1 k2 k3 S M X:=
 ⟨h.blk.Ys 0 _,h.rs.other (Pu h.n1) _,h.rm.other (Pu h.n2) _,h.rx.other (Pu h.n3) _,h.bel.setCell (p:=⟨s,0,none⟩) h.hs _,h.n1,h.n2,h.n3,h.hs⟩
theorem Tj.Yoc(h:Tj w0 w s q g1 g2 g3 m k1 k2 k3 S M X)(h12:g1≠g2)(h13:g1≠g3)(hl:S.length=m)(hk:k1<m)(y:Int)(hy:S.getD k1 0=y):
  Tj w0 (w.setCell ⟨g1,k1,none⟩ (.int .i64 y)) s q g1 g2 g3 m (k1+1) k2 k3 S M X:=by
 subst hy;exact⟨h.blk.Zg g1 k1 _ h.n1,by rw[<-K5 (by omega)];exact h.rs.Ys k1 _,h.rm.other (Pu (Ne.symm h12)) _,h.rx.other (Pu (Ne.symm h13)) _,h.bel.setCell (p:=⟨g1,k1,none⟩) (h.rs.lt g1 rfl).1 _,h.n1,h.n2,h.n3,h.hs⟩
theorem Tj.Yvh(h:Tj w0 w s q g1 g2 g3 m k1 k2 k3 S M X)(h12:g1≠g2)(h23:g2≠g3)(hl:M.length=m)(hk:k2<m)(y:Int)(hy:M.getD k2 0=y):
  Tj w0 (w.setCell ⟨g2,k2,none⟩ (.int .i64 y)) s q g1 g2 g3 m k1 (k2+1) k3 S M X:=by
 subst hy;exact⟨h.blk.Zg g2 k2 _ h.n2,h.rs.other (Pu h12) _,by rw[<-K5 (by omega)];exact h.rm.Ys k2 _,h.rx.other (Pu (Ne.symm h23)) _,h.bel.setCell (p:=⟨g2,k2,none⟩) (h.rm.lt g2 rfl).1 _,h.n1,h.n2,h.n3,h.hs⟩
theorem Tj.Yxj(h:Tj w0 w s q g1 g2 g3 m k1 k2 k3 S M X)(h13:g1≠g3)(h23:g2≠g3)(hl:X.length=m)(hk:k3<m)(y:Int)(hy:X.getD k3 0=y):
  Tj w0 (w.setCell ⟨g3,k3,none⟩ (.int .i64 y)) s q g1 g2 g3 m k1 k2 (k3+1) S M X:=by
 subst hy;exact⟨h.blk.Zg g3 k3 _ h.n3,h.rs.other (Pu h13) _,h.rm.other (Pu h23) _,by rw[<-K5 (by omega)];exact h.rx.Ys k3 _,h.bel.setCell (p:=⟨g3,k3,none⟩) (h.rx.lt g3 rfl).1 _,h.n1,h.n2,h.n3,h.hs⟩
end
abbrev Sr(w:World)(r:Nat)(a b c d:Value):World:=(((w.setCell ⟨r,0,none⟩ a).setCell ⟨r,1,none⟩ b).setCell ⟨r,2,none⟩ c).setCell ⟨r,3,none⟩ d
section
variable {w w' : World}{r base:Nat}{a b c d a' b' c' d' v1 v2 v3:Value}{T:TypeId}{S M X:List Int}
theorem Block.Zp(h:Block w r T #[a,b,c,d])(a' b' c' d':Value):Block (Sr w r a' b' c' d') r T #[a',b',c',d']:=(((h.Ys 0 a').Ys 1 b').Ys 2 c').Ys 3 d'
theorem X7.Zp(h:X7 w base v1 v2 v3 S M X)(hr:r<base)(a' b' c' d':Value):X7 (Sr w r a' b' c' d') base v1 v2 v3 S M X:=by
 have key:∀{v:Value}{l:List Int}{w:World},Yi w base v l->∀(j:Nat) (u:Value),Yi (w.setCell ⟨r,j,none⟩ u) base v l:=λh j u=>h.other (λe=>by have:=(h.lt r e).1;omega) u
 exact⟨key (key (key (key h.s 0 a') 1 b') 2 c') 3 d',key (key (key (key h.m 0 a') 1 b') 2 c') 3 d',key (key (key (key h.x 0 a') 1 b') 2 c') 3 d'⟩
theorem Yq{B:Nat}(h:Below B w w')(hr:B<=r)(a' b' c' d':Value):Below B w (Sr w' r a' b' c' d'):=
 (((h.setCell (p:=⟨r,0,none⟩) hr _).setCell (p:=⟨r,1,none⟩) hr _).setCell (p:=⟨r,2,none⟩) hr _).setCell (p:=⟨r,3,none⟩) hr _
end
theorem Ydi(h:Xr w w.heap.size A n c L)(h0:0<n)(hn:n<=1000000)(hm:m<=2)(HL:Ya1 m L)(hf:0<(L.getD 0 Yl).1):
  Calls an 174 #[.slice A n c] w (Qw w (Yf0 m L)):=by
 have hlm:=h.Ym
 have hll:=hid h.len
 have HLL:=hid HL
 have Hf:=hid hf
 obtain⟨b,o,q,A1,n1,c1,A2,n2,c2,A3,n3,c3,S,M,X,rfl,hb,g0,g1,g2,g3,hC,hq⟩:=h.at_ h0;rw[show o+0*4+1=o+1 from by omega]at g1
 obtain rfl:n1=m:=by
  have:=(HL 0 (by rw[hll.out];exact h0)).2
  rw[hq.out]at this;rw[<-hC.s.len];exact this
 clear HL hf g0 g2 g3 hC hq
 have i2:(0:Int)<(n:Int):=by omega
 have hs1:((w.alloc (.cells #[.int .i64 0,.slice none 0 0,.slice none 0 0,.slice none 0 0] 71))).cell? ⟨b,o+1,none⟩=some (.slice A1 n1 c1):=((Yb w _).cell (p:=⟨b,o+1,none⟩) hb).trans g1
 clear g1;go_enter Tryz.func174,Tryz.ntmps174;go_wp2_with fail;refine(Mz (n1:Int) _ (m:=n1) (by omega)).mono ?_
 rintro e w1 ⟨⟨e1,e2,e3,rfl,ho,d12,d13,d23⟩,hb1⟩
 have hR:=Block.new w 71 #[.int .i64 0,.slice none 0 0,.slice none 0 0,.slice none 0 0]
 have hbw:=Yb w (.cells #[.int .i64 0,.slice none 0 0,.slice none 0 0,.slice none 0 0] 71)
 have hrs:w.heap.size<(w.alloc (.cells #[.int .i64 0,.slice none 0 0,.slice none 0 0,.slice none 0 0] 71)).heap.size:=by simp
 clear hs1;generalize w.alloc (.cells #[.int .i64 0,.slice none 0 0,.slice none 0 0,.slice none 0 0] 71)=w0 at ho hb1 hR hbw hrs⊢;obtain⟨Q,Ss,Ms,Xs,hs⟩: ∃Q Ss Ms Xs,Yp n1 L=(Q,Ss,Ms,Xs):=⟨_,_,_,_,rfl⟩
 have HSC:=hid hs
 have hQ:Hid (Y4 (L.map λc=>c.1)=Q):=hid (congrArg (·.1) hs)
 obtain⟨l1,l2,l3⟩:Ss.length=n1/\Ms.length=n1/\Xs.length=n1:=by
  have:=Ea n1 L
  rw[hs]at this;exact this
 clear hs
 have T1:Tj w0 (w1.alloc (.cells #[.int .i64 0,.slice (some ⟨e1,0,none⟩) n1 n1,.slice (some ⟨e2,0,none⟩) n1 n1,.slice (some ⟨e3,0,none⟩) n1 n1] 71)) w1.heap.size 0 e1 e2 e3 n1 0 0 0 Ss Ms Xs:=
  ⟨Block.new w1 _ _,by rw[M6,l1];exact ho.s.alloc _,by rw[M6,l2];exact ho.m.alloc _,by rw[M6,l3];exact ho.x.alloc _,Ya hb1 (Yb w1 _),
   dj (ho.s.lt e1 rfl).2,dj (ho.m.lt e2 rfl).2,dj (ho.x.lt e3 rfl).2,hb1.size⟩
 clear ho hb1;go_wp2_with fail;generalize w1.alloc (.cells #[.int .i64 0,.slice (some ⟨e1,0,none⟩) n1 n1,.slice (some ⟨e2,0,none⟩) n1 n1,.slice (some ⟨e3,0,none⟩) n1 n1] 71)=w2 at T1⊢;generalize w1.heap.size=s at T1⊢
 have hbw2:=hbw.trans (T1.bel.mono hbw.size)
 refine(Ci (h.Yc hbw2) hn 224 #[] (λc=>c.1) (λ_ _=>rfl) (λk hk q A1 n1 c1 A2 n2 c2 A3 n3 c3 S M X W hW hC hq=>Ydo q A1 n1 c1 A2 n2 c2 A3 n3 c3 W) HLL.out.Yxh (z:=Q) (x:=0) (.inl ⟨(HLL.out.count (by rw[hll.out];exact hn)).2,hQ.out.symm,rfl⟩)).mono ?_
 rintro e w3 ⟨rfl,hb3⟩
 have T2:=T1.below hb3
 have s0:=T2.blk.cell 0
 have s1:=T2.blk.free 0
 have T3:=T2.Yxy Q
 clear T1 T2 hb3 hbw2
 have s2:=T3.blk.cell 1
 go_wp2_with fail;generalize w3.setCell ⟨s,0,none⟩ (.int .i64 Q)=w4 at T3 s2⊢;clear s0 s1;go_loopw [26] (λi wr=>∃k:Nat,k<=n1/\i=.int .i64 k/\Tj w0 wr s Q e1 e2 e3 n1 k k k Ss Ms Xs) (λi _=>n1-(intOf i).toNat)
 case atStart=>exact⟨0,ar _,rfl,T3⟩
 case round=>
  obtain⟨k,hk,rfl,T4⟩:=hrel;clear T3 s2
  by_cases hlt:k<n1
  ·have T5:=T4.below (Yb wr (.cells #[.int .i64 k] 3))
   have hB:=Block.new wr 3 #[.int .i64 k]
   have hkn:Hid (Ss.getD k 0=Y4 (O7 L k)/\Ms.getD k 0=Wy (loL L k)/\Xs.getD k 0=Ws (hiL L k)):=hid (by
    have:=Yhb (m:=n1) L hlt
    rw[HSC.out]at this;rw[Yv7 (by rw[hll.out];exact h0) Hf.out,Yvu (by rw[hll.out];exact h0) Hf.out]
    exact this)
   have hbW:=hbw.trans (T5.bel.mono hbw.size)
   have hsz:=hid (World.block_lt_of_cell? _ _ (hB.cell 0:_=some (.int .i64 k)))
   go_wp2_with fail;generalize wr.alloc (.cells #[.int .i64 k] 3)=W at T5 hB hbW hsz⊢
   have hIB:¬wr.heap.size=s:=λe=>by
    have:=T4.blk.lt
    omega
   have hi1:¬e1=wr.heap.size:=λe=>by
    have:=(T4.rs.lt e1 rfl).2
    omega
   have hi2:¬e2=wr.heap.size:=λe=>by
    have:=(T4.rm.lt e2 rfl).2
    omega
   have hi3:¬e3=wr.heap.size:=λe=>by
    have:=(T4.rx.lt e3 rfl).2
    omega
   generalize wr.heap.size=iB at hB hIB hi1 hi2 hi3 hsz⊢
   have b0:W.cell? ⟨iB,0,none⟩=some (.int .i64 k):=hB.cell 0
   have s1:W.cell? ⟨s,1,none⟩=some (.slice (some ⟨e1,0,none⟩) n1 n1):=T5.blk.cell 1
   have i0:(0:Int)<=(k:Int):=by omega
   have i1:(k:Int)<(n1:Int):=by omega
   have q1:¬e1=s:=T5.n1
   have q2:¬s=e1:=λe=>q1 e.symm
   have q3:¬iB=e1:=λe=>hi1 e.symm
   obtain⟨z,x,hzx⟩: ∃z x:Int,Hid ((Nu (Y4 (O7 L k))/\z=Y4 (O7 L k)/\x=0)∨(¬Nu (Y4 (O7 L k))/\z=0/\x=14)):=by
    by_cases hi:Nu (Y4 (O7 L k))
    ·exact⟨_,_,hid (.inl ⟨hi,rfl,rfl⟩)⟩
    ·exact⟨_,_,hid (.inr ⟨hi,rfl,rfl⟩)⟩
   have HT:=hid (Ci (w:=W.drew) ((h.Yc hbW).drewN 1) hn 225 #[.pointer (some ⟨iB,0,none⟩)] (λc=>c.2.1.getD k 0) (λ_ _=>rfl) (λj hj q A1 m1 c1 A2 n2 c2 A3 n3 c3 S M X V hV hC hq=>by
    have hm1:k<m1:=by
     have:=(HLL.out j (by rw[hll.out];exact hj)).2
     rw[hq]at this;rw[<-hC.s.len]
     show k<S.length
     have:S.length=n1:=this
     omega
    exact Yif hC hm1 ((hV.cell (p:=⟨iB,0,none⟩) hsz.out).trans b0)) (HLL.out.Yxk hlt) (z:=z) (x:=x) hzx.out)
   clear T4;go_region_held3 (λw'=>w'.cell? ⟨s,1,none⟩=some (.slice (some ⟨e1,0,none⟩) n1 n1)/\w'.cell? ⟨iB,0,none⟩=some (.int .i64 k))
    (first
     |(refine⟨?_,?_⟩ <;> (go_keep;done))
     |(go_keep;done))
    (first
     |(go_at_call 223;refine HT.out.mono ?_;rintro e w5 ⟨rfl,hb5⟩;have hb6:=(show Below W.heap.size W W.drew from Below.drew (Below.refl _ _)).trans hb5;have T6:=T5.below hb6;have hB6:=hB.below hb6 hsz.out;have p1:=T6.blk.cell 1;have p2:=hB6.cell 0;have p3:=T6.rs.Yb8 k (by rw[Qg _ _ (by omega)];omega);have p4:=T6.rs.free k))
   have hR6:=hR.below T6.bel hrs
   have hRe:¬e1=w.heap.size:=λe=>by
    have:=(T6.rs.lt e1 rfl).1
    omega
   have hR7:=hR6.Zg e1 k (.int .i64 z) hRe
   rcases hzx.out with⟨hs1,hs2,rfl⟩|⟨hs1,rfl,rfl⟩
   ·have T7:=T6.Yoc d12 d13 l1 hlt z (hkn.out.1.trans hs2.symm)
    have hB7:=hB6.Zg e1 k (.int .i64 z) hi1
    clear T5 T6 hB hB6 hbW HT p1 p2 p3 p4 hb5 hb6 s1 b0 hR6 hs2 hs1;generalize w5.setCell ⟨e1,k,none⟩ (.int .i64 z)=w7 at T7 hB7 hR7⊢;go_wp2_with fail;obtain⟨la,hla⟩: ∃la,Hid (Ms.getD k 0=la):=⟨_,hid rfl⟩;obtain⟨hb,hhb⟩: ∃hb,Hid (Xs.getD k 0=hb):=⟨_,hid rfl⟩
    have HE:=hid (Ysh (w:=w7.drew) ((h.Yc (hbw.trans (T7.bel.mono hbw.size))).drewN 1) k n1 hlt hm h0 (λj hj=>by
     have h1:=HLL.out j (by rw[hll.out];exact hj)
     obtain⟨h2,h3⟩:=h1;exact⟨(R0 h2).1,h2.2.1.trans h3,h2.2.2.1.trans h3⟩) (a:=la) (b:=hb) (hla.out.symm.trans hkn.out.2.1) (hhb.out.symm.trans hkn.out.2.2))
    have q4:¬e2=s:=T7.n2
    have q5:¬e3=s:=T7.n3
    have q6:¬s=e2:=λe=>q4 e.symm
    have q7:¬s=e3:=λe=>q5 e.symm
    have q8:¬iB=e2:=λe=>hi2 e.symm
    have q9:¬iB=e3:=λe=>hi3 e.symm
    have qa:¬e2=e3:=d23
    have qb:¬e3=e2:=λe=>d23 e.symm
    have s2:w7.cell? ⟨s,2,none⟩=some (.slice (some ⟨e2,0,none⟩) n1 n1):=T7.blk.cell 2
    have s3:w7.cell? ⟨s,3,none⟩=some (.slice (some ⟨e3,0,none⟩) n1 n1):=T7.blk.cell 3
    have b0:w7.cell? ⟨iB,0,none⟩=some (.int .i64 k):=hB7.cell 0
    have hsz7:=hB7.lt
    go_region_held3 (λw'=>w'.cell? ⟨s,2,none⟩=some (.slice (some ⟨e2,0,none⟩) n1 n1)/\w'.cell? ⟨s,3,none⟩=some (.slice (some ⟨e3,0,none⟩) n1 n1)/\w'.cell? ⟨iB,0,none⟩=some (.int .i64 k))
     (first
      |(refine⟨?_,?_,?_⟩ <;> (go_keep;done))
      |(go_keep;done))
     (first
      |(go_at_call 226;refine HE.out.mono ?_;rintro e w8 ⟨rfl,hb8⟩;have hb9:=(show Below w7.heap.size w7 w7.drew from Below.drew (Below.refl _ _)).trans hb8;have T8:=T7.below hb9;have hB8:=hB7.below hb9 hsz7;have p1:=T8.blk.cell 2;have p2:=T8.blk.cell 3;have p3:=hB8.cell 0;have p4:=T8.rm.Yb8 k (by rw[Qg _ _ (by omega)];omega);have p5:=T8.rm.free k;have p6:=T8.rx.Yb8 k (by rw[Qg _ _ (by omega)];omega);have p7:=T8.rx.free k))
    have T9:=(T8.Yvh d12 d23 l2 hlt la hla.out).Yxj d13 d23 l3 hlt hb hhb.out
    clear T7 T8 hB7 hB8 hb8 hb9 p1 p2 p3 p4 p5 p6 p7 s2 s3 b0 HE hR7;generalize (w8.setCell ⟨e2,k,none⟩ (.int .i64 la)).setCell ⟨e3,k,none⟩ (.int .i64 hb)=w10 at T9⊢;go_wp2_with fail;go_roundw
    case rel=>exact⟨k+1,by omega,by go_num,T9⟩
    case measure=>simp[intOf];omega
   ·have hZ:=hid (Yrk hlt hs1)
    have hbe:=hbw.trans ((T6.bel.setCell (p:=⟨e1,k,none⟩) (T6.rs.lt e1 rfl).1 (.int .i64 0)).mono hbw.size)
    clear T5 T6 hB hB6 hbW HT p1 p2 p3 p4 hb5 hb6 s1 b0 hR6;generalize w5.setCell ⟨e1,k,none⟩ (.int .i64 0)=w7 at hR7 hbe⊢
    have r0:w7.cell? ⟨w.heap.size,0,none⟩=some (.int .i64 0):=hR7.cell 0
    have r1:w7.cell? ⟨w.heap.size,1,none⟩=some (.slice none 0 0):=hR7.cell 1
    have r2:w7.cell? ⟨w.heap.size,2,none⟩=some (.slice none 0 0):=hR7.cell 2
    have r3:w7.cell? ⟨w.heap.size,3,none⟩=some (.slice none 0 0):=hR7.cell 3
    have f0:=hR7.free 0
    have f1:=hR7.free 1
    have f2:=hR7.free 2
    have f3:=hR7.free 3
    have hRR:=hid (hR7.Zp (.int .i64 0) (.slice none 0 0) (.slice none 0 0) (.slice none 0 0))
    have hRB:=hid (Yq hbe (ae _) (.int .i64 0) (.slice none 0 0) (.slice none 0 0) (.slice none 0 0))
    go_wp2_with fail;refine bodyPost_ret (Ye rfl _ _ w.heap.size _ _ rfl hRR.out af rfl Yz) rfl ?_;rw[hZ.out];exact⟨⟨_,_,_,rfl,Xq _ _⟩,hRB.out⟩
  ·obtain rfl:k=n1:=by omega
   have hN1:Qu Ss k=Ss:=by rw[<-l1];exact Jp Ss
   have hN2:Qu Ms k=Ms:=by rw[<-l2];exact Jp Ms
   have hN3:Qu Xs k=Xs:=by rw[<-l3];exact Jp Xs
   have hO:X7 wr w0.heap.size (.slice (some ⟨e1,0,none⟩) k k) (.slice (some ⟨e2,0,none⟩) k k) (.slice (some ⟨e3,0,none⟩) k k) Ss Ms Xs:=
    ⟨by have:=T4.rs;rwa [hN1]at this,by have:=T4.rm;rwa [hN2]at this,by have:=T4.rx;rwa [hN3]at this⟩
   have hC:Wi wr wr.heap.size _ _ _ _ _ _ _ _ _ Ss Ms Xs:=⟨hO.s.has,hO.m.has,hO.x.has⟩
   obtain⟨r,hr⟩: ∃r:Bool,Hid (r=true↔Zo (Q,Ss,Ms,Xs)):=⟨decide (Zo (Q,Ss,Ms,Xs)),hid (by simp)⟩
   have s0:wr.cell? ⟨s,0,none⟩=some (.int .i64 Q):=T4.blk.cell 0
   have s1:wr.cell? ⟨s,1,none⟩=some (.slice (some ⟨e1,0,none⟩) k k):=T4.blk.cell 1
   have s2:wr.cell? ⟨s,2,none⟩=some (.slice (some ⟨e2,0,none⟩) k k):=T4.blk.cell 2
   have s3:wr.cell? ⟨s,3,none⟩=some (.slice (some ⟨e3,0,none⟩) k k):=T4.blk.cell 3
   have hM:=hid (Fk hC hr.out)
   have hR6:=hR.below T4.bel hrs
   have hbe:=hbw.trans (T4.bel.mono hbw.size)
   have hbl:=T4.blk
   have hrl:=hR6.lt
   clear hN1 hN2 hN3 hC T4 hk hlt;go_wp2_with fail;refine hM.out.mono ?_;rintro e w5 ⟨rfl,hb5⟩
   have hbe5:=hbe.trans (hb5.mono hbe.size)
   have hbl5:=hbl.below hb5 hbl.lt
   have hR5:=hR6.below hb5 hrl
   have hO5:=(hO.below hb5 (ae _)).low (au hrs)
   have hO6:=hO.below hb5 (ae _)
   clear hM hbe hbl hR6 hO hb5 s0 s1 s2 s3
   have s0:w5.cell? ⟨s,0,none⟩=some (.int .i64 Q):=hbl5.cell 0
   have s1:w5.cell? ⟨s,1,none⟩=some (.slice (some ⟨e1,0,none⟩) k k):=hbl5.cell 1
   have s2:w5.cell? ⟨s,2,none⟩=some (.slice (some ⟨e2,0,none⟩) k k):=hbl5.cell 2
   have s3:w5.cell? ⟨s,3,none⟩=some (.slice (some ⟨e3,0,none⟩) k k):=hbl5.cell 3
   have r0:w5.cell? ⟨w.heap.size,0,none⟩=some (.int .i64 0):=hR5.cell 0
   have r1:w5.cell? ⟨w.heap.size,1,none⟩=some (.slice none 0 0):=hR5.cell 1
   have r2:w5.cell? ⟨w.heap.size,2,none⟩=some (.slice none 0 0):=hR5.cell 2
   have r3:w5.cell? ⟨w.heap.size,3,none⟩=some (.slice none 0 0):=hR5.cell 3
   have f0:=hR5.free 0
   have f1:=hR5.free 1
   have f2:=hR5.free 2
   have f3:=hR5.free 3
   cases r
   ·have hZ:Hid (Yf0 k L=(Yl,14)):=hid (if_neg (by rw[HSC.out];intro h;cases hr.out.2 h))
    have hRR:=hid (hR5.Zp (.int .i64 0) (.slice none 0 0) (.slice none 0 0) (.slice none 0 0))
    have hRB:=hid (Yq hbe5 (ae _) (.int .i64 0) (.slice none 0 0) (.slice none 0 0) (.slice none 0 0))
    clear hO5 hO6;go_wp2_with fail;refine bodyPost_ret (Ye rfl _ _ w.heap.size _ _ rfl hRR.out af rfl Yz) rfl ?_;rw[hZ.out];exact⟨⟨_,_,_,rfl,Xq _ _⟩,hRB.out⟩
   ·have hZ:Hid (Yf0 k L=((Q,Ss,Ms,Xs),0)):=hid (by
     unfold Yf0;rw[HSC.out,if_pos (hr.out.1 rfl)])
    have hRR:=hid (hR5.Zp (.int .i64 Q) (.slice (some ⟨e1,0,none⟩) k k) (.slice (some ⟨e2,0,none⟩) k k) (.slice (some ⟨e3,0,none⟩) k k))
    have hRB:=hid (Yq hbe5 (ae _) (.int .i64 Q) (.slice (some ⟨e1,0,none⟩) k k) (.slice (some ⟨e2,0,none⟩) k k) (.slice (some ⟨e3,0,none⟩) k k))
    have hRO:=hid ((hO6.Zp hrs (.int .i64 Q) (.slice (some ⟨e1,0,none⟩) k k) (.slice (some ⟨e2,0,none⟩) k k) (.slice (some ⟨e3,0,none⟩) k k)).low (au hrs))
    clear hO5 hO6;go_wp2_with fail;refine bodyPost_ret (Ye rfl _ _ w.heap.size _ _ rfl hRR.out af rfl Yz) rfl ?_;rw[hZ.out];exact⟨⟨_,_,_,rfl,hRO.out⟩,hRB.out⟩
end
def Ywv(w:World)(m:Nat)(e:Ending)(w':World):Prop:=
 (∃v1 v2 v3,e=.returned (.agg #[.int .i64 0,v1,v2,v3])/\X7 w' w.heap.size v1 v2 v3 (ao m 0) (ao m 0) (ao m 0)∧
  (∀g,v1.ownBlock=some g->v2.ownBlock≠some g)/\(∀g,v1.ownBlock=some g->v3.ownBlock≠some g)/\(∀g,v2.ownBlock=some g->v3.ownBlock≠some g))/\Below w.heap.size w w'
theorem Ync(k:Nat):ao k (0:Int)++[0]=ao (k+1) 0:=by rw[List.replicate_succ']
theorem K3(x:Int)(w:World){m:Nat}(hm:m=(min (max x 0) 2).toNat):
  Calls an 117 #[.int .i64 x] w (Ywv w m):=by
 have HM:=hid hm
 have hm2:m<=2:=by omega
 clear hm;go_enter Tryz.func117,Tryz.ntmps117;go_wp2_with fail
 have hR:=(Block.new w 71 #[.int .i64 0,.slice none 0 0,.slice none 0 0,.slice none 0 0]).alloc (.cells #[.int .i64 0,.slice none 0 0,.slice none 0 0,.slice none 0 0] 71)
 have hA:=Acc.new (w0:=w) (Block.new (w.alloc (.cells #[.int .i64 0,.slice none 0 0,.slice none 0 0,.slice none 0 0] 71)) 71 #[.int .i64 0,.slice none 0 0,.slice none 0 0,.slice none 0 0]) (Wz w _ _) (by simp)
 rw[az]at hA;generalize (w.alloc (.cells #[.int .i64 0,.slice none 0 0,.slice none 0 0,.slice none 0 0] 71)).alloc (.cells #[.int .i64 0,.slice none 0 0,.slice none 0 0,.slice none 0 0] 71)=W at hR hA⊢
 have hrs:¬w.heap.size+1=w.heap.size:=by omega
 generalize w.heap.size+1=s at hA hrs⊢;go_loopw [4] (λi wr=>∃(k:Nat) (v1 v2 v3:Value),k<=m/\i=.int .i64 k/\Block wr w.heap.size 71 #[.int .i64 0,.slice none 0 0,.slice none 0 0,.slice none 0 0]/\Acc w wr s 0 v1 v2 v3 (ao k 0) (ao k 0) (ao k 0)) (λi _=>m-(intOf i).toNat)
 case atStart=>exact⟨0,_,_,_,ar _,rfl,hR,hA⟩
 case round=>
  obtain⟨k,v1,v2,v3,hk,rfl,hR,hA⟩:=hrel;obtain⟨A1,n1,c1,rfl,_⟩:=hA.r1.Yr;obtain⟨A2,n2,c2,rfl,_⟩:=hA.r2.Yr;obtain⟨A3,n3,c3,rfl,_⟩:=hA.r3.Yr
  by_cases hlt:k<m
  ·have hx:(k:Int)<x:=by have:=HM.out;omega
   have h2:(k:Int)<2:=by omega
   have g1:wr.cell? ⟨s,1,none⟩=some (.slice A1 n1 c1):=hA.blk.cell 1
   have hT:71≠3:=by decide
   go_wp2_with (at_builtin;refine Yo rfl _ _ rfl w.heap.size _ _ rfl (hA.alloc _).r1 _ rfl 0 (Y6 _ _ _ _ (by simp)) (by simp;omega) (hA.alloc _).bel.size ?_)
   intro u1 w1 hO1 hG1;obtain⟨B1,l1,d1,rfl,_⟩:=hO1.Yr
   have hR1:=((hR.alloc _).app hT (hA.alloc _).r1 hG1).Zg s 1 (.slice B1 l1 d1) hrs
   obtain⟨hB1,hA1⟩:=(hA.alloc _).Yof hO1 hG1
   have p0:=hB1.cell 1
   have p1:=hB1.free 1
   have p2:(w1.setCell ⟨s,1,none⟩ (.slice B1 l1 d1)).cell? ⟨s,2,none⟩=some (.slice A2 n2 c2):=hA1.blk.cell 2
   clear hA hR g1 hO1 hG1 hB1;go_wp2_with (at_builtin;refine Yo rfl _ _ rfl w.heap.size _ _ rfl (hA1.alloc _).r2 _ rfl 0 (Y6 _ _ _ _ (by simp)) (by simp;omega) (hA1.alloc _).bel.size ?_)
   intro u2 w2 hO2 hG2;obtain⟨B2,l2,d2,rfl,_⟩:=hO2.Yr
   have hR2:=((hR1.alloc _).app hT (hA1.alloc _).r2 hG2).Zg s 2 (.slice B2 l2 d2) hrs
   obtain⟨hB2,hA2⟩:=(hA1.alloc _).Ymg hO2 hG2
   have q0:=hB2.cell 2
   have q1:=hB2.free 2
   have q2:(w2.setCell ⟨s,2,none⟩ (.slice B2 l2 d2)).cell? ⟨s,3,none⟩=some (.slice A3 n3 c3):=hA2.blk.cell 3
   clear hA1 hR1 p0 p1 p2 hO2 hG2 hB2;go_wp2_with (at_builtin;refine Yo rfl _ _ rfl w.heap.size _ _ rfl (hA2.alloc _).r3 _ rfl 0 (Y6 _ _ _ _ (by simp)) (by simp;omega) (hA2.alloc _).bel.size ?_)
   intro u3 w3 hO3 hG3;obtain⟨B3,l3,d3,rfl,_⟩:=hO3.Yr
   have hR3:=hid (((hR2.alloc _).app hT (hA2.alloc _).r3 hG3).Zg s 3 (.slice B3 l3 d3) hrs)
   obtain⟨hB3,hA3⟩:=(hA2.alloc _).Ym2 hO3 hG3
   have t0:=hB3.cell 3
   have t1:=hB3.free 3
   rw[Ync]at hA3
   have hA4:=hid hA3
   clear hA2 hR2 q0 q1 q2 hO3 hG3 hB3 hA3;go_wp2_with fail;go_roundw
   case rel=>exact⟨k+1,_,_,_,by omega,by go_num,hR3.out,hA4.out⟩
   case measure=>simp[intOf];omega
  ·obtain rfl:k=m:=by omega
   have r0:wr.cell? ⟨w.heap.size,0,none⟩=some (.int .i64 0):=hR.cell 0
   have r1:wr.cell? ⟨w.heap.size,1,none⟩=some (.slice none 0 0):=hR.cell 1
   have r2:wr.cell? ⟨w.heap.size,2,none⟩=some (.slice none 0 0):=hR.cell 2
   have r3:wr.cell? ⟨w.heap.size,3,none⟩=some (.slice none 0 0):=hR.cell 3
   have f0:=hR.free 0
   have f1:=hR.free 1
   have f2:=hR.free 2
   have f3:=hR.free 3
   have s0:wr.cell? ⟨s,0,none⟩=some (.int .i64 0):=hA.blk.cell 0
   have s1:wr.cell? ⟨s,1,none⟩=some (.slice A1 n1 c1):=hA.blk.cell 1
   have s2:wr.cell? ⟨s,2,none⟩=some (.slice A2 n2 c2):=hA.blk.cell 2
   have s3:wr.cell? ⟨s,3,none⟩=some (.slice A3 n3 c3):=hA.blk.cell 3
   have hT:71≠3:=by decide
   have hRR:=hid (hR.Zp (.int .i64 0) (.slice A1 n1 c1) (.slice A2 n2 c2) (.slice A3 n3 c3))
   have hRB:=hid (Yq hA.bel (ae _) (.int .i64 0) (.slice A1 n1 c1) (.slice A2 n2 c2) (.slice A3 n3 c3))
   have key:∀{v:Value}{l:List Int}{w':World},Yi w' w.heap.size v l->v.ownBlock≠some w.heap.size->∀(j:Nat) (u:Value),Yi (w'.setCell ⟨w.heap.size,j,none⟩ u) w.heap.size v l:=λh hn j u=>h.other hn u
   have n1':=hA.r1.Wt hR hT
   have n2':=hA.r2.Wt hR hT
   have n3':=hA.r3.Wt hR hT
   have hRO:Hid (X7 (Sr wr w.heap.size (.int .i64 0) (.slice A1 n1 c1) (.slice A2 n2 c2) (.slice A3 n3 c3)) w.heap.size (.slice A1 n1 c1) (.slice A2 n2 c2) (.slice A3 n3 c3) (ao k 0) (ao k 0) (ao k 0)):=
    hid ⟨key (key (key (key hA.r1 n1' 0 _) n1' 1 _) n1' 2 _) n1' 3 _,key (key (key (key hA.r2 n2' 0 _) n2' 1 _) n2' 2 _) n2' 3 _,key (key (key (key hA.r3 n3' 0 _) n3' 1 _) n3' 2 _) n3' 3 _⟩
   have hD:=hid (bp hA.d12 (bp hA.d13 hA.d23))
   clear hA hR key n1' n2' n3'
   by_cases hx:(k:Int)<x
   ·have h2:¬(k:Int)<2:=by have:=HM.out;omega
    go_wp2_with fail;refine bodyPost_ret (Zi rfl _ _ w.heap.size _ _ rfl hRR.out af rfl Yz) rfl ?_;exact⟨⟨_,_,_,rfl,hRO.out,hD.out⟩,hRB.out⟩
   ·go_wp2_with fail
    refine bodyPost_ret (Zi rfl _ _ w.heap.size _ _ rfl hRR.out af rfl Yz) rfl ?_;exact⟨⟨_,_,_,rfl,hRO.out,hD.out⟩,hRB.out⟩
theorem N6{n:Int}(h:Wi w w.heap.size A1 n1 c1 A2 n2 c2 A3 n3 c3 S M X){r:Bool}(hr:r=true↔Zo (n,S,M,X)):
  Calls an 138 #[S6 n A1 n1 c1 A2 n2 c2 A3 n3 c3] w λe w'=>e=.returned (.bool r)/\Below w.heap.size w w':=by
 have l1:=h.s.len
 have l2:=h.m.len
 have l3:=h.x.len
 have m1:=h.s.Ym
 have m2:=h.m.Ym
 have m3:=h.x.Ym
 have R:Hid (r=true↔S.length<=2/\M.length=S.length/\X.length=S.length/\((n,S,M,X)=Y0 S.length∨M7 (n,S,M,X))):=hid hr
 have LL:=hid (bp l1 (bp l2 l3))
 have hbx:=hid (Yb w (.cells #[.int .i64 n,.slice A1 n1 c1,.slice A2 n2 c2,.slice A3 n3 c3] 71))
 clear hr
 by_cases h1:n1<=2
 ·by_cases h2:n2=n1
  ·by_cases h3:n3=n1
   ·subst h2 h3
    clear l1 l2 l3;obtain⟨re,hre⟩: ∃re:Bool,Hid (re=true↔(n,S,M,X)=Y0 n3):=⟨decide ((n,S,M,X)=Y0 n3),hid (by simp)⟩
    have R2:Hid (r=true↔re=true∨M7 (n,S,M,X)):=hid (by
     rw[R.out,LL.out.1,hre.out,LL.out.2.1,LL.out.2.2];exact⟨λh=>h.2.2.2,λh=>⟨h1,rfl,rfl,h⟩⟩)
    clear R
    have k2:((n3:Int) != (n3:Int))=false:=by simp
    go_enter cj,bz;go_wp2_with fail
    have hB:=Block.new w 71 #[.int .i64 n,.slice A1 n3 c1,.slice A2 n3 c2,.slice A3 n3 c3]
    have hC:=h.Rz (.cells #[.int .i64 n,.slice A1 n3 c1,.slice A2 n3 c2,.slice A3 n3 c3] 71)
    generalize w.alloc (.cells #[.int .i64 n,.slice A1 n3 c1,.slice A2 n3 c2,.slice A3 n3 c3] 71)=w1 at hbx hB hC⊢
    have g0:w1.cell? ⟨w.heap.size,0,none⟩=some (.int .i64 n):=hB.cell 0
    have g1:w1.cell? ⟨w.heap.size,1,none⟩=some (.slice A1 n3 c1):=hB.cell 1
    have g2:w1.cell? ⟨w.heap.size,2,none⟩=some (.slice A2 n3 c2):=hB.cell 2
    have g3:w1.cell? ⟨w.heap.size,3,none⟩=some (.slice A3 n3 c3):=hB.cell 3
    clear h
    have HE:=hid (K3 (n3:Int) w1.drew (m:=n3) (by omega))
    have K:Hid (∀y,Below w1.heap.size w1 y->y.cell? ⟨w.heap.size,0,none⟩=some (.int .i64 n)/\y.cell? ⟨w.heap.size,1,none⟩=some (.slice A1 n3 c1)/\y.cell? ⟨w.heap.size,2,none⟩=some (.slice A2 n3 c2)/\y.cell? ⟨w.heap.size,3,none⟩=some (.slice A3 n3 c3)):=
     hid λy hy=>⟨(hB.below hy hB.lt).cell 0,(hB.below hy hB.lt).cell 1,(hB.below hy hB.lt).cell 2,(hB.below hy hB.lt).cell 3⟩
    go_region_held3 (λw'=>w'.cell? ⟨w.heap.size,0,none⟩=some (.int .i64 n)/\w'.cell? ⟨w.heap.size,1,none⟩=some (.slice A1 n3 c1)/\w'.cell? ⟨w.heap.size,2,none⟩=some (.slice A2 n3 c2)/\w'.cell? ⟨w.heap.size,3,none⟩=some (.slice A3 n3 c3))
     (first
      |exact K.out _ hd2
      |exact K.out _ hd1
      |exact K.out _ (Below.drew (Below.refl _ _)))
     (first
      |(go_at_call 117;refine HE.out.mono ?_;rintro e y1 ⟨⟨v1,v2,v3,rfl,ho,_⟩,hb1⟩;obtain⟨B1,m1,d1,B2,m2,d2,B3,m3,d3,rfl,rfl,rfl,hF⟩:=ho.form;have hd1:=(show Below w1.heap.size w1 w1.drew from Below.drew (Below.refl _ _)).trans hb1)
      |(go_at_call 36;refine(F4 (hC.Yc hd1) hF (r:=re) hre.out).mono ?_;rintro e y2 ⟨rfl,hb2⟩;have hd2:=Ya hd1 hb2))
    have hbz:=hbx.out.trans (hd2.mono hbx.out.size)
    have hBz:=hB.below hd2 hB.lt
    have hCz:=hC.Yc hd2
    clear hd1 hd2 hb1 hb2 K HE hB hC hF ho g0 g1 g2 g3
    have g0:y2.cell? ⟨w.heap.size,0,none⟩=some (.int .i64 n):=hBz.cell 0
    have g1:y2.cell? ⟨w.heap.size,1,none⟩=some (.slice A1 n3 c1):=hBz.cell 1
    have g2:y2.cell? ⟨w.heap.size,2,none⟩=some (.slice A2 n3 c2):=hBz.cell 2
    have g3:y2.cell? ⟨w.heap.size,3,none⟩=some (.slice A3 n3 c3):=hBz.cell 3
    clear hBz hbx
    have HB:=hid hbz
    clear hbz
    -- GEN
    cases re
    ·by_cases c1:n<1
     ·have Z:Hid (r=false):=hid (by
       rw[aj];intro h
       rcases R2.out.1 h with h1|h1
       ·cases h1
       ·have h2:1<=n:=h1.1
        omega)
      go_wp2_with fail;go_ret;exact⟨Yd Z.out.symm,HB.out⟩
     ·by_cases c2:1099511627776<n
      ·have Z:Hid (r=false):=hid (by
        rw[aj];intro h
        rcases R2.out.1 h with h1|h1
        ·cases h1
        ·have h2:n<=1099511627776:=h1.2.1
         omega)
       go_wp2_with fail;go_ret;exact⟨Yd Z.out.symm,HB.out⟩
      ·go_wp2_with fail
       go_loopw [5] (λi wr=>∃k q:Nat,k<=n3/\i=.int .i64 k/\wr=y2.drewN q/\Hid (∀j,j<k->S8 n (S.getD j 0) (M.getD j 0) (X.getD j 0))) (λi _=>n3-(intOf i).toNat)
       case atStart=>exact⟨0,0,ar _,rfl,rfl,hid λj hj=>absurd hj (by omega)⟩
       case round=>
        obtain⟨k,q,hk,rfl,rfl,hJ⟩:=hrel
        by_cases hlt:k<n3
        ·obtain⟨b1,o1,s,rfl,_,cs,es⟩:=hCz.s.at_ hlt
         obtain⟨b2,o2,lo,rfl,_,cm,em⟩:=hCz.m.at_ hlt;obtain⟨b3,o3,hi,rfl,_,cx,ex⟩:=hCz.x.at_ hlt
         have i0:(0:Int)<=(k:Int):=by omega
         have i1:(k:Int)<(n3:Int):=by omega
         obtain⟨b2,hb2⟩: ∃b,inB lo 2305843009213693952=b:=⟨_,rfl⟩;obtain⟨b3,hb3⟩: ∃b,inB hi 2305843009213693952=b:=⟨_,rfl⟩;obtain⟨b4,hb4⟩: ∃b,inB s 4611686018427387904=b:=⟨_,rfl⟩
         have K2:Hid ((b2=true↔inV lo)/\(b3=true↔inV hi)/\(b4=true↔inS s)):=hid ⟨by rw[<-hb2,Yck];simp,by rw[<-hb3,Yck];simp,by rw[<-hb4,Yr5];simp⟩
         have I2:Hid (∀w,Calls an 195 #[.int .i64 lo,.int .i64 2305843009213693952] w λe w'=>e=.returned (.bool b2)/\w=w'):=hid λw=>by have:=Pd lo 2305843009213693952 w (by decide) (by decide);rwa [hb2]at this
         have I3:Hid (∀w,Calls an 195 #[.int .i64 hi,.int .i64 2305843009213693952] w λe w'=>e=.returned (.bool b3)/\w=w'):=hid λw=>by have:=Pd hi 2305843009213693952 w (by decide) (by decide);rwa [hb3]at this
         have I4:Hid (∀w,Calls an 195 #[.int .i64 s,.int .i64 4611686018427387904] w λe w'=>e=.returned (.bool b4)/\w=w'):=hid λw=>by have:=Pd s 4611686018427387904 w (by decide) (by decide);rwa [hb4]at this
         clear hb2 hb3 hb4
         by_cases e2:lo<=hi
         ·have hd:decide (hi<lo)=false:=by simpa using e2
          cases b2
          ·have Z:Hid (r=false):=hid (by
            rw[aj];intro h
            rcases R2.out.1 h with h1|h1
            ·cases h1
            ·have h2:=h1.2.2 k (by rw[LL.out.1];exact hlt)
             have h2:S8 n (S.getD k 0) (M.getD k 0) (X.getD k 0):=h2
             rw[<-es.out,<-em.out,<-ex.out]at h2
             have h3:=K2.out
             revert h2
             unfold S8;exact λh=>by cases h3.1.2 h.2.1)
           go_wp2_with fail;go_big_quiet ((first|(go_at_call 195;with_reducible exact X0 I2.out _)|(go_at_call 195;with_reducible exact X0 I3.out _)|(go_at_call 195;with_reducible exact X0 I4.out _)))
           go_wp2_with fail;go_ret;exact⟨Yd Z.out.symm,below_drewN (below_drewN HB.out _) _⟩
          ·cases b3
           ·have Z:Hid (r=false):=hid (by
             rw[aj];intro h
             rcases R2.out.1 h with h1|h1
             ·cases h1
             ·have h2:=h1.2.2 k (by rw[LL.out.1];exact hlt)
              have h2:S8 n (S.getD k 0) (M.getD k 0) (X.getD k 0):=h2
              rw[<-es.out,<-em.out,<-ex.out]at h2
              have h3:=K2.out
              revert h2
              unfold S8;exact λh=>by cases h3.2.1.2 h.2.2.1)
            go_wp2_with fail;go_big_quiet ((first|(go_at_call 195;with_reducible exact X0 I2.out _)|(go_at_call 195;with_reducible exact X0 I3.out _)|(go_at_call 195;with_reducible exact X0 I4.out _)))
            go_wp2_with fail;go_ret;exact⟨Yd Z.out.symm,below_drewN (below_drewN HB.out _) _⟩
           ·cases b4
            ·have Z:Hid (r=false):=hid (by
              rw[aj];intro h
              rcases R2.out.1 h with h1|h1
              ·cases h1
              ·have h2:=h1.2.2 k (by rw[LL.out.1];exact hlt)
               have h2:S8 n (S.getD k 0) (M.getD k 0) (X.getD k 0):=h2
               rw[<-es.out,<-em.out,<-ex.out]at h2
               have h3:=K2.out
               revert h2
               unfold S8;exact λh=>by cases h3.2.2.2 h.2.2.2.1)
             go_wp2_with fail;go_big_quiet ((first|(go_at_call 195;with_reducible exact X0 I2.out _)|(go_at_call 195;with_reducible exact X0 I3.out _)|(go_at_call 195;with_reducible exact X0 I4.out _)))
             go_wp2_with fail;go_ret;exact⟨Yd Z.out.symm,below_drewN (below_drewN HB.out _) _⟩
            ·by_cases e5:n=1
             ·have k5:((n:Int)==1)=true:=by simpa using e5
              by_cases e6:s=lo
              ·have k6:((s:Int) != lo)=false:=by simpa using e6
               by_cases e7:s=hi
               ·have k7:((s:Int) != hi)=false:=by simpa using e7
                have hJ2:Hid (∀j,j<k+1->S8 n (S.getD j 0) (M.getD j 0) (X.getD j 0)):=hid λj hj=>by
                 by_cases h:j<k
                 ·exact hJ.out j h
                 ·obtain rfl:j=k:=by omega
                  rw[<-es.out,<-em.out,<-ex.out];obtain⟨a2,a3,a4⟩:=K2.out;exact⟨e2,a2.1 rfl,a3.1 rfl,a4.1 rfl,λ_=>⟨e6,e7⟩⟩
                clear e5 e6 e7;go_wp2_with fail;go_big_quiet ((first|(go_at_call 195;with_reducible exact X0 I2.out _)|(go_at_call 195;with_reducible exact X0 I3.out _)|(go_at_call 195;with_reducible exact X0 I4.out _)))
                go_wp2_with fail;go_big_quiet (fail);go_wp2_with fail;go_roundw
                case rel=>exact⟨k+1,_,by omega,by go_num,by first|rfl|simp only[dp],hJ2⟩
                case measure=>simp[intOf];omega
               ·have k7:((s:Int) != hi)=true:=by simpa using e7
                have Z:Hid (r=false):=hid (by
                 rw[aj];intro h
                 rcases R2.out.1 h with h1|h1
                 ·cases h1
                 ·have h2:=h1.2.2 k (by rw[LL.out.1];exact hlt)
                  have h2:S8 n (S.getD k 0) (M.getD k 0) (X.getD k 0):=h2
                  rw[<-es.out,<-em.out,<-ex.out]at h2
                  have h3:=K2.out
                  revert h2
                  unfold S8;exact λh=>e7 (h.2.2.2.2 e5).2)
                clear e5 e6 e7;go_wp2_with fail;go_big_quiet ((first|(go_at_call 195;with_reducible exact X0 I2.out _)|(go_at_call 195;with_reducible exact X0 I3.out _)|(go_at_call 195;with_reducible exact X0 I4.out _)))
                go_wp2_with fail;go_big_quiet (fail);go_wp2_with fail;go_ret;exact⟨Yd Z.out.symm,below_drewN (below_drewN (below_drewN HB.out _) _) _⟩
              ·have k6:((s:Int) != lo)=true:=by simpa using e6
               have Z:Hid (r=false):=hid (by
                rw[aj];intro h
                rcases R2.out.1 h with h1|h1
                ·cases h1
                ·have h2:=h1.2.2 k (by rw[LL.out.1];exact hlt)
                 have h2:S8 n (S.getD k 0) (M.getD k 0) (X.getD k 0):=h2
                 rw[<-es.out,<-em.out,<-ex.out]at h2
                 have h3:=K2.out
                 revert h2
                 unfold S8;exact λh=>e6 (h.2.2.2.2 e5).1)
               clear e5 e6;go_wp2_with fail;go_big_quiet ((first|(go_at_call 195;with_reducible exact X0 I2.out _)|(go_at_call 195;with_reducible exact X0 I3.out _)|(go_at_call 195;with_reducible exact X0 I4.out _)))
               go_wp2_with fail;go_big_quiet (fail);go_wp2_with fail;go_ret;exact⟨Yd Z.out.symm,below_drewN (below_drewN (below_drewN HB.out _) _) _⟩
             ·have k5:((n:Int)==1)=false:=by simpa using e5
              have hJ2:Hid (∀j,j<k+1->S8 n (S.getD j 0) (M.getD j 0) (X.getD j 0)):=hid λj hj=>by
               by_cases h:j<k
               ·exact hJ.out j h
               ·obtain rfl:j=k:=by omega
                rw[<-es.out,<-em.out,<-ex.out];obtain⟨a2,a3,a4⟩:=K2.out;exact⟨e2,a2.1 rfl,a3.1 rfl,a4.1 rfl,λh=>absurd h e5⟩
              clear e5;go_wp2_with fail;go_big_quiet ((first|(go_at_call 195;with_reducible exact X0 I2.out _)|(go_at_call 195;with_reducible exact X0 I3.out _)|(go_at_call 195;with_reducible exact X0 I4.out _)))
              go_wp2_with fail;go_big_quiet (fail);go_wp2_with fail;go_roundw
              case rel=>exact⟨k+1,_,by omega,by go_num,by first|rfl|simp only[dp],hJ2⟩
              case measure=>simp[intOf];omega
         ·have Z:Hid (r=false):=hid (by
           rw[aj];intro h
           rcases R2.out.1 h with h1|h1
           ·cases h1
           ·have h2:=h1.2.2 k (by rw[LL.out.1];exact hlt)
            have h2:S8 n (S.getD k 0) (M.getD k 0) (X.getD k 0):=h2
            rw[<-es.out,<-em.out,<-ex.out]at h2
            have h3:=K2.out
            revert h2
            unfold S8;exact λh=>e2 h.1)
          have hd:decide (hi<lo)=true:=by simpa using e2
          go_wp2_with fail;go_big_quiet ((first|(go_at_call 195;with_reducible exact X0 I2.out _)|(go_at_call 195;with_reducible exact X0 I3.out _)|(go_at_call 195;with_reducible exact X0 I4.out _)))
          go_wp2_with fail;go_ret;exact⟨Yd Z.out.symm,below_drewN (below_drewN HB.out _) _⟩
        ·obtain rfl:k=n3:=by omega
         have Z:Hid (r=true):=hid (R2.out.2 (.inr ⟨by show 1<=n;omega,by show n<=_;omega,λi hi=>hJ.out i (by have h5:i<S.length:=hi;rw[LL.out.1]at h5;exact h5)⟩))
         go_wp2_with fail;go_ret;exact⟨Yd Z.out.symm,below_drewN HB.out _⟩
    ·have Z:Hid (r=true):=hid (R2.out.2 (.inl rfl))
     go_wp2_with fail;go_ret;exact⟨Yd Z.out.symm,HB.out⟩
   ·have Z:Hid (r=false):=hid (by rw[aj];intro h;have:=(R.out.1 h).2.2.1;have:=LL.out;omega)
    have e3:((n3:Int) != (n1:Int))=true:=by simp;omega
    subst h2
    have k2:((n2:Int) != (n2:Int))=false:=by simp
    clear l1 l2 l3 h3;go_enter cj,bz;go_wp2_with fail;go_ret;exact⟨Yd Z.out.symm,hbx.out⟩
  ·have Z:Hid (r=false):=hid (by rw[aj];intro h;have:=(R.out.1 h).2.1;have:=LL.out;omega)
   have e3:((n2:Int) != (n1:Int))=true:=by simp;omega
   clear l1 l2 l3 h2;go_enter cj,bz;go_wp2_with fail;go_ret;exact⟨Yd Z.out.symm,hbx.out⟩
 ·have Z:Hid (r=false):=hid (by rw[aj];intro h;have:=(R.out.1 h).1;have:=LL.out;omega)
  have e3:(2:Int)<(n1:Int):=by omega
  clear l1 l2 l3 h1;go_enter cj,bz;go_wp2_with fail;go_ret;exact⟨Yd Z.out.symm,hbx.out⟩
section
theorem Zt{l:List Int}{k:Nat}(h:k<l.length){y:Int}(hy:l.getD k 0=y):l.take k++[y]=l.take (k+1):=by
 rw[cn,<-hy,aa,ag h];rfl
theorem Cu{q:Int}{S M X:List Int}(h:Zo (q,S,M,X)):S.length<=2/\M.length=S.length/\X.length=S.length/\0<=q/\q<=1099511627776:=by
 obtain⟨h1,h2,h3,h4,h5,_⟩:=(Sg q S M X).1 h;exact⟨h1,h2,h3,h4,h5⟩
def Yu9(w:World)(q q':Int)(r:PC×Int)(e:Ending)(w':World):Prop:=Ylq w r e w'∧(q≠0/\q'≠0->Qw w r e w')
theorem Tz{w w':World}{r:PC×Int}{e:Ending}{q q':Int}(h:Qw w r e w'):Yu9 w q q' r e w':=⟨h.toH,λ_=>h⟩
theorem Ydu{q q':Int}{A1 A2 A3 B1 B2 B3:Option Addr}{n1 c1 n2 c2 n3 c3 m1 d1 m2 d2 m3 d3:Nat}{S M X S' M' X':List Int}{w:World}
  (ha0:Wi w w.heap.size A1 n1 c1 A2 n2 c2 A3 n3 c3 S M X) (hb0:Wi w w.heap.size B1 m1 d1 B2 m2 d2 B3 m3 d3 S' M' X'):
  Calls an 212 #[S6 q A1 n1 c1 A2 n2 c2 A3 n3 c3,S6 q' B1 m1 d1 B2 m2 d2 B3 m3 d3] w (Yu9 w q q' (Zs (q,S,M,X) (q',S',M',X'))):=by
 have lA:=hid (bp ha0.s.len (bp ha0.m.len ha0.x.len))
 have lB:=hid (bp hb0.s.len (bp hb0.m.len hb0.x.len))
 have z1:=ha0.s.Ym
 have z2:=hb0.s.Ym
 have hbe:=Jc w (.cells #[.int .i64 q,.slice A1 n1 c1,.slice A2 n2 c2,.slice A3 n3 c3] 71) (.cells #[.int .i64 q',.slice B1 m1 d1,.slice B2 m2 d2,.slice B3 m3 d3] 71) (.cells #[.int .i64 0,.slice none 0 0,.slice none 0 0,.slice none 0 0] 71)
 have hL:=((Block.new w 71 #[.int .i64 q,.slice A1 n1 c1,.slice A2 n2 c2,.slice A3 n3 c3]).alloc (.cells #[.int .i64 q',.slice B1 m1 d1,.slice B2 m2 d2,.slice B3 m3 d3] 71)).alloc (.cells #[.int .i64 0,.slice none 0 0,.slice none 0 0,.slice none 0 0] 71)
 have hK:=(Block.new (w.alloc (.cells #[.int .i64 q,.slice A1 n1 c1,.slice A2 n2 c2,.slice A3 n3 c3] 71)) 71 #[.int .i64 q',.slice B1 m1 d1,.slice B2 m2 d2,.slice B3 m3 d3]).alloc (.cells #[.int .i64 0,.slice none 0 0,.slice none 0 0,.slice none 0 0] 71)
 have hR:=Block.new ((w.alloc (.cells #[.int .i64 q,.slice A1 n1 c1,.slice A2 n2 c2,.slice A3 n3 c3] 71)).alloc (.cells #[.int .i64 q',.slice B1 m1 d1,.slice B2 m2 d2,.slice B3 m3 d3] 71)) 71 #[.int .i64 0,.slice none 0 0,.slice none 0 0,.slice none 0 0]
 simp only[az]at hK hR
 have ha:=ha0.Yc hbe
 have hb:=hb0.Yc hbe
 obtain⟨r,hr⟩: ∃r:Bool,Hid (r=true↔Zo (q,S,M,X)):=⟨decide (Zo (q,S,M,X)),hid (by simp)⟩
 obtain⟨r',hr'⟩: ∃r:Bool,Hid (r=true↔Zo (q',S',M',X')):=⟨decide (Zo (q',S',M',X')),hid (by simp)⟩
 go_enter Tryz.func212,Tryz.ntmps212;go_wp2_with fail;generalize ((w.alloc (.cells #[.int .i64 q,.slice A1 n1 c1,.slice A2 n2 c2,.slice A3 n3 c3] 71)).alloc (.cells #[.int .i64 q',.slice B1 m1 d1,.slice B2 m2 d2,.slice B3 m3 d3] 71)).alloc (.cells #[.int .i64 0,.slice none 0 0,.slice none 0 0,.slice none 0 0] 71)=w1 at hbe hL hK hR ha hb⊢
 have hp3:w.heap.size<=w.heap.size+1+1:=by omega
 obtain⟨p2,hp2⟩: ∃p,Hid (w.heap.size+1=p):=⟨_,hid rfl⟩;obtain⟨p3,hpp3⟩: ∃p,Hid (w.heap.size+1+1=p):=⟨_,hid rfl⟩;rw[hpp3.out]at hR hp3⊢;rw[hp2.out]at hK⊢;refine(N6 (n:=q) ha (r:=r) hr.out).mono ?_;rintro e w2 ⟨rfl,hb1⟩
 have hL:=hL.below hb1 hL.lt
 have hK:=hK.below hb1 hK.lt
 have hR:=hR.below hb1 hR.lt
 have ha:=ha.Yc hb1
 have hb:=hb.Yc hb1
 have hbe:=Ya hbe hb1
 clear hb1
 have a0:w2.cell? ⟨w.heap.size,0,none⟩=some (.int .i64 q):=hL.cell 0
 have a1:w2.cell? ⟨w.heap.size,1,none⟩=some (.slice A1 n1 c1):=hL.cell 1
 have a2:w2.cell? ⟨w.heap.size,2,none⟩=some (.slice A2 n2 c2):=hL.cell 2
 have a3:w2.cell? ⟨w.heap.size,3,none⟩=some (.slice A3 n3 c3):=hL.cell 3
 have k0:w2.cell? ⟨p2,0,none⟩=some (.int .i64 q'):=hK.cell 0
 have k1:w2.cell? ⟨p2,1,none⟩=some (.slice B1 m1 d1):=hK.cell 1
 have k2:w2.cell? ⟨p2,2,none⟩=some (.slice B2 m2 d2):=hK.cell 2
 have k3:w2.cell? ⟨p2,3,none⟩=some (.slice B3 m3 d3):=hK.cell 3
 go_wp2_with fail;refine(N6 (n:=q') hb (r:=r') hr'.out).mono ?_;rintro e w3 ⟨rfl,hb1⟩
 have hL:=hL.below hb1 hL.lt
 have hK:=hK.below hb1 hK.lt
 have hR:=hR.below hb1 hR.lt
 have ha:=ha.Yc hb1
 have hb:=hb.Yc hb1
 have hbe:=Ya hbe hb1
 clear hb1 a0 a1 a2 a3 k0 k1 k2 k3
 have a0:w3.cell? ⟨w.heap.size,0,none⟩=some (.int .i64 q):=hL.cell 0
 have a1:w3.cell? ⟨w.heap.size,1,none⟩=some (.slice A1 n1 c1):=hL.cell 1
 have a2:w3.cell? ⟨w.heap.size,2,none⟩=some (.slice A2 n2 c2):=hL.cell 2
 have a3:w3.cell? ⟨w.heap.size,3,none⟩=some (.slice A3 n3 c3):=hL.cell 3
 have k0:w3.cell? ⟨p2,0,none⟩=some (.int .i64 q'):=hK.cell 0
 have k1:w3.cell? ⟨p2,1,none⟩=some (.slice B1 m1 d1):=hK.cell 1
 have k2:w3.cell? ⟨p2,2,none⟩=some (.slice B2 m2 d2):=hK.cell 2
 have k3:w3.cell? ⟨p2,3,none⟩=some (.slice B3 m3 d3):=hK.cell 3
 have r0:w3.cell? ⟨p3,0,none⟩=some (.int .i64 0):=hR.cell 0
 have r1:w3.cell? ⟨p3,1,none⟩=some (.slice none 0 0):=hR.cell 1
 have r2:w3.cell? ⟨p3,2,none⟩=some (.slice none 0 0):=hR.cell 2
 have r3:w3.cell? ⟨p3,3,none⟩=some (.slice none 0 0):=hR.cell 3
 have f0:=hR.free 0
 have f1:=hR.free 1
 have f2:=hR.free 2
 have f3:=hR.free 3
 cases r
 ·have hZ:Hid (Zs (q,S,M,X) (q',S',M',X')=(Yl,1)):=hid (if_pos (.inl λh=>by cases hr.out.2 h))
  have hRR:=hid (hR.Zp (.int .i64 0) (.slice none 0 0) (.slice none 0 0) (.slice none 0 0))
  have hRB:=hid (Yq hbe hp3 (.int .i64 0) (.slice none 0 0) (.slice none 0 0) (.slice none 0 0))
  go_wp2_with fail;refine bodyPost_ret (Ye rfl _ _ p3 _ _ rfl hRR.out af rfl Yz) rfl ?_;rw[hZ.out];exact Tz ⟨⟨_,_,_,rfl,Xq _ _⟩,hRB.out⟩
 ·cases r'
  ·have hZ:Hid (Zs (q,S,M,X) (q',S',M',X')=(Yl,1)):=hid (if_pos (.inr (.inl λh=>by cases hr'.out.2 h)))
   have hRR:=hid (hR.Zp (.int .i64 0) (.slice none 0 0) (.slice none 0 0) (.slice none 0 0))
   have hRB:=hid (Yq hbe hp3 (.int .i64 0) (.slice none 0 0) (.slice none 0 0) (.slice none 0 0))
   go_wp2_with fail;refine bodyPost_ret (Ye rfl _ _ p3 _ _ rfl hRR.out af rfl Yz) rfl ?_;rw[hZ.out];exact Tz ⟨⟨_,_,_,rfl,Xq _ _⟩,hRB.out⟩
  ·have mA:=Cu (hr.out.1 rfl)
   have mB:=Cu (hr'.out.1 rfl)
   have hm2:n1<=2:=by have:=lA.out.1;omega
   obtain⟨qa,qb⟩:(0<=q/\q<=1099511627776)/\(0<=q'∧q'<=1099511627776):=⟨mA.2.2.2,mB.2.2.2⟩
   have MA:=hid mA
   have MB:=hid mB
   clear mA mB
   by_cases hl:n1=m1
   ·have hll:Hid (S.length=S'.length):=hid (by have:=lA.out.1;have:=lB.out.1;omega)
    have hno:Hid (¬(¬Zo (q,S,M,X)∨¬Zo (q',S',M',X')∨(q,S,M,X).2.1.length≠(q',S',M',X').2.1.length)):=hid (by
     rintro(h|h|h)
     ·exact h (hr.out.1 rfl)
     ·exact h (hr'.out.1 rfl)
     ·exact h hll.out)
    have LE:Hid (n1=n2/\n1=n3/\m1=m2/\m1=m3):=hid (by have h:=MA.out;have h1:=lA.out;have h':=MB.out;have h1':=lB.out;omega)
    have lA:Hid (S.length=n1/\M.length=n1/\X.length=n1):=hid (by have h:=MA.out;have h1:=lA.out.1;omega)
    have lB:Hid (S'.length=m1/\M'.length=m1/\X'.length=m1):=hid (by have h:=MB.out;have h1:=lB.out.1;omega)
    have kk:((n1:Int) != (m1:Int))=false:=by simp;omega
    by_cases hq0:q=0
    ·have HQ:=hid hq0
     have hZ:Hid (Zs (q,S,M,X) (q',S',M',X')=((q',S',M',X'),0)):=hid (by
      unfold Zs;rw[if_neg hno.out,if_pos (show(q,S,M,X).1=0 from hq0)])
     have e0:((q:Int)==0)=true:=by simpa using hq0
     clear hl
     have hRR:=hid (hR.Zp (.int .i64 q') (.slice B1 m1 d1) (.slice B2 m2 d2) (.slice B3 m3 d3))
     have hRB:=hid (Yq hbe hp3 (.int .i64 q') (.slice B1 m1 d1) (.slice B2 m2 d2) (.slice B3 m3 d3))
     have hRO:=hid ((hb0.below hRB.out (ae _)).more hRB.out.size)
     go_wp2_with fail;refine bodyPost_ret (Ye rfl _ _ p3 _ _ rfl hRR.out af rfl Yz) rfl ?_;rw[hZ.out];exact⟨⟨⟨_,_,_,_,_,_,_,_,_,rfl,hRO.out⟩,hRB.out⟩,λh=>absurd HQ.out h.1⟩
    ·by_cases hq0':q'=0
     ·have HQ:=hid hq0'
      have hZ:Hid (Zs (q,S,M,X) (q',S',M',X')=((q,S,M,X),0)):=hid (by
       unfold Zs;rw[if_neg hno.out,if_neg (show ¬(q,S,M,X).1=0 from hq0),if_pos (show(q',S',M',X').1=0 from hq0')])
      have e0:((q:Int)==0)=false:=by simpa using hq0
      have e1:((q':Int)==0)=true:=by simpa using hq0'
      clear hl
      have hRR:=hid (hR.Zp (.int .i64 q) (.slice A1 n1 c1) (.slice A2 n2 c2) (.slice A3 n3 c3))
      have hRB:=hid (Yq hbe hp3 (.int .i64 q) (.slice A1 n1 c1) (.slice A2 n2 c2) (.slice A3 n3 c3))
      have hRO:=hid ((ha0.below hRB.out (ae _)).more hRB.out.size)
      go_wp2_with fail;refine bodyPost_ret (Ye rfl _ _ p3 _ _ rfl hRR.out af rfl Yz) rfl ?_;rw[hZ.out];exact⟨⟨⟨_,_,_,_,_,_,_,_,_,rfl,hRO.out⟩,hRB.out⟩,λh=>absurd HQ.out h.2⟩
     · -- both are full
      have hlen:n1=m1:=by have h:=lA.out;have h':=lB.out;have h2:=hll.out;omega
      have hn2:n1<=2:=hm2
      have iA:Hid (∀k,k<n1->inS (S.getD k 0)/\inS (S'.getD k 0)):=hid λk hk=>⟨E0 (hr.out.1 rfl) (by show k<S.length;rw[lA.out.1];exact hk),E0 (hr'.out.1 rfl) (by show k<S'.length;rw[lB.out.1,<-hlen];exact hk)⟩
      obtain⟨Ps,hPs⟩: ∃P,ay (·+·) S S'=P:=⟨_,rfl⟩
      obtain⟨Pm,hPm⟩: ∃P,ay min M M'=P:=⟨_,rfl⟩;obtain⟨Px,hPx⟩: ∃P,ay max X X'=P:=⟨_,rfl⟩
      have lP:Hid (Ps.length=n1/\Pm.length=n1/\Px.length=n1):=hid (by
       have h:=lA.out
       have h':=lB.out
       rw[<-hPs,<-hPm,<-hPx];simp only[List.length_zipWith];omega)
      have gP:Hid (∀k,k<n1->Ps.getD k 0=S.getD k 0+S'.getD k 0/\Pm.getD k 0=min (M.getD k 0) (M'.getD k 0)/\Px.getD k 0=max (X.getD k 0) (X'.getD k 0)):=hid (by
       intro k hk
       have h:=lA.out
       have h':=lB.out
       rw[<-hPs,<-hPm,<-hPx];exact⟨Ro _ h.1 (by omega) hk,Ro _ (show M.length=n1 by omega) (by omega) hk,Ro _ (show X.length=n1 by omega) (by omega) hk⟩)
      have hZp:Hid (Zs (q,S,M,X) (q',S',M',X')=if (∀k,k<n1->inS (Ps.getD k 0))/\q+q'<=1099511627776 then ((q+q',Ps,Pm,Px),0)else (Yl,14)):=hid (by
       unfold Zs P7;rw[if_neg hno.out,if_neg (show ¬(q,S,M,X).1=0 from hq0),if_neg (show ¬(q',S',M',X').1=0 from hq0')]
       show(if (∀k,k<S.length->inS ((ay (·+·) S S').getD k 0))/\q+q'<=1099511627776 then ((q+q',ay (·+·) S S',ay min M M',ay max X X'),(0:Int))else (Yl,14))=_
       rw[hPs,hPm,hPx,lA.out.1])
      clear hPs hPm hPx
      have e0:((q:Int)==0)=false:=by simpa using hq0
      have e1:((q':Int)==0)=false:=by simpa using hq0'
      have hsum:IntKind.i64.wrap (q+q')=q+q':=IntWalk.i64_in _ (by omega)
      have en:n1=n2/\n1=n3/\m1=m2/\m1=m3:=LE.out
      clear LE;obtain⟨en1,en2,en3,en4⟩:=en;subst en1 en2 en3 en4;subst hlen
      have kk:((n1:Int) != (n1:Int))=false:=by simp
      go_wp2_with fail
      have hA:=Acc.new (w0:=w3) (Block.new w3 71 #[.int .i64 (q+q'),.slice none 0 0,.slice none 0 0,.slice none 0 0]) (Yb w3 _) (ae _)
      clear hsum;generalize hws:w3.alloc (.cells #[.int .i64 (q+q'),.slice none 0 0,.slice none 0 0,.slice none 0 0] 71)=ws at hA⊢
      have hws:=hid hws
      obtain⟨s,hss⟩: ∃s,Hid (w3.heap.size=s):=⟨_,hid rfl⟩
      have hA:Acc w3 ws s (q+q') (.slice none 0 0) (.slice none 0 0) (.slice none 0 0) (Ps.take 0) (Pm.take 0) (Px.take 0):=by rw[<-hss.out];exact hA
      have hA:Acc w3 ws s (q+q') (.slice none 0 0) (.slice none 0 0) (.slice none 0 0) (Ps.take 0) (Pm.take 0) (Px.take 0):=hA
      rw[hss.out];clear hr hr' a0 a1 a2 a3 k0 k1 k2 k3 r0 r1 r2 r3 f0 f1 f2 f3 e0 e1 kk;go_loopw [9] (λi wr=>∃(k:Nat) (v1 v2 v3:Value),k<=n1/\i=.int .i64 k/\Hid (∀j,j<k->inS (Ps.getD j 0))/\Acc w3 wr s (q+q') v1 v2 v3 (Ps.take k) (Pm.take k) (Px.take k)) (λi _=>n1-(intOf i).toNat)
      case atStart=>exact⟨0,_,_,_,ar _,rfl,hid λj hj=>absurd hj (by omega),hA⟩
      case round=>
       obtain⟨k,v1,v2,v3,hk,rfl,hJ,hT⟩:=hrel;clear hA
       have hLr:=hL.below hT.bel hL.lt
       have hKr:=hK.below hT.bel hK.lt
       have hRr:=hR.below hT.bel hR.lt
       have har:=ha.below hT.bel (ae _)
       have hbr:=hb.below hT.bel (ae _)
       have hzr:=hT.bel.size
       have hber:=hbe.trans (hT.bel.mono hbe.size)
       have a1:wr.cell? ⟨w.heap.size,1,none⟩=some (.slice A1 n1 c1):=hLr.cell 1
       obtain⟨E1,l1,d1',rfl,_⟩:=hT.r1.Yr;obtain⟨E2,l2,d2',rfl,_⟩:=hT.r2.Yr;obtain⟨E3,l3,d3',rfl,_⟩:=hT.r3.Yr
       by_cases hlt:k<n1
       ·obtain⟨x1,o1,sa,rfl,hx1,ca,ea⟩:=har.s.at_ hlt
        obtain⟨x2,o2,sb,rfl,hx2,cb,eb⟩:=hbr.s.at_ hlt;obtain⟨x3,o3,la,rfl,hx3,cla,ela⟩:=har.m.at_ hlt;obtain⟨x4,o4,lb,rfl,hx4,clb,elb⟩:=hbr.m.at_ hlt;obtain⟨x5,o5,ga,rfl,hx5,cga,ega⟩:=har.x.at_ hlt;obtain⟨x6,o6,gb,rfl,hx6,cgb,egb⟩:=hbr.x.at_ hlt
        have i0:(0:Int)<=(k:Int):=by omega
        have i1:(k:Int)<(n1:Int):=by omega
        have k1:wr.cell? ⟨p2,1,none⟩=some (.slice (some ⟨x2,o2,none⟩) n1 d1):=hKr.cell 1
        obtain⟨z,b,hs⟩: ∃z b,Hid (Ylz (Y4 [sa,sb]) z b):=by
         obtain⟨z,b,h⟩:=Ybq (Y4 [sa,sb]);exact⟨z,b,hid h⟩
        have hI2:I64 [sa,sb]:=by
         obtain⟨h1,h2⟩:=iA.out k hlt;rw[<-ea.out,<-eb.out]at *;unfold inS at h1 h2;intro x hx;simp only[df,List.not_mem_nil,or_false]at hx
         rcases hx with rfl|rfl <;> omega
        have HT:=hid (Yam (w:=(wr.alloc (.cells #[.int .i64 sa,.int .i64 sb] 3)).drew) (((Y2.Yb3 wr [sa,sb] #[.int .i64 sa,.int .i64 sb] rfl 3 (0,0) 2 rfl (by decide) wr.heap.size rfl).more (by simp)).drew) (by decide) hI2 hs.out)
        have hP:Hid (Ps.getD k 0=sa+sb/\Pm.getD k 0=min la lb/\Px.getD k 0=max ga gb):=hid (by
         have:=gP.out k hlt
         rw[<-ea.out,<-eb.out,<-ela.out,<-elb.out,<-ega.out,<-egb.out]at this;exact this)
        have K:Hid (∀y,Below wr.heap.size wr y->y.cell? ⟨w.heap.size,1,none⟩=some (.slice (some ⟨x1,o1,none⟩) n1 c1)/\y.cell? ⟨p2,1,none⟩=some (.slice (some ⟨x2,o2,none⟩) n1 d1)/\y.cell? ⟨x1,o1+k,none⟩=some (.int .i64 sa)/\y.cell? ⟨x2,o2+k,none⟩=some (.int .i64 sb)):=
         hid λy hy=>⟨(hLr.below hy hLr.lt).cell 1,(hKr.below hy hKr.lt).cell 1,(hy.cell (p:=⟨x1,o1+k,none⟩) (av hx1 hzr)).trans ca,(hy.cell (p:=⟨x2,o2+k,none⟩) (av hx2 hzr)).trans cb⟩
        clear ea eb ela elb ega egb hI2;go_wp2_with fail;go_region_held3 (λw'=>w'.cell? ⟨w.heap.size,1,none⟩=some (.slice (some ⟨x1,o1,none⟩) n1 c1)/\w'.cell? ⟨p2,1,none⟩=some (.slice (some ⟨x2,o2,none⟩) n1 d1)/\w'.cell? ⟨x1,o1+k,none⟩=some (.int .i64 sa)/\w'.cell? ⟨x2,o2+k,none⟩=some (.int .i64 sb))
         (first
          |exact K.out _ hd1
          |exact K.out _ (Below.drew (Yb _ _))
          |exact K.out _ (Below.drew (Below.refl _ _)))
         (first
          |(go_at_call 118;refine HT.out.mono ?_;rintro e w5 ⟨rfl,hb5⟩;have hd1:=Ya (Below.drew (Yb wr (.cells #[.int .i64 sa,.int .i64 sb] 3))) hb5))
        have hT5:=hT.below hd1
        have hL5:=hLr.below hd1 hLr.lt
        have hK5:=hKr.below hd1 hKr.lt
        have hR5:=hRr.below hd1 hRr.lt
        have hbe5:=hber.trans (hd1.mono hber.size)
        have a2:w5.cell? ⟨w.heap.size,2,none⟩=some (.slice (some ⟨x3,o3,none⟩) n1 c2):=hL5.cell 2
        have a3:w5.cell? ⟨w.heap.size,3,none⟩=some (.slice (some ⟨x5,o5,none⟩) n1 c3):=hL5.cell 3
        have k2:w5.cell? ⟨p2,2,none⟩=some (.slice (some ⟨x4,o4,none⟩) n1 d2):=hK5.cell 2
        have k3:w5.cell? ⟨p2,3,none⟩=some (.slice (some ⟨x6,o6,none⟩) n1 d3):=hK5.cell 3
        have cla:=(hd1.cell (p:=⟨x3,o3+k,none⟩) (av hx3 hzr)).trans cla
        have clb:=(hd1.cell (p:=⟨x4,o4+k,none⟩) (av hx4 hzr)).trans clb
        have cga:=(hd1.cell (p:=⟨x5,o5+k,none⟩) (av hx5 hzr)).trans cga
        have cgb:=(hd1.cell (p:=⟨x6,o6+k,none⟩) (av hx6 hzr)).trans cgb
        clear hT hLr hKr hRr har hbr hber hd1 hb5 K HT a1 k1 ca cb hL5 hK5
        have hst:Y4 [sa,sb]=sa+sb:=by simp[Y4]
        rcases hs.out with⟨hin,hz,rfl⟩|⟨hin,rfl,_⟩
        ·rw[hst]at hin hz
         have hy:Hid (Ps.getD k 0=z):=hid (hP.out.1.trans hz.symm)
         have hJ2:Hid (∀j,j<k+1->inS (Ps.getD j 0)):=hid λj hj=>by
          by_cases h:j<k
          ·exact hJ.out j h
          ·obtain rfl:j=k:=by omega
           rw[hP.out.1];exact hin
         clear hst hin hz hs hR5 hbe5 hJ
         by_cases hm:lb<la
         ·have hlo:Pm.getD k 0=lb:=by rw[hP.out.2.1];omega
          by_cases hg:ga<gb
          ·have hhi:Px.getD k 0=gb:=by rw[hP.out.2.2];omega
           have g1:w5.cell? ⟨s,1,none⟩=some (.slice E1 l1 d1'):=hT5.blk.cell 1
           go_wp2_with (at_builtin;refine Yo rfl _ _ rfl w3.heap.size _ _ rfl (hT5.alloc _).r1 _ rfl z (Y6 _ _ _ _ (by simp)) (by simp;omega) (hT5.alloc _).bel.size ?_)
           intro u1 w11 hO1 hG1;obtain⟨F1,j1,t1,rfl,_⟩:=hO1.Yr;obtain⟨hB1,hA1⟩:=(hT5.alloc _).Yof hO1 hG1
           have x0:=hB1.cell 1
           have x1':=hB1.free 1
           have x2:(w11.setCell ⟨s,1,none⟩ (.slice F1 j1 t1)).cell? ⟨s,2,none⟩=some (.slice E2 l2 d2'):=hA1.blk.cell 2
           clear hT5 g1 hO1 hG1 hB1;go_wp2_with (at_builtin;refine Yo rfl _ _ rfl w3.heap.size _ _ rfl (hA1.alloc _).r2 _ rfl lb (Y6 _ _ _ _ (by simp)) (by simp;omega) (hA1.alloc _).bel.size ?_)
           intro u2 w12 hO2 hG2;obtain⟨F2,j2,t2,rfl,_⟩:=hO2.Yr;obtain⟨hB2,hA2⟩:=(hA1.alloc _).Ymg hO2 hG2
           have y0:=hB2.cell 2
           have y1:=hB2.free 2
           have y2:(w12.setCell ⟨s,2,none⟩ (.slice F2 j2 t2)).cell? ⟨s,3,none⟩=some (.slice E3 l3 d3'):=hA2.blk.cell 3
           clear hA1 x0 x1' x2 hO2 hG2 hB2;go_wp2_with (at_builtin;refine Yo rfl _ _ rfl w3.heap.size _ _ rfl (hA2.alloc _).r3 _ rfl gb (Y6 _ _ _ _ (by simp)) (by simp;omega) (hA2.alloc _).bel.size ?_)
           intro u3 w13 hO3 hG3;obtain⟨F3,j3,t3,rfl,_⟩:=hO3.Yr;obtain⟨hB3,hA3⟩:=(hA2.alloc _).Ym2 hO3 hG3
           have z0:=hB3.cell 3
           have z1:=hB3.free 3
           rw[Zt (by rw[lP.out.1];exact hlt) hy.out,Zt (by rw[lP.out.2.1];exact hlt) hlo,Zt (by rw[lP.out.2.2];exact hlt) hhi]at hA3
           have hA4:=hid hA3
           clear hA2 y0 y1 y2 hO3 hG3 hB3 hA3 hlo hhi;go_wp2_with fail;go_roundw
           case rel=>exact⟨k+1,_,_,_,by omega,by go_num,hJ2,hA4.out⟩
           case measure=>simp[intOf];omega
          ·have hhi:Px.getD k 0=ga:=by rw[hP.out.2.2];omega
           have g1:w5.cell? ⟨s,1,none⟩=some (.slice E1 l1 d1'):=hT5.blk.cell 1
           go_wp2_with (at_builtin;refine Yo rfl _ _ rfl w3.heap.size _ _ rfl (hT5.alloc _).r1 _ rfl z (Y6 _ _ _ _ (by simp)) (by simp;omega) (hT5.alloc _).bel.size ?_)
           intro u1 w11 hO1 hG1;obtain⟨F1,j1,t1,rfl,_⟩:=hO1.Yr;obtain⟨hB1,hA1⟩:=(hT5.alloc _).Yof hO1 hG1
           have x0:=hB1.cell 1
           have x1':=hB1.free 1
           have x2:(w11.setCell ⟨s,1,none⟩ (.slice F1 j1 t1)).cell? ⟨s,2,none⟩=some (.slice E2 l2 d2'):=hA1.blk.cell 2
           clear hT5 g1 hO1 hG1 hB1;go_wp2_with (at_builtin;refine Yo rfl _ _ rfl w3.heap.size _ _ rfl (hA1.alloc _).r2 _ rfl lb (Y6 _ _ _ _ (by simp)) (by simp;omega) (hA1.alloc _).bel.size ?_)
           intro u2 w12 hO2 hG2;obtain⟨F2,j2,t2,rfl,_⟩:=hO2.Yr;obtain⟨hB2,hA2⟩:=(hA1.alloc _).Ymg hO2 hG2
           have y0:=hB2.cell 2
           have y1:=hB2.free 2
           have y2:(w12.setCell ⟨s,2,none⟩ (.slice F2 j2 t2)).cell? ⟨s,3,none⟩=some (.slice E3 l3 d3'):=hA2.blk.cell 3
           clear hA1 x0 x1' x2 hO2 hG2 hB2;go_wp2_with (at_builtin;refine Yo rfl _ _ rfl w3.heap.size _ _ rfl (hA2.alloc _).r3 _ rfl ga (Y6 _ _ _ _ (by simp)) (by simp;omega) (hA2.alloc _).bel.size ?_)
           intro u3 w13 hO3 hG3;obtain⟨F3,j3,t3,rfl,_⟩:=hO3.Yr;obtain⟨hB3,hA3⟩:=(hA2.alloc _).Ym2 hO3 hG3
           have z0:=hB3.cell 3
           have z1:=hB3.free 3
           rw[Zt (by rw[lP.out.1];exact hlt) hy.out,Zt (by rw[lP.out.2.1];exact hlt) hlo,Zt (by rw[lP.out.2.2];exact hlt) hhi]at hA3
           have hA4:=hid hA3
           clear hA2 y0 y1 y2 hO3 hG3 hB3 hA3 hlo hhi;go_wp2_with fail;go_roundw
           case rel=>exact⟨k+1,_,_,_,by omega,by go_num,hJ2,hA4.out⟩
           case measure=>simp[intOf];omega
         ·have hlo:Pm.getD k 0=la:=by rw[hP.out.2.1];omega
          by_cases hg:ga<gb
          ·have hhi:Px.getD k 0=gb:=by rw[hP.out.2.2];omega
           have g1:w5.cell? ⟨s,1,none⟩=some (.slice E1 l1 d1'):=hT5.blk.cell 1
           go_wp2_with (at_builtin;refine Yo rfl _ _ rfl w3.heap.size _ _ rfl (hT5.alloc _).r1 _ rfl z (Y6 _ _ _ _ (by simp)) (by simp;omega) (hT5.alloc _).bel.size ?_)
           intro u1 w11 hO1 hG1;obtain⟨F1,j1,t1,rfl,_⟩:=hO1.Yr;obtain⟨hB1,hA1⟩:=(hT5.alloc _).Yof hO1 hG1
           have x0:=hB1.cell 1
           have x1':=hB1.free 1
           have x2:(w11.setCell ⟨s,1,none⟩ (.slice F1 j1 t1)).cell? ⟨s,2,none⟩=some (.slice E2 l2 d2'):=hA1.blk.cell 2
           clear hT5 g1 hO1 hG1 hB1;go_wp2_with (at_builtin;refine Yo rfl _ _ rfl w3.heap.size _ _ rfl (hA1.alloc _).r2 _ rfl la (Y6 _ _ _ _ (by simp)) (by simp;omega) (hA1.alloc _).bel.size ?_)
           intro u2 w12 hO2 hG2;obtain⟨F2,j2,t2,rfl,_⟩:=hO2.Yr;obtain⟨hB2,hA2⟩:=(hA1.alloc _).Ymg hO2 hG2
           have y0:=hB2.cell 2
           have y1:=hB2.free 2
           have y2:(w12.setCell ⟨s,2,none⟩ (.slice F2 j2 t2)).cell? ⟨s,3,none⟩=some (.slice E3 l3 d3'):=hA2.blk.cell 3
           clear hA1 x0 x1' x2 hO2 hG2 hB2;go_wp2_with (at_builtin;refine Yo rfl _ _ rfl w3.heap.size _ _ rfl (hA2.alloc _).r3 _ rfl gb (Y6 _ _ _ _ (by simp)) (by simp;omega) (hA2.alloc _).bel.size ?_)
           intro u3 w13 hO3 hG3;obtain⟨F3,j3,t3,rfl,_⟩:=hO3.Yr;obtain⟨hB3,hA3⟩:=(hA2.alloc _).Ym2 hO3 hG3
           have z0:=hB3.cell 3
           have z1:=hB3.free 3
           rw[Zt (by rw[lP.out.1];exact hlt) hy.out,Zt (by rw[lP.out.2.1];exact hlt) hlo,Zt (by rw[lP.out.2.2];exact hlt) hhi]at hA3
           have hA4:=hid hA3
           clear hA2 y0 y1 y2 hO3 hG3 hB3 hA3 hlo hhi;go_wp2_with fail;go_roundw
           case rel=>exact⟨k+1,_,_,_,by omega,by go_num,hJ2,hA4.out⟩
           case measure=>simp[intOf];omega
          ·have hhi:Px.getD k 0=ga:=by rw[hP.out.2.2];omega
           have g1:w5.cell? ⟨s,1,none⟩=some (.slice E1 l1 d1'):=hT5.blk.cell 1
           go_wp2_with (at_builtin;refine Yo rfl _ _ rfl w3.heap.size _ _ rfl (hT5.alloc _).r1 _ rfl z (Y6 _ _ _ _ (by simp)) (by simp;omega) (hT5.alloc _).bel.size ?_)
           intro u1 w11 hO1 hG1;obtain⟨F1,j1,t1,rfl,_⟩:=hO1.Yr;obtain⟨hB1,hA1⟩:=(hT5.alloc _).Yof hO1 hG1
           have x0:=hB1.cell 1
           have x1':=hB1.free 1
           have x2:(w11.setCell ⟨s,1,none⟩ (.slice F1 j1 t1)).cell? ⟨s,2,none⟩=some (.slice E2 l2 d2'):=hA1.blk.cell 2
           clear hT5 g1 hO1 hG1 hB1;go_wp2_with (at_builtin;refine Yo rfl _ _ rfl w3.heap.size _ _ rfl (hA1.alloc _).r2 _ rfl la (Y6 _ _ _ _ (by simp)) (by simp;omega) (hA1.alloc _).bel.size ?_)
           intro u2 w12 hO2 hG2;obtain⟨F2,j2,t2,rfl,_⟩:=hO2.Yr;obtain⟨hB2,hA2⟩:=(hA1.alloc _).Ymg hO2 hG2
           have y0:=hB2.cell 2
           have y1:=hB2.free 2
           have y2:(w12.setCell ⟨s,2,none⟩ (.slice F2 j2 t2)).cell? ⟨s,3,none⟩=some (.slice E3 l3 d3'):=hA2.blk.cell 3
           clear hA1 x0 x1' x2 hO2 hG2 hB2;go_wp2_with (at_builtin;refine Yo rfl _ _ rfl w3.heap.size _ _ rfl (hA2.alloc _).r3 _ rfl ga (Y6 _ _ _ _ (by simp)) (by simp;omega) (hA2.alloc _).bel.size ?_)
           intro u3 w13 hO3 hG3;obtain⟨F3,j3,t3,rfl,_⟩:=hO3.Yr;obtain⟨hB3,hA3⟩:=(hA2.alloc _).Ym2 hO3 hG3
           have z0:=hB3.cell 3
           have z1:=hB3.free 3
           rw[Zt (by rw[lP.out.1];exact hlt) hy.out,Zt (by rw[lP.out.2.1];exact hlt) hlo,Zt (by rw[lP.out.2.2];exact hlt) hhi]at hA3
           have hA4:=hid hA3
           clear hA2 y0 y1 y2 hO3 hG3 hB3 hA3 hlo hhi;go_wp2_with fail;go_roundw
           case rel=>exact⟨k+1,_,_,_,by omega,by go_num,hJ2,hA4.out⟩
           case measure=>simp[intOf];omega
        ·have hZ:Hid (Zs (q,S,M,X) (q',S',M',X')=(Yl,14)):=hid (by
          rw[hZp.out,if_neg];intro h
          have:=h.1 k hlt
          rw[hP.out.1]at this;rw[hst]at hin;exact hin this)
         have hR:=hR5
         clear hst hin hs
         have r0:w5.cell? ⟨p3,0,none⟩=some (.int .i64 0):=hR.cell 0
         have r1:w5.cell? ⟨p3,1,none⟩=some (.slice none 0 0):=hR.cell 1
         have r2:w5.cell? ⟨p3,2,none⟩=some (.slice none 0 0):=hR.cell 2
         have r3:w5.cell? ⟨p3,3,none⟩=some (.slice none 0 0):=hR.cell 3
         have f0:=hR.free 0
         have f1:=hR.free 1
         have f2:=hR.free 2
         have f3:=hR.free 3
         have hRR:=hid (hR.Zp (.int .i64 0) (.slice none 0 0) (.slice none 0 0) (.slice none 0 0))
         have hRB:=hid (Yq hbe5 hp3 (.int .i64 0) (.slice none 0 0) (.slice none 0 0) (.slice none 0 0))
         go_wp2_with fail;refine bodyPost_ret (Ye rfl _ _ p3 _ _ rfl hRR.out af rfl Yz) rfl ?_;rw[hZ.out];exact Tz ⟨⟨_,_,_,rfl,Xq _ _⟩,hRB.out⟩
       ·obtain rfl:k=n1:=by omega
        have hS1:Ps.take k=Ps:=ai (by rw[lP.out.1];exact ae _)
        have hS2:Pm.take k=Pm:=ai (by rw[lP.out.2.1];exact ae _)
        have hS3:Px.take k=Px:=ai (by rw[lP.out.2.2];exact ae _)
        rw[hS1,hS2,hS3]at hT
        have s0:wr.cell? ⟨s,0,none⟩=some (.int .i64 (q+q')):=hT.blk.cell 0
        have s1:wr.cell? ⟨s,1,none⟩=some (.slice E1 l1 d1'):=hT.blk.cell 1
        have s2:wr.cell? ⟨s,2,none⟩=some (.slice E2 l2 d2'):=hT.blk.cell 2
        have s3:wr.cell? ⟨s,3,none⟩=some (.slice E3 l3 d3'):=hT.blk.cell 3
        have hp3l:p3<w3.heap.size:=hR.lt
        have hR:=hRr
        have r0:wr.cell? ⟨p3,0,none⟩=some (.int .i64 0):=hR.cell 0
        have r1:wr.cell? ⟨p3,1,none⟩=some (.slice none 0 0):=hR.cell 1
        have r2:wr.cell? ⟨p3,2,none⟩=some (.slice none 0 0):=hR.cell 2
        have r3:wr.cell? ⟨p3,3,none⟩=some (.slice none 0 0):=hR.cell 3
        have f0:=hR.free 0
        have f1:=hR.free 1
        have f2:=hR.free 2
        have f3:=hR.free 3
        by_cases hc:1099511627776<q+q'
        ·have hZ:Hid (Zs (q,S,M,X) (q',S',M',X')=(Yl,14)):=hid (by
          rw[hZp.out,if_neg];intro h
          have:=h.2
          omega)
         have hRR:=hid (hR.Zp (.int .i64 0) (.slice none 0 0) (.slice none 0 0) (.slice none 0 0))
         have hRB:=hid (Yq hber hp3 (.int .i64 0) (.slice none 0 0) (.slice none 0 0) (.slice none 0 0))
         go_wp2_with fail;refine bodyPost_ret (Ye rfl _ _ p3 _ _ rfl hRR.out af rfl Yz) rfl ?_;rw[hZ.out];exact Tz ⟨⟨_,_,_,rfl,Xq _ _⟩,hRB.out⟩
        ·have hZ:Hid (Zs (q,S,M,X) (q',S',M',X')=((q+q',Ps,Pm,Px),0)):=hid (by
          rw[hZp.out,if_pos ⟨hJ.out,by omega⟩])
         have hO:=hT.own.Zp hp3l (.int .i64 (q+q')) (.slice E1 l1 d1') (.slice E2 l2 d2') (.slice E3 l3 d3')
         have hRR:=hid (hR.Zp (.int .i64 (q+q')) (.slice E1 l1 d1') (.slice E2 l2 d2') (.slice E3 l3 d3'))
         have hRB:=hid (Yq hber hp3 (.int .i64 (q+q')) (.slice E1 l1 d1') (.slice E2 l2 d2') (.slice E3 l3 d3'))
         have hRO:=hid (hO.low (base':=w.heap.size) hbe.size)
         clear hO hT;go_wp2_with fail;refine bodyPost_ret (Ye rfl _ _ p3 _ _ rfl hRR.out af rfl Yz) rfl ?_;rw[hZ.out];exact Tz ⟨⟨_,_,_,rfl,hRO.out⟩,hRB.out⟩
   ·have hZ:Hid (Zs (q,S,M,X) (q',S',M',X')=(Yl,1)):=hid (if_pos (.inr (.inr λh=>hl (by
     have h:S.length=S'.length:=h
     have h1:=lA.out.1
     have h2:=lB.out.1
     omega))))
    have kk:((n1:Int) != (m1:Int))=true:=by simp;omega
    clear hl
    have hRR:=hid (hR.Zp (.int .i64 0) (.slice none 0 0) (.slice none 0 0) (.slice none 0 0))
    have hRB:=hid (Yq hbe hp3 (.int .i64 0) (.slice none 0 0) (.slice none 0 0) (.slice none 0 0))
    go_wp2_with fail;refine bodyPost_ret (Ye rfl _ _ p3 _ _ rfl hRR.out af rfl Yz) rfl ?_;rw[hZ.out];exact Tz ⟨⟨_,_,_,rfl,Xq _ _⟩,hRB.out⟩
section
variable {q q' : Int}{A1 A2 A3 B1 B2 B3:Option Addr}{n1 c1 n2 c2 n3 c3 m1 d1 m2 d2 m3 d3:Nat}{S M X S' M' X' : List Int}{w:World}
theorem Yeb(ha:Wi w w.heap.size A1 n1 c1 A2 n2 c2 A3 n3 c3 S M X)(hb:Wi w w.heap.size B1 m1 d1 B2 m2 d2 B3 m3 d3 S' M' X')(h:q≠0/\q'≠0):
  Calls an 212 #[S6 q A1 n1 c1 A2 n2 c2 A3 n3 c3,S6 q' B1 m1 d1 B2 m2 d2 B3 m3 d3] w (Qw w (Zs (q,S,M,X) (q',S',M',X'))):=(Ydu ha hb).mono λ_ _ x=>x.2 h
end
end
theorem Je(L:List (List Int))(k:Nat):(Wq L k).length=L.length:=by simp[Wq]
theorem Yd0{L:List (List Int)}(hj:j<L.length):(Wq L k).getD j 0=(L.getD j []).getD k 0:=by
 simp[Wq,aa,hj]
theorem Jt(hj:j<l.length)(hy:l.getD j 0=y):Wy (x0::l.take (j+1))=min (Wy (x0::l.take j)) y:=by
 rw[<-Zt hj hy,<-bg];exact Yc5 (by simp) _
theorem Km(hj:j<l.length)(hy:l.getD j 0=y):Ws (x0::l.take (j+1))=max (Ws (x0::l.take j)) y:=by
 rw[<-Zt hj hy,<-bg];exact Ycd (by simp) _
theorem Ysz(hl:0<l.length):Wy (l.getD 0 0::l)=Wy l:=by
 cases l with
 |nil=>simp at hl
 |cons x l=>show Wy (x::x::l)=_;exact Gi (by simp) (by simp) λy=>by simp
theorem Yss(hl:0<l.length):Ws (l.getD 0 0::l)=Ws l:=by
 cases l with
 |nil=>simp at hl
 |cons x l=>show Ws (x::x::l)=_;exact Gd (by simp) (by simp) λy=>by simp
theorem Yg6(x:Int){A:Option Addr}{n c:Nat}{L:List (List Int)}{w:World}(h:Tg w w.heap.size A n c L)(hn:n<=1000):
  Calls an 61 #[.int .i64 x,.slice A n c] w (Qw w (Vf x L)):=by
 have hll:=hid h.len
 have hcm:=h.Xf
 have hcap:=h.cap
 have hb0:=Yb w (.cells #[.int .i64 0,.slice none 0 0,.slice none 0 0,.slice none 0 0] 71)
 have hR:=Block.new w 71 #[.int .i64 0,.slice none 0 0,.slice none 0 0,.slice none 0 0]
 by_cases hx0:x<0
 ·have hZ:Hid (Vf x L=(Yl,1)):=hid (Tx (.inl hx0))
  go_enter dm,dh;go_wp2_with fail;refine bodyPost_ret (Ye rfl _ _ w.heap.size _ _ rfl hR af rfl Yz) rfl ?_;rw[hZ.out];exact⟨⟨_,_,_,rfl,Xq _ _⟩,hb0⟩
 ·by_cases hx2:2<x
  ·have hZ:Hid (Vf x L=(Yl,1)):=hid (Tx (.inr (.inl hx2)))
   go_enter dm,dh;go_wp2_with fail;refine bodyPost_ret (Ye rfl _ _ w.heap.size _ _ rfl hR af rfl Yz) rfl ?_;rw[hZ.out];exact⟨⟨_,_,_,rfl,Xq _ _⟩,hb0⟩
  ·obtain⟨m,rfl⟩: ∃m:Nat,x=(m:Int):=⟨x.toNat,by omega⟩
   have hm2:m<=2:=by omega
   go_enter dm,dh;go_wp2_with fail
   have h1:=h.below hb0 (ae _)
   generalize w.alloc (.cells #[.int .i64 0,.slice none 0 0,.slice none 0 0,.slice none 0 0] 71)=w1 at hb0 hR h1⊢;clear h
   have r0:w1.cell? ⟨w.heap.size,0,none⟩=some (.int .i64 0):=hR.cell 0
   have r1:w1.cell? ⟨w.heap.size,1,none⟩=some (.slice none 0 0):=hR.cell 1
   have r2:w1.cell? ⟨w.heap.size,2,none⟩=some (.slice none 0 0):=hR.cell 2
   have r3:w1.cell? ⟨w.heap.size,3,none⟩=some (.slice none 0 0):=hR.cell 3
   have f0:=hR.free 0
   have f1:=hR.free 1
   have f2:=hR.free 2
   have f3:=hR.free 3
   go_loopw [6,7] (λi _ wr=>∃k:Nat,k<=n/\i=.int .i64 k/\Hid (∀j,j<k->isVal m (L.getD j []))/\w1=wr) (λi _ _=>n-(intOf i).toNat)
   case atStart=>exact⟨0,ar _,rfl,hid λj hj=>absurd hj (by omega),rfl⟩
   case round=>
    obtain⟨k,hk,rfl,hJ,rfl⟩:=hrel
    by_cases hlt:k<n
    ·obtain⟨b,o,A',n',c',l,rfl,hb,g0,hl,he⟩:=h1.at_ hlt
     have i0:(0:Int)<=(k:Int):=by omega
     have i1:(k:Int)<(n:Int):=by omega
     obtain⟨r,hr⟩: ∃r:Bool,Hid (r=true↔isVal (m:Int) l):=⟨decide (isVal (m:Int) l),hid (by simp)⟩
     have HV:=hid (Qp (w:=w1) (m:Int) (hl.more hb0.size) hr.out)
     clear hl
     cases r
     ·have hZ:Hid (Vf m L=(Yl,1)):=hid (Tx (.inr (.inr ⟨l,by
       rw[he.out,aa,ag (by rw[hll.out];exact hlt)]
       exact br _,λh=>by cases hr.out.2 h⟩)))
      go_wp2_with fail;refine HV.out.mono ?_;rintro e w5 ⟨rfl,rfl⟩
      have hRR:=hid (hR.Zp (.int .i64 0) (.slice none 0 0) (.slice none 0 0) (.slice none 0 0))
      have hRB:=hid (Yq hb0 (ae _) (.int .i64 0) (.slice none 0 0) (.slice none 0 0) (.slice none 0 0))
      go_wp2_with fail;refine bodyPost_ret (Ye rfl _ _ w.heap.size _ _ rfl hRR.out af rfl Yz) rfl ?_;rw[hZ.out];exact⟨⟨_,_,_,rfl,Xq _ _⟩,hRB.out⟩
     ·have hJ2:Hid (∀j,j<k+1->isVal m (L.getD j [])):=hid λj hj=>by
       by_cases h:j<k
       ·exact hJ.out j h
       ·obtain rfl:j=k:=by omega
        rw[<-he.out];exact hr.out.1 rfl
      go_wp2_with fail;refine HV.out.mono ?_;rintro e w5 ⟨rfl,rfl⟩;go_wp2_with fail;go_roundw
      case rel=>exact⟨k+1,by omega,by go_num,hJ2,by first|rfl|trivial⟩
      case measure=>simp[intOf];omega
    ·obtain rfl:k=n:=by omega
     have HV:Hid (∀v∈L,isVal m v):=hid λv hv=>by
      obtain⟨j,hj,rfl⟩:=bj.1 hv
      have:=hJ.out j (by rw[<-hll.out];exact hj)
      rwa [aa,ag hj]at this
     have HJ:=hJ
     have hnn:¬((m:Int)<0∨2<(m:Int)):=by omega
     clear hk hlt
     by_cases hk0:k=0
     ·subst hk0
      have hL0:L=[]:=db hll.out
      have hZ:Hid (Vf m L=(Y0 m,0)):=hid (by rw[hL0];have:=Dt hnn;rwa [cz]at this)
      clear hL0 hnn;go_wp2_with fail;refine(K3 (m:Int) _ (m:=m) (by omega)).mono ?_
      rintro e w5 ⟨⟨v1,v2,v3,rfl,ho,_⟩,hb5⟩
      have hrl:=hR.lt
      have hR5:=hR.below hb5 hR.lt
      have hbe5:=Ya hb0 hb5
      clear r0 r1 r2 r3 f0 f1 f2 f3
      have r0:w5.cell? ⟨w.heap.size,0,none⟩=some (.int .i64 0):=hR5.cell 0
      have r1:w5.cell? ⟨w.heap.size,1,none⟩=some (.slice none 0 0):=hR5.cell 1
      have r2:w5.cell? ⟨w.heap.size,2,none⟩=some (.slice none 0 0):=hR5.cell 2
      have r3:w5.cell? ⟨w.heap.size,3,none⟩=some (.slice none 0 0):=hR5.cell 3
      have f0:=hR5.free 0
      have f1:=hR5.free 1
      have f2:=hR5.free 2
      have f3:=hR5.free 3
      obtain⟨E1,l1,d1,rfl,_⟩:=ho.s.Yr;obtain⟨E2,l2,d2,rfl,_⟩:=ho.m.Yr;obtain⟨E3,l3,d3,rfl,_⟩:=ho.x.Yr
      have hRR:=hid (hR5.Zp (.int .i64 0) (.slice E1 l1 d1) (.slice E2 l2 d2) (.slice E3 l3 d3))
      have hRB:=hid (Yq hbe5 (ae _) (.int .i64 0) (.slice E1 l1 d1) (.slice E2 l2 d2) (.slice E3 l3 d3))
      have hRO:=hid ((ho.Zp hrl (.int .i64 0) (.slice E1 l1 d1) (.slice E2 l2 d2) (.slice E3 l3 d3)).low (au hrl))
      clear ho hb5;go_wp2_with fail;refine bodyPost_ret (Ye rfl _ _ w.heap.size _ _ rfl hRR.out af rfl Yz) rfl ?_;rw[hZ.out];exact⟨⟨_,_,_,rfl,hRO.out⟩,hRB.out⟩
     ·have e0:((k:Int)==0)=false:=by simpa using hk0
      have hLne:L≠[]:=λe=>hk0 (by rw[<-hll.out,e];rfl)
      obtain⟨Fs,Fm,Fx,hF⟩: ∃Fs Fm Fx,Hid (S3 m L=((k:Int),Fs,Fm,Fx)):=⟨_,_,_,hid (by rw[<-hll.out];rfl)⟩
      have hZp:Hid (Vf m L=if ∀j,j<m->inS (Y4 (Wq L j))then (((k:Int),Fs,Fm,Fx),0)else (Yl,14)):=hid (by
       have:=J4 hnn HV.out hLne
       rwa [cz,hF.out]at this)
      have lF:Hid (Fs.length=m/\Fm.length=m/\Fx.length=m):=hid (by have:=Nc m L;rwa [hF.out]at this)
      have gF:Hid (∀j,j<m->Fs.getD j 0=Y4 (Wq L j)/\Fm.getD j 0=Wy (Wq L j)/\Fx.getD j 0=Ws (Wq L j)):=hid λj hj=>by have:=Gq L hj;rwa [hF.out]at this
      clear hnn hLne;go_wp2_with fail
      have hA:=Acc.new (w0:=w1) (Block.new w1 71 #[.int .i64 k,.slice none 0 0,.slice none 0 0,.slice none 0 0]) (Yb w1 _) (ae _)
      generalize w1.alloc (.cells #[.int .i64 k,.slice none 0 0,.slice none 0 0,.slice none 0 0] 71)=ws at hA⊢;obtain⟨s,hss⟩: ∃s,Hid (w1.heap.size=s):=⟨_,hid rfl⟩
      have hA:Acc w1 ws w1.heap.size (k:Int) (.slice none 0 0) (.slice none 0 0) (.slice none 0 0) (Fs.take 0) (Fm.take 0) (Fx.take 0):=hA
      have hA:Acc w1 ws s (k:Int) (.slice none 0 0) (.slice none 0 0) (.slice none 0 0) (Fs.take 0) (Fm.take 0) (Fx.take 0):=by rw[<-hss.out];exact hA
      rw[hss.out];clear r0 r1 r2 r3 f0 f1 f2 f3 e0;go_loopw [9] (λi wr=>∃(p:Nat) (v1 v2 v3:Value),p<=m/\i=.int .i64 p/\Hid (∀j,j<p->inS (Y4 (Wq L j)))/\Acc w1 wr s (k:Int) v1 v2 v3 (Fs.take p) (Fm.take p) (Fx.take p)) (λi _=>m-(intOf i).toNat)
      case atStart=>exact⟨0,_,_,_,ar _,rfl,hid λj hj=>absurd hj (by omega),hA⟩
      case round=>
       obtain⟨p,v1,v2,v3,hp,rfl,hQ,hT⟩:=hrel;clear hA
       have hRr:=hR.below hT.bel hR.lt
       have hzr:=hT.bel.size
       have hber:=hb0.trans (hT.bel.mono hb0.size)
       have hr:=(h1.more hb0.size).below hT.bel (ae _)
       obtain⟨E1,l1,d1,rfl,_⟩:=hT.r1.Yr;obtain⟨E2,l2,d2,rfl,_⟩:=hT.r2.Yr;obtain⟨E3,l3,d3,rfl,_⟩:=hT.r3.Yr
       by_cases hlt:p<m
       · -- GO
        have hz1:w1.heap.size<=w1.heap.size:=ae _
        obtain⟨b,o,A0,n0,c0,l0,hAe,hbb,g0,hl0,he0⟩:=hr.at_ (k:=0) (by omega)
        subst hAe
        have hv0:isVal (m:Int) l0:=by rw[he0.out];exact HJ.out 0 (by omega)
        obtain rfl:n0=m:=by have h1:=hl0.len;have h2:=hv0.1;omega
        rw[Nat.add_zero]at g0;obtain⟨b0,o0,x0,rfl,hb0',cx0,ex0⟩:=hl0.at_ hlt
        have hx0:Hid ((Wq L p).getD 0 0=x0):=hid (by rw[Yd0 (by rw[hll.out];omega),<-he0.out,<-ex0.out])
        have i0:(0:Int)<=(p:Int):=by omega
        have i1:(p:Int)<(n0:Int):=by omega
        have i2:(0:Int)<(k:Int):=by omega
        clear hv0 ex0 he0 hl0;go_wp2_with fail;obtain⟨wo,rfl⟩: ∃wo,wo=wr:=⟨_,rfl⟩;go_loopw [10,11,12,13] (λv lo hi i wi=>∃(j:Nat) (y z:Int) (v':Value),j<=k/\lo=.int .i64 y/\hi=.int .i64 z/\i=.int .i64 j/\v=v'∧Hid (y=Wy (x0::(Wq L p).take j)/\z=Ws (x0::(Wq L p).take j))/\Yi wi wo.heap.size v' ((Wq L p).take j)/\Below wo.heap.size wo wi) (λ_ _ _ i _=>k-(intOf i).toNat)
        case atStart=>exact⟨0,x0,x0,_,ar _,rfl,rfl,rfl,rfl,hid ⟨rfl,rfl⟩,Yi.Zj _ _,Below.refl _ _⟩
        case round=>
         obtain⟨j,y,z,v',hj,rfl,rfl,rfl,rfl,hX,hO,hbi⟩:=hrel
         by_cases hjk:j<k
         ·obtain⟨b',o',A',n',c',l,hAe,hbb',gj,hl,hej⟩:=(hr.below hbi hzr).at_ hjk
          injection hAe with hAe
          injection hAe with hAe1 hAe2
          subst hAe1 hAe2
          have hvj:isVal (n0:Int) l:=by rw[hej.out];exact HJ.out j hjk
          have hn':n'=n0:=by have h1:=hl.len;have h2:=hvj.1;omega
          subst hn';obtain⟨bq,oq,t,rfl,hbq,cq,eq⟩:=hl.at_ hlt
          have hyc:Hid ((Wq L p).getD j 0=t):=hid (by rw[Yd0 (by rw[hll.out];exact hjk),<-hej.out,<-eq.out])
          have hjl:Hid (j<(Wq L p).length):=hid (by rw[Je,hll.out];exact hjk)
          have j0:(0:Int)<=(j:Int):=by omega
          have j1:(j:Int)<(k:Int):=by omega
          obtain⟨E,le,de,rfl,_⟩:=hO.Yr
          have hzi:=hbi.size
          clear eq hej hvj hl g0 cx0;go_wp2_with (at_builtin;refine Yo rfl _ _ rfl wo.heap.size _ _ rfl (hO.alloc _) _ rfl t (Y6 _ _ _ _ (by simp)) (cw (bn j _) (by omega)) (by rw[az];omega) ?_)
          intro u wj hO2 hG2;obtain⟨E',le',de',rfl,_⟩:=hO2.Yr;rw[Zt hjl.out hyc.out]at hO2
          have hbj:Below wo.heap.size wo wj:=(hbi.alloc hzi _).trans (hG2.Yw (by simp;omega) λq e=>(hO.lt q e).1)
          have hOj:=hid hO2
          have hBj:=hid hbj
          have hrj:=hr.below hbj hzr
          clear gj cq;obtain⟨b5,o5,A5,n5,c5,l5,hAe,_,gj,hl5,hej5⟩:=hrj.at_ hjk;injection hAe with hAe
          injection hAe with hAe1 hAe2
          subst hAe1 hAe2
          have hn5:n5=n':=by
           have h1:=hl5.len
           have h2:=(HJ.out j hjk).1
           rw[<-hej5.out]at h2;omega
          subst hn5;obtain⟨b6,o6,t6,rfl,_,c6,e6⟩:=hl5.at_ hlt;obtain rfl:t6=t:=by rw[e6.out,hej5.out,<-Yd0 (by rw[hll.out];exact hjk)];exact hyc.out
          clear hO2 hbj hG2 hO hbi hrj hl5 hej5 e6
          by_cases hm:t6<y
          ·by_cases hg:z<t6
           ·have hX2:Hid (t6=Wy (x0::(Wq L p).take (j+1))/\t6=Ws (x0::(Wq L p).take (j+1))):=hid (by
             rw[Jt hjl.out hyc.out,Km hjl.out hyc.out,<-hX.out.1,<-hX.out.2];omega)
            clear hX hyc hjl;go_wp2_with fail;go_roundw
            case rel=>exact⟨j+1,_,_,_,by omega,rfl,rfl,by go_num,rfl,hX2,hOj.out,hBj.out⟩
            case measure=>simp[intOf];omega
           ·have hX2:Hid (t6=Wy (x0::(Wq L p).take (j+1))/\z=Ws (x0::(Wq L p).take (j+1))):=hid (by
             rw[Jt hjl.out hyc.out,Km hjl.out hyc.out,<-hX.out.1,<-hX.out.2];omega)
            clear hX hyc hjl;go_wp2_with fail;go_roundw
            case rel=>exact⟨j+1,_,_,_,by omega,rfl,rfl,by go_num,rfl,hX2,hOj.out,hBj.out⟩
            case measure=>simp[intOf];omega
          ·by_cases hg:z<t6
           ·have hX2:Hid (y=Wy (x0::(Wq L p).take (j+1))/\t6=Ws (x0::(Wq L p).take (j+1))):=hid (by
             rw[Jt hjl.out hyc.out,Km hjl.out hyc.out,<-hX.out.1,<-hX.out.2];omega)
            clear hX hyc hjl;go_wp2_with fail;go_roundw
            case rel=>exact⟨j+1,_,_,_,by omega,rfl,rfl,by go_num,rfl,hX2,hOj.out,hBj.out⟩
            case measure=>simp[intOf];omega
           ·have hX2:Hid (y=Wy (x0::(Wq L p).take (j+1))/\z=Ws (x0::(Wq L p).take (j+1))):=hid (by
             rw[Jt hjl.out hyc.out,Km hjl.out hyc.out,<-hX.out.1,<-hX.out.2];omega)
            clear hX hyc hjl;go_wp2_with fail;go_roundw
            case rel=>exact⟨j+1,_,_,_,by omega,rfl,rfl,by go_num,rfl,hX2,hOj.out,hBj.out⟩
            case measure=>simp[intOf];omega
         ·obtain rfl:j=k:=by omega
          have hT5:=hT.below hbi
          have hRr5:=hRr.below hbi hRr.lt
          have hber5:=hber.trans (hbi.mono hber.size)
          have hcl:Hid ((Wq L p).take j=Wq L p):=hid (ai (by rw[Je,hll.out];exact ae _))
          rw[hcl.out]at hX hO
          have hpos:Hid (0<(Wq L p).length):=hid (by rw[Je,hll.out];omega)
          have hyz:Hid (Fm.getD p 0=y/\Fx.getD p 0=z):=hid (by
           have h1:=gF.out p hlt
           rw[h1.2.1,h1.2.2,hX.out.1,hX.out.2,<-hx0.out,Ysz hpos.out,Yss hpos.out];exact⟨rfl,rfl⟩)
          obtain⟨E,le,de,rfl,hE,_⟩:=hO.Yr;obtain⟨sm,bm,hs⟩: ∃sm bm,Hid (Ylz (Y4 (Wq L p)) sm bm):=by
           obtain⟨z,b,h⟩:=Ybq (Y4 (Wq L p));exact⟨z,b,hid h⟩
          have hI2:I64 (Wq L p):=by
           intro q hq
           have:=Bz (m:=n0) HV.out hlt q hq
           unfold inV at this;omega
          have HT:=hid (Yam hE (by have:=hE.len;rw[Je,hll.out]at this;omega) hI2 hs.out)
          clear hI2 hE hO hT hRr hber hr cx0 g0 hX hcl hpos
          have hzi:=hbi.size
          go_wp2_with fail;refine HT.out.mono ?_;rintro e w5 ⟨rfl,hb5⟩
          have hT6:=hT5.below hb5
          have hR6:=hRr5.below hb5 hRr5.lt
          have hbe6:=hber5.trans (hb5.mono hber5.size)
          clear hT5 hRr5 hber5 hbi hb5 HT
          rcases hs.out with⟨hin,hz,rfl⟩|⟨hin,rfl,_⟩
          ·have hy:Hid (Fs.getD p 0=sm):=hid ((gF.out p hlt).1.trans hz.symm)
           have hQ2:Hid (∀j,j<p+1->inS (Y4 (Wq L j))):=hid λj hj=>by
            by_cases h:j<p
            ·exact hQ.out j h
            ·obtain rfl:j=p:=by omega
             exact hin
           clear hin hz hs hR6 hbe6 hQ
           have g1:w5.cell? ⟨s,1,none⟩=some (.slice E1 l1 d1):=hT6.blk.cell 1
           go_wp2_with (at_builtin;refine Yo rfl _ _ rfl w1.heap.size _ _ rfl (hT6.alloc _).r1 _ rfl sm (Y6 _ _ _ _ (by simp)) (cw (bn p _) (by omega)) (hT6.alloc _).bel.size ?_)
           intro u1 w11 hO1 hG1;obtain⟨F1,j1,t1,rfl,_⟩:=hO1.Yr;obtain⟨hB1,hA1⟩:=(hT6.alloc _).Yof hO1 hG1
           have x0':=hB1.cell 1
           have x1':=hB1.free 1
           have x2:(w11.setCell ⟨s,1,none⟩ (.slice F1 j1 t1)).cell? ⟨s,2,none⟩=some (.slice E2 l2 d2):=hA1.blk.cell 2
           clear hT6 g1 hO1 hG1 hB1;go_wp2_with (at_builtin;refine Yo rfl _ _ rfl w1.heap.size _ _ rfl (hA1.alloc _).r2 _ rfl y (Y6 _ _ _ _ (by simp)) (cw (bn p _) (by omega)) (hA1.alloc _).bel.size ?_)
           intro u2 w12 hO2 hG2;obtain⟨F2,j2,t2,rfl,_⟩:=hO2.Yr;obtain⟨hB2,hA2⟩:=(hA1.alloc _).Ymg hO2 hG2
           have y0:=hB2.cell 2
           have y1:=hB2.free 2
           have y2:(w12.setCell ⟨s,2,none⟩ (.slice F2 j2 t2)).cell? ⟨s,3,none⟩=some (.slice E3 l3 d3):=hA2.blk.cell 3
           clear hA1 x0' x1' x2 hO2 hG2 hB2;go_wp2_with (at_builtin;refine Yo rfl _ _ rfl w1.heap.size _ _ rfl (hA2.alloc _).r3 _ rfl z (Y6 _ _ _ _ (by simp)) (cw (bn p _) (by omega)) (hA2.alloc _).bel.size ?_)
           intro u3 w13 hO3 hG3;obtain⟨F3,j3,t3,rfl,_⟩:=hO3.Yr;obtain⟨hB3,hA3⟩:=(hA2.alloc _).Ym2 hO3 hG3
           have z0:=hB3.cell 3
           have z1:=hB3.free 3
           rw[Zt (by rw[lF.out.1];exact hlt) hy.out,Zt (by rw[lF.out.2.1];exact hlt) hyz.out.1,Zt (by rw[lF.out.2.2];exact hlt) hyz.out.2]at hA3
           have hA4:=hid hA3
           clear hA2 y0 y1 y2 hO3 hG3 hB3 hA3;go_wp2_with fail;go_roundw
           case rel=>exact⟨p+1,_,_,_,by omega,by go_num,hQ2,hA4.out⟩
           case measure=>simp[intOf];omega
          ·have hZ:Hid (Vf n0 L=(Yl,14)):=hid (by
            rw[hZp.out,if_neg];intro h;exact hin (h p hlt))
           clear hin hs hT6
           have r0:w5.cell? ⟨w.heap.size,0,none⟩=some (.int .i64 0):=hR6.cell 0
           have r1:w5.cell? ⟨w.heap.size,1,none⟩=some (.slice none 0 0):=hR6.cell 1
           have r2:w5.cell? ⟨w.heap.size,2,none⟩=some (.slice none 0 0):=hR6.cell 2
           have r3:w5.cell? ⟨w.heap.size,3,none⟩=some (.slice none 0 0):=hR6.cell 3
           have f0:=hR6.free 0
           have f1:=hR6.free 1
           have f2:=hR6.free 2
           have f3:=hR6.free 3
           have hRR:=hid (hR6.Zp (.int .i64 0) (.slice none 0 0) (.slice none 0 0) (.slice none 0 0))
           have hRB:=hid (Yq hbe6 (ae _) (.int .i64 0) (.slice none 0 0) (.slice none 0 0) (.slice none 0 0))
           go_wp2_with fail;refine bodyPost_ret (Ye rfl _ _ w.heap.size _ _ rfl hRR.out af rfl Yz) rfl ?_;rw[hZ.out];exact⟨⟨_,_,_,rfl,Xq _ _⟩,hRB.out⟩
       ·obtain rfl:p=m:=by omega
        have hS1:Fs.take p=Fs:=ai (by rw[lF.out.1];exact ae _)
        have hS2:Fm.take p=Fm:=ai (by rw[lF.out.2.1];exact ae _)
        have hS3:Fx.take p=Fx:=ai (by rw[lF.out.2.2];exact ae _)
        rw[hS1,hS2,hS3]at hT
        have s0:wr.cell? ⟨s,0,none⟩=some (.int .i64 k):=hT.blk.cell 0
        have s1:wr.cell? ⟨s,1,none⟩=some (.slice E1 l1 d1):=hT.blk.cell 1
        have s2:wr.cell? ⟨s,2,none⟩=some (.slice E2 l2 d2):=hT.blk.cell 2
        have s3:wr.cell? ⟨s,3,none⟩=some (.slice E3 l3 d3):=hT.blk.cell 3
        have hrl:w.heap.size<w1.heap.size:=hR.lt
        have r0:wr.cell? ⟨w.heap.size,0,none⟩=some (.int .i64 0):=hRr.cell 0
        have r1:wr.cell? ⟨w.heap.size,1,none⟩=some (.slice none 0 0):=hRr.cell 1
        have r2:wr.cell? ⟨w.heap.size,2,none⟩=some (.slice none 0 0):=hRr.cell 2
        have r3:wr.cell? ⟨w.heap.size,3,none⟩=some (.slice none 0 0):=hRr.cell 3
        have f0:=hRr.free 0
        have f1:=hRr.free 1
        have f2:=hRr.free 2
        have f3:=hRr.free 3
        have hZ:Hid (Vf p L=(((k:Int),Fs,Fm,Fx),0)):=hid (by rw[hZp.out,if_pos hQ.out])
        have hO:=hT.own.Zp hrl (.int .i64 k) (.slice E1 l1 d1) (.slice E2 l2 d2) (.slice E3 l3 d3)
        have hRR:=hid (hRr.Zp (.int .i64 k) (.slice E1 l1 d1) (.slice E2 l2 d2) (.slice E3 l3 d3))
        have hRB:=hid (Yq hber (ae _) (.int .i64 k) (.slice E1 l1 d1) (.slice E2 l2 d2) (.slice E3 l3 d3))
        have hRO:=hid (hO.low (au hrl))
        clear hO hT hr;go_wp2_with fail;refine bodyPost_ret (Ye rfl _ _ w.heap.size _ _ rfl hRR.out af rfl Yz) rfl ?_;rw[hZ.out];exact⟨⟨_,_,_,rfl,hRO.out⟩,hRB.out⟩
theorem Yg8{c:PC}(h:c∈L):∃i,i<L.length/\L.getD i Yl=c:=by
 obtain⟨k,hk,rfl⟩:=bj.1 h;exact⟨k,hk,by rw[aa,ag hk];rfl⟩
theorem Yjh(L:List PC):Fu L=(L.getD 0 Yl).2.1.length:=by cases L <;> rfl
theorem R9(h:Xr w w.heap.size A n c L)(hn:n<=1000000):
  Calls an 106 #[.slice A n c] w (Qw w (Um L)):=by
 have hll:=hid h.len
 have hlm:=h.Ym
 have hcm:=h.Xf
 have hcap:=h.cap
 have hb0:=Yb w (.cells #[.int .i64 0,.slice none 0 0,.slice none 0 0,.slice none 0 0] 71)
 have hR:=Block.new w 71 #[.int .i64 0,.slice none 0 0,.slice none 0 0,.slice none 0 0]
 have h1:=h.Yc hb0
 by_cases h0:n=0
 ·subst h0
  have hZ:Hid (Um L=(Yl,1)):=hid (Kn (.inl (db hll.out)))
  go_enter dy,dw;go_wp2_with fail;refine bodyPost_ret (Ye rfl _ _ w.heap.size _ _ rfl hR af rfl Yz) rfl ?_;rw[hZ.out];exact⟨⟨_,_,_,rfl,Xq _ _⟩,hb0⟩
 ·have i2:(0:Int)<(n:Int):=by omega
  have i3:((n:Int)==0)=false:=by simp;omega
  obtain⟨r,hr⟩: ∃r:Bool,Hid (r=true↔∀i,i<n->Zo (L.getD i Yl)/\(L.getD i Yl).2.1.length=(L.getD 0 Yl).2.1.length):=⟨decide (∀i,i<n->Zo (L.getD i Yl)/\(L.getD i Yl).2.1.length=(L.getD 0 Yl).2.1.length),hid (by simp)⟩
  have hA:=hid (Yo7 h1 hr.out)
  go_enter dy,dw;go_wp2_with fail;refine hA.out.mono ?_;rintro e w1 ⟨rfl,hb1⟩
  have hR1:=hR.below hb1 hR.lt
  have hbe:=Ya hb0 hb1
  have h2:=h1.Yc hb1
  clear hA hb1 hb0 h1 hR h
  have r0:w1.cell? ⟨w.heap.size,0,none⟩=some (.int .i64 0):=hR1.cell 0
  have r1:w1.cell? ⟨w.heap.size,1,none⟩=some (.slice none 0 0):=hR1.cell 1
  have r2:w1.cell? ⟨w.heap.size,2,none⟩=some (.slice none 0 0):=hR1.cell 2
  have r3:w1.cell? ⟨w.heap.size,3,none⟩=some (.slice none 0 0):=hR1.cell 3
  have f0:=hR1.free 0
  have f1:=hR1.free 1
  have f2:=hR1.free 2
  have f3:=hR1.free 3
  cases r
  ·have hZ:Hid (Um L=(Yl,1)):=hid (Kn (.inr (by
    apply bo;intro hno
    have:false=true:=hr.out.2 λi hi=>by
     have hm:L.getD i Yl∈L:=by
      rw[aa,ag (by rw[hll.out];exact hi)]
      exact br _
     have h3:¬(¬Zo (L.getD i Yl)∨(L.getD i Yl).2.1.length≠Fu L):=λh=>hno ⟨_,hm,h⟩
     rw[Yjh]at h3;exact⟨bo λh=>h3 (.inl h),bo λh=>h3 (.inr h)⟩
    cases this)))
   have hRR:=hid (hR1.Zp (.int .i64 0) (.slice none 0 0) (.slice none 0 0) (.slice none 0 0))
   have hRB:=hid (Yq hbe (ae _) (.int .i64 0) (.slice none 0 0) (.slice none 0 0) (.slice none 0 0))
   clear hr;go_wp2_with fail;refine bodyPost_ret (Ye rfl _ _ w.heap.size _ _ rfl hRR.out af rfl Yz) rfl ?_;rw[hZ.out];exact⟨⟨_,_,_,rfl,Xq _ _⟩,hRB.out⟩
  ·obtain⟨m,hm⟩: ∃m,Hid ((L.getD 0 Yl).2.1.length=m):=⟨_,hid rfl⟩
   have HAll:Hid (Ya1 m L):=hid λk hk=>by
    have:=hr.out.1 rfl k (by rw[<-hll.out];exact hk)
    exact⟨this.1,this.2.trans hm.out⟩
   have hm2:m<=2:=by
    have:=(HAll.out 0 (by rw[hll.out];omega))
    have h3:=this.1.1
    rw[this.2]at h3;exact h3
   have HX:=hid (Yos h2)
   have hne:Hid (L≠[]):=hid λe=>by have:=hll.out;rw[e]at this;simp at this;omega
   clear hr;go_wp2_with fail;refine HX.out.mono ?_;rintro e w2 ⟨⟨x,rfl,hx⟩,hb2⟩
   have hR2:=hR1.below hb2 hR1.lt
   have hbe2:=Ya hbe hb2
   have h3:=h2.Yc hb2
   clear r0 r1 r2 r3 f0 f1 f2 f3 hR1 hbe h2 hb2 HX
   rcases hx with⟨k,hk,rfl,hf,hk0⟩|⟨rfl,hall⟩
   ·have h4:=h3.cut (au hk) (by omega)
    have HT:=hid (Ydi (m:=m) h4 (by omega) (by omega) hm2 (λj hj=>by
     rw[List.length_drop,hll.out]at hj
     have:=HAll.out (k+j) (by rw[hll.out];omega)
     have e:(L.drop k).getD j Yl=L.getD (k+j) Yl:=by simp[aa]
     rw[e];exact this) (by
     have e:(L.drop k).getD 0 Yl=L.getD k Yl:=by simp[aa]
     rw[e];exact hf))
    have hZ:Hid (Um L=Yf0 m (L.drop k)):=hid (Ycy hm2 hne.out HAll.out.mem λc hc=>by
     obtain⟨j,hj,rfl⟩:=Yg8 hc;rw[da]at hj
     have e:(L.take k).getD j Yl=L.getD j Yl:=by simp[aa,show j<k from by omega]
     rw[e]
     have h5:=hk0 j (by omega)
     have h6:=(R0 (HAll.out j (by rw[hll.out];omega)).1).1
     omega)
    have j0:(0:Int)<=(k:Int):=by omega
    have j1:(k:Int)<=(n:Int):=by omega
    have j2:(n:Int)<=(c:Int):=by omega
    have j3:(k:Int)<=(c:Int):=by omega
    have j4:¬(k:Int)<0:=by omega
    have j5:¬c=k:=by omega
    clear hf hk0 h3 h4;go_wp2_with fail;refine HT.out.mono ?_;rintro e w3 ⟨⟨v1,v2,v3,rfl,ho⟩,hb3⟩
    have hR3:=hR2.below hb3 hR2.lt
    have hbe3:=Ya hbe2 hb3
    have hrs:w.heap.size<w2.heap.size:=hR2.lt
    have r0:w3.cell? ⟨w.heap.size,0,none⟩=some (.int .i64 0):=hR3.cell 0
    have r1:w3.cell? ⟨w.heap.size,1,none⟩=some (.slice none 0 0):=hR3.cell 1
    have r2:w3.cell? ⟨w.heap.size,2,none⟩=some (.slice none 0 0):=hR3.cell 2
    have r3:w3.cell? ⟨w.heap.size,3,none⟩=some (.slice none 0 0):=hR3.cell 3
    have f0:=hR3.free 0
    have f1:=hR3.free 1
    have f2:=hR3.free 2
    have f3:=hR3.free 3
    obtain⟨A1,n1,c1,rfl,_⟩:=ho.s.Yr;obtain⟨A2,n2,c2,rfl,_⟩:=ho.m.Yr;obtain⟨A3,n3,c3,rfl,_⟩:=ho.x.Yr;obtain⟨q,S,M,X,y,hq⟩: ∃q S M X y,Hid (Yf0 m (L.drop k)=((q,S,M,X),y)):=⟨_,_,_,_,_,hid rfl⟩;rw[hq.out]at ho hZ⊢
    have hRR:=hid (hR3.Zp (.int .i64 q) (.slice A1 n1 c1) (.slice A2 n2 c2) (.slice A3 n3 c3))
    have hRB:=hid (Yq hbe3 (ae _) (.int .i64 q) (.slice A1 n1 c1) (.slice A2 n2 c2) (.slice A3 n3 c3))
    have hRO:=hid ((ho.Zp hrs (.int .i64 q) (.slice A1 n1 c1) (.slice A2 n2 c2) (.slice A3 n3 c3)).low (au hrs))
    clear ho HT hb3 hq;go_wp2_with fail;refine bodyPost_ret (Ye rfl _ _ w.heap.size _ _ rfl hRR.out af rfl Yz) rfl ?_;rw[hZ.out];exact⟨⟨_,_,_,rfl,hRO.out⟩,hRB.out⟩
   ·have hZ:Hid (Um L=(Y0 m,0)):=hid (Ybj hm2 hne.out HAll.out.mem λc hc=>by
     obtain⟨j,hj,rfl⟩:=Yg8 hc
     have h5:=hall j (by rw[<-hll.out];exact hj)
     have h6:=(R0 (HAll.out j hj).1).1
     omega)
    obtain⟨b,o,q,A1,n1,c1,A2,n2,c2,A3,n3,c3,S,M,X,rfl,hb,g0,g1,g2,g3,hC,hq⟩:=h3.at_ (k:=0) (by omega)
    rw[show o+0*4+1=o+1 from by omega]at g1
    obtain rfl:n1=m:=by
     have:=hm.out
     rw[hq.out]at this;rw[<-hC.s.len];exact this
    clear g0 g2 g3 hC hq h3 hall
    have HE:=hid λW=>Mz (n1:Int) W (m:=n1) (by omega)
    go_wp2_with fail;refine(HE.out _).mono ?_;rintro e w3 ⟨⟨e1,e2,e3,rfl,ho,_⟩,hb3⟩
    have hR3:=hR2.below hb3 hR2.lt
    have hbe3:=Ya hbe2 hb3
    have hrs:w.heap.size<w2.heap.size:=hR2.lt
    have r0:w3.cell? ⟨w.heap.size,0,none⟩=some (.int .i64 0):=hR3.cell 0
    have r1:w3.cell? ⟨w.heap.size,1,none⟩=some (.slice none 0 0):=hR3.cell 1
    have r2:w3.cell? ⟨w.heap.size,2,none⟩=some (.slice none 0 0):=hR3.cell 2
    have r3:w3.cell? ⟨w.heap.size,3,none⟩=some (.slice none 0 0):=hR3.cell 3
    have f0:=hR3.free 0
    have f1:=hR3.free 1
    have f2:=hR3.free 2
    have f3:=hR3.free 3
    have hRR:=hid (hR3.Zp (.int .i64 0) (.slice (some ⟨e1,0,none⟩) n1 n1) (.slice (some ⟨e2,0,none⟩) n1 n1) (.slice (some ⟨e3,0,none⟩) n1 n1))
    have hRB:=hid (Yq hbe3 (ae _) (.int .i64 0) (.slice (some ⟨e1,0,none⟩) n1 n1) (.slice (some ⟨e2,0,none⟩) n1 n1) (.slice (some ⟨e3,0,none⟩) n1 n1))
    have hRO:=hid ((ho.Zp hrs (.int .i64 0) (.slice (some ⟨e1,0,none⟩) n1 n1) (.slice (some ⟨e2,0,none⟩) n1 n1) (.slice (some ⟨e3,0,none⟩) n1 n1)).low (au hrs))
    clear ho HE hb3;go_wp2_with fail;refine bodyPost_ret (Ye rfl _ _ w.heap.size _ _ rfl hRR.out af rfl Yz) rfl ?_;rw[hZ.out];exact⟨⟨_,_,_,rfl,hRO.out⟩,hRB.out⟩
theorem Xr.Yxr
  (ha:Wi w w.heap.size A1 n1 c1 A2 n2 c2 A3 n3 c3 S M X) (hb:Wi w w.heap.size B1 m1 d1 B2 m2 d2 B3 m3 d3 S' M' X') (T:TypeId) (g:Nat) (hg:g=w.heap.size):
  Xr (w.alloc (.cells #[.int .i64 q,.slice A1 n1 c1,.slice A2 n2 c2,.slice A3 n3 c3,.int .i64 q',.slice B1 m1 d1,.slice B2 m2 d2,.slice B3 m3 d3] T)) (w.alloc (.cells #[.int .i64 q,.slice A1 n1 c1,.slice A2 n2 c2,.slice A3 n3 c3,.int .i64 q',.slice B1 m1 d1,.slice B2 m2 d2,.slice B3 m3 d3] T)).heap.size
   (some ⟨g,0,none⟩) 2 2 [(q,S,M,X),(q',S',M',X')]:=by
 subst hg;refine⟨rfl,ae _,by decide,(λh=>by cases h),λi hi=>?_⟩
 match i,hi with
 |0,_=>exact⟨w.heap.size,0,_,_,_,_,_,_,_,_,_,rfl,by simp,⟨by rw[Zq];rfl,by rw[Zq];rfl,by rw[Zq];rfl,by rw[Zq];rfl⟩,ha.Rz _⟩
 |1,_=>exact⟨w.heap.size,0,_,_,_,_,_,_,_,_,_,rfl,by simp,⟨by rw[Zq];rfl,by rw[Zq];rfl,by rw[Zq];rfl,by rw[Zq];rfl⟩,hb.Rz _⟩
 |(j+2),h=>exact absurd h (by omega)
theorem Ycm
  (ha:Wi w w.heap.size A1 n1 c1 A2 n2 c2 A3 n3 c3 S M X) (hb:Wi w w.heap.size B1 m1 d1 B2 m2 d2 B3 m3 d3 S' M' X'):
  Calls an 175 #[S6 q A1 n1 c1 A2 n2 c2 A3 n3 c3,S6 q' B1 m1 d1 B2 m2 d2 B3 m3 d3] w (Qw w (Zs (q,S,M,X) (q',S',M',X'))):=by
 have hb3:=Jc w (.cells #[.int .i64 q,.slice A1 n1 c1,.slice A2 n2 c2,.slice A3 n3 c3] 71) (.cells #[.int .i64 q',.slice B1 m1 d1,.slice B2 m2 d2,.slice B3 m3 d3] 71) (.cells #[.int .i64 0,.slice none 0 0,.slice none 0 0,.slice none 0 0] 71)
 have hR3:=Block.new ((w.alloc (.cells #[.int .i64 q,.slice A1 n1 c1,.slice A2 n2 c2,.slice A3 n3 c3] 71)).alloc (.cells #[.int .i64 q',.slice B1 m1 d1,.slice B2 m2 d2,.slice B3 m3 d3] 71)) 71 #[.int .i64 0,.slice none 0 0,.slice none 0 0,.slice none 0 0]
 simp only[az]at hR3
 have ha3:=ha.Yc hb3
 have hb3':=hb.Yc hb3
 go_enter Tryz.func175,Tryz.ntmps175;go_wp2_with fail
 have h4:=Xr.Yxr (q:=q) (q':=q') ha3 hb3' 71 (w.heap.size+1+1+1) (by simp)
 have hR4:=hR3.alloc (.cells #[.int .i64 q,.slice A1 n1 c1,.slice A2 n2 c2,.slice A3 n3 c3,.int .i64 q',.slice B1 m1 d1,.slice B2 m2 d2,.slice B3 m3 d3] 71)
 have hb4:=Ya hb3 (Yb (((w.alloc (.cells #[.int .i64 q,.slice A1 n1 c1,.slice A2 n2 c2,.slice A3 n3 c3] 71)).alloc (.cells #[.int .i64 q',.slice B1 m1 d1,.slice B2 m2 d2,.slice B3 m3 d3] 71)).alloc (.cells #[.int .i64 0,.slice none 0 0,.slice none 0 0,.slice none 0 0] 71)) (.cells #[.int .i64 q,.slice A1 n1 c1,.slice A2 n2 c2,.slice A3 n3 c3,.int .i64 q',.slice B1 m1 d1,.slice B2 m2 d2,.slice B3 m3 d3] 71))
 clear ha hb ha3 hb3 hb3' hR3;generalize (((w.alloc (.cells #[.int .i64 q,.slice A1 n1 c1,.slice A2 n2 c2,.slice A3 n3 c3] 71)).alloc (.cells #[.int .i64 q',.slice B1 m1 d1,.slice B2 m2 d2,.slice B3 m3 d3] 71)).alloc (.cells #[.int .i64 0,.slice none 0 0,.slice none 0 0,.slice none 0 0] 71)).alloc (.cells #[.int .i64 q,.slice A1 n1 c1,.slice A2 n2 c2,.slice A3 n3 c3,.int .i64 q',.slice B1 m1 d1,.slice B2 m2 d2,.slice B3 m3 d3] 71)=w4 at h4 hR4 hb4⊢
 have hr:w.heap.size<=w.heap.size+1+1:=by omega
 generalize w.heap.size+1+1=g at h4 hR4 hr⊢;refine(R9 h4 (by decide)).mono ?_
 rintro e w5 ⟨⟨v1,v2,v3,rfl,ho⟩,hb5⟩
 have hrs:g<w4.heap.size:=hR4.lt
 have hR5:=hR4.below hb5 hrs
 have hbe:=Ya hb4 hb5
 clear hb5
 have r0:w5.cell? ⟨g,0,none⟩=some (.int .i64 0):=hR5.cell 0
 have r1:w5.cell? ⟨g,1,none⟩=some (.slice none 0 0):=hR5.cell 1
 have r2:w5.cell? ⟨g,2,none⟩=some (.slice none 0 0):=hR5.cell 2
 have r3:w5.cell? ⟨g,3,none⟩=some (.slice none 0 0):=hR5.cell 3
 have f0:=hR5.free 0
 have f1:=hR5.free 1
 have f2:=hR5.free 2
 have f3:=hR5.free 3
 obtain⟨E1,l1,k1,rfl,_⟩:=ho.s.Yr;obtain⟨E2,l2,k2,rfl,_⟩:=ho.m.Yr;obtain⟨E3,l3,k3,rfl,_⟩:=ho.x.Yr;obtain⟨p,P,Q,R,y,hq⟩: ∃p P Q R y,Hid (Um [(q,S,M,X),(q',S',M',X')]=((p,P,Q,R),y)):=⟨_,_,_,_,_,hid rfl⟩
 have hZ:=hid (Yfl (q,S,M,X) (q',S',M',X'))
 rw[hq.out]at ho hZ
 have hRR:=hid (hR5.Zp (.int .i64 p) (.slice E1 l1 k1) (.slice E2 l2 k2) (.slice E3 l3 k3))
 have hRB:=hid (Yq hbe hr (.int .i64 p) (.slice E1 l1 k1) (.slice E2 l2 k2) (.slice E3 l3 k3))
 have hRO:=hid ((ho.Zp hrs (.int .i64 p) (.slice E1 l1 k1) (.slice E2 l2 k2) (.slice E3 l3 k3)).low hb4.size)
 rw[hq.out];clear ho hq h4 hbe;go_wp2_with fail;refine bodyPost_ret (Ye rfl _ _ g _ _ rfl hRR.out af rfl Yz) rfl ?_;rw[<-hZ.out];exact⟨⟨_,_,_,rfl,hRO.out⟩,hRB.out⟩
section
def Qf(xs:List Value)(L:List PC)(R:Value->Value->Value->PC->Prop):Prop:=
 ∀i q,L[i]?=some q->∃a b c,xs[4*i]?=some (.int .i64 q.1)/\xs[4*i+1]?=some a/\xs[4*i+2]?=some b/\xs[4*i+3]?=some c/\R a b c q
def Yw7(w:World)(B:Nat)(v:Value)(L:List PC)(R:Value->Value->Value->PC->Prop):Prop:=
 ∃xs,w.ownsRow B 71 4 v L.length xs/\Qf xs L R
def InC(w:World)(C:Nat)(a b c:Value)(q:PC):Prop:=
 (∃A1 n1 c1 A2 n2 c2 A3 n3 c3,a=.slice A1 n1 c1/\b=.slice A2 n2 c2/\c=.slice A3 n3 c3/\Wi w C A1 n1 c1 A2 n2 c2 A3 n3 c3 q.2.1 q.2.2.1 q.2.2.2)∨X7 w C a b c q.2.1 q.2.2.1 q.2.2.2
section
variable {w w' : World}{B C:Nat}{v:Value}{L:List PC}{R R' : Value->Value->Value->PC->Prop}
theorem Qf.mono{xs:List Value}(h:Qf xs L R)(hR:∀a b c q,R a b c q->R' a b c q):Qf xs L R':=λi q hi=>by
 obtain⟨a,b,c,h1,h2,h3,h4,h5⟩:=h i q hi;exact⟨a,b,c,h1,h2,h3,h4,hR _ _ _ _ h5⟩
theorem Qf.snoc{xs:List Value}(h:Qf xs L R)(hl:xs.length=L.length*4){q:PC}{a b c:Value}(hc:R a b c q):Qf (xs++[.int .i64 q.1,a,b,c]) (L++[q]) R:=λi q' hi=>by
 by_cases hlt:i<L.length
 ·rw[ak hlt]at hi
  obtain⟨a',b',c',h1,h2,h3,h4,h5⟩:=h i q' hi;exact⟨a',b',c',by rw[ak (by omega)];exact h1,by rw[ak (by omega)];exact h2,by rw[ak (by omega)];exact h3,by rw[ak (by omega)];exact h4,h5⟩
 ·have hie:i=L.length:=by
   have:=(List.getElem?_eq_some_iff.1 hi).1
   simp at this;omega
  subst hie;simp at hi;subst hi;refine⟨a,b,c,?_,?_,?_,?_,hc⟩
  ·rw[aq (by omega),show 4*L.length-xs.length=0 by omega];rfl
  ·rw[aq (by omega),show 4*L.length+1-xs.length=1 by omega];rfl
  ·rw[aq (by omega),show 4*L.length+2-xs.length=2 by omega];rfl
  ·rw[aq (by omega),show 4*L.length+3-xs.length=3 by omega];rfl
theorem InC.below{a b c:Value}{q:PC}(h:InC w C a b c q)(hb:Below w.heap.size w w')(hC:C<=w.heap.size):InC w' C a b c q:=by
 rcases h with⟨A1,n1,c1,A2,n2,c2,A3,n3,c3,h1,h2,h3,h4⟩|h
 ·exact .inl ⟨A1,n1,c1,A2,n2,c2,A3,n3,c3,h1,h2,h3,h4.below hb hC⟩
 ·exact .inr (h.below hb (ae _))
theorem InC.alloc{a b c:Value}{q:PC}(h:InC w C a b c q)(o:Obj)(hC:C<=w.heap.size):InC (w.alloc o) C a b c q:=h.below (Yb w o) hC
theorem InC.grown{a b c:Value}{q:PC}{n:Nat}{xs:List Value}(h:InC w C a b c q)(hrow:w.ownsRow C 71 4 v n xs)(hg:w.grownBy w' v.ownBlock)(hC:C<=w.heap.size):InC w' C a b c q:=by
 have hr:∀g,v.ownBlock=some g->C<=g:=λg hg=>(hrow.lt g hg).1
 rcases h with⟨A1,n1,c1,A2,n2,c2,A3,n3,c3,h1,h2,h3,h4⟩|h
 ·exact .inl ⟨A1,n1,c1,A2,n2,c2,A3,n3,c3,h1,h2,h3,⟨h4.s.grown hg hC hr,h4.m.grown hg hC hr,h4.x.grown hg hC hr⟩⟩
 ·exact .inr ⟨h.s.kept hg (V3 h.s hrow (by decide)),h.m.kept hg (V3 h.m hrow (by decide)),h.x.kept hg (V3 h.x hrow (by decide))⟩
theorem InC.read{a b c:Value}{q:PC}(h:InC w C a b c q)(hC:C<=w.heap.size):∃A1 n1 c1 A2 n2 c2 A3 n3 c3,a=.slice A1 n1 c1/\b=.slice A2 n2 c2/\c=.slice A3 n3 c3/\Wi w w.heap.size A1 n1 c1 A2 n2 c2 A3 n3 c3 q.2.1 q.2.2.1 q.2.2.2:=by
 rcases h with⟨A1,n1,c1,A2,n2,c2,A3,n3,c3,h1,h2,h3,h4⟩|h
 ·exact⟨A1,n1,c1,A2,n2,c2,A3,n3,c3,h1,h2,h3,h4.more hC⟩
 ·exact h.form
abbrev Nx(w:World)(B:Nat)(v:Value)(L:List PC):Prop:=Yw7 w B v L (InC w B)
theorem Nx.below(h:Nx w B v L)(hb:Below w.heap.size w w')(hB:B<=w.heap.size):Nx w' B v L:=by
 obtain⟨xs,h1,h2⟩:=h;exact⟨xs,Xi h1 hb,h2.mono λ_ _ _ _ h=>h.below hb hB⟩
theorem Nx.step{w1:World}{v' a b c:Value}{q:PC}{xs:List Value}(h1:w1.ownsRow B 71 4 v L.length xs)(h2:Qf xs L (InC w1 B))(hc:InC w1 B a b c q)(hB:B<=w1.heap.size)
  (hown:w'.ownsRow B 71 4 v' (L.length+1) (xs++[.int .i64 q.1,a,b,c])) (hgrow:w1.grownBy w' v.ownBlock):Nx w' B v' (L++[q]):=by
 have V0:∀(a b c:Value) (q:PC),InC w1 B a b c q->InC w' B a b c q:=λa b c q hh=>hh.grown h1 hgrow hB
 exact⟨_,by simpa using hown,(h2.mono V0).snoc h1.1 (V0 _ _ _ _ hc)⟩
theorem Nx.read(h:Nx w B v L)(hB:B<=w.heap.size):∃A c,v=.slice A L.length c/\Xr w w.heap.size A L.length c L:=by
 obtain⟨xs,h1,h2⟩:=h
 rcases h1.2 with⟨rfl,h0⟩|⟨g,cap,cur,rfl,hb,hg,hnc,hcm,_⟩
 ·rw[h0]
  exact⟨none,0,rfl,h0,ae _,ar _,λ_=>rfl,λi hi=>absurd hi (by omega)⟩
 ·refine⟨_,cap,rfl,rfl,hnc,hcm,(λh=>by cases h),λi hi=>?_⟩
  obtain⟨a,b,c,e1,e2,e3,e4,h5⟩:=h2 i (L.getD i Yl) (by rw[aa,ag hi];rfl)
  obtain⟨A1,n1,c1,A2,n2,c2,A3,n3,c3,rfl,rfl,rfl,hh⟩:=h5.read hB
  have hcell:=h1.cells (g:=g) rfl
  refine⟨g,0,A1,n1,c1,A2,n2,c2,A3,n3,c3,rfl,(Array.getElem?_eq_some_iff.1 hg).1,⟨?_,?_,?_,?_⟩,hh⟩
  ·have:=hcell _ _ e1
   rwa [Yu,show 0+4*i=0+i*4 from by omega]at this
  ·have:=hcell _ _ e2
   rwa [Yu,show 0+(4*i+1)=0+i*4+1 from by omega]at this
  ·have:=hcell _ _ e3
   rwa [Yu,show 0+(4*i+2)=0+i*4+2 from by omega]at this
  ·have:=hcell _ _ e4
   rwa [Yu,show 0+(4*i+3)=0+i*4+3 from by omega]at this
end
theorem Ydj(w:World)(x y z u:Value)(t:TypeId)(g:Nat)(hg:g=w.heap.size):∀j o,[x,y,z,u][j]?=some o->(w.alloc (.cells #[x,y,z,u] t)).cell? ((⟨g,0,none⟩:Addr).add j)=some o:=by
 intro j o hj;subst hg
 match j,hj with
 |0,hj=>simp at hj;subst hj;simp[Addr.add]
 |1,hj=>simp at hj;subst hj;simp[Addr.add]
 |2,hj=>simp at hj;subst hj;simp[Addr.add]
 |3,hj=>simp at hj;subst hj;simp[Addr.add]
 |(j+4),hj=>simp at hj
theorem Yr9(k:Int)(A1:Option Addr)(n1 c1:Nat)(A2:Option Addr)(n2 c2:Nat)(A3:Option Addr)(n3 c3:Nat):∀u∈[Value.int .i64 k,.slice A1 n1 c1,.slice A2 n2 c2,.slice A3 n3 c3],u.oneCell'=true:=by
 intro u hu;simp at hu
 rcases hu with rfl|rfl|rfl|rfl <;> rfl
def Up(m:Nat):Array Value:=madeCells #[.int .i64 0,.slice none 0 0,.slice none 0 0,.slice none 0 0] (m*4)
theorem Fv(m:Nat):(Up m).size=m*4:=by simp[Up,madeCells]
theorem Yhw(h:0<m):(Up m).toList.take 4=[.int .i64 0,.slice none 0 0,.slice none 0 0,.slice none 0 0]:=by
 apply List.ext_getElem
 ·simp[Fv];omega
 ·intro k h1 h2
  have hk:k<4:=by simpa using h2
  match k,hk with
  |0,_=>simp[Up,madeCells]
  |1,_=>simp[Up,madeCells]
  |2,_=>simp[Up,madeCells]
  |3,_=>simp[Up,madeCells]
theorem Ykf(m:Nat)(W:World)(h0:0<m)(hm:m<=1000000):(Instr.makeSlice 107 (.int .i64 1) (.int .i64 m)).run an W=.ok (.slice (some ⟨W.heap.size,0,none⟩) 1 m) (W.alloc (.cells (Up m) 71)):=by
 obtain⟨i,hi,hz,hy,hx⟩:=info_parts Oc
 have h:=run_make (P:=an) W 107 71 i _ dq hi hz .i64 .i64 1 m (by omega) (by omega) (by rw[hx];omega) (by omega)
 rw[hy,cz]at h;exact h
theorem Ykd(hb:Block w g 71 (Up m))(h:base<=g)(h0:0<m)(hm:m<=1000000):w.ownsRow base 71 4 (.slice (some ⟨g,0,none⟩) 1 m) 1 [.int .i64 0,.slice none 0 0,.slice none 0 0,.slice none 0 0]:=
 ⟨rfl,.inr ⟨g,m,Up m,rfl,h,hb,h0,by unfold maxLen;omega,Fv m,Yhw h0⟩⟩
theorem Yqg{a b c d:Value}(h:w.ownsRow base 71 4 (.slice (some ⟨g,0,none⟩) 1 m) 1 [a,b,c,d])(a' b' c' d':Value):
  (Sr w g a' b' c' d').ownsRow base 71 4 (.slice (some ⟨g,0,none⟩) 1 m) 1 [a',b',c',d']:=by
 have h1:=(ax h 0 a').1
 have h2:=(ax h1 1 b').1
 have h3:=(ax h2 2 c').1
 exact(ax h3 3 d').1
theorem X7.Yr0{base':Nat}{v1 v2 v3:Value}{xs:List Value}(h:X7 w base v1 v2 v3 S M X)(hr:w.ownsRow base' 71 4 (.slice (some ⟨g,0,none⟩) n m) n xs)(a' b' c' d':Value):X7 (Sr w g a' b' c' d') base v1 v2 v3 S M X:=by
 have hne:∀{v:Value}{l:List Int},Yi w base v l->v.ownBlock≠some g:=λh e=>by
  rcases V3 h hr (by decide)with h1|h1
  ·rw[e]at h1;cases h1
  ·exact h1 e
 have key:∀{v:Value}{l:List Int}{w:World},Yi w base v l->v.ownBlock≠some g->∀(j:Nat) (u:Value),Yi (w.setCell ⟨g,j,none⟩ u) base v l:=λh hn j u=>h.other hn u
 have n1:=hne h.s
 have n2:=hne h.m
 have n3:=hne h.x
 exact⟨key (key (key (key h.s n1 0 a') n1 1 b') n1 2 c') n1 3 d',key (key (key (key h.m n2 0 a') n2 1 b') n2 2 c') n2 3 d',key (key (key (key h.x n3 0 a') n3 1 b') n3 2 c') n3 3 d'⟩
theorem Yeu(x:Int){A:Option Addr}{n c:Nat}{L:List (List Int)}{w:World}(h:Tg w w.heap.size A n c L)(hn:n<=1000):
  Calls an 169 #[.int .i64 x,.slice A n c] w (Qw w (Vf x L)):=by
 have hll:=hid h.len
 have hcm:=h.Xf
 have hcap:=h.cap
 have hb0:=Yb w (.cells #[.int .i64 0,.slice none 0 0,.slice none 0 0,.slice none 0 0] 71)
 have hR:=Block.new w 71 #[.int .i64 0,.slice none 0 0,.slice none 0 0,.slice none 0 0]
 by_cases hx0:x<0
 ·have hZ:Hid (Vf x L=(Yl,1)):=hid (Tx (.inl hx0))
  go_enter di,dd;go_wp2_with fail;refine bodyPost_ret (Ye rfl _ _ w.heap.size _ _ rfl hR af rfl Yz) rfl ?_;rw[hZ.out];exact⟨⟨_,_,_,rfl,Xq _ _⟩,hb0⟩
 ·by_cases hx2:2<x
  ·have hZ:Hid (Vf x L=(Yl,1)):=hid (Tx (.inr (.inl hx2)))
   go_enter di,dd;go_wp2_with fail;refine bodyPost_ret (Ye rfl _ _ w.heap.size _ _ rfl hR af rfl Yz) rfl ?_;rw[hZ.out];exact⟨⟨_,_,_,rfl,Xq _ _⟩,hb0⟩
  ·obtain⟨m,rfl⟩: ∃m:Nat,x=(m:Int):=⟨x.toNat,by omega⟩
   have hm2:m<=2:=by omega
   have hZ:Hid (Um (Y0 m::L.map W6)=Vf m L):=hid (Ybl hm2 L (by rw[hll.out];exact hn))
   have HK:∀W:World,(Instr.makeSlice 107 (.int .i64 1) (.int .i64 ((n:Int)+1))).run an W=.ok (.slice (some ⟨W.heap.size,0,none⟩) 1 (n+1)) (W.alloc (.cells (Up (n+1)) 71)):=λW=>by
    have:=Ykf (n+1) W (by omega) (by omega)
    rwa [show((n+1:Nat):Int)=(n:Int)+1 from by omega]at this
   go_enter di,dd;go_wp2_with fail
   have hR2:=hR.alloc (.cells (Up (n+1)) 71)
   have hO:=Ykd (base:=w.heap.size+1) (Block.new (w.alloc (.cells #[.int .i64 0,.slice none 0 0,.slice none 0 0,.slice none 0 0] 71)) 71 (Up (n+1))) (by simp) (by omega) (by omega)
   have hb2:=Wz w (.cells #[.int .i64 0,.slice none 0 0,.slice none 0 0,.slice none 0 0] 71) (.cells (Up (n+1)) 71)
   rw[az]at hO;clear HK hR hb0;generalize (w.alloc (.cells #[.int .i64 0,.slice none 0 0,.slice none 0 0,.slice none 0 0] 71)).alloc (.cells (Up (n+1)) 71)=w2 at hR2 hO hb2⊢
   have hg:w.heap.size<w.heap.size+1:=by omega
   have hg2:w.heap.size+1<=w2.heap.size:=hR2.lt
   obtain⟨g,hge⟩: ∃g,Hid (w.heap.size+1=g):=⟨_,hid rfl⟩;rw[hge.out]at hO hg hg2⊢;refine(Mz (m:Int) _ (m:=m) (by omega)).mono ?_
   rintro e w3 ⟨⟨e1,e2,e3,rfl,ho,_⟩,hb3⟩
   have hR3:=hR2.below hb3 hR2.lt
   have hO3:=Xi hO hb3
   have hbe:=Ya hb2 hb3
   have s0:w3.cell? ⟨g,0,none⟩=some (.int .i64 0):=hO3.cellAt 0 (by decide)
   have s1:w3.cell? ⟨g,1,none⟩=some (.slice none 0 0):=hO3.cellAt 1 (by decide)
   have s2:w3.cell? ⟨g,2,none⟩=some (.slice none 0 0):=hO3.cellAt 2 (by decide)
   have s3:w3.cell? ⟨g,3,none⟩=some (.slice none 0 0):=hO3.cellAt 3 (by decide)
   have f0:=hO3.frozenAt 0
   have f1:=hO3.frozenAt 1
   have f2:=hO3.frozenAt 2
   have f3:=hO3.frozenAt 3
   have j2:(0:Int)<((n+1:Nat):Int):=by omega
   have hO4:=hid (Yqg hO3 (.int .i64 0) (.slice (some ⟨e1,0,none⟩) m m) (.slice (some ⟨e2,0,none⟩) m m) (.slice (some ⟨e3,0,none⟩) m m))
   have hC4:=hid ((ho.Yr0 hO3 (.int .i64 0) (.slice (some ⟨e1,0,none⟩) m m) (.slice (some ⟨e2,0,none⟩) m m) (.slice (some ⟨e3,0,none⟩) m m)).low hg2)
   have hne:g≠w.heap.size:=by omega
   have hR4:=hid ((((hR3.Zg g 0 (.int .i64 0) hne).Zg g 1 (.slice (some ⟨e1,0,none⟩) m m) hne).Zg g 2 (.slice (some ⟨e2,0,none⟩) m m) hne).Zg g 3 (.slice (some ⟨e3,0,none⟩) m m) hne)
   have hB4:=hid (Yq hbe (au hg) (.int .i64 0) (.slice (some ⟨e1,0,none⟩) m m) (.slice (some ⟨e2,0,none⟩) m m) (.slice (some ⟨e3,0,none⟩) m m))
   clear hO hO3 hR2 hR3 ho hb2 hb3 hbe hne;go_wp2_with fail;go_loopw [6,26] (λv i wr=>∃k:Nat,k<=n/\i=.int .i64 k/\Nx wr g v (Y0 m::(L.take k).map W6)/\Block wr w.heap.size 71 #[.int .i64 0,.slice none 0 0,.slice none 0 0,.slice none 0 0]/\Below w.heap.size w wr) (λ_ i _=>n-(intOf i).toNat)
   case atStart=>
    refine⟨0,ar _,rfl,⟨_,hO4.out,λi q hi=>?_⟩,hR4.out,hB4.out⟩
    match i,hi with
    |0,hi=>
     simp at hi;subst hi;exact⟨_,_,_,rfl,rfl,rfl,rfl,.inr hC4.out⟩
    |(i+1),hi=>simp at hi
   case round=>
    obtain⟨k,hk,rfl,hI,hRB,hbe⟩:=hrel;clear hO4 hC4 hR4 hB4 s0 s1 s2 s3 f0 f1 f2 f3
    by_cases hlt:k<n
    ·obtain⟨b,o,A',n',c',l,rfl,hb,g0,hl,he⟩:=(h.below hbe (ae _)).at_ hlt
     have i0:(0:Int)<=(k:Int):=by omega
     have i1:(k:Int)<(n:Int):=by omega
     go_wp2_with fail;refine(Yu4 A' n' c' _).mono ?_;rintro e w5 ⟨rfl,hb5⟩
     have hgz:g<=wr.heap.size:=by have:=hRB.lt;have:=hge.out;omega
     have hl5:=(hl.more (au hg)).below hb5 hgz
     have hI5:=Nx.below hI hb5 hgz
     have hbe5:=hbe.trans (hb5.mono hbe.size)
     have hRB5:=hRB.below hb5 hRB.lt
     clear hI hbe hRB hl g0 hb5;obtain⟨xs,hown,hcells⟩:=hI5;obtain⟨i9,hi9,hz0,hz1,hz2⟩:=info_parts Oc
     have hz5:g<=w5.heap.size:=by have:=hRB5.lt;have:=hge.out;omega
     have hz6:=hbe5.size
     obtain⟨N,hN,hNk⟩: ∃N,Hid ((Y0 m::(L.take k).map W6).length=N)/\N<=1001:=⟨_,hid rfl,by simp;omega⟩
     rw[hN.out]at hown;go_wp2_with (at_builtin;refine wpList_append_own _ rfl _ _ 107 rfl g 71 i9 _ 4 80 dq hi9 hz0 hz1 hz2 rfl (by decide) _ N xs rfl (hown.alloc _) _ 1 1 [.int .i64 1,.slice A' n' c',.slice A' n' c',.slice A' n' c'] rfl rfl (Ydj _ _ _ _ _ _ _ rfl) (Yr9 _ _ _ _ _ _ _ _ _ _) (by unfold maxLen;omega) (by omega) (by simp;omega) ?_)
     intro v6 w6 hown6 hgrow6 _
     have hlo:=λq e=>(hown.lt q e).1
     rw[<-hN.out]at hown hown6
     have hst:=hid (Nx.step (q:=W6 l) (hown.alloc _) (hcells.mono λ_ _ _ _ h=>h.alloc _ hz5) (.inl ⟨A',n',c',A',n',c',A',n',c',rfl,rfl,rfl,⟨hl5.alloc hz5 _,hl5.alloc hz5 _,hl5.alloc hz5 _⟩⟩) (by simp;omega) hown6 hgrow6)
     have hlist:Hid ((Y0 m::(L.take k).map W6)++[W6 l]=Y0 m::(L.take (k+1)).map W6):=hid (by
      rw[bg,cn,dc,he.out,aa,ag (by rw[hll.out];exact hlt)]
      rfl)
     rw[hlist.out]at hst
     have hB6:Below w.heap.size w w6:=(hbe5.alloc hz6 _).grown hgrow6 (by simp;omega) (λq e=>by have:=hlo q e;omega)
     have hR6:Block w6 w.heap.size 71 #[.int .i64 0,.slice none 0 0,.slice none 0 0,.slice none 0 0]:=by
      refine(hRB5.alloc _).grown hgrow6 λe=>?_
      have:=hlo _ e
      omega
     clear hown hcells hown6 hgrow6 hbe5 hRB5 hl5;go_wp2_with fail;go_roundw
     case rel=>exact⟨k+1,by omega,by go_num,hst.out,hR6,hB6⟩
     case measure=>simp[intOf];omega
    ·obtain rfl:k=n:=by omega
     have hgz:g<=wr.heap.size:=by have:=hRB.lt;have:=hge.out;omega
     have hLk:Hid (L.take k=L):=hid (ai (by rw[hll.out];exact ae _))
     rw[hLk.out]at hI;obtain⟨A5,c5,hv,hH⟩:=Nx.read hI hgz;obtain⟨N,hN,hNk⟩: ∃N,Hid ((Y0 m::L.map W6).length=N)/\N<=1001:=⟨_,hid rfl,by simp;rw[hll.out];exact hn⟩
     rw[hN.out]at hv hH;subst hv
     have hS:=hid (R9 hH (by omega))
     have hrl:=hRB.lt
     clear hI hH;go_wp2_with fail;refine hS.out.mono ?_;rintro e w5 ⟨⟨v1,v2,v3,rfl,ho⟩,hb5⟩
     have hR5:=hRB.below hb5 hrl
     have hbe5:=hbe.trans (hb5.mono hbe.size)
     clear hb5 hS
     have r0:w5.cell? ⟨w.heap.size,0,none⟩=some (.int .i64 0):=hR5.cell 0
     have r1:w5.cell? ⟨w.heap.size,1,none⟩=some (.slice none 0 0):=hR5.cell 1
     have r2:w5.cell? ⟨w.heap.size,2,none⟩=some (.slice none 0 0):=hR5.cell 2
     have r3:w5.cell? ⟨w.heap.size,3,none⟩=some (.slice none 0 0):=hR5.cell 3
     have f0:=hR5.free 0
     have f1:=hR5.free 1
     have f2:=hR5.free 2
     have f3:=hR5.free 3
     obtain⟨E1,l1,k1,rfl,_⟩:=ho.s.Yr;obtain⟨E2,l2,k2,rfl,_⟩:=ho.m.Yr;obtain⟨E3,l3,k3,rfl,_⟩:=ho.x.Yr;obtain⟨p,P,Q,R,y,hq⟩: ∃p P Q R y,Hid (Um (Y0 m::L.map W6)=((p,P,Q,R),y)):=⟨_,_,_,_,_,hid rfl⟩;rw[hq.out]at ho hZ
     have hRR:=hid (hR5.Zp (.int .i64 p) (.slice E1 l1 k1) (.slice E2 l2 k2) (.slice E3 l3 k3))
     have hRBb:=hid (Yq hbe5 (ae _) (.int .i64 p) (.slice E1 l1 k1) (.slice E2 l2 k2) (.slice E3 l3 k3))
     have hRO:=hid ((ho.Zp hrl (.int .i64 p) (.slice E1 l1 k1) (.slice E2 l2 k2) (.slice E3 l3 k3)).low (au hrl))
     rw[hq.out];clear ho hq hbe hbe5 hRB;go_wp2_with fail;refine bodyPost_ret (Ye rfl _ _ w.heap.size _ _ rfl hRR.out af rfl Yz) rfl ?_;rw[<-hZ.out];exact⟨⟨_,_,_,rfl,hRO.out⟩,hRBb.out⟩
end
end Go.Proofs.YtmepdkdeanbbaaaGreat
