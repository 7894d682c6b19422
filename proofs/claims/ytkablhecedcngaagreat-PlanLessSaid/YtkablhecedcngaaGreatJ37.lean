/- CellT, CellP, CellRT, CellU, CellRE, CellRM, CellRG, CellRF, CellS, CellF -/
import Derived.Test.YtkablhecedcngaaGreatJ10
import Derived.Test.YtkablhecedcngaaGreatJ14
import Derived.Test.YtkablhecedcngaaGreatJ32
namespace Go.Proofs.YtkablhecedcngaaGreat
set_option maxRecDepth 100000
set_option maxHeartbeats 8000000
open Go.RowKit
open Go.Lib (hid)
variable {L:List PC}{base c c1 c2 c3 d1 d2 d3 g i j k m m1 m2 m3 n n1 n2 n3:Nat}{w:World}{M M' S S' X X' l:List Int}{A A1 A2 A3 B1 B2 B3:Option Addr}{q q' x0 y:Int}
def Ru (l:List Int) (k:Nat):List Int:=l.take k++List.replicate (l.length - k) 0
theorem Oz (l:List Int):Ru l 0=List.replicate l.length 0:=by simp [Ru]
theorem Lc (l:List Int):Ru l l.length=l:=by simp [Ru]
theorem Le (h:k<l.length):(Ru l k).set k (l.getD k 0)=Ru l (k+1):=by
 apply List.ext_getElem?;intro j;unfold Ru;rw [List.getElem?_set]
 by_cases hj:k=j
 ·subst hj
  rw [if_pos rfl,if_pos (by simp; omega),List.getElem?_append_left (by simp; omega),List.getElem?_take,if_pos (by omega),List.getD_eq_getElem?_getD,List.getElem?_eq_getElem h]
  rfl
 ·rw [if_neg hj]
  by_cases hjk:j<k
  ·rw [List.getElem?_append_left (by simp; omega),List.getElem?_append_left (by simp; omega),List.getElem?_take,List.getElem?_take,if_pos hjk,if_pos (by omega)]
  ·rw [List.getElem?_append_right (by simp; omega),List.getElem?_append_right (by simp; omega),List.getElem?_replicate,List.getElem?_replicate,List.length_take,List.length_take]
   by_cases hl:j<l.length
   ·rw [if_pos (by omega),if_pos (by omega)]
   ·rw [if_neg (by omega),if_neg (by omega)]
theorem Rm (l:List Int) (k:Nat) (h:k≤l.length):(Ru l k).length=l.length:=by simp [Ru]; omega
def Pu (z:Int):Prop:=-9223372036854775808≤z∧z≤9223372036854775807
instance (z:Int):Decidable (Pu z):=by unfold Pu; exact inferInstance
theorem Yr1 (z:Int):Lp (z / 4294967296) (z % 4294967296)=z:=by unfold Lp; omega
theorem Fh (h:Z9 w w.heap.size A n c L) (hn:n≤1000000) (fid:Nat) (lb:Array Value) (f:PC→Int)
  (eg:∀ args W,(callFunc fid args).run Tryz.prog W=.ok (.enter fid args) W)
  (HF:∀ k,k<n→∀ q A1 n1 c1 A2 n2 c2 A3 n3 c3 S M X W,Below w.heap.size w W→Ww W W.heap.size A1 n1 c1 A2 n2 c2 A3 n3 c3 S M X→L.getD k Ym=(q,S,M,X) →
   Calls Tryz.prog fid (#[Mm q A1 n1 c1 A2 n2 c2 A3 n3 c3]++lb) W fun e w'=>e=.returned (.int .i64 (f (q,S,M,X)))∧Below W.heap.size W w')
  (hI:I64 (L.map f)) {z x:Int}(hs:(Pu (Y2 (L.map f))∧z=Y2 (L.map f)∧x=0)∨(¬ Pu (Y2 (L.map f))∧z=0∧x=14)) :
  Calls Tryz.prog 138 #[.slice A n c,.func (.func fid) #[] lb] w fun e w'=>e=.returned (.tuple #[.int .i64 z,.int .i64 x])∧Below w.heap.size w w':=by
 have hlm:=h.Yn
 have hll:=hid h.len
 have HI:=hid hI
 have HS:=hid hs
 have HFF:=hid HF
 clear hI hs HF
 have HK:∀ W:World,(Instr.makeSlice 27 (.int .i64 n) (.int .i64 n)).run Tryz.prog W=.ok (.slice (some ⟨W.heap.size,0,none⟩) n n) (W.alloc (.cells (Dp n) 3)):=fun W=>Bi n W (by omega)
 go_enter Tryz.func138,Tryz.ntmps138;go_wp2_with fail;clear HK
 have hO:Yf (w.alloc (.cells (Dp n) 3)) w.heap.size (.slice (some ⟨w.heap.size,0,none⟩) n n) (Ru (L.map f) 0):=by
  rw [Oz,List.length_map,hll.out];exact Li (Block.new w _ _) (Nat.le_refl _) hn
 have hb0:=Ya w (.cells (Dp n) 3)
 go_loopw [16] (fun i wr=>∃ k:Nat,k≤n∧i=.int .i64 k∧Yf wr w.heap.size (.slice (some ⟨w.heap.size,0,none⟩) n n) (Ru (L.map f) k)∧Below w.heap.size w wr) (fun i _=>n - (intOf i).toNat)
 case atStart=>exact ⟨0,Nat.zero_le _,rfl,hO,hb0⟩
 case round =>
  obtain ⟨k,hk,rfl,hR,hbe⟩:=hrel;clear hO hb0
  by_cases hlt:k<n
  ·obtain ⟨b,o,q,A1,n1,c1,A2,n2,c2,A3,n3,c3,S,M,X,rfl,hb,g0,g1,g2,g3,hC,hq⟩:=(h.below hbe (Nat.le_refl _)).at_ hlt
   have i0:(0:Int)≤(k:Int):=by omega
   have i1:(k:Int)<(n:Int):=by omega
   have hbx:=Ya wr (.cells #[.int .i64 q,.slice A1 n1 c1,.slice A2 n2 c2,.slice A3 n3 c3] 105)
   have hR1:=hR.alloc (.cells #[.int .i64 q,.slice A1 n1 c1,.slice A2 n2 c2,.slice A3 n3 c3] 105)
   have hB:=Block.new wr 105 #[.int .i64 q,.slice A1 n1 c1,.slice A2 n2 c2,.slice A3 n3 c3]
   have hbW:=hbe.trans (hbx.mono hbe.size)
   have hCW:=(hC.below hbx hbe.size).more hbW.size
   have HC:=hid (HFF.out k hlt q A1 n1 c1 A2 n2 c2 A3 n3 c3 S M X _ hbW hCW hq.out)
   have hfx:Hid ((L.map f).getD k 0=f (q,S,M,X)):=hid (by
    rw [List.getD_eq_getElem?_getD,List.getElem?_map,← hq.out,List.getD_eq_getElem?_getD,List.getElem?_eq_getElem (by rw [hll.out]; exact hlt)]
    rfl)
   generalize f (q,S,M,X)=y at HC hfx
   have hnx:Hid ((Ru (L.map f) k).set k y=Ru (L.map f) (k+1)):=hid (by rw [← hfx.out]; exact Le (by rw [List.length_map,hll.out]; exact hlt))
   have hkl:k<(Ru (L.map f) k).length:=by rw [Rm _ _ (by rw [List.length_map,hll.out]; omega),List.length_map,hll.out]; exact hlt
   clear hC hCW hR hbx;go_wp2_with fail;generalize wr.alloc (.cells #[.int .i64 q,.slice A1 n1 c1,.slice A2 n2 c2,.slice A3 n3 c3] 105)=W at hR1 hB hbW HC ⊢
   have k0:W.cell? ⟨wr.heap.size,0,none⟩=some (.int .i64 q):=hB.cell 0
   have k1:W.cell? ⟨wr.heap.size,1,none⟩=some (.slice A1 n1 c1):=hB.cell 1
   have k2:W.cell? ⟨wr.heap.size,2,none⟩=some (.slice A2 n2 c2):=hB.cell 2
   have k3:W.cell? ⟨wr.heap.size,3,none⟩=some (.slice A3 n3 c3):=hB.cell 3
   clear g0 g1 g2 g3 hB;go_wp2_with fail;refine HC.out.mono ?_;rintro e w2 ⟨rfl,hb2⟩
   have hR2:=hR1.below hb2 (Nat.le_refl _)
   have hbe2:=hbW.trans (hb2.mono hbW.size)
   have s0:=hR2.Jr k hkl
   have s1:=hR2.free k
   have hN:Hid (Yf (w2.setCell ⟨w.heap.size,k,none⟩ (.int .i64 y)) w.heap.size (.slice (some ⟨w.heap.size,0,none⟩) n n) (Ru (L.map f) (k+1))):=hid (by rw [← hnx.out]; exact hR2.Yo k y)
   have hNB:=hid (hbe2.setCell (p:=⟨w.heap.size,k,none⟩) (Nat.le_refl _) (.int .i64 y))
   clear hR1 hR2 hb2 hbW hbe hbe2 HC k0 k1 k2 k3;go_wp2_with fail;go_roundw
   case rel=>exact ⟨k+1,by omega,by go_num,hN.out,hNB.out⟩
   case measure=>simp [intOf]; omega
  ·obtain rfl:k=n:=by omega
   have hA:Yf wr w.heap.size (.slice (some ⟨w.heap.size,0,none⟩) k k) (L.map f):=by
    have h1:=Lc (L.map f)
    rw [List.length_map,hll.out] at h1
    rwa [h1] at hR
   have hH:=hA.has
   obtain ⟨s,hsd⟩ : ∃ s,Y2 (L.map f)=s:=⟨_,rfl⟩
   have HS2:=HS.out
   rw [hsd] at HS2
   have HS3:=hid HS2
   have hsd:=hid hsd
   clear HS2 HS hR hA
   by_cases hw:wIn s
   ·have HT:=hid (Yae _ k k _ wr hH hn HI.out (s / 4294967296) (s % 4294967296) 0 (.inl ⟨by rw [hsd.out]; exact hw,by rw [hsd.out],by rw [hsd.out],rfl⟩))
    have hwm:P6 (s / 4294967296) (s % 4294967296):=(Ybv s).2 hw
    clear hH;go_wp2_with fail;refine HT.out.mono ?_;rintro e w2 ⟨rfl,hb2⟩
    have hbe2:=hbe.trans (hb2.mono hbe.size)
    have hbx:=Ya w2 (.cells #[.int .i64 (s / 4294967296),.int .i64 (s % 4294967296)] 218)
    have hbe3:=hbe2.trans (hbx.mono hbe2.size)
    clear hb2 hbe HT
    have hI:=hid fun W=>Yqu (s / 4294967296) (s % 4294967296) W hwm z x (by
     rw [Yr1]
     rcases HS3.out with ⟨⟨a,b⟩,c,d⟩ | ⟨a,c,d⟩
     ·exact .inl ⟨a,b,c,d⟩
     ·exact .inr ⟨a,c,d⟩)
    clear hwm hw;go_wp2_with fail;refine (hI.out _).mono ?_;rintro e w3 ⟨rfl,hb3⟩
    have hbe4:=hbe3.trans (hb3.mono hbe3.size)
    clear hb3 hI;go_wp2_with fail;go_ret2;exact ⟨rfl,hbe4⟩
   ·have HT:=hid (Yae _ k k _ wr hH hn HI.out 0 0 14 (.inr ⟨by rw [hsd.out]; exact hw,rfl,rfl,rfl⟩))
    have hzx:z=0∧x=14:=by
     rcases HS3.out with ⟨h1,_⟩ | ⟨_,h1,h2⟩
     ·unfold Pu at h1
      unfold wIn at hw;omega
     ·exact ⟨h1,h2⟩
    obtain ⟨rfl,rfl⟩:=hzx;clear hH hw HS3;go_wp2_with fail;refine HT.out.mono ?_;rintro e w2 ⟨rfl,hb2⟩
    have hbe2:=hbe.trans (hb2.mono hbe.size)
    have hbx:=Ya w2 (.cells #[.int .i64 0,.int .i64 0] 218)
    have hbe3:=hbe2.trans (hbx.mono hbe2.size)
    clear hb2 hbe HT;go_wp2_with fail;go_ret2;exact ⟨rfl,hbe3⟩
def loL (L:List PC) (i:Nat):List Int:=(L.getD 0 Ym).2.2.1.getD i 0 :: (Y3 L).map fun c=>c.2.2.1.getD i 0
def hiL (L:List PC) (i:Nat):List Int:=(L.getD 0 Ym).2.2.2.getD i 0 :: (Y3 L).map fun c=>c.2.2.2.getD i 0
def loK (L:List PC) (i k:Nat):List Int:=(L.getD 0 Ym).2.2.1.getD i 0 :: (Y3 (L.take k)).map fun c=>c.2.2.1.getD i 0
def hiK (L:List PC) (i k:Nat):List Int:=(L.getD 0 Ym).2.2.2.getD i 0 :: (Y3 (L.take k)).map fun c=>c.2.2.2.getD i 0
theorem Qp (hk:k<L.length):Y3 (L.take (k+1))=Y3 (L.take k)++if (L.getD k Ym).1≠0 then [L.getD k Ym] else []:=by
 unfold Y3;rw [List.take_add_one,List.filter_append,List.getElem?_eq_getElem hk,List.getD_eq_getElem?_getD,List.getElem?_eq_getElem hk];simp only [Option.toList_some,Option.getD_some,List.filter_cons,List.filter_nil]
 congr 1
 by_cases h:L[k].1=0 <;> simp [h]
theorem Yn9 (hk:k<L.length) (h:(L.getD k Ym).1≠0):Wa (loK L i (k+1))=leS (Wa (loK L i k)) ((L.getD k Ym).2.2.1.getD i 0):=by
 unfold loK leS;rw [Qp hk,if_pos h,List.map_append,← List.cons_append];exact Br (by simp) _
theorem Ynh (hk:k<L.length) (h:(L.getD k Ym).1≠0):X7 (hiK L i (k+1))=grS (X7 (hiK L i k)) ((L.getD k Ym).2.2.2.getD i 0):=by
 unfold hiK grS;rw [Qp hk,if_pos h,List.map_append,← List.cons_append];exact Bj (by simp) _
theorem Yoa (hk:k<L.length) (h:(L.getD k Ym).1=0):loK L i (k+1)=loK L i k:=by
 unfold loK;rw [Qp hk,if_neg (by simpa using h),List.append_nil]
theorem Yni (hk:k<L.length) (h:(L.getD k Ym).1=0):hiK L i (k+1)=hiK L i k:=by
 unfold hiK;rw [Qp hk,if_neg (by simpa using h),List.append_nil]
theorem Ymr (h:Z9 w w.heap.size A n c L) (i m:Nat) (him:i<m) (hm2:m≤2) (h0:0<n)
  (HL:∀ k,k<n→0≤(L.getD k Ym).1∧(L.getD k Ym).2.2.1.length=m∧(L.getD k Ym).2.2.2.length=m) {a b:Int}(ha:a=Wa (loL L i)) (hb:b=X7 (hiL L i)) :
  Calls Tryz.prog 141 #[.slice A n c,.int .i64 i] w fun e w'=>e=.returned (.tuple #[.int .i64 a,.int .i64 b])∧Below w.heap.size w w':=by
 have hlm:=h.Yn
 have hll:=hid h.len
 have HLL:=hid HL
 have HA:=hid ha
 have HB:=hid hb
 clear HL ha hb;obtain ⟨p,o,q,A1,n1,c1,A2,n2,c2,A3,n3,c3,S,M,X,rfl,hp,g0,g1,g2,g3,hC,hq⟩:=h.at_ h0;rw [show o+0*4+2=o+2 from by omega] at g2
 rw [show o+0*4+3=o+3 from by omega] at g3
 have hl0:=HLL.out 0 h0
 rw [hq.out] at hl0;obtain ⟨_,hl2,hl3⟩:=hl0
 have e2:n2=m:=by rw [← hC.m.len]; exact hl2
 have e3:n3=m:=by rw [← hC.x.len]; exact hl3
 subst e2;obtain rfl:=e3;obtain ⟨b2,o2,lo,rfl,_,cm,em⟩:=hC.m.at_ him;obtain ⟨b3,o3,hi,rfl,_,cx,ex⟩:=hC.x.at_ him
 have HE:Hid (lo=Wa (loK L i 0)∧hi=X7 (hiK L i 0)):=hid (by
  unfold loK hiK;rw [hq.out];exact ⟨em.out,ex.out⟩)
 have i0:(0:Int)≤(i:Int):=by omega
 have i1:(i:Int)<(n3:Int):=by omega
 have i2:(0:Int)<(n:Int):=by omega
 clear g0 g1 hC hl2 hl3;go_enter Tryz.func141,Tryz.ntmps141;go_wp2_with fail;go_quiet (fail)
 have hb0:Below w.heap.size w (w.drewN nq):=below_drewN (Below.refl _ _) _
 generalize w.drewN nq=w0 at hb0 ⊢;clear g2 g3 cm cx i2;go_wp2_with fail;go_loopw [6,7,26] (fun a b j wr=>∃ (k:Nat) (x y:Int),k≤n∧a=.int .i64 x∧b=.int .i64 y∧j=.int .i64 k∧Hid (x=Wa (loK L i k)∧y=X7 (hiK L i k))∧Below w.heap.size w wr) (fun _ _ j _=>n - (intOf j).toNat)
 case atStart=>exact ⟨0,lo,hi,Nat.zero_le _,rfl,rfl,rfl,HE,hb0⟩
 case round =>
  obtain ⟨k,x,y,hk,rfl,rfl,rfl,hxy,hbe⟩:=hrel;clear hb0 HE
  by_cases hlt:k<n
  ·obtain ⟨p',o',q',A1,n1,c1,A2,n2,c2,A3,n3',c3,S,M,X,he,hp',g0,g1,g2,g3,hC,hq⟩:=(h.below hbe (Nat.le_refl _)).at_ hlt
   injection he with he
   injection he with he1 he2
   subst he1 he2
   have hl0:=HLL.out k hlt
   rw [hq.out] at hl0;obtain ⟨hq0,hl2,hl3⟩:=hl0
   have e2:n2=n3:=by rw [← hC.m.len]; exact hl2
   have e3:n3'=n3:=by rw [← hC.x.len]; exact hl3
   subst e2;obtain rfl:=e3
   have hq0:0≤q':=hq0
   have j0:(0:Int)≤(k:Int):=by omega
   have j1:(k:Int)<(n:Int):=by omega
   have hbx:=Ya wr (.cells #[.int .i64 q',.slice A1 n1 c1,.slice A2 n3' c2,.slice A3 n3' c3] 105)
   have hB:=Block.new wr 105 #[.int .i64 q',.slice A1 n1 c1,.slice A2 n3' c2,.slice A3 n3' c3]
   have hbW:=hbe.trans (hbx.mono hbe.size)
   have hCW:=hC.below hbx hbe.size
   clear hC hbx hl2 hl3;go_wp2_with fail;generalize wr.alloc (.cells #[.int .i64 q',.slice A1 n1 c1,.slice A2 n3' c2,.slice A3 n3' c3] 105)=W at hB hbW hCW ⊢;clear g0 g1 g2 g3
   have k0:W.cell? ⟨wr.heap.size,0,none⟩=some (.int .i64 q'):=hB.cell 0
   have k1:W.cell? ⟨wr.heap.size,1,none⟩=some (.slice A1 n1 c1):=hB.cell 1
   have k2:W.cell? ⟨wr.heap.size,2,none⟩=some (.slice A2 n3' c2):=hB.cell 2
   have k3:W.cell? ⟨wr.heap.size,3,none⟩=some (.slice A3 n3' c3):=hB.cell 3
   by_cases hf:0<q'
   ·have hX:Hid (leS x (M.getD i 0)=Wa (loK L i (k+1))∧grS y (X.getD i 0)=X7 (hiK L i (k+1))):=hid (by
     have hne:(L.getD k Ym).1≠0:=by rw [hq.out]; show q'≠0; omega
     rw [Yn9 (by rw [hll.out]; exact hlt) hne,Ynh (by rw [hll.out]; exact hlt) hne,← hxy.out.1,← hxy.out.2,hq.out]
     exact ⟨rfl,rfl⟩)
    go_wp2_with fail;refine (Ql q' A1 n1 c1 A2 n3' c2 A3 n3' c3 _ (r:=true) (by simpa using hf)).mono ?_
    rintro e w2 ⟨rfl,hb2⟩
    have hbe2:=hbW.trans (hb2.mono hbW.size)
    have hB2:=hB.below hb2 hB.lt
    have hC2:=hCW.below hb2 hbW.size
    obtain ⟨b2,o2,lo',rfl,_,cm,em⟩:=hC2.m.at_ him;obtain ⟨b3,o3,hi',rfl,_,cx,ex⟩:=hC2.x.at_ him;rw [← em.out,← ex.out] at hX
    have l2:w2.cell? ⟨wr.heap.size,2,none⟩=some (.slice (some ⟨b2,o2,none⟩) n3' c2):=hB2.cell 2
    have l3:w2.cell? ⟨wr.heap.size,3,none⟩=some (.slice (some ⟨b3,o3,none⟩) n3' c3):=hB2.cell 3
    clear k0 k1 k2 k3 hB hCW hB2 hC2 hb2 em ex hbW;go_wp2_with fail;go_quiet (first | (go_at_call 136; exact P1 (Ej x lo' _)) | (go_at_call 137; exact P1 (Jv y hi' _)))
    have hbe3:Below w.heap.size w (w2.drewN nq):=below_drewN hbe2 _
    generalize w2.drewN nq=w3 at hbe3 ⊢;clear l2 l3 cm cx hbe2;go_wp2_with fail;go_roundw
    case rel=>exact ⟨k+1,_,_,by omega,rfl,rfl,by go_num,hX,hbe3⟩
    case measure=>simp [intOf]; omega
   ·have hX:Hid (x=Wa (loK L i (k+1))∧y=X7 (hiK L i (k+1))):=hid (by
     have hne:(L.getD k Ym).1=0:=by rw [hq.out]; show q'=0; omega
     rw [Yoa (by rw [hll.out]; exact hlt) hne,Yni (by rw [hll.out]; exact hlt) hne]
     exact hxy.out)
    go_wp2_with fail;refine (Ql q' A1 n1 c1 A2 n3' c2 A3 n3' c3 _ (r:=false) (by simpa using hf)).mono ?_
    rintro e w2 ⟨rfl,hb2⟩
    have hbe2:=hbW.trans (hb2.mono hbW.size)
    clear k0 k1 k2 k3 hB hCW hb2 hbW;go_wp2_with fail;go_roundw
    case rel=>exact ⟨k+1,_,_,by omega,rfl,rfl,by go_num,hX,hbe2⟩
    case measure=>simp [intOf]; omega
  ·obtain rfl:k=n:=by omega
   have e1:x=a:=by rw [HA.out,hxy.out.1]; unfold loK loL; rw [List.take_of_length_le (by rw [hll.out]; exact Nat.le_refl _)]
   have e2:y=b:=by rw [HB.out,hxy.out.2]; unfold hiK hiL; rw [List.take_of_length_le (by rw [hll.out]; exact Nat.le_refl _)]
   subst e1 e2;go_wp2_with fail;go_ret2;exact ⟨rfl,hbe⟩
/-! ### Cells that may be,of one number of measures -/
def Dq (m:Nat) (L:List PC):Prop:=∀ k,k<L.length→Zm (L.getD k Ym)∧(L.getD k Ym).2.1.length=m
def Q6 (L:List PC) (k:Nat):List Int:=L.map fun c=>c.2.1.getD k 0
def Ye1 (m:Nat) (L:List PC):PC × Int:=if Zm (Yq m L) then (Yq m L,0) else (Ym,14)
theorem Sz {c:PC} (h:Zm c):0≤c.1∧c.1≤1099511627776:=by
 obtain ⟨n,S,M,X⟩:=c;obtain ⟨_,_,_,h1,h2,_⟩:=(S0 n S M X).1 h;exact ⟨h1,h2⟩
theorem Yhu {c:PC} (h:Zm c) {k:Nat}(hk:k<c.2.1.length):inS (c.2.1.getD k 0):=by
 obtain ⟨n,S,M,X⟩:=c;obtain ⟨_,_,_,_,_,h3⟩:=(S0 n S M X).1 h
 rcases h3 k hk with ⟨_,h,_⟩ | ⟨_,_,_,_,h,_⟩
 ·have h:S.getD k 0=0:=h
  show inS (S.getD k 0)
  rw [h];exact ⟨by decide,by decide⟩
 ·exact h
theorem Dq.mem (h:Dq m L):∀ c∈L,Zm c∧c.2.1.length=m:=by
 intro c hc;obtain ⟨k,hk,rfl⟩:=List.mem_iff_getElem.1 hc
 have:=h k hk
 rwa [List.getD_eq_getElem?_getD,List.getElem?_eq_getElem hk] at this
theorem Dq.Yt6 (h:Dq m L):I64 (L.map fun c=>c.1):=by
 intro x hx;obtain ⟨c,hc,rfl⟩:=List.mem_map.1 hx
 have:=Sz (h.mem c hc).1
 show -9223372036854775808≤c.1∧c.1≤9223372036854775807
 omega
theorem Dq.Yt7 (h:Dq m L) {k:Nat}(hk:k<m):I64 (Q6 L k):=by
 intro x hx;obtain ⟨c,hc,rfl⟩:=List.mem_map.1 hx;obtain ⟨h1,h2⟩:=h.mem c hc
 have:=Yhu h1 (k:=k) (by omega)
 unfold inS at this
 show -9223372036854775808≤c.2.1.getD k 0∧c.2.1.getD k 0≤9223372036854775807
 omega
theorem Df:∀ {l:List Int},(∀ x∈l,0≤x∧x≤1099511627776)→0≤Y2 l∧Y2 l≤1099511627776*(l.length:Int):=by
 intro l
 induction l with
 | nil=>intro _; simp [Y2]
 | cons x l ih =>
  intro h
  have h1:=h x (by simp)
  have h2:=ih fun y hy=>h y (by simp [hy])
  simp only [Y2,List.length_cons];omega
theorem Dq.count (h:Dq m L) (hn:L.length≤1000000):0≤Y2 (L.map fun c=>c.1)∧Pu (Y2 (L.map fun c=>c.1)):=by
 have h1:=Df (l:=L.map fun c=>c.1) (by
  intro x hx;obtain ⟨c,hc,rfl⟩:=List.mem_map.1 hx;exact Sz (h.mem c hc).1)
 rw [List.length_map] at h1;unfold Pu;omega
theorem Yex (L:List PC) (h:k<m):(Yq m L).2.1.getD k 0=Y2 (Q6 L k)∧(Yq m L).2.2.1.getD k 0=Wa ((Y3 L).map fun c=>c.2.2.1.getD k 0)∧(Yq m L).2.2.2.getD k 0=X7 ((Y3 L).map fun c=>c.2.2.2.getD k 0):=by
 simp [Yq,Q6,List.getD_eq_getElem?_getD,h]
theorem Ha (m:Nat) (L:List PC):(Yq m L).2.1.length=m∧(Yq m L).2.2.1.length=m∧(Yq m L).2.2.2.length=m:=by simp [Yq]
theorem Ypp (hk:k<m) (h:¬ Pu (Y2 (Q6 L k))):Ye1 m L=(Ym,14):=by
 unfold Ye1;rw [if_neg];intro hc
 have:=Yhu hc (k:=k) (by rw [(Ha m L).1]; exact hk)
 rw [(Yex L hk).1] at this;apply h;unfold inS at this;unfold Pu;omega
theorem Fz (h0:0<L.length) (h:0<(L.getD 0 Ym).1):L.getD 0 Ym∈Y3 L:=by
 rw [List.getD_eq_getElem?_getD,List.getElem?_eq_getElem h0] at h ⊢;refine List.mem_filter.2 ⟨List.getElem_mem h0,?_⟩;simp only [Option.getD_some] at h ⊢;simp only [decide_eq_true_eq];omega
theorem Yso (h0:0<L.length) (h:0<(L.getD 0 Ym).1) (i:Nat):Wa (loL L i)=Wa ((Y3 L).map fun c=>c.2.2.1.getD i 0):=by
 have hm:=Fz h0 h
 refine Kx (by simp [loL]) (fun e=>?_) fun x=>?_
 ·rw [List.map_eq_nil_iff] at e; rw [e] at hm; cases hm
 ·unfold loL
  rw [List.mem_cons];exact ⟨fun hx=>hx.elim (fun e=>by rw [e]; exact List.mem_map.2 ⟨_,hm,rfl⟩) id,.inr⟩
theorem Ysl (h0:0<L.length) (h:0<(L.getD 0 Ym).1) (i:Nat):X7 (hiL L i)=X7 ((Y3 L).map fun c=>c.2.2.2.getD i 0):=by
 have hm:=Fz h0 h
 refine Kw (by simp [hiL]) (fun e=>?_) fun x=>?_
 ·rw [List.map_eq_nil_iff] at e; rw [e] at hm; cases hm
 ·unfold hiL
  rw [List.mem_cons];exact ⟨fun hx=>hx.elim (fun e=>by rw [e]; exact List.mem_map.2 ⟨_,hm,rfl⟩) id,.inr⟩
def Yl4 (s z:Int) (b:Bool):Prop:=(inS s∧z=s∧b=true)∨(¬ inS s∧b=false∧((Pu s∧z=s)∨(¬ Pu s∧z=0)))
theorem Yln (s:Int):∃ z b,Yl4 s z b:=by
 by_cases h:inS s
 ·exact ⟨_,_,.inl ⟨h,rfl,rfl⟩⟩
 ·by_cases h2:Pu s
  ·exact ⟨_,_,.inr ⟨h,rfl,.inl ⟨h2,rfl⟩⟩⟩
  ·exact ⟨_,_,.inr ⟨h,rfl,.inr ⟨h2,rfl⟩⟩⟩
theorem Yg2 (h:Yx w w.heap.size A n c l) (hn:n≤10000) (hx:I64 l) {z:Int}{b:Bool}(hs:Yl4 (Y2 l) z b) :
  Calls Tryz.prog 127 #[.slice A n c] w fun e w'=>e=.returned (.tuple #[.int .i64 z,.bool b])∧Below w.heap.size w w':=by
 have hfar:Ypu (Y2 l):=by
  have h1:=Hb hx
  have h2:=h.len
  unfold Ypu;omega
 obtain ⟨s,hsd⟩ : ∃ s,Y2 l=s:=⟨_,rfl⟩;rw [hsd] at hs hfar
 have HT:=hid (Ybm A n c l w h hx)
 rw [hsd] at HT
 have HF:=hid hfar
 have HS:=hid hs
 clear hs hfar hsd hx h;go_enter Tryz.func127,Tryz.ntmps127;go_wp2_with fail;refine HT.out.mono ?_;rintro e w1 ⟨⟨v,rfl,ho⟩,hb1⟩;obtain ⟨g,k,rfl,hrow,-,-⟩:=Ni ho;clear HT ho
 by_cases h6:Pu s
 ·have hI:=hid (J4 _ _ _ s _ hrow HF.out s 0 (.inl ⟨h6.1,h6.2,rfl,rfl⟩))
  have hz:z=s:=by
   rcases HS.out with ⟨_,h,_⟩ | ⟨_,_,⟨_,h⟩ | ⟨h,_⟩⟩
   ·exact h
   ·exact h
   ·exact absurd h6 h
  subst hz
  have hb:Hid (inB z 4611686018427387904=b):=hid (by
   rw [Yr8]
   rcases HS.out with ⟨h,_,h2⟩ | ⟨h,h2,_⟩
   ·rw [h2]; simpa using h
   ·rw [h2]; simpa using h)
  clear hrow h6;go_wp2_with fail;refine hI.out.mono ?_;rintro e w2 ⟨rfl,q,hw2⟩
  have hb2:Below w.heap.size w w2:=by rw [hw2]; exact below_drewN hb1 q
  clear hw2 hI hb1;go_wp2_with fail;refine (Ah z 4611686018427387904 _ (by decide) (by decide)).mono ?_
  rintro e w3 ⟨rfl,rfl⟩;rw [hb.out];go_wp2_with fail;go_ret2;exact ⟨rfl,hb2⟩
 ·have hI:=hid (J4 _ _ _ s _ hrow HF.out 0 14 (.inr ⟨h6,rfl,rfl⟩))
  obtain ⟨rfl,rfl⟩ : z=0∧b=false:=by
   rcases HS.out with ⟨h,_⟩ | ⟨_,h,⟨h2,_⟩ | ⟨_,h2⟩⟩
   ·unfold inS at h
    unfold Pu at h6;omega
   ·exact absurd h2 h6
   ·exact ⟨h2,h⟩
  clear hrow h6;go_wp2_with fail;refine hI.out.mono ?_;rintro e w2 ⟨rfl,q,hw2⟩
  have hb2:Below w.heap.size w w2:=by rw [hw2]; exact below_drewN hb1 q
  clear hw2 hI hb1;go_wp2_with fail;go_ret2;exact ⟨rfl,hb2⟩
theorem Rv (x:Int) {A:Option Addr}{n c:Nat}{l:List Int}{w:World}(h:Yx w w.heap.size A n c l) {r:Bool}(hr:r=true↔isVal x l) :
  Calls Tryz.prog 122 #[.int .i64 x,.slice A n c] w fun e w'=>e=.returned (.bool r)∧w=w':=by
 have R:=hid hr
 have hll:=hid h.len
 have hlm:=h.Yn
 clear hr
 by_cases hx:(n:Int)=x
 ·subst hx
  have k0:((n:Int) != (n:Int))=false:=by simp
  go_enter Tryz.func122,Tryz.ntmps122;go_wp2_with fail;go_loop [5] (fun i=>∃ k:Nat,k≤n∧i=.int .i64 k∧Hid (∀ j,j<k→inV (l.getD j 0))) (fun i=>n - (intOf i).toNat)
  case atStart=>exact ⟨0,Nat.zero_le _,rfl,hid fun j hj=>absurd hj (by omega)⟩
  case round =>
   obtain ⟨k,hk,rfl,hJ⟩:=hrel
   by_cases hlt:k<n
   ·obtain ⟨b,o,y,rfl,_,cy,ey⟩:=h.at_ hlt
    have i0:(0:Int)≤(k:Int):=by omega
    have i1:(k:Int)<(n:Int):=by omega
    obtain ⟨b,hb⟩ : ∃ b,inB y 2305843009213693952=b:=⟨_,rfl⟩
    have hbP:Hid (b=true↔inV (l.getD k 0)):=hid (by rw [← hb,Yh4,← ey.out]; simp)
    have HI:Hid (∀ w,Calls Tryz.prog 146 #[.int .i64 y,.int .i64 2305843009213693952] w fun e w'=>e=.returned (.bool b)∧w=w'):=hid fun w=>by have:=Ah y 2305843009213693952 w (by decide) (by decide); rwa [hb] at this
    clear hb
    cases b
    ·have Z:Hid (r=false):=hid (by
      rw [Bool.eq_false_iff]; intro h
      have h1:=(R.out.1 h).2 (l.getD k 0) (by
       rw [List.getD_eq_getElem?_getD,List.getElem?_eq_getElem (by rw [hll.out]; exact hlt)]
       exact List.getElem_mem _)
      cases hbP.out.2 h1)
     go_wp2_with fail;refine (HI.out _).mono ?_;rintro e w2 ⟨rfl,rfl⟩;go_wp2_with fail;go_ret;exact ⟨Yd Z.out.symm,rfl⟩
    ·have hJ2:Hid (∀ j,j<k+1→inV (l.getD j 0)):=hid fun j hj=>by
      by_cases h:j<k
      ·exact hJ.out j h
      ·obtain rfl:j=k:=by omega
       exact hbP.out.1 rfl
     go_wp2_with fail;refine (HI.out _).mono ?_;rintro e w2 ⟨rfl,rfl⟩;go_wp2_with fail;go_round
     case rel=>exact ⟨k+1,by omega,by go_num,hJ2⟩
     case measure=>simp [intOf]; omega
   ·obtain rfl:k=n:=by omega
    have Z:Hid (r=true):=hid (R.out.2 ⟨by rw [hll.out],fun x hx=>by
     obtain ⟨j,hj,rfl⟩:=List.mem_iff_getElem.1 hx
     have:=hJ.out j (by rw [← hll.out]; exact hj)
     rwa [List.getD_eq_getElem?_getD,List.getElem?_eq_getElem hj] at this⟩)
    go_wp2_with fail;go_ret;exact ⟨Yd Z.out.symm,rfl⟩
 ·have Z:Hid (r=false):=hid (by
   rw [Bool.eq_false_iff]; intro h
   have:=(R.out.1 h).1
   rw [hll.out] at this;exact hx this)
  have k0:((n:Int) != x)=true:=by simpa using hx
  clear hx;go_enter Tryz.func122,Tryz.ntmps122;go_wp2_with fail;go_ret;exact ⟨Yd Z.out.symm,rfl⟩
section
structure U4 (w0 w:World) (s:Nat) (q:Int) (g1 g2 g3 m k1 k2 k3:Nat) (S M X:List Int):Prop where
 blk:Block w s 105 #[.int .i64 q,.slice (some ⟨g1,0,none⟩) m m,.slice (some ⟨g2,0,none⟩) m m,.slice (some ⟨g3,0,none⟩) m m]
 rs:Yf w w0.heap.size (.slice (some ⟨g1,0,none⟩) m m) (Ru S k1)
 rm:Yf w w0.heap.size (.slice (some ⟨g2,0,none⟩) m m) (Ru M k2)
 rx:Yf w w0.heap.size (.slice (some ⟨g3,0,none⟩) m m) (Ru X k3)
 bel:Below w0.heap.size w0 w
 n1:g1≠s
 n2:g2≠s
 n3:g3≠s
 hs:w0.heap.size≤s
section
variable {w0 w w' : World}{s g1 g2 g3 m k1 k2 k3:Nat}{q:Int}{S M X:List Int}
theorem U4.below (h:U4 w0 w s q g1 g2 g3 m k1 k2 k3 S M X) (hb:Below w.heap.size w w'):U4 w0 w' s q g1 g2 g3 m k1 k2 k3 S M X :=
 ⟨h.blk.below hb h.blk.lt,h.rs.below hb (Nat.le_refl _),h.rm.below hb (Nat.le_refl _),h.rx.below hb (Nat.le_refl _),h.bel.trans (hb.mono h.bel.size),h.n1,h.n2,h.n3,h.hs⟩
theorem U4.Qy {g:Nat}(h:g≠s):(Value.slice (some ⟨g,0,none⟩) m m).ownBlock≠some s:=by
 intro e;injection e with e
 exact h e
theorem U4.Yug (h:U4 w0 w s q g1 g2 g3 m k1 k2 k3 S M X) (q' : Int):U4 w0 (w.setCell ⟨s,0,none⟩ (.int .i64 q')) s q' g1 g2 g3 m k1 k2 k3 S M X :=
 ⟨h.blk.Yo 0 _,h.rs.other (Qy h.n1) _,h.rm.other (Qy h.n2) _,h.rx.other (Qy h.n3) _,h.bel.setCell (p:=⟨s,0,none⟩) h.hs _,h.n1,h.n2,h.n3,h.hs⟩
theorem U4.Ypi (h:U4 w0 w s q g1 g2 g3 m k1 k2 k3 S M X) (h12:g1≠g2) (h13:g1≠g3) (hl:S.length=m) (hk:k1<m) (y:Int) (hy:S.getD k1 0=y) :
  U4 w0 (w.setCell ⟨g1,k1,none⟩ (.int .i64 y)) s q g1 g2 g3 m (k1+1) k2 k3 S M X:=by
 subst hy;exact ⟨h.blk.Yl g1 k1 _ h.n1,by rw [← Le (by omega)]; exact h.rs.Yo k1 _,h.rm.other (Qy (Ne.symm h12)) _,h.rx.other (Qy (Ne.symm h13)) _,h.bel.setCell (p:=⟨g1,k1,none⟩) (h.rs.lt g1 rfl).1 _,h.n1,h.n2,h.n3,h.hs⟩
theorem U4.Ysz (h:U4 w0 w s q g1 g2 g3 m k1 k2 k3 S M X) (h12:g1≠g2) (h23:g2≠g3) (hl:M.length=m) (hk:k2<m) (y:Int) (hy:M.getD k2 0=y) :
  U4 w0 (w.setCell ⟨g2,k2,none⟩ (.int .i64 y)) s q g1 g2 g3 m k1 (k2+1) k3 S M X:=by
 subst hy;exact ⟨h.blk.Yl g2 k2 _ h.n2,h.rs.other (Qy h12) _,by rw [← Le (by omega)]; exact h.rm.Yo k2 _,h.rx.other (Qy (Ne.symm h23)) _,h.bel.setCell (p:=⟨g2,k2,none⟩) (h.rm.lt g2 rfl).1 _,h.n1,h.n2,h.n3,h.hs⟩
theorem U4.Yud (h:U4 w0 w s q g1 g2 g3 m k1 k2 k3 S M X) (h13:g1≠g3) (h23:g2≠g3) (hl:X.length=m) (hk:k3<m) (y:Int) (hy:X.getD k3 0=y) :
  U4 w0 (w.setCell ⟨g3,k3,none⟩ (.int .i64 y)) s q g1 g2 g3 m k1 k2 (k3+1) S M X:=by
 subst hy;exact ⟨h.blk.Yl g3 k3 _ h.n3,h.rs.other (Qy h13) _,h.rm.other (Qy h23) _,by rw [← Le (by omega)]; exact h.rx.Yo k3 _,h.bel.setCell (p:=⟨g3,k3,none⟩) (h.rx.lt g3 rfl).1 _,h.n1,h.n2,h.n3,h.hs⟩
end
abbrev P0 (w:World) (r:Nat) (a b c d:Value):World:=(((w.setCell ⟨r,0,none⟩ a).setCell ⟨r,1,none⟩ b).setCell ⟨r,2,none⟩ c).setCell ⟨r,3,none⟩ d
section
variable {w w' : World}{r base:Nat}{a b c d a' b' c' d' v1 v2 v3:Value}{T:TypeId}{S M X:List Int}
theorem Block.Zy (h:Block w r T #[a,b,c,d]) (a' b' c' d' : Value):Block (P0 w r a' b' c' d') r T #[a',b',c',d']:=(((h.Yo 0 a').Yo 1 b').Yo 2 c').Yo 3 d'
theorem X5.Zy (h:X5 w base v1 v2 v3 S M X) (hr:r<base) (a' b' c' d' : Value):X5 (P0 w r a' b' c' d') base v1 v2 v3 S M X:=by
 have key:∀ {v:Value}{l:List Int}{w:World},Yf w base v l→∀ (j:Nat) (u:Value),Yf (w.setCell ⟨r,j,none⟩ u) base v l:=fun h j u=>h.other (fun e=>by have:=(h.lt r e).1; omega) u
 exact ⟨key (key (key (key h.s 0 a') 1 b') 2 c') 3 d',key (key (key (key h.m 0 a') 1 b') 2 c') 3 d',key (key (key (key h.x 0 a') 1 b') 2 c') 3 d'⟩
theorem Y0 {B:Nat}(h:Below B w w') (hr:B≤r) (a' b' c' d' : Value):Below B w (P0 w' r a' b' c' d') :=
 (((h.setCell (p:=⟨r,0,none⟩) hr _).setCell (p:=⟨r,1,none⟩) hr _).setCell (p:=⟨r,2,none⟩) hr _).setCell (p:=⟨r,3,none⟩) hr _
end
theorem Ybs (h:Z9 w w.heap.size A n c L) (h0:0<n) (hn:n≤1000000) (hm:m≤2) (HL:Dq m L) (hf:0<(L.getD 0 Ym).1) :
  Calls Tryz.prog 116 #[.slice A n c] w (O6 w (Ye1 m L)):=by
 have hlm:=h.Yn
 have hll:=hid h.len
 have HLL:=hid HL
 have Hf:=hid hf
 obtain ⟨b,o,q,A1,n1,c1,A2,n2,c2,A3,n3,c3,S,M,X,rfl,hb,g0,g1,g2,g3,hC,hq⟩:=h.at_ h0;rw [show o+0*4+1=o+1 from by omega] at g1
 obtain rfl:n1=m:=by
  have:=(HL 0 (by rw [hll.out]; exact h0)).2
  rw [hq.out] at this;rw [← hC.s.len]; exact this
 clear HL hf g0 g2 g3 hC hq
 have i2:(0:Int)<(n:Int):=by omega
 have hs1:((w.alloc (.cells #[.int .i64 0,.slice none 0 0,.slice none 0 0,.slice none 0 0] 105))).cell? ⟨b,o+1,none⟩=some (.slice A1 n1 c1):=((Ya w _).cell (p:=⟨b,o+1,none⟩) hb).trans g1
 clear g1;go_enter Tryz.func116,Tryz.ntmps116;go_wp2_with fail;refine (Oh (n1:Int) _ (m:=n1) (by omega)).mono ?_
 rintro e w1 ⟨⟨e1,e2,e3,rfl,ho,d12,d13,d23⟩,hb1⟩
 have hR:=Block.new w 105 #[.int .i64 0,.slice none 0 0,.slice none 0 0,.slice none 0 0]
 have hbw:=Ya w (.cells #[.int .i64 0,.slice none 0 0,.slice none 0 0,.slice none 0 0] 105)
 have hrs:w.heap.size<(w.alloc (.cells #[.int .i64 0,.slice none 0 0,.slice none 0 0,.slice none 0 0] 105)).heap.size:=by simp
 clear hs1;generalize w.alloc (.cells #[.int .i64 0,.slice none 0 0,.slice none 0 0,.slice none 0 0] 105)=w0 at ho hb1 hR hbw hrs ⊢;obtain ⟨Q,Ss,Ms,Xs,hs⟩ : ∃ Q Ss Ms Xs,Yq n1 L=(Q,Ss,Ms,Xs):=⟨_,_,_,_,rfl⟩
 have HSC:=hid hs
 have hQ:Hid (Y2 (L.map fun c=>c.1)=Q):=hid (congrArg (·.1) hs)
 obtain ⟨l1,l2,l3⟩ : Ss.length=n1∧Ms.length=n1∧Xs.length=n1:=by
  have:=Ha n1 L
  rw [hs] at this;exact this
 clear hs
 have T1:U4 w0 (w1.alloc (.cells #[.int .i64 0,.slice (some ⟨e1,0,none⟩) n1 n1,.slice (some ⟨e2,0,none⟩) n1 n1,.slice (some ⟨e3,0,none⟩) n1 n1] 105)) w1.heap.size 0 e1 e2 e3 n1 0 0 0 Ss Ms Xs :=
  ⟨Block.new w1 _ _,by rw [Oz,l1]; exact ho.s.alloc _,by rw [Oz,l2]; exact ho.m.alloc _,by rw [Oz,l3]; exact ho.x.alloc _,Yb hb1 (Ya w1 _),
   Nat.ne_of_lt (ho.s.lt e1 rfl).2,Nat.ne_of_lt (ho.m.lt e2 rfl).2,Nat.ne_of_lt (ho.x.lt e3 rfl).2,hb1.size⟩
 clear ho hb1;go_wp2_with fail;generalize w1.alloc (.cells #[.int .i64 0,.slice (some ⟨e1,0,none⟩) n1 n1,.slice (some ⟨e2,0,none⟩) n1 n1,.slice (some ⟨e3,0,none⟩) n1 n1] 105)=w2 at T1 ⊢;generalize w1.heap.size=s at T1 ⊢
 have hbw2:=hbw.trans (T1.bel.mono hbw.size)
 refine (Fh (h.Yc hbw2) hn 139 #[] (fun c=>c.1) (fun _ _=>rfl) (fun k hk q A1 n1 c1 A2 n2 c2 A3 n3 c3 S M X W hW hC hq=>Ybc q A1 n1 c1 A2 n2 c2 A3 n3 c3 W) HLL.out.Yt6 (z:=Q) (x:=0) (.inl ⟨(HLL.out.count (by rw [hll.out]; exact hn)).2,hQ.out.symm,rfl⟩)).mono ?_
 rintro e w3 ⟨rfl,hb3⟩
 have T2:=T1.below hb3
 have s0:=T2.blk.cell 0
 have s1:=T2.blk.free 0
 have T3:=T2.Yug Q
 clear T1 T2 hb3 hbw2
 have s2:=T3.blk.cell 1
 go_wp2_with fail;generalize w3.setCell ⟨s,0,none⟩ (.int .i64 Q)=w4 at T3 s2 ⊢;clear s0 s1;go_loopw [26] (fun i wr=>∃ k:Nat,k≤n1∧i=.int .i64 k∧U4 w0 wr s Q e1 e2 e3 n1 k k k Ss Ms Xs) (fun i _=>n1 - (intOf i).toNat)
 case atStart=>exact ⟨0,Nat.zero_le _,rfl,T3⟩
 case round =>
  obtain ⟨k,hk,rfl,T4⟩:=hrel;clear T3 s2
  by_cases hlt:k<n1
  ·have T5:=T4.below (Ya wr (.cells #[.int .i64 k] 3))
   have hB:=Block.new wr 3 #[.int .i64 k]
   have hkn:Hid (Ss.getD k 0=Y2 (Q6 L k)∧Ms.getD k 0=Wa (loL L k)∧Xs.getD k 0=X7 (hiL L k)):=hid (by
    have:=Yex (m:=n1) L hlt
    rw [HSC.out] at this;rw [Yso (by rw [hll.out]; exact h0) Hf.out,Ysl (by rw [hll.out]; exact h0) Hf.out]
    exact this)
   have hbW:=hbw.trans (T5.bel.mono hbw.size)
   have hsz:=hid (World.block_lt_of_cell? _ _ (hB.cell 0:_=some (.int .i64 k)))
   go_wp2_with fail;generalize wr.alloc (.cells #[.int .i64 k] 3)=W at T5 hB hbW hsz ⊢
   have hIB:¬ wr.heap.size=s:=fun e=>by
    have:=T4.blk.lt
    omega
   have hi1:¬ e1=wr.heap.size:=fun e=>by
    have:=(T4.rs.lt e1 rfl).2
    omega
   have hi2:¬ e2=wr.heap.size:=fun e=>by
    have:=(T4.rm.lt e2 rfl).2
    omega
   have hi3:¬ e3=wr.heap.size:=fun e=>by
    have:=(T4.rx.lt e3 rfl).2
    omega
   generalize wr.heap.size=iB at hB hIB hi1 hi2 hi3 hsz ⊢
   have b0:W.cell? ⟨iB,0,none⟩=some (.int .i64 k):=hB.cell 0
   have s1:W.cell? ⟨s,1,none⟩=some (.slice (some ⟨e1,0,none⟩) n1 n1):=T5.blk.cell 1
   have i0:(0:Int)≤(k:Int):=by omega
   have i1:(k:Int)<(n1:Int):=by omega
   have q1:¬ e1=s:=T5.n1
   have q2:¬ s=e1:=fun e=>q1 e.symm
   have q3:¬ iB=e1:=fun e=>hi1 e.symm
   obtain ⟨z,x,hzx⟩ : ∃ z x:Int,Hid ((Pu (Y2 (Q6 L k))∧z=Y2 (Q6 L k)∧x=0)∨(¬ Pu (Y2 (Q6 L k))∧z=0∧x=14)):=by
    by_cases hi:Pu (Y2 (Q6 L k))
    ·exact ⟨_,_,hid (.inl ⟨hi,rfl,rfl⟩)⟩
    ·exact ⟨_,_,hid (.inr ⟨hi,rfl,rfl⟩)⟩
   have HT:=hid (Fh (w:=W.drew) ((h.Yc hbW).drewN 1) hn 140 #[.pointer (some ⟨iB,0,none⟩)] (fun c=>c.2.1.getD k 0) (fun _ _=>rfl) (fun j hj q A1 m1 c1 A2 n2 c2 A3 n3 c3 S M X V hV hC hq=>by
    have hm1:k<m1:=by
     have:=(HLL.out j (by rw [hll.out]; exact hj)).2
     rw [hq] at this;rw [← hC.s.len]
     show k<S.length
     have:S.length=n1:=this
     omega
    exact Ygt hC hm1 ((hV.cell (p:=⟨iB,0,none⟩) hsz.out).trans b0)) (HLL.out.Yt7 hlt) (z:=z) (x:=x) hzx.out)
   clear T4;go_region_held3 (fun w'=>w'.cell? ⟨s,1,none⟩=some (.slice (some ⟨e1,0,none⟩) n1 n1)∧w'.cell? ⟨iB,0,none⟩=some (.int .i64 k))
    (first
     | (refine ⟨?_,?_⟩ <;> (go_keep; done))
     | (go_keep; done))
    (first
     | (go_at_call 138; refine HT.out.mono ?_; rintro e w5 ⟨rfl,hb5⟩; have hb6:=(show Below W.heap.size W W.drew from Below.drew (Below.refl _ _)).trans hb5; have T6:=T5.below hb6; have hB6:=hB.below hb6 hsz.out; have p1:=T6.blk.cell 1; have p2:=hB6.cell 0; have p3:=T6.rs.Jr k (by rw [Rm _ _ (by omega)]; omega); have p4:=T6.rs.free k))
   have hR6:=hR.below T6.bel hrs
   have hRe:¬ e1=w.heap.size:=fun e=>by
    have:=(T6.rs.lt e1 rfl).1
    omega
   have hR7:=hR6.Yl e1 k (.int .i64 z) hRe
   rcases hzx.out with ⟨hs1,hs2,rfl⟩ | ⟨hs1,rfl,rfl⟩
   ·have T7:=T6.Ypi d12 d13 l1 hlt z (hkn.out.1.trans hs2.symm)
    have hB7:=hB6.Yl e1 k (.int .i64 z) hi1
    clear T5 T6 hB hB6 hbW HT p1 p2 p3 p4 hb5 hb6 s1 b0 hR6 hs2 hs1;generalize w5.setCell ⟨e1,k,none⟩ (.int .i64 z)=w7 at T7 hB7 hR7 ⊢;go_wp2_with fail;obtain ⟨la,hla⟩ : ∃ la,Hid (Ms.getD k 0=la):=⟨_,hid rfl⟩;obtain ⟨hb,hhb⟩ : ∃ hb,Hid (Xs.getD k 0=hb):=⟨_,hid rfl⟩
    have HE:=hid (Ymr (w:=w7.drew) ((h.Yc (hbw.trans (T7.bel.mono hbw.size))).drewN 1) k n1 hlt hm h0 (fun j hj=>by
     have h1:=HLL.out j (by rw [hll.out]; exact hj)
     obtain ⟨h2,h3⟩:=h1;exact ⟨(Sz h2).1,h2.2.1.trans h3,h2.2.2.1.trans h3⟩) (a:=la) (b:=hb) (hla.out.symm.trans hkn.out.2.1) (hhb.out.symm.trans hkn.out.2.2))
    have q4:¬ e2=s:=T7.n2
    have q5:¬ e3=s:=T7.n3
    have q6:¬ s=e2:=fun e=>q4 e.symm
    have q7:¬ s=e3:=fun e=>q5 e.symm
    have q8:¬ iB=e2:=fun e=>hi2 e.symm
    have q9:¬ iB=e3:=fun e=>hi3 e.symm
    have qa:¬ e2=e3:=d23
    have qb:¬ e3=e2:=fun e=>d23 e.symm
    have s2:w7.cell? ⟨s,2,none⟩=some (.slice (some ⟨e2,0,none⟩) n1 n1):=T7.blk.cell 2
    have s3:w7.cell? ⟨s,3,none⟩=some (.slice (some ⟨e3,0,none⟩) n1 n1):=T7.blk.cell 3
    have b0:w7.cell? ⟨iB,0,none⟩=some (.int .i64 k):=hB7.cell 0
    have hsz7:=hB7.lt
    go_region_held3 (fun w'=>w'.cell? ⟨s,2,none⟩=some (.slice (some ⟨e2,0,none⟩) n1 n1)∧w'.cell? ⟨s,3,none⟩=some (.slice (some ⟨e3,0,none⟩) n1 n1)∧w'.cell? ⟨iB,0,none⟩=some (.int .i64 k))
     (first
      | (refine ⟨?_,?_,?_⟩ <;> (go_keep; done))
      | (go_keep; done))
     (first
      | (go_at_call 141; refine HE.out.mono ?_; rintro e w8 ⟨rfl,hb8⟩; have hb9:=(show Below w7.heap.size w7 w7.drew from Below.drew (Below.refl _ _)).trans hb8; have T8:=T7.below hb9; have hB8:=hB7.below hb9 hsz7; have p1:=T8.blk.cell 2; have p2:=T8.blk.cell 3; have p3:=hB8.cell 0; have p4:=T8.rm.Jr k (by rw [Rm _ _ (by omega)]; omega); have p5:=T8.rm.free k; have p6:=T8.rx.Jr k (by rw [Rm _ _ (by omega)]; omega); have p7:=T8.rx.free k))
    have T9:=(T8.Ysz d12 d23 l2 hlt la hla.out).Yud d13 d23 l3 hlt hb hhb.out
    clear T7 T8 hB7 hB8 hb8 hb9 p1 p2 p3 p4 p5 p6 p7 s2 s3 b0 HE hR7;generalize (w8.setCell ⟨e2,k,none⟩ (.int .i64 la)).setCell ⟨e3,k,none⟩ (.int .i64 hb)=w10 at T9 ⊢;go_wp2_with fail;go_roundw
    case rel=>exact ⟨k+1,by omega,by go_num,T9⟩
    case measure=>simp [intOf]; omega
   ·have hZ:=hid (Ypp hlt hs1)
    have hbe:=hbw.trans ((T6.bel.setCell (p:=⟨e1,k,none⟩) (T6.rs.lt e1 rfl).1 (.int .i64 0)).mono hbw.size)
    clear T5 T6 hB hB6 hbW HT p1 p2 p3 p4 hb5 hb6 s1 b0 hR6;generalize w5.setCell ⟨e1,k,none⟩ (.int .i64 0)=w7 at hR7 hbe ⊢
    have r0:w7.cell? ⟨w.heap.size,0,none⟩=some (.int .i64 0):=hR7.cell 0
    have r1:w7.cell? ⟨w.heap.size,1,none⟩=some (.slice none 0 0):=hR7.cell 1
    have r2:w7.cell? ⟨w.heap.size,2,none⟩=some (.slice none 0 0):=hR7.cell 2
    have r3:w7.cell? ⟨w.heap.size,3,none⟩=some (.slice none 0 0):=hR7.cell 3
    have f0:=hR7.free 0
    have f1:=hR7.free 1
    have f2:=hR7.free 2
    have f3:=hR7.free 3
    have hRR:=hid (hR7.Zy (.int .i64 0) (.slice none 0 0) (.slice none 0 0) (.slice none 0 0))
    have hRB:=hid (Y0 hbe (Nat.le_refl _) (.int .i64 0) (.slice none 0 0) (.slice none 0 0) (.slice none 0 0))
    go_wp2_with fail;refine bodyPost_ret (Yj rfl _ _ w.heap.size _ _ rfl hRR.out Tryz.underlying105 rfl Y5) rfl ?_;rw [hZ.out];exact ⟨⟨_,_,_,rfl,W5 _ _⟩,hRB.out⟩
  ·obtain rfl:k=n1:=by omega
   have hN1:Ru Ss k=Ss:=by rw [← l1]; exact Lc Ss
   have hN2:Ru Ms k=Ms:=by rw [← l2]; exact Lc Ms
   have hN3:Ru Xs k=Xs:=by rw [← l3]; exact Lc Xs
   have hO:X5 wr w0.heap.size (.slice (some ⟨e1,0,none⟩) k k) (.slice (some ⟨e2,0,none⟩) k k) (.slice (some ⟨e3,0,none⟩) k k) Ss Ms Xs :=
    ⟨by have:=T4.rs; rwa [hN1] at this,by have:=T4.rm; rwa [hN2] at this,by have:=T4.rx; rwa [hN3] at this⟩
   have hC:Ww wr wr.heap.size _ _ _ _ _ _ _ _ _ Ss Ms Xs:=⟨hO.s.has,hO.m.has,hO.x.has⟩
   obtain ⟨r,hr⟩ : ∃ r:Bool,Hid (r=true↔Zm (Q,Ss,Ms,Xs)):=⟨decide (Zm (Q,Ss,Ms,Xs)),hid (by simp)⟩
   have s0:wr.cell? ⟨s,0,none⟩=some (.int .i64 Q):=T4.blk.cell 0
   have s1:wr.cell? ⟨s,1,none⟩=some (.slice (some ⟨e1,0,none⟩) k k):=T4.blk.cell 1
   have s2:wr.cell? ⟨s,2,none⟩=some (.slice (some ⟨e2,0,none⟩) k k):=T4.blk.cell 2
   have s3:wr.cell? ⟨s,3,none⟩=some (.slice (some ⟨e3,0,none⟩) k k):=T4.blk.cell 3
   have hM:=hid (Jq hC hr.out)
   have hR6:=hR.below T4.bel hrs
   have hbe:=hbw.trans (T4.bel.mono hbw.size)
   have hbl:=T4.blk
   have hrl:=hR6.lt
   clear hN1 hN2 hN3 hC T4 hk hlt;go_wp2_with fail;refine hM.out.mono ?_;rintro e w5 ⟨rfl,hb5⟩
   have hbe5:=hbe.trans (hb5.mono hbe.size)
   have hbl5:=hbl.below hb5 hbl.lt
   have hR5:=hR6.below hb5 hrl
   have hO5:=(hO.below hb5 (Nat.le_refl _)).low (Nat.le_of_lt hrs)
   have hO6:=hO.below hb5 (Nat.le_refl _)
   clear hM hbe hbl hR6 hO hb5 s0 s1 s2 s3
   have s0:w5.cell? ⟨s,0,none⟩=some (.int .i64 Q):=hbl5.cell 0
   have s1:w5.cell? ⟨s,1,none⟩=some (.slice (some ⟨e1,0,none⟩) k k):=hbl5.cell 1
   have s2:w5.cell? ⟨s,2,none⟩=some (.slice (some ⟨e2,0,none⟩) k k):=hbl5.cell 2
   have s3:w5.cell? ⟨s,3,none⟩=some (.slice (some ⟨e3,0,none⟩) k k):=hbl5.cell 3
   have r0:w5.cell? ⟨w.heap.size,0,none⟩=some (.int .i64 0):=hR5.cell 0
   have r1:w5.cell? ⟨w.heap.size,1,none⟩=some (.slice none 0 0):=hR5.cell 1
   have r2:w5.cell? ⟨w.heap.size,2,none⟩=some (.slice none 0 0):=hR5.cell 2
   have r3:w5.cell? ⟨w.heap.size,3,none⟩=some (.slice none 0 0):=hR5.cell 3
   have f0:=hR5.free 0
   have f1:=hR5.free 1
   have f2:=hR5.free 2
   have f3:=hR5.free 3
   cases r
   ·have hZ:Hid (Ye1 k L=(Ym,14)):=hid (if_neg (by rw [HSC.out]; intro h; cases hr.out.2 h))
    have hRR:=hid (hR5.Zy (.int .i64 0) (.slice none 0 0) (.slice none 0 0) (.slice none 0 0))
    have hRB:=hid (Y0 hbe5 (Nat.le_refl _) (.int .i64 0) (.slice none 0 0) (.slice none 0 0) (.slice none 0 0))
    clear hO5 hO6;go_wp2_with fail;refine bodyPost_ret (Yj rfl _ _ w.heap.size _ _ rfl hRR.out Tryz.underlying105 rfl Y5) rfl ?_;rw [hZ.out];exact ⟨⟨_,_,_,rfl,W5 _ _⟩,hRB.out⟩
   ·have hZ:Hid (Ye1 k L=((Q,Ss,Ms,Xs),0)):=hid (by
     unfold Ye1;rw [HSC.out,if_pos (hr.out.1 rfl)])
    have hRR:=hid (hR5.Zy (.int .i64 Q) (.slice (some ⟨e1,0,none⟩) k k) (.slice (some ⟨e2,0,none⟩) k k) (.slice (some ⟨e3,0,none⟩) k k))
    have hRB:=hid (Y0 hbe5 (Nat.le_refl _) (.int .i64 Q) (.slice (some ⟨e1,0,none⟩) k k) (.slice (some ⟨e2,0,none⟩) k k) (.slice (some ⟨e3,0,none⟩) k k))
    have hRO:=hid ((hO6.Zy hrs (.int .i64 Q) (.slice (some ⟨e1,0,none⟩) k k) (.slice (some ⟨e2,0,none⟩) k k) (.slice (some ⟨e3,0,none⟩) k k)).low (Nat.le_of_lt hrs))
    clear hO5 hO6;go_wp2_with fail;refine bodyPost_ret (Yj rfl _ _ w.heap.size _ _ rfl hRR.out Tryz.underlying105 rfl Y5) rfl ?_;rw [hZ.out];exact ⟨⟨_,_,_,rfl,hRO.out⟩,hRB.out⟩
end
def Ys8 (w:World) (m:Nat) (e:Ending) (w' : World):Prop :=
 (∃ v1 v2 v3,e=.returned (.agg #[.int .i64 0,v1,v2,v3])∧X5 w' w.heap.size v1 v2 v3 (List.replicate m 0) (List.replicate m 0) (List.replicate m 0) ∧
  (∀ g,v1.ownBlock=some g→v2.ownBlock≠some g)∧(∀ g,v1.ownBlock=some g→v3.ownBlock≠some g)∧(∀ g,v2.ownBlock=some g→v3.ownBlock≠some g))∧Below w.heap.size w w'
theorem Ylb (k:Nat):List.replicate k (0:Int)++[0]=List.replicate (k+1) 0:=by rw [List.replicate_succ']
theorem Ybh (x:Int) (w:World) {m:Nat}(hm:m=(min (max x 0) 2).toNat) :
  Calls Tryz.prog 126 #[.int .i64 x] w (Ys8 w m):=by
 have HM:=hid hm
 have hm2:m≤2:=by omega
 clear hm;go_enter Tryz.func126,Tryz.ntmps126;go_wp2_with fail
 have hR:=(Block.new w 105 #[.int .i64 0,.slice none 0 0,.slice none 0 0,.slice none 0 0]).alloc (.cells #[.int .i64 0,.slice none 0 0,.slice none 0 0,.slice none 0 0] 105)
 have hA:=Acc.new (w0:=w) (Block.new (w.alloc (.cells #[.int .i64 0,.slice none 0 0,.slice none 0 0,.slice none 0 0] 105)) 105 #[.int .i64 0,.slice none 0 0,.slice none 0 0,.slice none 0 0]) (We w _ _) (by simp)
 rw [World.size_alloc] at hA;generalize (w.alloc (.cells #[.int .i64 0,.slice none 0 0,.slice none 0 0,.slice none 0 0] 105)).alloc (.cells #[.int .i64 0,.slice none 0 0,.slice none 0 0,.slice none 0 0] 105)=W at hR hA ⊢
 have hrs:¬ w.heap.size+1=w.heap.size:=by omega
 generalize w.heap.size+1=s at hA hrs ⊢;go_loopw [4] (fun i wr=>∃ (k:Nat) (v1 v2 v3:Value),k≤m∧i=.int .i64 k∧Block wr w.heap.size 105 #[.int .i64 0,.slice none 0 0,.slice none 0 0,.slice none 0 0]∧Acc w wr s 0 v1 v2 v3 (List.replicate k 0) (List.replicate k 0) (List.replicate k 0)) (fun i _=>m - (intOf i).toNat)
 case atStart=>exact ⟨0,_,_,_,Nat.zero_le _,rfl,hR,hA⟩
 case round =>
  obtain ⟨k,v1,v2,v3,hk,rfl,hR,hA⟩:=hrel;obtain ⟨A1,n1,c1,rfl,_⟩:=hA.r1.Yu;obtain ⟨A2,n2,c2,rfl,_⟩:=hA.r2.Yu;obtain ⟨A3,n3,c3,rfl,_⟩:=hA.r3.Yu
  by_cases hlt:k<m
  ·have hx:(k:Int)<x:=by have:=HM.out; omega
   have h2:(k:Int)<2:=by omega
   have g1:wr.cell? ⟨s,1,none⟩=some (.slice A1 n1 c1):=hA.blk.cell 1
   have hT:105≠3:=by decide
   go_wp2_with (at_builtin; refine Y9 rfl _ _ rfl w.heap.size _ _ rfl (hA.alloc _).r1 _ rfl 0 (Zs _ _ _ _ (by simp)) (by simp; omega) (hA.alloc _).bel.size ?_)
   intro u1 w1 hO1 hG1;obtain ⟨B1,l1,d1,rfl,_⟩:=hO1.Yu
   have hR1:=((hR.alloc _).app hT (hA.alloc _).r1 hG1).Yl s 1 (.slice B1 l1 d1) hrs
   obtain ⟨hB1,hA1⟩:=(hA.alloc _).Ytd hO1 hG1
   have p0:=hB1.cell 1
   have p1:=hB1.free 1
   have p2:(w1.setCell ⟨s,1,none⟩ (.slice B1 l1 d1)).cell? ⟨s,2,none⟩=some (.slice A2 n2 c2):=hA1.blk.cell 2
   clear hA hR g1 hO1 hG1 hB1;go_wp2_with (at_builtin; refine Y9 rfl _ _ rfl w.heap.size _ _ rfl (hA1.alloc _).r2 _ rfl 0 (Zs _ _ _ _ (by simp)) (by simp; omega) (hA1.alloc _).bel.size ?_)
   intro u2 w2 hO2 hG2;obtain ⟨B2,l2,d2,rfl,_⟩:=hO2.Yu
   have hR2:=((hR1.alloc _).app hT (hA1.alloc _).r2 hG2).Yl s 2 (.slice B2 l2 d2) hrs
   obtain ⟨hB2,hA2⟩:=(hA1.alloc _).Yte hO2 hG2
   have q0:=hB2.cell 2
   have q1:=hB2.free 2
   have q2:(w2.setCell ⟨s,2,none⟩ (.slice B2 l2 d2)).cell? ⟨s,3,none⟩=some (.slice A3 n3 c3):=hA2.blk.cell 3
   clear hA1 hR1 p0 p1 p2 hO2 hG2 hB2;go_wp2_with (at_builtin; refine Y9 rfl _ _ rfl w.heap.size _ _ rfl (hA2.alloc _).r3 _ rfl 0 (Zs _ _ _ _ (by simp)) (by simp; omega) (hA2.alloc _).bel.size ?_)
   intro u3 w3 hO3 hG3;obtain ⟨B3,l3,d3,rfl,_⟩:=hO3.Yu
   have hR3:=hid (((hR2.alloc _).app hT (hA2.alloc _).r3 hG3).Yl s 3 (.slice B3 l3 d3) hrs)
   obtain ⟨hB3,hA3⟩:=(hA2.alloc _).Ytf hO3 hG3
   have t0:=hB3.cell 3
   have t1:=hB3.free 3
   rw [Ylb] at hA3
   have hA4:=hid hA3
   clear hA2 hR2 q0 q1 q2 hO3 hG3 hB3 hA3;go_wp2_with fail;go_roundw
   case rel=>exact ⟨k+1,_,_,_,by omega,by go_num,hR3.out,hA4.out⟩
   case measure=>simp [intOf]; omega
  ·obtain rfl:k=m:=by omega
   have r0:wr.cell? ⟨w.heap.size,0,none⟩=some (.int .i64 0):=hR.cell 0
   have r1:wr.cell? ⟨w.heap.size,1,none⟩=some (.slice none 0 0):=hR.cell 1
   have r2:wr.cell? ⟨w.heap.size,2,none⟩=some (.slice none 0 0):=hR.cell 2
   have r3:wr.cell? ⟨w.heap.size,3,none⟩=some (.slice none 0 0):=hR.cell 3
   have f0:=hR.free 0
   have f1:=hR.free 1
   have f2:=hR.free 2
   have f3:=hR.free 3
   have s0:wr.cell? ⟨s,0,none⟩=some (.int .i64 0):=hA.blk.cell 0
   have s1:wr.cell? ⟨s,1,none⟩=some (.slice A1 n1 c1):=hA.blk.cell 1
   have s2:wr.cell? ⟨s,2,none⟩=some (.slice A2 n2 c2):=hA.blk.cell 2
   have s3:wr.cell? ⟨s,3,none⟩=some (.slice A3 n3 c3):=hA.blk.cell 3
   have hT:105≠3:=by decide
   have hRR:=hid (hR.Zy (.int .i64 0) (.slice A1 n1 c1) (.slice A2 n2 c2) (.slice A3 n3 c3))
   have hRB:=hid (Y0 hA.bel (Nat.le_refl _) (.int .i64 0) (.slice A1 n1 c1) (.slice A2 n2 c2) (.slice A3 n3 c3))
   have key:∀ {v:Value}{l:List Int}{w' : World},Yf w' w.heap.size v l→v.ownBlock≠some w.heap.size→∀ (j:Nat) (u:Value),Yf (w'.setCell ⟨w.heap.size,j,none⟩ u) w.heap.size v l:=fun h hn j u=>h.other hn u
   have n1':=hA.r1.Vy hR hT
   have n2':=hA.r2.Vy hR hT
   have n3':=hA.r3.Vy hR hT
   have hRO:Hid (X5 (P0 wr w.heap.size (.int .i64 0) (.slice A1 n1 c1) (.slice A2 n2 c2) (.slice A3 n3 c3)) w.heap.size (.slice A1 n1 c1) (.slice A2 n2 c2) (.slice A3 n3 c3) (List.replicate k 0) (List.replicate k 0) (List.replicate k 0)) :=
    hid ⟨key (key (key (key hA.r1 n1' 0 _) n1' 1 _) n1' 2 _) n1' 3 _,key (key (key (key hA.r2 n2' 0 _) n2' 1 _) n2' 2 _) n2' 3 _,key (key (key (key hA.r3 n3' 0 _) n3' 1 _) n3' 2 _) n3' 3 _⟩
   have hD:=hid (And.intro hA.d12 (And.intro hA.d13 hA.d23))
   clear hA hR key n1' n2' n3'
   by_cases hx:(k:Int)<x
   ·have h2:¬ (k:Int)<2:=by have:=HM.out; omega
    go_wp2_with fail;refine bodyPost_ret (Za rfl _ _ w.heap.size _ _ rfl hRR.out Tryz.underlying105 rfl Y5) rfl ?_;exact ⟨⟨_,_,_,rfl,hRO.out,hD.out⟩,hRB.out⟩
   ·go_wp2_with fail
    refine bodyPost_ret (Za rfl _ _ w.heap.size _ _ rfl hRR.out Tryz.underlying105 rfl Y5) rfl ?_;exact ⟨⟨_,_,_,rfl,hRO.out,hD.out⟩,hRB.out⟩
section
theorem Tf {l:List Int}{k:Nat}(h:k<l.length) {y:Int}(hy:l.getD k 0=y):l.take k++[y]=l.take (k+1):=by
 rw [List.take_add_one,← hy,List.getD_eq_getElem?_getD,List.getElem?_eq_getElem h];rfl
section
variable {q q' : Int}{A1 A2 A3 B1 B2 B3:Option Addr}{n1 c1 n2 c2 n3 c3 m1 d1 m2 d2 m3 d3:Nat}{S M X S' M' X' : List Int}{w:World}
end
end
theorem Mo (L:List (List Int)) (k:Nat):(X0 L k).length=L.length:=by simp [X0]
theorem Yas {L:List (List Int)} (hj:j<L.length):(X0 L k).getD j 0=(L.getD j []).getD k 0:=by
 simp [X0,List.getD_eq_getElem?_getD,hj]
theorem La (hj:j<l.length) (hy:l.getD j 0=y):Wa (x0 :: l.take (j+1))=min (Wa (x0 :: l.take j)) y:=by
 rw [← Tf hj hy,← List.cons_append];exact Br (by simp) _
theorem M8 (hj:j<l.length) (hy:l.getD j 0=y):X7 (x0 :: l.take (j+1))=max (X7 (x0 :: l.take j)) y:=by
 rw [← Tf hj hy,← List.cons_append];exact Bj (by simp) _
theorem Yop (hl:0<l.length):Wa (l.getD 0 0 :: l)=Wa l:=by
 cases l with
 | nil=>simp at hl
 | cons x l=>show Wa (x :: x :: l)=_; exact Kx (by simp) (by simp) fun y=>by simp
theorem Yoi (hl:0<l.length):X7 (l.getD 0 0 :: l)=X7 l:=by
 cases l with
 | nil=>simp at hl
 | cons x l=>show X7 (x :: x :: l)=_; exact Kw (by simp) (by simp) fun y=>by simp
theorem Yek (x:Int) {A:Option Addr}{n c:Nat}{L:List (List Int)}{w:World}(h:Ux w w.heap.size A n c L) (hn:n≤1000) :
  Calls Tryz.prog 87 #[.int .i64 x,.slice A n c] w (O6 w (Wn x L)):=by
 have hll:=hid h.len
 have hcm:=h.Z1
 have hcap:=h.cap
 have hb0:=Ya w (.cells #[.int .i64 0,.slice none 0 0,.slice none 0 0,.slice none 0 0] 105)
 have hR:=Block.new w 105 #[.int .i64 0,.slice none 0 0,.slice none 0 0,.slice none 0 0]
 by_cases hx0:x<0
 ·have hZ:Hid (Wn x L=(Ym,1)):=hid (U8 (.inl hx0))
  go_enter Tryz.func87,Tryz.ntmps87;go_wp2_with fail;refine bodyPost_ret (Yj rfl _ _ w.heap.size _ _ rfl hR Tryz.underlying105 rfl Y5) rfl ?_;rw [hZ.out];exact ⟨⟨_,_,_,rfl,W5 _ _⟩,hb0⟩
 ·by_cases hx2:2<x
  ·have hZ:Hid (Wn x L=(Ym,1)):=hid (U8 (.inr (.inl hx2)))
   go_enter Tryz.func87,Tryz.ntmps87;go_wp2_with fail;refine bodyPost_ret (Yj rfl _ _ w.heap.size _ _ rfl hR Tryz.underlying105 rfl Y5) rfl ?_;rw [hZ.out];exact ⟨⟨_,_,_,rfl,W5 _ _⟩,hb0⟩
  ·obtain ⟨m,rfl⟩ : ∃ m:Nat,x=(m:Int):=⟨x.toNat,by omega⟩
   have hm2:m≤2:=by omega
   go_enter Tryz.func87,Tryz.ntmps87;go_wp2_with fail
   have h1:=h.below hb0 (Nat.le_refl _)
   generalize w.alloc (.cells #[.int .i64 0,.slice none 0 0,.slice none 0 0,.slice none 0 0] 105)=w1 at hb0 hR h1 ⊢;clear h
   have r0:w1.cell? ⟨w.heap.size,0,none⟩=some (.int .i64 0):=hR.cell 0
   have r1:w1.cell? ⟨w.heap.size,1,none⟩=some (.slice none 0 0):=hR.cell 1
   have r2:w1.cell? ⟨w.heap.size,2,none⟩=some (.slice none 0 0):=hR.cell 2
   have r3:w1.cell? ⟨w.heap.size,3,none⟩=some (.slice none 0 0):=hR.cell 3
   have f0:=hR.free 0
   have f1:=hR.free 1
   have f2:=hR.free 2
   have f3:=hR.free 3
   go_loopw [6,7] (fun i _ wr=>∃ k:Nat,k≤n∧i=.int .i64 k∧Hid (∀ j,j<k→isVal m (L.getD j []))∧w1=wr) (fun i _ _=>n - (intOf i).toNat)
   case atStart=>exact ⟨0,Nat.zero_le _,rfl,hid fun j hj=>absurd hj (by omega),rfl⟩
   case round =>
    obtain ⟨k,hk,rfl,hJ,rfl⟩:=hrel
    by_cases hlt:k<n
    ·obtain ⟨b,o,A',n',c',l,rfl,hb,g0,hl,he⟩:=h1.at_ hlt
     have i0:(0:Int)≤(k:Int):=by omega
     have i1:(k:Int)<(n:Int):=by omega
     obtain ⟨r,hr⟩ : ∃ r:Bool,Hid (r=true↔isVal (m:Int) l):=⟨decide (isVal (m:Int) l),hid (by simp)⟩
     have HV:=hid (Rv (w:=w1) (m:Int) (hl.more hb0.size) hr.out)
     clear hl
     cases r
     ·have hZ:Hid (Wn m L=(Ym,1)):=hid (U8 (.inr (.inr ⟨l,by
       rw [he.out,List.getD_eq_getElem?_getD,List.getElem?_eq_getElem (by rw [hll.out]; exact hlt)]
       exact List.getElem_mem _,fun h=>by cases hr.out.2 h⟩)))
      go_wp2_with fail;refine HV.out.mono ?_;rintro e w5 ⟨rfl,rfl⟩
      have hRR:=hid (hR.Zy (.int .i64 0) (.slice none 0 0) (.slice none 0 0) (.slice none 0 0))
      have hRB:=hid (Y0 hb0 (Nat.le_refl _) (.int .i64 0) (.slice none 0 0) (.slice none 0 0) (.slice none 0 0))
      go_wp2_with fail;refine bodyPost_ret (Yj rfl _ _ w.heap.size _ _ rfl hRR.out Tryz.underlying105 rfl Y5) rfl ?_;rw [hZ.out];exact ⟨⟨_,_,_,rfl,W5 _ _⟩,hRB.out⟩
     ·have hJ2:Hid (∀ j,j<k+1→isVal m (L.getD j [])):=hid fun j hj=>by
       by_cases h:j<k
       ·exact hJ.out j h
       ·obtain rfl:j=k:=by omega
        rw [← he.out]; exact hr.out.1 rfl
      go_wp2_with fail;refine HV.out.mono ?_;rintro e w5 ⟨rfl,rfl⟩;go_wp2_with fail;go_roundw
      case rel=>exact ⟨k+1,by omega,by go_num,hJ2,by first | rfl | trivial⟩
      case measure=>simp [intOf]; omega
    ·obtain rfl:k=n:=by omega
     have HV:Hid (∀ v∈L,isVal m v):=hid fun v hv=>by
      obtain ⟨j,hj,rfl⟩:=List.mem_iff_getElem.1 hv
      have:=hJ.out j (by rw [← hll.out]; exact hj)
      rwa [List.getD_eq_getElem?_getD,List.getElem?_eq_getElem hj] at this
     have HJ:=hJ
     have hnn:¬ ((m:Int)<0∨2<(m:Int)):=by omega
     clear hk hlt
     by_cases hk0:k=0
     ·subst hk0
      have hL0:L=[]:=List.eq_nil_of_length_eq_zero hll.out
      have hZ:Hid (Wn m L=(Yv m,0)):=hid (by rw [hL0]; have:=Gv hnn; rwa [Int.toNat_natCast] at this)
      clear hL0 hnn;go_wp2_with fail;refine (Ybh (m:Int) _ (m:=m) (by omega)).mono ?_
      rintro e w5 ⟨⟨v1,v2,v3,rfl,ho,_⟩,hb5⟩
      have hrl:=hR.lt
      have hR5:=hR.below hb5 hR.lt
      have hbe5:=Yb hb0 hb5
      clear r0 r1 r2 r3 f0 f1 f2 f3
      have r0:w5.cell? ⟨w.heap.size,0,none⟩=some (.int .i64 0):=hR5.cell 0
      have r1:w5.cell? ⟨w.heap.size,1,none⟩=some (.slice none 0 0):=hR5.cell 1
      have r2:w5.cell? ⟨w.heap.size,2,none⟩=some (.slice none 0 0):=hR5.cell 2
      have r3:w5.cell? ⟨w.heap.size,3,none⟩=some (.slice none 0 0):=hR5.cell 3
      have f0:=hR5.free 0
      have f1:=hR5.free 1
      have f2:=hR5.free 2
      have f3:=hR5.free 3
      obtain ⟨E1,l1,d1,rfl,_⟩:=ho.s.Yu;obtain ⟨E2,l2,d2,rfl,_⟩:=ho.m.Yu;obtain ⟨E3,l3,d3,rfl,_⟩:=ho.x.Yu
      have hRR:=hid (hR5.Zy (.int .i64 0) (.slice E1 l1 d1) (.slice E2 l2 d2) (.slice E3 l3 d3))
      have hRB:=hid (Y0 hbe5 (Nat.le_refl _) (.int .i64 0) (.slice E1 l1 d1) (.slice E2 l2 d2) (.slice E3 l3 d3))
      have hRO:=hid ((ho.Zy hrl (.int .i64 0) (.slice E1 l1 d1) (.slice E2 l2 d2) (.slice E3 l3 d3)).low (Nat.le_of_lt hrl))
      clear ho hb5;go_wp2_with fail;refine bodyPost_ret (Yj rfl _ _ w.heap.size _ _ rfl hRR.out Tryz.underlying105 rfl Y5) rfl ?_;rw [hZ.out];exact ⟨⟨_,_,_,rfl,hRO.out⟩,hRB.out⟩
     ·have e0:((k:Int) == 0)=false:=by simpa using hk0
      have hLne:L≠[]:=fun e=>hk0 (by rw [← hll.out,e]; rfl)
      obtain ⟨Fs,Fm,Fx,hF⟩ : ∃ Fs Fm Fx,Hid (T0 m L=((k:Int),Fs,Fm,Fx)):=⟨_,_,_,hid (by rw [← hll.out]; rfl)⟩
      have hZp:Hid (Wn m L=if ∀ j,j<m→inS (Y2 (X0 L j)) then (((k:Int),Fs,Fm,Fx),0) else (Ym,14)):=hid (by
       have:=L6 hnn HV.out hLne
       rwa [Int.toNat_natCast,hF.out] at this)
      have lF:Hid (Fs.length=m∧Fm.length=m∧Fx.length=m):=hid (by have:=Qn m L; rwa [hF.out] at this)
      have gF:Hid (∀ j,j<m→Fs.getD j 0=Y2 (X0 L j)∧Fm.getD j 0=Wa (X0 L j)∧Fx.getD j 0=X7 (X0 L j)):=hid fun j hj=>by have:=Kh L hj; rwa [hF.out] at this
      clear hnn hLne;go_wp2_with fail
      have hA:=Acc.new (w0:=w1) (Block.new w1 105 #[.int .i64 k,.slice none 0 0,.slice none 0 0,.slice none 0 0]) (Ya w1 _) (Nat.le_refl _)
      generalize w1.alloc (.cells #[.int .i64 k,.slice none 0 0,.slice none 0 0,.slice none 0 0] 105)=ws at hA ⊢;obtain ⟨s,hss⟩ : ∃ s,Hid (w1.heap.size=s):=⟨_,hid rfl⟩
      have hA:Acc w1 ws w1.heap.size (k:Int) (.slice none 0 0) (.slice none 0 0) (.slice none 0 0) (Fs.take 0) (Fm.take 0) (Fx.take 0):=hA
      have hA:Acc w1 ws s (k:Int) (.slice none 0 0) (.slice none 0 0) (.slice none 0 0) (Fs.take 0) (Fm.take 0) (Fx.take 0):=by rw [← hss.out]; exact hA
      rw [hss.out];clear r0 r1 r2 r3 f0 f1 f2 f3 e0;go_loopw [9] (fun i wr=>∃ (p:Nat) (v1 v2 v3:Value),p≤m∧i=.int .i64 p∧Hid (∀ j,j<p→inS (Y2 (X0 L j)))∧Acc w1 wr s (k:Int) v1 v2 v3 (Fs.take p) (Fm.take p) (Fx.take p)) (fun i _=>m - (intOf i).toNat)
      case atStart=>exact ⟨0,_,_,_,Nat.zero_le _,rfl,hid fun j hj=>absurd hj (by omega),hA⟩
      case round =>
       obtain ⟨p,v1,v2,v3,hp,rfl,hQ,hT⟩:=hrel;clear hA
       have hRr:=hR.below hT.bel hR.lt
       have hzr:=hT.bel.size
       have hber:=hb0.trans (hT.bel.mono hb0.size)
       have hr:=(h1.more hb0.size).below hT.bel (Nat.le_refl _)
       obtain ⟨E1,l1,d1,rfl,_⟩:=hT.r1.Yu;obtain ⟨E2,l2,d2,rfl,_⟩:=hT.r2.Yu;obtain ⟨E3,l3,d3,rfl,_⟩:=hT.r3.Yu
       by_cases hlt:p<m
       · -- GO
        have hz1:w1.heap.size≤w1.heap.size:=Nat.le_refl _
        obtain ⟨b,o,A0,n0,c0,l0,hAe,hbb,g0,hl0,he0⟩:=hr.at_ (k:=0) (by omega)
        subst hAe
        have hv0:isVal (m:Int) l0:=by rw [he0.out]; exact HJ.out 0 (by omega)
        obtain rfl:n0=m:=by have h1:=hl0.len; have h2:=hv0.1; omega
        rw [Nat.add_zero] at g0;obtain ⟨b0,o0,x0,rfl,hb0',cx0,ex0⟩:=hl0.at_ hlt
        have hx0:Hid ((X0 L p).getD 0 0=x0):=hid (by rw [Yas (by rw [hll.out]; omega),← he0.out,← ex0.out])
        have i0:(0:Int)≤(p:Int):=by omega
        have i1:(p:Int)<(n0:Int):=by omega
        have i2:(0:Int)<(k:Int):=by omega
        clear hv0 ex0 he0 hl0;go_wp2_with fail;obtain ⟨wo,rfl⟩ : ∃ wo,wo=wr:=⟨_,rfl⟩;go_loopw [10,11,12,13] (fun v lo hi i wi=>∃ (j:Nat) (y z:Int) (v' : Value),j≤k∧lo=.int .i64 y∧hi=.int .i64 z∧i=.int .i64 j∧v=v'∧Hid (y=Wa (x0 :: (X0 L p).take j)∧z=X7 (x0 :: (X0 L p).take j))∧Yf wi wo.heap.size v' ((X0 L p).take j)∧Below wo.heap.size wo wi) (fun _ _ _ i _=>k - (intOf i).toNat)
        case atStart=>exact ⟨0,x0,x0,_,Nat.zero_le _,rfl,rfl,rfl,rfl,hid ⟨rfl,rfl⟩,Yf.Zj _ _,Below.refl _ _⟩
        case round =>
         obtain ⟨j,y,z,v',hj,rfl,rfl,rfl,rfl,hX,hO,hbi⟩:=hrel
         by_cases hjk:j<k
         ·obtain ⟨b',o',A',n',c',l,hAe,hbb',gj,hl,hej⟩:=(hr.below hbi hzr).at_ hjk
          injection hAe with hAe
          injection hAe with hAe1 hAe2
          subst hAe1 hAe2
          have hvj:isVal (n0:Int) l:=by rw [hej.out]; exact HJ.out j hjk
          have hn' : n'=n0:=by have h1:=hl.len; have h2:=hvj.1; omega
          subst hn';obtain ⟨bq,oq,t,rfl,hbq,cq,eq⟩:=hl.at_ hlt
          have hyc:Hid ((X0 L p).getD j 0=t):=hid (by rw [Yas (by rw [hll.out]; exact hjk),← hej.out,← eq.out])
          have hjl:Hid (j<(X0 L p).length):=hid (by rw [Mo,hll.out]; exact hjk)
          have j0:(0:Int)≤(j:Int):=by omega
          have j1:(j:Int)<(k:Int):=by omega
          obtain ⟨E,le,de,rfl,_⟩:=hO.Yu
          have hzi:=hbi.size
          clear eq hej hvj hl g0 cx0;go_wp2_with (at_builtin; refine Y9 rfl _ _ rfl wo.heap.size _ _ rfl (hO.alloc _) _ rfl t (Zs _ _ _ _ (by simp)) (Nat.le_trans (List.length_take_le j _) (by omega)) (by rw [World.size_alloc]; omega) ?_)
          intro u wj hO2 hG2;obtain ⟨E',le',de',rfl,_⟩:=hO2.Yu;rw [Tf hjl.out hyc.out] at hO2
          have hbj:Below wo.heap.size wo wj:=(hbi.alloc hzi _).trans (hG2.Y4 (by simp; omega) fun q e=>(hO.lt q e).1)
          have hOj:=hid hO2
          have hBj:=hid hbj
          have hrj:=hr.below hbj hzr
          clear gj cq;obtain ⟨b5,o5,A5,n5,c5,l5,hAe,_,gj,hl5,hej5⟩:=hrj.at_ hjk;injection hAe with hAe
          injection hAe with hAe1 hAe2
          subst hAe1 hAe2
          have hn5:n5=n':=by
           have h1:=hl5.len
           have h2:=(HJ.out j hjk).1
           rw [← hej5.out] at h2;omega
          subst hn5;obtain ⟨b6,o6,t6,rfl,_,c6,e6⟩:=hl5.at_ hlt;obtain rfl:t6=t:=by rw [e6.out,hej5.out,← Yas (by rw [hll.out]; exact hjk)]; exact hyc.out
          clear hO2 hbj hG2 hO hbi hrj hl5 hej5 e6
          by_cases hm:t6<y
          ·by_cases hg:z<t6
           ·have hX2:Hid (t6=Wa (x0 :: (X0 L p).take (j+1))∧t6=X7 (x0 :: (X0 L p).take (j+1))):=hid (by
             rw [La hjl.out hyc.out,M8 hjl.out hyc.out,← hX.out.1,← hX.out.2];omega)
            clear hX hyc hjl;go_wp2_with fail;go_roundw
            case rel=>exact ⟨j+1,_,_,_,by omega,rfl,rfl,by go_num,rfl,hX2,hOj.out,hBj.out⟩
            case measure=>simp [intOf]; omega
           ·have hX2:Hid (t6=Wa (x0 :: (X0 L p).take (j+1))∧z=X7 (x0 :: (X0 L p).take (j+1))):=hid (by
             rw [La hjl.out hyc.out,M8 hjl.out hyc.out,← hX.out.1,← hX.out.2];omega)
            clear hX hyc hjl;go_wp2_with fail;go_roundw
            case rel=>exact ⟨j+1,_,_,_,by omega,rfl,rfl,by go_num,rfl,hX2,hOj.out,hBj.out⟩
            case measure=>simp [intOf]; omega
          ·by_cases hg:z<t6
           ·have hX2:Hid (y=Wa (x0 :: (X0 L p).take (j+1))∧t6=X7 (x0 :: (X0 L p).take (j+1))):=hid (by
             rw [La hjl.out hyc.out,M8 hjl.out hyc.out,← hX.out.1,← hX.out.2];omega)
            clear hX hyc hjl;go_wp2_with fail;go_roundw
            case rel=>exact ⟨j+1,_,_,_,by omega,rfl,rfl,by go_num,rfl,hX2,hOj.out,hBj.out⟩
            case measure=>simp [intOf]; omega
           ·have hX2:Hid (y=Wa (x0 :: (X0 L p).take (j+1))∧z=X7 (x0 :: (X0 L p).take (j+1))):=hid (by
             rw [La hjl.out hyc.out,M8 hjl.out hyc.out,← hX.out.1,← hX.out.2];omega)
            clear hX hyc hjl;go_wp2_with fail;go_roundw
            case rel=>exact ⟨j+1,_,_,_,by omega,rfl,rfl,by go_num,rfl,hX2,hOj.out,hBj.out⟩
            case measure=>simp [intOf]; omega
         ·obtain rfl:j=k:=by omega
          have hT5:=hT.below hbi
          have hRr5:=hRr.below hbi hRr.lt
          have hber5:=hber.trans (hbi.mono hber.size)
          have hcl:Hid ((X0 L p).take j=X0 L p):=hid (List.take_of_length_le (by rw [Mo,hll.out]; exact Nat.le_refl _))
          rw [hcl.out] at hX hO
          have hpos:Hid (0<(X0 L p).length):=hid (by rw [Mo,hll.out]; omega)
          have hyz:Hid (Fm.getD p 0=y∧Fx.getD p 0=z):=hid (by
           have h1:=gF.out p hlt
           rw [h1.2.1,h1.2.2,hX.out.1,hX.out.2,← hx0.out,Yop hpos.out,Yoi hpos.out];exact ⟨rfl,rfl⟩)
          obtain ⟨E,le,de,rfl,hE,_⟩:=hO.Yu;obtain ⟨sm,bm,hs⟩ : ∃ sm bm,Hid (Yl4 (Y2 (X0 L p)) sm bm):=by
           obtain ⟨z,b,h⟩:=Yln (Y2 (X0 L p));exact ⟨z,b,hid h⟩
          have hI2:I64 (X0 L p):=by
           intro q hq
           have:=G8 (m:=n0) HV.out hlt q hq
           unfold inV at this;omega
          have HT:=hid (Yg2 hE (by have:=hE.len; rw [Mo,hll.out] at this; omega) hI2 hs.out)
          clear hI2 hE hO hT hRr hber hr cx0 g0 hX hcl hpos
          have hzi:=hbi.size
          go_wp2_with fail;refine HT.out.mono ?_;rintro e w5 ⟨rfl,hb5⟩
          have hT6:=hT5.below hb5
          have hR6:=hRr5.below hb5 hRr5.lt
          have hbe6:=hber5.trans (hb5.mono hber5.size)
          clear hT5 hRr5 hber5 hbi hb5 HT
          rcases hs.out with ⟨hin,hz,rfl⟩ | ⟨hin,rfl,_⟩
          ·have hy:Hid (Fs.getD p 0=sm):=hid ((gF.out p hlt).1.trans hz.symm)
           have hQ2:Hid (∀ j,j<p+1→inS (Y2 (X0 L j))):=hid fun j hj=>by
            by_cases h:j<p
            ·exact hQ.out j h
            ·obtain rfl:j=p:=by omega
             exact hin
           clear hin hz hs hR6 hbe6 hQ
           have g1:w5.cell? ⟨s,1,none⟩=some (.slice E1 l1 d1):=hT6.blk.cell 1
           go_wp2_with (at_builtin; refine Y9 rfl _ _ rfl w1.heap.size _ _ rfl (hT6.alloc _).r1 _ rfl sm (Zs _ _ _ _ (by simp)) (Nat.le_trans (List.length_take_le p _) (by omega)) (hT6.alloc _).bel.size ?_)
           intro u1 w11 hO1 hG1;obtain ⟨F1,j1,t1,rfl,_⟩:=hO1.Yu;obtain ⟨hB1,hA1⟩:=(hT6.alloc _).Ytd hO1 hG1
           have x0':=hB1.cell 1
           have x1':=hB1.free 1
           have x2:(w11.setCell ⟨s,1,none⟩ (.slice F1 j1 t1)).cell? ⟨s,2,none⟩=some (.slice E2 l2 d2):=hA1.blk.cell 2
           clear hT6 g1 hO1 hG1 hB1;go_wp2_with (at_builtin; refine Y9 rfl _ _ rfl w1.heap.size _ _ rfl (hA1.alloc _).r2 _ rfl y (Zs _ _ _ _ (by simp)) (Nat.le_trans (List.length_take_le p _) (by omega)) (hA1.alloc _).bel.size ?_)
           intro u2 w12 hO2 hG2;obtain ⟨F2,j2,t2,rfl,_⟩:=hO2.Yu;obtain ⟨hB2,hA2⟩:=(hA1.alloc _).Yte hO2 hG2
           have y0:=hB2.cell 2
           have y1:=hB2.free 2
           have y2:(w12.setCell ⟨s,2,none⟩ (.slice F2 j2 t2)).cell? ⟨s,3,none⟩=some (.slice E3 l3 d3):=hA2.blk.cell 3
           clear hA1 x0' x1' x2 hO2 hG2 hB2;go_wp2_with (at_builtin; refine Y9 rfl _ _ rfl w1.heap.size _ _ rfl (hA2.alloc _).r3 _ rfl z (Zs _ _ _ _ (by simp)) (Nat.le_trans (List.length_take_le p _) (by omega)) (hA2.alloc _).bel.size ?_)
           intro u3 w13 hO3 hG3;obtain ⟨F3,j3,t3,rfl,_⟩:=hO3.Yu;obtain ⟨hB3,hA3⟩:=(hA2.alloc _).Ytf hO3 hG3
           have z0:=hB3.cell 3
           have z1:=hB3.free 3
           rw [Tf (by rw [lF.out.1]; exact hlt) hy.out,Tf (by rw [lF.out.2.1]; exact hlt) hyz.out.1,Tf (by rw [lF.out.2.2]; exact hlt) hyz.out.2] at hA3
           have hA4:=hid hA3
           clear hA2 y0 y1 y2 hO3 hG3 hB3 hA3;go_wp2_with fail;go_roundw
           case rel=>exact ⟨p+1,_,_,_,by omega,by go_num,hQ2,hA4.out⟩
           case measure=>simp [intOf]; omega
          ·have hZ:Hid (Wn n0 L=(Ym,14)):=hid (by
            rw [hZp.out,if_neg];intro h;exact hin (h p hlt))
           clear hin hs hT6
           have r0:w5.cell? ⟨w.heap.size,0,none⟩=some (.int .i64 0):=hR6.cell 0
           have r1:w5.cell? ⟨w.heap.size,1,none⟩=some (.slice none 0 0):=hR6.cell 1
           have r2:w5.cell? ⟨w.heap.size,2,none⟩=some (.slice none 0 0):=hR6.cell 2
           have r3:w5.cell? ⟨w.heap.size,3,none⟩=some (.slice none 0 0):=hR6.cell 3
           have f0:=hR6.free 0
           have f1:=hR6.free 1
           have f2:=hR6.free 2
           have f3:=hR6.free 3
           have hRR:=hid (hR6.Zy (.int .i64 0) (.slice none 0 0) (.slice none 0 0) (.slice none 0 0))
           have hRB:=hid (Y0 hbe6 (Nat.le_refl _) (.int .i64 0) (.slice none 0 0) (.slice none 0 0) (.slice none 0 0))
           go_wp2_with fail;refine bodyPost_ret (Yj rfl _ _ w.heap.size _ _ rfl hRR.out Tryz.underlying105 rfl Y5) rfl ?_;rw [hZ.out];exact ⟨⟨_,_,_,rfl,W5 _ _⟩,hRB.out⟩
       ·obtain rfl:p=m:=by omega
        have hS1:Fs.take p=Fs:=List.take_of_length_le (by rw [lF.out.1]; exact Nat.le_refl _)
        have hS2:Fm.take p=Fm:=List.take_of_length_le (by rw [lF.out.2.1]; exact Nat.le_refl _)
        have hS3:Fx.take p=Fx:=List.take_of_length_le (by rw [lF.out.2.2]; exact Nat.le_refl _)
        rw [hS1,hS2,hS3] at hT
        have s0:wr.cell? ⟨s,0,none⟩=some (.int .i64 k):=hT.blk.cell 0
        have s1:wr.cell? ⟨s,1,none⟩=some (.slice E1 l1 d1):=hT.blk.cell 1
        have s2:wr.cell? ⟨s,2,none⟩=some (.slice E2 l2 d2):=hT.blk.cell 2
        have s3:wr.cell? ⟨s,3,none⟩=some (.slice E3 l3 d3):=hT.blk.cell 3
        have hrl:w.heap.size<w1.heap.size:=hR.lt
        have r0:wr.cell? ⟨w.heap.size,0,none⟩=some (.int .i64 0):=hRr.cell 0
        have r1:wr.cell? ⟨w.heap.size,1,none⟩=some (.slice none 0 0):=hRr.cell 1
        have r2:wr.cell? ⟨w.heap.size,2,none⟩=some (.slice none 0 0):=hRr.cell 2
        have r3:wr.cell? ⟨w.heap.size,3,none⟩=some (.slice none 0 0):=hRr.cell 3
        have f0:=hRr.free 0
        have f1:=hRr.free 1
        have f2:=hRr.free 2
        have f3:=hRr.free 3
        have hZ:Hid (Wn p L=(((k:Int),Fs,Fm,Fx),0)):=hid (by rw [hZp.out,if_pos hQ.out])
        have hO:=hT.own.Zy hrl (.int .i64 k) (.slice E1 l1 d1) (.slice E2 l2 d2) (.slice E3 l3 d3)
        have hRR:=hid (hRr.Zy (.int .i64 k) (.slice E1 l1 d1) (.slice E2 l2 d2) (.slice E3 l3 d3))
        have hRB:=hid (Y0 hber (Nat.le_refl _) (.int .i64 k) (.slice E1 l1 d1) (.slice E2 l2 d2) (.slice E3 l3 d3))
        have hRO:=hid (hO.low (Nat.le_of_lt hrl))
        clear hO hT hr;go_wp2_with fail;refine bodyPost_ret (Yj rfl _ _ w.heap.size _ _ rfl hRR.out Tryz.underlying105 rfl Y5) rfl ?_;rw [hZ.out];exact ⟨⟨_,_,_,rfl,hRO.out⟩,hRB.out⟩
theorem Yc9 {c:PC} (h:c∈L):∃ i,i<L.length∧L.getD i Ym=c:=by
 obtain ⟨k,hk,rfl⟩:=List.mem_iff_getElem.1 h;exact ⟨k,hk,by rw [List.getD_eq_getElem?_getD,List.getElem?_eq_getElem hk]; rfl⟩
theorem Yf3 (L:List PC):Jw L=(L.getD 0 Ym).2.1.length:=by cases L <;> rfl
theorem Rc (h:Z9 w w.heap.size A n c L) (hn:n≤1000000) :
  Calls Tryz.prog 80 #[.slice A n c] w (O6 w (V8 L)):=by
 have hll:=hid h.len
 have hlm:=h.Yn
 have hcm:=h.Z1
 have hcap:=h.cap
 have hb0:=Ya w (.cells #[.int .i64 0,.slice none 0 0,.slice none 0 0,.slice none 0 0] 105)
 have hR:=Block.new w 105 #[.int .i64 0,.slice none 0 0,.slice none 0 0,.slice none 0 0]
 have h1:=h.Yc hb0
 by_cases h0:n=0
 ·subst h0
  have hZ:Hid (V8 L=(Ym,1)):=hid (Ml (.inl (List.eq_nil_of_length_eq_zero hll.out)))
  go_enter Tryz.func80,Tryz.ntmps80;go_wp2_with fail;refine bodyPost_ret (Yj rfl _ _ w.heap.size _ _ rfl hR Tryz.underlying105 rfl Y5) rfl ?_;rw [hZ.out];exact ⟨⟨_,_,_,rfl,W5 _ _⟩,hb0⟩
 ·have i2:(0:Int)<(n:Int):=by omega
  have i3:((n:Int) == 0)=false:=by simp; omega
  obtain ⟨r,hr⟩ : ∃ r:Bool,Hid (r=true↔∀ i,i<n→Zm (L.getD i Ym)∧(L.getD i Ym).2.1.length=(L.getD 0 Ym).2.1.length):=⟨decide (∀ i,i<n→Zm (L.getD i Ym)∧(L.getD i Ym).2.1.length=(L.getD 0 Ym).2.1.length),hid (by simp)⟩
  have hA:=hid (Yiy h1 hr.out)
  go_enter Tryz.func80,Tryz.ntmps80;go_wp2_with fail;refine hA.out.mono ?_;rintro e w1 ⟨rfl,hb1⟩
  have hR1:=hR.below hb1 hR.lt
  have hbe:=Yb hb0 hb1
  have h2:=h1.Yc hb1
  clear hA hb1 hb0 h1 hR h
  have r0:w1.cell? ⟨w.heap.size,0,none⟩=some (.int .i64 0):=hR1.cell 0
  have r1:w1.cell? ⟨w.heap.size,1,none⟩=some (.slice none 0 0):=hR1.cell 1
  have r2:w1.cell? ⟨w.heap.size,2,none⟩=some (.slice none 0 0):=hR1.cell 2
  have r3:w1.cell? ⟨w.heap.size,3,none⟩=some (.slice none 0 0):=hR1.cell 3
  have f0:=hR1.free 0
  have f1:=hR1.free 1
  have f2:=hR1.free 2
  have f3:=hR1.free 3
  cases r
  ·have hZ:Hid (V8 L=(Ym,1)):=hid (Ml (.inr (by
    apply Decidable.byContradiction;intro hno
    have:false=true:=hr.out.2 fun i hi=>by
     have hm:L.getD i Ym∈L:=by
      rw [List.getD_eq_getElem?_getD,List.getElem?_eq_getElem (by rw [hll.out]; exact hi)]
      exact List.getElem_mem _
     have h3:¬ (¬ Zm (L.getD i Ym)∨(L.getD i Ym).2.1.length≠Jw L):=fun h=>hno ⟨_,hm,h⟩
     rw [Yf3] at h3;exact ⟨Decidable.byContradiction fun h=>h3 (.inl h),Decidable.byContradiction fun h=>h3 (.inr h)⟩
    cases this)))
   have hRR:=hid (hR1.Zy (.int .i64 0) (.slice none 0 0) (.slice none 0 0) (.slice none 0 0))
   have hRB:=hid (Y0 hbe (Nat.le_refl _) (.int .i64 0) (.slice none 0 0) (.slice none 0 0) (.slice none 0 0))
   clear hr;go_wp2_with fail;refine bodyPost_ret (Yj rfl _ _ w.heap.size _ _ rfl hRR.out Tryz.underlying105 rfl Y5) rfl ?_;rw [hZ.out];exact ⟨⟨_,_,_,rfl,W5 _ _⟩,hRB.out⟩
  ·obtain ⟨m,hm⟩ : ∃ m,Hid ((L.getD 0 Ym).2.1.length=m):=⟨_,hid rfl⟩
   have HAll:Hid (Dq m L):=hid fun k hk=>by
    have:=hr.out.1 rfl k (by rw [← hll.out]; exact hk)
    exact ⟨this.1,this.2.trans hm.out⟩
   have hm2:m≤2:=by
    have:=(HAll.out 0 (by rw [hll.out]; omega))
    have h3:=this.1.1
    rw [this.2] at h3;exact h3
   have HX:=hid (Yj8 h2)
   have hne:Hid (L≠[]):=hid fun e=>by have:=hll.out; rw [e] at this; simp at this; omega
   clear hr;go_wp2_with fail;refine HX.out.mono ?_;rintro e w2 ⟨⟨x,rfl,hx⟩,hb2⟩
   have hR2:=hR1.below hb2 hR1.lt
   have hbe2:=Yb hbe hb2
   have h3:=h2.Yc hb2
   clear r0 r1 r2 r3 f0 f1 f2 f3 hR1 hbe h2 hb2 HX
   rcases hx with ⟨k,hk,rfl,hf,hk0⟩ | ⟨rfl,hall⟩
   ·have h4:=h3.cut (Nat.le_of_lt hk) (by omega)
    have HT:=hid (Ybs (m:=m) h4 (by omega) (by omega) hm2 (fun j hj=>by
     rw [List.length_drop,hll.out] at hj
     have:=HAll.out (k+j) (by rw [hll.out]; omega)
     have e:(L.drop k).getD j Ym=L.getD (k+j) Ym:=by simp [List.getD_eq_getElem?_getD]
     rw [e]; exact this) (by
     have e:(L.drop k).getD 0 Ym=L.getD k Ym:=by simp [List.getD_eq_getElem?_getD]
     rw [e]; exact hf))
    have hZ:Hid (V8 L=Ye1 m (L.drop k)):=hid (Ce hm2 hne.out HAll.out.mem fun c hc=>by
     obtain ⟨j,hj,rfl⟩:=Yc9 hc;rw [List.length_take] at hj
     have e:(L.take k).getD j Ym=L.getD j Ym:=by simp [List.getD_eq_getElem?_getD,show j<k from by omega]
     rw [e]
     have h5:=hk0 j (by omega)
     have h6:=(Sz (HAll.out j (by rw [hll.out]; omega)).1).1
     omega)
    have j0:(0:Int)≤(k:Int):=by omega
    have j1:(k:Int)≤(n:Int):=by omega
    have j2:(n:Int)≤(c:Int):=by omega
    have j3:(k:Int)≤(c:Int):=by omega
    have j4:¬ (k:Int)<0:=by omega
    have j5:¬ c=k:=by omega
    clear hf hk0 h3 h4;go_wp2_with fail;refine HT.out.mono ?_;rintro e w3 ⟨⟨v1,v2,v3,rfl,ho⟩,hb3⟩
    have hR3:=hR2.below hb3 hR2.lt
    have hbe3:=Yb hbe2 hb3
    have hrs:w.heap.size<w2.heap.size:=hR2.lt
    have r0:w3.cell? ⟨w.heap.size,0,none⟩=some (.int .i64 0):=hR3.cell 0
    have r1:w3.cell? ⟨w.heap.size,1,none⟩=some (.slice none 0 0):=hR3.cell 1
    have r2:w3.cell? ⟨w.heap.size,2,none⟩=some (.slice none 0 0):=hR3.cell 2
    have r3:w3.cell? ⟨w.heap.size,3,none⟩=some (.slice none 0 0):=hR3.cell 3
    have f0:=hR3.free 0
    have f1:=hR3.free 1
    have f2:=hR3.free 2
    have f3:=hR3.free 3
    obtain ⟨A1,n1,c1,rfl,_⟩:=ho.s.Yu;obtain ⟨A2,n2,c2,rfl,_⟩:=ho.m.Yu;obtain ⟨A3,n3,c3,rfl,_⟩:=ho.x.Yu;obtain ⟨q,S,M,X,y,hq⟩ : ∃ q S M X y,Hid (Ye1 m (L.drop k)=((q,S,M,X),y)):=⟨_,_,_,_,_,hid rfl⟩;rw [hq.out] at ho hZ ⊢
    have hRR:=hid (hR3.Zy (.int .i64 q) (.slice A1 n1 c1) (.slice A2 n2 c2) (.slice A3 n3 c3))
    have hRB:=hid (Y0 hbe3 (Nat.le_refl _) (.int .i64 q) (.slice A1 n1 c1) (.slice A2 n2 c2) (.slice A3 n3 c3))
    have hRO:=hid ((ho.Zy hrs (.int .i64 q) (.slice A1 n1 c1) (.slice A2 n2 c2) (.slice A3 n3 c3)).low (Nat.le_of_lt hrs))
    clear ho HT hb3 hq;go_wp2_with fail;refine bodyPost_ret (Yj rfl _ _ w.heap.size _ _ rfl hRR.out Tryz.underlying105 rfl Y5) rfl ?_;rw [hZ.out];exact ⟨⟨_,_,_,rfl,hRO.out⟩,hRB.out⟩
   ·have hZ:Hid (V8 L=(Yv m,0)):=hid (Cg hm2 hne.out HAll.out.mem fun c hc=>by
     obtain ⟨j,hj,rfl⟩:=Yc9 hc
     have h5:=hall j (by rw [← hll.out]; exact hj)
     have h6:=(Sz (HAll.out j hj).1).1
     omega)
    obtain ⟨b,o,q,A1,n1,c1,A2,n2,c2,A3,n3,c3,S,M,X,rfl,hb,g0,g1,g2,g3,hC,hq⟩:=h3.at_ (k:=0) (by omega)
    rw [show o+0*4+1=o+1 from by omega] at g1
    obtain rfl:n1=m:=by
     have:=hm.out
     rw [hq.out] at this;rw [← hC.s.len]; exact this
    clear g0 g2 g3 hC hq h3 hall
    have HE:=hid fun W=>Oh (n1:Int) W (m:=n1) (by omega)
    go_wp2_with fail;refine (HE.out _).mono ?_;rintro e w3 ⟨⟨e1,e2,e3,rfl,ho,_⟩,hb3⟩
    have hR3:=hR2.below hb3 hR2.lt
    have hbe3:=Yb hbe2 hb3
    have hrs:w.heap.size<w2.heap.size:=hR2.lt
    have r0:w3.cell? ⟨w.heap.size,0,none⟩=some (.int .i64 0):=hR3.cell 0
    have r1:w3.cell? ⟨w.heap.size,1,none⟩=some (.slice none 0 0):=hR3.cell 1
    have r2:w3.cell? ⟨w.heap.size,2,none⟩=some (.slice none 0 0):=hR3.cell 2
    have r3:w3.cell? ⟨w.heap.size,3,none⟩=some (.slice none 0 0):=hR3.cell 3
    have f0:=hR3.free 0
    have f1:=hR3.free 1
    have f2:=hR3.free 2
    have f3:=hR3.free 3
    have hRR:=hid (hR3.Zy (.int .i64 0) (.slice (some ⟨e1,0,none⟩) n1 n1) (.slice (some ⟨e2,0,none⟩) n1 n1) (.slice (some ⟨e3,0,none⟩) n1 n1))
    have hRB:=hid (Y0 hbe3 (Nat.le_refl _) (.int .i64 0) (.slice (some ⟨e1,0,none⟩) n1 n1) (.slice (some ⟨e2,0,none⟩) n1 n1) (.slice (some ⟨e3,0,none⟩) n1 n1))
    have hRO:=hid ((ho.Zy hrs (.int .i64 0) (.slice (some ⟨e1,0,none⟩) n1 n1) (.slice (some ⟨e2,0,none⟩) n1 n1) (.slice (some ⟨e3,0,none⟩) n1 n1)).low (Nat.le_of_lt hrs))
    clear ho HE hb3;go_wp2_with fail;refine bodyPost_ret (Yj rfl _ _ w.heap.size _ _ rfl hRR.out Tryz.underlying105 rfl Y5) rfl ?_;rw [hZ.out];exact ⟨⟨_,_,_,rfl,hRO.out⟩,hRB.out⟩
theorem Z9.Yt8 
  (ha:Ww w w.heap.size A1 n1 c1 A2 n2 c2 A3 n3 c3 S M X) (hb:Ww w w.heap.size B1 m1 d1 B2 m2 d2 B3 m3 d3 S' M' X') (T:TypeId) (g:Nat) (hg:g=w.heap.size) :
  Z9 (w.alloc (.cells #[.int .i64 q,.slice A1 n1 c1,.slice A2 n2 c2,.slice A3 n3 c3,.int .i64 q',.slice B1 m1 d1,.slice B2 m2 d2,.slice B3 m3 d3] T)) (w.alloc (.cells #[.int .i64 q,.slice A1 n1 c1,.slice A2 n2 c2,.slice A3 n3 c3,.int .i64 q',.slice B1 m1 d1,.slice B2 m2 d2,.slice B3 m3 d3] T)).heap.size
   (some ⟨g,0,none⟩) 2 2 [(q,S,M,X),(q',S',M',X')]:=by
 subst hg;refine ⟨rfl,Nat.le_refl _,by decide,(fun h=>by cases h),fun i hi=>?_⟩
 match i,hi with
 | 0,_=>exact ⟨w.heap.size,0,_,_,_,_,_,_,_,_,_,rfl,by simp,⟨by rw [Zk]; rfl,by rw [Zk]; rfl,by rw [Zk]; rfl,by rw [Zk]; rfl⟩,ha.Qe _⟩
 | 1,_=>exact ⟨w.heap.size,0,_,_,_,_,_,_,_,_,_,rfl,by simp,⟨by rw [Zk]; rfl,by rw [Zk]; rfl,by rw [Zk]; rfl,by rw [Zk]; rfl⟩,hb.Qe _⟩
 | (j+2),h=>exact absurd h (by omega)
theorem Bp 
  (ha:Ww w w.heap.size A1 n1 c1 A2 n2 c2 A3 n3 c3 S M X) (hb:Ww w w.heap.size B1 m1 d1 B2 m2 d2 B3 m3 d3 S' M' X') :
  Calls Tryz.prog 120 #[Mm q A1 n1 c1 A2 n2 c2 A3 n3 c3,Mm q' B1 m1 d1 B2 m2 d2 B3 m3 d3] w (O6 w (Xq (q,S,M,X) (q',S',M',X'))):=by
 have hb3:=Gr w (.cells #[.int .i64 q,.slice A1 n1 c1,.slice A2 n2 c2,.slice A3 n3 c3] 105) (.cells #[.int .i64 q',.slice B1 m1 d1,.slice B2 m2 d2,.slice B3 m3 d3] 105) (.cells #[.int .i64 0,.slice none 0 0,.slice none 0 0,.slice none 0 0] 105)
 have hR3:=Block.new ((w.alloc (.cells #[.int .i64 q,.slice A1 n1 c1,.slice A2 n2 c2,.slice A3 n3 c3] 105)).alloc (.cells #[.int .i64 q',.slice B1 m1 d1,.slice B2 m2 d2,.slice B3 m3 d3] 105)) 105 #[.int .i64 0,.slice none 0 0,.slice none 0 0,.slice none 0 0]
 simp only [World.size_alloc] at hR3
 have ha3:=ha.Yc hb3
 have hb3':=hb.Yc hb3
 go_enter Tryz.func120,Tryz.ntmps120;go_wp2_with fail
 have h4:=Z9.Yt8 (q:=q) (q':=q') ha3 hb3' 105 (w.heap.size+1+1+1) (by simp)
 have hR4:=hR3.alloc (.cells #[.int .i64 q,.slice A1 n1 c1,.slice A2 n2 c2,.slice A3 n3 c3,.int .i64 q',.slice B1 m1 d1,.slice B2 m2 d2,.slice B3 m3 d3] 105)
 have hb4:=Yb hb3 (Ya (((w.alloc (.cells #[.int .i64 q,.slice A1 n1 c1,.slice A2 n2 c2,.slice A3 n3 c3] 105)).alloc (.cells #[.int .i64 q',.slice B1 m1 d1,.slice B2 m2 d2,.slice B3 m3 d3] 105)).alloc (.cells #[.int .i64 0,.slice none 0 0,.slice none 0 0,.slice none 0 0] 105)) (.cells #[.int .i64 q,.slice A1 n1 c1,.slice A2 n2 c2,.slice A3 n3 c3,.int .i64 q',.slice B1 m1 d1,.slice B2 m2 d2,.slice B3 m3 d3] 105))
 clear ha hb ha3 hb3 hb3' hR3;generalize (((w.alloc (.cells #[.int .i64 q,.slice A1 n1 c1,.slice A2 n2 c2,.slice A3 n3 c3] 105)).alloc (.cells #[.int .i64 q',.slice B1 m1 d1,.slice B2 m2 d2,.slice B3 m3 d3] 105)).alloc (.cells #[.int .i64 0,.slice none 0 0,.slice none 0 0,.slice none 0 0] 105)).alloc (.cells #[.int .i64 q,.slice A1 n1 c1,.slice A2 n2 c2,.slice A3 n3 c3,.int .i64 q',.slice B1 m1 d1,.slice B2 m2 d2,.slice B3 m3 d3] 105)=w4 at h4 hR4 hb4 ⊢
 have hr:w.heap.size≤w.heap.size+1+1:=by omega
 generalize w.heap.size+1+1=g at h4 hR4 hr ⊢;refine (Rc h4 (by decide)).mono ?_
 rintro e w5 ⟨⟨v1,v2,v3,rfl,ho⟩,hb5⟩
 have hrs:g<w4.heap.size:=hR4.lt
 have hR5:=hR4.below hb5 hrs
 have hbe:=Yb hb4 hb5
 clear hb5
 have r0:w5.cell? ⟨g,0,none⟩=some (.int .i64 0):=hR5.cell 0
 have r1:w5.cell? ⟨g,1,none⟩=some (.slice none 0 0):=hR5.cell 1
 have r2:w5.cell? ⟨g,2,none⟩=some (.slice none 0 0):=hR5.cell 2
 have r3:w5.cell? ⟨g,3,none⟩=some (.slice none 0 0):=hR5.cell 3
 have f0:=hR5.free 0
 have f1:=hR5.free 1
 have f2:=hR5.free 2
 have f3:=hR5.free 3
 obtain ⟨E1,l1,k1,rfl,_⟩:=ho.s.Yu;obtain ⟨E2,l2,k2,rfl,_⟩:=ho.m.Yu;obtain ⟨E3,l3,k3,rfl,_⟩:=ho.x.Yu;obtain ⟨p,P,Q,R,y,hq⟩ : ∃ p P Q R y,Hid (V8 [(q,S,M,X),(q',S',M',X')]=((p,P,Q,R),y)):=⟨_,_,_,_,_,hid rfl⟩
 have hZ:=hid (Ycg (q,S,M,X) (q',S',M',X'))
 rw [hq.out] at ho hZ
 have hRR:=hid (hR5.Zy (.int .i64 p) (.slice E1 l1 k1) (.slice E2 l2 k2) (.slice E3 l3 k3))
 have hRB:=hid (Y0 hbe hr (.int .i64 p) (.slice E1 l1 k1) (.slice E2 l2 k2) (.slice E3 l3 k3))
 have hRO:=hid ((ho.Zy hrs (.int .i64 p) (.slice E1 l1 k1) (.slice E2 l2 k2) (.slice E3 l3 k3)).low hb4.size)
 rw [hq.out];clear ho hq h4 hbe;go_wp2_with fail;refine bodyPost_ret (Yj rfl _ _ g _ _ rfl hRR.out Tryz.underlying105 rfl Y5) rfl ?_;rw [← hZ.out];exact ⟨⟨_,_,_,rfl,hRO.out⟩,hRB.out⟩
section
def Ra (xs:List Value) (L:List PC) (R:Value→Value→Value→PC→Prop):Prop :=
 ∀ i q,L[i]?=some q→∃ a b c,xs[4*i]?=some (.int .i64 q.1)∧xs[4*i+1]?=some a∧xs[4*i+2]?=some b∧xs[4*i+3]?=some c∧R a b c q
def Ys2 (w:World) (B:Nat) (v:Value) (L:List PC) (R:Value→Value→Value→PC→Prop):Prop :=
 ∃ xs,w.ownsRow B 105 4 v L.length xs∧Ra xs L R
def InC (w:World) (C:Nat) (a b c:Value) (q:PC):Prop :=
 (∃ A1 n1 c1 A2 n2 c2 A3 n3 c3,a=.slice A1 n1 c1∧b=.slice A2 n2 c2∧c=.slice A3 n3 c3∧Ww w C A1 n1 c1 A2 n2 c2 A3 n3 c3 q.2.1 q.2.2.1 q.2.2.2)∨X5 w C a b c q.2.1 q.2.2.1 q.2.2.2
section
variable {w w' : World}{B C:Nat}{v:Value}{L:List PC}{R R' : Value→Value→Value→PC→Prop}
theorem Ra.mono {xs:List Value}(h:Ra xs L R) (hR:∀ a b c q,R a b c q→R' a b c q):Ra xs L R':=fun i q hi=>by
 obtain ⟨a,b,c,h1,h2,h3,h4,h5⟩:=h i q hi;exact ⟨a,b,c,h1,h2,h3,h4,hR _ _ _ _ h5⟩
theorem Ra.snoc {xs:List Value}(h:Ra xs L R) (hl:xs.length=L.length*4) {q:PC}{a b c:Value}(hc:R a b c q):Ra (xs++[.int .i64 q.1,a,b,c]) (L++[q]) R:=fun i q' hi=>by
 by_cases hlt:i<L.length
 ·rw [List.getElem?_append_left hlt] at hi
  obtain ⟨a',b',c',h1,h2,h3,h4,h5⟩:=h i q' hi;exact ⟨a',b',c',by rw [List.getElem?_append_left (by omega)]; exact h1,by rw [List.getElem?_append_left (by omega)]; exact h2,by rw [List.getElem?_append_left (by omega)]; exact h3,by rw [List.getElem?_append_left (by omega)]; exact h4,h5⟩
 ·have hie:i=L.length:=by
   have:=(List.getElem?_eq_some_iff.1 hi).1
   simp at this;omega
  subst hie;simp at hi;subst hi;refine ⟨a,b,c,?_,?_,?_,?_,hc⟩
  ·rw [List.getElem?_append_right (by omega),show 4*L.length - xs.length=0 by omega]; rfl
  ·rw [List.getElem?_append_right (by omega),show 4*L.length+1 - xs.length=1 by omega]; rfl
  ·rw [List.getElem?_append_right (by omega),show 4*L.length+2 - xs.length=2 by omega]; rfl
  ·rw [List.getElem?_append_right (by omega),show 4*L.length+3 - xs.length=3 by omega]; rfl
theorem InC.below {a b c:Value}{q:PC}(h:InC w C a b c q) (hb:Below w.heap.size w w') (hC:C≤w.heap.size):InC w' C a b c q:=by
 rcases h with ⟨A1,n1,c1,A2,n2,c2,A3,n3,c3,h1,h2,h3,h4⟩ | h
 ·exact .inl ⟨A1,n1,c1,A2,n2,c2,A3,n3,c3,h1,h2,h3,h4.below hb hC⟩
 ·exact .inr (h.below hb (Nat.le_refl _))
theorem InC.alloc {a b c:Value}{q:PC}(h:InC w C a b c q) (o:Obj) (hC:C≤w.heap.size):InC (w.alloc o) C a b c q:=h.below (Ya w o) hC
theorem InC.grown {a b c:Value}{q:PC}{n:Nat}{xs:List Value}(h:InC w C a b c q) (hrow:w.ownsRow C 105 4 v n xs) (hg:w.grownBy w' v.ownBlock) (hC:C≤w.heap.size):InC w' C a b c q:=by
 have hr:∀ g,v.ownBlock=some g→C≤g:=fun g hg=>(hrow.lt g hg).1
 rcases h with ⟨A1,n1,c1,A2,n2,c2,A3,n3,c3,h1,h2,h3,h4⟩ | h
 ·exact .inl ⟨A1,n1,c1,A2,n2,c2,A3,n3,c3,h1,h2,h3,⟨h4.s.grown hg hC hr,h4.m.grown hg hC hr,h4.x.grown hg hC hr⟩⟩
 ·exact .inr ⟨h.s.kept hg (Vz h.s hrow (by decide)),h.m.kept hg (Vz h.m hrow (by decide)),h.x.kept hg (Vz h.x hrow (by decide))⟩
theorem InC.read {a b c:Value}{q:PC}(h:InC w C a b c q) (hC:C≤w.heap.size):∃ A1 n1 c1 A2 n2 c2 A3 n3 c3,a=.slice A1 n1 c1∧b=.slice A2 n2 c2∧c=.slice A3 n3 c3∧Ww w w.heap.size A1 n1 c1 A2 n2 c2 A3 n3 c3 q.2.1 q.2.2.1 q.2.2.2:=by
 rcases h with ⟨A1,n1,c1,A2,n2,c2,A3,n3,c3,h1,h2,h3,h4⟩ | h
 ·exact ⟨A1,n1,c1,A2,n2,c2,A3,n3,c3,h1,h2,h3,h4.more hC⟩
 ·exact h.form
abbrev Pf (w:World) (B:Nat) (v:Value) (L:List PC):Prop:=Ys2 w B v L (InC w B)
theorem Pf.below (h:Pf w B v L) (hb:Below w.heap.size w w') (hB:B≤w.heap.size):Pf w' B v L:=by
 obtain ⟨xs,h1,h2⟩:=h;exact ⟨xs,Z8 h1 hb,h2.mono fun _ _ _ _ h=>h.below hb hB⟩
theorem Pf.step {w1:World}{v' a b c:Value}{q:PC}{xs:List Value}(h1:w1.ownsRow B 105 4 v L.length xs) (h2:Ra xs L (InC w1 B)) (hc:InC w1 B a b c q) (hB:B≤w1.heap.size)
  (hown:w'.ownsRow B 105 4 v' (L.length+1) (xs++[.int .i64 q.1,a,b,c])) (hgrow:w1.grownBy w' v.ownBlock):Pf w' B v' (L++[q]):=by
 have Vj:∀ (a b c:Value) (q:PC),InC w1 B a b c q→InC w' B a b c q:=fun a b c q hh=>hh.grown h1 hgrow hB
 exact ⟨_,by simpa using hown,(h2.mono Vj).snoc h1.1 (Vj _ _ _ _ hc)⟩
theorem Pf.read (h:Pf w B v L) (hB:B≤w.heap.size):∃ A c,v=.slice A L.length c∧Z9 w w.heap.size A L.length c L:=by
 obtain ⟨xs,h1,h2⟩:=h
 rcases h1.2 with ⟨rfl,h0⟩ | ⟨g,cap,cur,rfl,hb,hg,hnc,hcm,_⟩
 ·rw [h0]
  exact ⟨none,0,rfl,h0,Nat.le_refl _,Nat.zero_le _,fun _=>rfl,fun i hi=>absurd hi (by omega)⟩
 ·refine ⟨_,cap,rfl,rfl,hnc,hcm,(fun h=>by cases h),fun i hi=>?_⟩
  obtain ⟨a,b,c,e1,e2,e3,e4,h5⟩:=h2 i (L.getD i Ym) (by rw [List.getD_eq_getElem?_getD,List.getElem?_eq_getElem hi]; rfl)
  obtain ⟨A1,n1,c1,A2,n2,c2,A3,n3,c3,rfl,rfl,rfl,hh⟩:=h5.read hB
  have hcell:=h1.cells (g:=g) rfl
  refine ⟨g,0,A1,n1,c1,A2,n2,c2,A3,n3,c3,rfl,(Array.getElem?_eq_some_iff.1 hg).1,⟨?_,?_,?_,?_⟩,hh⟩
  ·have:=hcell _ _ e1
   rwa [Yt,show 0+4*i=0+i*4 from by omega] at this
  ·have:=hcell _ _ e2
   rwa [Yt,show 0+(4*i+1)=0+i*4+1 from by omega] at this
  ·have:=hcell _ _ e3
   rwa [Yt,show 0+(4*i+2)=0+i*4+2 from by omega] at this
  ·have:=hcell _ _ e4
   rwa [Yt,show 0+(4*i+3)=0+i*4+3 from by omega] at this
end
theorem Yan (w:World) (x y z u:Value) (t:TypeId) (g:Nat) (hg:g=w.heap.size):∀ j o,[x,y,z,u][j]?=some o→(w.alloc (.cells #[x,y,z,u] t)).cell? ((⟨g,0,none⟩ : Addr).add j)=some o:=by
 intro j o hj;subst hg
 match j,hj with
 | 0,hj=>simp at hj; subst hj; simp [Addr.add]
 | 1,hj=>simp at hj; subst hj; simp [Addr.add]
 | 2,hj=>simp at hj; subst hj; simp [Addr.add]
 | 3,hj=>simp at hj; subst hj; simp [Addr.add]
 | (j+4),hj=>simp at hj
theorem Ym4 (k:Int) (A1:Option Addr) (n1 c1:Nat) (A2:Option Addr) (n2 c2:Nat) (A3:Option Addr) (n3 c3:Nat):∀ u∈[Value.int .i64 k,.slice A1 n1 c1,.slice A2 n2 c2,.slice A3 n3 c3],u.oneCell'=true:=by
 intro u hu;simp at hu
 rcases hu with rfl | rfl | rfl | rfl <;> rfl
def Ud (m:Nat):Array Value:=madeCells #[.int .i64 0,.slice none 0 0,.slice none 0 0,.slice none 0 0] (m*4)
theorem Hc (m:Nat):(Ud m).size=m*4:=by simp [Ud,madeCells]
theorem Ye9 (h:0<m):(Ud m).toList.take 4=[.int .i64 0,.slice none 0 0,.slice none 0 0,.slice none 0 0]:=by
 apply List.ext_getElem
 ·simp [Hc]; omega
 ·intro k h1 h2
  have hk:k<4:=by simpa using h2
  match k,hk with
  | 0,_=>simp [Ud,madeCells]
  | 1,_=>simp [Ud,madeCells]
  | 2,_=>simp [Ud,madeCells]
  | 3,_=>simp [Ud,madeCells]
theorem Ygi (m:Nat) (W:World) (h0:0<m) (hm:m≤1000000):(Instr.makeSlice 103 (.int .i64 1) (.int .i64 m)).run Tryz.prog W=.ok (.slice (some ⟨W.heap.size,0,none⟩) 1 m) (W.alloc (.cells (Ud m) 105)):=by
 obtain ⟨i,hi,hz,hy,hx⟩:=info_parts Qt
 have h:=run_make (P:=Tryz.prog) W 103 105 i _ Tryz.underlying103 hi hz .i64 .i64 1 m (by omega) (by omega) (by rw [hx]; omega) (by omega)
 rw [hy,Int.toNat_natCast] at h;exact h
theorem Ygw (hb:Block w g 105 (Ud m)) (h:base≤g) (h0:0<m) (hm:m≤1000000):w.ownsRow base 105 4 (.slice (some ⟨g,0,none⟩) 1 m) 1 [.int .i64 0,.slice none 0 0,.slice none 0 0,.slice none 0 0] :=
 ⟨rfl,.inr ⟨g,m,Ud m,rfl,h,hb,h0,by unfold maxLen; omega,Hc m,Ye9 h0⟩⟩
theorem Yo6 {a b c d:Value} (h:w.ownsRow base 105 4 (.slice (some ⟨g,0,none⟩) 1 m) 1 [a,b,c,d]) (a' b' c' d' : Value) :
  (P0 w g a' b' c' d').ownsRow base 105 4 (.slice (some ⟨g,0,none⟩) 1 m) 1 [a',b',c',d']:=by
 have h1:=(World.ownsRow.stored h 0 a').1
 have h2:=(World.ownsRow.stored h1 1 b').1
 have h3:=(World.ownsRow.stored h2 2 c').1
 exact (World.ownsRow.stored h3 3 d').1
theorem X5.Ypd {base':Nat}{v1 v2 v3:Value}{xs:List Value} (h:X5 w base v1 v2 v3 S M X) (hr:w.ownsRow base' 105 4 (.slice (some ⟨g,0,none⟩) n m) n xs) (a' b' c' d' : Value):X5 (P0 w g a' b' c' d') base v1 v2 v3 S M X:=by
 have hne:∀ {v:Value}{l:List Int},Yf w base v l→v.ownBlock≠some g:=fun h e=>by
  rcases Vz h hr (by decide) with h1 | h1
  ·rw [e] at h1; cases h1
  ·exact h1 e
 have key:∀ {v:Value}{l:List Int}{w:World},Yf w base v l→v.ownBlock≠some g→∀ (j:Nat) (u:Value),Yf (w.setCell ⟨g,j,none⟩ u) base v l:=fun h hn j u=>h.other hn u
 have n1:=hne h.s
 have n2:=hne h.m
 have n3:=hne h.x
 exact ⟨key (key (key (key h.s n1 0 a') n1 1 b') n1 2 c') n1 3 d',key (key (key (key h.m n2 0 a') n2 1 b') n2 2 c') n2 3 d',key (key (key (key h.x n3 0 a') n3 1 b') n3 2 c') n3 3 d'⟩
theorem Yc6 (x:Int) {A:Option Addr}{n c:Nat}{L:List (List Int)}{w:World}(h:Ux w w.heap.size A n c L) (hn:n≤1000) :
  Calls Tryz.prog 110 #[.int .i64 x,.slice A n c] w (O6 w (Wn x L)):=by
 have hll:=hid h.len
 have hcm:=h.Z1
 have hcap:=h.cap
 have hb0:=Ya w (.cells #[.int .i64 0,.slice none 0 0,.slice none 0 0,.slice none 0 0] 105)
 have hR:=Block.new w 105 #[.int .i64 0,.slice none 0 0,.slice none 0 0,.slice none 0 0]
 by_cases hx0:x<0
 ·have hZ:Hid (Wn x L=(Ym,1)):=hid (U8 (.inl hx0))
  go_enter Tryz.func110,Tryz.ntmps110;go_wp2_with fail;refine bodyPost_ret (Yj rfl _ _ w.heap.size _ _ rfl hR Tryz.underlying105 rfl Y5) rfl ?_;rw [hZ.out];exact ⟨⟨_,_,_,rfl,W5 _ _⟩,hb0⟩
 ·by_cases hx2:2<x
  ·have hZ:Hid (Wn x L=(Ym,1)):=hid (U8 (.inr (.inl hx2)))
   go_enter Tryz.func110,Tryz.ntmps110;go_wp2_with fail;refine bodyPost_ret (Yj rfl _ _ w.heap.size _ _ rfl hR Tryz.underlying105 rfl Y5) rfl ?_;rw [hZ.out];exact ⟨⟨_,_,_,rfl,W5 _ _⟩,hb0⟩
  ·obtain ⟨m,rfl⟩ : ∃ m:Nat,x=(m:Int):=⟨x.toNat,by omega⟩
   have hm2:m≤2:=by omega
   have hZ:Hid (V8 (Yv m :: L.map Wb)=Wn m L):=hid (Cf hm2 L (by rw [hll.out]; exact hn))
   have HK:∀ W:World,(Instr.makeSlice 103 (.int .i64 1) (.int .i64 ((n:Int)+1))).run Tryz.prog W=.ok (.slice (some ⟨W.heap.size,0,none⟩) 1 (n+1)) (W.alloc (.cells (Ud (n+1)) 105)):=fun W=>by
    have:=Ygi (n+1) W (by omega) (by omega)
    rwa [show ((n+1:Nat):Int)=(n:Int)+1 from by omega] at this
   go_enter Tryz.func110,Tryz.ntmps110;go_wp2_with fail
   have hR2:=hR.alloc (.cells (Ud (n+1)) 105)
   have hO:=Ygw (base:=w.heap.size+1) (Block.new (w.alloc (.cells #[.int .i64 0,.slice none 0 0,.slice none 0 0,.slice none 0 0] 105)) 105 (Ud (n+1))) (by simp) (by omega) (by omega)
   have hb2:=We w (.cells #[.int .i64 0,.slice none 0 0,.slice none 0 0,.slice none 0 0] 105) (.cells (Ud (n+1)) 105)
   rw [World.size_alloc] at hO;clear HK hR hb0;generalize (w.alloc (.cells #[.int .i64 0,.slice none 0 0,.slice none 0 0,.slice none 0 0] 105)).alloc (.cells (Ud (n+1)) 105)=w2 at hR2 hO hb2 ⊢
   have hg:w.heap.size<w.heap.size+1:=by omega
   have hg2:w.heap.size+1≤w2.heap.size:=hR2.lt
   obtain ⟨g,hge⟩ : ∃ g,Hid (w.heap.size+1=g):=⟨_,hid rfl⟩;rw [hge.out] at hO hg hg2 ⊢;refine (Oh (m:Int) _ (m:=m) (by omega)).mono ?_
   rintro e w3 ⟨⟨e1,e2,e3,rfl,ho,_⟩,hb3⟩
   have hR3:=hR2.below hb3 hR2.lt
   have hO3:=Z8 hO hb3
   have hbe:=Yb hb2 hb3
   have s0:w3.cell? ⟨g,0,none⟩=some (.int .i64 0):=hO3.cellAt 0 (by decide)
   have s1:w3.cell? ⟨g,1,none⟩=some (.slice none 0 0):=hO3.cellAt 1 (by decide)
   have s2:w3.cell? ⟨g,2,none⟩=some (.slice none 0 0):=hO3.cellAt 2 (by decide)
   have s3:w3.cell? ⟨g,3,none⟩=some (.slice none 0 0):=hO3.cellAt 3 (by decide)
   have f0:=hO3.frozenAt 0
   have f1:=hO3.frozenAt 1
   have f2:=hO3.frozenAt 2
   have f3:=hO3.frozenAt 3
   have j2:(0:Int)<((n+1:Nat):Int):=by omega
   have hO4:=hid (Yo6 hO3 (.int .i64 0) (.slice (some ⟨e1,0,none⟩) m m) (.slice (some ⟨e2,0,none⟩) m m) (.slice (some ⟨e3,0,none⟩) m m))
   have hC4:=hid ((ho.Ypd hO3 (.int .i64 0) (.slice (some ⟨e1,0,none⟩) m m) (.slice (some ⟨e2,0,none⟩) m m) (.slice (some ⟨e3,0,none⟩) m m)).low hg2)
   have hne:g≠w.heap.size:=by omega
   have hR4:=hid ((((hR3.Yl g 0 (.int .i64 0) hne).Yl g 1 (.slice (some ⟨e1,0,none⟩) m m) hne).Yl g 2 (.slice (some ⟨e2,0,none⟩) m m) hne).Yl g 3 (.slice (some ⟨e3,0,none⟩) m m) hne)
   have hB4:=hid (Y0 hbe (Nat.le_of_lt hg) (.int .i64 0) (.slice (some ⟨e1,0,none⟩) m m) (.slice (some ⟨e2,0,none⟩) m m) (.slice (some ⟨e3,0,none⟩) m m))
   clear hO hO3 hR2 hR3 ho hb2 hb3 hbe hne;go_wp2_with fail;go_loopw [6,26] (fun v i wr=>∃ k:Nat,k≤n∧i=.int .i64 k∧Pf wr g v (Yv m :: (L.take k).map Wb)∧Block wr w.heap.size 105 #[.int .i64 0,.slice none 0 0,.slice none 0 0,.slice none 0 0]∧Below w.heap.size w wr) (fun _ i _=>n - (intOf i).toNat)
   case atStart =>
    refine ⟨0,Nat.zero_le _,rfl,⟨_,hO4.out,fun i q hi=>?_⟩,hR4.out,hB4.out⟩
    match i,hi with
    | 0,hi =>
     simp at hi;subst hi;exact ⟨_,_,_,rfl,rfl,rfl,rfl,.inr hC4.out⟩
    | (i+1),hi=>simp at hi
   case round =>
    obtain ⟨k,hk,rfl,hI,hRB,hbe⟩:=hrel;clear hO4 hC4 hR4 hB4 s0 s1 s2 s3 f0 f1 f2 f3
    by_cases hlt:k<n
    ·obtain ⟨b,o,A',n',c',l,rfl,hb,g0,hl,he⟩:=(h.below hbe (Nat.le_refl _)).at_ hlt
     have i0:(0:Int)≤(k:Int):=by omega
     have i1:(k:Int)<(n:Int):=by omega
     go_wp2_with fail;refine (Yrg A' n' c' _).mono ?_;rintro e w5 ⟨rfl,hb5⟩
     have hgz:g≤wr.heap.size:=by have:=hRB.lt; have:=hge.out; omega
     have hl5:=(hl.more (Nat.le_of_lt hg)).below hb5 hgz
     have hI5:=Pf.below hI hb5 hgz
     have hbe5:=hbe.trans (hb5.mono hbe.size)
     have hRB5:=hRB.below hb5 hRB.lt
     clear hI hbe hRB hl g0 hb5;obtain ⟨xs,hown,hcells⟩:=hI5;obtain ⟨i9,hi9,hz0,hz1,hz2⟩:=info_parts Qt
     have hz5:g≤w5.heap.size:=by have:=hRB5.lt; have:=hge.out; omega
     have hz6:=hbe5.size
     obtain ⟨N,hN,hNk⟩ : ∃ N,Hid ((Yv m :: (L.take k).map Wb).length=N)∧N≤1001:=⟨_,hid rfl,by simp; omega⟩
     rw [hN.out] at hown;go_wp2_with (at_builtin; refine wpList_append_own _ rfl _ _ 103 rfl g 105 i9 _ 4 80 Tryz.underlying103 hi9 hz0 hz1 hz2 rfl (by decide) _ N xs rfl (hown.alloc _) _ 1 1 [.int .i64 1,.slice A' n' c',.slice A' n' c',.slice A' n' c'] rfl rfl (Yan _ _ _ _ _ _ _ rfl) (Ym4 _ _ _ _ _ _ _ _ _ _) (by unfold maxLen; omega) (by omega) (by simp; omega) ?_)
     intro v6 w6 hown6 hgrow6 _
     have hlo:=fun q e=>(hown.lt q e).1
     rw [← hN.out] at hown hown6
     have hst:=hid (Pf.step (q:=Wb l) (hown.alloc _) (hcells.mono fun _ _ _ _ h=>h.alloc _ hz5) (.inl ⟨A',n',c',A',n',c',A',n',c',rfl,rfl,rfl,⟨hl5.alloc hz5 _,hl5.alloc hz5 _,hl5.alloc hz5 _⟩⟩) (by simp; omega) hown6 hgrow6)
     have hlist:Hid ((Yv m :: (L.take k).map Wb)++[Wb l]=Yv m :: (L.take (k+1)).map Wb):=hid (by
      rw [List.cons_append,List.take_add_one,List.map_append,he.out,List.getD_eq_getElem?_getD,List.getElem?_eq_getElem (by rw [hll.out]; exact hlt)]
      rfl)
     rw [hlist.out] at hst
     have hB6:Below w.heap.size w w6:=(hbe5.alloc hz6 _).grown hgrow6 (by simp; omega) (fun q e=>by have:=hlo q e; omega)
     have hR6:Block w6 w.heap.size 105 #[.int .i64 0,.slice none 0 0,.slice none 0 0,.slice none 0 0]:=by
      refine (hRB5.alloc _).grown hgrow6 fun e=>?_
      have:=hlo _ e
      omega
     clear hown hcells hown6 hgrow6 hbe5 hRB5 hl5;go_wp2_with fail;go_roundw
     case rel=>exact ⟨k+1,by omega,by go_num,hst.out,hR6,hB6⟩
     case measure=>simp [intOf]; omega
    ·obtain rfl:k=n:=by omega
     have hgz:g≤wr.heap.size:=by have:=hRB.lt; have:=hge.out; omega
     have hLk:Hid (L.take k=L):=hid (List.take_of_length_le (by rw [hll.out]; exact Nat.le_refl _))
     rw [hLk.out] at hI;obtain ⟨A5,c5,hv,hH⟩:=Pf.read hI hgz;obtain ⟨N,hN,hNk⟩ : ∃ N,Hid ((Yv m :: L.map Wb).length=N)∧N≤1001:=⟨_,hid rfl,by simp; rw [hll.out]; exact hn⟩
     rw [hN.out] at hv hH;subst hv
     have hS:=hid (Rc hH (by omega))
     have hrl:=hRB.lt
     clear hI hH;go_wp2_with fail;refine hS.out.mono ?_;rintro e w5 ⟨⟨v1,v2,v3,rfl,ho⟩,hb5⟩
     have hR5:=hRB.below hb5 hrl
     have hbe5:=hbe.trans (hb5.mono hbe.size)
     clear hb5 hS
     have r0:w5.cell? ⟨w.heap.size,0,none⟩=some (.int .i64 0):=hR5.cell 0
     have r1:w5.cell? ⟨w.heap.size,1,none⟩=some (.slice none 0 0):=hR5.cell 1
     have r2:w5.cell? ⟨w.heap.size,2,none⟩=some (.slice none 0 0):=hR5.cell 2
     have r3:w5.cell? ⟨w.heap.size,3,none⟩=some (.slice none 0 0):=hR5.cell 3
     have f0:=hR5.free 0
     have f1:=hR5.free 1
     have f2:=hR5.free 2
     have f3:=hR5.free 3
     obtain ⟨E1,l1,k1,rfl,_⟩:=ho.s.Yu;obtain ⟨E2,l2,k2,rfl,_⟩:=ho.m.Yu;obtain ⟨E3,l3,k3,rfl,_⟩:=ho.x.Yu;obtain ⟨p,P,Q,R,y,hq⟩ : ∃ p P Q R y,Hid (V8 (Yv m :: L.map Wb)=((p,P,Q,R),y)):=⟨_,_,_,_,_,hid rfl⟩;rw [hq.out] at ho hZ
     have hRR:=hid (hR5.Zy (.int .i64 p) (.slice E1 l1 k1) (.slice E2 l2 k2) (.slice E3 l3 k3))
     have hRBb:=hid (Y0 hbe5 (Nat.le_refl _) (.int .i64 p) (.slice E1 l1 k1) (.slice E2 l2 k2) (.slice E3 l3 k3))
     have hRO:=hid ((ho.Zy hrl (.int .i64 p) (.slice E1 l1 k1) (.slice E2 l2 k2) (.slice E3 l3 k3)).low (Nat.le_of_lt hrl))
     rw [hq.out];clear ho hq hbe hbe5 hRB;go_wp2_with fail;refine bodyPost_ret (Yj rfl _ _ w.heap.size _ _ rfl hRR.out Tryz.underlying105 rfl Y5) rfl ?_;rw [← hZ.out];exact ⟨⟨_,_,_,rfl,hRO.out⟩,hRBb.out⟩
end
end Go.Proofs.YtkablhecedcngaaGreat
