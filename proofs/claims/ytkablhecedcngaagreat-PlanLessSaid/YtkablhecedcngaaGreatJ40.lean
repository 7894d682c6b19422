/- SchemaC, SchemaV, SchemaW, SchemaR, SchemaS -/
import Derived.Test.YtkablhecedcngaaGreatJ21
import Derived.Test.YtkablhecedcngaaGreatJ22
import Derived.Test.YtkablhecedcngaaGreatJ26
namespace Go.Proofs.YtkablhecedcngaaGreat
set_option maxRecDepth 100000
set_option maxHeartbeats 8000000
open Go.RowKit
open Go.Lib (hid)
variable {D:List Yg}{V:List (List Int)}{c c1 c2 c3 k n n1 n2 n3:Nat}{w:World}{L M:List Txt}{l v:List Int}{x:Txt}{A A1 A2 A3:Option Addr}
section
open Go.RowKit Go.Maps
theorem Yr9 (hk:k<D.length) (he:D.getD k Xv=(x,L)) (h:¬ Ze L 3):decide (Pa D)=false:=by
 rw [decide_eq_false_iff_not];intro hm;refine h (hm.1 (x,L) ?_);rw [← he,List.getD_eq_getElem?_getD,List.getElem?_eq_getElem hk];exact List.getElem_mem hk
theorem Yic (hk:k<D.length) (he:D.getD k Xv=(x,L)) (h:Ze L 3) (ht:∀ d∈D.take k,Ze d.2 3):∀ d∈D.take (k+1),Ze d.2 3:=by
 rw [List.take_succ_eq_append_getElem hk];intro d hd
 rcases List.mem_append.1 hd with hd | hd
 ·exact ht d hd
 ·rw [List.mem_singleton] at hd
  have e:D[k]=(x,L):=by rw [← he,List.getD_eq_getElem?_getD,List.getElem?_eq_getElem hk]; rfl
  rw [hd,e];exact h
theorem Yss (hk:D.length≤k) (ht:∀ d∈D.take k,Ze d.2 3):decide (Ze (D.map (·.1)) 3)=decide (Pa D):=by
 rw [List.take_of_length_le hk] at ht
 by_cases h:Ze (D.map (·.1)) 3
 ·rw [decide_eq_true h,decide_eq_true (show Pa D from ⟨ht,h⟩)]
 ·rw [decide_eq_false h,decide_eq_false (fun hm:Pa D=>h hm.2)]
theorem Eb (hk:k<D.length) (he:D.getD k Xv=(x,L)):(D.map (·.1)).take k++[x]=(D.map (·.1)).take (k+1):=by
 have hk2:k<(D.map (·.1)).length:=by simpa using hk
 rw [List.take_succ_eq_append_getElem hk2]
 congr 2
 have e:D[k]=(x,L):=by rw [← he,List.getD_eq_getElem?_getD,List.getElem?_eq_getElem hk]; rfl
 rw [List.getElem_map,e]
theorem Ysj (hf:Sq D) (hk:k<D.length) (he:D.getD k Xv=(x,L)):∀ s∈L,s.length≤maxLen:=by
 have h1:(x,L)∈D:=by
  rw [← he,List.getD_eq_getElem?_getD,List.getElem?_eq_getElem hk];exact List.getElem_mem hk
 exact (hf _ h1).2
theorem Yjy (hf:Sq D):∀ s∈D.map (·.1),s.length≤maxLen:=by
 intro s hs;obtain ⟨d,hd,rfl⟩:=List.mem_map.1 hs;exact (hf d hd).1
theorem Yd3 (h:Xf w w.heap.size A n c D) (hf:Sq D) (hn:n≤1000) :
  Calls Tryz.prog 62 #[.slice A n c] w fun e w'=>e=.returned (.bool (decide (Pa D)))∧Below w.heap.size w w':=by
 have HL:=hid h.len
 have HF:=hid hf
 clear hf;go_enter Tryz.func62,Tryz.ntmps62;go_wp2;go_loopw [3,8] (fun v i wr=>∃ k:Nat,k≤n∧i=.int .i64 k∧Xb wr w.heap.size v ((D.map (·.1)).take k)∧Below w.heap.size w wr∧Hid (∀ d∈D.take k,Ze d.2 3)) (fun _ i _=>n - (intOf i).toNat)
 case atStart=>exact ⟨0,Nat.zero_le _,rfl,Xb.Zj w _,Below.refl _ _,hid (by simp)⟩
 case round =>
  obtain ⟨k,hk,rfl,hO,hB,ht⟩:=hrel
  by_cases hlt:k<n
  ·obtain ⟨b,o,x,A',n',c',L,rfl,hb,g0,g1,hT,he⟩:=(h.below hB (Nat.le_refl _)).at_ hlt
   have i0:(0:Int)≤(k:Int):=by omega
   have i1:(k:Int)<(n:Int):=by omega
   have hz:=hB.size
   have hlb:Hid (((D.map (·.1)).take k).length≤1000000):=hid (Nat.le_trans (List.length_take_le k _) (by omega))
   have hba:=Ya wr (.cells #[.string ⟨x.toArray⟩,.slice A' n' c'] 54)
   have hT1:=(hT.more hz).Yc hba
   have hB1:=hB.trans (hba.mono hz)
   have hO1:=hO.alloc (.cells #[.string ⟨x.toArray⟩,.slice A' n' c'] 54)
   have hS:=Block.new wr 54 #[.string ⟨x.toArray⟩,.slice A' n' c']
   have HN:=hid (show Calls Tryz.prog 63 #[.slice A' n' c',.int .i64 3] _ _ from Qw (m:=3) hT1 (Ysj HF.out (by have:=HL.out; omega) he.out) (Nat.le_refl _))
   clear hT hT1 hO hB
   by_cases ha:Ze L 3
   ·rw [decide_eq_true ha] at HN
    have H:=hid (Yic (by have:=HL.out; omega) he.out ha ht.out)
    have HH:=hid (Eb (by have:=HL.out; omega) he.out)
    clear ha;go_wp2_with fail;generalize wr.alloc (.cells #[.string ⟨x.toArray⟩,.slice A' n' c'] 54)=w2 at hB1 hO1 HN hS ⊢;clear hba;refine HN.out.mono ?_;rintro e w3 ⟨rfl,hb3⟩
    have hO3:=hO1.below hb3 (Nat.le_refl _)
    have hB3:=hB1.trans (hb3.mono hB1.size)
    have hS3:=hS.below hb3 hS.lt
    have d0:w3.cell? ⟨wr.heap.size,0,none⟩=some (.string ⟨x.toArray⟩):=hS3.cell 0
    have d1:w3.cell? ⟨wr.heap.size,1,none⟩=some (.slice A' n' c'):=hS3.cell 1
    have hlo:=fun g e=>(hO3.lt g e).1
    have hO4:=hO3.alloc (.cells #[.string ⟨x.toArray⟩] 9)
    have hz3:=hB3.size
    clear hO1 hB1 HN hb3 hS hS3;go_wp2_with (at_builtin; refine P7 rfl _ _ rfl w.heap.size _ _ rfl hO4 _ rfl x (L7 _ _ _ _ (by simp)) hlb.out (by rw [World.size_alloc]; omega) ?_)
    intro v' w5 hO5 hG5
    have hB5:=hid ((hB3.alloc hz3 (.cells #[.string ⟨x.toArray⟩] 9)).trans (hG5.Y4 (by rw [World.size_alloc]; omega) hlo))
    rw [HH.out] at hO5
    have hO6:=hid hO5
    clear hO3 hO4 hO5 hG5 hlo hB3 d0 d1;go_wp2_with fail;go_roundw
    case rel=>exact ⟨k+1,by omega,by go_num,hO6.out,hB5.out,H⟩
    case measure=>simp [intOf]; omega
   ·rw [decide_eq_false ha] at HN
    have H:=hid (Yr9 (by have:=HL.out; omega) he.out ha)
    clear ha;go_wp2_with fail;refine HN.out.mono ?_;rintro e w3 ⟨rfl,hb3⟩
    have hB3:=hid (hB1.trans (hb3.mono hB1.size))
    clear hO1 hB1 HN hb3;go_wp2_with fail;go_ret;exact ⟨Yd H.out.symm,hB3.out⟩
  ·have e:(D.map (·.1)).take k=D.map (·.1):=List.take_of_length_le (by have:=HL.out; simp; omega)
   rw [e] at hO
   have H:=hid (Yss (by have:=HL.out; omega) ht.out)
   obtain ⟨A',n',c',rfl,hT,_⟩:=hO.Yu
   have HN:=hid (show Calls Tryz.prog 63 #[.slice A' n' c',.int .i64 3] _ _ from Qw (m:=3) hT (Yjy HF.out) (Nat.le_refl _))
   rw [H.out] at HN;clear hO hT e H;go_wp2_with fail;refine HN.out.mono ?_;rintro e w3 ⟨rfl,hb3⟩
   have hB3:=hid (hB.trans (hb3.mono hB.size))
   clear HN hb3 hB;go_wp2_with fail;go_ret;exact ⟨rfl,hB3.out⟩
/-! ### The views -/
theorem Ybb {α β:Type}{f:α→β}{l:List α} (hf:∀ a∈l,∀ b∈l,f a=f b→a=b):(l.map f).Nodup↔l.Nodup:=by
 unfold List.Nodup;rw [List.pairwise_map,List.pairwise_iff_getElem,List.pairwise_iff_getElem];constructor
 ·exact fun h i j hi hj hij e=>h i j hi hj hij (by rw [e])
 ·exact fun h i j hi hj hij e=>h i j hi hj hij (hf _ (List.getElem_mem hi) _ (List.getElem_mem hj) e)
theorem Ymz {w:List Int} (h:v.length=w.length) (h3:v.length≤3) (e:Qm v=Qm w):v=w:=by
 simp only [Qm,Prod.mk.injEq] at e;obtain ⟨e0,e1,e2⟩:=e;refine Ymu h fun i hi=>?_
 match i,hi with
 | 0,_=>exact e0
 | 1,_=>exact e1
 | 2,_=>exact e2
 | (i+3),hi=>omega
theorem Ylq (h3:D.length≤3) (hc:∀ v∈V,Zi D v):((Ye D V).map Qm).Nodup↔(Ye D V).Nodup:=by
 have hl:∀ v∈Ye D V,v.length=D.length:=by
  intro v hv
  rcases List.mem_cons.1 hv with rfl | hv
  ·exact U7 D
  ·exact (hc v hv).1
 exact Ybb fun a ha b hb e=>Ymz ((hl a ha).trans (hl b hb).symm) (by rw [hl a ha]; exact h3) e
theorem Yq9 (h:6<V.length):decide (Py D V)=false:=by
 rw [decide_eq_false_iff_not]; intro h'; have:=h'.1; omega
theorem Yts (hk:k<V.length) (he:l=V.getD k []) (h:¬ Zi D l):decide (Py D V)=false:=by
 rw [decide_eq_false_iff_not];intro hm;refine h (hm.2.1 l ?_);rw [he,List.getD_eq_getElem?_getD,List.getElem?_eq_getElem hk];exact List.getElem_mem hk
theorem Yid (hk:k<V.length) (he:l=V.getD k []) (h:Zi D l) (ht:∀ v∈V.take k,Zi D v):∀ v∈V.take (k+1),Zi D v:=by
 rw [List.take_succ_eq_append_getElem hk];intro d hd
 rcases List.mem_append.1 hd with hd | hd
 ·exact ht d hd
 ·rw [List.mem_singleton] at hd
  have e:V[k]=l:=by rw [he,List.getD_eq_getElem?_getD,List.getElem?_eq_getElem hk]; rfl
  rw [hd,e];exact h
def S2 (D:List Yg) (V:List (List Int)) (k:Nat):List T3:=Qm (Zv D) :: (V.take k).map Qm
theorem Co (hk:k≤6):(S2 D V k).length≤1000:=by
 have:=List.length_take_le k V
 simp [S2]; omega
theorem Yst (h3:D.length≤3) (h6:¬ 6<V.length) (hk:V.length≤k) (ht:∀ v∈V.take k,Zi D v):(!decide (¬ (S2 D V k).Nodup))=decide (Py D V):=by
 unfold S2;rw [List.take_of_length_le hk] at ht ⊢
 have e:(Qm (Zv D) :: V.map Qm).Nodup↔(Ye D V).Nodup:=Ylq h3 ht
 by_cases hn:(Ye D V).Nodup
 ·have h1:Py D V:=⟨by omega,ht,hn⟩
  rw [decide_eq_true h1,decide_eq_false (show ¬ ¬ (Qm (Zv D) :: V.map Qm).Nodup from fun h=>h (e.2 hn))]
  rfl
 ·have h1:¬ Py D V:=fun h=>hn h.2.2
  rw [decide_eq_false h1,decide_eq_true (show ¬ (Qm (Zv D) :: V.map Qm).Nodup from fun h=>hn (e.1 h))]
  rfl
theorem Ym0 (hk:k<V.length) (he:l=V.getD k []):S2 D V k++[Qm l]=S2 D V (k+1):=by
 unfold S2;rw [List.take_succ_eq_append_getElem hk,he,List.getD_eq_getElem?_getD,List.getElem?_eq_getElem hk,List.map_append];rfl
theorem Yqj (hl:∀ v,Zi D v→Wf3 (Qm v)) (ht:∀ v∈V.take k,Zi D v):∀ t∈S2 D V k,Wf3 t:=fun t ht'=>by
 rcases List.mem_cons.1 ht' with rfl | ht'
 ·exact hl _ (Jm D)
 ·obtain ⟨v,hv,rfl⟩:=List.mem_map.1 ht'
  exact hl _ (ht v hv)
theorem Xf.levels {B:Nat} (h:Xf w B A n c D):∀ d∈D,d.2.length≤maxLen:=by
 intro d hd;obtain ⟨i,hi,rfl⟩:=List.mem_iff_getElem.1 hd;obtain ⟨b,o,A',n',c',_,_,_,_,hT⟩:=h.has i (by rw [← h.len]; exact hi)
 rw [List.getD_eq_getElem?_getD,List.getElem?_eq_getElem hi] at hT
 have h1:=hT.len
 have h2:=hT.cap
 have h3:=hT.fit
 show (D[i]).2.length≤maxLen
 have h4:(D[i]).2.length=n':=h1
 omega
theorem Ytz {x:Int} (h0:0≤x) (h1:x≤((maxLen:Nat):Int)):(Lit.int .i64 x).wf=true:=by
 have e1:IntKind.i64.min=-9223372036854775808:=rfl
 have e2:IntKind.i64.max=9223372036854775807:=rfl
 unfold maxLen at h1;simp only [Lit.wf,Bool.and_eq_true,decide_eq_true_eq];omega
theorem Yjg (hl:∀ d∈D,d.2.length≤maxLen) (h:Zi D v):Wf3 (Qm v):=by
 have key:∀ i,(Lit.int .i64 (v.getD i 0)).wf=true:=fun i=>by
  by_cases hi:i<v.length
  ·obtain ⟨h0,h1⟩:=h.2 i hi
   refine Ytz h0 (Int.le_trans h1 ?_)
   have hi2:i<D.length:=by rw [← h.1]; exact hi
   have:(D.getD i Xv).2.length≤maxLen:=hl _ (by rw [List.getD_eq_getElem?_getD,List.getElem?_eq_getElem hi2]; exact List.getElem_mem hi2)
   omega
  ·rw [List.getD_eq_getElem?_getD,List.getElem?_eq_none (by omega)]
   rfl
 exact ⟨key 0,key 1,key 2⟩
theorem Ya8 (h:Tx w w.heap.size A1 n1 c1 A2 n2 c2 A3 n3 c3 D M V) (h3:D.length≤3) :
  Calls Tryz.prog 64 #[V6 A1 n1 c1 A2 n2 c2 A3 n3 c3] w fun e w'=>e=.returned (.bool (decide (Py D V)))∧Below w.heap.size w w':=by
 have HD:=hid h.d.len
 have HV:=hid h.v.len
 have H3:=hid h3
 have hlev:=hid h.d.levels
 have hb0:=Ya w (.cells #[.slice A1 n1 c1,.slice A2 n2 c2,.slice A3 n3 c3] 26)
 have h1:=h.Yc hb0
 have hS:=Block.new w 26 #[.slice A1 n1 c1,.slice A2 n2 c2,.slice A3 n3 c3]
 clear h h3
 by_cases h6:(6:Int)<(n3:Int)
 ·have H:=hid (Yq9 (D:=D) (V:=V) (by rw [HV.out]; omega))
  go_enter Tryz.func64,Tryz.ntmps64;go_wp2;go_ret;exact ⟨Yd H.out.symm,hb0⟩
 ·have H6:Hid (n3≤6):=hid (by omega)
  have hn1:Hid (n1≤1000):=hid (by have:=HD.out; have:=H3.out; omega)
  go_enter Tryz.func64,Tryz.ntmps64;go_wp2_with fail;generalize w.alloc (.cells #[.slice A1 n1 c1,.slice A2 n2 c2,.slice A3 n3 c3] 26)=w1 at hb0 h1 hS ⊢;refine (Ycc h1.d hn1.out).mono ?_;rintro e w2 ⟨⟨v,rfl,hO⟩,hb2⟩;obtain ⟨Ab,nb,cb,rfl,hI,_⟩:=hO.Yu;obtain ⟨x,y,z,hxyz⟩ : ∃ x y z,Hid (Qm (Zv D)=(x,y,z)):=⟨_,_,_,hid rfl⟩;clear hO;go_wp2_with fail;refine (Yc0 hI hxyz).mono ?_;rintro e w3 ⟨rfl,hb3⟩
  have hb4:=Yb hb2 hb3
  have hO4:=Pb.lit w3 (x,y,z) w3.heap.size rfl w1.heap.size hb4.size
  have hb5:=Yb hb4 (Ya w3 (.cells #[.int .i64 x,.int .i64 y,.int .i64 z] 155))
  have hO5:Pb (w3.alloc (.cells #[.int .i64 x,.int .i64 y,.int .i64 z] 155)) w1.heap.size (.slice (some ⟨w3.heap.size,0,none⟩) 1 1) (S2 D V 0):=by
   have e:S2 D V 0=[(x,y,z)]:=by rw [← hxyz.out]; simp [S2]
   rw [e];exact hO4
  have hS5:=hS.below hb5 hS.lt
  have s5:(w3.alloc (.cells #[.int .i64 x,.int .i64 y,.int .i64 z] 155)).cell? ⟨w.heap.size,2,none⟩=some (.slice A3 n3 c3):=hS5.cell 2
  clear hO4 hI hb2 hb3 hb4;go_wp2_with fail;generalize w3.alloc (.cells #[.int .i64 x,.int .i64 y,.int .i64 z] 155)=w4 at hb5 hO5 hS5 s5 ⊢;clear hS5 s5;go_loopw [3,17] (fun v i wr=>∃ k:Nat,k≤n3∧i=.int .i64 k∧Pb wr w1.heap.size v (S2 D V k)∧Below w1.heap.size w1 wr∧Hid (∀ v∈V.take k,Zi D v)) (fun _ i _=>n3 - (intOf i).toNat)
  case atStart=>exact ⟨0,Nat.zero_le _,rfl,hO5,hb5,hid (by simp)⟩
  case round =>
   obtain ⟨k,hk,rfl,hO,hB,ht⟩:=hrel;clear hO5 hb5
   have hSr:=hS.below hB hS.lt
   by_cases hlt:k<n3
   ·obtain ⟨b,o,A',n',c',l,rfl,hb,g0,hl,he⟩:=(h1.v.below hB (Nat.le_refl _)).at_ hlt
    have i0:(0:Int)≤(k:Int):=by omega
    have i1:(k:Int)<(n3:Int):=by omega
    have s0:wr.cell? ⟨w.heap.size,0,none⟩=some (.slice A1 n1 c1):=hSr.cell 0
    have s1:wr.cell? ⟨w.heap.size,1,none⟩=some (.slice A2 n2 c2):=hSr.cell 1
    have s2:wr.cell? ⟨w.heap.size,2,none⟩=some (.slice (some ⟨b,o,none⟩) n3 c3):=hSr.cell 2
    have hlr:=hl.more hB.size
    have HC:=hid (Fe (A2:=A2) (n2:=n2) (c2:=c2) (A3:=some ⟨b,o,none⟩) (n3:=n3) (c3:=c3) (h1.d.Yc hB) hlr)
    clear hl
    by_cases hc:Zi D l
    ·rw [decide_eq_true hc] at HC
     have H:=hid (Yid (by have:=HV.out; omega) he.out hc ht.out)
     have HF:=hid (Ym0 (D:=D) (by have:=HV.out; omega) he.out)
     have hlb:Hid ((S2 D V k).length≤1000):=hid (Co (by have:=H6.out; omega))
     clear hc;go_wp2_with fail;refine HC.out.mono ?_;rintro e w5 ⟨rfl,hb5⟩
     have hl5:=hlr.Yc hb5
     have hB5:=hB.trans (hb5.mono hB.size)
     have hO5:=hO.below hb5
     obtain ⟨x2,y2,z2,hx2⟩ : ∃ x y z,Hid (Qm l=(x,y,z)):=⟨_,_,_,hid rfl⟩;clear HC s0 s1 s2 hlr hO hB hSr g0;go_wp2_with fail;refine (Yc0 hl5 hx2).mono ?_;rintro e w6 ⟨rfl,hb6⟩
     have hB6:=hB5.trans (hb6.mono hB5.size)
     have hO6:=(hO5.below hb6).alloc (.cells #[.int .i64 x2,.int .i64 y2,.int .i64 z2] 155)
     have hcell:=hid (Yme w6 (x2,y2,z2) 155 w6.heap.size rfl)
     have hz6:=hB6.size
     have hlo:=fun g e=>(hO5.lt g e).1
     clear hl5 hb5 hb6 hO5 hB5;go_wp2_with (at_builtin; refine Ye5 rfl _ _ rfl w1.heap.size _ _ rfl hO6 _ rfl (x2,y2,z2) hcell.out hlb.out (by rw [World.size_alloc]; omega) ?_)
     intro v' w7 hO7 hG7
     have hB7:=hid ((hB6.alloc hz6 (.cells #[.int .i64 x2,.int .i64 y2,.int .i64 z2] 155)).trans (hG7.Y4 (by rw [World.size_alloc]; omega) hlo))
     rw [← hx2.out,HF.out] at hO7
     have hO8:=hid hO7
     clear hO6 hO7 hG7 hlo hB6 hcell;go_wp2_with fail;go_roundw
     case rel=>exact ⟨k+1,by omega,by go_num,hO8.out,hB7.out,H⟩
     case measure=>simp [intOf]; omega
    ·rw [decide_eq_false hc] at HC
     have H:=hid (Yts (by have:=HV.out; omega) he.out hc)
     clear hc;go_wp2_with fail;refine HC.out.mono ?_;rintro e w5 ⟨rfl,hb5⟩
     have hB5:=hid (Yb hb0 (hB.trans (hb5.mono hB.size)))
     clear HC hb5 hB hO;go_wp2_with fail;go_ret;exact ⟨Yd H.out.symm,hB5.out⟩
   ·have H:=hid (Yst (D:=D) (V:=V) (k:=k) H3.out (by have:=HV.out; omega) (by have:=HV.out; omega) ht.out)
    obtain ⟨A',c',rfl,hA⟩:=hO.form
    have HT:=hid (Yhe hA (Co (by have:=H6.out; omega)) (Yqj (fun v=>Yjg hlev.out) ht.out))
    obtain ⟨N,hN⟩ : ∃ N,(S2 D V k).length=N:=⟨_,rfl⟩;obtain ⟨q,hq⟩ : ∃ q,decide (¬ (S2 D V k).Nodup)=q:=⟨_,rfl⟩;rw [hN,hq] at HT;rw [hq] at H;rw [hN];clear hO hA hN hq;go_wp2_with fail;refine HT.out.mono ?_;rintro e w5 ⟨rfl,hb5⟩
    have hB5:=hid (Yb hb0 (hB.trans (hb5.mono hB.size)))
    clear HT hb5 hB;go_wp2_with fail;go_ret;exact ⟨Ycf H.out,hB5.out⟩
end
section
open Go.RowKit Go.Maps
theorem Ytp {D:List Yg}{M:List Txt}{V:List (List Int)}(h:¬ Pa D):decide (Z3 D M V)=false:=by
 rw [decide_eq_false_iff_not]; exact fun h'=>h h'.1
theorem Ytq {D:List Yg}{M:List Txt}{V:List (List Int)}(h:¬ Ze M 2):decide (Z3 D M V)=false:=by
 rw [decide_eq_false_iff_not]; exact fun h'=>h h'.2.1
theorem Ytr {D:List Yg}{M:List Txt}{V:List (List Int)}(h:Pa D) (h' : Ze M 2):decide (Py D V)=decide (Z3 D M V):=by
 by_cases hv:Py D V
 ·rw [decide_eq_true hv,decide_eq_true (show Z3 D M V from ⟨h,h',hv⟩)]
 ·rw [decide_eq_false hv,decide_eq_false (show ¬ Z3 D M V from fun h=>hv h.2.2)]
theorem Yok {D:List Yg}(h:Pa D):D.length≤3:=by have:=h.2.2.1; simpa using this
theorem Ti {A1 A2 A3:Option Addr}{n1 c1 n2 c2 n3 c3:Nat}{D:List Yg}{M:List Txt}{V:List (List Int)}{w:World}(h:Tx w w.heap.size A1 n1 c1 A2 n2 c2 A3 n3 c3 D M V) (hf:Sq D) (hm:∀ s∈M,s.length≤maxLen) (hn1:n1≤1000) :
  Calls Tryz.prog 43 #[V6 A1 n1 c1 A2 n2 c2 A3 n3 c3] w fun e w'=>e=.returned (.bool (decide (Z3 D M V)))∧Below w.heap.size w w':=by
 have hb0:=Ya w (.cells #[.slice A1 n1 c1,.slice A2 n2 c2,.slice A3 n3 c3] 26)
 have h1:=h.Yc hb0
 have hS:=Block.new w 26 #[.slice A1 n1 c1,.slice A2 n2 c2,.slice A3 n3 c3]
 have HD:=hid (Yd3 h1.d hf hn1)
 have HM:=hid hm
 clear h hm
 by_cases hd:Pa D
 ·rw [decide_eq_true hd] at HD
  have HX:=hid hd
  clear hd;go_enter Tryz.func43,Tryz.ntmps43;go_wp2_with fail;generalize w.alloc (.cells #[.slice A1 n1 c1,.slice A2 n2 c2,.slice A3 n3 c3] 26)=w1 at hb0 h1 hS HD ⊢;refine HD.out.mono ?_;rintro e w2 ⟨rfl,hb2⟩
  have h2:=h1.Yc hb2
  have hS2:=hS.below hb2 hS.lt
  have hb3:=Yb hb0 hb2
  have s1:w2.cell? ⟨w.heap.size,1,none⟩=some (.slice A2 n2 c2):=hS2.cell 1
  have HN:=hid (show Calls Tryz.prog 63 #[.slice A2 n2 c2,.int .i64 2] _ _ from Qw (m:=2) h2.m HM.out (by decide))
  clear HD hb2 hb0 h1 hS
  by_cases ha:Ze M 2
  ·rw [decide_eq_true ha] at HN
   have HA:=hid ha
   clear ha;go_wp2_with fail;refine HN.out.mono ?_;rintro e w3 ⟨rfl,hb4⟩
   have h3:=h2.Yc hb4
   have hS3:=hS2.below hb4 hS2.lt
   have hb5:=Yb hb3 hb4
   have s0:w3.cell? ⟨w.heap.size,0,none⟩=some (.slice A1 n1 c1):=hS3.cell 0
   have s4:w3.cell? ⟨w.heap.size,1,none⟩=some (.slice A2 n2 c2):=hS3.cell 1
   have s2:w3.cell? ⟨w.heap.size,2,none⟩=some (.slice A3 n3 c3):=hS3.cell 2
   have HV:=hid (Ya8 h3 (Yok HX.out))
   have H:=hid (Ytr (V:=V) HX.out HA.out)
   rw [H.out] at HV;clear s1 HN hb4 hb3 h2 hS2 H;go_wp2_with fail;refine HV.out.mono ?_;rintro e w4 ⟨rfl,hb6⟩
   have hb7:=Yb hb5 hb6
   clear s0 s4 s2 HV hb6;go_wp2_with fail;go_ret;exact ⟨rfl,hb7⟩
  ·rw [decide_eq_false ha] at HN
   have H:=hid (Ytq (D:=D) (V:=V) ha)
   clear ha;go_wp2_with fail;refine HN.out.mono ?_;rintro e w3 ⟨rfl,hb4⟩
   have hb5:=Yb hb3 hb4
   clear s1 HN hb4;go_wp2_with fail;go_ret;exact ⟨Yd H.out.symm,hb5⟩
 ·rw [decide_eq_false hd] at HD
  have H:=hid (Ytp (M:=M) (V:=V) hd)
  clear hd;go_enter Tryz.func43,Tryz.ntmps43;go_wp2_with fail;refine HD.out.mono ?_;rintro e w2 ⟨rfl,hb2⟩
  have hb3:=Yb hb0 hb2
  clear HD;go_wp2_with fail;go_ret;exact ⟨Yd H.out.symm,hb3⟩
/-! ### Rows of rows of the call's own -/
def Xk (w:World) (base:Nat) (v:Value) (Q:List (List Int)):Prop :=
 ∃ vs:List Value,w.ownsRow base 27 1 v Q.length vs∧∀ (i:Nat) (q:List Int),Q[i]?=some q→∃ x,vs[i]?=some x∧Yf w base x q
section
variable {w w' : World}{base:Nat}{v:Value}{Q:List (List Int)}
theorem Xk.Zj (w:World) (base:Nat):Xk w base (.slice none 0 0) []:=⟨[],World.ownsRow_nil w base _ 1,fun i q h=>by simp at h⟩
theorem Xk.low {base' : Nat}(h:Xk w base v Q) (hb:base'≤base):Xk w base' v Q:=by
 obtain ⟨vs,h1,h2⟩:=h;exact ⟨vs,Uv h1 hb,fun i q hi=>by obtain ⟨x,e,hx⟩:=h2 i q hi; exact ⟨x,e,hx.low hb⟩⟩
theorem Xk.lt (h:Xk w base v Q):∀ k,v.ownBlock=some k→base≤k∧k<w.heap.size:=by
 obtain ⟨vs,h1,_⟩:=h;exact World.ownsRow.lt h1
theorem Xk.below (h:Xk w base v Q) (hb:Below w.heap.size w w'):Xk w' base v Q:=by
 obtain ⟨vs,h1,h2⟩:=h;exact ⟨vs,Z8 h1 hb,fun i q hi=>by obtain ⟨x,e,hx⟩:=h2 i q hi; exact ⟨x,e,Yf.below hx hb (Nat.le_refl _)⟩⟩
theorem Xk.alloc (h:Xk w base v Q) (o:Obj):Xk (w.alloc o) base v Q:=h.below (Ya w o)
theorem Xk.form (h:Xk w base v Q):∃ A c,v=.slice A Q.length c∧Ux w w.heap.size A Q.length c Q:=by
 obtain ⟨vs,h1,h2⟩:=h
 rcases h1.2 with ⟨rfl,h0⟩ | ⟨g,cap,cur,rfl,hb,hg,hnc,hcm,hcs,ht⟩
 ·rw [h0]
  exact ⟨none,0,rfl,h0,Nat.le_refl _,Nat.zero_le _,fun _=>rfl,fun i h=>absurd h (by omega)⟩
 ·refine ⟨_,cap,rfl,rfl,hnc,hcm,(fun h=>by cases h),fun i hi=>?_⟩
  obtain ⟨x,e,hx⟩:=h2 i _ (List.getElem?_eq_getElem hi);obtain ⟨A',c',rfl,hT,_⟩:=hx.form
  have hc:=World.ownsRow.cells h1 (g:=g) rfl i _ e
  rw [Yt] at hc;refine ⟨g,0,A',_,c',rfl,(Array.getElem?_eq_some_iff.1 hg).1,hc,?_⟩;rw [List.getD_eq_getElem?_getD,List.getElem?_eq_getElem hi];exact hT
theorem Xk.Ee (h:Xk w base v Q) {B:Nat}{x:Value}{q:List Int}(hx:Yf w B x q) (hg:w.grownBy w' v.ownBlock):Yf w' B x q:=by
 obtain ⟨vs,h1,_⟩:=h;exact World.ownsRow.kept hx hg (Vz hx h1 (by decide))
end
section
variable {w:World}{ops:Array Oper}{rest:List Oper}{o:Oper}{a:Act}{K:Exit→Act→World→Prop}
theorem Lq (hgd:o.guard=none) (s x:Operand)
  (ho:o.op=.call { callee:=.builtin .append,args:=#[s,x],argTypes:=#[24,24] })
  (base:Nat) (v:Value) (Q:List (List Int)) (hs:a.eval s=v) (hown:Xk w base v Q) (g:Nat) (hx:a.eval x=.slice (some ⟨g,0,none⟩) 1 1) (y:Value) (q:List Int) (hy:w.cell? ⟨g,0,none⟩=some y) (hyo:Yf w base y q) (hl:Q.length≤1000000) (hbase:base≤w.heap.size)
  (h:∀ v' w',Xk w' base v' (Q++[q])→Z7 w v w' v'→wpList Tryz.prog ops K rest (a.put o.dst v') w'):wpList Tryz.prog ops K (o :: rest) a w:=by
 obtain ⟨i,hi,hz0,hz1,hz2⟩:=info_parts Kr
 have hown0:=hown
 obtain ⟨vs,h1,h2⟩:=hown
 have hvl:vs.length=Q.length:=by have:=h1.1; omega
 have hone:y.oneCell'=true:=by obtain ⟨A',c',rfl,_⟩:=hyo.form; rfl
 refine wpList_append_own_at w hgd s x 24 ho base 27 i _ 1 24 Tryz.underlying24 hi hz0 hz1 hz2 rfl (by decide) v Q.length vs hs h1 ⟨g,0,none⟩ 1 1 [y] hx rfl (fun j u hj=>?_) (fun u hu=>?_) (by unfold maxLen; omega) (by omega) hbase ?_
 ·match j,hj with
  | 0,hj=>simp at hj; subst hj; rw [Yt]; exact hy
  | (j+1),hj=>simp at hj
 ·simp at hu; subst hu; exact hone
 ·intro v' w' e1 e2 _ e4
  refine h v' w' ⟨vs++[y],by simpa using e1,fun i q' hi=>?_⟩ ⟨e2,fun k hk=>?_⟩
  ·by_cases hlt:i<Q.length
   ·rw [List.getElem?_append_left hlt] at hi
    obtain ⟨x',e,hx'⟩:=h2 i q' hi;exact ⟨x',by rw [List.getElem?_append_left (by omega)]; exact e,hown0.Ee hx' e2⟩
   ·have hie:i=Q.length:=by
     have:=(List.getElem?_eq_some_iff.1 hi).1
     simp at this;omega
    subst hie;simp at hi;subst hi;exact ⟨y,by rw [List.getElem?_append_right (by omega),hvl]; simp,hown0.Ee hyo e2⟩
  ·rcases e4 with e4 | e4
   ·exact .inl (e4 ▸ hk)
   ·rw [e4] at hk
    injection hk with hk
    exact .inr (Nat.le_of_eq hk)
end
theorem Xk.lit {base:Nat}{x:Value}{q:List Int} (h:Yf w base x q) (g:Nat) (hg:g=w.heap.size) (hb:base≤g):Xk (w.alloc (.cells #[x] 27)) base (.slice (some ⟨g,0,none⟩) 1 1) [q]:=by
 subst hg;refine ⟨[x],⟨rfl,.inr ⟨w.heap.size,1,#[x],rfl,hb,heap_alloc_new w _,Nat.le_refl _,by decide,rfl,rfl⟩⟩,fun i q' hi=>?_⟩
 match i,hi with
 | 0,hi=>simp at hi; subst hi; exact ⟨x,rfl,h.alloc _⟩
 | (i+1),hi=>simp at hi
def Yse (w:World) (Q:List (List Int)) (e:Ending) (w' : World):Prop:=(∃ v,e=.returned v∧Xk w' w.heap.size v Q)∧Below w.heap.size w w'
theorem Dj (hk:k<V.length) (he:l=V.getD k []):Ye D (V.take k)++[l]=Ye D (V.take (k+1)):=by
 unfold Ye;rw [List.take_succ_eq_append_getElem hk,he,List.getD_eq_getElem?_getD,List.getElem?_eq_getElem hk];rfl
theorem Ylr (hk:k≤1000):(Ye D (V.take k)).length≤1000000:=by
 have:=List.length_take_le k V
 simp [Ye]; omega
theorem Jf (h:Tx w w.heap.size A1 n1 c1 A2 n2 c2 A3 n3 c3 D M V) (hn1:n1≤1000) (hn3:n3≤1000) (hV:∀ l∈V,l.length≤1000) :
  Calls Tryz.prog 18 #[V6 A1 n1 c1 A2 n2 c2 A3 n3 c3] w (Yse w (Ye D V)):=by
 have HV:=hid h.v.len
 have HVL:=hid hV
 have hb0:=Ya w (.cells #[.slice A1 n1 c1,.slice A2 n2 c2,.slice A3 n3 c3] 26)
 have h1:=h.Yc hb0
 have hS:=Block.new w 26 #[.slice A1 n1 c1,.slice A2 n2 c2,.slice A3 n3 c3]
 clear h hV;go_enter Tryz.func18,Tryz.ntmps18;go_wp2_with fail;generalize w.alloc (.cells #[.slice A1 n1 c1,.slice A2 n2 c2,.slice A3 n3 c3] 26)=w1 at hb0 h1 hS ⊢;refine (Ycc h1.d hn1).mono ?_;rintro e w2 ⟨⟨v,rfl,hO⟩,hb2⟩
 have hO4:=Xk.lit hO w2.heap.size rfl hb2.size
 have hb4:=Yb hb2 (Ya w2 (.cells #[v] 27))
 have hS4:=hS.below hb4 hS.lt
 have s4:(w2.alloc (.cells #[v] 27)).cell? ⟨w.heap.size,2,none⟩=some (.slice A3 n3 c3):=hS4.cell 2
 have hv:Hid (v.oneCell'=true):=hid (by obtain ⟨A',c',rfl,_⟩:=hO.form; rfl)
 have hO4:Xk (w2.alloc (.cells #[v] 27)) w1.heap.size (.slice (some ⟨w2.heap.size,0,none⟩) 1 1) (Ye D (V.take 0)):=by simpa [Ye] using hO4
 clear hO hb2;obtain ⟨Ab,nb,cb,rfl⟩ : ∃ A n c,v=.slice A n c:=by
  obtain ⟨vs,h1,h2⟩:=hO4;obtain ⟨x,e,hx⟩:=h2 0 (Zv D) rfl
  have e2:=h1.cells (g:=w2.heap.size) rfl 0 x e
  rw [Yt,Zk] at e2;obtain ⟨A',c',rfl,_⟩:=hx.form
  have e3:v=.slice A' (Zv D).length c':=by simpa using e2
  exact ⟨_,_,_,e3⟩
 go_wp2_with fail;generalize w2.alloc (.cells #[.slice Ab nb cb] 27)=w4 at hb4 hO4 hS4 s4 ⊢;clear hS4 hS hv;go_loopw [3,12] (fun v i wr=>∃ k:Nat,k≤n3∧i=.int .i64 k∧Xk wr w1.heap.size v (Ye D (V.take k))∧Below w1.heap.size w1 wr) (fun _ i _=>n3 - (intOf i).toNat)
 case atStart=>exact ⟨0,Nat.zero_le _,rfl,hO4,hb4⟩
 case round =>
  obtain ⟨k,hk,rfl,hO,hB⟩:=hrel;clear hO4 hb4 s4
  by_cases hlt:k<n3
  ·obtain ⟨b,o,A',n',c',l,rfl,hb,g0,hl,he⟩:=(h1.v.below hB (Nat.le_refl _)).at_ hlt
   have i0:(0:Int)≤(k:Int):=by omega
   have i1:(k:Int)<(n3:Int):=by omega
   have hlr:=hl.more hB.size
   have hn' : n'≤1000000:=by
    have h2:l∈V:=by rw [he.out,List.getD_eq_getElem?_getD,List.getElem?_eq_getElem (by have:=HV.out; omega)]; exact List.getElem_mem _
    have:=HVL.out l h2
    have:=hl.len
    omega
   have HC:=hid (V9 hlr hn')
   have HF:=hid (Dj (D:=D) (by have:=HV.out; omega) he.out)
   have hlb:=hid (Ylr (D:=D) (V:=V) (k:=k) (by omega))
   clear hl hlr hn';go_wp2_with fail;refine HC.out.mono ?_;rintro e w5 ⟨⟨y,rfl,hy⟩,hb5⟩
   have hz:=hB.size
   have hB5:=hB.trans (hb5.mono hz)
   have hO5:=hO.below hb5
   have hy5:=hy.low hz
   obtain ⟨Ay,ny,cy,rfl,_⟩:=hy.Yu
   have hO6:=hO5.alloc (.cells #[.slice Ay ny cy] 27)
   have hy6:=hy5.alloc (.cells #[.slice Ay ny cy] 27)
   have hlo:=fun g e=>(hO5.lt g e).1
   have hz5:=hB5.size
   clear HC hO hB hb5 hO5 hy hy5 g0;go_wp2_with (at_builtin; refine Lq rfl _ _ rfl w1.heap.size _ _ rfl hO6 _ rfl _ l (L7 _ _ _ _ rfl) hy6 hlb.out (by rw [World.size_alloc]; omega) ?_)
   intro v' w7 hO7 hG7
   have hB7:=hid ((hB5.alloc hz5 (.cells #[.slice Ay ny cy] 27)).trans (hG7.Y4 (by rw [World.size_alloc]; omega) hlo))
   rw [HF.out] at hO7
   have hO8:=hid hO7
   clear hO6 hy6 hO7 hG7 hlo hB5;go_wp2_with fail;go_roundw
   case rel=>exact ⟨k+1,by omega,by go_num,hO8.out,hB7.out⟩
   case measure=>simp [intOf]; omega
  ·have e:V.take k=V:=List.take_of_length_le (by have:=HV.out; omega)
   rw [e] at hO
   have HO:=hid (hO.low hb0.size)
   have HB:=hid (Yb hb0 hB)
   clear hO hB e;go_wp2_with fail;go_ret;exact ⟨⟨_,rfl,HO.out⟩,HB.out⟩
end
section
open Go.RowKit Go.Maps
theorem toB {P:Program}{f:FuncId}{args:Array Value}{v:Value} (h:Calls P f args w fun e w'=>e=.returned v∧∃ k,w'=w.drewN k):Calls P f args w fun e w'=>e=.returned v∧Below w.heap.size w w' :=
 h.mono fun _ _ ⟨he,k,hk⟩=>⟨he,hk ▸ below_drewN (Below.refl _ _) k⟩
theorem Yub (hk:k<D.length) (he:D.getD k Xv=(x,L)) (h:¬ Ze L 3):decide (Z3 D M V)=false:=by
 have h1:=Yr9 hk he h
 rw [decide_eq_false_iff_not] at h1 ⊢;exact fun h'=>h1 h'.1
theorem Yuc (h:¬ Ze (D.map (·.1)) 3∨¬ Ze M 2∨6<V.length):decide (Z3 D M V)=false:=by
 rw [decide_eq_false_iff_not];intro h'
 rcases h with h | h | h
 ·exact h h'.1.2
 ·exact h h'.2.1
 ·have:=h'.2.2.1; omega
theorem Ytw (hk:k<V.length) (he:l=V.getD k []) (h:¬ Zi D l∨l=Zv D∨∃ j,j<k∧V.getD j []=l):decide (Z3 D M V)=false:=by
 have e:V[k]=l:=by rw [he,List.getD_eq_getElem?_getD,List.getElem?_eq_getElem hk]; rfl
 rw [decide_eq_false_iff_not];intro h';obtain ⟨_,hc,hn⟩:=h'.2.2
 rcases h with h | h | ⟨j,hj,h⟩
 ·exact h (e ▸ hc _ (List.getElem_mem hk))
 ·have:=(List.nodup_cons.1 hn).1
  exact this (by rw [← h,← e]; exact List.getElem_mem hk)
 ·have:=List.pairwise_iff_getElem.1 (List.nodup_cons.1 hn).2 j k (by omega) hk hj
  refine this ?_;rw [e,← h,List.getD_eq_getElem?_getD,List.getElem?_eq_getElem (show j<V.length by omega)]
  rfl
theorem Yrr (hk:k<V.length) (he:l=V.getD k []) (hn:(Ye D (V.take k)).Nodup) (hb:¬ l=Zv D) (hj:∀ j,j<k→¬ V.getD j []=l):(Ye D (V.take (k+1))).Nodup:=by
 rw [← Dj hk he];refine List.nodup_append.2 ⟨hn,by simp,fun a ha b hbm=>?_⟩
 rw [List.mem_singleton] at hbm;rw [hbm]
 rcases List.mem_cons.1 ha with rfl | ha
 ·exact fun e=>hb e.symm
 ·obtain ⟨j,hjt,e⟩:=List.mem_iff_getElem.1 ha
  rw [List.length_take] at hjt;rw [List.getElem_take] at e;intro e2;refine hj j (by omega) ?_
  rw [List.getD_eq_getElem?_getD,List.getElem?_eq_getElem (show j<V.length by omega)]
  exact e.trans e2
theorem Ysw (hk:V.length≤k) (h6:¬ 6<V.length) (hd:∀ d∈D,Ze d.2 3) (h1:Ze (D.map (·.1)) 3) (h2:Ze M 2) (hc:∀ v∈V.take k,Zi D v) (hn:(Ye D (V.take k)).Nodup):decide (Z3 D M V)=true:=by
 rw [List.take_of_length_le hk] at hc hn;rw [decide_eq_true_eq];exact ⟨⟨hd,h1⟩,h2,by omega,hc,hn⟩
theorem Yl5 (hk:D.length≤k) (ht:∀ d∈D.take k,Ze d.2 3):∀ d∈D,Ze d.2 3:=by rwa [List.take_of_length_le hk] at ht
theorem Rn (h:Tx w w.heap.size A1 n1 c1 A2 n2 c2 A3 n3 c3 D M V) (hn1:n1≤1000) (hn3:n3≤1000) :
  Calls Tryz.prog 39 #[V6 A1 n1 c1 A2 n2 c2 A3 n3 c3] w fun e w'=>e=.returned (.bool (decide (Z3 D M V)))∧Below w.heap.size w w':=by
 have HL:=hid h.d.len
 have HV:=hid h.v.len
 have hb0:=Ya w (.cells #[.slice A1 n1 c1,.slice A2 n2 c2,.slice A3 n3 c3] 26)
 have h1:=h.Yc hb0
 have hS:=Block.new w 26 #[.slice A1 n1 c1,.slice A2 n2 c2,.slice A3 n3 c3]
 clear h;go_enter Tryz.func39,Tryz.ntmps39;go_wp2_with fail;generalize w.alloc (.cells #[.slice A1 n1 c1,.slice A2 n2 c2,.slice A3 n3 c3] 26)=w1 at hb0 h1 hS ⊢;go_loopw [3,4] (fun v i wr=>∃ k:Nat,k≤n1∧i=.int .i64 k∧Xb wr w1.heap.size v ((D.map (·.1)).take k)∧Below w1.heap.size w1 wr∧Hid (∀ d∈D.take k,Ze d.2 3)) (fun _ i _=>n1 - (intOf i).toNat)
 case atStart=>exact ⟨0,Nat.zero_le _,rfl,Xb.Zj w1 _,Below.refl _ _,hid (by simp)⟩
 case round =>
  obtain ⟨k,hk,rfl,hO,hB,ht⟩:=hrel
  have s0:wr.cell? ⟨w.heap.size,0,none⟩=some (.slice A1 n1 c1):=(hS.below hB hS.lt).cell 0
  by_cases hlt:k<n1
  ·obtain ⟨b,o,x,A',n',c',L,rfl,hb,g0,g1,hT,he⟩:=(h1.d.below hB (Nat.le_refl _)).at_ hlt
   have i0:(0:Int)≤(k:Int):=by omega
   have i1:(k:Int)<(n1:Int):=by omega
   have hz:=hB.size
   have hlb:Hid (((D.map (·.1)).take k).length≤1000000):=hid (Nat.le_trans (List.length_take_le k _) (by omega))
   have HH:=hid (Eb (by have:=HL.out; omega) he.out)
   have hlo:=fun g e=>(hO.lt g e).1
   have hO1:=hO.alloc (.cells #[.string ⟨x.toArray⟩] 9)
   go_wp2_with (at_builtin; refine P7 rfl _ _ rfl w1.heap.size _ _ rfl hO1 _ rfl x (L7 _ _ _ _ (by simp)) hlb.out (by rw [World.size_alloc]; omega) ?_)
   intro v' w2 hO2 hG2
   have hbx:=(Ya wr (.cells #[.string ⟨x.toArray⟩] 9)).mono hz |>.trans (hG2.Y4 (by rw [World.size_alloc]; omega) hlo)
   have hB2:=hB.trans hbx
   have e0:w2.cell? ⟨w.heap.size,0,none⟩=some (.slice (some ⟨b,o,none⟩) n1 c1):=(hS.below hB2 hS.lt).cell 0
   have e1:w2.cell? ⟨b,o+k*2+1,none⟩=some (.slice A' n' c'):=(hbx.cell (p:=⟨b,o+k*2+1,none⟩) hb).trans g1
   have hT2:=hT.below hbx (Nat.le_refl _)
   have HA:=hid (show Calls Tryz.prog 60 #[.slice A' n' c',.int .i64 3] _ _ from Lz (m:=3) hT2 (Nat.le_refl _))
   rw [HH.out] at hO2;clear hO hO1 hG2 hlo hB hbx hT hT2 s0 g0 g1
   by_cases ha:Ze L 3
   ·rw [decide_eq_true ha] at HA
    have H:=hid (Yic (by have:=HL.out; omega) he.out ha ht.out)
    clear ha;go_wp2_with fail;refine HA.out.mono ?_;rintro e w3 ⟨rfl,q,rfl⟩
    have hO3:=hid (hO2.drewN q)
    have hB3:=hid (below_drewN hB2 q)
    clear HA hO2 hB2 e0 e1;go_wp2_with fail;go_roundw
    case rel=>exact ⟨k+1,by omega,by go_num,hO3.out,hB3.out,H⟩
    case measure=>simp [intOf]; omega
   ·rw [decide_eq_false ha] at HA
    have H:=hid (Yub (M:=M) (V:=V) (by have:=HL.out; omega) he.out ha)
    clear ha;go_wp2_with fail;refine HA.out.mono ?_;rintro e w3 ⟨rfl,q,rfl⟩
    have hB3:=hid (Yb hb0 (below_drewN hB2 q))
    clear HA hO2 hB2 e0 e1;go_wp2_with fail;go_ret;exact ⟨Yd H.out.symm,hB3.out⟩
  ·have e:(D.map (·.1)).take k=D.map (·.1):=List.take_of_length_le (by have:=HL.out; simp; omega)
   rw [e] at hO
   have HD:=hid (Yl5 (by have:=HL.out; omega) ht.out)
   obtain ⟨A',n',c',rfl,hT,_⟩:=hO.Yu
   have HA:=hid (show Calls Tryz.prog 60 #[.slice A' n' c',.int .i64 3] _ _ from Lz (m:=3) hT (Nat.le_refl _))
   obtain ⟨one,h_one⟩ : ∃ q,Hid (decide (Ze (D.map (·.1)) 3)=q):=⟨_,hid rfl⟩
   rw [h_one.out] at HA;clear hO hT e ht;go_wp2_with fail;refine HA.out.mono ?_;rintro e w3 ⟨rfl,q,rfl⟩
   have hB3:=below_drewN hB q
   have hS3:=hS.below hB3 hS.lt
   have s1:(wr.drewN q).cell? ⟨w.heap.size,1,none⟩=some (.slice A2 n2 c2):=hS3.cell 1
   have HA2:=hid (show Calls Tryz.prog 60 #[.slice A2 n2 c2,.int .i64 2] _ _ from Lz (m:=2) (h1.m.below hB3 (Nat.le_refl _)) (by decide))
   obtain ⟨two,h_two⟩ : ∃ q,Hid (decide (Ze M 2)=q):=⟨_,hid rfl⟩;rw [h_two.out] at HA2;clear HA s0;go_wp2_with fail;refine HA2.out.mono ?_;rintro e w4 ⟨rfl,q2,rfl⟩
   have hB4:=below_drewN (below_drewN hB q) q2
   have hS4:=hS.below hB4 hS.lt
   have t0:((wr.drewN q).drewN q2).cell? ⟨w.heap.size,0,none⟩=some (.slice A1 n1 c1):=hS4.cell 0
   have t1:((wr.drewN q).drewN q2).cell? ⟨w.heap.size,1,none⟩=some (.slice A2 n2 c2):=hS4.cell 1
   have t2:((wr.drewN q).drewN q2).cell? ⟨w.heap.size,2,none⟩=some (.slice A3 n3 c3):=hS4.cell 2
   clear HA2 hB3 hS3 s1 hB;generalize (wr.drewN q).drewN q2=w4 at hB4 hS4 t0 t1 t2 ⊢
   by_cases hall:(one=true∧two=true)∧¬ (6:Int)<(n3:Int)
   ·obtain ⟨⟨rfl,rfl⟩,h6⟩:=hall
    have HB:=hid (J2 (A2:=A2) (n2:=n2) (c2:=c2) (A3:=A3) (n3:=n3) (c3:=c3) ((h1.d.below hB4 (Nat.le_refl _)).more hB4.size) hn1)
    have H6:Hid (n3≤6):=hid (by omega)
    go_wp2_with fail;clear t0 t1 t2;refine HB.out.mono ?_;rintro e w5 ⟨⟨v,rfl,hO⟩,hb5⟩;obtain ⟨Ab,nb,cb,rfl,hI,_⟩:=hO.Yu
    have hB5:=hB4.trans (hb5.mono hB4.size)
    clear hO HB hB4 hb5 hS4;go_wp2_with fail;go_loopw [9] (fun i wr=>∃ k:Nat,k≤n3∧i=.int .i64 k∧Below w5.heap.size w5 wr∧Hid (∀ v∈V.take k,Zi D v)∧Hid ((Ye D (V.take k)).Nodup)) (fun i _=>n3 - (intOf i).toNat)
    case atStart=>exact ⟨0,Nat.zero_le _,rfl,Below.refl _ _,hid (by simp),hid (by simp [Ye])⟩
    case round =>
     obtain ⟨k2,hk2,rfl,hC,hcs,hnd⟩:=hrel;obtain ⟨wo,rfl⟩ : ∃ wo,wo=wr:=⟨_,rfl⟩
     have hB6:=hB5.trans (hC.mono hB5.size)
     have hS6:=hS.below hB6 hS.lt
     have t0:wo.cell? ⟨w.heap.size,0,none⟩=some (.slice A1 n1 c1):=hS6.cell 0
     have t1:wo.cell? ⟨w.heap.size,1,none⟩=some (.slice A2 n2 c2):=hS6.cell 1
     have t2:wo.cell? ⟨w.heap.size,2,none⟩=some (.slice A3 n3 c3):=hS6.cell 2
     by_cases hlt2:k2<n3
     ·obtain ⟨b,o,A',n',c',l,rfl,hb,g0,hl,he⟩:=(h1.v.below hB6 (Nat.le_refl _)).at_ hlt2
      have i0:(0:Int)≤(k2:Int):=by omega
      have i1:(k2:Int)<(n3:Int):=by omega
      have HW:=hid (show ∀ W,Below w5.heap.size w5 W→(W.cell? ⟨w.heap.size,0,none⟩=some (.slice A1 n1 c1)∧W.cell? ⟨w.heap.size,1,none⟩=some (.slice A2 n2 c2)∧W.cell? ⟨w.heap.size,2,none⟩=some (.slice (some ⟨b,o,none⟩) n3 c3))∧W.cell? ⟨b,o+k2,none⟩=some (.slice A' n' c')∧Yx W W.heap.size A' n' c' l∧Yx W W.heap.size Ab nb cb (Zv D)∧Xf W W.heap.size A1 n1 c1 D∧Ux W W.heap.size (some ⟨b,o,none⟩) n3 c3 V from fun W hW=>by
       have hBW:=hB5.trans (hW.mono hB5.size)
       have hSW:=hS.below hBW hS.lt
       have hlW:=(h1.v.below hBW (Nat.le_refl _)).more hBW.size
       obtain ⟨b9,o9,A9,n9,c9,l9,e9,_,g9,hl9,he9⟩:=(h1.v.below hBW (Nat.le_refl _)).at_ hlt2;obtain ⟨rfl,rfl⟩ : b=b9∧o=o9:=by simpa using e9
       have hw0:W.cell? ⟨b,o+k2,none⟩=some (.slice A' n' c'):=((hBW.cell (p:=⟨b,o+k2,none⟩) hb).trans (hB6.cell (p:=⟨b,o+k2,none⟩) hb).symm).trans g0
       have e2:Value.slice A9 n9 c9=.slice A' n' c':=Option.some.inj (g9.symm.trans hw0)
       injection e2 with e3 e4 e5
       subst e3 e4 e5;obtain rfl:l=l9:=he.out.trans he9.out.symm;exact ⟨⟨hSW.cell 0,hSW.cell 1,hSW.cell 2⟩,hw0,hl9.more hBW.size,(hI.below hW (Nat.le_refl _)).more hW.size,(h1.d.below hBW (Nat.le_refl _)).more hBW.size,hlW⟩)
      have HCo:=hid fun (y:Bel wo)=>y.calls fun W hw=>Nd (A2:=A2) (n2:=n2) (c2:=c2) (A3:=some ⟨b,o,none⟩) (n3:=n3) (c3:=c3) (HW.out W (hC.trans (hw.mono hC.size))).2.2.2.2.1 (HW.out W (hC.trans (hw.mono hC.size))).2.2.1
      have k0:∀ y:Bel wo,y.w.cell? ⟨w.heap.size,0,none⟩=some (.slice A1 n1 c1):=fun y=>y.cell t0
      have k1:∀ y:Bel wo,y.w.cell? ⟨w.heap.size,1,none⟩=some (.slice A2 n2 c2):=fun y=>y.cell t1
      have k3:∀ y:Bel wo,y.w.cell? ⟨w.heap.size,2,none⟩=some (.slice (some ⟨b,o,none⟩) n3 c3):=fun y=>y.cell t2
      have k4:∀ y:Bel wo,y.w.cell? ⟨b,o+k2,none⟩=some (.slice A' n' c'):=fun y=>y.cell g0
      obtain ⟨cb1,hcb⟩ : ∃ q,Hid (decide (Zi D l)=q):=⟨_,hid rfl⟩;rw [hcb.out] at HCo;clear hl hS6 hB6;go_wp2_with fail;refine X8 (by kernel_rfl) (by kernel_rfl) ?_
      repeat (go_big_quiet_step ((go_at_call 40; exact HCo.out _)))
      refine wpQuiet_nil ?_;rintro _ ⟨y7,rfl⟩
      have hb7:=y7.b
      generalize y7.w=w7 at hb7 ⊢
      have hC7:=hC.trans (hb7.mono hC.size)
      obtain ⟨⟨_,_,u2⟩,u3,u4,u5,_⟩:=HW.out w7 hC7
      have HSa:=hid (K5 u4 u5)
      obtain ⟨sb1,hsb⟩ : ∃ q,Hid (decide (l=Zv D)=q):=⟨_,hid rfl⟩;rw [hsb.out] at HSa;clear HCo k0 k1 k3 k4 t0 t1 t2 g0 hb7 hC u4 u5;go_wp2_with fail;refine HSa.out.mono ?_;rintro e w8 ⟨rfl,q3,rfl⟩
      have hC8:=below_drewN hC7 q3
      clear HSa u2 u3 hC7
      by_cases hgo:cb1=true∧sb1=false
      ·obtain ⟨rfl,rfl⟩:=hgo
       have HX:=hid (of_decide_eq_true hcb.out)
       have HY:=hid (of_decide_eq_false hsb.out)
       have H:=hid (Yid (by have:=HV.out; omega) he.out HX.out hcs.out)
       go_wp2_with fail;go_loopw [12] (fun i wr=>∃ j:Nat,j≤k2∧i=.int .i64 j∧Below w5.heap.size w5 wr∧Hid (∀ t,t<j→¬ V.getD t []=l)) (fun i _=>k2 - (intOf i).toNat)
       case atStart=>exact ⟨0,Nat.zero_le _,rfl,hC8,hid fun t ht=>absurd ht (by omega)⟩
       case round =>
        obtain ⟨j,hj,rfl,hC,hne⟩:=hrel;clear hC8
        by_cases hjk:j<k2
        ·obtain ⟨⟨_,_,u2⟩,u3,u4,_,_,u6⟩:=HW.out wr hC
         obtain ⟨b9,o9,A9,n9,c9,l9,e9,_,g9,hl9,he9⟩:=u6.at_ (show j<n3 by omega)
         obtain ⟨rfl,rfl⟩ : b=b9∧o=o9:=by simpa using e9
         have j0:(0:Int)≤(j:Int):=by omega
         have j1:(j:Int)<(n3:Int):=by omega
         have j2:(j:Int)<(k2:Int):=by omega
         have HS2:=hid fun (y:Bel wr)=>y.calls fun W hw=>toB (K5 (hl9.below hw (Nat.le_refl _)) (u4.below hw (Nat.le_refl _)))
         have k3:∀ y:Bel wr,y.w.cell? ⟨w.heap.size,2,none⟩=some (.slice (some ⟨b,o,none⟩) n3 c3):=fun y=>y.cell u2
         have k4:∀ y:Bel wr,y.w.cell? ⟨b,o+k2,none⟩=some (.slice A' n' c'):=fun y=>y.cell u3
         have k5:∀ y:Bel wr,y.w.cell? ⟨b,o+j,none⟩=some (.slice A9 n9 c9):=fun y=>y.cell g9
         clear u2 u3 u4 u6 e9 g9 hl9
         by_cases hll:l9=l
         ·have HZ:=hid (Ytw (D:=D) (M:=M) (by have:=HV.out; omega) he.out (.inr (.inr ⟨j,hjk,he9.out.symm.trans hll⟩)))
          rw [decide_eq_true hll] at HS2;clear hll;go_wp2_with fail;refine X8 (by kernel_rfl) (by kernel_rfl) ?_
          repeat (go_big_quiet_step ((go_at_call 11; exact HS2.out _)))
          refine wpQuiet_nil ?_;rintro _ ⟨⟨w9,hb9⟩,rfl⟩
          have HB9:=hid (Yb hb0 (hB5.trans ((hC.trans (hb9.mono hC.size)).mono hB5.size)))
          clear HS2 k3 k4 k5 hb9;go_wp2_with fail;go_ret;exact ⟨Yd HZ.out.symm,HB9.out⟩
         ·have HN:Hid (∀ t,t<j+1→¬ V.getD t []=l):=hid fun t ht=>by
           by_cases h:t<j
           ·exact hne.out t h
           ·obtain rfl:t=j:=by omega
            rw [← he9.out]; exact hll
          rw [decide_eq_false hll] at HS2;clear hll;go_wp2_with fail;refine X8 (by kernel_rfl) (by kernel_rfl) ?_
          repeat (go_big_quiet_step ((go_at_call 11; exact HS2.out _)))
          refine wpQuiet_nil ?_;rintro _ ⟨⟨w9,hb9⟩,rfl⟩
          have HB9:=hid (hC.trans (hb9.mono hC.size))
          clear HS2 k3 k4 k5 hb9;go_wp2_with fail;go_roundw
          case rel=>exact ⟨j+1,by omega,by go_num,HB9.out,HN⟩
          case measure=>simp [intOf]; omega
        ·obtain rfl:j=k2:=by omega
         have HN:=hid (Yrr (D:=D) (by have:=HV.out; omega) he.out hnd.out HY.out hne.out)
         have HC:=hid hC
         clear hC;go_wp2_with fail;go_roundw
         case rel=>exact ⟨j+1,by omega,by go_num,HC.out,H,HN⟩
         case measure=>simp [intOf]; omega
      ·have HZ:Hid (decide (Z3 D M V)=false):=hid (Ytw (by have:=HV.out; omega) he.out (by
        by_cases h:cb1=true
        ·right; left
         have:sb1=true:=by
          rcases Bool.eq_false_or_eq_true sb1 with h2 | h2
          ·exact h2
          ·exact absurd ⟨h,h2⟩ hgo
         exact of_decide_eq_true (hsb.out.trans this)
        ·left
         rw [Bool.not_eq_true] at h;exact of_decide_eq_false (hcb.out.trans h)))
       have HB9:=hid (Yb hb0 (hB5.trans (hC8.mono hB5.size)))
       cases cb1
       ·go_wp2_with fail
        go_ret;exact ⟨Yd HZ.out.symm,HB9.out⟩
       ·cases sb1
        ·exact absurd ⟨rfl,rfl⟩ hgo
        ·clear hgo
         go_wp2_with fail;go_ret;exact ⟨Yd HZ.out.symm,HB9.out⟩
     ·have HZ:=hid (Ysw (M:=M) (k:=k2) (by have:=HV.out; omega) (by have:=HV.out; have:=H6.out; omega) HD.out (of_decide_eq_true h_one.out) (of_decide_eq_true h_two.out) hcs.out hnd.out)
      have HB9:=hid (Yb hb0 hB6)
      clear hS6 hB6;go_wp2_with fail;go_ret;exact ⟨Yd HZ.out.symm,HB9.out⟩
   ·have HZ:Hid (decide (Z3 D M V)=false):=hid (Yuc (by
     by_cases h1:one=true
     ·by_cases h2:two=true
      ·right; right
       have:(6:Int)<(n3:Int):=by
        rcases Int.lt_or_le 6 (n3:Int) with h | h
        ·exact h
        ·exact absurd ⟨⟨h1,h2⟩,by omega⟩ hall
       rw [HV.out]; omega
      ·right; left
       rw [Bool.not_eq_true] at h2;exact of_decide_eq_false (h_two.out.trans h2)
     ·left
      rw [Bool.not_eq_true] at h1;exact of_decide_eq_false (h_one.out.trans h1)))
    have HB9:=hid (Yb hb0 hB4)
    cases one
    ·clear hall
     go_wp2_with fail;go_ret;exact ⟨Yd HZ.out.symm,HB9.out⟩
    ·cases two
     ·clear hall
      go_wp2_with fail;go_ret;exact ⟨Yd HZ.out.symm,HB9.out⟩
     ·have h6:(6:Int)<(n3:Int):=by
       rcases Int.lt_or_le 6 (n3:Int) with h | h
       ·exact h
       ·exact absurd ⟨⟨rfl,rfl⟩,by omega⟩ hall
      clear hall;go_wp2_with fail;go_ret;exact ⟨Yd HZ.out.symm,HB9.out⟩
end
section
open Go.RowKit Go.Maps
theorem Ybx {w:World}{ops:Array Oper}{rest:List Oper}{o:Oper}{a:Act}{Q:Exit→Act→World→Prop} (hgd:o.guard=none) (s x:Operand)
  (ho:o.op=.call { callee:=.builtin .append,args:=#[s,x],argTypes:=#[24,24] })
  (base C:Nat) (v:Value) (L:List (List Int)) (hs:a.eval s=v) (hown:Dr w base C 27 v L) (A:Option Addr) (m c:Nat) (V:List (List Int)) (hx:a.eval x=.slice A m c)
  (hl:Ux w C A m c V) (hlen:L.length+m≤1000000) (hbase:base≤w.heap.size) (hC:C≤base)
  (h:∀ v' w',Dr w' base C 27 v' (L++V)→Z7 w v w' v'→(∀ k,v.ownBlock=some k→base≤k)→wpList Tryz.prog ops Q rest (a.put o.dst v') w'):wpList Tryz.prog ops Q (o :: rest) a w:=by
 obtain ⟨i,hi,hz0,hz1,hz2⟩:=info_parts Kr
 have hown0:=hown
 obtain ⟨xs,hr,hxs⟩:=hown
 have hlo:=fun k e=>(hr.lt k e).1
 have hml:=hl.len
 rcases A with _ | ad
 ·obtain rfl:=hl.void rfl
  have hc:=hl.cap
  obtain rfl:m=0:=by omega
  obtain rfl:V=[]:=List.eq_nil_of_length_eq_zero hml;refine wpList_plain hgd fun K' hK=>?_
  have hrun:=run_append_owned_none (P:=Tryz.prog) (w:=w) base 24 o.type 27 i 1 Tryz.underlying24 hi v L.length xs hr
  unfold Oper.wp execOp;simp only [ho,resolve,invoke,builtin,Sem.run_bind,Sem.run_pure,Result.andThen_ok,List.map_toArray,List.map_cons,List.map_nil,hs,hx,hrun];exact hK _ _ (h v w (by rw [List.append_nil]; exact hown0) (Z7.refl w v) hlo)
 ·have key:∀ j,∃ u:Value,j<m→(w.cell? (ad.add j)=some u∧u.oneCell'=true∧∃ A' n' c',u=.slice A' n' c'∧Yx w C A' n' c' (V.getD j [])):=fun j=>by
   by_cases hj:j<m
   ·obtain ⟨b,o,A',n',c',e,_,hcell,hh⟩:=hl.has j hj
    injection e with e
    subst e;exact ⟨_,fun _=>⟨by rw [Yt]; exact hcell,rfl,A',n',c',rfl,hh⟩⟩
   ·exact ⟨undef,fun h=>absurd h hj⟩
  obtain ⟨g,hg⟩:=Classical.axiomOfChoice key
  have hget:∀ j u,((List.range m).map g)[j]?=some u→j<m∧u=g j:=fun j u hj=>by
   have hjm:j<m:=by have:=(List.getElem?_eq_some_iff.1 hj).1; simpa using this
   rw [List.getElem?_map,List.getElem?_range hjm] at hj;exact ⟨hjm,(Option.some.inj hj).symm⟩
  refine wpList_append_own_at w hgd s x 24 ho base 27 i _ 1 24 Tryz.underlying24 hi hz0 hz1 hz2 rfl (by decide) v L.length xs hs hr ad m c ((List.range m).map g) hx (by simp) (fun j u hj=>?_) (fun u hu=>?_) (by unfold maxLen; omega) (by omega) hbase ?_
  ·obtain ⟨hjm,rfl⟩:=hget j u hj
   exact (hg j hjm).1
  ·obtain ⟨j,hj⟩:=List.getElem?_of_mem hu
   obtain ⟨hjm,rfl⟩:=hget j u hj;exact (hg j hjm).2.1
  ·intro v' w' h1 h2 _ h4
   have hk:∀ b o,b<C→w'.cell? ⟨b,o,none⟩=w.cell? ⟨b,o,none⟩:=fun b o hb=>World.cell?_of_block (h2.block b (by omega) (fun e=>by have:=hlo _ e.symm; omega))
   refine h v' w' ⟨_,by rw [List.length_append,hml]; exact h1,fun j l hj=>?_⟩ ⟨h2,fun k hk=>?_⟩ hlo
   ·have hxl:xs.length=L.length:=by rw [hr.1,Nat.mul_one]
    by_cases hlt:j<L.length
    ·rw [List.getElem?_append_left hlt] at hj
     obtain ⟨A',n',c',e,hh⟩:=hxs j l hj;exact ⟨A',n',c',by rw [List.getElem?_append_left (by omega)]; exact e,hh.Vj hk⟩
    ·rw [List.getElem?_append_right (by omega)] at hj
     have hjm:j - L.length<m:=by have:=(List.getElem?_eq_some_iff.1 hj).1; omega
     obtain ⟨_,_,A',n',c',e,hh⟩:=hg _ hjm;rw [List.getD_eq_getElem?_getD,hj] at hh;refine ⟨A',n',c',?_,hh.Vj hk⟩;rw [List.getElem?_append_right (by omega),hxl,List.getElem?_map,List.getElem?_range hjm,← e]
     rfl
   ·rcases h4 with h4 | h4
    ·exact .inl (h4 ▸ hk)
    ·rw [h4] at hk
     injection hk with hk
     exact .inr (Nat.le_of_eq hk)
theorem Dr.lit {C:Nat} (h:Yx w C A n c l) (g:Nat) (hg:g=w.heap.size) {base:Nat}(hb:base≤g) (hC:C≤w.heap.size):Dr (w.alloc (.cells #[.slice A n c] 27)) base C 27 (.slice (some ⟨g,0,none⟩) 1 1) [l]:=by
 subst hg;refine ⟨[.slice A n c],⟨rfl,.inr ⟨w.heap.size,1,#[.slice A n c],rfl,hb,heap_alloc_new w _,Nat.le_refl _,by decide,rfl,rfl⟩⟩,fun i q' hi=>?_⟩
 match i,hi with
 | 0,hi=>simp at hi; subst hi; exact ⟨A,n,c,rfl,h.alloc hC _⟩
 | (i+1),hi=>simp at hi
def Yta (w:World) (Q:List (List Int)) (e:Ending) (w' : World):Prop:=(∃ A c,e=.returned (.slice A Q.length c)∧Ux w' w'.heap.size A Q.length c Q)∧Below w.heap.size w w'
theorem Se (h:Tx w w.heap.size A1 n1 c1 A2 n2 c2 A3 n3 c3 D M V) (hn1:n1≤1000) (hn3:n3≤1000) :
  Calls Tryz.prog 22 #[V6 A1 n1 c1 A2 n2 c2 A3 n3 c3] w (Yta w (Ye D V)):=by
 have hb0:=Ya w (.cells #[.slice A1 n1 c1,.slice A2 n2 c2,.slice A3 n3 c3] 26)
 have h1:=h.Yc hb0
 have hS:=Block.new w 26 #[.slice A1 n1 c1,.slice A2 n2 c2,.slice A3 n3 c3]
 clear h;go_enter Tryz.func22,Tryz.ntmps22;go_wp2_with fail;generalize w.alloc (.cells #[.slice A1 n1 c1,.slice A2 n2 c2,.slice A3 n3 c3] 26)=w1 at hb0 h1 hS ⊢;refine (J2 h1.d hn1).mono ?_;rintro e w2 ⟨⟨v,rfl,hO⟩,hb2⟩;obtain ⟨Ab,nb,cb,rfl,hI,_⟩:=hO.Yu
 have hO3:=Dr.lit hI w2.heap.size rfl (Nat.le_refl _) (Nat.le_refl _)
 have hb3:=Yb hb2 (Ya w2 (.cells #[.slice Ab nb cb] 27))
 have hS3:=hS.below hb3 hS.lt
 have s2:(w2.alloc (.cells #[.slice Ab nb cb] 27)).cell? ⟨w.heap.size,2,none⟩=some (.slice A3 n3 c3):=hS3.cell 2
 have hV3:=(h1.v.below hb3 (Nat.le_refl _)).more hb2.size
 have hl:([Zv D] : List (List Int)).length+n3≤1000000:=by simp; omega
 have hlo:=fun g e=>(hO3.ltB g e).1
 have hz:w2.heap.size≤(w2.alloc (.cells #[.slice Ab nb cb] 27)).heap.size:=by simp
 have Hl:=hid hl
 have hz2:w1.heap.size≤w2.heap.size:=hb2.size
 clear hO hI hb2 hl hS3;go_wp2_with (at_builtin; refine Ybx rfl _ _ rfl w2.heap.size w2.heap.size _ [Zv D] rfl hO3 A3 n3 c3 V rfl hV3 Hl.out hz (Nat.le_refl _) ?_)
 intro v' w5 hO5 hG5 _
 have hB5:=hid (Yb hb0 (hb3.trans ((hG5.Y4 hz hlo).mono hz2)))
 obtain ⟨A5,c5,rfl,hL⟩:=Dr.read hO5 (Nat.le_trans hz hG5.1.size)
 have HL:=hid hL
 clear hO3 hO5 hG5 hL hlo hb3;go_wp2_with fail;go_ret;exact ⟨⟨A5,c5,rfl,HL.out⟩,hB5.out⟩
end
end Go.Proofs.YtkablhecedcngaaGreat
