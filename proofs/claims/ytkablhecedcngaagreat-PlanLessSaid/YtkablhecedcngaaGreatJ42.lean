/- QryB, QryC -/
import Derived.Test.YtkablhecedcngaaGreatJ31
import Derived.Test.YtkablhecedcngaaGreatJ40
namespace Go.Proofs.YtkablhecedcngaaGreat
set_option maxRecDepth 100000
set_option maxHeartbeats 8000000
open Go.RowKit
open Go.Lib (hid)
variable {S:Nat→Prop}{A1 A2 B1 B2 B3:Option Addr}{c1 c2 d1 d2 d3 m1 m2 m3 n1 n2:Nat}{D:List Yg}{w:World}{M:List Txt}{V:List (List Int)}
theorem Ygk {q:Qry} 
  (hs:Xf w w.heap.size B1 m1 d1 D) (hq:V0 w S A1 n1 c1 A2 n2 c2 q) :
  Calls Tryz.prog 59 #[V6 B1 m1 d1 B2 m2 d2 B3 m3 d3,O4 A1 n1 c1 A2 n2 c2] w fun e w'=>e=.returned (.bool (decide (Rr D q)))∧Below w.heap.size w w':=by
 obtain ⟨G,F⟩:=q
 have hn2:=hq.f.Yn
 have HI:=hid (Ycw (D:=D) (G:=G) hq.f.len)
 have HL:=hid (show F.length=n2 from hq.f.len)
 obtain ⟨hb0,hbs,hbl⟩:=Sw w 26 30 #[.slice B1 m1 d1,.slice B2 m2 d2,.slice B3 m3 d3] #[.slice A1 n1 c1,.slice A2 n2 c2]
 have h0:=hq.Yc hb0
 have hd0:=hs.Yc hb0
 clear hs hq;go_enter Tryz.func59,Tryz.ntmps59;go_wp2_with fail;generalize (w.alloc (.cells #[.slice B1 m1 d1,.slice B2 m2 d2,.slice B3 m3 d3] 26)).alloc (.cells #[.slice A1 n1 c1,.slice A2 n2 c2] 30)=W at hb0 hbl hbs h0 hd0 ⊢
 have HC:=hid (Fe (A2:=B2) (n2:=m2) (c2:=d2) (A3:=B3) (n3:=m3) (c3:=d3) hd0 h0.g.Qr)
 have k0:W.cell? ⟨w.heap.size+1,0,none⟩=some (.slice A1 n1 c1):=hbl.cell 0
 have s0:W.cell? ⟨w.heap.size,0,none⟩=some (.slice B1 m1 d1):=hbs.cell 0
 have s1:W.cell? ⟨w.heap.size,1,none⟩=some (.slice B2 m2 d2):=hbs.cell 1
 have s2:W.cell? ⟨w.heap.size,2,none⟩=some (.slice B3 m3 d3):=hbs.cell 2
 have hz0:=hb0.size
 by_cases hc:Zi D G
 ·rw [decide_eq_true hc] at HC
  have HCC:=hid hc
  clear hc;go_wp2_with fail;refine HC.out.mono ?_;rintro e w2 ⟨rfl,hb2⟩
  have k1:w2.cell? ⟨w.heap.size+1,1,none⟩=some (.slice A2 n2 c2):=(hbl.below hb2 hbl.lt).cell 1
  have h1:Row Q8 3 W (fun b=>S b∧b<W.heap.size) A2 n2 c2 F:=h0.f.mv Xy (Mv.to W fun b hb hl=>⟨hb,hl⟩)
  have HS:∀ b,(S b∧b<W.heap.size)→b<W.heap.size:=fun b hb=>hb.2
  have HBS:=hid hbs
  clear HC h0 k0 s0 s1 s2 hbl hbs
  by_cases h3:(3:Int)<(n2:Int)
  ·have H:Hid (decide (Rr D (G,F))=false):=hid (by
    rw [decide_eq_false_iff_not,HI.out];intro h
    have:=h.2.1; omega)
   have hB3:=hb0.trans (hb2.mono hz0)
   go_wp2_with fail;go_ret;exact ⟨by rw [H.out]; rfl,hB3⟩
  ·go_wp2_with fail
   clear k1;go_loopw [21] (fun i wr=>∃ k:Nat,k≤n2∧i=.int .i64 k∧Hid (∀ f∈F.take k,U5 D f)∧Below W.heap.size W wr) (fun i _=>n2 - (intOf i).toNat)
   case atStart=>exact ⟨0,Nat.zero_le _,rfl,hid (fun p hp=>by simp at hp),hb2⟩
   case round =>
    obtain ⟨k,hk,rfl,HA,hB⟩:=hrel
    by_cases hlt:k<n2
    ·obtain ⟨b,o,d,v,A',n',c',M',rfl,_,_,g0,g1,g2,hM,he⟩:=(h1.mv Xy (Mv.below hB HS)).atF hlt
     have i0:(0:Int)≤(k:Int):=by omega
     have i1:(k:Int)<(n2:Int):=by omega
     have hbx:=Ya wr (.cells #[.int .i64 d,.int .i64 v,.slice A' n' c'] 86)
     have hbf:=Block.new wr 86 #[.int .i64 d,.int .i64 v,.slice A' n' c']
     have hB1:=hB.trans (hbx.mono hB.size)
     have hM1:=hM.mv Zr (Mv.Yc hbx _)
     have hd1:=(hd0.below hB1 (Nat.le_refl _)).more hB1.size
     have HC:=hid (Ymy (B2:=B2) (m2:=m2) (d2:=d2) (B3:=B3) (m3:=m3) (d3:=d3) (d:=d) (v:=v) hd1 hM1)
     have hbs1:=HBS.out.below hB1 HBS.out.lt
     have s0:(wr.alloc (.cells #[.int .i64 d,.int .i64 v,.slice A' n' c'] 86)).cell? ⟨w.heap.size,0,none⟩=some (.slice B1 m1 d1):=hbs1.cell 0
     have s1:(wr.alloc (.cells #[.int .i64 d,.int .i64 v,.slice A' n' c'] 86)).cell? ⟨w.heap.size,1,none⟩=some (.slice B2 m2 d2):=hbs1.cell 1
     have s2:(wr.alloc (.cells #[.int .i64 d,.int .i64 v,.slice A' n' c'] 86)).cell? ⟨w.heap.size,2,none⟩=some (.slice B3 m3 d3):=hbs1.cell 2
     clear hB hbx hM hM1 hd1 hbs1;go_wp2_with fail;generalize wr.alloc (.cells #[.int .i64 d,.int .i64 v,.slice A' n' c'] 86)=W1 at hB1 hbf HC s0 s1 s2 ⊢
     have k0:W1.cell? ⟨wr.heap.size,0,none⟩=some (.int .i64 d):=hbf.cell 0
     have k1:W1.cell? ⟨wr.heap.size,1,none⟩=some (.int .i64 v):=hbf.cell 1
     have k2:W1.cell? ⟨wr.heap.size,2,none⟩=some (.slice A' n' c'):=hbf.cell 2
     clear g0 g1 g2
     by_cases hf:U5 D (d,v,M')
     ·rw [decide_eq_true hf] at HC
      have HN:=hid (Ox he.out hf HA.out)
      clear hf;go_wp2_with fail;refine HC.out.mono ?_;rintro e w3 ⟨rfl,hb3⟩
      have hB3:=hB1.trans (hb3.mono hB1.size)
      clear HC hB1 hb3 hbf k0 k1 k2 s0 s1 s2;go_wp2_with fail;go_roundw
      case rel=>exact ⟨k+1,by omega,by go_num,HN,hB3⟩
      case measure=>simp [intOf]; omega
     ·rw [decide_eq_false hf] at HC
      have H:Hid (decide (Rr D (G,F))=false):=hid (by
       rw [decide_eq_false_iff_not,HI.out];intro h;exact hf (h.2.2 _ (List.mem_of_getElem? he.out)))
      clear hf;go_wp2_with fail;refine HC.out.mono ?_;rintro e w3 ⟨rfl,hb3⟩
      have hB3:=hb0.trans ((hB1.trans (hb3.mono hB1.size)).mono hz0)
      clear HC hB1 hb3 hbf k0 k1 k2 s0 s1 s2;go_wp2_with fail;go_ret;exact ⟨by rw [H.out]; rfl,hB3⟩
    ·have H:Hid (decide (Rr D (G,F))=true):=hid (by
      have h3:=HA.out
      rw [List.take_of_length_le (by have:=HL.out; omega)] at h3
      rw [decide_eq_true_iff,HI.out];exact ⟨HCC.out,by omega,h3⟩)
     have hB3:=hb0.trans (hB.mono hz0)
     go_wp2_with fail;go_ret;exact ⟨by rw [H.out]; rfl,hB3⟩
 ·rw [decide_eq_false hc] at HC
  have H:Hid (decide (Rr D (G,F))=false):=hid (by
   rw [decide_eq_false_iff_not,HI.out];exact fun h=>hc h.1)
  clear hc;go_wp2_with fail;refine HC.out.mono ?_;rintro e w2 ⟨rfl,hb2⟩
  have hB3:=hb0.trans (hb2.mono hz0)
  clear HC k0 s0 s1 s2;go_wp2_with fail;go_ret;exact ⟨by rw [H.out]; rfl,hB3⟩
theorem Ygm {q:Qry} 
  (hs:Tx w w.heap.size B1 m1 d1 B2 m2 d2 B3 m3 d3 D M V) (hf:Sq D) (hm:∀ s∈M,s.length≤maxLen) (hn1:m1≤1000) (hq:V0 w S A1 n1 c1 A2 n2 c2 q) :
  Calls Tryz.prog 36 #[V6 B1 m1 d1 B2 m2 d2 B3 m3 d3,O4 A1 n1 c1 A2 n2 c2] w fun e w'=>e=.returned (.int .i64 (Wk D M V q:Nat))∧Below w.heap.size w w':=by
 obtain ⟨hb0,hbs,hbl⟩:=Sw w 26 30 #[.slice B1 m1 d1,.slice B2 m2 d2,.slice B3 m3 d3] #[.slice A1 n1 c1,.slice A2 n2 c2]
 have h0:=hq.Yc hb0
 have hs0:=hs.Yc hb0
 have HC:=hid (Ti hs0 hf hm hn1)
 clear hs hq hf hm;go_enter Tryz.func36,Tryz.ntmps36;go_wp2_with fail;generalize (w.alloc (.cells #[.slice B1 m1 d1,.slice B2 m2 d2,.slice B3 m3 d3] 26)).alloc (.cells #[.slice A1 n1 c1,.slice A2 n2 c2] 30)=W at hb0 hbl hbs h0 hs0 HC ⊢
 have s0:W.cell? ⟨w.heap.size,0,none⟩=some (.slice B1 m1 d1):=hbs.cell 0
 have s1:W.cell? ⟨w.heap.size,1,none⟩=some (.slice B2 m2 d2):=hbs.cell 1
 have s2:W.cell? ⟨w.heap.size,2,none⟩=some (.slice B3 m3 d3):=hbs.cell 2
 have hz0:=hb0.size
 by_cases hm:Z3 D M V
 ·rw [decide_eq_true hm] at HC
  have HM:=hid hm
  clear hm;go_wp2_with fail;refine HC.out.mono ?_;rintro e w2 ⟨rfl,hb2⟩
  have hbs2:=hbs.below hb2 hbs.lt
  have hbl2:=hbl.below hb2 hbl.lt
  have hB2:=hb0.trans (hb2.mono hz0)
  have HC2:=hid (Ygk (B2:=B2) (m2:=m2) (d2:=d2) (B3:=B3) (m3:=m3) (d3:=d3) (hs0.Yc hb2).d (h0.Yc hb2))
  clear HC s0 s1 s2 hbs hbl hs0 h0 hb2
  have s0:w2.cell? ⟨w.heap.size,0,none⟩=some (.slice B1 m1 d1):=hbs2.cell 0
  have s1:w2.cell? ⟨w.heap.size,1,none⟩=some (.slice B2 m2 d2):=hbs2.cell 1
  have s2:w2.cell? ⟨w.heap.size,2,none⟩=some (.slice B3 m3 d3):=hbs2.cell 2
  have k0:w2.cell? ⟨w.heap.size+1,0,none⟩=some (.slice A1 n1 c1):=hbl2.cell 0
  have k1:w2.cell? ⟨w.heap.size+1,1,none⟩=some (.slice A2 n2 c2):=hbl2.cell 1
  by_cases hf:Rr D q
  ·rw [decide_eq_true hf] at HC2
   have H:=hid (Ygl HM.out hf)
   clear hf;go_wp2_with fail;refine HC2.out.mono ?_;rintro e w3 ⟨rfl,hb3⟩
   have hB3:=hB2.trans (hb3.mono hB2.size)
   clear HC2 s0 s1 s2 k0 k1;go_wp2_with fail;go_ret;exact ⟨by rw [H.out]; rfl,hB3⟩
  ·rw [decide_eq_false hf] at HC2
   have H:=hid (Ny HM.out hf)
   clear hf;go_wp2_with fail;refine HC2.out.mono ?_;rintro e w3 ⟨rfl,hb3⟩
   have hB3:=hB2.trans (hb3.mono hB2.size)
   clear HC2 s0 s1 s2 k0 k1;go_wp2_with fail;go_ret;exact ⟨by rw [H.out]; rfl,hB3⟩
 ·rw [decide_eq_false hm] at HC
  have H:=hid (Yol (q:=q) hm)
  clear hm;go_wp2_with fail;refine HC.out.mono ?_;rintro e w2 ⟨rfl,hb2⟩
  have hB2:=hb0.trans (hb2.mono hz0)
  clear HC s0 s1 s2;go_wp2_with fail;go_ret;exact ⟨by rw [H.out]; rfl,hB2⟩
def Yfc (w:World) (x:Nat) (l:List Int) (e:Ending) (w' : World):Prop:=∃ v,e=.returned (.tuple #[v,.int .i64 x])∧Yf w' w.heap.size v l∧Below w.heap.size w w'
theorem Yot {q:Qry} 
  (hs:Tx w w.heap.size B1 m1 d1 B2 m2 d2 B3 m3 d3 D M V) (hf:Sq D) (hm:∀ s∈M,s.length≤maxLen) (hn1:m1≤1000) (hq:V0 w S A1 n1 c1 A2 n2 c2 q) :
  Calls Tryz.prog 17 #[V6 B1 m1 d1 B2 m2 d2 B3 m3 d3,O4 A1 n1 c1 A2 n2 c2] w (Yfc w (Wk D M V q) (Yea D M V q)):=by
 obtain ⟨hb0,hbs,hbl⟩:=Sw w 26 30 #[.slice B1 m1 d1,.slice B2 m2 d2,.slice B3 m3 d3] #[.slice A1 n1 c1,.slice A2 n2 c2]
 have h0:=hq.Yc hb0
 have hs0:=hs.Yc hb0
 have HC:=hid (Ygm hs0 hf hm hn1 h0)
 have HLD:=hid hs.d.len
 clear hs hq hf hm hs0;obtain ⟨x,hx⟩ : ∃ x,Hid (Wk D M V q=x):=⟨_,hid rfl⟩;rw [hx.out] at HC ⊢;go_enter Tryz.func17,Tryz.ntmps17;go_wp2_with fail;generalize (w.alloc (.cells #[.slice B1 m1 d1,.slice B2 m2 d2,.slice B3 m3 d3] 26)).alloc (.cells #[.slice A1 n1 c1,.slice A2 n2 c2] 30)=W at hb0 hbl hbs h0 HC ⊢
 have s0:W.cell? ⟨w.heap.size,0,none⟩=some (.slice B1 m1 d1):=hbs.cell 0
 have s1:W.cell? ⟨w.heap.size,1,none⟩=some (.slice B2 m2 d2):=hbs.cell 1
 have s2:W.cell? ⟨w.heap.size,2,none⟩=some (.slice B3 m3 d3):=hbs.cell 2
 have k0:W.cell? ⟨w.heap.size+1,0,none⟩=some (.slice A1 n1 c1):=hbl.cell 0
 have k1:W.cell? ⟨w.heap.size+1,1,none⟩=some (.slice A2 n2 c2):=hbl.cell 1
 have hz0:=hb0.size
 by_cases hx0:x=0
 ·subst hx0
  have HN:Hid (Yea D M V q=Xa q):=hid (if_pos hx.out)
  obtain ⟨_,HF0,HP0⟩:=Wv hx.out
  have HF:=hid HF0
  have hn13:n1≤3:=by have:=HP0.1; have:=h0.g.len; omega
  clear HF0 HP0;obtain ⟨G,F⟩:=q
  have HLG:=hid (show G.length=n1 from h0.g.len)
  have HL:=hid (show F.length=n2 from h0.f.len)
  have hn2:=h0.f.Yn
  go_wp2_with fail;refine HC.out.mono ?_;rintro e w2 ⟨rfl,hb2⟩
  have hB2:=hb0.trans (hb2.mono hz0)
  have hbl2:=hbl.below hb2 hbl.lt
  have h2:=h0.Yc hb2
  have HCl:=hid (V9 (h2.g.Qr) (by omega))
  clear HC s0 s1 s2 k0 k1 hbl hbs h0 hb2
  have k0:w2.cell? ⟨w.heap.size+1,0,none⟩=some (.slice A1 n1 c1):=hbl2.cell 0
  go_wp2_with fail;refine HCl.out.mono ?_;rintro e w3 ⟨⟨v3,rfl,hO3⟩,hb3⟩
  have hB3:=hB2.trans (hb3.mono hB2.size)
  have hbl3:=hbl2.below hb3 hbl2.lt
  have k1:w3.cell? ⟨w.heap.size+1,1,none⟩=some (.slice A2 n2 c2):=hbl3.cell 1
  have h3:Row Q8 3 w3 (fun b=>S b∧b<w2.heap.size) A2 n2 c2 F:=h2.f.mv Xy (fun b hb hl=>⟨hb3.block b hl,hb,hl⟩)
  have HS:∀ b,(S b∧b<w2.heap.size)→b<w2.heap.size:=fun b hb=>hb.2
  have HW2:=hid hB2.size
  have HO3:=hid (show Yf w3 w2.heap.size v3 (Xa (G,F.take 0)) by rw [List.take_zero,Ykx]; exact hO3)
  have HB3:=hid hb3
  clear HCl h2 k0 hb3 hO3 hbl2 hbl3;go_wp2_with fail;clear k1;go_loopw [22] (fun i wr=>∃ k:Nat,k≤n2∧i=.int .i64 k∧Yf wr w2.heap.size v3 (Xa (G,F.take k))∧Below w2.heap.size w2 wr) (fun i _=>n2 - (intOf i).toNat)
  case atStart=>exact ⟨0,Nat.zero_le _,rfl,HO3.out,HB3.out⟩
  case round =>
   obtain ⟨k,hk,rfl,hO,hB⟩:=hrel
   by_cases hlt:k<n2
   ·obtain ⟨b,o,d,v,A',n',c',M',rfl,_,_,g0,g1,g2,_,he⟩:=(h3.mv (w':=wr) (S':=fun b=>S b∧b<w2.heap.size) Xy (fun b hb _=>⟨by rw [hB.block b hb.2,HB3.out.block b hb.2],hb⟩)).atF hlt
    have hfit:=HF.out.2.2 _ (List.mem_of_getElem? he.out)
    have hcl:=HF.out.1.1
    obtain ⟨m,rfl⟩ : ∃ m:Nat,d=(m:Int):=⟨d.toNat,by have:=hfit.1.1; simp only at this; omega⟩
    have hmn:m<n1:=by
     have h1:=hfit.1.2
     have h2:=HLG.out
     simp only at h1 hcl;omega
    have hlen:(Xa (G,F.take k)).length=n1:=by rw [Vr]; exact HLG.out
    have HLE:=hid hlen
    have HT:=hid (You (G:=G) he.out)
    obtain ⟨gb,cap,rfl,hgb,hgl⟩ : ∃ g cap,v3=.slice (some ⟨g,0,none⟩) n1 cap∧w2.heap.size≤g∧g<wr.heap.size:=by
     obtain ⟨g,cap,e,h1,h2,_⟩:=hO.C4 (by omega)
     exact ⟨g,cap,by rw [e,hlen],h1,h2⟩
    have q0:=hO.Jr m (by omega)
    have q1:=hO.free m
    obtain ⟨y,hy⟩ : ∃ y,Hid ((Xa (G,F.take k)).getD m 0=y):=⟨_,hid rfl⟩;rw [hy.out] at q0 HT
    have i0:(0:Int)≤(k:Int):=by omega
    have i1:(k:Int)<(n2:Int):=by omega
    have i2:(0:Int)≤(m:Int):=by omega
    have i3:(m:Int)<(n1:Int):=by omega
    clear hfit hcl hlen
    have hbx:=Ya wr (.cells #[.int .i64 m,.int .i64 v,.slice A' n' c'] 86)
    have hbf:=Block.new wr 86 #[.int .i64 m,.int .i64 v,.slice A' n' c']
    have hO1:=hO.below hbx (Nat.le_refl _)
    have hB1:=hB.trans (hbx.mono hB.size)
    have p0:(wr.alloc (.cells #[.int .i64 m,.int .i64 v,.slice A' n' c'] 86)).cell? ⟨gb,m,none⟩=some (.int .i64 y):=(hbx.cell (p:=⟨gb,m,none⟩) hgl).trans q0
    have p1:=hO1.free m
    clear hO hB hbx q0 q1;go_wp2_with fail;generalize wr.alloc (.cells #[.int .i64 m,.int .i64 v,.slice A' n' c'] 86)=W1 at hB1 hbf hO1 p0 p1 ⊢
    have f0:W1.cell? ⟨wr.heap.size,0,none⟩=some (.int .i64 m):=hbf.cell 0
    have f1:W1.cell? ⟨wr.heap.size,1,none⟩=some (.int .i64 v):=hbf.cell 1
    clear g0 g1 g2;go_still_tail 12,(by kernel_rfl)
    change wpList _ _ _ _ _ W1.drew
    have hF:=hid (show Yf (W1.drew.setCell ⟨gb,m,none⟩ (.int .i64 (max y v))) w2.heap.size (.slice (some ⟨gb,0,none⟩) n1 cap) (Xa (G,F.take (k+1)))∧Below w2.heap.size w2 (W1.drew.setCell ⟨gb,m,none⟩ (.int .i64 (max y v))) from ⟨by
     rw [← HT.out];exact (hO1.drewN 1).Yo m (max y v),(hB1.drew).setCell (p:=⟨gb,m,none⟩) hgb _⟩)
    go_wp2_with fail;go_roundw
    case rel=>exact ⟨k+1,by omega,by go_num,hF.out⟩
    case measure=>simp [intOf]; omega
   ·have hO2:Yf wr w.heap.size v3 (Yea D M V (G,F)):=by
     rw [HN.out];rw [List.take_of_length_le (by have:=HL.out; omega)] at hO
     exact hO.low HW2.out
    have HO:=hid hO2
    have hB3:=hB2.trans (hB.mono HW2.out)
    clear hO hO2;go_wp2_with fail;go_ret2;exact ⟨_,rfl,HO.out,hB3⟩
 ·have hx1:((x:Int) != 0)=true:=by simp; omega
  have HN:Hid (Yea D M V q=[]):=hid (if_neg (by rw [hx.out]; exact hx0))
  clear hx0;go_wp2_with fail;refine HC.out.mono ?_;rintro e w2 ⟨rfl,hb2⟩
  have hB2:=hb0.trans (hb2.mono hz0)
  clear HC s0 s1 s2 k0 k1;go_wp2_with fail;go_ret2;exact ⟨_,rfl,by rw [HN.out]; exact Yf.Zj _ _,hB2⟩
end Go.Proofs.YtkablhecedcngaaGreat
