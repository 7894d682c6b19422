/- BatchC, CubP -/
import Derived.Test.YtkablhecedcngaaGreatJ20
import Derived.Test.YtkablhecedcngaaGreatJ31
namespace Go.Proofs.YtkablhecedcngaaGreat
set_option maxRecDepth 100000
set_option maxHeartbeats 8000000
open Go.RowKit
open Go.Lib (hid)
variable {S:Nat→Prop}{w:World}{A:Option Addr}{c n:Nat}{L:List Fct}
def Ge (f:Fct):Prop:=f.1.length≤1000∧(∀ p∈f.1,p.length≤1000)∧f.2.length≤1000
theorem Ye4 {A1 A2:Option Addr}{n1 c1 n2 c2:Nat}{q:List Int} (h:Row Yr 1 w S A2 n2 c2 q) (hn:q.length≤1000) :
  Calls Tryz.prog 131 #[.agg #[.slice A1 n1 c1,.slice A2 n2 c2]] w (Told Yr 3 1 w q):=by
 have hbx:=Ya w (.cells #[.slice A1 n1 c1,.slice A2 n2 c2] 60)
 have hbl:=Block.new w 60 #[.slice A1 n1 c1,.slice A2 n2 c2]
 have h1:=h.mv Yh (Mv.alloc w (.cells #[.slice A1 n1 c1,.slice A2 n2 c2] 60) _)
 have HC:=hid (Yo4 h1 (by have:=h.len; omega))
 have hsz:w.heap.size≤(w.alloc (.cells #[.slice A1 n1 c1,.slice A2 n2 c2] 60)).heap.size:=by simp
 clear h h1;go_enter Tryz.func131,Tryz.ntmps131;go_wp2_with fail;generalize w.alloc (.cells #[.slice A1 n1 c1,.slice A2 n2 c2] 60)=W at hbl HC hbx hsz ⊢
 have k1:W.cell? ⟨w.heap.size,1,none⟩=some (.slice A2 n2 c2):=hbl.cell 1
 clear hbl;go_wp2_with fail;refine HC.out.mono ?_;rintro e w2 ⟨v,rfl,hO,hb⟩
 have hF:=hid (show Ys Yr 3 1 w2 w.heap.size (fun k=>w.heap.size≤k) v q∧Below w.heap.size w w2 from ⟨(hO.to Yh fun b hb _=>Nat.le_trans hsz hb).low hsz,hbx.trans (hb.mono hsz)⟩)
 clear hO hb HC;go_wp2_with fail;go_ret;exact ⟨v,rfl,hF.out.1,hF.out.2⟩
theorem Yjp (h:Tj w S A n c L) (hn:n≤1000) (hL:∀ f∈L,Ge f) :
  Calls Tryz.prog 130 #[.slice A n c,.func (.func 131) #[] #[]] w (Told (Vg Yr 3 1) 27 1 w (L.map Prod.snd)):=by
 have HL:=hid h.len
 have HP:=hid hL
 have hnm:=h.Yn
 have HS:∀ b,(S b∧b<w.heap.size)→b<w.heap.size:=fun b hb=>hb.2
 have h1:Tj w (fun b=>S b∧b<w.heap.size) A n c L:=h.mv Y1 (Mv.to w fun b hb hl=>⟨hb,hl⟩)
 clear h hL;go_enter Tryz.func130,Tryz.ntmps130;go_wp2_with fail;go_loopw [5,10] (fun v i wr=>∃ k:Nat,k≤n∧i=.int .i64 k∧Ys (Vg Yr 3 1) 27 1 wr w.heap.size (fun b=>w.heap.size≤b) v ((L.map Prod.snd).take k)∧Below w.heap.size w wr) (fun _ i _=>n - (intOf i).toNat)
 case atStart=>exact ⟨0,Nat.zero_le _,rfl,Ys.Zj w _ _,Below.refl _ _⟩
 case round =>
  obtain ⟨k,hk,rfl,hO,hB⟩:=hrel
  by_cases hlt:k<n
  ·obtain ⟨b,o,A1,n1,c1,A2,n2,c2,p,q,rfl,_,_,g0,g1,hp,hq,he⟩:=(h1.mv Y1 (Mv.below hB HS)).at2 hlt
   have i0:(0:Int)≤(k:Int):=by omega
   have i1:(k:Int)<(n:Int):=by omega
   have hsm:=HP.out (p,q) (List.mem_of_getElem? he.out)
   have hbx:=Ya wr (.cells #[.slice A1 n1 c1,.slice A2 n2 c2] 60)
   have hbl:=Block.new wr 60 #[.slice A1 n1 c1,.slice A2 n2 c2]
   have hp1:=hp.mv Zr (Mv.alloc wr (.cells #[.slice A1 n1 c1,.slice A2 n2 c2] 60) _)
   have hq1:=hq.mv Yh (Mv.alloc wr (.cells #[.slice A1 n1 c1,.slice A2 n2 c2] 60) _)
   have HC:=hid (Ye4 (A1:=A1) (n1:=n1) (c1:=c1) hq1 hsm.2.2)
   have HT:=hid (Ylm (show (L.map Prod.snd)[k]?=some q by rw [List.getElem?_map,he.out]; rfl))
   have hO1:=hO.below S3 hbx
   have hB1:=hB.trans (hbx.mono hB.size)
   have hlo:=fun g e=>hO1.lt g e
   have hlw:=fun g e=>hO.lt g e
   clear hp hq hsm hp1 hq1 hO hB hbx;go_wp2_with fail;generalize wr.alloc (.cells #[.slice A1 n1 c1,.slice A2 n2 c2] 60)=W at hO1 hB1 hbl HC hlo ⊢
   have k0:W.cell? ⟨wr.heap.size,0,none⟩=some (.slice A1 n1 c1):=hbl.cell 0
   have k1:W.cell? ⟨wr.heap.size,1,none⟩=some (.slice A2 n2 c2):=hbl.cell 1
   clear g0 g1 hbl;go_wp2_with fail;refine HC.out.mono ?_;rintro e w5 ⟨y,rfl,hy,hb5⟩
   have hz1:=hB1.size
   have hy1:=Ys.el Yh hy (fun g e=>(hlo g e).2) hz1
   have hO5:=hO1.below S3 hb5
   have hB5:=hB1.trans (hb5.mono hz1)
   have hz5:=hB5.size
   obtain ⟨Ay,cy,rfl⟩:=hy.shape
   have hO6:=hO5.alloc S3 (.cells #[.slice Ay q.length cy] 27)
   have hy6:=S3 _ _ _ _ _ _ (Mv.alloc w5 (.cells #[.slice Ay q.length cy] 27) _) hy1
   have hone:=Yk4 hy1
   have hlb:Hid (((L.map Prod.snd).take k).length≤1000000):=hid (Nat.le_trans (List.length_take_le k _) (by omega))
   have hB6:=hB5.alloc hz5 (.cells #[.slice Ay q.length cy] 27)
   have hbs:w.heap.size≤(w5.alloc (.cells #[.slice Ay q.length cy] 27)).heap.size:=by rw [World.size_alloc]; omega
   clear hy hy1 hO5 hB5 hb5;clear hO1 hB1 HC k0 k1;go_wp2_with (at_builtin; refine Wq S3 rfl _ _ rfl Bb Tryz.underlying24 rfl (by decide) w.heap.size _ _ _ rfl hO6 _ rfl [.slice Ay q.length cy] rfl q (Ci w5 _ _) hone hy6 hlb.out hbs ?_)
   intro v' w2 hO2 hG2
   have hF:=hid (show Ys (Vg Yr 3 1) 27 1 w2 w.heap.size (fun b=>w.heap.size≤b) v' ((L.map Prod.snd).take (k+1))∧Below w.heap.size w w2 from ⟨HT.out ▸ hO2,hB6.trans (hG2.Y4 hbs (fun g e=>(hlo g e).1))⟩)
   clear hO2 hG2 hO6 hy6 hB6 hlo hlw hone;go_wp2_with fail;go_roundw
   case rel=>exact ⟨k+1,by omega,by go_num,hF.out.1,hF.out.2⟩
   case measure=>simp [intOf]; omega
  ·have hF:=hid (show Ys (Vg Yr 3 1) 27 1 wr w.heap.size (fun b=>w.heap.size≤b) u5 (L.map Prod.snd)∧Below w.heap.size w wr from ⟨by rw [List.take_of_length_le (by have:=HL.out; simp; omega)] at hO; exact hO,hB⟩)
   clear hO hB;go_wp2_with fail;go_ret;exact ⟨u5,rfl,hF.out.1,hF.out.2⟩
theorem Yhk (h:Tj w S A n c L) (hn:n≤1000) (hL:∀ f∈L,Ge f) :
  Calls Tryz.prog 105 #[.slice A n c] w (Told (Vg Yr 3 1) 27 1 w (L.map Prod.snd)):=by
 have HC:=hid (Yjp h hn hL)
 clear h hn hL;go_enter Tryz.func105,Tryz.ntmps105;go_wp2_with fail;refine HC.out.mono ?_;rintro e w2 ⟨v,rfl,hO,hb⟩
 have hF:=hid (And.intro hO hb)
 clear hO hb HC;go_wp2_with fail;go_ret;exact ⟨v,rfl,hF.out.1,hF.out.2⟩
end Go.Proofs.YtkablhecedcngaaGreat
