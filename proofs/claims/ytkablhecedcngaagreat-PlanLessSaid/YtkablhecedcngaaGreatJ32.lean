/- CellA, CellRS -/
import Derived.Test.YtkablhecedcngaaGreatJ23
import Derived.Deep.RegionHeld3
namespace Go.Proofs.YtkablhecedcngaaGreat
set_option maxRecDepth 100000
set_option maxHeartbeats 8000000
open Go.RowKit
open Go.Lib (hid)
variable {A:Option Addr}{c n:Nat}{L:List PC}{w:World}
def Ypx (L:List PC) (n:Nat) (w:World) (e:Ending) (w' : World):Prop :=
 (∃ r:Int,e=.returned (.int .i64 r)∧((∃ k:Nat,k<n∧r=(k:Int)∧0<(L.getD k Ym).1∧∀ j,j<k→¬ 0<(L.getD j Ym).1)∨(r=-1∧∀ j,j<n→¬ 0<(L.getD j Ym).1)))∧Below w.heap.size w w'
theorem Yj8 (h:Z9 w w.heap.size A n c L) :
  Calls Tryz.prog 113 #[.slice A n c,.func (.func 114) #[] #[]] w (Ypx L n w):=by
 have hn:=h.Yn
 go_enter Tryz.func113,Tryz.ntmps113;go_wp2;go_loopw [8] (fun i wr=>∃ k:Nat,k≤n∧i=.int .i64 k∧Hid (∀ j,j<k→(L.getD j Ym).1≤0)∧Below w.heap.size w wr) (fun i _=>n - (intOf i).toNat)
 case atStart=>exact ⟨0,Nat.zero_le _,rfl,hid fun j hj=>absurd hj (by omega),Below.refl _ _⟩
 case round =>
  obtain ⟨k,hk,rfl,hJ,hbe⟩:=hrel
  by_cases hlt:k<n
  ·obtain ⟨b,o,q,A1,n1,c1,A2,n2,c2,A3,n3,c3,S,M,X,rfl,hb,g0,g1,g2,g3,hC,hq⟩:=(h.below hbe (Nat.le_refl _)).at_ hlt
   have i0:(0:Int)≤(k:Int):=by omega
   have i1:(k:Int)<(n:Int):=by omega
   clear hC
   by_cases hp:0<q
   ·have hE:Hid (0<(L.getD k Ym).1):=hid (by rw [hq.out]; exact hp)
    go_wp2_with fail;refine (Ql q A1 n1 c1 A2 n2 c2 A3 n3 c3 _ (r:=true) (by simpa using hp)).mono ?_
    rintro e w2 ⟨rfl,hb2⟩
    have hbe2:=hbe.trans (hb2.mono hbe.size)
    go_wp2_with fail;go_ret;exact ⟨⟨_,rfl,.inl ⟨k,hlt,rfl,hE.out,fun j hj=>Int.not_lt.2 (hJ.out j hj)⟩⟩,hbe2⟩
   ·have hE:Hid (∀ j,j<k+1→(L.getD j Ym).1≤0):=hid fun j hj=>by
     by_cases h:j<k
     ·exact hJ.out j h
     ·obtain rfl:j=k:=by omega
      rw [hq.out]; exact Int.not_lt.1 hp
    go_wp2_with fail;refine (Ql q A1 n1 c1 A2 n2 c2 A3 n3 c3 _ (r:=false) (by simpa using hp)).mono ?_
    rintro e w2 ⟨rfl,hb2⟩
    have hbe2:=hbe.trans (hb2.mono hbe.size)
    clear hb2;go_wp2_with fail;go_roundw
    case rel=>exact ⟨k+1,by omega,by go_num,hE,hbe2⟩
    case measure=>simp [intOf]; omega
  ·obtain rfl:k=n:=by omega
   go_wp2_with fail;go_ret;exact ⟨⟨_,rfl,.inr ⟨rfl,fun j hj=>Int.not_lt.2 (hJ.out j hj)⟩⟩,hbe⟩
theorem Yiy (h:Z9 w w.heap.size A n c L) {r:Bool}(hr:r=true↔∀ i,i<n→Zm (L.getD i Ym)∧(L.getD i Ym).2.1.length=(L.getD 0 Ym).2.1.length) :
  Calls Tryz.prog 112 #[.slice A n c] w fun e w'=>e=.returned (.bool r)∧Below w.heap.size w w':=by
 have hn:=h.Yn
 have R:=hid hr
 clear hr;go_enter Tryz.func112,Tryz.ntmps112;go_wp2;go_loopw [7] (fun i wr=>∃ k:Nat,k≤n∧i=.int .i64 k∧Hid (∀ i,i<k→Zm (L.getD i Ym)∧(L.getD i Ym).2.1.length=(L.getD 0 Ym).2.1.length)∧Below w.heap.size w wr) (fun i _=>n - (intOf i).toNat)
 case atStart=>exact ⟨0,Nat.zero_le _,rfl,hid fun j hj=>absurd hj (by omega),Below.refl _ _⟩
 case round =>
  obtain ⟨k,hk,rfl,hJ,hbe⟩:=hrel
  by_cases hlt:k<n
  ·have hh:=h.below hbe (Nat.le_refl _)
   obtain ⟨b,o,q,A1,n1,c1,A2,n2,c2,A3,n3,c3,S,M,X,rfl,hb,g0,g1,g2,g3,hC,hq⟩:=hh.at_ hlt;obtain ⟨b',o',q',A1',n1',c1',A2',n2',c2',A3',n3',c3',S',M',X',he,hb',g0',g1',g2',g3',hC',hq'⟩:=hh.at_ (k:=0) (by omega)
   injection he with he
   injection he with he1 he2
   subst he1 he2;rw [show o+0*4+1=o+1 from by omega] at g1'
   have hl:=hC.s.len
   have hl':=hC'.s.len
   clear g0' g2' g3' hC'
   have i0:(0:Int)≤(k:Int):=by omega
   have i1:(k:Int)<(n:Int):=by omega
   have i2:(0:Int)<(n:Int):=by omega
   have hbx:=Ya wr (.cells #[.int .i64 q,.slice A1 n1 c1,.slice A2 n2 c2,.slice A3 n3 c3] 105)
   have hB:=Block.new wr 105 #[.int .i64 q,.slice A1 n1 c1,.slice A2 n2 c2,.slice A3 n3 c3]
   obtain ⟨B,m,Hm⟩ : ∃ (B:Bool) (m:Bool),Hid ((B=true↔Zm (q,S,M,X))∧(m=true↔(n1:Int)=(n1' : Int))):=⟨decide (Zm (q,S,M,X)),decide ((n1:Int)=(n1' : Int)),hid ⟨by simp,by simp⟩⟩
   have HS:Hid ((B=true∧m=true)↔(Zm (L.getD k Ym)∧(L.getD k Ym).2.1.length=(L.getD 0 Ym).2.1.length)):=hid (by
    rw [hq.out,hq'.out,Hm.out.1,Hm.out.2];exact and_congr_right fun _=>by show _↔S.length=S'.length; omega)
   go_wp2_with fail;generalize wr.alloc (.cells #[.int .i64 q,.slice A1 n1 c1,.slice A2 n2 c2,.slice A3 n3 c3] 105)=W at hbx hB ⊢
   have hbW:=hbe.trans (hbx.mono hbe.size)
   have HM:=hid fun (y:Bel W)=>y.calls fun w hw=>Jq (n:=q) (((hC.below hbx hbe.size).below hw hbW.size).more (Nat.le_trans hbW.size hw.size)) (r:=B) Hm.out.1
   have k0:∀ y:Bel W,y.w.cell? ⟨wr.heap.size,0,none⟩=some (.int .i64 q):=fun y=>y.cell (hB.cell 0)
   have k1:∀ y:Bel W,y.w.cell? ⟨wr.heap.size,1,none⟩=some (.slice A1 n1 c1):=fun y=>y.cell (hB.cell 1)
   have k2:∀ y:Bel W,y.w.cell? ⟨wr.heap.size,2,none⟩=some (.slice A2 n2 c2):=fun y=>y.cell (hB.cell 2)
   have k3:∀ y:Bel W,y.w.cell? ⟨wr.heap.size,3,none⟩=some (.slice A3 n3 c3):=fun y=>y.cell (hB.cell 3)
   have k4:∀ y:Bel W,y.w.cell? ⟨b,o+1,none⟩=some (.slice A1' n1' c1'):=fun y=>y.cell ((hbx.cell (p:=⟨b,o+1,none⟩) (Nat.lt_of_lt_of_le hb hbe.size)).trans g1')
   clear g0 g1 g2 g3 g1' hB hC hbx hbe hh hl hl'
   cases B
   ·have Z:Hid (r=false):=hid (by
     rw [Bool.eq_false_iff]; intro hx
     have:=HS.out.2 (R.out.1 hx k hlt)
     cases this.1)
    refine X8 (by kernel_rfl) (by kernel_rfl) ?_
    repeat (go_big_quiet_step ((go_at_call 135; exact HM.out _)))
    refine wpQuiet_nil ?_;rintro _ ⟨⟨w2,hb2⟩,rfl⟩
    have hbe2:=Yb hbW hb2
    clear k0 k1 k2 k3 k4;go_wp2_with fail;go_ret;exact ⟨Yd Z.out.symm,hbe2⟩
   ·cases m
    ·have hne:((n1:Int) != (n1' : Int))=true:=by
      have:=Hm.out.2
      simp at this;simp;exact this
     have Z:Hid (r=false):=hid (by
      rw [Bool.eq_false_iff]; intro hx
      have:=HS.out.2 (R.out.1 hx k hlt)
      cases this.2)
     refine X8 (by kernel_rfl) (by kernel_rfl) ?_
     repeat (go_big_quiet_step ((go_at_call 135; exact HM.out _)))
     refine wpQuiet_nil ?_;rintro _ ⟨⟨w2,hb2⟩,rfl⟩
     have hbe2:=Yb hbW hb2
     clear k0 k1 k2 k3 k4;go_wp2_with fail;go_ret;exact ⟨Yd Z.out.symm,hbe2⟩
    ·have hne:((n1:Int) != (n1' : Int))=false:=by
      have:=Hm.out.2
      simp at this;simp;exact this
     have hJ2:Hid (∀ i,i<k+1→Zm (L.getD i Ym)∧(L.getD i Ym).2.1.length=(L.getD 0 Ym).2.1.length):=hid fun j hj=>by
      by_cases h:j<k
      ·exact hJ.out j h
      ·obtain rfl:j=k:=by omega
       exact HS.out.1 ⟨rfl,rfl⟩
     refine X8 (by kernel_rfl) (by kernel_rfl) ?_
     repeat (go_big_quiet_step ((go_at_call 135; exact HM.out _)))
     refine wpQuiet_nil ?_;rintro _ ⟨⟨w2,hb2⟩,rfl⟩
     have hbe2:=Yb hbW hb2
     clear k0 k1 k2 k3 k4;go_wp2_with fail;go_roundw
     case rel=>exact ⟨k+1,by omega,by go_num,hJ2,hbe2⟩
     case measure=>simp [intOf]; omega
  ·obtain rfl:k=n:=by omega
   have Z:Hid (r=true):=hid (R.out.2 hJ.out)
   go_wp2_with fail;go_ret;exact ⟨Yd Z.out.symm,hbe⟩
theorem Ah (n m:Int) (w:World) (h0:0≤m) (h1:m≤9223372036854775807):Calls Tryz.prog 146 #[.int .i64 n,.int .i64 m] w fun e w'=>e=.returned (.bool (inB n m))∧w=w':=by
 by_cases h : -m≤n
 ·by_cases h2:n≤m
  ·have H:=hid (show inB n m=true by unfold inB; simp [h,h2])
   go_enter Tryz.func146,Tryz.ntmps146;go_wp2;go_ret;exact ⟨Yd H.out.symm,rfl⟩
  ·have H:=hid (show inB n m=false by unfold inB; simp [h2])
   go_enter Tryz.func146,Tryz.ntmps146;go_wp2;go_ret;exact ⟨Yd H.out.symm,rfl⟩
 ·have H:=hid (show inB n m=false by unfold inB; simp [h])
  go_enter Tryz.func146,Tryz.ntmps146;go_wp2;go_ret;exact ⟨Yd H.out.symm,rfl⟩
end Go.Proofs.YtkablhecedcngaaGreat
