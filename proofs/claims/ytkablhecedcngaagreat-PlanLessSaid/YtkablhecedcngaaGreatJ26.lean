/- SchemaN -/
import Derived.Test.YtkablhecedcngaaGreatJ20
namespace Go.Proofs.YtkablhecedcngaaGreat
set_option maxRecDepth 100000
set_option maxHeartbeats 8000000
open Go.RowKit
open Go.Lib (hid)
variable {L:List Txt}{c k m n:Nat}{x:Txt}{A:Option Addr}{w:World}
section
open Go.RowKit Go.Maps
theorem Jk (h:L.length<1):decide (Ze L m)=false:=by
 rw [decide_eq_false_iff_not]; intro h'; have:=h'.1; omega
theorem Gl (h:m<L.length):decide (Ze L m)=false:=by
 rw [decide_eq_false_iff_not]; intro h'; have:=h'.2.1; omega
theorem Gm (hk:k<L.length) (hx:x=L.getD k []) (h:¬ Zx x):decide (Ze L m)=false:=by
 rw [decide_eq_false_iff_not];intro h';refine h (h'.2.2.1 x ?_);rw [hx,List.getD_eq_getElem?_getD,List.getElem?_eq_getElem hk];exact List.getElem_mem hk
theorem Yi0 (h1:¬ L.length<1) (h2:¬ m<L.length) (hk:L.length≤k) (ht:∀ s∈L.take k,Zx s):(!decide (¬ L.Nodup))=decide (Ze L m):=by
 rw [List.take_of_length_le hk] at ht
 by_cases hn:L.Nodup
 ·have:Ze L m:=⟨by omega,by omega,ht,hn⟩
  simp [hn,this]
 ·have:¬ Ze L m:=fun h=>hn h.2.2.2
  simp [hn,this]
theorem Ycf {b c:Bool} (h:(!b)=c):Ending.returned (.bool (!b))=.returned (.bool c):=by rw [h]
theorem Qw (h:Zn w w.heap.size A n c L) (hm:∀ s∈L,s.length≤maxLen) (hm3:m≤3) :
  Calls Tryz.prog 63 #[.slice A n c,.int .i64 m] w fun e w'=>e=.returned (.bool (decide (Ze L m)))∧Below w.heap.size w w':=by
 have hl:=h.len
 have hn:=h.Yn
 by_cases h1:(n:Int)<1
 ·have H:=hid (Jk (L:=L) (m:=m) (by omega))
  go_enter Tryz.func63,Tryz.ntmps63;go_wp2;go_ret;exact ⟨Yd H.out.symm,Below.refl _ _⟩
 ·by_cases h2:(m:Int)<(n:Int)
  ·have H:=hid (Gl (L:=L) (m:=m) (by omega))
   go_enter Tryz.func63,Tryz.ntmps63;go_wp2;go_ret;exact ⟨Yd H.out.symm,Below.refl _ _⟩
  ·have HL:=hid hl
   have HM:=hid hm
   clear hl hm;go_enter Tryz.func63,Tryz.ntmps63;go_wp2;go_loopw [18] (fun i wr=>∃ k:Nat,k≤n∧i=.int .i64 k∧Below w.heap.size w wr∧Hid (∀ s∈L.take k,Zx s)) (fun i _=>n - (intOf i).toNat)
   case atStart=>exact ⟨0,Nat.zero_le _,rfl,Below.refl _ _,hid (by simp)⟩
   case round =>
    obtain ⟨k,hk,rfl,hB,ht⟩:=hrel
    by_cases hlt:k<n
    ·obtain ⟨b,o,x,rfl,hb,hc,ex⟩:=(h.below hB (Nat.le_refl _)).at_ hlt
     by_cases hx:Zx x
     ·have H:=hid (Ov (by have:=HL.out; omega) ex.out hx ht.out)
      have HX:=hid hx
      clear hx;go_wp2_with fail;refine (Yd8 HX.out _).mono ?_;rintro e v ⟨rfl,hb1⟩
      have hB2:=hB.trans (hb1.mono hB.size)
      go_wp2_with fail;go_roundw
      case rel=>exact ⟨k+1,by omega,by go_num,hB2,H⟩
      case measure=>simp [intOf]; omega
     ·have H:=hid (Gm (m:=m) (by have:=HL.out; omega) ex.out hx)
      have HX:=hid hx
      clear hx;go_wp2_with fail;refine (Yie HX.out _).mono ?_;rintro e v ⟨rfl,hb1⟩
      have hB2:=hB.trans (hb1.mono hB.size)
      go_wp2_with fail;go_ret;exact ⟨Yd H.out.symm,hB2⟩
    ·have H:=hid (Yi0 (m:=m) (by have:=HL.out; omega) (by have:=HL.out; omega) (by have:=HL.out; omega) ht.out)
     have HT:=hid (Yhf (h.Yc hB) (by omega) HM.out)
     go_wp2_with fail;refine HT.out.mono ?_;rintro e v ⟨rfl,hb1⟩
     have hB2:=hid (hB.trans (hb1.mono hB.size))
     obtain ⟨q,hq⟩ : ∃ q,decide (¬ L.Nodup)=q:=⟨_,rfl⟩;rw [hq] at H ⊢;clear hq HT hb1;go_wp2_with fail;go_ret;exact ⟨Ycf H.out,hB2.out⟩
/-! ### The reference's -/
theorem Ygr (hk:k<L.length) (hx:x=L.getD k []) (h:(L.take k).Nodup) (hj:∀ j,j<k→¬ L.getD j []=x):(L.take (k+1)).Nodup:=by
 rw [List.take_succ_eq_append_getElem hk];refine List.nodup_append.2 ⟨h,by simp,fun a ha b hb=>?_⟩
 rw [List.mem_singleton] at hb;rw [hb];clear hb;obtain ⟨j,hja,e⟩:=List.mem_iff_getElem.1 ha;rw [List.length_take] at hja
 have hjk:j<k:=by omega
 have h1:=hj j hjk
 intro e2;refine h1 ?_;rw [List.getElem_take] at e;rw [List.getD_eq_getElem?_getD,List.getElem?_eq_getElem (show j<L.length by omega)]
 exact e.trans (e2.trans (by rw [hx,List.getD_eq_getElem?_getD,List.getElem?_eq_getElem hk]; rfl))
theorem Yff {j:Nat} (hk:k<L.length) (hj:j<k) (h1:x=L.getD j []) (h2:x=L.getD k []):decide (Ze L m)=false:=by
 rw [decide_eq_false_iff_not];intro h
 have:=List.pairwise_iff_getElem.1 h.2.2.2 j k (by omega) hk hj
 rw [List.getD_eq_getElem?_getD,List.getElem?_eq_getElem (show j<L.length by omega)] at h1
 rw [List.getD_eq_getElem?_getD,List.getElem?_eq_getElem hk] at h2;exact this (h1.symm.trans h2)
theorem Yi1 (h1:¬ L.length<1) (h2:¬ m<L.length) (hk:L.length≤k) (ht:∀ s∈L.take k,Zx s) (hd:(L.take k).Nodup):decide (Ze L m)=true:=by
 rw [List.take_of_length_le hk] at ht hd;rw [decide_eq_true_eq];exact ⟨by omega,by omega,ht,hd⟩
theorem Lz {B:Nat} (h:Zn w B A n c L) (hm3:m≤3) :
  Calls Tryz.prog 60 #[.slice A n c,.int .i64 m] w fun e w'=>e=.returned (.bool (decide (Ze L m)))∧∃ q,w'=w.drewN q:=by
 have hl:=h.len
 have hn:=h.Yn
 by_cases h1:(n:Int)<1
 ·have H:=hid (Jk (L:=L) (m:=m) (by omega))
  go_enter Tryz.func60,Tryz.ntmps60;go_wp2;go_ret;exact ⟨Yd H.out.symm,0,rfl⟩
 ·by_cases h2:(m:Int)<(n:Int)
  ·have H:=hid (Gl (L:=L) (m:=m) (by omega))
   go_enter Tryz.func60,Tryz.ntmps60;go_wp2;go_ret;exact ⟨Yd H.out.symm,0,rfl⟩
  ·have HL:=hid hl
   clear hl;go_enter Tryz.func60,Tryz.ntmps60;go_wp2;go_loopw [5] (fun i wr=>∃ k q:Nat,k≤n∧i=.int .i64 k∧wr=w.drewN q∧Hid (∀ s∈L.take k,Zx s)∧Hid ((L.take k).Nodup)) (fun i _=>n - (intOf i).toNat)
   case atStart=>exact ⟨0,0,Nat.zero_le _,rfl,rfl,hid (by simp),hid (by simp)⟩
   case round =>
    obtain ⟨k,q,hk,rfl,rfl,ht,hd⟩:=hrel
    by_cases hlt:k<n
    ·obtain ⟨b,o,x,rfl,hb,hc,ex⟩:=h.at_ hlt
     have i0:(0:Int)≤(k:Int):=by omega
     have i1:(k:Int)<(n:Int):=by omega
     by_cases hx:Zx x
     ·have H:=hid (Ov (by have:=HL.out; omega) ex.out hx ht.out)
      have HX:=hid hx
      clear hx;go_wp2_with fail;refine (J6 HX.out _).mono ?_;rintro e v ⟨rfl,rfl⟩;go_wp2_with fail;go_loopw [7] (fun i wr=>∃ j p:Nat,j≤k∧i=.int .i64 j∧wr=w.drewN p∧Hid (∀ l,l<j→¬ L.getD l []=x)) (fun i _=>k - (intOf i).toNat)
      case atStart=>exact ⟨0,q,Nat.zero_le _,rfl,rfl,hid fun l hl=>absurd hl (by omega)⟩
      case round =>
       obtain ⟨j,p,hj,rfl,rfl,hne⟩:=hrel
       by_cases hjk:j<k
       ·obtain ⟨b2,o2,y,e2,hb2,hc2,ey⟩:=h.at_ (show j<n by omega)
        obtain ⟨rfl,rfl⟩ : b2=b∧o2=o:=by simpa using e2.symm
        have j0:(0:Int)≤(j:Int):=by omega
        have j1:(j:Int)<(n:Int):=by omega
        have j2:(j:Int)<(k:Int):=by omega
        clear e2
        by_cases hyx:y=x
        ·have HA:=hid (Yff (m:=m) (by have:=HL.out; omega) hjk (hyx ▸ ey.out) ex.out)
         subst hyx
         have hyy:(y == y)=true:=by simp
         go_wp2;go_quiet (fail);go_wp2;go_ret;exact ⟨Yd HA.out.symm,p+nq,World.drewN_drewN _ _ _⟩
        ·have hyy:(y == x)=false:=by simp [hyx]
         have HN:Hid (∀ l,l<j+1→¬ L.getD l []=x):=hid fun l hl=>by
          by_cases h:l<j
          ·exact hne.out l h
          ·obtain rfl:l=j:=by omega
           rw [← ey.out]; exact hyx
         clear hyx;go_wp2;go_quiet (fail);go_wp2;go_roundw
         case rel=>exact ⟨j+1,p+nq,by omega,by go_num,rfl,HN⟩
         case measure=>simp [intOf]; omega
       ·obtain rfl:j=k:=by omega
        have HD:=hid (Ygr (by have:=HL.out; omega) ex.out hd.out hne.out)
        go_wp2_with fail;go_roundw
        case rel=>exact ⟨j+1,p,by omega,by go_num,rfl,H,HD⟩
        case measure=>simp [intOf]; omega
     ·have H:=hid (Gm (m:=m) (by have:=HL.out; omega) ex.out hx)
      have HX:=hid hx
      clear hx;go_wp2_with fail;refine (E6 HX.out _).mono ?_;rintro e v ⟨rfl,rfl⟩;go_wp2_with fail;go_ret;exact ⟨Yd H.out.symm,q,rfl⟩
    ·have H:=hid (Yi1 (m:=m) (by have:=HL.out; omega) (by have:=HL.out; omega) (by have:=HL.out; omega) ht.out hd.out)
     go_wp2;go_ret;exact ⟨Yd H.out.symm,q,rfl⟩
end
end Go.Proofs.YtkablhecedcngaaGreat
