/- NamesC, CellQ -/
import Derived.Test.YtkablhecedcngaaGreatJ12
import Derived.Test.YtkablhecedcngaaGreatJ15
namespace Go.Proofs.YtkablhecedcngaaGreat
set_option maxRecDepth 100000
set_option maxHeartbeats 8000000
open Go.RowKit
open Go.Lib (hid)
variable {L L':List Txt}{k n:Nat}{x:Txt}{w:World}
theorem Dh (hk:k<L.length) (hk' : k<L'.length) (h:L.take k=L'.take k) (e:x=L.getD k []) (e' : x=L'.getD k []):L.take (k+1)=L'.take (k+1):=by
 rw [List.take_succ_eq_append_getElem hk,List.take_succ_eq_append_getElem hk',h];simp only [List.getD_eq_getElem?_getD,List.getElem?_eq_getElem hk,List.getElem?_eq_getElem hk',Option.getD_some] at e e';rw [← e,← e']
theorem neT {x':Txt} (h:¬ x=x') (e:x=L.getD k []) (e' : x'=L'.getD k []):decide (L=L')=false:=by
 rw [decide_eq_false_iff_not];rintro rfl;exact h (e.trans e'.symm)
theorem eqT (h:L.take k=L'.take k) (hk:n≤k) (h1:L.length=n) (h2:L'.length=n):decide (L=L')=true:=by
 rw [List.take_of_length_le (by omega),List.take_of_length_le (by omega)] at h
 rw [h,decide_eq_true rfl]
theorem Yld {A A':Option Addr}{c n' c' B B':Nat} (hr:Zn w B A n c L) (hr' : Zn w B' A' n' c' L') :
  Calls Tryz.prog 123 #[.slice A n c,.slice A' n' c'] w fun e w'=>e=.returned (.bool (decide (L=L')))∧∃ k,w'=w.drewN k:=by
 have hn:=hr.Yn
 have hll:=hr.len
 have hll':=hr'.len
 by_cases h:n=n'
 ·subst h
  have hne:((n:Int) != (n:Int))=false:=by simp
  have HL:=hid hll
  have HL':=hid hll'
  clear hll hll';go_enter Tryz.func123,Tryz.ntmps123;go_wp2;clear hne;go_loopw [5] (fun i wr=>∃ k q:Nat,k≤n∧i=.int .i64 k∧wr=w.drewN q∧Hid (L.take k=L'.take k)) (fun i _=>n - (intOf i).toNat)
  case atStart=>exact ⟨0,0,Nat.zero_le _,rfl,rfl,rfl⟩
  case round =>
   obtain ⟨k,q,hk,rfl,rfl,ht⟩:=hrel
   by_cases hlt:k<n
   ·obtain ⟨b,o,x,rfl,hb,hc,ex⟩:=hr.at_ hlt
    obtain ⟨b',o',x',rfl,hb',hc',ex'⟩:=hr'.at_ hlt
    by_cases hxx:x=x'
    ·subst hxx
     have hxn:(x == x)=true:=by simp
     have H:=hid (Dh (by have:=HL.out; omega) (by have:=HL'.out; omega) ht.out ex.out ex'.out)
     go_wp2;go_quiet (fail);go_wp2;go_roundw
     case rel=>exact ⟨k+1,q+nq,by omega,by go_num,rfl,H⟩
     case measure=>simp [intOf]; omega
    ·have hxn:(x == x')=false:=by simp [hxx]
     have H:=hid (neT hxx ex.out ex'.out)
     clear hxx;go_wp2;go_quiet (fail);go_wp2;go_ret;exact ⟨Yd H.out.symm,q+nq,World.drewN_drewN _ _ _⟩
   ·have H:=hid (eqT ht.out (Nat.not_lt.1 hlt) HL.out HL'.out)
    go_wp2;go_ret;exact ⟨Yd H.out.symm,q,rfl⟩
 ·have H:Hid (decide (L=L')=false):=hid (by rw [decide_eq_false_iff_not]; intro e; subst e; omega)
  have hne:((n:Int) != (n' : Int))=true:=by simp; omega
  clear hll hll';go_enter Tryz.func123,Tryz.ntmps123;go_wp2;go_ret;exact ⟨Yd H.out.symm,0,rfl⟩
def leS (a b:Int):Int:=min a b
def grS (a b:Int):Int:=max a b
theorem Ej (a b:Int) (w:World):Calls Tryz.prog 136 #[.int .i64 a,.int .i64 b] w fun e w'=>e=.returned (.int .i64 (leS a b))∧w=w':=by
 by_cases h:b<a
 ·have H:=hid (show leS a b=b by unfold leS; omega)
  go_enter Tryz.func136,Tryz.ntmps136;go_wp2;go_ret;exact ⟨Vi H.out.symm,rfl⟩
 ·have H:=hid (show leS a b=a by unfold leS; omega)
  go_enter Tryz.func136,Tryz.ntmps136;go_wp2;go_ret;exact ⟨Vi H.out.symm,rfl⟩
theorem Jv (a b:Int) (w:World):Calls Tryz.prog 137 #[.int .i64 a,.int .i64 b] w fun e w'=>e=.returned (.int .i64 (grS a b))∧w=w':=by
 by_cases h:a<b
 ·have H:=hid (show grS a b=b by unfold grS; omega)
  go_enter Tryz.func137,Tryz.ntmps137;go_wp2;go_ret;exact ⟨Vi H.out.symm,rfl⟩
 ·have H:=hid (show grS a b=a by unfold grS; omega)
  go_enter Tryz.func137,Tryz.ntmps137;go_wp2;go_ret;exact ⟨Vi H.out.symm,rfl⟩
def inB (n m:Int):Bool:=decide (-m≤n∧n≤m)
theorem Dl (n m:Int) (w:World) (h0:0≤m) (h1:m≤9223372036854775807):Calls Tryz.prog 163 #[.int .i64 n,.int .i64 m] w fun e w'=>e=.returned (.bool (inB n m))∧w=w':=by
 by_cases h : -m≤n
 ·by_cases h2:n≤m
  ·have H:=hid (show inB n m=true by unfold inB; simp [h,h2])
   go_enter Tryz.func163,Tryz.ntmps163;go_wp2;go_ret;exact ⟨Yd H.out.symm,rfl⟩
  ·have H:=hid (show inB n m=false by unfold inB; simp [h2])
   go_enter Tryz.func163,Tryz.ntmps163;go_wp2;go_ret;exact ⟨Yd H.out.symm,rfl⟩
 ·have H:=hid (show inB n m=false by unfold inB; simp [h])
  go_enter Tryz.func163,Tryz.ntmps163;go_wp2;go_ret;exact ⟨Yd H.out.symm,rfl⟩
theorem Pv (n:Int) (w:World):Calls Tryz.prog 162 #[.int .i64 n] w fun e w'=>e=.returned (.bool (inB n 2305843009213693952))∧w=w':=by
 go_enter Tryz.func162,Tryz.ntmps162;go_wp2_with fail;refine (Dl n 2305843009213693952 w (by decide) (by decide)).mono ?_
 rintro e w' ⟨rfl,rfl⟩;go_wp2_with fail;go_ret;exact ⟨rfl,rfl⟩
def Ykp (n s lo hi:Int):Bool:=decide (Wf n s lo hi)
theorem Yh4 (x:Int):inB x 2305843009213693952=decide (inV x):=rfl
theorem Yr8 (x:Int):inB x 4611686018427387904=decide (inS x):=rfl
theorem Ykq (n s lo hi:Int) (w:World):Calls Tryz.prog 151 #[.int .i64 n,.int .i64 s,.int .i64 lo,.int .i64 hi] w fun e w'=>e=.returned (.bool (Ykp n s lo hi))∧w=w':=by
 obtain ⟨r,hr⟩ : ∃ r,Ykp n s lo hi=r:=⟨_,rfl⟩
 have hr2:r=true↔Wf n s lo hi:=by rw [← hr]; unfold Ykp; simp
 rw [hr];clear hr;obtain ⟨b1,hb1⟩ : ∃ b,inB s 2305843009213693952=b:=⟨_,rfl⟩;obtain ⟨b2,hb2⟩ : ∃ b,inB lo 2305843009213693952=b:=⟨_,rfl⟩;obtain ⟨b3,hb3⟩ : ∃ b,inB hi 2305843009213693952=b:=⟨_,rfl⟩;obtain ⟨b4,hb4⟩ : ∃ b,inB s 4611686018427387904=b:=⟨_,rfl⟩
 have k1:b1=true↔inV s:=by rw [← hb1,Yh4]; simp
 have k2:b2=true↔inV lo:=by rw [← hb2,Yh4]; simp
 have k3:b3=true↔inV hi:=by rw [← hb3,Yh4]; simp
 have k4:b4=true↔inS s:=by rw [← hb4,Yr8]; simp
 have K:=hid (And.intro k1 (And.intro k2 (And.intro k3 k4)))
 have R:=hid hr2
 have H1:=hid hb1
 have H2:=hid hb2
 have H3:=hid hb3
 have H4:=hid hb4
 clear hb1 hb2 hb3 hb4 k1 k2 k3 k4 hr2
 have i1:∀ w,Calls Tryz.prog 162 #[.int .i64 s] w fun e w'=>e=.returned (.bool b1)∧w=w':=fun w=>by have:=Pv s w; rwa [H1.out] at this
 have i2:∀ w,Calls Tryz.prog 162 #[.int .i64 lo] w fun e w'=>e=.returned (.bool b2)∧w=w':=fun w=>by have:=Pv lo w; rwa [H2.out] at this
 have i3:∀ w,Calls Tryz.prog 162 #[.int .i64 hi] w fun e w'=>e=.returned (.bool b3)∧w=w':=fun w=>by have:=Pv hi w; rwa [H3.out] at this
 have i4:∀ w,Calls Tryz.prog 163 #[.int .i64 s,.int .i64 4611686018427387904] w fun e w'=>e=.returned (.bool b4)∧w=w':=fun w=>by have:=Dl s 4611686018427387904 w (by decide) (by decide); rwa [H4.out] at this
 have I1:=hid i1
 have I2:=hid i2
 have I3:=hid i3
 have I4:=hid i4
 clear i1 i2 i3 i4 H1 H2 H3 H4
 by_cases h0:n=0
 ·subst h0
  by_cases h1:s=0∧lo=0∧hi=0
  ·obtain ⟨rfl,rfl,rfl⟩:=h1
   have Z:Hid (r=true):=hid (R.out.2 (.inl ⟨rfl,rfl,rfl,rfl⟩))
   go_enter Tryz.func151,Tryz.ntmps151;go_wp2;go_ret;exact ⟨Yd Z.out.symm,rfl⟩
  ·have Z:Hid (r=false):=hid (by
    rw [Bool.eq_false_iff];intro h
    rcases R.out.1 h with ⟨_,h2⟩ | ⟨h2,_⟩
    ·exact h1 h2
    ·exact h2 rfl)
   by_cases e1:s=0
   ·subst e1
    by_cases e2:lo=0
    ·subst e2
     have e3:((hi:Int) == 0)=false:=by simp; intro h; exact h1 ⟨rfl,rfl,h⟩
     clear h1;go_enter Tryz.func151,Tryz.ntmps151;go_wp2;go_ret;exact ⟨Yd Z.out.symm,rfl⟩
    ·have e3:((lo:Int) == 0)=false:=by simpa using e2
     clear h1;go_enter Tryz.func151,Tryz.ntmps151;go_wp2;go_ret;exact ⟨Yd Z.out.symm,rfl⟩
   ·have e3:((s:Int) == 0)=false:=by simpa using e1
    clear h1;go_enter Tryz.func151,Tryz.ntmps151;go_wp2;go_ret;exact ⟨Yd Z.out.symm,rfl⟩
 ·by_cases h1:n=1
  ·subst h1
   clear h0
   by_cases e1:lo=hi
   ·subst e1
    by_cases e2:lo=s
    ·subst e2
     have Z:Hid (r=b1):=hid (by
      rw [Bool.eq_iff_iff,R.out,K.out.1];unfold Wf Ya5 inV inS;omega)
     have e4:((lo:Int) == lo)=true:=by simp
     go_enter Tryz.func151,Tryz.ntmps151;go_wp2_with fail;refine (I1.out _).mono ?_;rintro e w' ⟨rfl,rfl⟩;go_wp2_with fail;go_ret;exact ⟨Yd Z.out.symm,rfl⟩
    ·have Z:Hid (r=false):=hid (by
      rw [Bool.eq_false_iff];intro h
      have:=R.out.1 h
      unfold Wf Ya5 at this;omega)
     have e3:((lo:Int) == s)=false:=by simpa using e2
     have e4:((lo:Int) == lo)=true:=by simp
     go_enter Tryz.func151,Tryz.ntmps151;go_wp2_with fail;go_ret;exact ⟨Yd Z.out.symm,rfl⟩
   ·have Z:Hid (r=false):=hid (by
     rw [Bool.eq_false_iff];intro h
     have:=R.out.1 h
     unfold Wf Ya5 at this;omega)
    have e3:((lo:Int) == hi)=false:=by simpa using e1
    go_enter Tryz.func151,Tryz.ntmps151;go_wp2_with fail;go_ret;exact ⟨Yd Z.out.symm,rfl⟩
  ·have e0:((n:Int) == 0)=false:=by simpa using h0
   have e1:((n:Int) == 1)=false:=by simpa using h1
   have Q:Hid (r=true↔lo≤hi∧b2=true∧b3=true∧b4=true):=hid (by
    obtain ⟨_,k2,k3,k4⟩:=K.out;rw [R.out,k2,k3,k4];unfold Wf Ya5 inV inS;omega)
   clear R K h0 h1
   by_cases e2:lo≤hi
   ·cases b2
    ·have Z:Hid (r=false):=hid (by rw [Bool.eq_false_iff]; intro h; cases (Q.out.1 h).2.1)
     go_enter Tryz.func151,Tryz.ntmps151;go_wp2_with fail;refine (I2.out _).mono ?_;rintro e w' ⟨rfl,rfl⟩;go_wp2_with fail;go_ret;exact ⟨Yd Z.out.symm,rfl⟩
    ·cases b3
     ·have Z:Hid (r=false):=hid (by rw [Bool.eq_false_iff]; intro h; cases (Q.out.1 h).2.2.1)
      go_enter Tryz.func151,Tryz.ntmps151;go_wp2_with fail;refine (I2.out _).mono ?_;rintro e w' ⟨rfl,rfl⟩;go_wp2_with fail;refine (I3.out _).mono ?_;rintro e w' ⟨rfl,rfl⟩;go_wp2_with fail;go_ret;exact ⟨Yd Z.out.symm,rfl⟩
     ·have Z:Hid (r=b4):=hid (by rw [Bool.eq_iff_iff,Q.out]; exact ⟨fun h=>h.2.2.2,fun h=>⟨e2,rfl,rfl,h⟩⟩)
      go_enter Tryz.func151,Tryz.ntmps151;go_wp2_with fail;refine (I2.out _).mono ?_;rintro e w' ⟨rfl,rfl⟩;go_wp2_with fail;refine (I3.out _).mono ?_;rintro e w' ⟨rfl,rfl⟩;go_wp2_with fail;refine (I4.out _).mono ?_;rintro e w' ⟨rfl,rfl⟩;go_wp2_with fail;go_ret;exact ⟨Yd Z.out.symm,rfl⟩
   ·have Z:Hid (r=false):=hid (by rw [Bool.eq_false_iff]; intro h; exact e2 (Q.out.1 h).1)
    go_enter Tryz.func151,Tryz.ntmps151;go_wp2_with fail;go_ret;exact ⟨Yd Z.out.symm,rfl⟩
theorem Yq6 (n s lo hi:Int):Ykp n s lo hi=true↔Wf n s lo hi:=by unfold Ykp; simp
theorem Jq {n:Int}{A1 A2 A3:Option Addr}{n1 c1 n2 c2 n3 c3:Nat}{S M X:List Int} (h:Ww w w.heap.size A1 n1 c1 A2 n2 c2 A3 n3 c3 S M X) {r:Bool}(hr:r=true↔Zm (n,S,M,X)) :
  Calls Tryz.prog 135 #[Mm n A1 n1 c1 A2 n2 c2 A3 n3 c3] w fun e w'=>e=.returned (.bool r)∧Below w.heap.size w w':=by
 have R:=hid (hr.trans (S0 n S M X))
 have l1:=h.s.len
 have l2:=h.m.len
 have l3:=h.x.len
 have m1:=h.s.Yn
 have m2:=h.m.Yn
 have m3:=h.x.Yn
 have LL:=hid (And.intro l1 (And.intro l2 l3))
 have hbx:=hid (Ya w (.cells #[.int .i64 n,.slice A1 n1 c1,.slice A2 n2 c2,.slice A3 n3 c3] 105))
 clear hr
 by_cases h1:n1≤2
 ·by_cases h2:n2=n1
  ·by_cases h3:n3=n1
   ·by_cases h4:0≤n
    ·by_cases h5:n≤1099511627776
     ·subst h2 h3
      clear l1 l2 l3;go_enter Tryz.func135,Tryz.ntmps135;go_wp2_with fail
      have hB:=Block.new w 105 #[.int .i64 n,.slice A1 n3 c1,.slice A2 n3 c2,.slice A3 n3 c3]
      have hC:=h.below hbx.out (Nat.le_refl _)
      generalize w.alloc (.cells #[.int .i64 n,.slice A1 n3 c1,.slice A2 n3 c2,.slice A3 n3 c3] 105)=w1 at hbx hB hC ⊢
      have g0:w1.cell? ⟨w.heap.size,0,none⟩=some (.int .i64 n):=hB.cell 0
      have g1:w1.cell? ⟨w.heap.size,1,none⟩=some (.slice A1 n3 c1):=hB.cell 1
      have g2:w1.cell? ⟨w.heap.size,2,none⟩=some (.slice A2 n3 c2):=hB.cell 2
      have g3:w1.cell? ⟨w.heap.size,3,none⟩=some (.slice A3 n3 c3):=hB.cell 3
      clear hB h;go_loopw [33] (fun i wr=>∃ k q:Nat,k≤n3∧i=.int .i64 k∧wr=w1.drewN q∧Hid (∀ i,i<k→Wf n (S.getD i 0) (M.getD i 0) (X.getD i 0))) (fun i _=>n3 - (intOf i).toNat)
      case atStart=>exact ⟨0,0,Nat.zero_le _,rfl,rfl,hid fun i hi=>absurd hi (by omega)⟩
      case round =>
       obtain ⟨k,q,hk,rfl,rfl,hP⟩:=hrel
       by_cases hlt:k<n3
       ·obtain ⟨b1,o1,s,rfl,_,cs,es⟩:=hC.s.at_ hlt
        obtain ⟨b2,o2,lo,rfl,_,cm,em⟩:=hC.m.at_ hlt;obtain ⟨b3,o3,hi,rfl,_,cx,ex⟩:=hC.x.at_ hlt
        have i0:(0:Int)≤(k:Int):=by omega
        have i1:(k:Int)<(n3:Int):=by omega
        obtain ⟨b,hb⟩ : ∃ b,Ykp n s lo hi=b:=⟨_,rfl⟩
        have hbP:Hid (b=true↔Wf n (S.getD k 0) (M.getD k 0) (X.getD k 0)):=hid (by rw [← hb,Yq6,es.out,em.out,ex.out])
        have HM:Hid (∀ w,Calls Tryz.prog 151 #[.int .i64 n,.int .i64 s,.int .i64 lo,.int .i64 hi] w fun e w'=>e=.returned (.bool b)∧w=w'):=hid fun w=>by have:=Ykq n s lo hi w; rwa [hb] at this
        clear hb
        cases b
        ·have Z:Hid (r=false):=hid (by
          rw [Bool.eq_false_iff]; intro h
          have h1:=(R.out.1 h).2.2.2.2.2 k (by have:=LL.out; omega)
          cases hbP.out.2 h1)
         go_wp2_with fail;go_quiet ((go_at_call 151; exact Yph HM.out _));go_wp2_with fail;go_ret;exact ⟨Yd Z.out.symm,below_drewN (below_drewN hbx.out _) _⟩
        ·have hP2:Hid (∀ i,i<k+1→Wf n (S.getD i 0) (M.getD i 0) (X.getD i 0)):=hid fun i hi=>by
          by_cases h:i<k
          ·exact hP.out i h
          ·obtain rfl:i=k:=by omega
           exact hbP.out.1 rfl
         go_wp2_with fail;go_quiet ((go_at_call 151; exact Yph HM.out _));go_wp2_with fail;go_roundw
         case rel=>exact ⟨k+1,_,by omega,by go_num,by first | rfl | rw [World.drewN_drewN],hP2⟩
         case measure=>simp [intOf]; omega
       ·have Z:Hid (r=true):=hid (R.out.2 (by
         obtain ⟨a1,a2,a3⟩:=LL.out;refine ⟨by omega,by omega,by omega,h4,h5,fun i hi=>hP.out i (by omega)⟩))
        go_wp2_with fail;go_ret;exact ⟨Yd Z.out.symm,below_drewN hbx.out _⟩
     ·have Z:Hid (r=false):=hid (by rw [Bool.eq_false_iff]; intro h; exact h5 (R.out.1 h).2.2.2.2.1)
      subst h2 h3;clear l1 l2 l3;go_enter Tryz.func135,Tryz.ntmps135;go_wp2_with fail;go_ret;exact ⟨Yd Z.out.symm,hbx.out⟩
    ·have Z:Hid (r=false):=hid (by rw [Bool.eq_false_iff]; intro h; exact h4 (R.out.1 h).2.2.2.1)
     subst h2 h3;clear l1 l2 l3;go_enter Tryz.func135,Tryz.ntmps135;go_wp2_with fail;go_ret;exact ⟨Yd Z.out.symm,hbx.out⟩
   ·have Z:Hid (r=false):=hid (by rw [Bool.eq_false_iff]; intro h; have:=(R.out.1 h).2.2.1; have:=LL.out; omega)
    have e3:((n3:Int) != (n1:Int))=true:=by simp; omega
    subst h2;clear l1 l2 l3 h3;go_enter Tryz.func135,Tryz.ntmps135;go_wp2_with fail;go_ret;exact ⟨Yd Z.out.symm,hbx.out⟩
  ·have Z:Hid (r=false):=hid (by rw [Bool.eq_false_iff]; intro h; have:=(R.out.1 h).2.1; have:=LL.out; omega)
   have e3:((n2:Int) != (n1:Int))=true:=by simp; omega
   clear l1 l2 l3 h2;go_enter Tryz.func135,Tryz.ntmps135;go_wp2_with fail;go_ret;exact ⟨Yd Z.out.symm,hbx.out⟩
 ·have Z:Hid (r=false):=hid (by rw [Bool.eq_false_iff]; intro h; have:=(R.out.1 h).1; have:=LL.out; omega)
  have e3:(2:Int)<(n1:Int):=by omega
  clear l1 l2 l3 h1;go_enter Tryz.func135,Tryz.ntmps135;go_wp2_with fail;go_ret;exact ⟨Yd Z.out.symm,hbx.out⟩
end Go.Proofs.YtkablhecedcngaaGreat
