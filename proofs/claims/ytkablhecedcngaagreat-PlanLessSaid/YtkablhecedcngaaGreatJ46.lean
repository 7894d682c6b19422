/- QryT, QryU, PlnO, PlnN, PlnR, PlnX, QryL, PlnF, BatchD, BatchE, BatchF, BatchR, BatchH -/
import Derived.Test.YtkablhecedcngaaGreatJ37
import Derived.Test.YtkablhecedcngaaGreatJ39
import Derived.Test.YtkablhecedcngaaGreatJ41
import Derived.Test.YtkablhecedcngaaGreatJ42
import Derived.Deep.DeepCutAuto
namespace Go.Proofs.YtkablhecedcngaaGreat
set_option maxRecDepth 100000
set_option maxHeartbeats 8000000
open Go.RowKit
open Go.Lib (hid)
variable {w:World}{D:List Yg}{S:Nat→Prop}{M l x:List Txt}{V:List (List Int)}{B c c1 c2 d1 d2 d3 k m m1 m2 m3 n n1 n2:Nat}{p:List (List Txt)}{A A1 A2 B1 B2 B3:Option Addr}{L:List Fct}{G q:List Int}{ok:Fct→Prop}{y:Txt}{a b:Int}{cnt:Int→Nat}
theorem H5 {F:List Fil}{f:Fil} (hm:f∈F) (h:¬ U5 D f):¬ Rr D (G,F):=fun h2=>h (h2.2.2 f hm)
theorem Yem {q:Qry} 
  (hs:Tx w w.heap.size B1 m1 d1 B2 m2 d2 B3 m3 d3 D M V) (hn1:m1≤1000) (hn3:m3≤1000) (hq:V0 w S A1 n1 c1 A2 n2 c2 q) :
  Calls Tryz.prog 20 #[V6 B1 m1 d1 B2 m2 d2 B3 m3 d3,O4 A1 n1 c1 A2 n2 c2] w fun e w'=>e=.returned (.int .i64 (Wk D M V q:Nat))∧Below w.heap.size w w':=by
 obtain ⟨hb0,hbs,hbl⟩:=Sw w 26 30 #[.slice B1 m1 d1,.slice B2 m2 d2,.slice B3 m3 d3] #[.slice A1 n1 c1,.slice A2 n2 c2]
 have h0:=hq.Yc hb0
 have hs0:=hs.Yc hb0
 have HC:=hid (Rn hs0 hn1 hn3)
 have HD:=hid hs.d.len
 clear hs hq;obtain ⟨G,F⟩:=q
 have hn2:=h0.f.Yn
 have HF:=hid (show F.length=n2 from h0.f.len)
 have HI:=hid (Ycw (D:=D) (G:=G) HF.out)
 go_enter Tryz.func20,Tryz.ntmps20;go_wp2_with fail;generalize (w.alloc (.cells #[.slice B1 m1 d1,.slice B2 m2 d2,.slice B3 m3 d3] 26)).alloc (.cells #[.slice A1 n1 c1,.slice A2 n2 c2] 30)=W at hb0 hbl hbs h0 hs0 HC ⊢
 have s0:W.cell? ⟨w.heap.size,0,none⟩=some (.slice B1 m1 d1):=hbs.cell 0
 have s1:W.cell? ⟨w.heap.size,1,none⟩=some (.slice B2 m2 d2):=hbs.cell 1
 have s2:W.cell? ⟨w.heap.size,2,none⟩=some (.slice B3 m3 d3):=hbs.cell 2
 have hz0:=hb0.size
 by_cases hm:Z3 D M V
 ·rw [decide_eq_true hm] at HC
  have HM:=hid hm
  clear hm;go_wp2_with fail;refine HC.out.mono ?_;rintro e w2 ⟨rfl,hb2⟩
  have hbs2:=hbs.below hb2 hbs.lt
  have hbl2:=hbl.below hb2 hbl.lt
  have hB2:=hb0.trans (hb2.mono hz0)
  have h2:=h0.Yc hb2
  have hs2:=hs0.Yc hb2
  have HC2:=hid (Nd (A2:=B2) (n2:=m2) (c2:=d2) (A3:=B3) (n3:=m3) (c3:=d3) hs2.d h2.g.Qr)
  clear HC s0 s1 s2 hbs hbl hs0 h0 hb2
  have s0:w2.cell? ⟨w.heap.size,0,none⟩=some (.slice B1 m1 d1):=hbs2.cell 0
  have s1:w2.cell? ⟨w.heap.size,1,none⟩=some (.slice B2 m2 d2):=hbs2.cell 1
  have s2:w2.cell? ⟨w.heap.size,2,none⟩=some (.slice B3 m3 d3):=hbs2.cell 2
  have k0:w2.cell? ⟨w.heap.size+1,0,none⟩=some (.slice A1 n1 c1):=hbl2.cell 0
  by_cases hc:Zi D G
  ·rw [decide_eq_true hc] at HC2
   have HCC:=hid hc
   clear hc;go_wp2_with fail;refine HC2.out.mono ?_;rintro e w3 ⟨rfl,hb3⟩
   have HBL:=hid (hbl2.below hb3 hbl2.lt)
   have HBS:=hid (hbs2.below hb3 hbs2.lt)
   have hB3:=hB2.trans (hb3.mono hB2.size)
   have hd3:=hs2.d.Yc hb3
   have h3:Row Q8 3 w3 (fun b=>S b∧b<w3.heap.size) A2 n2 c2 F:=(h2.f.mv Xy (Mv.Yc hb3 S)).mv Xy (Mv.to w3 fun b hb hl=>⟨hb,hl⟩)
   have HS:∀ b,(S b∧b<w3.heap.size)→b<w3.heap.size:=fun b hb=>hb.2
   have hz3:=hB3.size
   have k1:w3.cell? ⟨w.heap.size+1,1,none⟩=some (.slice A2 n2 c2):=HBL.out.cell 1
   clear HC2 s0 s1 s2 k0 hbl2 hbs2 hb3 h2 hs2 hB2
   by_cases h4:(3:Int)<(n2:Int)
   ·have H:Hid (Wk D M V (G,F)=16):=hid (Ny HM.out (by rw [HI.out]; intro h; have:=h.2.1; omega))
    go_wp2_with fail;go_ret;exact ⟨by rw [H.out]; rfl,hB3⟩
   ·go_wp2_with fail
    clear k1;go_loopw [7] (fun i wr=>∃ k:Nat,k≤n2∧i=.int .i64 k∧Hid (∀ f∈F.take k,U5 D f)∧Below w3.heap.size w3 wr) (fun i _=>n2 - (intOf i).toNat)
    case atStart=>exact ⟨0,Nat.zero_le _,rfl,hid (fun p hp=>by simp at hp),Below.refl _ _⟩
    case round =>
     obtain ⟨j,hj,rfl,HA,hB⟩:=hrel
     have k1:wr.cell? ⟨w.heap.size+1,1,none⟩=some (.slice A2 n2 c2):=(HBL.out.below hB HBL.out.lt).cell 1
     by_cases hlj:j<n2
     ·obtain ⟨b,o,d,v,A',n',c',M',rfl,_,_,g0,g1,g2,hM,he⟩:=(h3.mv Xy (Mv.below hB HS)).atF hlj
      have i0:(0:Int)≤(j:Int):=by omega
      have i1:(j:Int)<(n2:Int):=by omega
      have hbx:=Ya wr (.cells #[.int .i64 d,.int .i64 v,.slice A' n' c'] 86)
      have hbf:=Block.new wr 86 #[.int .i64 d,.int .i64 v,.slice A' n' c']
      have hB1:=hB.trans (hbx.mono hB.size)
      have hM1:=hM.mv Zr (Mv.Yc hbx _)
      have hd1:=hd3.below hB1 (Nat.le_refl _)
      have hnm:=hM.Yn
      have HLM:=hid hM.len
      have hm1:=hd3.Yn
      have hbs1:=HBS.out.below hB1 HBS.out.lt
      clear hB hbx hM;go_wp2_with fail;generalize wr.alloc (.cells #[.int .i64 d,.int .i64 v,.slice A' n' c'] 86)=W1 at hB1 hbf hM1 hd1 hbs1 ⊢
      have f0:W1.cell? ⟨wr.heap.size,0,none⟩=some (.int .i64 d):=hbf.cell 0
      have f1:W1.cell? ⟨wr.heap.size,1,none⟩=some (.int .i64 v):=hbf.cell 1
      have f2:W1.cell? ⟨wr.heap.size,2,none⟩=some (.slice A' n' c'):=hbf.cell 2
      have t0:W1.cell? ⟨w.heap.size,0,none⟩=some (.slice B1 m1 d1):=hbs1.cell 0
      have hBW:=hB3.trans (hB1.mono hz3)
      clear g0 g1 g2 k1 hbs1 hbf
      by_cases hd:0≤d∧d≤(m1:Int) - 1
      ·obtain ⟨m,rfl⟩ : ∃ m:Nat,d=(m:Int):=⟨d.toNat,by omega⟩
       have hmm:m<m1:=by omega
       obtain ⟨b5,o5,x5,A5,n5,c5,l5,rfl,_,g5,g6,hl5,he5⟩:=hd1.at_ hmm
       have HIF:=hid (Cv (v:=v) (by have:=HD.out; omega) he5.out hl5.len HLM.out)
       have hlm5:=hl5.Yn
       have b1:decide ((m:Int)<0)=false:=decide_eq_false (by omega)
       have b2:decide ((m1:Int)≤(m:Int))=false:=decide_eq_false (by omega)
       have b2' : decide (m1≤m)=false:=decide_eq_false (by omega)
       have e0:(0:Int)≤(m:Int):=by omega
       have e1:(m:Int)<(m1:Int):=by omega
       clear hd hl5 hd1
       by_cases hok:(1≤v∧v≤(n5:Int))∧(1≤(n' : Int)∧(n' : Int)≤6)
       ·obtain ⟨⟨o1,o2⟩,o3,o4⟩:=hok
        have b3:decide (v<1)=false:=decide_eq_false (by omega)
        have b4:decide ((n5:Int)<v)=false:=decide_eq_false (by omega)
        have b5:decide ((n' : Int)<1)=false:=decide_eq_false (by omega)
        have b6:decide ((6:Int)<(n' : Int))=false:=decide_eq_false (by omega)
        go_big_quiet (fail);clear b1 b2 b2' b3 b4 b5 b6;go_wp2_with fail;clear f0 t0 g5 g6;obtain ⟨wo,hwo⟩ : ∃ wo,Hid (wo=wr.heap.size):=⟨_,hid rfl⟩;rw [← hwo.out] at f1 f2;rw [← hwo.out];clear hwo;go_loopw [9] (fun i wx=>∃ t u:Nat,t≤n'∧i=.int .i64 t∧wx=W1.drewN u∧Hid (∀ p∈M'.take t,Wu p∧(p.length:Int)=v)) (fun i _=>n' - (intOf i).toNat)
        case atStart=>exact ⟨0,nq,Nat.zero_le _,rfl,rfl,hid (fun p hp=>by simp at hp)⟩
        case round =>
         obtain ⟨t,u,ht,rfl,hwx,HA3⟩:=hrel
         have hM2:Row (Zf Yy 1) 1 wr (fun b=>S b∧b<w3.heap.size) A' n' c' M':=by rw [hwx]; exact hM1.mv Zr (Mv.drewN W1 u _)
         have q1:wr.cell? ⟨wo,1,none⟩=some (.int .i64 v):=by rw [hwx]; exact f1
         have q2:wr.cell? ⟨wo,2,none⟩=some (.slice A' n' c'):=by rw [hwx]; exact f2
         have HWX:=hid hwx
         clear hwx
         by_cases hlt2:t<n'
         ·obtain ⟨b3,o3',A3,n3,c3,y,rfl,_,_,g3,hy,hye⟩:=hM2.at1 hlt2
          have j0:(0:Int)≤(t:Int):=by omega
          have j1:(t:Int)<(n' : Int):=by omega
          have hT:=hy.Ea
          have hly:=hy.len
          have hym:=hy.Yn
          clear hy hM2
          by_cases hmy:Wu y
          ·have HMy:=hid hmy
           by_cases hle:(n3:Int)=v
           ·have he3:((n3:Int) != v)=false:=by rw [bne_eq_false_iff_eq]; exact hle
            have HN:=hid (Ox (P:=fun p=>Wu p∧(p.length:Int)=v) hye.out ⟨hmy,by rw [hly]; exact hle⟩ HA3.out)
            clear hmy hle hly;go_wp2_with fail;refine (Mb hT HMy.out).mono ?_;rintro e w4 ⟨rfl,rfl⟩;go_wp2_with fail;go_big_quiet (fail);go_wp2_with fail;go_roundw
            case rel=>exact ⟨t+1,u+nq,by omega,by go_num,by rw [HWX.out,World.drewN_drewN],HN⟩
            case measure=>simp [intOf]; omega
           ·have he3:((n3:Int) != v)=true:=by rw [bne_iff_ne]; exact hle
            have H:Hid (Wk D M V (G,F)=16):=hid (Ny HM.out (H5 (List.mem_of_getElem? he.out) (by
             rw [HIF.out];intro h
             have h5:=(h.2.2 y (List.mem_of_getElem? hye.out)).2
             rw [hly] at h5;exact hle h5)))
            clear hmy hle hly;go_wp2_with fail;refine (Mb hT HMy.out).mono ?_;rintro e w4 ⟨rfl,rfl⟩;go_wp2_with fail;go_big_quiet (fail)
            have hBF:Below w.heap.size w (wr.drewN nq):=by rw [HWX.out,World.drewN_drewN]; exact below_drewN hBW _
            go_wp2_with fail;go_ret;exact ⟨by rw [H.out]; rfl,hBF⟩
          ·have HMy:=hid hmy
           have H:Hid (Wk D M V (G,F)=16):=hid (Ny HM.out (H5 (List.mem_of_getElem? he.out) (by
            rw [HIF.out];intro h;exact hmy (h.2.2 y (List.mem_of_getElem? hye.out)).1)))
           clear hmy hly;go_wp2_with fail;refine (Ai hT HMy.out).mono ?_;rintro e w4 ⟨rfl,rfl⟩;go_wp2_with fail;go_big_quiet (fail)
           have hBF:Below w.heap.size w (wr.drewN nq):=by rw [HWX.out,World.drewN_drewN]; exact below_drewN hBW _
           go_wp2_with fail;go_ret;exact ⟨by rw [H.out]; rfl,hBF⟩
         ·have hfit:U5 D ((m:Int),v,M'):=by
           rw [HIF.out]
           have h5:=HA3.out
           rw [List.take_of_length_le (by have:=HLM.out; omega)] at h5
           exact ⟨⟨o1,o2⟩,⟨o3,o4⟩,h5⟩
          have HN:=hid (Ox he.out hfit HA.out)
          have hBF:Below w3.heap.size w3 wr:=by rw [HWX.out]; exact below_drewN hB1 _
          clear hfit hM2;go_wp2_with fail;go_roundw
          case rel=>exact ⟨j+1,by omega,by go_num,HN,hBF⟩
          case measure=>simp [intOf]; omega
       ·have H:Hid (Wk D M V (G,F)=16):=hid (Ny HM.out (H5 (List.mem_of_getElem? he.out) (by
         rw [HIF.out];exact fun h=>hok ⟨h.1,h.2.1⟩)))
        have hc:v<1∨(1≤v∧(n5:Int)<v)∨(1≤v∧v≤(n5:Int)∧(n' : Int)<1)∨(1≤v∧v≤(n5:Int)∧1≤(n' : Int)∧(6:Int)<(n' : Int)):=by omega
        clear hok
        rcases hc with o1 | ⟨o1,o2⟩ | ⟨o1,o2,o3⟩ | ⟨o1,o2,o3,o4⟩
        ·have b3:decide (v<1)=true:=decide_eq_true (by omega)
         go_big_quiet (fail)
         have hBF:=below_drewN hBW nq
         go_wp2_with fail;go_ret;exact ⟨by rw [H.out]; rfl,hBF⟩
        ·have b3:decide (v<1)=false:=decide_eq_false (by omega)
         have b4:decide ((n5:Int)<v)=true:=decide_eq_true (by omega)
         go_big_quiet (fail)
         have hBF:=below_drewN hBW nq
         go_wp2_with fail;go_ret;exact ⟨by rw [H.out]; rfl,hBF⟩
        ·have b3:decide (v<1)=false:=decide_eq_false (by omega)
         have b4:decide ((n5:Int)<v)=false:=decide_eq_false (by omega)
         have b5:decide ((n' : Int)<1)=true:=decide_eq_true (by omega)
         go_big_quiet (fail)
         have hBF:=below_drewN hBW nq
         go_wp2_with fail;go_ret;exact ⟨by rw [H.out]; rfl,hBF⟩
        ·have b3:decide (v<1)=false:=decide_eq_false (by omega)
         have b4:decide ((n5:Int)<v)=false:=decide_eq_false (by omega)
         have b5:decide ((n' : Int)<1)=false:=decide_eq_false (by omega)
         have b6:decide ((6:Int)<(n' : Int))=true:=decide_eq_true (by omega)
         go_big_quiet (fail)
         have hBF:=below_drewN hBW nq
         go_wp2_with fail;go_ret;exact ⟨by rw [H.out]; rfl,hBF⟩
      ·have H:Hid (Wk D M V (G,F)=16):=hid (Ny HM.out (H5 (List.mem_of_getElem? he.out) (Cu HD.out hd)))
       have hc:d<0∨(0≤d∧(m1:Int)≤d):=by omega
       clear hd
       rcases hc with o1 | ⟨o1,o2⟩
       ·have b1:decide (d<0)=true:=decide_eq_true (by omega)
        go_big_quiet (fail)
        have hBF:=below_drewN hBW nq
        go_wp2_with fail;go_ret;exact ⟨by rw [H.out]; rfl,hBF⟩
       ·have b1:decide (d<0)=false:=decide_eq_false (by omega)
        have b2:decide ((m1:Int)≤d)=true:=decide_eq_true (by omega)
        go_big_quiet (fail)
        have hBF:=below_drewN hBW nq
        go_wp2_with fail;go_ret;exact ⟨by rw [H.out]; rfl,hBF⟩
     ·have H:Hid (Wk D M V (G,F)=0):=hid (Ygl HM.out (by
       have h5:=HA.out
       rw [List.take_of_length_le (by have:=HF.out; omega)] at h5
       rw [HI.out];exact ⟨HCC.out,by omega,h5⟩))
      have hBF:=hB3.trans (hB.mono hz3)
      go_wp2_with fail;go_ret;exact ⟨by rw [H.out]; rfl,hBF⟩
  ·rw [decide_eq_false hc] at HC2
   have H:Hid (Wk D M V (G,F)=16):=hid (Ny HM.out (by rw [HI.out]; exact fun h=>hc h.1))
   clear hc;go_wp2_with fail;refine HC2.out.mono ?_;rintro e w3 ⟨rfl,hb3⟩
   have hB3:=hB2.trans (hb3.mono hB2.size)
   clear HC2 s0 s1 s2 k0;go_wp2_with fail;go_ret;exact ⟨by rw [H.out]; rfl,hB3⟩
 ·rw [decide_eq_false hm] at HC
  have H:=hid (Yol (q:=(G,F)) hm)
  clear hm;go_wp2_with fail;refine HC.out.mono ?_;rintro e w2 ⟨rfl,hb2⟩
  have hB2:=hb0.trans (hb2.mono hz0)
  clear HC s0 s1 s2;go_wp2_with fail;go_ret;exact ⟨by rw [H.out]; rfl,hB2⟩
theorem Z4 {α:Type}{L:List α}{x:α} (h:L[k]?=some x):L.take k++[x]=L.take (k+1):=by rw [List.take_add_one,h]; rfl
theorem Yos {F:List Fil}{x:Int} (h:G[k]?=some x):(Xa (G,F))[k]?=some (Zu F k x):=by
 have hi:=(List.getElem?_eq_some_iff.1 h).1
 unfold Xa;rw [List.getElem?_map,List.getElem?_range (show k<(G,F).1.length from hi)]
 simp [List.getD_eq_getElem?_getD,h]
theorem Yx.get {L:List Int} (h:Yx w B A n c L) (hk:k<n):∃ b o x,A=some ⟨b,o,none⟩∧w.cell? ⟨b,o+k,none⟩=some (.int .i64 x)∧Hid (L[k]?=some x):=by
 obtain ⟨b,o,x,e,_,hc,hx⟩:=h.at_ hk;exact ⟨b,o,x,e,hc,hid (by
  rw [hx.out,List.getD_eq_getElem?_getD,List.getElem?_eq_getElem (show k<L.length by have:=h.len; omega)]
  rfl)⟩
theorem Ybj {q:Qry} (hq:V0 w S A1 n1 c1 A2 n2 c2 q) (hn:n1≤1000) :
  Calls Tryz.prog 21 #[O4 A1 n1 c1 A2 n2 c2] w (Yb4 w (Xa q)):=by
 obtain ⟨G,F⟩:=q
 have hn2:=hq.f.Yn
 have HG:=hid (show G.length=n1 from hq.g.len)
 have HF:=hid (show F.length=n2 from hq.f.len)
 have hb0:=Ya w (.cells #[.slice A1 n1 c1,.slice A2 n2 c2] 30)
 have hbl:=Block.new w 30 #[.slice A1 n1 c1,.slice A2 n2 c2]
 have h0:=hq.Yc hb0
 clear hq;go_enter Tryz.func21,Tryz.ntmps21;go_wp2_with fail;generalize w.alloc (.cells #[.slice A1 n1 c1,.slice A2 n2 c2] 30)=W at hb0 hbl h0 ⊢
 have h1:Row Yr 1 W (fun b=>S b∧b<W.heap.size) A1 n1 c1 G:=h0.g.mv Yh (Mv.to W fun b hb hl=>⟨hb,hl⟩)
 have h2:Row Q8 3 W (fun b=>S b∧b<W.heap.size) A2 n2 c2 F:=h0.f.mv Xy (Mv.to W fun b hb hl=>⟨hb,hl⟩)
 have HS:∀ b,(S b∧b<W.heap.size)→b<W.heap.size:=fun b hb=>hb.2
 have hz0:=hb0.size
 have HBL:=hid hbl
 clear h0 hbl;go_loopw [3,4] (fun v i wr=>∃ k:Nat,k≤n1∧i=.int .i64 k∧Yf wr W.heap.size v ((Xa (G,F)).take k)∧Below W.heap.size W wr) (fun _ i _=>n1 - (intOf i).toNat)
 case atStart=>exact ⟨0,Nat.zero_le _,rfl,Yf.Zj _ _,Below.refl _ _⟩
 case round =>
  obtain ⟨k,hk,rfl,hO,hB⟩:=hrel
  have k0:wr.cell? ⟨w.heap.size,0,none⟩=some (.slice A1 n1 c1):=(HBL.out.below hB HBL.out.lt).cell 0
  have k1:wr.cell? ⟨w.heap.size,1,none⟩=some (.slice A2 n2 c2):=(HBL.out.below hB HBL.out.lt).cell 1
  by_cases hlt:k<n1
  ·obtain ⟨b,o,x,rfl,g0,hx⟩:=((h1.mv Yh (Mv.below hB HS)).Qr).get hlt
   have i0:(0:Int)≤(k:Int):=by omega
   have i1:(k:Int)<(n1:Int):=by omega
   have HT:=hid (Z4 (Yos (F:=F) hx.out))
   have h3:=h2.mv Xy (Mv.below hB HS)
   have HO:=hid hO
   have hz:=hB.size
   clear hO;go_wp2_with fail;clear g0;go_loop [5,6] (fun m i=>∃ j:Nat,j≤n2∧i=.int .i64 j∧m=.int .i64 (Zu (F.take j) k x)) (fun _ i=>n2 - (intOf i).toNat)
   case atStart=>exact ⟨0,Nat.zero_le _,rfl,by rw [List.take_zero]; rfl⟩
   case round =>
    obtain ⟨j,hj,rfl,rfl⟩:=hrel
    by_cases hlj:j<n2
    ·obtain ⟨b3,o3,d,v,A',n',c',M',rfl,_,_,g0,g1,g2,_,he⟩:=h3.atF hlj
     have j0:(0:Int)≤(j:Int):=by omega
     have j1:(j:Int)<(n2:Int):=by omega
     have HN:Hid (Zu (F.take (j+1)) k x=if d=(k:Int)∧Zu (F.take j) k x<v then v else Zu (F.take j) k x):=hid (by
      rw [← Z4 he.out,J0])
     obtain ⟨y,hy⟩ : ∃ y,Hid (Zu (F.take j) k x=y):=⟨_,hid rfl⟩;rw [hy.out] at HN ⊢
     by_cases hdk:d=(k:Int)
     ·have e1:(d == (k:Int))=true:=by rw [beq_iff_eq]; exact hdk
      by_cases hyv:y<v
      ·rw [if_pos ⟨hdk,hyv⟩] at HN
       clear hdk g2;go_wp2_with fail;go_round
       case rel=>exact ⟨j+1,by omega,by go_num,by rw [HN.out]⟩
       case measure=>simp [intOf]; omega
      ·rw [if_neg (fun h=>hyv h.2)] at HN
       clear hdk g2;go_wp2_with fail;go_round
       case rel=>exact ⟨j+1,by omega,by go_num,by rw [HN.out]⟩
       case measure=>simp [intOf]; omega
     ·have e1:(d == (k:Int))=false:=by rw [beq_eq_false_iff_ne]; exact hdk
      rw [if_neg (fun h=>hdk h.1)] at HN
      clear hdk g1 g2;go_wp2_with fail;go_round
      case rel=>exact ⟨j+1,by omega,by go_num,by rw [HN.out]⟩
      case measure=>simp [intOf]; omega
    ·have e:Zu (F.take j) k x=Zu F k x:=by rw [List.take_of_length_le (by have:=HF.out; omega)]
     rw [e];obtain ⟨y,hy⟩ : ∃ y,Hid (Zu F k x=y):=⟨_,hid rfl⟩;rw [hy.out] at HT ⊢
     have hO1:=HO.out.alloc (.cells #[.int .i64 y] 3)
     have hlb:Hid (((Xa (G,F)).take k).length≤1000000):=hid (Nat.le_trans (List.length_take_le k _) (by omega))
     have hlo:=fun g e=>(HO.out.lt g e).1
     clear e;go_wp2_with (at_builtin; refine Y9 rfl _ _ rfl W.heap.size _ _ rfl hO1 _ rfl y (Zs _ _ _ _ (by simp)) hlb.out (by rw [World.size_alloc]; omega) ?_)
     intro v' w8 hO3 hG2
     have hF:=hid (show Yf w8 W.heap.size v' ((Xa (G,F)).take (k+1))∧Below W.heap.size W w8 from ⟨by rw [← HT.out]; exact hO3,(hB.alloc hz (.cells #[.int .i64 y] 3)).trans (hG2.Y4 (by rw [World.size_alloc]; omega) hlo)⟩)
     clear hO1 hO3 hG2 hB hlo HO k0 k1 h3;go_wp2_with fail;go_roundw
     case rel=>exact ⟨k+1,by omega,by go_num,hF.out⟩
     case measure=>simp [intOf]; omega
  ·rw [List.take_of_length_le (by rw [Vr]; simp only; have:=HG.out; omega)] at hO
   have hF:=hid (And.intro (hO.low hz0) (hb0.trans (hB.mono hz0)))
   clear hO hB;go_wp2_with fail;go_ret;exact ⟨⟨_,rfl,hF.out.1⟩,hF.out.2⟩
def flo (n:Int):Nat:=floatOfInt .f64 n
theorem Yd9 {x:Nat} (w:World) (h:(FloatKind.f64.format.order x x == some .eq)=true) :
  Calls Tryz.prog 88 #[.float .f64 x] w fun e w'=>e=.returned (.bool false)∧w=w':=by
 have h' : (FloatKind.f64.format.order x x != some .eq)=false:=by rw [bne,h]; rfl
 go_enter Tryz.func88,Tryz.ntmps88;go_wp2_with fail;go_ret;exact ⟨rfl,rfl⟩
def Ymh (a b:Int):Int:=if a<b then -1 else if b<a then 1 else 0
theorem Ycq {x y:Nat}{c:Int} (w:World) (ha:a.natAbs<2 ^ 53) (hb:b.natAbs<2 ^ 53) (hx:flo a=x) (hy:flo b=y) (hc:Ymh a b=c) :
  Calls Tryz.prog 58 #[.float .f64 x,.float .f64 y] w fun e w'=>e=.returned (.int .i64 c)∧w=w':=by
 have o1:=Ysp ha hb
 have o2:=Ysk ha hb
 have n1:=Ymt ha ha
 have n2:=Ymt hb hb
 rw [show floatOfInt .f64 a=x from hx] at o1 o2 n1
 rw [show floatOfInt .f64 b=y from hy] at o1 o2 n2
 rw [decide_eq_true rfl] at n1 n2;unfold Ymh at hc
 have N1:=hid (Yd9 w n1)
 have N2:=hid (Yd9 w n2)
 clear n1 n2 hx hy ha hb
 rcases Int.lt_trichotomy a b with h | h | h
 ·rw [decide_eq_true h] at o1
  rw [if_pos h] at hc;subst hc;clear o2 h;go_enter Tryz.func58,Tryz.ntmps58;go_wp2_with fail;refine N1.out.mono ?_;rintro e w2 ⟨rfl,rfl⟩;clear N1;go_wp2_with fail;refine N2.out.mono ?_;rintro e w2 ⟨rfl,rfl⟩;clear N2;go_wp2_with fail;go_ret;exact ⟨rfl,rfl⟩
 ·rw [decide_eq_false (by omega)] at o1 o2
  rw [if_neg (by omega),if_neg (by omega)] at hc
  subst hc;clear h;go_enter Tryz.func58,Tryz.ntmps58;go_wp2_with fail;refine N1.out.mono ?_;rintro e w2 ⟨rfl,rfl⟩;clear N1;go_wp2_with fail;refine N2.out.mono ?_;rintro e w2 ⟨rfl,rfl⟩;clear N2;go_wp2_with fail;go_ret;exact ⟨rfl,rfl⟩
 ·rw [decide_eq_false (by omega)] at o1
  rw [decide_eq_true h] at o2;rw [if_neg (by omega),if_pos h] at hc
  subst hc;clear h;go_enter Tryz.func58,Tryz.ntmps58;go_wp2_with fail;refine N1.out.mono ?_;rintro e w2 ⟨rfl,rfl⟩;clear N1;go_wp2_with fail;refine N2.out.mono ?_;rintro e w2 ⟨rfl,rfl⟩;clear N2;go_wp2_with fail;go_ret;exact ⟨rfl,rfl⟩
def orN (a b:Int):Int:=if a≠0 then a else b
theorem Yri {r:Int} (h:Yx w B A 2 c [a,b]) (hr:orN a b=r) :
  Calls Tryz.prog 57 #[.slice A 2 c] w fun e w'=>e=.returned (.int .i64 r)∧w=w':=by
 obtain ⟨g,o,x,rfl,_,g0,hx⟩:=h.at_ (k:=0) (by decide)
 obtain ⟨g',o',y,e,_,g1,hy⟩:=h.at_ (k:=1) (by decide)
 injection e with e
 injection e with e1 e2
 subst e1 e2;obtain rfl:x=a:=hx.out;obtain rfl:y=b:=hy.out;rw [Nat.add_zero] at g0
 have HR:=hid hr
 clear hx hy h hr;go_enter Tryz.func57,Tryz.ntmps57;go_wp2_with fail;go_loop [8] (fun i=>i=.int .i64 0∨(i=.int .i64 1∧Hid (x=0))∨(i=.int .i64 2∧Hid (x=0∧y=0))) (fun i=>2 - (intOf i).toNat)
 case atStart=>exact .inl rfl
 case round =>
  rcases hrel with rfl | ⟨rfl,hx⟩ | ⟨rfl,hx⟩
  ·by_cases h0:x=0
   ·have hx:=hid h0
    have q0:(x != 0)=false:=by rw [h0]; rfl
    clear h0;go_wp2_with fail;go_round
    case rel=>exact .inr (.inl ⟨rfl,hx⟩)
    case measure=>simp [intOf]
   ·have q0:(x != 0)=true:=by rw [bne_iff_ne]; exact h0
    have HE:Hid (x=r):=hid (by have:=HR.out; unfold orN at this; rwa [if_pos h0] at this)
    clear h0;go_wp2_with fail;go_ret;exact ⟨by rw [HE.out]; rfl,rfl⟩
  ·have HE:Hid (y=r):=hid (by have:=HR.out; unfold orN at this; rwa [if_neg (by rw [hx.out]; decide)] at this)
   by_cases h0:y=0
   ·have hy:=hid (And.intro hx.out h0)
    have q0:(y != 0)=false:=by rw [h0]; rfl
    clear h0 HE hx;go_wp2_with fail;go_round
    case rel=>exact .inr (.inr ⟨rfl,hy⟩)
    case measure=>simp [intOf]
   ·have q0:(y != 0)=true:=by rw [bne_iff_ne]; exact h0
    clear h0;go_wp2_with fail;go_ret;exact ⟨by rw [HE.out]; rfl,rfl⟩
  ·have HE:Hid (r=0):=hid (by have:=HR.out; unfold orN at this; rw [if_neg (by rw [hx.out.1]; decide),hx.out.2] at this; exact this.symm)
   go_wp2_with fail;go_ret;exact ⟨by rw [HE.out]; rfl,rfl⟩
def Yp3 (P:Prop) (w:World) (e:Ending) (w' : World):Prop:=∃ r:Int,e=.returned (.int .i64 r)∧(r<0↔P)∧Below w.heap.size w w'
theorem Ymf {a1 a2 b1 b2:Int}{x1 x2 y1 y2:Nat} (w:World) (ha1:a1.natAbs<2 ^ 53) (ha2:a2.natAbs<2 ^ 53) (hb1:b1.natAbs<2 ^ 53) (hb2:b2.natAbs<2 ^ 53) (hx1:flo a1=x1) (hx2:flo a2=x2) (hy1:flo b1=y1) (hy2:flo b2=y2) :
  Calls Tryz.prog 32 #[.complex .f64 x1 x2,.complex .f64 y1 y2] w (Yp3 (a1<b1∨(a1=b1∧a2<b2)) w):=by
 obtain ⟨c1,hc1⟩ : ∃ c,Ymh a1 b1=c:=⟨_,rfl⟩;obtain ⟨c2,hc2⟩ : ∃ c,Ymh a2 b2=c:=⟨_,rfl⟩;obtain ⟨r,hr⟩ : ∃ r,orN c1 c2=r:=⟨_,rfl⟩
 have H1:=hid (Ycq w ha1 hb1 hx1 hy1 hc1)
 have H2:=hid (Ycq w ha2 hb2 hx2 hy2 hc2)
 have HR:Hid (r<0↔a1<b1∨(a1=b1∧a2<b2)):=hid (by
  subst hr hc1 hc2;unfold orN Ymh
  split <;> split <;> (try split) <;> (try split) <;> omega)
 have HO:=hid (Yri (Yx.Yh9 w [c1,c2] #[.int .i64 c1,.int .i64 c2] rfl 3 (0,0) 2 rfl (by decide) w.heap.size rfl) hr)
 have HB:=hid (Ya w (.cells #[.int .i64 c1,.int .i64 c2] 3))
 clear hc1 hc2 hr ha1 ha2 hb1 hb2 hx1 hx2 hy1 hy2;go_enter Tryz.func32,Tryz.ntmps32;go_wp2_with fail;refine H1.out.mono ?_;rintro e w2 ⟨rfl,rfl⟩;clear H1;go_wp2_with fail;refine H2.out.mono ?_;rintro e w2 ⟨rfl,rfl⟩;clear H2;go_wp2_with fail;refine HO.out.mono ?_;rintro e w2 ⟨rfl,rfl⟩;clear HO;go_wp2_with fail;go_ret;exact ⟨r,rfl,HR.out,HB.out⟩
theorem Yoy {x y:Nat} (w:World) (ha:a.natAbs<2 ^ 53) (hy:flo a=y) :
  Calls Tryz.prog 30 #[.complex .f64 x y] w fun e w'=>e=.returned (.int .i64 a)∧w=w':=by
 have hv:=Yke ha
 rw [show floatOfInt .f64 a=y from hy] at hv
 have hc:∀ w,(convert 114 3 (.float .f64 y)).run Tryz.prog w=.ok (.int .i64 a) w:=fun w=>run_convert_float_int w 114 3 .f64 .i64 y a (by rw [Tryz.underlying114]; rfl) Tryz.underlying3 hv
 clear hv hy;go_enter Tryz.func30,Tryz.ntmps30;go_wp2_with (simp only [hc])
 all_goals (go_ret; exact ⟨rfl,rfl⟩)
def cpx (cnt:Int→Nat) (u:Int):Value:=.complex .f64 (flo (cnt u:Nat)) (flo u)
def Ke (cnt:Int→Nat):ElT Int:=fun _ _ us u=>us=[cpx cnt u]
theorem R1 : (Ke cnt).Ok:=fun _ _ _ _ _ _ _ h=>h
theorem Row.atC {L:List Int} (h:Row (Ke cnt) 1 w S A n c L) (hk:k<n):∃ b o u,A=some ⟨b,o,none⟩∧w.cell? ⟨b,o+k,none⟩=some (cpx cnt u)∧Hid (L[k]?=some u):=by
 obtain ⟨b,o,us,x,h1,_,_,_,h5,rfl,h7⟩:=h.at_ hk;refine ⟨b,o,x,h1,?_,h7⟩
 have:=h5 0 _ rfl
 rwa [Nat.mul_one,Nat.add_zero] at this
def Yp6 (cnt:Int→Nat) (L:List Int) (w:World) (e:Ending) (w' : World):Prop:=∃ v:Int,e=.returned (cpx cnt v)∧Va cnt L v∧Below w.heap.size w w'
theorem Yon {L:List Int} (h:Row (Ke cnt) 1 w S A n c L) (hr:L.Pairwise (·<·)) (hb:∀ u∈L,cnt u≤1000000∧0≤u∧u≤1000000) (hn:0<n) :
  Calls Tryz.prog 31 #[.slice A n c,.func (.func 32) #[] #[]] w (Yp6 cnt L w):=by
 have hmx:=h.Yn
 have HL:=hid h.len
 have HRi:=hid hr
 have HBd:=hid hb
 have HRow:=hid h
 have hn1:¬ (n:Int)<1:=by omega
 have i00:(0:Int)<(n:Int):=by omega
 obtain ⟨b,o,u0,rfl,g0,hu0⟩:=h.atC hn;rw [Nat.add_zero] at g0
 have hbest:Hid (Va cnt (L.take 1) u0):=hid (by rw [← Z4 hu0.out,List.take_zero]; exact Cc cnt u0)
 obtain ⟨m0,hm0⟩ : ∃ m,Hid (cpx cnt u0=m):=⟨_,hid rfl⟩;rw [hm0.out] at g0;clear h hr hb hu0;go_enter Tryz.func31,Tryz.ntmps31;go_wp2_with fail;go_loopw [5,6] (fun m i wr=>∃ (k:Nat) (v:Int),1≤k∧k≤n∧i=.int .i64 k∧m=cpx cnt v∧Hid (Va cnt (L.take k) v)∧Below w.heap.size w wr) (fun _ i _=>n - (intOf i).toNat)
 case atStart=>exact ⟨1,u0,Nat.le_refl _,hn,rfl,hm0.out.symm,hbest,Below.refl _ _⟩
 case round =>
  clear g0 hbest hm0;obtain ⟨k,v,hk1,hk,rfl,rfl,hB,hb⟩:=hrel
  by_cases hlt:k<n
  ·obtain ⟨b',o',u,e,g1,hu⟩:=(HRow.out.mv R1 (Mv.Yc hb S)).atC hlt
   injection e with e
   injection e with e1 e2
   subst e1 e2
   have i0:(0:Int)≤(k:Int):=by omega
   have i1:(k:Int)<(n:Int):=by omega
   have hu1:=HBd.out u (List.mem_of_getElem? hu.out)
   have hv1:=HBd.out v (List.mem_of_mem_take hB.out.1)
   have hab:=E7 HRi.out hu.out hB.out.1
   obtain ⟨fu,hfu⟩ : ∃ fu,flo (cnt u:Nat)=fu:=⟨_,rfl⟩;obtain ⟨gu,hgu⟩ : ∃ gu,flo u=gu:=⟨_,rfl⟩;obtain ⟨fv,hfv⟩ : ∃ fv,flo (cnt v:Nat)=fv:=⟨_,rfl⟩;obtain ⟨gv,hgv⟩ : ∃ gv,flo v=gv:=⟨_,rfl⟩
   have HC:=hid (Ymf (a1:=(cnt u:Nat)) (a2:=u) (b1:=(cnt v:Nat)) (b2:=v) wr (by omega) (by omega) (by omega) (by omega) hfu hgu hfv hgv)
   have eu:Hid (cpx cnt u=.complex .f64 fu gu):=hid (by unfold cpx; rw [hfu,hgu])
   have ev:Hid (cpx cnt v=.complex .f64 fv gv):=hid (by unfold cpx; rw [hfv,hgv])
   rw [eu.out] at g1;rw [ev.out]
   have KG:Hid (∀ z,Below wr.heap.size wr z→z.cell? ⟨b,o+k,none⟩=some (.complex .f64 fu gu)):=hid fun z hz=>by
    obtain ⟨b',o',u',e,g1',hu'⟩:=(HRow.out.mv R1 (Mv.Yc (hb.trans (hz.mono hb.size)) S)).atC hlt;injection e with e
    injection e with e1 e2
    subst e1 e2
    have e3:u'=u:=by have h1:=hu'.out; rw [hu.out] at h1; injection h1 with h1; exact h1.symm
    rw [e3,eu.out] at g1';exact g1'
   clear hfu hgu hfv hgv
   by_cases hc:cnt u<cnt v
   ·have HN:Hid (Va cnt (L.take (k+1)) u):=hid (by rw [← Z4 hu.out]; exact hB.out.less hc)
    clear hu1 hv1 hab;go_wp2_with fail;refine HC.out.mono ?_;rintro e w2 ⟨r,rfl,hr,hb2⟩
    have r0:r<0:=hr.2 (.inl (by omega))
    have g2:=KG.out w2 hb2
    have hB2:=hid (hb.trans (hb2.mono hb.size))
    clear HC hr hc g1 hb hb2;go_wp2_with fail;go_roundw
    case rel=>exact ⟨k+1,u,by omega,by omega,by go_num,eu.out.symm,HN,hB2.out⟩
    case measure=>simp [intOf]; omega
   ·have HN:Hid (Va cnt (L.take (k+1)) v):=hid (by rw [← Z4 hu.out]; exact hB.out.Vj hc (by omega))
    have hnot:Hid (¬ (((cnt u:Nat):Int)<((cnt v:Nat):Int)∨(((cnt u:Nat):Int)=((cnt v:Nat):Int)∧u<v))):=hid (by omega)
    clear hu1 hv1 hab hc;go_wp2_with fail;refine HC.out.mono ?_;rintro e w2 ⟨r,rfl,hr,hb2⟩
    have r0:¬ r<0:=fun h=>hnot.out (hr.1 h)
    have hB2:=hid (hb.trans (hb2.mono hb.size))
    clear HC hr g1 hb hb2;go_wp2_with fail;go_roundw
    case rel=>exact ⟨k+1,v,by omega,by omega,by go_num,ev.out.symm,HN,hB2.out⟩
    case measure=>simp [intOf]; omega
  ·obtain rfl:k=n:=by omega
   have hF:Hid (Va cnt L v):=hid (by have:=hB.out; rwa [List.take_of_length_le (by rw [HL.out]; exact Nat.le_refl _)] at this)
   have hb3:=hid hb
   obtain ⟨mv,hmv⟩ : ∃ m,Hid (cpx cnt v=m):=⟨_,hid rfl⟩;rw [hmv.out];clear hb hB;go_wp2_with fail;go_ret;exact ⟨v,by rw [hmv.out]; rfl,hF.out,hb3.out⟩
theorem Cq {q:Qry}{nd:List Int}{N:Nat} (hm:Wk D M V q=0) (hd:Xa q=nd) (hN:(Ye D V).length=N):Yft D M V q=R0 (Ye D V) nd N:=by
 rw [Tp hm];unfold Vd;rw [hd,hN]
theorem N8 {q:Qry} 
  (hs:Tx w w.heap.size B1 m1 d1 B2 m2 d2 B3 m3 d3 D M V) (hn1:m1≤1000) (hn3:m3≤1000) (hq:V0 w S A1 n1 c1 A2 n2 c2 q) :
  Calls Tryz.prog 10 #[V6 B1 m1 d1 B2 m2 d2 B3 m3 d3,O4 A1 n1 c1 A2 n2 c2] w (Yfc w (Wk D M V q) (Yft D M V q)):=by
 obtain ⟨hb0,hbs,hbl⟩:=Sw w 26 30 #[.slice B1 m1 d1,.slice B2 m2 d2,.slice B3 m3 d3] #[.slice A1 n1 c1,.slice A2 n2 c2]
 have h0:=hq.Yc hb0
 have hs0:=hs.Yc hb0
 have HC:=hid (Yem hs0 hn1 hn3 h0)
 have HV3:=hid hs.v.len
 clear hs hq;obtain ⟨x,hx⟩ : ∃ x,Hid (Wk D M V q=x):=⟨_,hid rfl⟩;rw [hx.out] at HC ⊢;go_enter Tryz.func10,Tryz.ntmps10;go_wp2_with fail;generalize (w.alloc (.cells #[.slice B1 m1 d1,.slice B2 m2 d2,.slice B3 m3 d3] 26)).alloc (.cells #[.slice A1 n1 c1,.slice A2 n2 c2] 30)=W at hb0 hbl hbs h0 hs0 HC ⊢
 have s0:W.cell? ⟨w.heap.size,0,none⟩=some (.slice B1 m1 d1):=hbs.cell 0
 have s1:W.cell? ⟨w.heap.size,1,none⟩=some (.slice B2 m2 d2):=hbs.cell 1
 have s2:W.cell? ⟨w.heap.size,2,none⟩=some (.slice B3 m3 d3):=hbs.cell 2
 have k0:W.cell? ⟨w.heap.size+1,0,none⟩=some (.slice A1 n1 c1):=hbl.cell 0
 have k1:W.cell? ⟨w.heap.size+1,1,none⟩=some (.slice A2 n2 c2):=hbl.cell 1
 have hz0:=hb0.size
 go_wp2_with fail;refine HC.out.mono ?_;rintro e w2 ⟨rfl,hb2⟩
 have hbs2:=hbs.below hb2 hbs.lt
 have hbl2:=hbl.below hb2 hbl.lt
 have hB2:=hb0.trans (hb2.mono hz0)
 have h2:=h0.Yc hb2
 have hs2:=hs0.Yc hb2
 clear HC s0 s1 s2 k0 k1 hbs hbl hs0 h0 hb2 hb0
 by_cases hx0:x=0
 ·subst hx0
  have hg3:n1≤3:=by have h3:=(Wv hx.out).2.2.1; have h4:=h2.g.len; omega
  have HND:=hid (Ybj h2 (by omega))
  have k0:w2.cell? ⟨w.heap.size+1,0,none⟩=some (.slice A1 n1 c1):=hbl2.cell 0
  have k1:w2.cell? ⟨w.heap.size+1,1,none⟩=some (.slice A2 n2 c2):=hbl2.cell 1
  obtain ⟨nd,hnd⟩ : ∃ nd,Hid (Xa q=nd):=⟨_,hid rfl⟩;rw [hnd.out] at HND;go_wp2_with fail;refine HND.out.mono ?_;rintro e w3 ⟨⟨v3,rfl,hO3⟩,hb3⟩;obtain ⟨An,nn,cn,rfl,hN3,_⟩:=hO3.Yu
  have hbs3:=hbs2.below hb3 hbs2.lt
  have hB3:=hB2.trans (hb3.mono hB2.size)
  have hs3:=hs2.Yc hb3
  have HVW:=hid (Se hs3 hn1 hn3)
  have s0:w3.cell? ⟨w.heap.size,0,none⟩=some (.slice B1 m1 d1):=hbs3.cell 0
  have s1:w3.cell? ⟨w.heap.size,1,none⟩=some (.slice B2 m2 d2):=hbs3.cell 1
  have s2:w3.cell? ⟨w.heap.size,2,none⟩=some (.slice B3 m3 d3):=hbs3.cell 2
  clear HND k0 k1 hO3 hb3 hB2 hbs2 hbl2 h2 hs2;go_wp2_with fail;refine HVW.out.mono ?_;rintro e w4 ⟨⟨Av,cv,rfl,hL⟩,hb4⟩
  have hB4:=hB3.trans (hb4.mono hB3.size)
  have hN4:=hN3.Yc hb4
  obtain ⟨N,hN,hN2⟩ : ∃ N,Hid ((Ye D V).length=N)∧N≤1001:=⟨_,hid rfl,by have:=HV3.out; simp [Ye]; omega⟩
  have HCV:=hid (Cq hx.out hnd.out hN.out)
  rw [hN.out] at hL ⊢
  have hz4:=hB4.size
  clear HVW s0 s1 s2 hN3 hs3 hbs3 hb4 hB3;go_wp2_with fail;go_loopw [9,10] (fun v i wr=>∃ k:Nat,k≤N∧i=.int .i64 k∧Yf wr w4.heap.size v (R0 (Ye D V) nd k)∧Below w4.heap.size w4 wr) (fun _ i _=>N - (intOf i).toNat)
  case atStart=>exact ⟨0,Nat.zero_le _,rfl,Yf.Zj _ _,Below.refl _ _⟩
  case round =>
   obtain ⟨k,hk,rfl,hO,hB⟩:=hrel
   by_cases hlt:k<N
   ·obtain ⟨b',o,A',n',c',l,rfl,hbb,g0,hl,he⟩:=(hL.below hB (Nat.le_refl _)).at_ hlt
    have i0:(0:Int)≤(k:Int):=by omega
    have i1:(k:Int)<(N:Int):=by omega
    have HE:=hid (D0 hl (hN4.below hB (Nat.le_refl _)))
    have hlb:Hid ((R0 (Ye D V) nd k).length≤1000000):=hid (Nat.le_trans (Mp _ _ _) (by omega))
    by_cases hc:Xh l nd
    ·rw [decide_eq_true hc] at HE
     have HT:=hid (Pn (by rw [← he.out]; exact hc))
     clear hc hl;go_wp2_with fail;refine HE.out.mono ?_;rintro e w5 ⟨rfl,t,rfl⟩
     have hO1:=(hO.drewN t).alloc (.cells #[.int .i64 k] 3)
     have hlo:=fun g e=>(hO.lt g e).1
     have hBt:=below_drewN hB t
     have hsz:=hBt.size
     clear HE;go_wp2_with (at_builtin; refine Y9 rfl _ _ rfl w4.heap.size _ _ rfl hO1 _ rfl (k:Int) (Zs _ _ _ _ (by simp)) hlb.out (by rw [World.size_alloc]; omega) ?_)
     intro v' w8 hO3 hG2
     have hF:=hid (show Yf w8 w4.heap.size v' (R0 (Ye D V) nd (k+1))∧Below w4.heap.size w4 w8 from ⟨by rw [HT.out]; exact hO3,(hBt.alloc hsz (.cells #[.int .i64 k] 3)).trans (hG2.Y4 (by rw [World.size_alloc]; omega) hlo)⟩)
     clear hO hO1 hO3 hG2 hB hlo hBt;go_wp2_with fail;go_roundw
     case rel=>exact ⟨k+1,by omega,by go_num,hF.out⟩
     case measure=>simp [intOf]; omega
    ·rw [decide_eq_false hc] at HE
     have HT:=hid (Hq (L:=Ye D V) (v:=nd) (k:=k) (by rw [← he.out]; exact hc))
     clear hc hl;go_wp2_with fail;refine HE.out.mono ?_;rintro e w5 ⟨rfl,t,rfl⟩
     have hF:=hid (And.intro (hO.drewN t) (below_drewN hB t))
     clear HE hO hB;go_wp2_with fail;go_roundw
     case rel=>exact ⟨k+1,by omega,by go_num,by rw [HT.out]; exact hF.out.1,hF.out.2⟩
     case measure=>simp [intOf]; omega
   ·obtain rfl:k=N:=by omega
    rw [← HCV.out] at hO
    have hF:=hid (And.intro (hO.low hz4) (hB4.trans (hB.mono hz4)))
    clear hO hB;go_wp2_with fail;go_ret2;exact ⟨_,rfl,hF.out⟩
 ·have hx1:((x:Int) != 0)=true:=by simp; omega
  have HCV:Hid (Yft D M V q=[]):=hid (Yau (by rw [hx.out]; exact hx0))
  clear hx0;go_wp2_with fail;go_ret2;exact ⟨_,rfl,by rw [HCV.out]; exact Yf.Zj _ _,hB2⟩
theorem Ve {q:Qry} 
  (hs:Tx w w.heap.size B1 m1 d1 B2 m2 d2 B3 m3 d3 D M V) (hf:Sq D) (hm:∀ s∈M,s.length≤maxLen) (hn1:m1≤1000) (hn3:m3≤1000) (hq:V0 w S A1 n1 c1 A2 n2 c2 q) :
  Calls Tryz.prog 9 #[V6 B1 m1 d1 B2 m2 d2 B3 m3 d3,O4 A1 n1 c1 A2 n2 c2] w (Yfc w (Wk D M V q) (Yft D M V q)):=by
 obtain ⟨hb0,hbs,hbl⟩:=Sw w 26 30 #[.slice B1 m1 d1,.slice B2 m2 d2,.slice B3 m3 d3] #[.slice A1 n1 c1,.slice A2 n2 c2]
 have h0:=hq.Yc hb0
 have hs0:=hs.Yc hb0
 have HC:=hid (Yot hs0 hf hm hn1 h0)
 have HV3:=hid hs.v.len
 clear hs hq;obtain ⟨x,hx⟩ : ∃ x,Hid (Wk D M V q=x):=⟨_,hid rfl⟩;rw [hx.out] at HC ⊢;go_enter Tryz.func9,Tryz.ntmps9;go_wp2_with fail;generalize (w.alloc (.cells #[.slice B1 m1 d1,.slice B2 m2 d2,.slice B3 m3 d3] 26)).alloc (.cells #[.slice A1 n1 c1,.slice A2 n2 c2] 30)=W at hb0 hbl hbs h0 hs0 HC ⊢
 have s0:W.cell? ⟨w.heap.size,0,none⟩=some (.slice B1 m1 d1):=hbs.cell 0
 have s1:W.cell? ⟨w.heap.size,1,none⟩=some (.slice B2 m2 d2):=hbs.cell 1
 have s2:W.cell? ⟨w.heap.size,2,none⟩=some (.slice B3 m3 d3):=hbs.cell 2
 have k0:W.cell? ⟨w.heap.size+1,0,none⟩=some (.slice A1 n1 c1):=hbl.cell 0
 have k1:W.cell? ⟨w.heap.size+1,1,none⟩=some (.slice A2 n2 c2):=hbl.cell 1
 have hz0:=hb0.size
 go_wp2_with fail;refine HC.out.mono ?_;rintro e w2 ⟨v2,rfl,hO2,hb2⟩
 have hbs2:=hbs.below hb2 hbs.lt
 have hbl2:=hbl.below hb2 hbl.lt
 have hB2:=hb0.trans (hb2.mono hz0)
 have h2:=h0.Yc hb2
 have hs2:=hs0.Yc hb2
 clear HC s0 s1 s2 k0 k1 hbs hbl hs0 h0 hb2 hb0
 by_cases hx0:x=0
 ·subst hx0
  obtain ⟨nd,hnd⟩ : ∃ nd,Hid (Xa q=nd):=⟨_,hid rfl⟩;rw [show Yea D M V q=Xa q from if_pos hx.out,hnd.out] at hO2
  have hVs:∀ l∈V,l.length≤1000:=fun l hl=>by
   have h1:=(Wv hx.out).1
   have h2:=(h1.2.2.2.1 l hl).1
   have h3:=h1.1.2.2.1
   rw [List.length_map] at h3;omega
  obtain ⟨An,nn,cn,rfl,hN3,_⟩:=hO2.Yu
  have HVW:=hid (Jf hs2 hn1 hn3 hVs)
  have s0:w2.cell? ⟨w.heap.size,0,none⟩=some (.slice B1 m1 d1):=hbs2.cell 0
  have s1:w2.cell? ⟨w.heap.size,1,none⟩=some (.slice B2 m2 d2):=hbs2.cell 1
  have s2:w2.cell? ⟨w.heap.size,2,none⟩=some (.slice B3 m3 d3):=hbs2.cell 2
  clear hO2 hbl2 h2 hVs;go_wp2_with fail;refine HVW.out.mono ?_;rintro e w4 ⟨⟨v4,rfl,hOL⟩,hb4⟩;obtain ⟨Av,cv,rfl,hL⟩:=hOL.form
  have hB4:=hB2.trans (hb4.mono hB2.size)
  have hN4:=hN3.Yc hb4
  obtain ⟨N,hN,hN2⟩ : ∃ N,Hid ((Ye D V).length=N)∧N≤1001:=⟨_,hid rfl,by have:=HV3.out; simp [Ye]; omega⟩
  have HCV:=hid (Cq hx.out hnd.out hN.out)
  rw [hN.out] at hL ⊢
  have hz4:=hB4.size
  clear HVW s0 s1 s2 hN3 hs2 hbs2 hb4 hB2 hOL;go_wp2_with fail;go_loopw [8,23] (fun v i wr=>∃ k:Nat,k≤N∧i=.int .i64 k∧Yf wr w4.heap.size v (R0 (Ye D V) nd k)∧Below w4.heap.size w4 wr) (fun _ i _=>N - (intOf i).toNat)
  case atStart=>exact ⟨0,Nat.zero_le _,rfl,Yf.Zj _ _,Below.refl _ _⟩
  case round =>
   obtain ⟨k,hk,rfl,hO,hB⟩:=hrel
   by_cases hlt:k<N
   ·obtain ⟨b',o,A',n',c',l,rfl,hbb,g0,hl,he⟩:=(hL.below hB (Nat.le_refl _)).at_ hlt
    have i0:(0:Int)≤(k:Int):=by omega
    have i1:(k:Int)<(N:Int):=by omega
    have HE:=hid (Yfu hl (hN4.below hB (Nat.le_refl _)))
    have hlb:Hid ((R0 (Ye D V) nd k).length≤1000000):=hid (Nat.le_trans (Mp _ _ _) (by omega))
    by_cases hc:Xh l nd
    ·rw [decide_eq_true hc] at HE
     have HT:=hid (Pn (by rw [← he.out]; exact hc))
     clear hc hl;go_wp2_with fail;refine HE.out.mono ?_;rintro e w5 ⟨rfl,t,rfl⟩
     have hO1:=(hO.drewN t).alloc (.cells #[.int .i64 k] 3)
     have hlo:=fun g e=>(hO.lt g e).1
     have hBt:=below_drewN hB t
     have hsz:=hBt.size
     clear HE;go_wp2_with (at_builtin; refine Y9 rfl _ _ rfl w4.heap.size _ _ rfl hO1 _ rfl (k:Int) (Zs _ _ _ _ (by simp)) hlb.out (by rw [World.size_alloc]; omega) ?_)
     intro v' w8 hO3 hG2
     have hF:=hid (show Yf w8 w4.heap.size v' (R0 (Ye D V) nd (k+1))∧Below w4.heap.size w4 w8 from ⟨by rw [HT.out]; exact hO3,(hBt.alloc hsz (.cells #[.int .i64 k] 3)).trans (hG2.Y4 (by rw [World.size_alloc]; omega) hlo)⟩)
     clear hO hO1 hO3 hG2 hB hlo hBt;go_wp2_with fail;go_roundw
     case rel=>exact ⟨k+1,by omega,by go_num,hF.out⟩
     case measure=>simp [intOf]; omega
    ·rw [decide_eq_false hc] at HE
     have HT:=hid (Hq (L:=Ye D V) (v:=nd) (k:=k) (by rw [← he.out]; exact hc))
     clear hc hl;go_wp2_with fail;refine HE.out.mono ?_;rintro e w5 ⟨rfl,t,rfl⟩
     have hF:=hid (And.intro (hO.drewN t) (below_drewN hB t))
     clear HE hO hB;go_wp2_with fail;go_roundw
     case rel=>exact ⟨k+1,by omega,by go_num,by rw [HT.out]; exact hF.out.1,hF.out.2⟩
     case measure=>simp [intOf]; omega
   ·obtain rfl:k=N:=by omega
    rw [← HCV.out] at hO
    have hF:=hid (And.intro (hO.low hz4) (hB4.trans (hB.mono hz4)))
    clear hO hB;go_wp2_with fail;go_ret2;exact ⟨_,rfl,hF.out⟩
 ·have hx1:((x:Int) != 0)=true:=by simp; omega
  have HCV:Hid (Yft D M V q=[]):=hid (Yau (by rw [hx.out]; exact hx0))
  clear hx0;go_wp2_with fail;go_ret2;exact ⟨_,rfl,by rw [HCV.out]; exact Yf.Zj _ _,hB2⟩
theorem Yrh (d v:Int) (A:Option Addr) (n c:Nat):∀ u∈[Value.int .i64 d,Value.int .i64 v,Value.slice A n c],u.oneCell'=true:=by
 intro u hu;simp at hu
 rcases hu with rfl | rfl | rfl <;> rfl
theorem Ydd:(Tryz.prog.info? 86).map (fun i=>(i.zero,i.size,i.bytes))=some (some (.agg #[.int .i64 0,.int .i64 0,.slice none 0 0]),3,40):=by kernel_rfl
theorem Yde:(Tryz.prog.info? 30).map (·.size)=some 2:=by kernel_rfl
theorem V0.Uw {q:Qry} (h:V0 w S A1 n1 c1 A2 n2 c2 q) (j k:Nat):V0 w S A1 (min n1 j) c1 A2 (min n2 k) c2 (q.1.take j,q.2.take k):=⟨h.g.Uw j,h.f.Uw k⟩
theorem Yhs (w:World) (x1 x2:Value):Block ((w.alloc (.cells #[x1,x2] 30)).alloc (.cells #[.slice none 0 0,.slice none 0 0] 30)) w.heap.size 30 #[x1,x2]∧Block ((w.alloc (.cells #[x1,x2] 30)).alloc (.cells #[.slice none 0 0,.slice none 0 0] 30)) (w.heap.size+1) 30 #[.slice none 0 0,.slice none 0 0]∧Below w.heap.size w ((w.alloc (.cells #[x1,x2] 30)).alloc (.cells #[.slice none 0 0,.slice none 0 0] 30)):=by
 have hbr:=Block.new (w.alloc (.cells #[x1,x2] 30)) 30 #[.slice none 0 0,.slice none 0 0]
 rw [show (w.alloc (.cells #[x1,x2] 30)).heap.size=w.heap.size+1 by simp] at hbr
 exact ⟨(Block.new w 30 #[x1,x2]).alloc _,hbr,Yb (Ya w _) (Ya _ _)⟩
def Yp5 (w:World) (A1:Option Addr) (n1 c1:Nat) (A2:Option Addr) (n2 c2:Nat) (e:Ending) (w' : World):Prop:=e=.returned (O4 A1 (min n1 6) c1 A2 (min n2 5) c2)∧Below w.heap.size w w'
theorem Oi {q:Qry} (hq:V0 w S B1 m1 d1 B2 m2 d2 q) :
  Calls Tryz.prog 8 #[O4 B1 m1 d1 B2 m2 d2] w (Yp5 w B1 m1 d1 B2 m2 d2):=by
 have l1:=hq.g.Yn
 have l2:=hq.f.Yn
 have q1:=hq.g.cap
 have q2:=hq.f.cap
 have p1:=hq.g.Z1
 have p2:=hq.f.Z1
 clear hq;obtain ⟨hbl,hbr,hb1⟩:=Yhs w (.slice B1 m1 d1) (.slice B2 m2 d2);go_enter Tryz.func8,Tryz.ntmps8
 have k0:((w.alloc (.cells #[.slice B1 m1 d1,.slice B2 m2 d2] 30)).alloc (.cells #[.slice none 0 0,.slice none 0 0] 30)).cell? ⟨w.heap.size,0,none⟩=some (.slice B1 m1 d1):=hbl.cell 0
 go_upto_if 6 with fail
 go_cut [6] (fun _ wx=>Block wx w.heap.size 30 #[.slice B1 (min m1 6) d1,.slice B2 m2 d2]∧Block wx (w.heap.size+1) 30 #[.slice none 0 0,.slice none 0 0]∧Below w.heap.size w wx)
 case first =>
  have fr:=hbl.free 0
  by_cases h:(6:Int)<(m1:Int)
  ·have h2:(6:Int)≤(d1:Int):=by omega
   have e:min m1 6=6:=by omega
   have hN:=hid (Yhs w (.slice B1 6 d1) (.slice B2 m2 d2))
   go_wp2_with fail;go_meet;exact by rw [e]; exact hN.out
  ·have e:min m1 6=m1:=by omega
   have hN:=hid (show Block ((w.alloc (.cells #[.slice B1 m1 d1,.slice B2 m2 d2] 30)).alloc (.cells #[.slice none 0 0,.slice none 0 0] 30)) w.heap.size 30 #[.slice B1 (min m1 6) d1,.slice B2 m2 d2] from by rw [e]; exact hbl)
   go_wp2_with fail;go_meet;exact ⟨hN.out,hbr,hb1⟩
 case rest =>
  obtain ⟨k1,r1,b1⟩:=hcut;obtain ⟨wp1,rfl⟩ : ∃ wp1,wp1=wc:=⟨_,rfl⟩
  have k0:wp1.cell? ⟨w.heap.size,1,none⟩=some (.slice B2 m2 d2):=k1.cell 1
  go_upto_if 14 with fail
  go_cut [14] (fun _ wx=>Block wx w.heap.size 30 #[.slice B1 (min m1 6) d1,.slice B2 (min m2 5) d2]∧Block wx (w.heap.size+1) 30 #[.slice none 0 0,.slice none 0 0]∧Below w.heap.size w wx)
  case first =>
   have fr:=k1.free 1
   by_cases h:(5:Int)<(m2:Int)
   ·have h2:(5:Int)≤(d2:Int):=by omega
    have e:min m2 5=5:=by omega
    have hN:=hid (show Block (wp1.setCell ⟨w.heap.size,1,none⟩ (.slice B2 5 d2)) w.heap.size 30 #[.slice B1 (min m1 6) d1,.slice B2 (min m2 5) d2]∧Block (wp1.setCell ⟨w.heap.size,1,none⟩ (.slice B2 5 d2)) (w.heap.size+1) 30 #[.slice none 0 0,.slice none 0 0]∧Below w.heap.size w (wp1.setCell ⟨w.heap.size,1,none⟩ (.slice B2 5 d2)) from
     ⟨by rw [e]; exact k1.Yo 1 _,r1.Yl w.heap.size 1 _ (by omega),b1.setCell (p:=⟨w.heap.size,1,none⟩) (Nat.le_refl _) _⟩)
    go_wp2_with fail;go_meet;exact hN.out
   ·have e:min m2 5=m2:=by omega
    have hN:=hid (show Block wp1 w.heap.size 30 #[.slice B1 (min m1 6) d1,.slice B2 (min m2 5) d2] from by rw [e]; exact k1)
    go_wp2_with fail;go_meet;exact ⟨hN.out,r1,b1⟩
  case rest =>
   obtain ⟨k3,r3,b3⟩:=hcut;obtain ⟨wp3,rfl⟩ : ∃ wp3,wp3=wc:=⟨_,rfl⟩
   have c0:wp3.cell? ⟨w.heap.size,0,none⟩=some (.slice B1 (min m1 6) d1):=k3.cell 0
   have z0:wp3.cell? ⟨w.heap.size+1,0,none⟩=some (.slice none 0 0):=r3.cell 0
   have y0:=r3.free 0
   have c1:wp3.cell? ⟨w.heap.size,1,none⟩=some (.slice B2 (min m2 5) d2):=k3.cell 1
   have z1:wp3.cell? ⟨w.heap.size+1,1,none⟩=some (.slice none 0 0):=r3.cell 1
   have y1:=r3.free 1
   have HR:=hid ((r3.Yo 0 (.slice B1 (min m1 6) d1)).Yo 1 (.slice B2 (min m2 5) d2))
   have HB:=hid ((b3.setCell (p:=⟨w.heap.size+1,0,none⟩) (Nat.le_succ _) (.slice B1 (min m1 6) d1)).setCell (p:=⟨w.heap.size+1,1,none⟩) (Nat.le_succ _) (.slice B2 (min m2 5) d2))
   go_wp2_with fail;refine bodyPost_ret (Za rfl _ _ (w.heap.size+1) _ _ rfl HR.out Tryz.underlying30 rfl Yde) rfl ?_;exact ⟨rfl,HB.out⟩
theorem Ux.one {l:List Int} (h:Row Yr 1 w S A n c l) (T:TypeId):Ux (w.alloc (.cells #[.slice A n c] T)) (w.alloc (.cells #[.slice A n c] T)).heap.size (some ⟨w.heap.size,0,none⟩) 1 1 [l] :=
 ⟨rfl,Nat.le_refl _,by unfold maxLen; omega,(fun h=>by cases h),fun i hi=>by
  obtain rfl:i=0:=by omega
  exact ⟨w.heap.size,0,A,n,c,rfl,by simp,by rw [Zk]; rfl,(h.mv Yh (Mv.alloc w (.cells #[.slice A n c] T) S)).Qr⟩⟩
theorem Yca {l:List Int} (m:Int) (h:Row Yr 1 w S A n c l) {r:Bool}(hr:r=true↔0≤m∧m≤2∧isVal m l) :
  Calls Tryz.prog 100 #[.int .i64 m,.slice A n c] w fun e w'=>e=.returned (.bool r)∧Below w.heap.size w w':=by
 have HF:=hid (Yc6 m (Ux.one h 27) (by decide))
 have hb0:=Ya w (.cells #[.slice A n c] 27)
 obtain ⟨⟨x,e⟩,hxe⟩ : ∃ x,Hid (Wn m [l]=x):=⟨_,hid rfl⟩;rw [hxe.out] at HF
 have hv:=Yf9 m l
 rw [hxe.out] at hv
 have he:(e == 0)=r:=by
  rw [Bool.eq_iff_iff,hr,← hv];simp
 have HE:=hid he
 clear h hr hv he;go_enter Tryz.func100,Tryz.ntmps100;go_wp2_with fail;generalize w.alloc (.cells #[.slice A n c] 27)=W at HF hb0 ⊢;refine HF.out.mono ?_;rintro e' w2 hT;obtain ⟨A1,n1,c1,A2,n2,c2,A3,n3,c3,rfl,_,hb2⟩:=hT.toH.of (n:=x.1) (S:=x.2.1) (M:=x.2.2.1) (X:=x.2.2.2) rfl
 have hb3:=Yb hb0 hb2
 have hb4:=hid (Yb hb3 (Ya w2 (.cells #[.int .i64 x.1,.slice A1 n1 c1,.slice A2 n2 c2,.slice A3 n3 c3] 105)))
 clear HF hb0 hb2 hb3 hT;go_wp2_with fail;go_ret;exact ⟨by rw [← HE.out]; rfl,hb4.out⟩
/-! ### amiss -/
def Nc (ok:Fct→Prop) [DecidablePred ok] (L:List Fct) (k:Nat):Nat:=if ∃ f∈L.take k,¬ ok f then 12 else 0
theorem Ygn (ok:Fct→Prop) [DecidablePred ok] (L:List Fct):Nc ok L 0=0:=by unfold Nc; rw [if_neg]; rintro ⟨f,hf,_⟩; simp at hf
theorem Ykt [DecidablePred ok] {L:List Fct}{k:Nat}{f:Fct}(h:L[k]?=some f) (ho:ok f):Nc ok L (k+1)=Nc ok L k:=by
 unfold Nc;rw [List.take_add_one,h]
 congr 1
 simp [ho]
theorem Yoq [DecidablePred ok] {L:List Fct}{k:Nat}{f:Fct}(h:L[k]?=some f) (ho:¬ ok f):Nc ok L (k+1)=12:=by
 unfold Nc;rw [List.take_add_one,h,if_pos];exact ⟨f,by simp,ho⟩
theorem Yks [DecidablePred ok] {L:List Fct}{k least:Nat}(hk:L.length≤k) (h:¬ (L.length<least∨8<L.length)):Ug L least ok=Nc ok L k:=by
 unfold Ug Nc;rw [if_neg h,List.take_of_length_le hk]
theorem Yiz (h:Tj w S A n c L) (least:Nat) (fid:Nat) (lb:Array Value) (ok:Fct→Prop) [DecidablePred ok]
  (eg:∀ args W,(callFunc fid args).run Tryz.prog W=.ok (.enter fid args) W)
  (HF:∀ p q,(p,q)∈L→∀ W S' A1 n1 c1 A2 n2 c2,Below w.heap.size w W→Row (Zf Yy 1) 1 W S' A1 n1 c1 p→Row Yr 1 W S' A2 n2 c2 q →
   Calls Tryz.prog fid (#[.agg #[.slice A1 n1 c1,.slice A2 n2 c2]]++lb) W fun e w'=>e=.returned (.bool (decide (ok (p,q))))∧Below W.heap.size W w') :
  Calls Tryz.prog 71 #[.slice A n c,.int .i64 least,.func (.func fid) #[] lb] w fun e w'=>e=.returned (.int .i64 (Ug L least ok:Nat))∧Below w.heap.size w w':=by
 have hlm:=h.Yn
 have hll:=hid h.len
 have HFF:=hid HF
 have HS:∀ b,(S b∧b<w.heap.size)→b<w.heap.size:=fun b hb=>hb.2
 have h1:Tj w (fun b=>S b∧b<w.heap.size) A n c L:=h.mv Y1 (Mv.to w fun b hb hl=>⟨hb,hl⟩)
 clear h HF
 by_cases h0:n<least
 ·have H:Hid (Ug L least ok=13):=hid (Qx (.inl (by have:=hll.out; omega)))
  have hd:decide (n<least)=true:=decide_eq_true h0
  go_enter Tryz.func71,Tryz.ntmps71;go_wp2_with fail;go_ret;exact ⟨by rw [H.out]; rfl,Below.refl _ _⟩
 ·by_cases h8:8<n
  ·have H:Hid (Ug L least ok=13):=hid (Qx (.inr (by have:=hll.out; omega)))
   have hd:decide (n<least)=false:=decide_eq_false h0
   go_enter Tryz.func71,Tryz.ntmps71;go_wp2_with fail;go_ret;exact ⟨by rw [H.out]; rfl,Below.refl _ _⟩
  ·have hd:decide (n<least)=false:=decide_eq_false h0
   have HN:Hid (¬ (L.length<least∨8<L.length)):=hid (by have:=hll.out; omega)
   go_enter Tryz.func71,Tryz.ntmps71;go_wp2_with fail;go_loopw [6,20] (fun x i wr=>∃ k:Nat,k≤n∧i=.int .i64 k∧x=.int .i64 (Nc ok L k:Nat)∧Below w.heap.size w wr) (fun _ i _=>n - (intOf i).toNat)
   case atStart=>exact ⟨0,Nat.zero_le _,rfl,by rw [Ygn]; rfl,Below.refl _ _⟩
   case round =>
    obtain ⟨k,hk,rfl,rfl,hB⟩:=hrel
    by_cases hlt:k<n
    ·obtain ⟨b,o,A1,n1,c1,A2,n2,c2,p,q,rfl,_,_,g0,g1,hp,hq,he⟩:=(h1.mv Y1 (Mv.below hB HS)).at2 hlt
     have i0:(0:Int)≤(k:Int):=by omega
     have i1:(k:Int)<(n:Int):=by omega
     have hbx:=Ya wr (.cells #[.slice A1 n1 c1,.slice A2 n2 c2] 60)
     have hbl:=Block.new wr 60 #[.slice A1 n1 c1,.slice A2 n2 c2]
     have hB1:=hB.trans (hbx.mono hB.size)
     have hp1:=hp.mv Zr (Mv.alloc wr (.cells #[.slice A1 n1 c1,.slice A2 n2 c2] 60) _)
     have hq1:=hq.mv Yh (Mv.alloc wr (.cells #[.slice A1 n1 c1,.slice A2 n2 c2] 60) _)
     have HC:=hid (HFF.out p q (List.mem_of_getElem? he.out) _ _ A1 n1 c1 A2 n2 c2 hB1 hp1 hq1)
     clear hp hq hp1 hq1 hB hbx;go_wp2_with fail;generalize wr.alloc (.cells #[.slice A1 n1 c1,.slice A2 n2 c2] 60)=W at hB1 hbl HC ⊢
     have k0:W.cell? ⟨wr.heap.size,0,none⟩=some (.slice A1 n1 c1):=hbl.cell 0
     have k1:W.cell? ⟨wr.heap.size,1,none⟩=some (.slice A2 n2 c2):=hbl.cell 1
     clear g0 g1 hbl
     by_cases ho:ok (p,q)
     ·rw [decide_eq_true ho] at HC
      have HM:=hid (Ykt he.out ho)
      clear ho;go_wp2_with fail;refine HC.out.mono ?_;rintro e w2 ⟨rfl,hb2⟩
      have hB2:=hB1.trans (hb2.mono hB1.size)
      clear hB1 hb2 HC k0 k1;go_wp2_with fail;go_roundw
      case rel=>exact ⟨k+1,by omega,by go_num,by rw [HM.out],hB2⟩
      case measure=>simp [intOf]; omega
     ·rw [decide_eq_false ho] at HC
      have HM:=hid (Yoq he.out ho)
      clear ho;go_wp2_with fail;refine HC.out.mono ?_;rintro e w2 ⟨rfl,hb2⟩
      have hB2:=hB1.trans (hb2.mono hB1.size)
      clear hB1 hb2 HC k0 k1;go_wp2_with fail;go_roundw
      case rel=>exact ⟨k+1,by omega,by go_num,by rw [HM.out]; rfl,hB2⟩
      case measure=>simp [intOf]; omega
    ·have HM:=hid (Yks (k:=k) (ok:=ok) (by have:=hll.out; omega) HN.out)
     go_wp2_with fail;go_ret;exact ⟨by rw [HM.out]; rfl,hB⟩
theorem Ex : Ut (p,q)↔(p.length≤3∧∀ x∈p,Wu x)∧(0≤(q.length:Int)∧(q.length:Int)≤2∧isVal (q.length:Int) q):=by
 unfold Ut isVal;constructor
 ·rintro ⟨h1,h2,h3,h4⟩
  exact ⟨⟨h1,h2⟩,by omega,by have h3:q.length≤2:=h3; omega,rfl,h4⟩
 ·rintro ⟨⟨h1,h2⟩,h3,h4,h5,h6⟩
  exact ⟨h1,h2,by show q.length≤2; omega,h6⟩
theorem Nb {α:Type}{L:List α}{x:α}{P:α→Prop} (hx:L[k]?=some x) (h:P x) (ht:∀ y∈L.take k,P y):∀ y∈L.take (k+1),P y:=by
 intro y hy;rw [List.take_add_one,hx] at hy
 rcases List.mem_append.1 hy with hy | hy
 ·exact ht y hy
 ·simp at hy; subst hy; exact h
def E9 (D:List Yg) (p:List (List Txt)) (k:Nat):Prop:=∀ i,i<k→(p.getD i []).length=(D.getD i Xv).2.length∧Wu (p.getD i [])
theorem Ymw (hD:D.length≤3):Vx D m (p,q)↔p.length=D.length∧E9 D p D.length∧0≤(m:Int)∧(m:Int)≤2∧isVal (m:Int) q:=by
 unfold Vx;rw [Ex];unfold E9 isVal;constructor
 ·rintro ⟨⟨⟨h1,h2⟩,h3,h4,h5,h6⟩,h7,h8,h9⟩
  have h8:q.length=m:=h8
  have h7:p.length=D.length:=h7
  refine ⟨h7,fun i hi=>⟨h9 i hi,h2 _ ?_⟩,by omega,by omega,by omega,h6⟩
  rw [List.getD_eq_getElem?_getD,List.getElem?_eq_getElem (by omega)]
  exact List.getElem_mem _
 ·rintro ⟨h1,h2,h3,h4,h5,h6⟩
  refine ⟨⟨⟨by omega,fun x hx=>?_⟩,by omega,by omega,rfl,h6⟩,h1,by show q.length=m; omega,fun i hi=>(h2 i hi).1⟩
  obtain ⟨i,hi⟩:=List.getElem?_of_mem hx
  have hil:=(List.getElem?_eq_some_iff.1 hi).1
  have:=(h2 i (by omega)).2
  rwa [List.getD_eq_getElem?_getD,hi] at this
theorem Yg4 (hx:p[k]?=some x) (hd:D.getD k Xv=(y,l)) (h:E9 D p k) (h1:x.length=l.length) (h2:Wu x):E9 D p (k+1):=by
 intro i hi
 by_cases h:i<k
 ·exact ‹E9 D p k› i h
 ·obtain rfl:i=k:=by omega
  rw [List.getD_eq_getElem?_getD,hx,hd];exact ⟨h1,h2⟩
theorem Aw (hk:k<n) (hx:p[k]?=some x) (hd:D.getD k Xv=(y,l)) (h:¬ (x.length=l.length∧Wu x)):¬ E9 D p n:=by
 intro hs
 have:=hs k hk
 rw [List.getD_eq_getElem?_getD,hx,hd] at this;exact h this
theorem Ygj 
  (hs:Tx w w.heap.size B1 m1 d1 B2 m2 d2 B3 m3 d3 D M V) (hD:m1≤3) (hp:Row (Zf Yy 1) 1 w S A1 n1 c1 p) (hq:Row Yr 1 w S A2 n2 c2 q) :
  Calls Tryz.prog 73 #[V6 B1 m1 d1 B2 m2 d2 B3 m3 d3,.agg #[.slice A1 n1 c1,.slice A2 n2 c2]] w fun e w'=>e=.returned (.bool (decide (Vx D M.length (p,q))))∧Below w.heap.size w w':=by
 have hl1:=hp.Yn
 have hl2:=hq.Yn
 have HL1:=hid hp.len
 have HLD:=hid hs.d.len
 have HLM:=hid hs.m.len
 have hlm:=hs.m.Yn
 have hb00:=Ya w (.cells #[.slice B1 m1 d1,.slice B2 m2 d2,.slice B3 m3 d3] 26)
 have hb0:=Yb hb00 (Ya (w.alloc (.cells #[.slice B1 m1 d1,.slice B2 m2 d2,.slice B3 m3 d3] 26)) (.cells #[.slice A1 n1 c1,.slice A2 n2 c2] 60))
 have hbs:=(Block.new w 26 #[.slice B1 m1 d1,.slice B2 m2 d2,.slice B3 m3 d3]).alloc (.cells #[.slice A1 n1 c1,.slice A2 n2 c2] 60)
 have hbl:=Block.new (w.alloc (.cells #[.slice B1 m1 d1,.slice B2 m2 d2,.slice B3 m3 d3] 26)) 60 #[.slice A1 n1 c1,.slice A2 n2 c2]
 rw [show (w.alloc (.cells #[.slice B1 m1 d1,.slice B2 m2 d2,.slice B3 m3 d3] 26)).heap.size=w.heap.size+1 by simp] at hbl
 have hp0:=hp.mv Zr (Mv.Yc hb0 S)
 have hq0:=hq.mv Yh (Mv.Yc hb0 S)
 have hd0:=hs.d.Yc hb0
 clear hp hq hs hb00
 have HI:=hid (Ymw (m:=M.length) (p:=p) (q:=q) (show D.length≤3 by have:=HLD.out; omega))
 by_cases hne:n1=m1
 ·subst hne
  have he0:((n1:Int) != (n1:Int))=false:=by simp
  go_enter Tryz.func73,Tryz.ntmps73;go_wp2_with fail;generalize (w.alloc (.cells #[.slice B1 n1 d1,.slice B2 m2 d2,.slice B3 m3 d3] 26)).alloc (.cells #[.slice A1 n1 c1,.slice A2 n2 c2] 60)=W at hb0 hbl hbs hp0 hq0 hd0 ⊢;clear he0
  have hp1:Row (Zf Yy 1) 1 W (fun b=>S b∧b<W.heap.size) A1 n1 c1 p:=hp0.mv Zr (Mv.to W fun b hb hl=>⟨hb,hl⟩)
  have hq1:Row Yr 1 W (fun b=>S b∧b<W.heap.size) A2 n2 c2 q:=hq0.mv Yh (Mv.to W fun b hb hl=>⟨hb,hl⟩)
  have HS:∀ b,(S b∧b<W.heap.size)→b<W.heap.size:=fun b hb=>hb.2
  have HBL:=hid hbl
  have HBS:=hid hbs
  clear hp0 hq0 hbl hbs;go_loopw [17] (fun i wr=>∃ k:Nat,k≤n1∧i=.int .i64 k∧E9 D p k∧Below W.heap.size W wr) (fun i _=>n1 - (intOf i).toNat)
  case atStart=>exact ⟨0,Nat.zero_le _,rfl,(fun i hi=>absurd hi (by omega)),Below.refl _ _⟩
  case round =>
   obtain ⟨k,hk,rfl,hall,hB⟩:=hrel
   have HA:=hid hall
   clear hall
   by_cases hlt:k<n1
   ·obtain ⟨b,o,A',n',c',x,rfl,_,_,g0,hx,he⟩:=(hp1.mv Zr (Mv.below hB HS)).at1 hlt
    obtain ⟨b2,o2,y,A4,n4,c4,l,rfl,_,g1,g2,hl,hde⟩:=(hd0.below hB (Nat.le_refl _)).at_ hlt
    have i0:(0:Int)≤(k:Int):=by omega
    have i1:(k:Int)<(n1:Int):=by omega
    have s1:wr.cell? ⟨w.heap.size,0,none⟩=some (.slice (some ⟨b2,o2,none⟩) n1 d1):=(HBS.out.below hB HBS.out.lt).cell 0
    have hT:=hx.Ea
    have hlx:=hx.len
    have hll:=hl.len
    have hn4:=hl.Yn
    have hn':=hx.Yn
    clear hx hl
    by_cases hle:n'=n4
    ·subst hle
     by_cases hm:Wu x
     ·have HM:=hid hm
      have HN:=hid (Yg4 he.out hde.out HA.out (by omega) hm)
      clear hm hlx hll;go_wp2_with fail;refine (Yq8 hT HM.out).mono ?_;rintro e w2 ⟨rfl,hb2⟩
      have hB2:=hB.trans (hb2.mono hB.size)
      clear hB hb2 hT g0 g1 g2 s1;go_wp2_with fail;go_roundw
      case rel=>exact ⟨k+1,by omega,by go_num,HN.out,hB2⟩
      case measure=>simp [intOf]; omega
     ·have HM:=hid hm
      have H:Hid (decide (Vx D M.length (p,q))=false):=hid (by
       rw [decide_eq_false_iff_not,HI.out];intro h;exact Aw (by have:=HLD.out; omega) he.out hde.out (fun h=>hm h.2) h.2.1)
      clear hm hlx hll;go_wp2_with fail;refine (Ysr hT HM.out).mono ?_;rintro e w2 ⟨rfl,hb2⟩
      have hB2:=hb0.trans ((hB.trans (hb2.mono hB.size)).mono hb0.size)
      clear hB hb2 hT g0 g1 g2 s1;go_wp2_with fail;go_ret;exact ⟨by rw [H.out]; rfl,hB2⟩
    ·have H:Hid (decide (Vx D M.length (p,q))=false):=hid (by
      rw [decide_eq_false_iff_not,HI.out];intro h;exact Aw (by have:=HLD.out; omega) he.out hde.out (fun h=>hle (by have:=h.1; omega)) h.2.1)
     have hle1:((n' : Int) != (n4:Int))=true:=by simp; omega
     have hB2:=hb0.trans (hB.mono hb0.size)
     clear hlx hll hle;go_wp2_with fail;go_ret;exact ⟨by rw [H.out]; rfl,hB2⟩
   ·have k1:wr.cell? ⟨w.heap.size+1,1,none⟩=some (.slice A2 n2 c2):=(HBL.out.below hB HBL.out.lt).cell 1
    have s1:wr.cell? ⟨w.heap.size,1,none⟩=some (.slice B2 m2 d2):=(HBS.out.below hB HBS.out.lt).cell 1
    have HC:=hid (Yca (m:=(m2:Int)) (r:=decide (Vx D M.length (p,q))) (hq1.mv Yh (Mv.below hB HS)) (by
     rw [decide_eq_true_iff,HI.out]
     have h1:=HL1.out
     have h2:=HLM.out
     have h3:=HLD.out
     have h4:=HA.out
     rw [show k=D.length by omega] at h4
     rw [h2];exact ⟨fun h=>h.2.2,fun h=>⟨by omega,h4,h⟩⟩))
    go_wp2_with fail;refine HC.out.mono ?_;rintro e w2 ⟨rfl,hb2⟩
    have hB2:=hb0.trans ((hB.trans (hb2.mono hB.size)).mono hb0.size)
    clear hB hb2 k1 s1 HC;go_wp2_with fail;go_ret;exact ⟨rfl,hB2⟩
 ·have H:Hid (decide (Vx D M.length (p,q))=false):=hid (by
   rw [decide_eq_false_iff_not,HI.out];intro h
   have h1:=HL1.out
   have h3:=HLD.out
   exact hne (by have:=h.1; omega))
  have hne1:((n1:Int) != (m1:Int))=true:=by simp; omega
  have hlm1:=hd0.Yn
  clear hne;go_enter Tryz.func73,Tryz.ntmps73;go_wp2_with fail;go_ret;exact ⟨by rw [H.out]; rfl,hb0⟩
theorem Yoj {g:Nat} 
  (hs:Tx w w.heap.size B1 m1 d1 B2 m2 d2 B3 m3 d3 D M V) (hbs:Block w g 26 #[.slice B1 m1 d1,.slice B2 m2 d2,.slice B3 m3 d3]) (hD:m1≤3) (hp:Row (Zf Yy 1) 1 w S A1 n1 c1 p) (hq:Row Yr 1 w S A2 n2 c2 q) :
  Calls Tryz.prog 72 #[.agg #[.slice A1 n1 c1,.slice A2 n2 c2],.pointer (some ⟨g,0,none⟩)] w fun e w'=>e=.returned (.bool (decide (Vx D M.length (p,q))))∧Below w.heap.size w w':=by
 have hb0:=Ya w (.cells #[.slice A1 n1 c1,.slice A2 n2 c2] 60)
 have hbl:=Block.new w 60 #[.slice A1 n1 c1,.slice A2 n2 c2]
 have hbs1:=hbs.below hb0 hbs.lt
 have HC:=hid (Ygj (hs.Yc hb0) hD (hp.mv Zr (Mv.Yc hb0 S)) (hq.mv Yh (Mv.Yc hb0 S)))
 clear hs hp hq hbs;obtain ⟨W,hW⟩ : ∃ W,Hid (w.alloc (.cells #[.slice A1 n1 c1,.slice A2 n2 c2] 60)=W):=⟨_,hid rfl⟩;rw [hW.out] at hb0 hbl hbs1 HC
 have k0:W.cell? ⟨w.heap.size,0,none⟩=some (.slice A1 n1 c1):=hbl.cell 0
 have k1:W.cell? ⟨w.heap.size,1,none⟩=some (.slice A2 n2 c2):=hbl.cell 1
 have s0:W.cell? ⟨g,0,none⟩=some (.slice B1 m1 d1):=hbs1.cell 0
 have s1:W.cell? ⟨g,1,none⟩=some (.slice B2 m2 d2):=hbs1.cell 1
 have s2:W.cell? ⟨g,2,none⟩=some (.slice B3 m3 d3):=hbs1.cell 2
 rw [← hW.out] at k0 k1 s0 s1 s2;go_enter Tryz.func72,Tryz.ntmps72;go_wp2_with fail;rw [hW.out];refine HC.out.mono ?_;rintro e w2 ⟨rfl,hb2⟩
 have hB:=Yb hb0 hb2
 clear HC hb2 k0 k1 s0 s1 s2;go_wp2_with fail;go_ret;exact ⟨rfl,hB⟩
theorem Yd2 (h:¬ Z3 D M V):Xu D M V L=11:=by unfold Xu; rw [if_neg h]
theorem Bn (h:Z3 D M V):Xu D M V L=Ug L 1 (Vx D M.length):=by unfold Xu; rw [if_pos h]
theorem Ya7 
  (hs:Tx w w.heap.size B1 m1 d1 B2 m2 d2 B3 m3 d3 D M V) (hf:Sq D) (hm:∀ s∈M,s.length≤maxLen) (hn1:m1≤1000) (h:Tj w S A n c L) :
  Calls Tryz.prog 47 #[V6 B1 m1 d1 B2 m2 d2 B3 m3 d3,.slice A n c] w fun e w'=>e=.returned (.int .i64 (Xu D M V L:Nat))∧Below w.heap.size w w':=by
 have hb0:=Ya w (.cells #[.slice B1 m1 d1,.slice B2 m2 d2,.slice B3 m3 d3] 26)
 have hbl:=Block.new w 26 #[.slice B1 m1 d1,.slice B2 m2 d2,.slice B3 m3 d3]
 have hs1:=hs.Yc hb0
 have h1:=h.mv Y1 (Mv.Yc hb0 S)
 have HC:=hid (Ti hs1 hf hm hn1)
 have HD:=hid hs.d.len
 clear hs h hf hm;go_enter Tryz.func47,Tryz.ntmps47;go_wp2_with fail;generalize w.alloc (.cells #[.slice B1 m1 d1,.slice B2 m2 d2,.slice B3 m3 d3] 26)=W at hb0 hbl hs1 h1 HC ⊢
 have s0:W.cell? ⟨w.heap.size,0,none⟩=some (.slice B1 m1 d1):=hbl.cell 0
 have s1:W.cell? ⟨w.heap.size,1,none⟩=some (.slice B2 m2 d2):=hbl.cell 1
 have s2:W.cell? ⟨w.heap.size,2,none⟩=some (.slice B3 m3 d3):=hbl.cell 2
 by_cases hm:Z3 D M V
 ·rw [decide_eq_true hm] at HC
  have HX:=hid (Bn (L:=L) hm)
  have hD3:m1≤3:=by have:=Yok hm.1; have:=HD.out; omega
  clear hm;go_wp2_with fail;refine HC.out.mono ?_;rintro e w2 ⟨rfl,hb2⟩
  have hs2:=hs1.Yc hb2
  have hbl2:=hbl.below hb2 hbl.lt
  have h2:=h1.mv Y1 (Mv.Yc hb2 S)
  have hB:=Yb hb0 hb2
  have HA:=hid (Yiz h2 1 72 #[.pointer (some ⟨w.heap.size,0,none⟩)] (Vx D M.length) (fun _ _=>rfl) (fun p q hpq W' S' A1 n1 c1 A2 n2 c2 hW hp hq=>Yoj (hs2.Yc hW) (hbl2.below hW hbl2.lt) hD3 hp hq))
  clear HC hb2 hs1 hbl h1 s0 s1 s2 hs2 hbl2 h2 hb0;go_wp2_with fail;refine HA.out.mono ?_;rintro e w3 ⟨rfl,hb3⟩
  have hB3:=Yb hB hb3
  clear HA hb3 hB;go_wp2_with fail;go_ret;exact ⟨by rw [HX.out]; rfl,hB3⟩
 ·rw [decide_eq_false hm] at HC
  have HX:=hid (Yd2 (L:=L) hm)
  clear hm;go_wp2_with fail;refine HC.out.mono ?_;rintro e w2 ⟨rfl,hb2⟩
  have hB:=Yb hb0 hb2
  clear HC hb2 hs1 hbl h1 s0 s1 s2 hb0;go_wp2_with fail;go_ret;exact ⟨by rw [HX.out]; rfl,hB⟩
theorem Ybk (hp:Row (Zf Yy 1) 1 w S A1 n1 c1 p) (hq:Row Yr 1 w S A2 n2 c2 q) :
  Calls Tryz.prog 83 #[.agg #[.slice A1 n1 c1,.slice A2 n2 c2]] w fun e w'=>e=.returned (.bool (decide (Ut (p,q))))∧Below w.heap.size w w':=by
 have hl1:=hp.Yn
 have hl2:=hq.Yn
 have HL1:=hid hp.len
 have HL2:=hid hq.len
 have hb0:=Ya w (.cells #[.slice A1 n1 c1,.slice A2 n2 c2] 60)
 have hbl:=Block.new w 60 #[.slice A1 n1 c1,.slice A2 n2 c2]
 have hp0:=hp.mv Zr (Mv.Yc hb0 S)
 have hq0:=(hq.mv Yh (Mv.Yc hb0 S)).Qr
 have HI:Hid (Ut (p,q)↔(p.length≤3∧∀ x∈p,Wu x)∧(n2:Int)≤2∧isVal (n2:Int) q):=hid (by
  rw [Ex,HL2.out];constructor
  ·rintro ⟨h1,h2,h3⟩; exact ⟨h1,h3⟩
  ·rintro ⟨h1,h2⟩; exact ⟨h1,by omega,h2⟩)
 clear hp hq
 by_cases hv:isVal (n2:Int) q
 ·have HV:=hid (Rv (n2:Int) (r:=true) hq0 (by simp [hv]))
  have HVV:=hid hv
  clear hv
  by_cases h2:(2:Int)<(n2:Int)
  ·have H:Hid (decide (Ut (p,q))=false):=hid (by
    rw [decide_eq_false_iff_not,HI.out];intro h
    have:=h.2.1; omega)
   go_enter Tryz.func83,Tryz.ntmps83;go_wp2_with fail;generalize w.alloc (.cells #[.slice A1 n1 c1,.slice A2 n2 c2] 60)=W at hb0 hbl hp0 hq0 HV ⊢
   have k1:W.cell? ⟨w.heap.size,1,none⟩=some (.slice A2 n2 c2):=hbl.cell 1
   go_wp2_with fail;refine HV.out.mono ?_;rintro e w2 ⟨rfl,rfl⟩;go_wp2_with fail;go_ret;exact ⟨by rw [H.out]; rfl,hb0⟩
  ·by_cases h3:(3:Int)<(n1:Int)
   ·have H:Hid (decide (Ut (p,q))=false):=hid (by
     rw [decide_eq_false_iff_not,HI.out];intro h
     have:=h.1.1; have:=HL1.out; omega)
    go_enter Tryz.func83,Tryz.ntmps83;go_wp2_with fail;generalize w.alloc (.cells #[.slice A1 n1 c1,.slice A2 n2 c2] 60)=W at hb0 hbl hp0 hq0 HV ⊢
    have k0:W.cell? ⟨w.heap.size,0,none⟩=some (.slice A1 n1 c1):=hbl.cell 0
    have k1:W.cell? ⟨w.heap.size,1,none⟩=some (.slice A2 n2 c2):=hbl.cell 1
    go_wp2_with fail;refine HV.out.mono ?_;rintro e w2 ⟨rfl,rfl⟩;go_wp2_with fail;go_ret;exact ⟨by rw [H.out]; rfl,hb0⟩
   ·go_enter Tryz.func83,Tryz.ntmps83
    go_wp2_with fail;generalize w.alloc (.cells #[.slice A1 n1 c1,.slice A2 n2 c2] 60)=W at hb0 hbl hp0 hq0 HV ⊢
    have k0:W.cell? ⟨w.heap.size,0,none⟩=some (.slice A1 n1 c1):=hbl.cell 0
    have k1:W.cell? ⟨w.heap.size,1,none⟩=some (.slice A2 n2 c2):=hbl.cell 1
    go_wp2_with fail;refine HV.out.mono ?_;rintro e w2 ⟨rfl,rfl⟩;go_wp2_with fail;clear k1;go_loop [4] (fun i=>∃ k:Nat,k≤n1∧i=.int .i64 k∧Hid (∀ x∈p.take k,Wu x)) (fun i=>n1 - (intOf i).toNat)
    case atStart=>exact ⟨0,Nat.zero_le _,rfl,hid (fun x hx=>by simp at hx)⟩
    case round =>
     obtain ⟨k,hk,rfl,HA⟩:=hrel
     by_cases hlt:k<n1
     ·obtain ⟨b,o,A',n',c',x,rfl,_,_,g0,hx,he⟩:=hp0.at1 hlt
      have i0:(0:Int)≤(k:Int):=by omega
      have i1:(k:Int)<(n1:Int):=by omega
      have hT:=hx.Ea
      clear hx
      by_cases hm:Wu x
      ·have HM:=hid hm
       have HN:=hid (Nb he.out hm HA.out)
       clear hm;go_wp2_with fail;refine (Mb hT HM.out).mono ?_;rintro e w2 ⟨rfl,rfl⟩;go_wp2_with fail;go_round
       case rel=>exact ⟨k+1,by omega,by go_num,HN⟩
       case measure=>simp [intOf]; omega
      ·have HM:=hid hm
       have H:Hid (decide (Ut (p,q))=false):=hid (by
        rw [decide_eq_false_iff_not,HI.out];intro h;exact hm (h.1.2 x (List.mem_of_getElem? he.out)))
       clear hm;go_wp2_with fail;refine (Ai hT HM.out).mono ?_;rintro e w2 ⟨rfl,rfl⟩;go_wp2_with fail;go_ret;exact ⟨by rw [H.out]; rfl,hb0⟩
     ·have H:Hid (decide (Ut (p,q))=true):=hid (by
       have h3:=HA.out
       rw [List.take_of_length_le (by have:=HL1.out; omega)] at h3
       rw [decide_eq_true_iff,HI.out];exact ⟨⟨by have:=HL1.out; omega,h3⟩,by omega,HVV.out⟩)
      go_wp2_with fail;go_ret;exact ⟨by rw [H.out]; rfl,hb0⟩
 ·have HV:=hid (Rv (n2:Int) (r:=false) hq0 (by simp [hv]))
  have H:Hid (decide (Ut (p,q))=false):=hid (by
   rw [decide_eq_false_iff_not,HI.out];intro h;exact hv h.2.2)
  go_enter Tryz.func83,Tryz.ntmps83;go_wp2_with fail;generalize w.alloc (.cells #[.slice A1 n1 c1,.slice A2 n2 c2] 60)=W at hb0 hbl hp0 hq0 HV ⊢
  have k1:W.cell? ⟨w.heap.size,1,none⟩=some (.slice A2 n2 c2):=hbl.cell 1
  go_wp2_with fail;refine HV.out.mono ?_;rintro e w2 ⟨rfl,rfl⟩;go_wp2_with fail;go_ret;exact ⟨by rw [H.out]; rfl,hb0⟩
def Ykl (D:List Yg) (p:List (List Txt)) (k:Nat):Prop:=∀ i,i<k→(p.getD i []).length=(D.getD i Xv).2.length
theorem Ykm (hx:p[k]?=some x) (hd:D.getD k Xv=(y,l)) (h:Ykl D p k) (h1:x.length=l.length):Ykl D p (k+1):=by
 intro i hi
 by_cases h:i<k
 ·exact ‹Ykl D p k› i h
 ·obtain rfl:i=k:=by omega
  rw [List.getD_eq_getElem?_getD,hx,hd];exact h1
theorem Yn6 (hk:k<n) (hx:p[k]?=some x) (hd:D.getD k Xv=(y,l)) (h:¬ x.length=l.length):¬ Ykl D p n:=by
 intro hs
 have:=hs k hk
 rw [List.getD_eq_getElem?_getD,hx,hd] at this;exact h this
theorem Mz : Vx D m (p,q)↔Ut (p,q)∧p.length=D.length∧q.length=m∧Ykl D p D.length:=Iff.rfl
theorem Oy [DecidablePred ok] (h:¬ (L.length<m∨8<L.length)) {k:Nat}{f:Fct}(hf:L[k]?=some f) (ho:¬ ok f):Ug L m ok=12:=Yku h ⟨f,List.mem_of_getElem? hf,ho⟩
theorem Yel 
  (hs:Tx w w.heap.size B1 m1 d1 B2 m2 d2 B3 m3 d3 D M V) (hn1:m1≤1000) (hn3:m3≤1000) (h:Tj w S A n c L) :
  Calls Tryz.prog 54 #[V6 B1 m1 d1 B2 m2 d2 B3 m3 d3,.slice A n c] w fun e w'=>e=.returned (.int .i64 (Xu D M V L:Nat))∧Below w.heap.size w w':=by
 have hlm:=h.Yn
 have hb0:=Ya w (.cells #[.slice B1 m1 d1,.slice B2 m2 d2,.slice B3 m3 d3] 26)
 have hbl:=Block.new w 26 #[.slice B1 m1 d1,.slice B2 m2 d2,.slice B3 m3 d3]
 have hs1:=hs.Yc hb0
 have h1:=h.mv Y1 (Mv.Yc hb0 S)
 have HC:=hid (Rn hs1 hn1 hn3)
 have HD:=hid hs.d.len
 have HM:=hid hs.m.len
 have HL:=hid h.len
 have hlm1:=hs.d.Yn
 have hlm2:=hs.m.Yn
 clear hs h
 by_cases hm:Z3 D M V
 ·rw [decide_eq_true hm] at HC
  have HX:=hid (Bn (L:=L) hm)
  clear hm
  by_cases h0:n<1
  ·have H:Hid (Ug L 1 (Vx D M.length)=13):=hid (Qx (.inl (by have:=HL.out; omega)))
   have hd:decide ((n:Int)<1)=true:=decide_eq_true (by omega)
   go_enter Tryz.func54,Tryz.ntmps54;go_wp2_with fail;generalize w.alloc (.cells #[.slice B1 m1 d1,.slice B2 m2 d2,.slice B3 m3 d3] 26)=W at hb0 hbl hs1 h1 HC ⊢;refine HC.out.mono ?_;rintro e w2 ⟨rfl,hb2⟩
   have hB:=Yb hb0 hb2
   go_wp2_with fail;go_ret;exact ⟨by rw [HX.out,H.out]; rfl,hB⟩
  ·have hd:decide ((n:Int)<1)=false:=decide_eq_false (by omega)
   by_cases h8:(8:Int)<(n:Int)
   ·have H:Hid (Ug L 1 (Vx D M.length)=13):=hid (Qx (.inr (by have:=HL.out; omega)))
    go_enter Tryz.func54,Tryz.ntmps54;go_wp2_with fail;generalize w.alloc (.cells #[.slice B1 m1 d1,.slice B2 m2 d2,.slice B3 m3 d3] 26)=W at hb0 hbl hs1 h1 HC ⊢;refine HC.out.mono ?_;rintro e w2 ⟨rfl,hb2⟩
    have hB:=Yb hb0 hb2
    go_wp2_with fail;go_ret;exact ⟨by rw [HX.out,H.out]; rfl,hB⟩
   ·have HN:Hid (¬ (L.length<1∨8<L.length)):=hid (by have:=HL.out; omega)
    go_enter Tryz.func54,Tryz.ntmps54;go_wp2_with fail;generalize w.alloc (.cells #[.slice B1 m1 d1,.slice B2 m2 d2,.slice B3 m3 d3] 26)=W at hb0 hbl hs1 h1 HC ⊢;refine HC.out.mono ?_;rintro e w2 ⟨rfl,hb2⟩
    have HBL:=hid (hbl.below hb2 hbl.lt)
    have hd2:=(hs1.Yc hb2).d
    have h2:Tj w2 (fun b=>S b∧b<w2.heap.size) A n c L:=h1.mv Y1 (fun b hb hl=>⟨hb2.block b hl,hb,Nat.lt_of_lt_of_le hl hb2.size⟩)
    have HS:∀ b,(S b∧b<w2.heap.size)→b<w2.heap.size:=fun b hb=>hb.2
    have hbw:=Yb hb0 hb2
    clear hs1 h1 hbl hb0 hb2 HC;go_wp2_with fail;clear hd;go_loopw [6] (fun i wr=>∃ k:Nat,k≤n∧i=.int .i64 k∧Below w2.heap.size w2 wr∧Hid (∀ f∈L.take k,Vx D M.length f)) (fun i _=>n - (intOf i).toNat)
    case atStart=>exact ⟨0,Nat.zero_le _,rfl,Below.refl _ _,hid (fun f hf=>by simp at hf)⟩
    case round =>
     obtain ⟨k,hk,rfl,hB,HA⟩:=hrel
     by_cases hlt:k<n
     ·obtain ⟨b,o,A1,n1,c1,A2,n2,c2,p,q,rfl,_,_,g0,g1,hp,hq,he⟩:=(h2.mv Y1 (Mv.below hB HS)).at2 hlt
      have i0:(0:Int)≤(k:Int):=by omega
      have i1:(k:Int)<(n:Int):=by omega
      have hbx:=Ya wr (.cells #[.slice A1 n1 c1,.slice A2 n2 c2] 60)
      have hbf:=Block.new wr 60 #[.slice A1 n1 c1,.slice A2 n2 c2]
      have hB1:=hB.trans (hbx.mono hB.size)
      have hp1:=hp.mv Zr (Mv.alloc wr (.cells #[.slice A1 n1 c1,.slice A2 n2 c2] 60) _)
      have hq1:=hq.mv Yh (Mv.alloc wr (.cells #[.slice A1 n1 c1,.slice A2 n2 c2] 60) _)
      have HC:=hid (Ybk hp1 hq1)
      have HL1:=hid hp.len
      have HL2:=hid hq.len
      have hlm3:=hp.Yn
      have hlm4:=hq.Yn
      clear hp hq hq1 hB hbx;go_wp2_with fail;generalize wr.alloc (.cells #[.slice A1 n1 c1,.slice A2 n2 c2] 60)=W1 at hB1 hbf hp1 HC ⊢
      have k0:W1.cell? ⟨wr.heap.size,0,none⟩=some (.slice A1 n1 c1):=hbf.cell 0
      have k1:W1.cell? ⟨wr.heap.size,1,none⟩=some (.slice A2 n2 c2):=hbf.cell 1
      clear g0 g1
      by_cases ho:Ut (p,q)
      ·rw [decide_eq_true ho] at HC
       have HO:=hid ho
       clear ho;go_wp2_with fail;refine HC.out.mono ?_;rintro e w4 ⟨rfl,hb4⟩
       have hB4:=hB1.trans (hb4.mono hB1.size)
       have HF4:=hid (hbf.below hb4 hbf.lt)
       have HS4:=hid (HBL.out.below hB4 HBL.out.lt)
       have f0:w4.cell? ⟨wr.heap.size,0,none⟩=some (.slice A1 n1 c1):=HF4.out.cell 0
       have f1:w4.cell? ⟨wr.heap.size,1,none⟩=some (.slice A2 n2 c2):=HF4.out.cell 1
       have s0:w4.cell? ⟨w.heap.size,0,none⟩=some (.slice B1 m1 d1):=HS4.out.cell 0
       have s1:w4.cell? ⟨w.heap.size,1,none⟩=some (.slice B2 m2 d2):=HS4.out.cell 1
       have hp4:=hp1.mv Zr (Mv.Yc hb4 _)
       have hd4:=hd2.below hB4 (Nat.le_refl _)
       clear hb4 hB1 k0 k1 hp1 HC hbf
       by_cases hn1m:n1=m1
       ·subst hn1m
        have he1:((n1:Int) != (n1:Int))=false:=by simp
        by_cases hn2m:n2=m2
        ·subst hn2m
         have he2:((n2:Int) != (n2:Int))=false:=by simp
         go_wp2_with fail;clear he1 he2 f1 s1;obtain ⟨wo,rfl⟩ : ∃ wo,wo=wr:=⟨_,rfl⟩;go_loopw [8] (fun j wr=>∃ m t:Nat,m≤n1∧j=.int .i64 m∧wr=w4.drewN t∧Hid (Ykl D p m)) (fun j _=>n1 - (intOf j).toNat)
         case atStart=>exact ⟨0,0,Nat.zero_le _,rfl,rfl,hid (fun i hi=>absurd hi (by omega))⟩
         case round =>
          obtain ⟨m,t,hm,rfl,hwr,HV⟩:=hrel
          have hp5:Row (Zf Yy 1) 1 wr (fun b=>S b∧b<w2.heap.size) A1 n1 c1 p:=by rw [hwr]; exact hp4.mv Zr (Mv.drewN w4 t _)
          have hd5:Xf wr w2.heap.size B1 n1 d1 D:=by rw [hwr]; exact hd4.drewN t
          have e0:wr.cell? ⟨wo.heap.size,0,none⟩=some (.slice A1 n1 c1):=by rw [hwr]; exact f0
          have e1:wr.cell? ⟨w.heap.size,0,none⟩=some (.slice B1 n1 d1):=by rw [hwr]; exact s0
          have HWI:=hid hwr
          clear hwr f0 s0
          by_cases hlm:m<n1
          ·obtain ⟨d,u,C1,r1,t1,x,rfl,_,_,j0,hx,hxe⟩:=hp5.at1 hlm
           obtain ⟨b2,o2,y,A4,n4,c4,l,rfl,_,_,g2,hl,hde⟩:=hd5.at_ hlm
           have i2:(0:Int)≤(m:Int):=by omega
           have i3:(m:Int)<(n1:Int):=by omega
           have hxl:=hx.len
           have hll:=hl.len
           have hxm:=hx.Yn
           have hlm':=hl.Yn
           clear hx hl hp5 hd5
           by_cases hle:r1=n4
           ·subst hle
            have HT:=hid (Ykm hxe.out hde.out HV.out (by omega))
            have he3:((r1:Int) != (r1:Int))=false:=by simp
            clear hxl hll;go_wp2_with fail;go_quiet (fail);go_wp2_with fail;go_roundw
            case rel=>exact ⟨m+1,t+nq,by omega,by go_num,by rw [HWI.out,World.drewN_drewN],HT⟩
            case measure=>simp [intOf]; omega
           ·have he3:((r1:Int) != (n4:Int))=true:=by simp; omega
            have H:Hid (Ug L 1 (Vx D M.length)=12):=hid (Oy HN.out he.out (by
             rw [Mz];intro h;exact Yn6 (by have:=HD.out; omega) hxe.out hde.out (by omega) h.2.2.2))
            have hF:=hid (Yb hbw (below_drewN hB4 t))
            clear hxl hll hle;go_wp2_with fail;go_quiet (fail);go_wp2_with fail;go_ret;exact ⟨by rw [HX.out,H.out]; rfl,by rw [HWI.out]; exact below_drewN hF.out _⟩
          ·have HT:=hid (Nb (P:=Vx D M.length) he.out (by
            rw [Mz]
            have h1:=HL1.out
            have h2:=HL2.out
            have h3:=HD.out
            have h4:=HM.out
            have h5:=HV.out
            rw [show m=D.length by omega] at h5
            exact ⟨HO.out,by omega,by omega,h5⟩) HA.out)
           have hF:=hid (below_drewN hB4 t)
           clear hp5 hd5;go_wp2_with fail;go_roundw
           case rel=>exact ⟨k+1,by omega,by go_num,by rw [HWI.out]; exact hF.out,HT⟩
           case measure=>simp [intOf]; omega
        ·have he2:((n2:Int) != (m2:Int))=true:=by simp; omega
         have H:Hid (Ug L 1 (Vx D M.length)=12):=hid (Oy HN.out he.out (by
          rw [Mz];intro h
          have h2:=HL2.out
          have h4:=HM.out
          have h5:=h.2.2.1
          omega))
         have hF:=hid (Yb hbw hB4)
         clear hn2m;go_wp2_with fail;go_ret;exact ⟨by rw [HX.out,H.out]; rfl,hF.out⟩
       ·have he1:((n1:Int) != (m1:Int))=true:=by simp; omega
        have H:Hid (Ug L 1 (Vx D M.length)=12):=hid (Oy HN.out he.out (by
         rw [Mz];intro h
         have h2:=HL1.out
         have h4:=HD.out
         have h5:=h.2.1
         omega))
        have hF:=hid (Yb hbw hB4)
        clear hn1m;go_wp2_with fail;go_ret;exact ⟨by rw [HX.out,H.out]; rfl,hF.out⟩
      ·rw [decide_eq_false ho] at HC
       have H:Hid (Ug L 1 (Vx D M.length)=12):=hid (Oy HN.out he.out (fun h=>ho h.1))
       clear ho;go_wp2_with fail;refine HC.out.mono ?_;rintro e w4 ⟨rfl,hb4⟩
       have hF:=hid (Yb hbw (hB1.trans (hb4.mono hB1.size)))
       clear hb4 hB1 k0 k1 HC hbf;go_wp2_with fail;go_ret;exact ⟨by rw [HX.out,H.out]; rfl,hF.out⟩
     ·have H:Hid (Ug L 1 (Vx D M.length)=0):=hid (Lb.2 (by
       have h1:=HL.out
       have h2:=HN.out
       have h3:=HA.out
       rw [List.take_of_length_le (by omega)] at h3
       exact ⟨by omega,by omega,h3⟩))
      have hF:=hid (Yb hbw hB)
      go_wp2_with fail;go_ret;exact ⟨by rw [HX.out,H.out]; rfl,hF.out⟩
 ·rw [decide_eq_false hm] at HC
  have HX:=hid (Yd2 (L:=L) hm)
  clear hm;go_enter Tryz.func54,Tryz.ntmps54;go_wp2_with fail;generalize w.alloc (.cells #[.slice B1 m1 d1,.slice B2 m2 d2,.slice B3 m3 d3] 26)=W at hb0 hbl hs1 h1 HC ⊢;refine HC.out.mono ?_;rintro e w2 ⟨rfl,hb2⟩
  have hB:=Yb hb0 hb2
  go_wp2_with fail;go_ret;exact ⟨by rw [HX.out]; rfl,hB⟩
end Go.Proofs.YtkablhecedcngaaGreat
