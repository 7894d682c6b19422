/- BatchA, QryA -/
import Derived.Test.YtkablhecedcngaaGreatJ24
namespace Go.Proofs.YtkablhecedcngaaGreat
set_option maxRecDepth 100000
set_option maxHeartbeats 8000000
open Go.RowKit
open Go.Lib (hid)
variable {w:World}{A:Option Addr}{c n:Nat}{S:Nat→Prop}{L:List Txt}
theorem Yo4 {l:List Int} (h:Row Yr 1 w S A n c l) (hn:n≤1000000) :
  Calls Tryz.prog 132 #[.slice A n c] w (Told Yr 3 1 w l):=by
 have hr:=h.Qr
 clear h;go_enter Tryz.func132,Tryz.ntmps132;go_wp2_with (at_builtin; refine Q7 rfl _ _ rfl w.heap.size _ [] rfl (Yf.Zj w _) _ A n c _ rfl hr (by simp; omega) (Nat.le_refl _) ?_)
 intro v' w' hO hG
 have hbel:=hid (hG.Y4 (Nat.le_refl _) (fun k hk=>by cases hk))
 have hO':=hid (Yf.Yk6 (S:=fun k=>w.heap.size≤k) hO)
 clear hO hG;go_wp2_with fail;go_ret;exact ⟨v',rfl,hO'.out,hbel.out⟩
theorem Ci (w:World) (y:Value) (t:TypeId):∀ j u,[y][j]?=some u→(w.alloc (.cells #[y] t)).cell? ((⟨w.heap.size,0,none⟩ : Addr).add j)=some u:=by
 intro j u hj
 match j,hj with
 | 0,hj=>simp at hj; subst hj; simp [Yt,Zk]
 | j+1,hj=>simp at hj
theorem Ylm {α:Type}{L:List α}{k:Nat}{x:α} (h:L[k]?=some x):L.take k++[x]=L.take (k+1):=by
 rw [List.take_add_one,h]; rfl
theorem Yk4 {α:Type}{E:ElT α}{T:TypeId}{sz:Nat}{v:Value}{L:List α} (h:Vg E T sz w S [v] L):∀ u∈[v],u.oneCell'=true:=by
 intro u hu;rw [List.mem_singleton.1 hu];obtain ⟨A,n,c,e⟩:=Yjs h;injection e with e _
 rw [e]; rfl
theorem Tg {n a b:Int}{r:Bool} (h:Hid (decide (a≤n∧n≤b)=r)) (w:World):Calls Tryz.prog 128 #[.int .i64 n,.int .i64 a,.int .i64 b] w fun e w'=>e=.returned (.bool r)∧w=w':=by
 by_cases h1:a≤n
 ·by_cases h2:n≤b
  ·obtain rfl:r=true:=by rw [← h.out]; exact decide_eq_true ⟨h1,h2⟩
   clear h;go_enter Tryz.func128,Tryz.ntmps128;go_wp2_with fail;go_ret;exact ⟨rfl,rfl⟩
  ·obtain rfl:r=false:=by rw [← h.out]; exact decide_eq_false fun h=>h2 h.2
   clear h;go_enter Tryz.func128,Tryz.ntmps128;go_wp2_with fail;go_ret;exact ⟨rfl,rfl⟩
 ·obtain rfl:r=false:=by rw [← h.out]; exact decide_eq_false fun h=>h1 h.1
  clear h;go_enter Tryz.func128,Tryz.ntmps128;go_wp2_with fail;go_ret;exact ⟨rfl,rfl⟩
theorem Yom (h:Zn w w.heap.size A n c L) (hm:Wu L):Calls Tryz.prog 99 #[.slice A n c] w fun e w'=>e=.returned (.bool true)∧Below w.heap.size w w':=by
 have:=Ow h
 rwa [decide_eq_true hm] at this
theorem Yq7 (h:Zn w w.heap.size A n c L) (hm:¬ Wu L):Calls Tryz.prog 99 #[.slice A n c] w fun e w'=>e=.returned (.bool false)∧Below w.heap.size w w':=by
 have:=Ow h
 rwa [decide_eq_false hm] at this
theorem Sw (w:World) (T1 T2:TypeId) (cs ds:Array Value):Below w.heap.size w ((w.alloc (.cells cs T1)).alloc (.cells ds T2))∧Block ((w.alloc (.cells cs T1)).alloc (.cells ds T2)) w.heap.size T1 cs∧Block ((w.alloc (.cells cs T1)).alloc (.cells ds T2)) (w.heap.size+1) T2 ds:=by
 refine ⟨Yb (Ya w _) (Ya _ _),(Block.new w T1 cs).alloc _,?_⟩
 have h:=Block.new (w.alloc (.cells cs T1)) T2 ds
 rwa [show (w.alloc (.cells cs T1)).heap.size=w.heap.size+1 by simp] at h
theorem Ymy {B1 B2 B3:Option Addr}{m1 d1 m2 d2 m3 d3:Nat}{D:List Yg}{d v:Int}{L:List (List Txt)} 
  (hs:Xf w w.heap.size B1 m1 d1 D) (h:Row (Zf Yy 1) 1 w S A n c L) :
  Calls Tryz.prog 90 #[V6 B1 m1 d1 B2 m2 d2 B3 m3 d3,.agg #[.int .i64 d,.int .i64 v,.slice A n c]] w fun e w'=>e=.returned (.bool (decide (U5 D (d,v,L))))∧Below w.heap.size w w':=by
 have hn:=h.Yn
 have HL:=hid h.len
 have HD:=hid hs.len
 have hm1:=hs.Yn
 obtain ⟨hb0,hbs,hbl⟩:=Sw w 26 86 #[.slice B1 m1 d1,.slice B2 m2 d2,.slice B3 m3 d3] #[.int .i64 d,.int .i64 v,.slice A n c]
 have h0:=h.mv Zr (Mv.Yc hb0 S)
 have hd0:=hs.Yc hb0
 clear hs h
 by_cases hd:0≤d∧d≤(m1:Int) - 1
 ·obtain ⟨k,rfl⟩ : ∃ k:Nat,d=(k:Int):=⟨d.toNat,by omega⟩
  have hk:k<m1:=by omega
  have H1:Hid (decide ((0:Int)≤(k:Int)∧(k:Int)≤(m1:Int) - 1)=true):=hid (decide_eq_true hd)
  have i0:(0:Int)≤(k:Int):=by omega
  have i1:(k:Int)<(m1:Int):=by omega
  go_enter Tryz.func90,Tryz.ntmps90;go_wp2_with fail;generalize (w.alloc (.cells #[.slice B1 m1 d1,.slice B2 m2 d2,.slice B3 m3 d3] 26)).alloc (.cells #[.int .i64 k,.int .i64 v,.slice A n c] 86)=W at hb0 hbl hbs h0 hd0 ⊢;obtain ⟨b,o,x,A',n',c',l,rfl,_,g1,g2,hl,he⟩:=hd0.at_ hk
  have HI:=hid (Cv (v:=v) (by have:=HD.out; omega) he.out hl.len HL.out)
  have hlm:=hl.Yn
  have k0:W.cell? ⟨w.heap.size+1,0,none⟩=some (.int .i64 k):=hbl.cell 0
  have k1:W.cell? ⟨w.heap.size+1,1,none⟩=some (.int .i64 v):=hbl.cell 1
  have k2:W.cell? ⟨w.heap.size+1,2,none⟩=some (.slice A n c):=hbl.cell 2
  have s0:W.cell? ⟨w.heap.size,0,none⟩=some (.slice (some ⟨b,o,none⟩) m1 d1):=hbs.cell 0
  have hz0:=hb0.size
  clear hd hl hd0 hbs
  by_cases hv:1≤v∧v≤(n' : Int)
  ·have H2:Hid (decide ((1:Int)≤v∧v≤(n' : Int))=true):=hid (decide_eq_true hv)
   have HV:=hid hv
   clear hv;go_big_quiet ((first | (go_at_call 128; with_reducible exact P1 (Tg H1 _)) | (go_at_call 128; with_reducible exact P1 (Tg H2 _))))
   have hbq:=below_drewN (Below.refl W.heap.size W) nq
   by_cases hm:1≤(n:Int)∧(n:Int)≤6
   ·have H3:Hid (decide ((1:Int)≤(n:Int)∧(n:Int)≤6)=true):=hid (decide_eq_true hm)
    go_wp2_with fail;refine (Tg H3 _).mono ?_;rintro e w2 ⟨rfl,rfl⟩
    have h1:Row (Zf Yy 1) 1 W (fun b=>S b∧b<W.heap.size) A n c L:=h0.mv Zr (Mv.to W fun b hb hl=>⟨hb,hl⟩)
    have HS:∀ b,(S b∧b<W.heap.size)→b<W.heap.size:=fun b hb=>hb.2
    have HBL:=hid hbl
    clear h0 hbl g1 g2 s0 k0 k1;go_wp2_with fail;clear k2;go_loopw [37] (fun i wr=>∃ j:Nat,j≤n∧i=.int .i64 j∧Hid (∀ p∈L.take j,Wu p∧(p.length:Int)=v)∧Below W.heap.size W wr) (fun i _=>n - (intOf i).toNat)
    case atStart=>exact ⟨0,Nat.zero_le _,rfl,hid (fun p hp=>by simp at hp),hbq⟩
    case round =>
     obtain ⟨j,hj,rfl,HA,hB⟩:=hrel
     by_cases hlt:j<n
     ·obtain ⟨b3,o3,A3,n3,c3,y,rfl,_,_,g3,hy,hye⟩:=(h1.mv Zr (Mv.below hB HS)).at1 hlt
      have j0:(0:Int)≤(j:Int):=by omega
      have j1:(j:Int)<(n:Int):=by omega
      have q1:wr.cell? ⟨w.heap.size+1,1,none⟩=some (.int .i64 v):=(HBL.out.below hB HBL.out.lt).cell 1
      have hT:=hy.Ea
      have hly:=hy.len
      have hnm:=hy.Yn
      clear hy
      by_cases hle:(n3:Int)=v
      ·have he3:((n3:Int) != v)=false:=by rw [bne_eq_false_iff_eq]; exact hle
       have HLE:=hid (show ((y.length:Nat):Int)=v by rw [hly]; exact hle)
       clear hle hly
       by_cases hmy:Wu y
       ·have HM:=hid hmy
        have HN:=hid (Ox (P:=fun p=>Wu p∧(p.length:Int)=v) hye.out ⟨hmy,HLE.out⟩ HA.out)
        clear hmy;go_wp2_with fail;refine (Yom hT HM.out).mono ?_;rintro e w3 ⟨rfl,hb3⟩
        have hB3:=hB.trans (hb3.mono hB.size)
        clear hB hb3 hT g3 q1 he3;go_wp2_with fail;go_roundw
        case rel=>exact ⟨j+1,by omega,by go_num,HN,hB3⟩
        case measure=>simp [intOf]; omega
       ·have HM:=hid hmy
        have H:Hid (decide (U5 D ((k:Int),v,L))=false):=hid (by
         rw [decide_eq_false_iff_not,HI.out];intro h;exact HM.out (h.2.2 y (List.mem_of_getElem? hye.out)).1)
        clear hmy;go_wp2_with fail;refine (Yq7 hT HM.out).mono ?_;rintro e w3 ⟨rfl,hb3⟩
        have hB3:=hb0.trans ((hB.trans (hb3.mono hB.size)).mono hz0)
        clear hB hb3 hT g3 q1 he3;go_wp2_with fail;go_ret;exact ⟨by rw [H.out]; rfl,hB3⟩
      ·have he3:((n3:Int) != v)=true:=by rw [bne_iff_ne]; exact hle
       have H:Hid (decide (U5 D ((k:Int),v,L))=false):=hid (by
        rw [decide_eq_false_iff_not,HI.out];intro h
        have:=(h.2.2 y (List.mem_of_getElem? hye.out)).2
        rw [hly] at this;exact hle this)
       have hB3:=hb0.trans (hB.mono hz0)
       clear hle hly;go_wp2_with fail;go_ret;exact ⟨by rw [H.out]; rfl,hB3⟩
     ·have H:Hid (decide (U5 D ((k:Int),v,L))=true):=hid (by
       have h3:=HA.out
       rw [List.take_of_length_le (by have:=HL.out; omega)] at h3
       rw [decide_eq_true_iff,HI.out];exact ⟨HV.out,hm,h3⟩)
      have hB3:=hb0.trans (hB.mono hz0)
      go_wp2_with fail;go_ret;exact ⟨by rw [H.out]; rfl,hB3⟩
   ·have H3:Hid (decide ((1:Int)≤(n:Int)∧(n:Int)≤6)=false):=hid (decide_eq_false hm)
    have H:Hid (decide (U5 D ((k:Int),v,L))=false):=hid (by
     rw [decide_eq_false_iff_not,HI.out];exact fun h=>hm h.2.1)
    have hB3:=hb0.trans (hbq.mono hz0)
    clear hm;go_wp2_with fail;refine (Tg H3 _).mono ?_;rintro e w2 ⟨rfl,rfl⟩;go_wp2_with fail;go_ret;exact ⟨by rw [H.out]; rfl,hB3⟩
  ·have H2:Hid (decide ((1:Int)≤v∧v≤(n' : Int))=false):=hid (decide_eq_false hv)
   have H:Hid (decide (U5 D ((k:Int),v,L))=false):=hid (by
    rw [decide_eq_false_iff_not,HI.out];exact fun h=>hv h.1)
   clear hv;go_big_quiet ((first | (go_at_call 128; with_reducible exact P1 (Tg H1 _)) | (go_at_call 128; with_reducible exact P1 (Tg H2 _))))
   have hB3:=hb0.trans ((below_drewN (Below.refl W.heap.size W) nq).mono hz0)
   go_wp2_with fail;go_ret;exact ⟨by rw [H.out]; rfl,hB3⟩
 ·have H1:Hid (decide ((0:Int)≤d∧d≤(m1:Int) - 1)=false):=hid (decide_eq_false hd)
  have H:=hid (decide_eq_false (Cu (v:=v) (L:=L) HD.out hd))
  clear hd;go_enter Tryz.func90,Tryz.ntmps90;go_wp2_with fail;generalize (w.alloc (.cells #[.slice B1 m1 d1,.slice B2 m2 d2,.slice B3 m3 d3] 26)).alloc (.cells #[.int .i64 d,.int .i64 v,.slice A n c] 86)=W at hb0 hbl hbs h0 hd0 ⊢
  have k0:W.cell? ⟨w.heap.size+1,0,none⟩=some (.int .i64 d):=hbl.cell 0
  have s0:W.cell? ⟨w.heap.size,0,none⟩=some (.slice B1 m1 d1):=hbs.cell 0
  have hz0:=hb0.size
  go_big_quiet ((go_at_call 128; with_reducible exact P1 (Tg H1 _)))
  have hB3:=hb0.trans ((below_drewN (Below.refl W.heap.size W) nq).mono hz0)
  go_wp2_with fail;go_ret;exact ⟨by rw [H.out]; rfl,hB3⟩
end Go.Proofs.YtkablhecedcngaaGreat
