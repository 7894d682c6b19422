/- DictW -/
import Derived.Test.YtmepdkdeanbbaaaGreatJ12
import Derived.Test.YtmepdkdeanbbaaaGreatJ16
import Derived.Deep.RegionLaw
namespace Go.Proofs.YtmepdkdeanbbaaaGreat
set_option maxRecDepth 100000
set_option maxHeartbeats 8000000
open Go.RowKit
open List renaming length_append→aa,getElem?_eq_getElem→ae,append_assoc→af
open Go.Lib (hid)
variable {n:Nat}{Q:List Pth}
def Vq(e:Nat×Txt):List UInt8:=enc (zig (e.1:Int))++(enc (zig (e.2.length:Int))++e.2)
def U6(Q:List Pth):List UInt8:=enc (zig (Q.length:Int))++(Xa Q).flatMap Vq
theorem Yad{e:Nat×Txt}(h1:e.1<=1000)(h2:e.2.length<=12):(Vq e).length<=32:=by
 have a:=U8 (Tm (n:=(e.1:Int)) (by omega) (by omega))
 have b:=U8 (Tm (n:=(e.2.length:Int)) (by omega) (by omega))
 simp only[Vq,aa];omega
theorem Mn{α β:Type}(f:α->List β){l:List α}{k:Nat}{x:α}(h:l[k]?=some x):(l.take (k+1)).flatMap f=(l.take k).flatMap f++f x:=by
 rw[List.take_add_one,h];simp
theorem Good.Ydm(h:Good n Q){i a:Nat}{s:Txt}(hi:(Xa Q)[i]?=some (a,s)):a<=40/\s.length<=12:=by
 have hlt:i<Q.length:=by have:=(List.getElem?_eq_some_iff.1 hi).1;rwa [Sq]at this
 have hq:=Ry (ae hlt)
 rw[hi]at hq;simp only[Option.some.injEq,Prod.mk.injEq]at hq;obtain⟨rfl,rfl⟩:=hq
 have hm:=List.getElem_mem hlt
 have hs:=h.size
 refine⟨Nat.le_trans Rv hs,?_⟩
 have hne:Q[i]≠[]:=λe=>h.ne_nil (e▸hm)
 have h1:Q[i].getLastD []∈Q[i]:=by
  rw[List.getLastD_eq_getLast?,List.getLast?_eq_some_getLast hne];exact List.getLast_mem hne
 exact(h.nam _ hm _ h1).2.1
theorem Ypm{w:World}{base g:Nat}{pv:Value}{bm:Nat}(h:Dc w base g pv bm n Q){A:Option Addr}{m c:Nat}{l:List UInt8}(hb:Xo w w.heap.size A m c l)(hm:m<=100000):
  Calls Tryz.prog 62 #[.pointer (some ⟨g,0,none⟩),.slice A m c] w λe w'=>∃v,e=.returned v/\Zc w' w.heap.size 5 v (l++U6 Q)/\Below w.heap.size w w':=by
 have hcl:=Ycz A m c l w hb (by omega)
 obtain⟨A2,cap,rfl,hE⟩:=h.form
 have hE':=hid hE
 have hcap:=hE.cap
 clear hE
 have hD:=hid h
 have hQ:=h.good.size
 have hll:l.length=m:=hb.len
 have hz:=Tm (n:=(Q.length:Int)) (by omega) (by omega)
 have hten:=hid (U8 hz)
 have HL:=hid hll
 clear hz hll;go_enter Tryz.func62,Tryz.ntmps62;go_wp2_with fail;refine hcl.mono ?_;rintro e w1 ⟨⟨v1,rfl,hO1⟩,hB1⟩
 have hs1:=hB1.size
 clear hcl;go_wp2_with fail;refine(Jb (hD.out.below hB1)).mono ?_;rintro e w1' ⟨rfl,rfl⟩
 have hlo1:=λk e=>(hO1.lt k e).1
 go_wp2_with fail;refine(Uo v1 l (Q.length:Int) (by omega) (by omega) w1 w.heap.size hO1 hs1 (by have:=HL.out;omega)).mono ?_
 rintro e w2 ⟨v2,rfl,hO2,hG2⟩
 have hB2:=hB1.trans (hG2.Yw hs1 hlo1)
 have hs2:=hB2.size
 have hD2:=hD.out.below hB2
 have c1:=hD2.c1
 have HO2:=hid hO2
 clear hO1 hlo1 hG2 hB1 hD2 hO2 hs1;go_wp2_with fail;go_loopw [5,18] (λv i wr=>∃k:Nat,k<=Q.length/\i=.int .i64 k/\Zc wr w.heap.size 5 v (l++enc (zig (Q.length:Int))++((Xa Q).take k).flatMap Vq)/\Below w.heap.size w wr/\Hid ((((Xa Q).take k).flatMap Vq).length<=32*k)) (λ_ i _=>Q.length-(intOf i).toNat)
 case atStart=>exact⟨0,Nat.zero_le _,rfl,by simpa using HO2.out,hB2,hid (by simp)⟩
 case round=>
  obtain⟨k,hk,rfl,hO,hB,hle⟩:=hrel
  by_cases hlt:k<Q.length
  ·obtain⟨a,s,hent⟩: ∃a s,Hid ((Xa Q)[k]?=some (a,s)):=by
    have:=Ry (ae hlt)
    exact⟨_,_,hid this⟩
   obtain⟨ha40,hs12⟩:=hD.out.good.Ydm hent.out;obtain⟨b,o,rfl,hb1,hc0,hc1⟩:=(hE'.out.below hB).has k a s hent.out
   have hlo:=λk e=>(hO.lt k e)
   have hs:=hB.size
   have hk0:(0:Int)<=(k:Int):=by omega
   have hk1:(k:Int)<(Q.length:Int):=by omega
   have hft:=hid (Mn Vq hent.out)
   have hel:=hid (Yad (e:=(a,s)) (by omega) hs12)
   have Hle2:Hid ((((Xa Q).take (k+1)).flatMap Vq).length<=32*(k+1)):=hid (by rw[hft.out,aa];have:=hle.out;have:=hel.out;omega)
   have Hll:Hid ((l++enc (zig (Q.length:Int))++((Xa Q).take k).flatMap Vq).length<=200000):=hid (by
    simp only[aa]
    have h1:=hle.out;have h2:=hten.out;have h3:=HL.out
    omega)
   have hbk:=Block.new wr 168 #[.int .i64 a,.string ⟨s.toArray⟩]
   have hO3:=hO.alloc (.cells #[.int .i64 a,.string ⟨s.toArray⟩] 168)
   have hc1':wr.cell? ⟨b,o+k*2+1,none⟩=some (.string ⟨s.toArray⟩):=hc1
   have hO3':Zc (wr.alloc (.cells #[.int .i64 a,.string ⟨s.toArray⟩] 168)).drew w.heap.size 5 u5 (l++enc (zig (Q.length:Int))++((Xa Q).take k).flatMap Vq):=hO3.drewN 1
   have hbs:w.heap.size<=(wr.alloc (.cells #[.int .i64 a,.string ⟨s.toArray⟩] 168)).drew.heap.size:=by simp;omega
   have hne:u5.ownBlock≠some wr.heap.size:=λe=>by have:=(hlo _ e).2;omega
   have hbe:Below w.heap.size w (wr.alloc (.cells #[.int .i64 a,.string ⟨s.toArray⟩] 168)).drew:=below_drewN (hB.alloc hs _) 1
   have hbk':Block (wr.alloc (.cells #[.int .i64 a,.string ⟨s.toArray⟩] 168)).drew wr.heap.size 168 _:=hbk.drewN 1
   have Ha:Hid (((a:Int)<=40/\s.length<=12)):=hid (by omega)
   have hput:∀v3 w3,w.heap.size<=w3.heap.size->Zc w3 w.heap.size 5 v3 (l++enc (zig (Q.length:Int))++((Xa Q).take k).flatMap Vq++enc (zig (a:Int)))→
     Calls Tryz.prog 121 #[v3,.string ⟨s.toArray⟩] w3 λe w'=>∃v',e=.returned v'∧Zc w' w.heap.size 5 v' (l++enc (zig (Q.length:Int))++((Xa Q).take (k+1)).flatMap Vq)/\Below w.heap.size w3 w':=λv3 w3 hs3 ho3=>by
    have h1:=Yg0 v3 _ s w3 w.heap.size ho3 hs3 (by
     have h2:=Hll.out
     have h3:=U8 (Tm (n:=(a:Int)) (by omega) (by omega))
     rw[aa];omega)
    rw[hft.out];simpa only[Vq,af]using h1
   have HP:=hid hput
   have HI:=hid (Uo u5 _ (a:Int) (by omega) (by omega) _ w.heap.size hO3' hbs (by have:=Hll.out;omega))
   have Hbe:=hid hbe
   have Hbk:=hid hbk'
   have Hlo:=hid (λk e=>(hlo k e).1)
   have Hbs:=hid hbs
   clear hput hO3 hO3' hbe hbk hbk' hlo hbs hB hc1 hle hO;go_wp2_with fail;go_region_with (first
    |(go_at_call 119;refine HI.out.mono ?_;rintro e w3 ⟨v3,rfl,hO4,hG4⟩;have hbk3:=Hbk.out.grown hG4.1 hne;have d1:w3.cell? ⟨wr.heap.size,1,none⟩=some (.string ⟨s.toArray⟩):=hbk3.cell 1;have hB3:=Hbe.out.trans (hG4.Yw Hbs.out Hlo.out))
    |(go_at_call 121;refine(HP.out v3 w3 hB3.size hO4).mono ?_;rintro e w4 ⟨v4,rfl,hO5,hB5⟩))
   all_goals
    have hF:=hid (show Zc w4 w.heap.size 5 v4 _/\Below w.heap.size w w4 from⟨hO5,hB3.trans hB5⟩)
    clear hO5 hB5 hB3 hO4 hG4 hbk3 d1;go_wp2_with fail;go_roundw
    case rel=>exact⟨k+1,by omega,by go_num,hF.out.1,hF.out.2,Hle2⟩
    case measure=>simp[intOf];omega
  ·have hke:Hid (((Xa Q).take k).flatMap Vq=(Xa Q).flatMap Vq):=hid (by rw[List.take_of_length_le (by rw[Sq];omega)])
   go_wp2_with fail;go_ret;exact⟨_,rfl,by rw[hke.out,af]at hO;exact hO,hB⟩
end Go.Proofs.YtmepdkdeanbbaaaGreat
