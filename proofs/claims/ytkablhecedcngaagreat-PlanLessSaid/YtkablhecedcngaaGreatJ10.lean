/- WideRef, WideRef2, WideRef3, WideRef4 -/
import Derived.Test.YtkablhecedcngaaGreatJ5
namespace Go.Proofs.YtkablhecedcngaaGreat
set_option maxRecDepth 100000
set_option maxHeartbeats 8000000
open Go.RowKit
open Go.Lib (hid)
variable {z:Int}{w:World}{base:Nat}{v:Value}
theorem Aj (z:Int) (w:World) (h0 : -9223372036854775808≤z) (h1:z≤9223372036854775807) :
  Calls Tryz.prog 159 #[.int .i64 z] w fun e w'=>(∃ v,e=.returned v∧Yf w' w.heap.size v (bitsOf 80 z))∧Below w.heap.size w w':=by
 obtain ⟨i0,hi,hz0,hz1,hz2⟩:=info_parts S7;go_enter Tryz.func159,Tryz.ntmps159;go_wp2;go_loopw [0,3,4] (fun m v i wr=>∃ k:Nat,k≤80∧i=.int .i64 k∧m=.int .i64 (shR z k)∧Yf wr w.heap.size v (bitsOf k z)∧Below w.heap.size w wr) (fun _ _ i _=>80 - (intOf i).toNat)
 case atStart=>exact ⟨0,Nat.zero_le _,rfl,rfl,Yf.Zj _ _,Below.refl _ _⟩
 case round =>
  obtain ⟨k,hk,rfl,rfl,ho,hbe⟩:=hrel
  have hlo:=Yg7 (m:=-9223372036854775808) k h0 (by decide)
  have hhi:=Yg6 (m:=9223372036854775807) k h1 (by decide)
  by_cases hlt:k<80
  ·have hsn:=hid (Jo k z)
   have hnx:Hid (shR z (k+1)=shR z k / 2):=hid rfl
   obtain ⟨y,hy⟩ : ∃ y,Hid (shR z k=y):=⟨_,hid rfl⟩;rw [hy.out] at hsn hnx hlo hhi;simp only [hy.out]
   have hand:bits .and .i64 y 1=y % 2:=Yda y
   have hln:=hid (Rq k z)
   have hz:=hbe.size
   go_wp2_with (at_builtin; refine wpList_append_own _ rfl _ _ 213 rfl w.heap.size 3 i0 (.int .i64 0) 1 8 Tryz.underlying213 hi hz0 hz1 hz2 rfl (by decide) _ (bitsOf k z).length ((bitsOf k z).map Xe) rfl (Yf.alloc ho _) _ 1 1 [Xe (y % 2)] rfl rfl (Gx _ _ _ _ (by simp)) (R4 [y % 2]) (by have:=hln.out; unfold maxLen; omega) (by have:=hln.out; omega) (by simp; omega) ?_)
   intro v2 w2 hown hgrow _
   have ho2:Hid (Yf w2 w.heap.size v2 (bitsOf (k+1) z)):=hid (by
    unfold Yf;rw [hsn.out,List.length_append,List.map_append];simpa using hown)
   have hbe2:Hid (Below w.heap.size w w2):=hid ((hbe.alloc hz _).grown hgrow (by simp; omega) (fun g h=>(Yf.lt ho g h).1))
   have hln1:Hid (shR z (k+1)=y / 2):=hid (by rw [hnx.out])
   clear hown hgrow ho hbe hsn hnx hln hand hz;go_wp2_with fail;go_roundw
   case rel=>exact ⟨k+1,by omega,by go_num,by rw [hln1.out],ho2.out,hbe2.out⟩
   case measure=>simp [intOf]; omega
  ·obtain rfl:k=80:=by omega
   clear hlo hhi;go_wp2_with fail;go_ret;exact ⟨⟨_,rfl,ho⟩,hbe⟩
theorem Yrp (A:Option Addr) (m c:Nat) (z:Int) (w:World) (hr:Yx w w.heap.size A m c (bitsOf m z)) (hm:m≤1000) (h0:0≤z) (h1:z≤4611686018427387903) (ht:shR z m=0) :
  Calls Tryz.prog 158 #[.slice A m c,.bool false] w fun e w'=>e=.returned (.int .i64 z)∧w=w':=by
 have hcap:=hr.cap
 have hcm:=hr.Z1
 go_enter Tryz.func158,Tryz.ntmps158;go_wp2;go_loop [5,6] (fun s i=>∃ k:Nat,k≤m∧i=.int .i64 ((k:Int) - 1)∧s=.int .i64 (shR z k)) (fun _ i=>(intOf i+1).toNat)
 case atStart=>exact ⟨m,Nat.le_refl _,rfl,by rw [ht]⟩
 case round =>
  obtain ⟨k,hk,rfl,rfl⟩:=hrel
  rcases k with _ | k
  ·go_wp2_with fail
   go_ret;exact ⟨rfl,rfl⟩
  ·obtain ⟨b,o,x,rfl,hb,hcx,hxe⟩:=hr.at_ (k:=k) (by omega)
   have hx2:Hid (x=shR z k % 2):=hid (by rw [hxe.out,Tn _ _ _ (by omega)])
   have hlo:=Yg7 (m:=0) k h0 (by decide)
   have hhi:=Yg6 (m:=4611686018427387903) k h1 (by decide)
   have e:((k+1:Nat):Int) - 1=(k:Int):=by omega
   have e2:shR z (k+1)=shR z k / 2:=rfl
   rw [e,e2];obtain ⟨y,hy⟩ : ∃ y,Hid (shR z k=y):=⟨_,hid rfl⟩;rw [hy.out] at hx2 hlo hhi ⊢
   have hx3:2*(y / 2)+x=y:=by have:=hx2.out; omega
   have i0:(0:Int)≤(k:Int):=by omega
   have i1:(k:Int)<(m:Int):=by omega
   have hxb:0≤x∧x≤1:=by have:=hx2.out; omega
   obtain ⟨hx0,hx1⟩:=hxb;clear hx2 hxe e e2 hb hr ht
   by_cases hq:k+1=m
   case' pos=>have hq1:((k:Int) == (m:Int) - 1)=true:=by simp; omega
   case' neg=>have hq1:((k:Int) == (m:Int) - 1)=false:=by simp; omega
   all_goals
    clear hq;go_wp2_with fail;go_round
    case rel=>exact ⟨k,by omega,rfl,by rw [hy.out]⟩
    case measure=>simp [intOf]
theorem Yeo (A:Option Addr) (p c:Nat) (z:Int) (w:World) (hr:Yx w w.heap.size A (p+1) c (bitsOf (p+1) z)) (hm:p≤1000) (h0 : -9223372036854775808≤z) (h1:z≤9223372036854775807) (ht:shR z p=0∨shR z p=-1) :
  Calls Tryz.prog 158 #[.slice A (p+1) c,.bool true] w fun e w'=>e=.returned (.int .i64 z)∧w=w':=by
 have hcap:=hr.cap
 have hcm:=hr.Z1
 have ht0:=hid ht
 clear ht;go_enter Tryz.func158,Tryz.ntmps158;go_wp2;go_loop [5,6] (fun s i=>∃ k:Nat,k≤p+1∧i=.int .i64 ((k:Int) - 1)∧((k=p+1∧s=.int .i64 0)∨(k≤p∧s=.int .i64 (shR z k)))) (fun _ i=>(intOf i+1).toNat)
 case atStart=>exact ⟨p+1,Nat.le_refl _,by simp,.inl ⟨rfl,rfl⟩⟩
 case round =>
  obtain ⟨k,hk,rfl,hs⟩:=hrel
  rcases k with _ | k
  ·rcases hs with ⟨h,_⟩ | ⟨_,rfl⟩
   ·omega
   ·go_wp2_with fail
    go_ret;exact ⟨rfl,rfl⟩
  ·obtain ⟨b,o,x,rfl,hb,hcx,hxe⟩:=hr.at_ (k:=k) (by omega)
   have hx2:Hid (x=shR z k % 2):=hid (by rw [hxe.out,Tn _ _ _ (by omega)])
   have hlo:=Yg7 (m:=-9223372036854775808) k h0 (by decide)
   have hhi:=Yg6 (m:=9223372036854775807) k h1 (by decide)
   have e:((k+1:Nat):Int) - 1=(k:Int):=by omega
   have e2:shR z (k+1)=shR z k / 2:=rfl
   have i0:(0:Int)≤(k:Int):=by omega
   have i1:(k:Int)<(p:Int)+1:=by omega
   rw [e]
   rcases hs with ⟨hkp,rfl⟩ | ⟨hkp,rfl⟩
   ·obtain rfl:k=p:=by omega
    have htt:shR z k=0∨shR z k=-1:=ht0.out
    obtain ⟨y,hy⟩ : ∃ y,Hid (shR z k=y):=⟨_,hid rfl⟩;rw [hy.out] at hx2 hlo hhi htt
    have hx3 : -x=y:=by have:=hx2.out; omega
    have hxb:0≤x∧x≤1:=by have:=hx2.out; omega
    obtain ⟨hx0,hx1⟩:=hxb
    have hx4:=hid hx3
    clear hx2 hxe e e2 hb hr htt hkp ht0 hx3;go_wp2_with fail;go_round
    case rel=>exact ⟨k,by omega,rfl,.inr ⟨by omega,by rw [hy.out,← hx4.out]⟩⟩
    case measure=>simp [intOf]
   ·rw [e2]
    obtain ⟨y,hy⟩ : ∃ y,Hid (shR z k=y):=⟨_,hid rfl⟩;rw [hy.out] at hx2 hlo hhi ⊢
    have hx3:2*(y / 2)+x=y:=by have:=hx2.out; omega
    have hq1:((k:Int) == (p:Int))=false:=by simp; omega
    have hxb:0≤x∧x≤1:=by have:=hx2.out; omega
    obtain ⟨hx0,hx1⟩:=hxb;clear hx2 hxe e e2 hb hr hkp ht0;go_wp2_with fail;go_round
    case rel=>exact ⟨k,by omega,rfl,.inr ⟨by omega,by rw [hy.out]⟩⟩
    case measure=>simp [intOf]
theorem Ygz (A B:Option Addr) (c d:Nat) (x y:Int) (w:World) (ha:Yx w w.heap.size A 80 c (bitsOf 80 x)) (hb:Yx w w.heap.size B 80 d (bitsOf 80 y)) :
  Calls Tryz.prog 160 #[.slice A 80 c,.slice B 80 d] w fun e w'=>(∃ v,e=.returned v∧Yf w' w.heap.size v (bitsOf 80 (x+y)))∧Below w.heap.size w w':=by
 obtain ⟨i0,hi,hz0,hz1',hz2⟩:=info_parts S7
 have hc1:=ha.cap
 have hc2:=ha.Z1
 have hd1:=hb.cap
 have hd2:=hb.Z1
 go_enter Tryz.func160,Tryz.ntmps160;go_wp2;go_loopw [5,6,7] (fun v m i wr=>∃ k:Nat,k≤80∧i=.int .i64 k∧m=.int .i64 (Gw x y k)∧Yf wr w.heap.size v (bitsOf k (x+y))∧Below w.heap.size w wr) (fun _ _ i _=>80 - (intOf i).toNat)
 case atStart=>exact ⟨0,Nat.zero_le _,rfl,by rw [Ch],Yf.Zj _ _,Below.refl _ _⟩
 case round =>
  obtain ⟨k,hk,rfl,rfl,ho,hbe⟩:=hrel
  by_cases hlt:k<80
  ·obtain ⟨b1,o1,p,rfl,hl1,hp,hpe⟩:=(ha.below hbe (Nat.le_refl _)).at_ hlt
   obtain ⟨b2,o2,q,rfl,hl2,hq,hqe⟩:=(hb.below hbe (Nat.le_refl _)).at_ hlt
   have hs:=Ymb x y k
   have hn:=Yi7 x y k
   have hm:=Ych x y k
   rw [Tn _ _ _ hlt] at hpe hqe;rw [← hpe.out,← hqe.out] at hs hn;obtain ⟨r,hr⟩ : ∃ r,Hid (Gw x y k=r):=⟨_,hid rfl⟩;rw [hr.out] at hs hn hm ⊢
   have hpb:=Yhr x k
   have hqb:=Yhr y k
   rw [← hpe.out] at hpb;rw [← hqe.out] at hqb
   have hsn:=Jo k (x+y)
   rw [← hs] at hsn
   have hsn:=hid hsn
   have hn:=hid hn
   obtain ⟨hp0,hp1⟩:=hpb;obtain ⟨hq0,hq1⟩:=hqb;obtain ⟨hm0,hm1⟩:=hm
   have hz:=hbe.size
   have hln:=hid (Rq k (x+y))
   have i0' : (0:Int)≤(k:Int):=by omega
   have i1' : (k:Int)<80:=by omega
   clear hs hpe hqe;go_wp2_with fail;go_quiet (fail)
   have ho1:Yf (wr.drewN nq) w.heap.size u5 (bitsOf k (x+y)):=Yf.drewN ho nq
   have hbe1:Below w.heap.size w (wr.drewN nq):=below_drewN hbe nq
   generalize wr.drewN nq=w1 at ho1 hbe1 ⊢
   have hz1:=hbe1.size
   have hsum:0≤p+q+r:=by omega
   clear hl1 hl2 hp hq ho hbe hz;go_wp2_with (at_builtin; refine wpList_append_own _ rfl _ _ 213 rfl w.heap.size 3 i0 (.int .i64 0) 1 8 Tryz.underlying213 hi hz0 hz1' hz2 rfl (by decide) _ (bitsOf k (x+y)).length ((bitsOf k (x+y)).map Xe) rfl (Yf.alloc ho1 _) _ 1 1 [Xe ((p+q+r) % 2)] rfl rfl (Gx _ _ _ _ (by simp)) (R4 [(p+q+r) % 2]) (by have:=hln.out; unfold maxLen; omega) (by have:=hln.out; omega) (by simp; omega) ?_)
   intro v2 w2 hown hgrow _
   have ho2:Hid (Yf w2 w.heap.size v2 (bitsOf (k+1) (x+y))):=hid (by
    unfold Yf;rw [hsn.out,List.length_append,List.map_append];simpa using hown)
   have hbe2:Hid (Below w.heap.size w w2):=hid ((hbe1.alloc hz1 _).grown hgrow (by simp; omega) (fun g h=>(Yf.lt ho1 g h).1))
   clear hown hgrow ho1 hbe1 hsn hln hz1;go_wp2_with fail;go_roundw
   case rel=>exact ⟨k+1,by omega,by go_num,by rw [hn.out],ho2.out,hbe2.out⟩
   case measure=>simp [intOf]; omega
  ·obtain rfl:k=80:=by omega
   go_wp2_with fail;go_ret;exact ⟨⟨_,rfl,ho⟩,hbe⟩
theorem Yf.shape {l:List Int} (h:Yf w base v l) {n:Nat}(hl:l.length=n) (hn:0<n):∃ g c,v=.slice (some ⟨g,0,none⟩) n c∧Yx w w.heap.size (some ⟨g,0,none⟩) n c l∧base≤g∧g<w.heap.size:=by
 subst hl
 rcases h.2 with ⟨rfl,h0⟩ | ⟨g,cap,cur,rfl,hb,hg,hnc,hcm,hcs,ht⟩
 ·omega
 ·have hlt:g<w.heap.size:=(Array.getElem?_eq_some_iff.1 hg).1
  refine ⟨g,cap,rfl,⟨rfl,hnc,hcm,(fun h=>by cases h),fun _=>⟨g,0,rfl,hlt,fun j u hu=>?_⟩⟩,hb,hlt⟩
  have:=World.ownsRow.cells h (g:=g) rfl j u hu
  rwa [Yt] at this
theorem Ni (h:Yf w base v (bitsOf 80 z)):∃ g c,v=.slice (some ⟨g,0,none⟩) 80 c∧Yx w w.heap.size (some ⟨g,0,none⟩) 80 c (bitsOf 80 z)∧base≤g∧g<w.heap.size:=h.shape (Rq 80 z) (by decide)
def Ypu (z:Int):Prop:=-604462909807314587353088≤z∧z<604462909807314587353088
theorem Yls (h:Ypu z):shR z 79=0∨shR z 79=-1:=by
 have h':=Yer (z:=z) (m:=79) (by have:=h.1; omega) (by have:=h.2; omega)
 omega
theorem Yl9 (hz:Ypu z) (h:∀ j,64≤j→j<80→shR z j % 2=shR z 63 % 2):shR z 63=0∨shR z 63=-1:=by
 have he:=Yls hz
 have key:∀ d,d≤16→shR z (79 - d)=shR z 79:=by
  intro d
  induction d with
  | zero=>intro _; rfl
  | succ d ih =>
   intro hd
   have h1:=ih (by omega)
   have h2:shR z (79 - d)=shR z (79 - (d+1)) / 2:=by
    rw [show 79 - d=(79 - (d+1))+1 from by omega]
    rfl
   have h3:shR z (79 - (d+1)) % 2=shR z 63 % 2:=by
    by_cases hj:64≤79 - (d+1)
    ·exact h _ hj (by omega)
    ·rw [show 79 - (d+1)=63 from by omega]
   have h4:=h 79 (by decide) (by decide)
   omega
 rw [← key 16 (by decide)] at he
 exact he
theorem Ynq (h0 : -9223372036854775808≤z) (h1:z≤9223372036854775807) (j:Nat) (hj:64≤j):shR z j % 2=shR z 63 % 2:=by
 have he:shR z 63=0∨shR z 63=-1:=by
  have:=Yer (z:=z) (m:=63) (by omega) (by omega)
  omega
 have h2:=Ypk (j - 63) he
 rw [Yru,show 63+(j - 63)=j from by omega] at h2
 rw [h2]
theorem J4 (b o c:Nat) (z:Int) (w:World) (hr:Yx w w.heap.size (some ⟨b,o,none⟩) 80 c (bitsOf 80 z)) (hz:Ypu z) (n x:Int)
  (hs:(-9223372036854775808≤z∧z≤9223372036854775807∧n=z∧x=0)∨(¬ (-9223372036854775808≤z∧z≤9223372036854775807)∧n=0∧x=14)) :
  Calls Tryz.prog 147 #[.slice (some ⟨b,o,none⟩) 80 c] w fun e w'=>e=.returned (.tuple #[.int .i64 n,.int .i64 x])∧∃ q,w'=w.drewN q:=by
 have hc1:=hr.cap
 have hc2:=hr.Z1
 have hs0:=hid hs
 have hp3:(80:Int)≤(c:Int):=by omega
 obtain ⟨b',o',t,hA,_,hct,hte⟩:=hr.at_ (k:=63) (by decide)
 injection hA with hA; injection hA with hA1 hA2; subst hA1 hA2
 have ht:Hid (t=shR z 63 % 2):=hid (by rw [hte.out,Tn _ _ _ (by decide)])
 clear hs hte;go_enter Tryz.func147,Tryz.ntmps147;go_wp2;go_loopw [4] (fun i wr=>∃ k q:Nat,64≤k∧k≤80∧i=.int .i64 k∧wr=w.drewN q∧Hid (∀ j,64≤j→j<k→shR z j % 2=shR z 63 % 2)) (fun i _=>80 - (intOf i).toNat)
 case atStart=>exact ⟨64,0,Nat.le_refl _,by decide,rfl,rfl,hid (fun j h1 h2=>absurd h2 (by omega))⟩
 case round =>
  obtain ⟨k,q,hk0,hk,rfl,rfl,hall⟩:=hrel
  by_cases hlt:k<80
  ·obtain ⟨b',o',y,hA,_,hcy,hye⟩:=hr.at_ (k:=k) hlt
   injection hA with hA; injection hA with hA1 hA2; subst hA1 hA2
   have hy:Hid (y=shR z k % 2):=hid (by rw [hye.out,Tn _ _ _ hlt])
   have i0:(0:Int)≤(k:Int):=by omega
   have i1:(k:Int)<80:=by omega
   clear hye
   by_cases he:y=t
   case' pos=>have he1:((y:Int) != t)=false:=by simp [he]
   case' neg=>have he1:((y:Int) != t)=true:=by simp [he]
   all_goals
    have hE:=hid he
    clear he;go_wp2_with fail;go_quiet (fail);generalize hw1:(w.drewN q).drewN nq=w1
    have hW:=hid hw1
    clear hw1;go_wp2_with fail
   ·go_ret2
    rcases hs0.out with ⟨h0,h1,_,_⟩ | ⟨_,rfl,rfl⟩
    ·exact absurd (by rw [hy.out,ht.out,Ynq h0 h1 k hk0]) hE.out
    ·exact ⟨rfl,q+nq,by rw [← hW.out,World.drewN_drewN]⟩
   ·go_roundw
    case rel =>
     refine ⟨k+1,q+nq,by omega,by omega,by go_num,by rw [← hW.out,World.drewN_drewN],hid (fun j h1 h2=>?_)⟩
     rcases Nat.lt_or_ge j k with h3 | h3
     ·exact hall.out j h1 h3
     ·rw [show j=k from by omega,← hy.out,← ht.out,hE.out]
    case measure=>simp [intOf]; omega
  ·obtain rfl:k=80:=by omega
   have he:=Yl9 hz hall.out
   rcases hs0.out with ⟨h0,h1,rfl,rfl⟩ | ⟨h1,rfl,rfl⟩
   ·have hH:Yx w w.heap.size (some ⟨b,o,none⟩) 64 c (bitsOf 64 n):=by
     have h:=hr.R8 64 (by decide)
     rwa [Yce 64 80 _ (by decide)] at h
    have q1:=Yeo _ 63 _ _ (w.drewN q) (hH.drewN q) (by decide) h0 h1 he
    have hp4:(64:Int)≤(c:Int):=by omega
    have hall:=hall
    clear he hH hall hs0 ht hct hr hz h0 h1;go_wp2_with fail;refine q1.mono ?_;rintro e w' ⟨rfl,rfl⟩;go_wp2_with fail;go_ret2;exact ⟨rfl,q,rfl⟩
   ·exfalso
    apply h1
    have h2:z=shR z 63*9223372036854775808+z % 9223372036854775808:=by
     rw [Yik]
     have:=Int.mul_ediv_add_emod z (2 ^ 63)
     omega
    omega
theorem Ybm (A:Option Addr) (n c:Nat) (l:List Int) (w:World) (hr:Yx w w.heap.size A n c l) (hx:∀ x∈l,-9223372036854775808≤x∧x≤9223372036854775807) :
  Calls Tryz.prog 148 #[.slice A n c] w fun e w'=>(∃ v,e=.returned v∧Yf w' w.heap.size v (bitsOf 80 (Y2 l)))∧Below w.heap.size w w':=by
 have hlen:=hid hr.len
 have hcap:=hr.cap
 have hcm:=hr.Z1
 go_enter Tryz.func148,Tryz.ntmps148;go_wp2_with fail;refine (Aj 0 _ (by decide) (by decide)).mono ?_
 rintro e w1 ⟨⟨v1,rfl,ho1⟩,hb1⟩;go_wp2_with fail;go_loopw [3,4] (fun v i wr=>∃ k:Nat,k≤n∧i=.int .i64 k∧Yf wr w.heap.size v (bitsOf 80 (Y2 (l.take k)))∧Below w.heap.size w wr) (fun _ i _=>n - (intOf i).toNat)
 case atStart=>exact ⟨0,Nat.zero_le _,rfl,by simpa [Y2] using ho1,hb1⟩
 case round =>
  obtain ⟨k,hk,rfl,ho,hbe⟩:=hrel
  have hz:=hbe.size
  by_cases hlt:k<n
  ·obtain ⟨b,o,y,rfl,hb,hcy,hye⟩:=(hr.below hbe (Nat.le_refl _)).at_ hlt
   have hyb : -9223372036854775808≤y∧y≤9223372036854775807:=by
    rw [hye.out,List.getD_eq_getElem?_getD,List.getElem?_eq_getElem (by rw [hlen.out]; exact hlt)]
    exact hx _ (List.getElem_mem _)
   have hsy:Hid (Y2 (l.take (k+1))=Y2 (l.take k)+y):=hid (by rw [Yac (by rw [hlen.out]; exact hlt),← hye.out])
   obtain ⟨g,d,rfl,hrow,hg,hg1⟩:=Ni ho
   have i0:(0:Int)≤(k:Int):=by omega
   have i1:(k:Int)<(n:Int):=by omega
   clear ho;go_wp2_with fail;refine (Aj y _ hyb.1 hyb.2).mono ?_;rintro e w2 ⟨⟨v2,rfl,ho2⟩,hb2⟩;obtain ⟨g2,d2,rfl,hrow2,hg2,hg3⟩:=Ni ho2
   have hrow3:=(hrow.below hb2 (Nat.le_refl _)).more hb2.size
   have hbe2:=hbe.trans (hb2.mono hz)
   have hz2:=hbe2.size
   clear ho2 hrow hb2 hcy hb;go_wp2_with fail;refine (Ygz _ _ _ _ _ _ _ hrow3 hrow2).mono ?_;rintro e w3 ⟨⟨v3,rfl,ho3⟩,hb3⟩
   have hbe3:=hbe2.trans (hb3.mono hz2)
   have ho4:Hid (Yf w3 w.heap.size v3 (bitsOf 80 (Y2 (l.take (k+1))))):=hid (by rw [hsy.out]; exact ho3.low hz2)
   clear ho3 hb3 hrow3 hrow2 hbe2;go_wp2_with fail;go_roundw
   case rel=>exact ⟨k+1,by omega,by go_num,ho4.out,hbe3⟩
   case measure=>simp [intOf]; omega
  ·obtain rfl:k=n:=by omega
   rw [← hlen.out,List.take_length] at ho
   have ho:=hid ho
   go_wp2_with fail;go_ret;exact ⟨⟨_,rfl,ho.out⟩,hbe⟩
end Go.Proofs.YtkablhecedcngaaGreat
