/- CubE, CubG, CubH, CubI, CubJ, CubL, CubG2, CubQ, CubU, CubP2, CubV, CubV3, CubX, CubY, CubY2 -/
import Derived.Test.YtkablhecedcngaaGreatJ1
import Derived.Test.YtkablhecedcngaaGreatJ11
import Derived.Test.YtkablhecedcngaaGreatJ30
import Derived.Test.YtkablhecedcngaaGreatJ34
import Derived.Test.YtkablhecedcngaaGreatJ44
import Derived.Deep.DeepCutAuto
import Derived.LoopIn
import Derived.LoopNIn
import Derived.RangeFuncBound
import Derived.RangeFuncNested
import Derived.Shelf.AbstractIn
import Derived.Shelf.RegionOpen
import Derived.Shelf.SlMaps.Clone
import Derived.Shelf.SlSortCmp.NoneTotal
namespace Go.Proofs.YtkablhecedcngaaGreat
set_option maxRecDepth 100000
set_option maxHeartbeats 8000000
open Go.RowKit
open Go.Lib (hid)
variable {W Wd b base c g m n:Nat}{w w':World}{C:Cub}{L M X k:List Int}{A:Option Addr}{x:PC}{v:Value}
section
open Go.RowKit Go.Maps Go.Sort Go.Shelf
attribute [local go_sem] Oper.semAt_some
theorem Ykh:Tryz.prog.keyTypeAt 4 177=true:=by kernel_rfl
theorem Ynu:Go.WideMaps.KeyLaw Tryz.prog 177:=deep_law_laid (show laidOutB Tryz.prog=true by kernel_rfl) (m:=4) (by decide) (of_decide_eq_true (by kernel_rfl)) Ykh (by kernel_rfl)
theorem Ynv (hW:W≤3):Hd 177 kv3 W :=
 Ysm (Keyed.of_law Ynu) Tryz.underlying177 Tryz.underlying3 (by kernel_rfl) (by kernel_rfl) (by kernel_rfl) (of_decide_eq_true (by kernel_rfl)) hW
abbrev MJ (W:Nat) (w:World) (b:Nat) (F:Lit→Option Value) (J:List (List Int)):Prop:=Uy 177 kv3 W w b F J
abbrev RJ (W:Nat) (w:World) (b r:Nat) (F:Lit→Option Value) (J acc:List (List Int)) (cnt:Nat):Prop:=Uj 177 kv3 W w b r F J acc cnt
theorem Ynz (hW:Wd≤3) (n:Nat) (hn:1≤n) (l Bm b:Nat) {F:Lit→Option Value}{J:List (List Int)}(I Ix:List (List Int)→World→Prop)
  (hY:∀ pre x W,I pre W→pre.length<J.length→YieldAt Fence.wide (n - 1) Tryz.prog l #[kv3 x] W fun e W'=>(e=.returned (.bool true)∧I (pre++[x]) W'∧KeepsWalks W W')∨(e=.returned (.bool false)∧Ix (pre++[x]) W'))
  (W:World) (hI:AbidesFrom W.heap.size I) (hm:W.cell? ⟨Bm,0,none⟩=some (.map (some b))) (hown:MJ Wd W b F J) (h0:I [] W) :
  CallsIn Fence.wide n Tryz.prog 170 #[.func (.yield l) #[] #[],.pointer (some ⟨Bm,0,none⟩)] W fun e W'=>(∃ v,e=.returned v)∧((∃ xs,xs.Perm J∧I xs W')∨∃ pre,Ix pre W'):=by
 have T:=Ynv hW
 refine callsIn_of_wp Tryz.func170 rfl trivial ?_ rfl;simp only [Tryz.ntmps170,List.size_toArray,List.length_cons,List.length_nil,Nat.reduceAdd,Nat.reduceSub,Array.replicate_succ,Array.replicate_zero,List.push_toArray,List.append_toArray,List.nil_append,List.cons_append]
 gi_wp2_with (first
  | (gi_at_range; refine Jg _ rfl _ 117 rfl 184 T Tryz.underlying117 b F J rfl hown ?_; intro w0 hrg0 hg0 hs0)
  | gi_in)
 go_frame
 gi_loopw [3] (fun _ wr=>∃ (cnt:Nat) (ss:List (List Int)),RJ Wd wr b W.heap.size F J ss cnt∧I ss wr) (fun _ wr=>wr.rangeLeft b W.heap.size)
 case atStart =>
  exact ⟨_,[],hrg0,hI [] W w0 none h0 hg0 (fun r e=>by cases e)⟩
 case round =>
  obtain ⟨cnt,ss,hrg,hIs⟩:=hrel
  gi_wp2_with (first
   | (gi_at_next; refine Hj _ rfl _ rfl T rfl hrg ?_ ?_)
   | gi_in)
  ·intro hp
   gi_wp2
   go_end0;exact ⟨⟨_,rfl⟩,.inl ⟨ss,hp,hIs⟩⟩
  ·intro k kl v w2 cnt2 hk hnk hkl hF hrg2 hlt hg2 hs2 hen
   have hI2:I ss w2:=hI ss wr w2 (some W.heap.size) hIs hg2 (fun r e=>by cases e; exact ⟨Nat.le_refl _,by obtain ⟨D,left,h1,_⟩:=hrg.rng; exact h1.iter_walk⟩)
   have hlen:ss.length<J.length:=by
    have:=(Ykz hrg2.nodup hrg2.key)
    simp at this;omega
   obtain ⟨x,y,z,hxyz⟩ : ∃ x y z,Hid (k.getD 0 0=x∧k.getD 1 0=y∧k.getD 2 0=z):=⟨_,_,_,hid ⟨rfl,rfl,rfl⟩⟩
   have ek:Hid (kv3 k=.agg #[.int .i64 x,.int .i64 y,.int .i64 z]):=hid (by unfold kv3; rw [hxyz.out.1,hxyz.out.2.1,hxyz.out.2.2])
   have hI3:I ss (w2.alloc (.cells #[.int .i64 x,.int .i64 y,.int .i64 z] 177)):=hI ss w2 _ none hI2 (World.grownBy_alloc w2 _ none) (fun r e=>by cases e)
   obtain ⟨fn,tmps,assign,body,hy,hR⟩:=hY ss k _ hI3 hlen
   have hrg3':=hrg2.alloc (.cells #[.int .i64 x,.int .i64 y,.int .i64 z] 177)
   rw [ek.out] at hen hy ⊢;clear hs2
   gi_wp2
   refine hR.mono ?_;rintro e W3 (⟨rfl,hI4,hk4⟩ | ⟨rfl,hIx⟩)
   ·have hrg4:=hrg3'.of_walks hk4
    gi_wp2
    go_roundw
    case rel=>exact ⟨cnt2,ss++[k],hrg4,hI4⟩
    case measure=>rw [hrg4.left,hrg.left]; exact hlt
   ·gi_wp2
    refine bodyPost_ret (results_none rfl _ _ _) rfl ?_;exact ⟨⟨_,rfl⟩,.inr ⟨ss++[k],hIx⟩⟩
theorem Yd1 (n:Nat) (mb:Option Nat) (w:World) :
  CallsIn Fence.wide n Tryz.prog 155 #[.map mb] w fun e w'=>e=.returned (.func (.func 170) #[] #[.pointer (some ⟨w.heap.size,0,none⟩)])∧w'=w.alloc (.cells #[.map mb] 117):=by
 refine callsIn_of_wp Tryz.func155 rfl trivial ?_ rfl;simp only [Tryz.ntmps155,List.size_toArray,List.length_cons,List.length_nil,Nat.reduceAdd,Nat.reduceSub,Array.replicate_succ,Array.replicate_zero,List.push_toArray,List.append_toArray,List.nil_append,List.cons_append]
 gi_wp2
 go_ret;exact ⟨rfl,rfl⟩
theorem Ygd (hW:Wd≤3) (n:Nat) (hn:1≤n) (Bm b:Nat) {F:Lit→Option Value}{J:List (List Int)}(w:World) (hm:w.cell? ⟨Bm,0,none⟩=some (.map (some b))) (hown:MJ Wd w b F J) :
  SeqStopsK Fence.wide n Tryz.prog 170 #[.pointer (some ⟨Bm,0,none⟩)] (fun k=>#[kv3 k]) KeepsWalks (fun xs=>xs.Perm J) (fun _=>True) J.length w:=fun l I Ix W hb hI _ hY h0=>by
 have hlt:Bm<w.heap.size:=World.block_lt_of_cell? w _ hm
 refine (Ynz hW n hn l Bm b I Ix hY W hI ((hb.cell (p:=⟨Bm,0,none⟩) hlt).trans hm) (hown.below hb hown.lt) h0).mono ?_;rintro e W' ⟨h1,h2 | ⟨pre,h2⟩⟩
 ·exact ⟨h1,.inl h2⟩
 ·exact ⟨h1,.inr ⟨pre,trivial,h2⟩⟩
end
section
open Go.RowKit Go.Maps Go.Sort Go.Shelf
attribute [local go_sem] Oper.semAt_some
theorem Ynp:(Tryz.prog.info? 177).map (fun i=>(i.zero,i.size,i.bytes))=some (some (.agg #[.int .i64 0,.int .i64 0,.int .i64 0]),3,24):=by kernel_rfl
def kc3 (k:List Int):List Value:=[.int .i64 (k.getD 0 0),.int .i64 (k.getD 1 0),.int .i64 (k.getD 2 0)]
theorem Yqw (A:List (List Int)):(A.flatMap kc3).length=A.length*3:=by
 induction A with
 | nil=>rfl
 | cons a A ih=>rw [List.flatMap_cons,List.length_append,ih]; simp [kc3]; omega
theorem Ydk {W W':World} (h:KeepsOthers W W'):KeepsWalks W W':=⟨h.size,fun k o hk hw=>h.same k o hk (by cases o <;> first | rfl | cases hw)⟩
theorem Yi5 {β:Type} (B:Nat) (t:TypeId) (cs:Array Value):Own (fun (_:β) W=>Block W B t cs):=fun _ X Y row hs hg hrow =>
 (hg.block B hs.lt (fun e'=>by obtain ⟨o,ho,hc⟩:=hrow B e'.symm; rw [show X.heap[B]?=_ from hs] at ho; cases ho; cases hc)).trans hs
theorem Yqz (w:World) (x y z:Value) (t:TypeId) (g:Nat) (hg:g=w.heap.size):∀ j u,[x,y,z][j]?=some u→(w.alloc (.cells #[x,y,z] t)).cell? ((⟨g,0,none⟩ : Addr).add j)=some u:=by
 intro j u hj;subst hg;rw [Yt,Nat.zero_add,Zk];simpa using hj
theorem Yaj (n:Nat) (hn:3≤n) (g:Nat) (lb:Array Value) (eg:∀ args w,(callFunc g args).run Tryz.prog w=.ok (.enter g args) w) (S Sp:List (List Int)→Prop) (N:Nat) (hN:N≤1000000) (w:World)
  (hseq:SeqStopsK Fence.wide (n - 1) Tryz.prog g lb (fun k=>#[kv3 k]) KeepsWalks S Sp N w) :
  CallsIn Fence.wide n Tryz.prog 173 #[.slice none 0 0,.func (.func g) #[] lb] w fun e w'=>∃ (v:Value) (A:List (List Int)),e=.returned v∧S A∧w'.ownsRow w.heap.size 177 3 v A.length (A.flatMap kc3)∧Below w.heap.size w w':=by
 have h1:1≤n:=by omega
 refine callsIn_of_wp_marks Tryz.func173 rfl trivial ?_ rfl;simp only [Tryz.ntmps173,List.size_toArray,List.length_cons,List.length_nil,Nat.reduceAdd,Nat.reduceSub,Array.replicate_succ,Array.replicate_zero,List.push_toArray,List.append_toArray,List.nil_append,List.cons_append]
 gi_wp2
 have bB:=Boxed.new w 207 (.slice none 0 0)
 have hB0:Below w.heap.size w (w.alloc (.cells #[.slice none 0 0] 207)):=Ya w _
 have hsz:(w.alloc (.cells #[.slice none 0 0] 207)).heap.size=w.heap.size+1:=by simp
 obtain ⟨W0,hW0⟩ : ∃ W0,w.alloc (.cells #[.slice none 0 0] 207)=W0:=⟨_,rfl⟩;rw [hW0] at bB hB0 hsz ⊢;clear hW0;refine wpIn_rangeFunc_ownH rfl h1 (gf:=g) (lb:=lb) rfl trivial eg hseq walksK_t walksK_b hB0 (fun _=>rfl)
  (fun (pre:List (List Int)) W=>(∃ v,Boxed W w.heap.size 207 v∧W.ownsRow w.heap.size 177 3 v pre.length (pre.flatMap kc3)∧True)∧Below w.heap.size w W)
  (fun _ _ _=>False)
  (OwnFrom.and (Own.from (holdsRow_own w.heap.size w.heap.size 207 177 3 (fun pre:List (List Int)=>pre.length) (fun pre:List (List Int)=>pre.flatMap kc3) (fun _ _=>True)) _) (ownFrom_below (Nat.le_refl _) (by omega)))
  (fun _ _ _ _ _ hs _ _=>hs)
  ⟨⟨_,bB,World.ownsRow_nil _ _ _ _,trivial⟩,hB0⟩
  (fun k a' W=>∃ Bx,w.heap.size<Bx∧Block W Bx 177 (kc3 k).toArray∧a'={ tmps:=#[.slice none 0 0,.func (.func g) #[] lb,.pointer (some ⟨w.heap.size,0,none⟩),undef,.slice none 0 0,.pointer (some ⟨Bx,0,none⟩),.func (.func g) #[] lb,kv3 k,undef,undef,undef,undef,undef],defers:=[] })
  (fun k a' _ X Y row hs hg hr=>by obtain ⟨Bx,h1,h2,h3⟩:=hs; exact ⟨Bx,h1,Yi5 (β:=Unit) Bx _ _ () X Y row h2 hg (fun r e=>(hr r e).2),h3⟩)
  ?assign ?body ?done ?stop
 case assign =>
  rintro l pre k W K ⟨⟨v,bv,hr,-⟩,hB⟩ hK;obtain ⟨x,y,z,hxyz⟩ : ∃ x y z,Hid (k.getD 0 0=x∧k.getD 1 0=y∧k.getD 2 0=z):=⟨_,_,_,hid ⟨rfl,rfl,rfl⟩⟩
  have ek:kv3 k=.agg #[.int .i64 x,.int .i64 y,.int .i64 z]:=by unfold kv3; rw [hxyz.out.1,hxyz.out.2.1,hxyz.out.2.2]
  have ec:(kc3 k).toArray=#[.int .i64 x,.int .i64 y,.int .i64 z]:=by unfold kc3; rw [hxyz.out.1,hxyz.out.2.1,hxyz.out.2.2]
  rw [ek,ec] at hK;rw [ek]
  have hZ:=hB.size
  have HK:=hid fun a' W'=>hK a' W'
  clear hK ek ec
  gi_wp2
  exact HK.out _ _ ((KeepsOthers.alloc _ _).from _) (KeepsWalks.alloc _ _) ⟨⟨v,bv.alloc _,hr.alloc _,trivial⟩,hB.alloc hZ _⟩ ⟨W.heap.size,bv.lt,Block.new W _ _,rfl⟩
 case body =>
  rintro l pre k a' W hl _ ⟨⟨v,bv,hr,-⟩,hB⟩ ⟨Bx,hBx,bX,rfl⟩ hlt;obtain ⟨x,y,z,hxyz⟩ : ∃ x y z,Hid (k.getD 0 0=x∧k.getD 1 0=y∧k.getD 2 0=z):=⟨_,_,_,hid ⟨rfl,rfl,rfl⟩⟩
  have ek:kv3 k=.agg #[.int .i64 x,.int .i64 y,.int .i64 z]:=by unfold kv3; rw [hxyz.out.1,hxyz.out.2.1,hxyz.out.2.2]
  have ec:kc3 k=[.int .i64 x,.int .i64 y,.int .i64 z]:=by unfold kc3; rw [hxyz.out.1,hxyz.out.2.1,hxyz.out.2.2]
  rw [ec] at bX;rw [ek]
  have EC:=hid ec
  clear ek ec
  have x0:W.cell? ⟨Bx,0,none⟩=some (.int .i64 x):=bX.cell 0
  have x1:W.cell? ⟨Bx,1,none⟩=some (.int .i64 y):=bX.cell 1
  have x2:W.cell? ⟨Bx,2,none⟩=some (.int .i64 z):=bX.cell 2
  have hc:=bv.cell
  have hZ:=hB.size
  obtain ⟨i0,hi,hz0,hz1,hz2⟩:=info_parts Ynp
  have hlen:pre.length≤1000000:=by omega
  have hone:∀ u∈[Value.int .i64 x,.int .i64 y,.int .i64 z],u.oneCell'=true:=by
   intro u hu;simp at hu
   rcases hu with rfl | rfl | rfl <;> rfl
  have hTe:207≠177:=by decide
  clear hlt
  gi_wp2_with (gi_at_builtin; refine wpListIn_append_own _ rfl _ _ 207 rfl w.heap.size 177 i0 _ 3 24 Tryz.underlying207 hi hz0 hz1 hz2 rfl (by decide) _ _ _ rfl (hr.alloc _) ⟨W.heap.size,0,none⟩ 1 1 [.int .i64 x,.int .i64 y,.int .i64 z] rfl rfl (Yqz W _ _ _ _ _ rfl) hone (by unfold maxLen; omega) (by omega) (by rw [World.size_alloc]; omega) ?_; intro v' w1 hown' hgrow _; obtain ⟨g',cap',rfl⟩:=ownsRow_succ hown'; obtain ⟨hv1,hv2,hr2,hk2,hb2⟩:=bv.appended hTe hr hZ (Nat.le_refl _) hown' hgrow; have hc1:=hv1.cell; have hf1:=hv1.frozen)
  refine ⟨hk2.from _,Ydk hk2,⟨_,hv2,?_,trivial⟩,hB.trans hb2⟩
  rw [List.flatMap_append,List.length_append];simpa [EC.out] using hr2
 case done =>
  rintro D A W hD hS ⟨⟨v,bv,hr,-⟩,hB⟩ hK
  have hc:=bv.cell
  gi_wp2
  refine ⟨by simp,.inl ⟨_,_,rfl,run_takeDeferred hK,?_⟩⟩
  exact ⟨_,results_tmp rfl _ _ _,v,A,rfl,hS,ownsRow_putObj hr _ hK rfl,hB.trans (belowK_b (w:=w) (Nat.le_refl _) W D _ _ (by omega) hK rfl rfl)⟩
 case stop =>
  rintro D c pre W hD _ h _;exact h.elim
end
section
open Go.RowKit Go.Maps Go.Sort Go.Shelf
attribute [local go_sem] Oper.semAt_some
theorem Yfs (n:Nat) (hn:4≤n) (g:Nat) (lb:Array Value) (eg:∀ args w,(callFunc g args).run Tryz.prog w=.ok (.enter g args) w) (S Sp:List (List Int)→Prop) (N:Nat) (hN:N≤1000000) (w:World)
  (hseq:SeqStopsK Fence.wide (n - 1 - 1) Tryz.prog g lb (fun k=>#[kv3 k]) KeepsWalks S Sp N w) :
  CallsIn Fence.wide n Tryz.prog 168 #[.func (.func g) #[] lb] w fun e w'=>∃ (v:Value) (A:List (List Int)),e=.returned v∧S A∧w'.ownsRow w.heap.size 177 3 v A.length (A.flatMap kc3)∧Below w.heap.size w w':=by
 have h1:1≤n:=by omega
 refine callsIn_of_wp Tryz.func168 rfl trivial ?_ rfl;simp only [Tryz.ntmps168,List.size_toArray,List.length_cons,List.length_nil,Nat.reduceAdd,Nat.reduceSub,Array.replicate_succ,Array.replicate_zero,List.push_toArray,List.append_toArray,List.nil_append,List.cons_append]
 have hA:=Yaj (n - 1) (by omega) g lb eg S Sp N hN w hseq
 have hfn:Fence.wide.fn 173:=trivial
 gi_wp2_with (gi_at_call 173; refine hA.mono ?_; rintro e w' ⟨v,A,rfl,hS,hrow,hb⟩)
 go_ret;exact ⟨v,A,rfl,hS,hrow,hb⟩
theorem Ycs (hW:Wd≤3) {Bm b:Nat}{F:Lit→Option Value}{J:List (List Int)}{w:World}(hm:w.cell? ⟨Bm,0,none⟩=some (.map (some b))) (hown:MJ Wd w b F J) (hJ:J.length≤1000000) :
  Calls Tryz.prog 168 #[.func (.func 170) #[] #[.pointer (some ⟨Bm,0,none⟩)]] w fun e w'=>∃ (v:Value) (A:List (List Int)),e=.returned v∧A.Perm J∧w'.ownsRow w.heap.size 177 3 v A.length (A.flatMap kc3)∧Below w.heap.size w w':=by
 refine (callsIn_wide (n:=10)).1 ?_;exact Yfs 10 (by decide) _ _ (enters_of Tryz.func170 (by kernel_rfl) rfl) _ _ J.length hJ w (Ygd hW 8 (by decide) Bm b w hm hown)
/-! ### sorted -/
theorem Yc1 (d:List (Int × Int × Int)) (i c:Nat) (hc:c<3) (x:Int × Int × Int) (hx:d[i]?=some x):(d.flatMap Uz)[i*3+c]?=(Uz x)[c]?:=by
 induction d generalizing i with
 | nil=>simp at hx
 | cons a d ih =>
  rw [List.flatMap_cons]
  cases i with
  | zero =>
   simp at hx;subst hx;rw [Nat.zero_mul,Nat.zero_add,List.getElem?_append_left (by simpa [Uz] using hc)]
  | succ i =>
   rw [List.getElem?_append_right (by simp [Uz]; omega)]
   have e:(i+1)*3+c - (Uz a).length=i*3+c:=by simp [Uz]; omega
   rw [e];exact ih i (by simpa using hx)
theorem Cw (d:List (Int × Int × Int)):(d.flatMap Uz).length=d.length*3:=by
 induction d with
 | nil=>rfl
 | cons a d ih=>rw [List.flatMap_cons,List.length_append,ih]; simp [Uz]; omega
theorem Yc2 (d:Array (Int × Int × Int)):flatK Uz 3 d=(d.toList.flatMap Uz).toArray:=by
 refine ext_get! (by rw [size_flatK]; show d.size*3=(List.flatMap Uz d.toList).length; rw [Cw,Array.length_toList]) fun t ht=>?_
 rw [size_flatK] at ht;rw [get_flatK _ _ _ t ht]
 have h1:t / 3<d.size:=by omega
 have h2:t % 3<3:=Nat.mod_lt _ (by decide)
 have hx:d.toList[t / 3]?=some d[t / 3]:=by rw [Array.getElem?_toList,Array.getElem?_eq_getElem h1]
 have h3:=Yc1 d.toList (t / 3) (t % 3) h2 _ hx
 rw [show t / 3*3+t % 3=t from by omega] at h3
 have h4:t<(d.toList.flatMap Uz).length:=by rw [Cw]; simpa using ht
 rw [List.getElem?_eq_getElem h4] at h3;rw [getElem!_pos d _ h1,getElem!_pos (d.toList.flatMap Uz).toArray t (by simpa using h4)]
 have h5:t % 3<(Uz d[t / 3]).length:=by simpa [Uz] using h2
 rw [List.getElem?_eq_getElem h5] at h3;rw [getElem!_pos (Uz d[t / 3]) _ h5];simp only [List.getElem_toArray];exact (Option.some.inj h3).symm
theorem Ed (A:List (List Int)):A.flatMap kc3=(A.map Tz).flatMap Uz:=by
 rw [List.flatMap_map];rfl
def elK:ElT (List Int):=fun _ _ us k=>us=kc3 k
theorem Ymp:elK.Ok:=fun _ _ _ _ _ _ _ h=>h
theorem Mk {B blk:Nat}{w0:World}{d:Array (Int × Int × Int)}{os:Array Obj} (hb:Below B w0 w) (hB:B≤blk) (hlt:blk<w.heap.size):Below B w0 (sortWorldK Uz 3 w blk 0 m d os):=by
 refine ⟨hb.os,hb.tape,hb.output,?_,fun k hk=>?_⟩
 ·show w0.heap.size≤(grow (putRowK Uz 3 (Sort.ahead w m) blk 0 d) os).heap.size
  rw [size_grow]
  have h1:(putRowK Uz 3 (Sort.ahead w m) blk 0 d).heap.size=w.heap.size:=by simp [putRowK,putRow,mapBlock,Sort.ahead]
  have:=hb.size
  omega
 ·show (grow (putRowK Uz 3 (Sort.ahead w m) blk 0 d) os).heap[k]?=_
  have h2:k<w.heap.size:=by omega
  rw [heap_grow_old _ _ (by simpa [putRowK,putRow,mapBlock,Sort.ahead] using h2)]
  have h3:blk≠k:=by omega
  simp only [putRowK,putRow,mapBlock,Sort.ahead,Array.getElem?_modify,if_neg h3];exact hb.block k hk
theorem Ybq (hW:Wd≤3) {C:Cub}{A:List (List Int)}{v:Value}{base:Nat}{w:World}(hC:Ris C) (hK:∀ e∈C,isKey Wd e.1) (hp:A.Perm (C.map (·.1))) (hl:C.length≤1000000) (hr:w.ownsRow base 177 3 v A.length (A.flatMap kc3)) :
  Calls Tryz.prog 169 #[v,.func (.func 156) #[] #[]] w fun e w'=>e=.returned (.tuple #[])∧(∃ AA c,v=.slice AA C.length c∧Row elK 3 w' (fun b=>base≤b) AA C.length c (C.map (·.1)))∧Below base w w':=by
 have hlen:A.length=C.length:=by have:=hp.length_eq; simpa using this
 rcases hr.2 with ⟨rfl,h0⟩ | ⟨g,cap,cur,rfl,hbg,hgg,hnc,hcm,hcs,ht⟩
 ·have hc0:C.length=0:=by omega
  obtain rfl:C=[]:=List.eq_nil_of_length_eq_zero hc0;refine (AnyF.slices_SortFunc_none (P:=Tryz.prog) (ρ:=Tryz.sortK_ren) { Tryz.sortK with } none 0 _ w).mono ?_
  rintro e w' ⟨rfl,rfl⟩;exact ⟨rfl,⟨none,0,rfl,Row.none_ _ _⟩,Below.refl _ _⟩
 ·have hd:(A.map Tz).toArray.size=A.length:=by simp
  have hfl:flatK Uz 3 (A.map Tz).toArray=(A.flatMap kc3).toArray:=by rw [Yc2,Ed]
  have hgl:g<w.heap.size:=(Array.getElem?_eq_some_iff.1 hgg).1
  have hH:HoldsK Uz 3 w g 0 (A.map Tz).toArray:=by
   unfold HoldsK;rw [hfl];intro j hj
   have hj' : j<(A.flatMap kc3).length:=by simpa using hj
   have h1:=hr.cells (g:=g) rfl j _ (List.getElem?_eq_getElem hj')
   rw [Yt] at h1;refine ⟨?_,?_⟩
   ·rw [h1,getElem!_pos (A.flatMap kc3).toArray j hj]
    simp
   ·rw [Nat.zero_add]
    exact World.ownsRow.frozenAt hr j
  have eg:∀ args w,(callFunc 156 args).run Tryz.prog w=.ok (.enter 156 args) w:=enters_of Tryz.func156 (by kernel_rfl) rfl
  have hlt3:ltOf cf3=lt3:=by
   funext x y
   unfold ltOf cf3 lt3
   rcases hh:Zp (Pe x) (Pe y) with _ | _
   ·rw [decide_eq_false_iff_not,Ck,hh]; simp
   ·rw [decide_eq_true_iff,Ck,hh]
  have hcon:=AnyQ.slices_SortFunc Tryz.sortK 3 Tryz.isAgg177 Tryz.sizeOf177 Uz (fun _=>rfl) (fun x v hv=>by simp [Uz] at hv; rcases hv with rfl | rfl | rfl <;> rfl) cf3 (by rw [hlt3]; exact Yuk) 156 #[] g 0 cap (A.map Tz).toArray w eg (fun _ _ _ _ x y=>Yqy x y _) hH hgl (by rw [hd]; omega)
  change Calls Tryz.prog 169 _ _ _ at hcon
  rw [hd] at hcon;refine hcon.mono ?_;rintro e w' ⟨rfl,d',m,os,h1,h2,rfl⟩;refine ⟨rfl,⟨some ⟨g,0,none⟩,cap,by rw [hlen],?_⟩,Mk (Below.refl _ _) hbg hgl⟩
  have hds:d'.toList=(C.map (·.1)).map Tz:=by
   refine Ylf hC hK hW hp (d:=(A.map Tz).toArray) (by simp) (by rw [hd]; exact h1) ?_
   rw [hd,← hlt3];exact h2
  have hsz:d'.size=(A.map Tz).toArray.size:=by
   rw [← Array.length_toList,hds];simp;omega
  have hH':=holdsK_sortWorldK_c Uz 3 w g 0 (A.map Tz).toArray d' m os hH hgl hsz
  unfold HoldsK at hH';rw [Yc2,hds,← Ed] at hH'
  have hvl:((C.map (·.1)).flatMap kc3).length=C.length*3:=by rw [Yqw]; simp
  refine ⟨by simp,(C.map (·.1)).flatMap kc3,⟨hvl,by omega,hcm,(fun h=>by cases h),fun _=>⟨g,0,rfl,hbg,?_,fun j u hu=>?_⟩⟩,fun i k hi=>?_⟩
  ·have:=(Mk (m:=m) (d:=d') (os:=os) (Below.refl g w) (Nat.le_refl _) hgl).size
   omega
  ·have hj:=(List.getElem?_eq_some_iff.1 hu).1
   have:=(hH' j (by simpa using hj)).1
   rw [this,getElem!_pos _ j (by simpa using hj)]
   rw [List.getElem?_eq_getElem hj] at hu;simpa using hu
  ·show ((List.drop (i*3) _).take 3)=kc3 k
   apply List.ext_getElem?;intro c;rw [List.getElem?_take]
   split
   ·rename_i hc
    rw [List.getElem?_drop,Ed];rw [Yc1 _ i c hc (Tz k) (by rw [List.getElem?_map,hi]; rfl)]
    rfl
   ·rename_i hc
    rw [List.getElem?_eq_none (by simp [kc3]; omega)]
end
section
open Go.RowKit Go.Maps
/-! ### how many cells there can be -/
theorem Ygq {A:List Nat}{N:Nat}(h:A.Nodup) (hs:∀ k∈A,k<N):A.length≤N:=by
 have key:∀ (A J:List Nat),A.Nodup→(∀ k∈A,k∈J)→A.length≤J.length:=by
  intro A
  induction A with
  | nil=>intro J _ _; simp
  | cons a A ih =>
   intro J h hs;obtain ⟨h1,h2⟩:=List.nodup_cons.1 h
   have ha:=hs a (by simp)
   have h3:=ih (J.erase a) h2 (fun k hk=>(List.mem_erase_of_ne (fun e=>h1 (by rw [← e]; exact hk))).2 (hs k (by simp [hk])))
   rw [List.length_erase_of_mem ha] at h3
   have h4:=List.length_pos_of_mem ha
   simp;omega
 have:=key A (List.range N) h (fun k hk=>List.mem_range.2 (hs k hk))
 simpa using this
def Yk0 (k:List Int):Nat:=(k.getD 0 0).toNat*1681+(k.getD 1 0).toNat*41+(k.getD 2 0).toNat
theorem Yrc {W:Nat}{k:List Int}(h:isKey W k):Yk0 k<68921:=by
 have h0:=V7 h 0
 have h1:=V7 h 1
 have h2:=V7 h 2
 unfold Yk0;omega
theorem Yoz {W:Nat}{k j:List Int}(hk:isKey W k) (hj:isKey W j) (hW:W≤3) (e:Yk0 k=Yk0 j):k=j:=by
 have h0:=V7 hk 0
 have h1:=V7 hk 1
 have h2:=V7 hk 2
 have g0:=V7 hj 0
 have g1:=V7 hj 1
 have g2:=V7 hj 2
 unfold Yk0 at e;refine Yef (hk.1.trans hj.1.symm) (by rw [hk.1]; exact hW) ?_
 unfold Tz
 have e0:k.getD 0 0=j.getD 0 0:=by omega
 have e1:k.getD 1 0=j.getD 1 0:=by omega
 have e2:k.getD 2 0=j.getD 2 0:=by omega
 rw [e0,e1,e2]
theorem Yn1 {W:Nat}{J:List (List Int)}(hn:J.Nodup) (hk:∀ k∈J,isKey W k) (hW:W≤3):J.length≤68921:=by
 have h1:(J.map Yk0).Nodup:=by
  unfold List.Nodup at hn ⊢;rw [List.pairwise_map];exact List.Pairwise.imp_of_mem (fun {a b} ha hb hne e=>hne (Yoz (hk a ha) (hk b hb) hW e)) hn
 have h2:=Ygq (N:=68921) h1 (fun x hx=>by
  obtain ⟨k,hk',rfl⟩:=List.mem_map.1 hx;exact Yrc (hk k hk'))
 simpa using h2
/-! ### cells under their keys -/
theorem Uy.perm {K:TypeId}{kv:List Int→Value}{W b:Nat}{w:World}{F:Lit→Option Value}{J J' : List (List Int)}(h:Uy K kv W w b F J) (hp:J.Perm J'):Uy K kv W w b F J' :=
 ⟨hp.length_eq ▸ h.map,hp.nodup_iff.1 h.nodup,fun k hk=>h.key k (hp.mem_iff.2 hk),fun k kl hk e=>(h.has k kl hk e).trans hp.mem_iff,h.back⟩
def V1 (W:Nat) (w:World) (b:Nat) (C:Cub):Prop:=∃ F,MJ W w b F (C.map (·.1))∧∀ k kl,isKey W k→keyOf Tryz.prog 177 (kv3 k)=some kl→F kl=(Zb C k).map M1
section
variable {w w' : World}{W b:Nat}{C:Cub}
theorem V1.lt (h:V1 W w b C):b<w.heap.size:=by obtain ⟨F,h1,_⟩:=h; exact h1.lt
theorem V1.same (h:V1 W w b C) (hb:w'.heap[b]?=w.heap[b]?):V1 W w' b C:=by
 obtain ⟨F,h1,h2⟩:=h;exact ⟨F,h1.same hb,h2⟩
theorem V1.below {D:Nat}(h:V1 W w b C) (hb:Below D w w') (hD:b<D):V1 W w' b C:=h.same (hb.block b hD)
theorem V1.alloc (h:V1 W w b C) (o:Obj):V1 W (w.alloc o) b C:=h.below (Ya w o) h.lt
theorem V1.drewN (h:V1 W w b C) (k:Nat):V1 W (w.drewN k) b C:=h.same rfl
theorem V1.made (w:World):V1 W (w.alloc (.map #[] 0)) w.heap.size []:=⟨_,Uy.made w,fun _ _ _ _=>rfl⟩
theorem V1.Rt (h:V1 W w b C):∃ es clock,w.heap[b]?=some (.map es clock):=by
 obtain ⟨F,h1,_⟩:=h;exact h1.map.Rt
theorem Yle (hC:Ris C) (k:List Int) (x:PC):(Dx (C.map (·.1)) k).Perm ((Vn C k x).map (·.1)):=by
 refine (List.perm_ext_iff_of_nodup (Ez (Qv hC)) (Qv (Db hC k x))).2 fun j=>?_
 rw [Eo]
 have e1:∀ (D:Cub),j∈D.map (·.1)↔Zb D j≠none:=fun D=>by
  rw [Ne,Oo];exact Classical.not_not.symm
 rw [e1,e1,Sf]
 by_cases h:j=k
 ·simp [h]
 ·simp [h]
theorem V1.look {t:TypeId}{z:Value}(h:V1 W w b C) (hW:W≤3) (ht:Tryz.prog.underlying t=some (.map 177 184)) (hz:(zeroValue 184).run Tryz.prog w=.ok z w) {k:List Int}(hk:isKey W k) :
  (Instr.lookup t (.map (some b)) (kv3 k) true).run Tryz.prog w=.ok (.tuple #[((Zb C k).map M1).getD z,.bool (Zb C k).isSome]) w∧(Instr.lookup t (.map (some b)) (kv3 k) false).run Tryz.prog w=.ok (((Zb C k).map M1).getD z) w:=by
 obtain ⟨F,h1,h2⟩:=h
 have T:=Ynv hW
 obtain ⟨kl,hkl⟩:=T.is k hk
 have r1:=h1.map.look T.law ht hz hkl
 have r2:=h1.map.get T.law ht hz hkl
 rw [h2 k kl hk hkl] at r1 r2;exact ⟨by rw [r1]; simp,r2⟩
theorem V1.store {t:TypeId}{x:PC}(h:V1 W w b C) (hW:W≤3) (ht:Tryz.prog.underlying t=some (.map 177 184)) (hC:Ris C) (hm:C.length≤1000000) {k:List Int}(hk:isKey W k) :
  ∃ w',(Instr.mapUpdate t (.map (some b)) (kv3 k) (M1 x)).run Tryz.prog w=.ok () w'∧V1 W w' b (Vn C k x)∧w.grownBy w' (some b):=by
 obtain ⟨F,h1,h2⟩:=h
 have T:=Ynv hW
 obtain ⟨kl,hkl⟩:=T.is k hk;obtain ⟨w',r1,r2,r3⟩:=h1.store T ht (v:=M1 x) (by rw [List.length_map]; unfold maxLen; omega) hk hkl
 refine ⟨w',r1,⟨_,r2.perm (Yle hC k x),fun j jl hj ej=>?_⟩,r3⟩
 rw [Sf]
 by_cases hjk:j=k
 ·subst hjk
  rw [hkl] at ej;injection ej with ej
  subst ej;rw [if_pos rfl,K1];rfl
 ·rw [if_neg hjk,Q0 (fun e2:jl=kl=>hjk (T.one hj hk (e2 ▸ ej) hkl))]
  exact h2 j jl hj ej
theorem V1.len {t e:TypeId}(h:V1 W w b C) (ht:Tryz.prog.underlying t=some (.map 177 e)) (ty:TypeId):(Builtin.len_ #[t] ty #[.map (some b)]).run Tryz.prog w=.ok (.int .i64 C.length) w:=by
 obtain ⟨F,h1,_⟩:=h;rw [h1.map.len ht ty,List.length_map]
end
/-! ### a cuboid -/
structure Cb (w:World) (g b W m:Nat) (C:Cub):Prop where
 blk:Block w g 119 #[.int .i64 W,.int .i64 m,.map (some b)]
 map:V1 W w b C
 ok:Wr W m C
 w1:1≤W
 w3:W≤3
 m1:1≤m
 m2:m≤2
section
variable {w w' : World}{g b W m:Nat}{C:Cub}
theorem Cb.len (h:Cb w g b W m C):C.length≤68921:=by
 have:=Yn1 (J:=C.map (·.1)) (Qv h.ok.ris) (fun k hk=>by
  obtain ⟨e,he,rfl⟩:=List.mem_map.1 hk;exact h.ok.key e he) h.w3
 simpa using this
theorem Cb.ne (h:Cb w g b W m C):g≠b:=fun e=>by
 obtain ⟨es,clock,hm⟩:=h.map.Rt
 have h1:w.heap[g]?=_:=h.blk
 rw [e,hm] at h1
 cases h1
theorem Cb.below {D:Nat}(h:Cb w g b W m C) (hb:Below D w w') (hg:g<D) (hD:b<D):Cb w' g b W m C:=⟨h.blk.below hb hg,h.map.below hb hD,h.ok,h.w1,h.w3,h.m1,h.m2⟩
theorem Cb.Yc (h:Cb w g b W m C) (hb:Below w.heap.size w w'):Cb w' g b W m C:=h.below hb h.blk.lt h.map.lt
theorem Cb.alloc (h:Cb w g b W m C) (o:Obj):Cb (w.alloc o) g b W m C:=h.Yc (Ya w o)
theorem Cb.drewN (h:Cb w g b W m C) (k:Nat):Cb (w.drewN k) g b W m C:=⟨h.blk.drewN k,h.map.drewN k,h.ok,h.w1,h.w3,h.m1,h.m2⟩
theorem Cb.c0 (h:Cb w g b W m C):w.cell? ⟨g,0,none⟩=some (.int .i64 W):=h.blk.cell 0
theorem Cb.c1 (h:Cb w g b W m C):w.cell? ⟨g,1,none⟩=some (.int .i64 m):=h.blk.cell 1
theorem Cb.c2 (h:Cb w g b W m C):w.cell? ⟨g,2,none⟩=some (.map (some b)):=h.blk.cell 2
theorem Cb.put {x:PC}{k:List Int}(h:Cb w g b W m C) (hg:w.grownBy w' (some b)) (hm:V1 W w' b (Vn C k x)) (hk:isKey W k) (hx:Yw m x):Cb w' g b W m (Vn C k x) :=
 ⟨h.blk.grown hg (fun e=>h.ne (Option.some.inj e).symm),hm,h.ok.Yo hk hx,h.w1,h.w3,h.m1,h.m2⟩
end
/-! ### how many,and the keys -/
theorem Yfv (h:Cb w g b W m C):Calls Tryz.prog 35 #[.pointer (some ⟨g,0,none⟩)] w fun e w'=>e=.returned (.int .i64 (C.length:Int))∧w=w':=by
 have c2:=h.c2
 have hL:=fun ty=>h.map.len (t:=117) Tryz.underlying117 ty
 clear h;go_enter Tryz.func35,Tryz.ntmps35;go_wp2;go_ret;exact ⟨rfl,rfl⟩
theorem Ya6 (mb:Option Nat) (w:World) :
  Calls Tryz.prog 155 #[.map mb] w fun e w'=>e=.returned (.func (.func 170) #[] #[.pointer (some ⟨w.heap.size,0,none⟩)])∧w'=w.alloc (.cells #[.map mb] 117):=(callsIn_wide (n:=3)).1 (Yd1 3 mb w)
theorem Dd {Bm:Nat} (hm:w.cell? ⟨Bm,0,none⟩=some (.map (some b))) (hmap:V1 W w b C) (hok:Wr W m C) (hW:W≤3) (hl:C.length≤1000000) :
  Calls Tryz.prog 154 #[.func (.func 170) #[] #[.pointer (some ⟨Bm,0,none⟩)],.func (.func 156) #[] #[]] w fun e w'=>(∃ A c,e=.returned (.slice A C.length c)∧Row elK 3 w' (fun b=>w.heap.size≤b) A C.length c (C.map (·.1)))∧Below w.heap.size w w':=by
 obtain ⟨F,h1,_⟩:=hmap
 have hc:=Ycs hW hm h1 (by rw [List.length_map]; exact hl)
 go_enter Tryz.func154,Tryz.ntmps154;go_wp2_with fail;refine hc.mono ?_;rintro e w1 ⟨v,A,rfl,hp,hrow,hb⟩
 have hs:=hid (Ybq hW hok.ris hok.key hp hl hrow)
 clear hc hp hrow h1 hok;go_wp2_with fail;refine hs.out.mono ?_;rintro e w2 ⟨rfl,⟨AA,c,rfl,hR⟩,hb2⟩
 have hF:=hid (And.intro hR (hb.trans hb2))
 clear hs hR hb hb2;go_wp2_with fail;go_ret;exact ⟨⟨AA,c,rfl,hF.out.1⟩,hF.out.2⟩
theorem Yg9 (h:Cb w g b W m C):Calls Tryz.prog 142 #[.pointer (some ⟨g,0,none⟩)] w fun e w'=>(∃ A c,e=.returned (.slice A C.length c)∧Row elK 3 w' (fun b=>w.heap.size≤b) A C.length c (C.map (·.1)))∧Below w.heap.size w w':=by
 have c2:=h.c2
 have hb1:=Ya w (.cells #[.map (some b)] 117)
 have hS:=hid (Dd (Bm:=w.heap.size) (w:=w.alloc (.cells #[.map (some b)] 117)) ((Block.new w _ #[.map (some b)]).cell 0) (h.map.alloc _) h.ok h.w3 (by have:=h.len; omega))
 clear h;go_enter Tryz.func142,Tryz.ntmps142;go_wp2_with fail;refine (Ya6 _ _).mono ?_;rintro e w1 ⟨rfl,rfl⟩;go_wp2_with fail;refine hS.out.mono ?_;rintro e w2 ⟨⟨A,c,rfl,hR⟩,hb2⟩
 have hF:=hid (And.intro (hR.mv Ymp (Mv.to w2 (S':=fun b=>w.heap.size≤b) fun b hb _=>by rw [World.size_alloc] at hb; omega)) (Yb hb1 hb2))
 clear hS hR hb1 hb2;go_wp2_with fail;go_ret;exact ⟨⟨A,c,rfl,hF.out.1⟩,hF.out.2⟩
end
section
open Go.RowKit Go.Maps
theorem Kt:(Tryz.prog.info? 177).map (·.size)=some 3:=by kernel_rfl
def D8 (w:World) (W m:Nat) (C:Cub) (v:Value) (w' : World):Prop:=∃ g b,v=.pointer (some ⟨g,0,none⟩)∧Cb w' g b W m C∧w.heap.size≤g∧w.heap.size≤b
theorem Yfw (h1:1≤W) (h2:W≤3) (h3:1≤m) (h4:m≤2) (w:World):Calls Tryz.prog 70 #[.int .i64 W,.int .i64 m] w fun e w'=>(∃ v,e=.returned v∧D8 w W m [] v w')∧Below w.heap.size w w':=by
 have i1:¬ (W:Int)<1:=by omega
 have i2:¬ 3<(W:Int):=by omega
 have i3:¬ (m:Int)<1:=by omega
 have i4:¬ 2<(m:Int):=by omega
 have hmk:(Instr.makeMap 117 none).run Tryz.prog w=.ok (.map (some w.heap.size)) (w.alloc (.map #[] 0)):=run_makeMap _ w
 have hF:=hid (show D8 w W m [] (.pointer (some ⟨w.heap.size+1,0,none⟩)) ((w.alloc (.map #[] 0)).alloc (.cells #[.int .i64 W,.int .i64 m,.map (some w.heap.size)] 119)) from
  ⟨_,_,rfl,⟨by have:=Block.new (w.alloc (.map #[] 0)) 119 #[.int .i64 W,.int .i64 m,.map (some w.heap.size)]; rwa [World.size_alloc] at this,(V1.made w).alloc _,Wr.Zj _ _,h1,h2,h3,h4⟩,by omega,by omega⟩)
 have hB:=hid (We w (.map #[] 0) (.cells #[.int .i64 W,.int .i64 m,.map (some w.heap.size)] 119))
 clear h1 h2 h3 h4;go_enter Tryz.func70,Tryz.ntmps70;go_wp2;go_ret;exact ⟨⟨_,rfl,hF.out⟩,hB.out⟩
/-! ### keyOf -/
theorem Ydl (hc:w.cell? ⟨g,0,none⟩=some (.int .i64 W)) (h:Yx w w.heap.size A n c L) (hk:¬ isKey W L) :
  Calls Tryz.prog 118 #[.pointer (some ⟨g,0,none⟩),.slice A n c] w fun e w'=>e=.returned (.tuple #[.agg #[.int .i64 0,.int .i64 0,.int .i64 0],.bool false])∧Below w.heap.size w w':=by
 have hgl:g<w.heap.size:=World.block_lt_of_cell? w _ hc
 have hb1:=Ya w (.cells #[.int .i64 0,.int .i64 0,.int .i64 0] 177)
 have hc1:=(hb1.cell (p:=⟨g,0,none⟩) hgl).trans hc
 have hR:=Block.new w 177 #[.int .i64 0,.int .i64 0,.int .i64 0]
 have h1:=h.Yc hb1
 have hl:=h.len
 have hcon:=hid (O7 h1)
 rw [Bc] at hk;clear h h1 hc
 by_cases hw:(n:Int)=(W:Int)
 ·have hx:L.any Sb=true:=by
   rcases hh:L.any Sb with _ | _
   ·exact absurd ⟨by omega,hh⟩ hk
   ·rfl
  have HX:=hid hx
  have hne:((n:Int) != (W:Int))=false:=by simp [hw]
  clear hx hk hw;go_enter Tryz.func118,Tryz.ntmps118;go_wp2_with fail;generalize w.alloc (.cells #[.int .i64 0,.int .i64 0,.int .i64 0] 177)=w1 at hb1 hc1 hR hcon ⊢
  have r0:w1.cell? ⟨w.heap.size,0,none⟩=some (.int .i64 0):=hR.cell 0
  have r1:w1.cell? ⟨w.heap.size,1,none⟩=some (.int .i64 0):=hR.cell 1
  have r2:w1.cell? ⟨w.heap.size,2,none⟩=some (.int .i64 0):=hR.cell 2
  have f0:=hR.free 0
  have f1:=hR.free 1
  have f2:=hR.free 2
  have HR:=hid (hR.Ypc (.int .i64 0) (.int .i64 0) (.int .i64 0))
  have HB:=hid (Nh hb1 (Nat.le_refl _) (.int .i64 0) (.int .i64 0) (.int .i64 0))
  clear hR hb1;refine hcon.out.mono ?_;rintro e v ⟨rfl,rfl⟩;rw [HX.out];go_wp2_with fail;refine bodyPost_ret (Yj rfl _ _ w.heap.size _ _ rfl HR.out Tryz.underlying177 rfl Kt) rfl ?_;exact ⟨rfl,HB.out⟩
 ·have hne:((n:Int) != (W:Int))=true:=by simpa using hw
  have HR:=hid hR
  have HB:=hid hb1
  clear hk hw hR hb1;go_enter Tryz.func118,Tryz.ntmps118;go_wp2_with fail;refine bodyPost_ret (Yj rfl _ _ w.heap.size _ _ rfl HR.out Tryz.underlying177 rfl Kt) rfl ?_;exact ⟨rfl,HB.out⟩
theorem Yga (l:List Int):splice [.int .i64 0,.int .i64 0,.int .i64 0] 0 ((l.take 3).map Xe)=kc3 l:=by
 match l with
 | []=>rfl
 | [_]=>rfl
 | [_,_]=>rfl
 | _ :: _ :: _ :: _=>rfl
theorem Be (hc:w.cell? ⟨g,0,none⟩=some (.int .i64 W)) (h:Yx w w.heap.size A n c L) (hk:isKey W L) :
  Calls Tryz.prog 118 #[.pointer (some ⟨g,0,none⟩),.slice A n c] w fun e w'=>e=.returned (.tuple #[kv3 L,.bool true])∧Below w.heap.size w w':=by
 obtain ⟨x,y,z,hxyz⟩ : ∃ x y z,Hid (L.getD 0 0=x∧L.getD 1 0=y∧L.getD 2 0=z):=⟨_,_,_,hid ⟨rfl,rfl,rfl⟩⟩
 have ek:Hid (kv3 L=.agg #[.int .i64 x,.int .i64 y,.int .i64 z]):=hid (by unfold kv3; rw [hxyz.out.1,hxyz.out.2.1,hxyz.out.2.2])
 have ec:Hid (kc3 L=[.int .i64 x,.int .i64 y,.int .i64 z]):=hid (by unfold kc3; rw [hxyz.out.1,hxyz.out.2.1,hxyz.out.2.2])
 have hgl:g<w.heap.size:=World.block_lt_of_cell? w _ hc
 have hl:=h.len
 have hb1:=Ya w (.cells #[.int .i64 0,.int .i64 0,.int .i64 0] 177)
 have hc1:=(hb1.cell (p:=⟨g,0,none⟩) hgl).trans hc
 have hR:=Block.new w 177 #[.int .i64 0,.int .i64 0,.int .i64 0]
 have h1:=h.Yc hb1
 have hcon:=hid (O7 h1)
 rw [Bc] at hk
 have HX:=hid hk.2
 have hnW:(n:Int)=(W:Int):=by omega
 have hne:((n:Int) != (W:Int))=false:=by simp [hnW]
 obtain ⟨cs,hcs⟩ : ∃ cs,Hid ((L.take 3).map Xe=cs):=⟨_,hid rfl⟩
 have hn:Hid (cs.length=Nat.min n 3):=hid (by rw [← hcs.out,List.length_map,List.length_take,h.len,Nat.min_comm])
 have hsp:Hid (splice [.int .i64 0,.int .i64 0,.int .i64 0] 0 cs=[.int .i64 x,.int .i64 y,.int .i64 z]):=hid (by rw [← hcs.out,Yga,ec.out])
 have hfit:Hid (0+cs.length≤([.int .i64 0,.int .i64 0,.int .i64 0] : List Value).length):=hid (by rw [hn.out]; have:=Nat.min_le_right n 3; simp; exact this)
 have hone:Hid (∀ v∈cs,v.oneCell'=true):=hid (by rw [← hcs.out]; exact R4 _)
 have HH:=hid h1
 clear h h1 hc hk hnW;go_enter Tryz.func118,Tryz.ntmps118;go_wp2_with fail;generalize w.alloc (.cells #[.int .i64 0,.int .i64 0,.int .i64 0] 177)=w1 at hb1 hc1 hR hcon HH ⊢;refine hcon.out.mono ?_;rintro e v ⟨rfl,rfl⟩;rw [HX.out]
 have hbx:=Ya w1 (.cells #[.int .i64 0,.int .i64 0,.int .i64 0] 177)
 have hb2:=Yb hb1 hbx
 have hG:(w1.alloc (.cells #[.int .i64 0,.int .i64 0,.int .i64 0] 177)).heap[w1.heap.size]?=some (.cells ([.int .i64 0,.int .i64 0,.int .i64 0] : List Value).toArray 177 (0,0)):=Block.new w1 177 #[.int .i64 0,.int .i64 0,.int .i64 0]
 have hR2:=hR.alloc (.cells #[.int .i64 0,.int .i64 0,.int .i64 0] 177)
 have hwl:=hR.lt
 have hpos:Hid (0<cs.length→∃ ad,A=some ad∧∀ j v,cs[j]?=some v→(w1.alloc (.cells #[.int .i64 0,.int .i64 0,.int .i64 0] 177)).cell? (ad.add j)=some v):=hid fun h0=>by
  have hl:0<(L.map Xe).length:=by
   rw [← hcs.out] at h0;simp at h0 ⊢;omega
  obtain ⟨b,o,e,_,hc⟩:=(HH.out.Yc hbx).has hl;refine ⟨_,e,fun j v hv=>?_⟩
  rw [Yt];refine hc j v ?_;rw [← hcs.out,List.map_take,List.getElem?_take] at hv
  split at hv
  ·exact hv
  ·cases hv
 have HGG:=hid hG
 clear hbx hb1 hR hcon HH hG;go_wp2_with (refine wpList_copy_splice (o:=⟨some 21,_,_,_,_,_⟩) rfl _ _ 27 27 rfl 3 Tryz.underlying27 Oq _ A 3 3 n c rfl rfl w1.heap.size 0 [.int .i64 0,.int .i64 0,.int .i64 0] 177 HGG.out cs hn.out (fun h0=>⟨rfl,hpos.out h0⟩) hfit.out hone.out w1.heap.size _ (Below.refl _ _) (Nat.le_refl _) ?_)
 intro w2 HG2 hB2
 have hG2:Block w2 w1.heap.size 177 #[.int .i64 x,.int .i64 y,.int .i64 z]:=by
  have:=HG2.out
  rw [hsp.out] at this;exact this
 have hR3:=hR2.below hB2 hwl
 have hbe:=hb2.trans (hB2.mono (by omega))
 have a0:w2.cell? ⟨w1.heap.size,0,none⟩=some (.int .i64 x):=hG2.cell 0
 have a1:w2.cell? ⟨w1.heap.size,1,none⟩=some (.int .i64 y):=hG2.cell 1
 have a2:w2.cell? ⟨w1.heap.size,2,none⟩=some (.int .i64 z):=hG2.cell 2
 have r0:w2.cell? ⟨w.heap.size,0,none⟩=some (.int .i64 0):=hR3.cell 0
 have r1:w2.cell? ⟨w.heap.size,1,none⟩=some (.int .i64 0):=hR3.cell 1
 have r2:w2.cell? ⟨w.heap.size,2,none⟩=some (.int .i64 0):=hR3.cell 2
 have f0:=hR3.free 0
 have f1:=hR3.free 1
 have f2:=hR3.free 2
 have HR:=hid (hR3.Ypc (.int .i64 x) (.int .i64 y) (.int .i64 z))
 have HB:=hid (Nh hbe (Nat.le_refl _) (.int .i64 x) (.int .i64 y) (.int .i64 z))
 clear HG2 hG2 hR2 hR3 hbe hB2 hb2 hn hsp hfit hone hpos;go_wp2_with fail;refine bodyPost_ret (Yj rfl _ _ w.heap.size _ _ rfl HR.out Tryz.underlying177 rfl Kt) rfl ?_;exact ⟨by rw [ek.out]; rfl,HB.out⟩
end
section
open Go.RowKit Go.Maps
theorem Bd (w:World):(zeroValue 184).run Tryz.prog w=.ok (.agg #[.int .i64 0,.int .i64 0,.int .i64 0,.int .i64 0,.int .i64 0,.int .i64 0,.int .i64 0]) w:=Tryz.zeroValue184 w
theorem Rk (k:List Int):∃ x y z,Hid (kv3 k=.agg #[.int .i64 x,.int .i64 y,.int .i64 z]):=⟨_,_,_,hid rfl⟩
theorem Qu (x:PC):∃ n a b c d e f,Hid (M1 x=.agg #[.int .i64 n,.int .i64 a,.int .i64 b,.int .i64 c,.int .i64 d,.int .i64 e,.int .i64 f])∧Hid (n=x.1)∧Hid (∀ m,Yw m x→[a,b].take m=x.2.1∧[c,d].take m=x.2.2.1∧[e,f].take m=x.2.2.2):=by
 refine ⟨_,_,_,_,_,_,_,hid rfl,hid rfl,hid fun m h=>?_⟩
 obtain ⟨⟨h1,h2,h3,_⟩,_,h4⟩:=h;exact ⟨Di h4 (by omega),Di (by omega) (by omega),Di (by omega) (by omega)⟩
theorem Yr4 (h:Cb w g b W m C) (hk:isKey W k) (hn:Zb C k=none) :
  Calls Tryz.prog 119 #[.pointer (some ⟨g,0,none⟩),kv3 k] w fun e w'=>e=.returned (.tuple #[.agg #[.int .i64 0,.slice none 0 0,.slice none 0 0,.slice none 0 0],.bool false])∧Below w.heap.size w w':=by
 obtain ⟨x,y9,z,hxyz⟩:=Rk k
 have hb2:=We w (.cells #[.int .i64 x,.int .i64 y9,.int .i64 z] 177) (.cells #[.int .i64 0,.slice none 0 0,.slice none 0 0,.slice none 0 0] 105)
 have h2:=h.Yc hb2
 have hB1:=(Block.new w 177 #[.int .i64 x,.int .i64 y9,.int .i64 z]).alloc (.cells #[.int .i64 0,.slice none 0 0,.slice none 0 0,.slice none 0 0] 105)
 have hB2:=Block.new (w.alloc (.cells #[.int .i64 x,.int .i64 y9,.int .i64 z] 177)) 105 #[.int .i64 0,.slice none 0 0,.slice none 0 0,.slice none 0 0]
 rw [World.size_alloc] at hB2;rw [hxyz.out];go_enter Tryz.func119,Tryz.ntmps119;go_wp2_with fail;generalize (w.alloc (.cells #[.int .i64 x,.int .i64 y9,.int .i64 z] 177)).alloc (.cells #[.int .i64 0,.slice none 0 0,.slice none 0 0,.slice none 0 0] 105)=W2 at hb2 h2 hB1 hB2 ⊢
 have K:∀ y:World,Below W2.heap.size W2 y→y.cell? ⟨g,2,none⟩=some (.map (some b))∧y.cell? ⟨w.heap.size,0,none⟩=some (.int .i64 x)∧y.cell? ⟨w.heap.size,1,none⟩=some (.int .i64 y9)∧y.cell? ⟨w.heap.size,2,none⟩=some (.int .i64 z) ∧
   (Instr.lookup 117 (.map (some b)) (.agg #[.int .i64 x,.int .i64 y9,.int .i64 z]) true).run Tryz.prog y=.ok (.tuple #[.agg #[.int .i64 0,.int .i64 0,.int .i64 0,.int .i64 0,.int .i64 0,.int .i64 0,.int .i64 0],.bool false]) y:=fun y hy=>by
  have hB:=hB1.below hy hB1.lt
  have hLk:=((h2.Yc hy).map.look h2.w3 (t:=117) Tryz.underlying117 (Bd _) hk).1
  rw [hn,hxyz.out] at hLk;exact ⟨(h2.Yc hy).c2,hB.cell 0,hB.cell 1,hB.cell 2,hLk⟩
 obtain ⟨p0,p1,p2,p3,p4⟩:=K _ (Below.refl _ W2);obtain ⟨q0,q1,q2,q3,q4⟩:=K W2.drew (below_drewN (Below.refl _ W2) 1);obtain ⟨o0,o1,o2,o3,o4⟩:=K _ (Ya W2 (.cells #[.int .i64 0,.int .i64 0,.int .i64 0,.int .i64 0,.int .i64 0,.int .i64 0,.int .i64 0] 184));obtain ⟨s0,s1,s2,s3,s4⟩:=K (W2.alloc (.cells #[.int .i64 0,.int .i64 0,.int .i64 0,.int .i64 0,.int .i64 0,.int .i64 0,.int .i64 0] 184)).drew (below_drewN (Ya W2 (.cells #[.int .i64 0,.int .i64 0,.int .i64 0,.int .i64 0,.int .i64 0,.int .i64 0,.int .i64 0] 184)) 1);clear K
 have hb3:=below_drewN (Yb hb2 (Ya W2 (.cells #[.int .i64 0,.int .i64 0,.int .i64 0,.int .i64 0,.int .i64 0,.int .i64 0,.int .i64 0] 184))) 1
 have hR:=(hB2.alloc (.cells #[.int .i64 0,.int .i64 0,.int .i64 0,.int .i64 0,.int .i64 0,.int .i64 0,.int .i64 0] 184)).drewN 1
 clear h h2 hB1 hB2 hb2;go_region
 all_goals
  have hR:Block (W2.alloc (.cells #[.int .i64 0,.int .i64 0,.int .i64 0,.int .i64 0,.int .i64 0,.int .i64 0,.int .i64 0] 184)).drew (w.heap.size+1) 105 #[.int .i64 0,.slice none 0 0,.slice none 0 0,.slice none 0 0]:=hR
  have hb3:Below w.heap.size w (W2.alloc (.cells #[.int .i64 0,.int .i64 0,.int .i64 0,.int .i64 0,.int .i64 0,.int .i64 0,.int .i64 0] 184)).drew:=hb3
  generalize (W2.alloc (.cells #[.int .i64 0,.int .i64 0,.int .i64 0,.int .i64 0,.int .i64 0,.int .i64 0,.int .i64 0] 184)).drew=W3 at hR hb3 ⊢
  have r0:W3.cell? ⟨w.heap.size+1,0,none⟩=some (.int .i64 0):=hR.cell 0
  have r1:W3.cell? ⟨w.heap.size+1,1,none⟩=some (.slice none 0 0):=hR.cell 1
  have r2:W3.cell? ⟨w.heap.size+1,2,none⟩=some (.slice none 0 0):=hR.cell 2
  have r3:W3.cell? ⟨w.heap.size+1,3,none⟩=some (.slice none 0 0):=hR.cell 3
  have f0:=hR.free 0
  have f1:=hR.free 1
  have f2:=hR.free 2
  have f3:=hR.free 3
  have HR:=hid (hR.Zy (.int .i64 0) (.slice none 0 0) (.slice none 0 0) (.slice none 0 0))
  have HB:=hid (Y0 (r:=w.heap.size+1) hb3 (Nat.le_succ _) (.int .i64 0) (.slice none 0 0) (.slice none 0 0) (.slice none 0 0))
  clear hR hb3 p0 p1 p2 p3 p4 q0 q1 q2 q3 q4 s0 s1 s2 s3 s4;go_wp2_with fail;refine bodyPost_ret (Yj rfl _ _ (w.heap.size+1) _ _ rfl HR.out Tryz.underlying105 rfl Y5) rfl ?_;exact ⟨rfl,HB.out⟩
theorem Yl7 {u:PC} (h:Cb w g b W m C) (hk:isKey W k) (hn:Zb C k=some u) :
  Calls Tryz.prog 119 #[.pointer (some ⟨g,0,none⟩),kv3 k] w fun e w'=>(∃ v1 v2 v3,e=.returned (.tuple #[.agg #[.int .i64 u.1,v1,v2,v3],.bool true])∧X5 w' w.heap.size v1 v2 v3 u.2.1 u.2.2.1 u.2.2.2)∧Below w.heap.size w w':=by
 obtain ⟨n,l1,l2,l3,l4,l5,l6,hu,hn1,hl⟩:=Qu u
 have HL:=hid (hl.out m (h.ok.cell _ (Xz hn)))
 have m1:=h.m1
 have m2:=h.m2
 have hgl:=h.blk.lt
 obtain ⟨x,y9,z,hxyz⟩:=Rk k
 have hb2:=We w (.cells #[.int .i64 x,.int .i64 y9,.int .i64 z] 177) (.cells #[.int .i64 0,.slice none 0 0,.slice none 0 0,.slice none 0 0] 105)
 have h2:=h.Yc hb2
 have hB1:=(Block.new w 177 #[.int .i64 x,.int .i64 y9,.int .i64 z]).alloc (.cells #[.int .i64 0,.slice none 0 0,.slice none 0 0,.slice none 0 0] 105)
 have hB2:=Block.new (w.alloc (.cells #[.int .i64 x,.int .i64 y9,.int .i64 z] 177)) 105 #[.int .i64 0,.slice none 0 0,.slice none 0 0,.slice none 0 0]
 rw [World.size_alloc] at hB2;rw [hxyz.out];go_enter Tryz.func119,Tryz.ntmps119;go_wp2_with fail;generalize (w.alloc (.cells #[.int .i64 x,.int .i64 y9,.int .i64 z] 177)).alloc (.cells #[.int .i64 0,.slice none 0 0,.slice none 0 0,.slice none 0 0] 105)=W2 at hb2 h2 hB1 hB2 ⊢
 have K:∀ y:World,Below W2.heap.size W2 y→y.cell? ⟨g,2,none⟩=some (.map (some b))∧y.cell? ⟨w.heap.size,0,none⟩=some (.int .i64 x)∧y.cell? ⟨w.heap.size,1,none⟩=some (.int .i64 y9)∧y.cell? ⟨w.heap.size,2,none⟩=some (.int .i64 z) ∧
   (Instr.lookup 117 (.map (some b)) (.agg #[.int .i64 x,.int .i64 y9,.int .i64 z]) true).run Tryz.prog y=.ok (.tuple #[.agg #[.int .i64 n,.int .i64 l1,.int .i64 l2,.int .i64 l3,.int .i64 l4,.int .i64 l5,.int .i64 l6],.bool true]) y:=fun y hy=>by
  have hB:=hB1.below hy hB1.lt
  have hLk:=((h2.Yc hy).map.look h2.w3 (t:=117) Tryz.underlying117 (Bd _) hk).1
  rw [hn,hxyz.out] at hLk;simp only [Option.map_some,Option.getD_some,Option.isSome_some,hu.out] at hLk;exact ⟨(h2.Yc hy).c2,hB.cell 0,hB.cell 1,hB.cell 2,hLk⟩
 obtain ⟨p0,p1,p2,p3,p4⟩:=K _ (Below.refl _ W2);obtain ⟨q0,q1,q2,q3,q4⟩:=K W2.drew (below_drewN (Below.refl _ W2) 1);obtain ⟨o0,o1,o2,o3,o4⟩:=K _ (Ya W2 (.cells #[.int .i64 0,.int .i64 0,.int .i64 0,.int .i64 0,.int .i64 0,.int .i64 0,.int .i64 0] 184));obtain ⟨s0,s1,s2,s3,s4⟩:=K (W2.alloc (.cells #[.int .i64 0,.int .i64 0,.int .i64 0,.int .i64 0,.int .i64 0,.int .i64 0,.int .i64 0] 184)).drew (below_drewN (Ya W2 (.cells #[.int .i64 0,.int .i64 0,.int .i64 0,.int .i64 0,.int .i64 0,.int .i64 0,.int .i64 0] 184)) 1);clear K
 have hb3:=below_drewN (Yb hb2 (Ya W2 (.cells #[.int .i64 n,.int .i64 l1,.int .i64 l2,.int .i64 l3,.int .i64 l4,.int .i64 l5,.int .i64 l6] 184))) 1
 have hR:=(hB2.alloc (.cells #[.int .i64 n,.int .i64 l1,.int .i64 l2,.int .i64 l3,.int .i64 l4,.int .i64 l5,.int .i64 l6] 184)).drewN 1
 have hc1:=(h2.alloc (.cells #[.int .i64 n,.int .i64 l1,.int .i64 l2,.int .i64 l3,.int .i64 l4,.int .i64 l5,.int .i64 l6] 184)).drewN 1
 have hX:=(Block.new W2 184 #[.int .i64 n,.int .i64 l1,.int .i64 l2,.int .i64 l3,.int .i64 l4,.int .i64 l5,.int .i64 l6]).drewN 1
 have hlt:=hB2.lt
 clear h h2 hB1 hB2 hb2 hn;go_region
 all_goals
  have hR:Block (W2.alloc (.cells #[.int .i64 n,.int .i64 l1,.int .i64 l2,.int .i64 l3,.int .i64 l4,.int .i64 l5,.int .i64 l6] 184)).drew (w.heap.size+1) 105 #[.int .i64 0,.slice none 0 0,.slice none 0 0,.slice none 0 0]:=hR
  have hX:Block (W2.alloc (.cells #[.int .i64 n,.int .i64 l1,.int .i64 l2,.int .i64 l3,.int .i64 l4,.int .i64 l5,.int .i64 l6] 184)).drew W2.heap.size 184 #[.int .i64 n,.int .i64 l1,.int .i64 l2,.int .i64 l3,.int .i64 l4,.int .i64 l5,.int .i64 l6]:=hX
  have hc1:Cb (W2.alloc (.cells #[.int .i64 n,.int .i64 l1,.int .i64 l2,.int .i64 l3,.int .i64 l4,.int .i64 l5,.int .i64 l6] 184)).drew g b W m C:=hc1
  have hb3:Below w.heap.size w (W2.alloc (.cells #[.int .i64 n,.int .i64 l1,.int .i64 l2,.int .i64 l3,.int .i64 l4,.int .i64 l5,.int .i64 l6] 184)).drew:=hb3
  generalize (W2.alloc (.cells #[.int .i64 n,.int .i64 l1,.int .i64 l2,.int .i64 l3,.int .i64 l4,.int .i64 l5,.int .i64 l6] 184)).drew=W3 at hR hX hc1 hb3 ⊢
  have x0:W3.cell? ⟨W2.heap.size,0,none⟩=some (.int .i64 n):=hX.cell 0
  have x1:W3.cell? ⟨W2.heap.size,1,none⟩=some (.int .i64 l1):=hX.cell 1
  have x2:W3.cell? ⟨W2.heap.size,2,none⟩=some (.int .i64 l2):=hX.cell 2
  have x3:W3.cell? ⟨W2.heap.size,3,none⟩=some (.int .i64 l3):=hX.cell 3
  have x4:W3.cell? ⟨W2.heap.size,4,none⟩=some (.int .i64 l4):=hX.cell 4
  have x5:W3.cell? ⟨W2.heap.size,5,none⟩=some (.int .i64 l5):=hX.cell 5
  have x6:W3.cell? ⟨W2.heap.size,6,none⟩=some (.int .i64 l6):=hX.cell 6
  have c1:=hc1.c1
  have hXl:=hX.lt
  have hRl:=hR.lt
  have K:Hid (∀ y,Below W3.heap.size W3 y→y.cell? ⟨W2.heap.size,0,none⟩=some (.int .i64 n)∧y.cell? ⟨W2.heap.size,1,none⟩=some (.int .i64 l1)∧y.cell? ⟨W2.heap.size,2,none⟩=some (.int .i64 l2)∧y.cell? ⟨W2.heap.size,3,none⟩=some (.int .i64 l3)∧y.cell? ⟨W2.heap.size,4,none⟩=some (.int .i64 l4)∧y.cell? ⟨W2.heap.size,5,none⟩=some (.int .i64 l5)∧y.cell? ⟨W2.heap.size,6,none⟩=some (.int .i64 l6)∧y.cell? ⟨g,1,none⟩=some (.int .i64 m)):=hid fun y hy=>by
   have hY:=hX.below hy hXl
   exact ⟨hY.cell 0,hY.cell 1,hY.cell 2,hY.cell 3,hY.cell 4,hY.cell 5,hY.cell 6,(hc1.Yc hy).c1⟩
  have hg9:W2.heap.size≠w.heap.size+1:=by omega
  have hg8:g≠w.heap.size+1:=by omega
  have K2:Hid (∀ y a b c d,Below W3.heap.size W3 y→(P0 y (w.heap.size+1) a b c d).cell? ⟨W2.heap.size,0,none⟩=some (.int .i64 n)∧(P0 y (w.heap.size+1) a b c d).cell? ⟨W2.heap.size,1,none⟩=some (.int .i64 l1)∧(P0 y (w.heap.size+1) a b c d).cell? ⟨W2.heap.size,2,none⟩=some (.int .i64 l2)∧(P0 y (w.heap.size+1) a b c d).cell? ⟨W2.heap.size,3,none⟩=some (.int .i64 l3)∧(P0 y (w.heap.size+1) a b c d).cell? ⟨W2.heap.size,4,none⟩=some (.int .i64 l4)∧(P0 y (w.heap.size+1) a b c d).cell? ⟨W2.heap.size,5,none⟩=some (.int .i64 l5)∧(P0 y (w.heap.size+1) a b c d).cell? ⟨W2.heap.size,6,none⟩=some (.int .i64 l6)∧(P0 y (w.heap.size+1) a b c d).cell? ⟨g,1,none⟩=some (.int .i64 m)):=hid fun y a b c d hy=>by
   have hY:=hX.below hy hXl
   have hZ:=(((hY.Yl (w.heap.size+1) 0 a hg9.symm).Yl (w.heap.size+1) 1 b hg9.symm).Yl (w.heap.size+1) 2 c hg9.symm).Yl (w.heap.size+1) 3 d hg9.symm
   have hV:=(((((hc1.Yc hy).blk.Yl (w.heap.size+1) 0 a hg8.symm).Yl (w.heap.size+1) 1 b hg8.symm).Yl (w.heap.size+1) 2 c hg8.symm).Yl (w.heap.size+1) 3 d hg8.symm)
   exact ⟨hZ.cell 0,hZ.cell 1,hZ.cell 2,hZ.cell 3,hZ.cell 4,hZ.cell 5,hZ.cell 6,hV.cell 1⟩
  have HR1:Hid (∀ y,Below W3.heap.size W3 y→Block y (w.heap.size+1) 105 #[.int .i64 0,.slice none 0 0,.slice none 0 0,.slice none 0 0]):=hid fun y hy=>hR.below hy hRl
  have hfu:=hid (Ym5 (n:=n) (a:=l1) (b:=l2) (c:=l3) (d:=l4) (e:=l5) (f:=l6) (w:=W3.drew) (show 0<m by omega) m2)
  have HC:=hid (hc1.Yc (w':=W3.drew) (below_drewN (Below.refl _ W3) 1))
  clear hX hc1 hR p0 p1 p2 p3 p4 q0 q1 q2 q3 q4 s0 s1 s2 s3 s4;go_wp2_with fail;go_region_held3 (fun w'=>w'.cell? ⟨W2.heap.size,0,none⟩=some (.int .i64 n)∧w'.cell? ⟨W2.heap.size,1,none⟩=some (.int .i64 l1)∧w'.cell? ⟨W2.heap.size,2,none⟩=some (.int .i64 l2)∧w'.cell? ⟨W2.heap.size,3,none⟩=some (.int .i64 l3)∧w'.cell? ⟨W2.heap.size,4,none⟩=some (.int .i64 l4)∧w'.cell? ⟨W2.heap.size,5,none⟩=some (.int .i64 l5)∧w'.cell? ⟨W2.heap.size,6,none⟩=some (.int .i64 l6)∧w'.cell? ⟨g,1,none⟩=some (.int .i64 m))
   (first
    | go_keep
    | exact K.out _ hBB1
    | exact K2.out _ _ _ _ _ hBB1)
   (first
    | (go_at_call 145; refine hfu.out.mono ?_; rintro e w1 ⟨v1,v2,v3,rfl,hO,hB1⟩; have hBB1:Below W3.heap.size W3 w1:=((below_drewN (Below.refl _ W3) 1).trans hB1); obtain ⟨A1,n1,c1',A2,n2,c2',A3,n3,c3',rfl,rfl,rfl,_⟩:=hO.form; have hr1:=HR1.out _ hBB1; have d0:w1.cell? ⟨w.heap.size+1,0,none⟩=some (.int .i64 0):=hr1.cell 0; have d1:w1.cell? ⟨w.heap.size+1,1,none⟩=some (.slice none 0 0):=hr1.cell 1; have d2:w1.cell? ⟨w.heap.size+1,2,none⟩=some (.slice none 0 0):=hr1.cell 2; have d3:w1.cell? ⟨w.heap.size+1,3,none⟩=some (.slice none 0 0):=hr1.cell 3; have f0:=hr1.free 0; have f1:=hr1.free 1; have f2:=hr1.free 2; have f3:=hr1.free 3))
  have hr1:=HR1.out _ hBB1
  have hO' : X5 w1 W3.heap.size (.slice A1 n1 c1') (.slice A2 n2 c2') (.slice A3 n3 c3') ([l1,l2].take m) ([l3,l4].take m) ([l5,l6].take m):=hO
  rw [HL.out.1,HL.out.2.1,HL.out.2.2] at hO'
  have hR:=hid (hr1.Zy (.int .i64 n) (.slice A1 n1 c1') (.slice A2 n2 c2') (.slice A3 n3 c3'))
  have hF:=hid (X5.Zy (r:=w.heap.size+1) hO' hRl (.int .i64 n) (.slice A1 n1 c1') (.slice A2 n2 c2') (.slice A3 n3 c3'))
  have hG:=hid (Y0 (r:=w.heap.size+1) (Yb hb3 hBB1) (Nat.le_succ _) (.int .i64 n) (.slice A1 n1 c1') (.slice A2 n2 c2') (.slice A3 n3 c3'))
  have hs3:=hb3.size
  clear hO hO' hB1 hBB1 hr1 d0 d1 d2 d3 f0 f1 f2 f3 K K2 HR1 HC hfu c1 x0 x1 x2 x3 x4 x5 x6;go_wp2_with fail;refine bodyPost_ret (Yj rfl _ _ (w.heap.size+1) _ _ rfl hR.out Tryz.underlying105 rfl Y5) rfl ?_;exact ⟨⟨_,_,_,by rw [hn1.out]; rfl,⟨hF.out.s.low hs3,hF.out.m.low hs3,hF.out.x.low hs3⟩⟩,hG.out⟩
end
section
open Go.RowKit Go.Maps
def Jh (w:World) (r:Option PC) (e:Ending) (w' : World):Prop :=
 (match r with
  | none=>e=.returned (.tuple #[.agg #[.int .i64 0,.slice none 0 0,.slice none 0 0,.slice none 0 0],.bool false])
  | some u=>∃ v1 v2 v3,e=.returned (.tuple #[.agg #[.int .i64 u.1,v1,v2,v3],.bool true])∧X5 w' w.heap.size v1 v2 v3 u.2.1 u.2.2.1 u.2.2.2)∧Below w.heap.size w w'
def Kj (W:Nat) (C:Cub) (L:List Int):Option PC:=if isKey W L then Zb C L else none
theorem Ns (h:Cb w g b W m C) (hL:Yx w w.heap.size A n c L) :
  Calls Tryz.prog 111 #[.pointer (some ⟨g,0,none⟩),.slice A n c] w (Jh w (Kj W C L)):=by
 have hb1:=Ya w (.cells #[.int .i64 0,.slice none 0 0,.slice none 0 0,.slice none 0 0] 105)
 have hR:=Block.new w 105 #[.int .i64 0,.slice none 0 0,.slice none 0 0,.slice none 0 0]
 have h1:=h.Yc hb1
 have hL1:=hL.Yc hb1
 have hgl:=h.blk.lt
 have hW3:=h.w3
 clear hL h
 by_cases hk:isKey W L
 ·have hcon:=hid (Be h1.c0 hL1 hk)
  obtain ⟨x,y,z,hxyz⟩:=Rk L;go_enter Tryz.func111,Tryz.ntmps111;go_wp2_with fail;generalize w.alloc (.cells #[.int .i64 0,.slice none 0 0,.slice none 0 0,.slice none 0 0] 105)=w1 at hb1 h1 hL1 hcon hR ⊢;refine hcon.out.mono ?_;rintro e w2 ⟨rfl,hb2⟩
  have hbx:=Yb hb2 (Ya w2 (.cells #[.int .i64 x,.int .i64 y,.int .i64 z] 177))
  have hb3:=Yb hb1 hbx
  have h3:=h1.Yc hbx
  have hR3:=hR.below hbx hR.lt
  rw [hxyz.out];clear hL1 h1 hb1 hbx hb2 hcon hR;go_wp2_with fail;generalize w2.alloc (.cells #[.int .i64 x,.int .i64 y,.int .i64 z] 177)=w3 at hb3 h3 hR3 ⊢
  have hRl:=hR3.lt
  rcases hu:Zb C L with _ | u
  ·have HV:=hid (show Kj W C L=none by unfold Kj; rw [if_pos hk,hu])
   have hat:=Yr4 h3 hk hu
   rw [hxyz.out] at hat;refine hat.mono ?_;rintro e w4 ⟨rfl,hb4⟩
   have hR4:=hR3.below hb4 hRl
   have hb:=Yb hb3 hb4
   have r0:w4.cell? ⟨w.heap.size,0,none⟩=some (.int .i64 0):=hR4.cell 0
   have r1:w4.cell? ⟨w.heap.size,1,none⟩=some (.slice none 0 0):=hR4.cell 1
   have r2:w4.cell? ⟨w.heap.size,2,none⟩=some (.slice none 0 0):=hR4.cell 2
   have r3:w4.cell? ⟨w.heap.size,3,none⟩=some (.slice none 0 0):=hR4.cell 3
   have f0:=hR4.free 0
   have f1:=hR4.free 1
   have f2:=hR4.free 2
   have f3:=hR4.free 3
   have HR:=hid (hR4.Zy (.int .i64 0) (.slice none 0 0) (.slice none 0 0) (.slice none 0 0))
   have HB:=hid (Y0 (r:=w.heap.size) hb (Nat.le_refl _) (.int .i64 0) (.slice none 0 0) (.slice none 0 0) (.slice none 0 0))
   clear hR4 hb hb4 hR3 h3 hat hu;go_wp2_with fail;refine bodyPost_ret (Yj rfl _ _ w.heap.size _ _ rfl HR.out Tryz.underlying105 rfl Y5) rfl ?_;rw [HV.out];exact ⟨rfl,HB.out⟩
  ·have HV:=hid (show Kj W C L=some u by unfold Kj; rw [if_pos hk,hu])
   have hat:=Yl7 h3 hk hu
   rw [hxyz.out] at hat;refine hat.mono ?_;rintro e w4 ⟨⟨v1,v2,v3,rfl,hO⟩,hb4⟩;obtain ⟨A1,n1,c1,A2,n2,c2,A3,n3,c3,rfl,rfl,rfl,_⟩:=hO.form
   have hR4:=hR3.below hb4 hRl
   have hb:=Yb hb3 hb4
   have r0:w4.cell? ⟨w.heap.size,0,none⟩=some (.int .i64 0):=hR4.cell 0
   have r1:w4.cell? ⟨w.heap.size,1,none⟩=some (.slice none 0 0):=hR4.cell 1
   have r2:w4.cell? ⟨w.heap.size,2,none⟩=some (.slice none 0 0):=hR4.cell 2
   have r3:w4.cell? ⟨w.heap.size,3,none⟩=some (.slice none 0 0):=hR4.cell 3
   have f0:=hR4.free 0
   have f1:=hR4.free 1
   have f2:=hR4.free 2
   have f3:=hR4.free 3
   obtain ⟨q,hq⟩ : ∃ q,Hid (u.1=q):=⟨_,hid rfl⟩;rw [hq.out]
   have HR:=hid (hR4.Zy (.int .i64 q) (.slice A1 n1 c1) (.slice A2 n2 c2) (.slice A3 n3 c3))
   have HB:=hid (Y0 (r:=w.heap.size) hb (Nat.le_refl _) (.int .i64 q) (.slice A1 n1 c1) (.slice A2 n2 c2) (.slice A3 n3 c3))
   have HO:=hid (X5.Zy (r:=w.heap.size) hO hRl (.int .i64 q) (.slice A1 n1 c1) (.slice A2 n2 c2) (.slice A3 n3 c3))
   have hz:=hb3.size
   clear hR4 hb hb4 hR3 h3 hat hu hO;go_wp2_with fail;refine bodyPost_ret (Yj rfl _ _ w.heap.size _ _ rfl HR.out Tryz.underlying105 rfl Y5) rfl ?_;rw [HV.out];exact ⟨⟨_,_,_,by rw [hq.out]; rfl,HO.out.low hz⟩,HB.out⟩
 ·have hcon:=hid (Ydl h1.c0 hL1 hk)
  have HV:=hid (show Kj W C L=none by unfold Kj; rw [if_neg hk])
  go_enter Tryz.func111,Tryz.ntmps111;go_wp2_with fail;generalize w.alloc (.cells #[.int .i64 0,.slice none 0 0,.slice none 0 0,.slice none 0 0] 105)=w1 at hb1 h1 hL1 hcon hR ⊢;refine hcon.out.mono ?_;rintro e w2 ⟨rfl,hb2⟩
  have hbx:=Yb hb2 (Ya w2 (.cells #[.int .i64 0,.int .i64 0,.int .i64 0] 177))
  have hb:=Yb hb1 hbx
  have hR4:=hR.below hbx hR.lt
  have HX:=hid (And.intro hR4 hb)
  clear hL1 h1 hb1 hbx hb2 hcon hR hR4 hb hk
  have r0:(w2.alloc (.cells #[.int .i64 0,.int .i64 0,.int .i64 0] 177)).cell? ⟨w.heap.size,0,none⟩=some (.int .i64 0):=HX.out.1.cell 0
  have r1:(w2.alloc (.cells #[.int .i64 0,.int .i64 0,.int .i64 0] 177)).cell? ⟨w.heap.size,1,none⟩=some (.slice none 0 0):=HX.out.1.cell 1
  have r2:(w2.alloc (.cells #[.int .i64 0,.int .i64 0,.int .i64 0] 177)).cell? ⟨w.heap.size,2,none⟩=some (.slice none 0 0):=HX.out.1.cell 2
  have r3:(w2.alloc (.cells #[.int .i64 0,.int .i64 0,.int .i64 0] 177)).cell? ⟨w.heap.size,3,none⟩=some (.slice none 0 0):=HX.out.1.cell 3
  have f0:=HX.out.1.free 0
  have f1:=HX.out.1.free 1
  have f2:=HX.out.1.free 2
  have f3:=HX.out.1.free 3
  have HR:=hid (HX.out.1.Zy (.int .i64 0) (.slice none 0 0) (.slice none 0 0) (.slice none 0 0))
  have HB:=hid (Y0 (r:=w.heap.size) HX.out.2 (Nat.le_refl _) (.int .i64 0) (.slice none 0 0) (.slice none 0 0) (.slice none 0 0))
  go_wp2_with fail;refine bodyPost_ret (Yj rfl _ _ w.heap.size _ _ rfl HR.out Tryz.underlying105 rfl Y5) rfl ?_;rw [HV.out];exact ⟨rfl,HB.out⟩
end
section
open Go.RowKit Go.Maps
/-! ### what it comes to -/
theorem Yjv (m:Nat) (hm:m≤2):Zm (Yv m):=⟨by simpa [Yv] using hm,by simp [Yv],by simp [Yv],.inl (by simp [Yv])⟩
theorem Yiv (h:x.1=0):Pg W m C k x=(C,1):=Hp fun h'=>h'.2.2.1 h
theorem Yfd (h:¬ isKey W k):Pg W m C k x=(C,1):=Hp fun h'=>h h'.1
theorem Yqa (hC:Wr W m C) (hm:m≤2) (hk:isKey W k) (hx:x.1≠0):Pg W m C k x=if (Xq ((Zb C k).getD (Yv m)) x).2=0 then (Vn C k (Xq ((Zb C k).getD (Yv m)) x).1,0) else (C,(Xq ((Zb C k).getD (Yv m)) x).2):=by
 by_cases hi:Yw m x
 ·rcases hg:Zb C k with _ | y
  ·have e:Xq (Yv m) x=(x,0):=by
    unfold Xq;rw [if_neg (by
     rintro (h | h | h)
     ·exact h (Yjv m hm)
     ·exact h hi.1
     ·exact h (by rw [hi.2.2]; simp [Yv])),if_pos (show (Yv m).1=0 from rfl)]
   rw [Mh ⟨hk,hi⟩ hg,Option.getD_none,e];simp
  ·rw [Option.getD_some]
   by_cases h0:(Xq y x).2=0
   ·rw [Lw ⟨hk,hi⟩ hg h0,if_pos h0]
   ·rw [Yb6 ⟨hk,hi⟩ hg h0,if_neg h0]
 ·have hl:((Zb C k).getD (Yv m)).2.1.length=m:=by
   rcases hg:Zb C k with _ | y
   ·simp [Yv]
   ·exact (hC.cell _ (Xz hg)).2.2
  have e:Xq ((Zb C k).getD (Yv m)) x=(Ym,1):=by
   unfold Xq;rw [if_pos]
   by_cases h:Zm x
   ·refine .inr (.inr fun e=>hi ⟨h,hx,?_⟩)
    rw [← e,hl]
   ·exact .inr (.inl h)
  rw [Hp (fun h=>hi h.2),e,if_neg (by decide)]
theorem Nr {q:Int}{A1 A2 A3:Option Addr}{n1 c1 n2 c2 n3 c3:Nat}{S:List Int} (h:Cb w g b W m C) (hL:Yx w w.heap.size A n c L) (hx:Ww w w.heap.size A1 n1 c1 A2 n2 c2 A3 n3 c3 S M X) :
  Calls Tryz.prog 82 #[.pointer (some ⟨g,0,none⟩),.slice A n c,.agg #[.int .i64 q,.slice A1 n1 c1,.slice A2 n2 c2,.slice A3 n3 c3]] w fun e w'=>e=.returned (.int .i64 (Pg W m C L (q,S,M,X)).2)∧Cb w' g b W m (Pg W m C L (q,S,M,X)).1∧w.grownBy w' (some b):=by
 have hb1:=Ya w (.cells #[.int .i64 q,.slice A1 n1 c1,.slice A2 n2 c2,.slice A3 n3 c3] 105)
 have hX:=Block.new w 105 #[.int .i64 q,.slice A1 n1 c1,.slice A2 n2 c2,.slice A3 n3 c3]
 have h1:=h.Yc hb1
 have hL1:=hL.Yc hb1
 have hx1:=hx.Yc hb1
 have hgl:=h.blk.lt
 have hbl:=h.map.lt
 have hw3:=h.w3
 have hm1:=h.m1
 have hm2:=h.m2
 have H0:=hid (And.intro h hx)
 clear hL h hx
 by_cases hk:isKey W L
 ·have hcon:=hid (Be h1.c0 hL1 hk)
  obtain ⟨x,y',z,hxyz⟩:=Rk L;go_enter Tryz.func82,Tryz.ntmps82;go_wp2_with fail;generalize w.alloc (.cells #[.int .i64 q,.slice A1 n1 c1,.slice A2 n2 c2,.slice A3 n3 c3] 105)=w1 at hb1 h1 hL1 hx1 hcon hX ⊢;refine hcon.out.mono ?_;rintro e w2 ⟨rfl,hb2⟩
  have hbx:=Yb hb2 (Ya w2 (.cells #[.int .i64 x,.int .i64 y',.int .i64 z] 177))
  have hb3:=Yb hb1 hbx
  have h3:=h1.Yc hbx
  have hX3:=hX.below hbx hX.lt
  have hx3:=hx1.Yc hbx
  have hK3:=Block.new w2 177 #[.int .i64 x,.int .i64 y',.int .i64 z]
  have hz2:w.heap.size<w2.heap.size:=Nat.lt_of_lt_of_le hX.lt hb2.size
  rw [hxyz.out];clear hL1 h1 hb1 hbx hb2 hcon hX hx1
  by_cases hq:q=0
  ·have HV:=hid (Yiv (W:=W) (m:=m) (C:=C) (k:=L) (x:=(q,S,M,X)) hq)
   have HF:=hid (And.intro h3 (grown_of hb3 (some b)))
   have hqe:((q:Int) == 0)=true:=by simp [hq]
   have p0:(w2.alloc (.cells #[.int .i64 x,.int .i64 y',.int .i64 z] 177)).cell? ⟨w.heap.size,0,none⟩=some (.int .i64 q):=hX3.cell 0
   clear hX3 hx3 hK3 h3 hb3 hq;go_wp2_with fail;go_ret;rw [HV.out];exact ⟨rfl,HF.out.1,HF.out.2⟩
  ·have hqe:((q:Int) == 0)=false:=by simpa using hq
   have p0:(w2.alloc (.cells #[.int .i64 x,.int .i64 y',.int .i64 z] 177)).cell? ⟨w.heap.size,0,none⟩=some (.int .i64 q):=hX3.cell 0
   have HA:=hid (Yqa (k:=L) (x:=(q,S,M,X)) h3.ok hm2 hk hq)
   clear hq;go_wp2_with fail;clear p0 hqe;generalize w2.alloc (.cells #[.int .i64 x,.int .i64 y',.int .i64 z] 177)=w3 at h3 hX3 hx3 hK3 hb3 ⊢;obtain ⟨kb,hkb⟩ : ∃ kb,w2.heap.size=kb:=⟨_,rfl⟩;rw [hkb] at hz2 hK3 ⊢;clear hkb
   rcases hu:Zb C L with _ | u
   ·rw [hu] at HA
    have hat:=Yr4 h3 hk hu
    rw [hxyz.out] at hat;refine hat.mono ?_;rintro e w4 ⟨rfl,hb4⟩
    have hbx:=Yb hb4 (Ya w4 (.cells #[.int .i64 0,.slice none 0 0,.slice none 0 0,.slice none 0 0] 105))
    have h5:=h3.Yc hbx
    have hX5:=hX3.below hbx hX3.lt
    have hK5:=hK3.below hbx hK3.lt
    have hx5:=hx3.Yc hbx
    have hT5:=Block.new w4 105 #[.int .i64 0,.slice none 0 0,.slice none 0 0,.slice none 0 0]
    have hb5:=Yb hb3 hbx
    have hkz:kb<w4.heap.size:=Nat.lt_of_lt_of_le hK3.lt hb4.size
    have c15:=h5.c1
    clear h3 hX3 hx3 hK3 hb3 hbx hb4 hat hu;go_wp2_with fail;generalize w4.alloc (.cells #[.int .i64 0,.slice none 0 0,.slice none 0 0,.slice none 0 0] 105)=w5 at h5 hX5 hx5 hK5 hT5 hb5 c15 ⊢;obtain ⟨tb,htb⟩ : ∃ tb,w4.heap.size=tb:=⟨_,rfl⟩;rw [htb] at hkz hT5 ⊢;clear htb;refine (Oh (m:Int) w5 (m:=m) (by omega)).mono ?_
    rintro e w6 ⟨⟨g1,g2,g3,rfl,hO6,_⟩,hb6⟩
    have hT6:=hT5.below hb6 hT5.lt
    have r0:w6.cell? ⟨tb,0,none⟩=some (.int .i64 0):=hT6.cell 0
    have r1:w6.cell? ⟨tb,1,none⟩=some (.slice none 0 0):=hT6.cell 1
    have r2:w6.cell? ⟨tb,2,none⟩=some (.slice none 0 0):=hT6.cell 2
    have r3:w6.cell? ⟨tb,3,none⟩=some (.slice none 0 0):=hT6.cell 3
    have f0:=hT6.free 0
    have f1:=hT6.free 1
    have f2:=hT6.free 2
    have f3:=hT6.free 3
    have hz6:w.heap.size≤tb:=by omega
    have hT7:=hT6.Zy (.int .i64 0) (.slice (some ⟨g1,0,none⟩) m m) (.slice (some ⟨g2,0,none⟩) m m) (.slice (some ⟨g3,0,none⟩) m m)
    have hb7:=Y0 (r:=tb) (Yb hb5 hb6) hz6 (.int .i64 0) (.slice (some ⟨g1,0,none⟩) m m) (.slice (some ⟨g2,0,none⟩) m m) (.slice (some ⟨g3,0,none⟩) m m)
    have hO7:=X5.Zy (r:=tb) hO6 hT5.lt (.int .i64 0) (.slice (some ⟨g1,0,none⟩) m m) (.slice (some ⟨g2,0,none⟩) m m) (.slice (some ⟨g3,0,none⟩) m m)
    have hP:Below tb w6 (P0 w6 tb (.int .i64 0) (.slice (some ⟨g1,0,none⟩) m m) (.slice (some ⟨g2,0,none⟩) m m) (.slice (some ⟨g3,0,none⟩) m m)):=Y0 (Below.refl _ _) (Nat.le_refl _) _ _ _ _
    have hX7:=(hX5.below hb6 hX5.lt).below hP (by omega)
    have hK7:=(hK5.below hb6 hK5.lt).below hP hkz
    have hy7:Ww (P0 w6 tb (.int .i64 0) (.slice (some ⟨g1,0,none⟩) m m) (.slice (some ⟨g2,0,none⟩) m m) (.slice (some ⟨g3,0,none⟩) m m)) _ (some ⟨g1,0,none⟩) m m (some ⟨g2,0,none⟩) m m (some ⟨g3,0,none⟩) m m (List.replicate m 0) (List.replicate m 0) (List.replicate m 0):=⟨hO7.s.has,hO7.m.has,hO7.x.has⟩
    have HY:Hid ((Option.none:Option PC).getD (Yv m)=(0,List.replicate m 0,List.replicate m 0,List.replicate m 0)):=hid rfl
    have HZ:=hid (And.intro hT7 (And.intro hb7 (And.intro hX7 (And.intro hK7 hy7))))
    clear h5 hX5 hx5 hK5 hT5 hb5 hO6 hb6 hT6 hO7 hP hT7 hb7 hX7 hK7 hy7;go_upto_region 7 with fail
    clear r0 r1 r2 r3 f0 f1 f2 f3 c15;obtain ⟨hT7,hb7,hX7,hK7,hy7⟩:=HZ.out;clear HZ;unfold P0 at hT7 hb7 hX7 hK7 hy7;generalize (((w6.setCell ⟨tb,0,none⟩ (.int .i64 0)).setCell ⟨tb,1,none⟩ (.slice (some ⟨g1,0,none⟩) m m)).setCell ⟨tb,2,none⟩ (.slice (some ⟨g2,0,none⟩) m m)).setCell ⟨tb,3,none⟩ (.slice (some ⟨g3,0,none⟩) m m)=w7 at hT7 hb7 hX7 hK7 hy7 ⊢
    have h7:=H0.out.1.Yc hb7
    have hx7:=H0.out.2.Yc hb7
    have hmrg:=hid (Bp (q:=0) (q':=q) hy7 hx7)
    obtain ⟨p,P,Q,R,er,HR⟩ : ∃ p P Q R er,Hid (Xq (0,List.replicate m 0,List.replicate m 0,List.replicate m 0) (q,S,M,X)=((p,P,Q,R),er)):=⟨_,_,_,_,_,hid rfl⟩;rw [HY.out,HR.out] at HA
    have t0:w7.cell? ⟨tb,0,none⟩=some (.int .i64 (0)):=hT7.cell 0
    have t1:w7.cell? ⟨tb,1,none⟩=some (.slice (some ⟨g1,0,none⟩) m m):=hT7.cell 1
    have t2:w7.cell? ⟨tb,2,none⟩=some (.slice (some ⟨g2,0,none⟩) m m):=hT7.cell 2
    have t3:w7.cell? ⟨tb,3,none⟩=some (.slice (some ⟨g3,0,none⟩) m m):=hT7.cell 3
    have x0:w7.cell? ⟨w.heap.size,0,none⟩=some (.int .i64 q):=hX7.cell 0
    have x1:w7.cell? ⟨w.heap.size,1,none⟩=some (.slice A1 n1 c1):=hX7.cell 1
    have x2:w7.cell? ⟨w.heap.size,2,none⟩=some (.slice A2 n2 c2):=hX7.cell 2
    have x3:w7.cell? ⟨w.heap.size,3,none⟩=some (.slice A3 n3 c3):=hX7.cell 3
    clear hy7 hx7;go_wp2_with fail;refine hmrg.out.mono ?_;rw [HR.out];rintro e w8 ⟨⟨v1,v2,v3,rfl,hO8⟩,hb8⟩;obtain ⟨E1,m1,e1,E2,m2',e2,E3,m3,e3,rfl,rfl,rfl,hc8⟩:=hO8.form
    have hbx:=Yb hb8 (Ya w8 (.cells #[.int .i64 p,.slice E1 m1 e1,.slice E2 m2' e2,.slice E3 m3 e3] 105))
    have h9:=h7.Yc hbx
    have hK9:=hK7.below hbx hK7.lt
    have hS9:=Block.new w8 105 #[.int .i64 p,.slice E1 m1 e1,.slice E2 m2' e2,.slice E3 m3 e3]
    have hc9:=hc8.Qe (.cells #[.int .i64 p,.slice E1 m1 e1,.slice E2 m2' e2,.slice E3 m3 e3] 105)
    have hb9:=Yb hb7 hbx
    have hkz8:kb<w8.heap.size:=Nat.lt_of_lt_of_le hK7.lt hb8.size
    clear h7 hX7 hK7 hT7 hb7 hbx hb8 hO8 hc8 hmrg t0 t1 t2 t3 x0 x1 x2 x3
    by_cases he:er=0
    ·have hee:((er:Int) != 0)=false:=by simp [he]
     rw [if_pos he] at HA
     have hisc:Hid (Yw m (p,P,Q,R)):=hid (by
      have h1:=Ji H0.out.1.ok L (q,S,M,X)
      rw [HA.out] at h1;exact h1.cell (L,(p,P,Q,R)) (Xz (by rw [Sf,if_pos rfl])))
     clear he;go_wp2_with fail;generalize w8.alloc (.cells #[.int .i64 p,.slice E1 m1 e1,.slice E2 m2' e2,.slice E3 m3 e3] 105)=w9 at h9 hK9 hS9 hc9 hb9 ⊢;obtain ⟨sb,hsb⟩ : ∃ sb,w8.heap.size=sb:=⟨_,rfl⟩;rw [hsb] at hkz8 hS9 ⊢;clear hsb;obtain ⟨l0,l1,l2,l3,l4,l5,l6,hV,_,_⟩:=Qu (p,P,Q,R)
     have hkp:=hid (Ydj (n:=p) (w:=w9.drew) hc9.drew)
     rw [hV.out] at hkp
     have KK:Hid (∀ y:World,Below w9.heap.size w9 y→y.cell? ⟨g,2,none⟩=some (.map (some b))∧y.cell? ⟨kb,0,none⟩=some (.int .i64 x)∧y.cell? ⟨kb,1,none⟩=some (.int .i64 y')∧y.cell? ⟨kb,2,none⟩=some (.int .i64 z)∧y.cell? ⟨sb,0,none⟩=some (.int .i64 p)∧y.cell? ⟨sb,1,none⟩=some (.slice E1 m1 e1)∧y.cell? ⟨sb,2,none⟩=some (.slice E2 m2' e2)∧y.cell? ⟨sb,3,none⟩=some (.slice E3 m3 e3)):=hid fun y hy=>by
      have a1:=hK9.below hy hK9.lt
      have a2:=hS9.below hy hS9.lt
      exact ⟨(h9.Yc hy).c2,a1.cell 0,a1.cell 1,a1.cell 2,a2.cell 0,a2.cell 1,a2.cell 2,a2.cell 3⟩
     have KS:Hid (∀ y:World,Below w9.heap.size w9 y→∃ w',(Instr.mapUpdate 117 (.map (some b)) (.agg #[.int .i64 x,.int .i64 y',.int .i64 z]) (.agg #[.int .i64 l0,.int .i64 l1,.int .i64 l2,.int .i64 l3,.int .i64 l4,.int .i64 l5,.int .i64 l6])).run Tryz.prog y=.ok () w'∧Cb w' g b W m (Vn C L (p,P,Q,R))∧y.grownBy w' (some b)∧w'.cell? ⟨g,2,none⟩=some (.map (some b))∧w'.cell? ⟨kb,0,none⟩=some (.int .i64 x)∧w'.cell? ⟨kb,1,none⟩=some (.int .i64 y')∧w'.cell? ⟨kb,2,none⟩=some (.int .i64 z)∧w'.cell? ⟨sb,0,none⟩=some (.int .i64 p)∧w'.cell? ⟨sb,1,none⟩=some (.slice E1 m1 e1)∧w'.cell? ⟨sb,2,none⟩=some (.slice E2 m2' e2)∧w'.cell? ⟨sb,3,none⟩=some (.slice E3 m3 e3)):=hid fun y hy=>by
      have hy9:=h9.Yc hy
      obtain ⟨w',r1,r2,r3⟩:=hy9.map.store hw3 (t:=117) (x:=(p,P,Q,R)) Tryz.underlying117 hy9.ok.ris (by have:=hy9.len; omega) hk
      rw [hxyz.out,hV.out] at r1
      have a1:=(hK9.below hy hK9.lt).grown r3 (fun e=>by injection e with e; omega)
      have a2:=(hS9.below hy hS9.lt).grown r3 (fun e=>by injection e with e; omega)
      have a3:=hy9.put r3 r2 hk hisc.out
      exact ⟨w',r1,a3,r3,a3.c2,a1.cell 0,a1.cell 1,a1.cell 2,a2.cell 0,a2.cell 1,a2.cell 2,a2.cell 3⟩
     have k:=KK.out _ (Below.refl _ w9)
     obtain ⟨k0,k1,k2,k3,k4,k5,k6,k7⟩:=k
     have HB9:=hid hb9
     clear h9 hK9 hS9 hc9 hb9;go_region_held3 (fun w'=>w'.cell? ⟨g,2,none⟩=some (.map (some b))∧w'.cell? ⟨kb,0,none⟩=some (.int .i64 x)∧w'.cell? ⟨kb,1,none⟩=some (.int .i64 y')∧w'.cell? ⟨kb,2,none⟩=some (.int .i64 z)∧w'.cell? ⟨sb,0,none⟩=some (.int .i64 p)∧w'.cell? ⟨sb,1,none⟩=some (.slice E1 m1 e1)∧w'.cell? ⟨sb,2,none⟩=some (.slice E2 m2' e2)∧w'.cell? ⟨sb,3,none⟩=some (.slice E3 m3 e3))
      (first
       | go_keep
       | exact K11
       | exact KK.out _ hBB1)
      (first
       | (go_at_call 121; refine hkp.out.mono ?_; rintro e w10 ⟨rfl,hb10⟩; have hBB1:Below w9.heap.size w9 w10:=((below_drewN (Below.refl _ w9) 1).trans hb10); obtain ⟨w11,hrun,h11,hg11,K11⟩:=KS.out _ hBB1))
     have HF:=hid (And.intro h11 (Jn (Yb HB9.out hBB1) hg11))
     clear h11 hg11 hBB1 hb10 hrun K11 KK KS k0 k1 k2 k3 k4 k5 k6 k7;go_wp2_with fail;go_ret;rw [HA.out];exact ⟨rfl,HF.out.1,HF.out.2⟩
    ·have hee:((er:Int) != 0)=true:=by simpa using he
     rw [if_neg he] at HA
     have HF:=hid (And.intro h9 (grown_of hb9 (some b)))
     clear he h9 hK9 hS9 hc9 hb9;go_wp2_with fail;go_ret;rw [HA.out];exact ⟨rfl,HF.out.1,HF.out.2⟩
   ·rw [hu] at HA
    have hat:=Yl7 h3 hk hu
    rw [hxyz.out] at hat;refine hat.mono ?_;rintro e w4 ⟨⟨v1,v2,v3,rfl,hO4⟩,hb4⟩;obtain ⟨B1,k1,d1,B2,k2,d2,B3,k3,d3,rfl,rfl,rfl,hy4⟩:=hO4.form;obtain ⟨u0,uS,uM,uX⟩:=u
    have hbx:=Yb hb4 (Ya w4 (.cells #[.int .i64 u0,.slice B1 k1 d1,.slice B2 k2 d2,.slice B3 k3 d3] 105))
    have hX7:=hX3.below hbx hX3.lt
    have hK7:=hK3.below hbx hK3.lt
    have hT7:=Block.new w4 105 #[.int .i64 u0,.slice B1 k1 d1,.slice B2 k2 d2,.slice B3 k3 d3]
    have hy7:=hy4.Qe (.cells #[.int .i64 u0,.slice B1 k1 d1,.slice B2 k2 d2,.slice B3 k3 d3] 105)
    have hb7:=Yb hb3 hbx
    have hkz:kb<w4.heap.size:=Nat.lt_of_lt_of_le hK3.lt hb4.size
    have HY:Hid ((some (u0,uS,uM,uX):Option PC).getD (Yv m)=(u0,uS,uM,uX)):=hid rfl
    clear h3 hX3 hx3 hK3 hb3 hbx hb4 hat hu hO4 hy4;go_upto_region 7 with fail
    generalize w4.alloc (.cells #[.int .i64 u0,.slice B1 k1 d1,.slice B2 k2 d2,.slice B3 k3 d3] 105)=w7 at hT7 hb7 hX7 hK7 hy7 ⊢;obtain ⟨tb,htb⟩ : ∃ tb,w4.heap.size=tb:=⟨_,rfl⟩;rw [htb] at hkz hT7 ⊢;clear htb
    have hz6:w.heap.size≤tb:=by omega
    have h7:=H0.out.1.Yc hb7
    have hx7:=H0.out.2.Yc hb7
    have hmrg:=hid (Bp (q:=u0) (q':=q) hy7 hx7)
    obtain ⟨p,P,Q,R,er,HR⟩ : ∃ p P Q R er,Hid (Xq (u0,uS,uM,uX) (q,S,M,X)=((p,P,Q,R),er)):=⟨_,_,_,_,_,hid rfl⟩;rw [HY.out,HR.out] at HA
    have t0:w7.cell? ⟨tb,0,none⟩=some (.int .i64 (u0)):=hT7.cell 0
    have t1:w7.cell? ⟨tb,1,none⟩=some (.slice B1 k1 d1):=hT7.cell 1
    have t2:w7.cell? ⟨tb,2,none⟩=some (.slice B2 k2 d2):=hT7.cell 2
    have t3:w7.cell? ⟨tb,3,none⟩=some (.slice B3 k3 d3):=hT7.cell 3
    have x0:w7.cell? ⟨w.heap.size,0,none⟩=some (.int .i64 q):=hX7.cell 0
    have x1:w7.cell? ⟨w.heap.size,1,none⟩=some (.slice A1 n1 c1):=hX7.cell 1
    have x2:w7.cell? ⟨w.heap.size,2,none⟩=some (.slice A2 n2 c2):=hX7.cell 2
    have x3:w7.cell? ⟨w.heap.size,3,none⟩=some (.slice A3 n3 c3):=hX7.cell 3
    clear hy7 hx7;go_wp2_with fail;refine hmrg.out.mono ?_;rw [HR.out];rintro e w8 ⟨⟨v1,v2,v3,rfl,hO8⟩,hb8⟩;obtain ⟨E1,m1,e1,E2,m2',e2,E3,m3,e3,rfl,rfl,rfl,hc8⟩:=hO8.form
    have hbx:=Yb hb8 (Ya w8 (.cells #[.int .i64 p,.slice E1 m1 e1,.slice E2 m2' e2,.slice E3 m3 e3] 105))
    have h9:=h7.Yc hbx
    have hK9:=hK7.below hbx hK7.lt
    have hS9:=Block.new w8 105 #[.int .i64 p,.slice E1 m1 e1,.slice E2 m2' e2,.slice E3 m3 e3]
    have hc9:=hc8.Qe (.cells #[.int .i64 p,.slice E1 m1 e1,.slice E2 m2' e2,.slice E3 m3 e3] 105)
    have hb9:=Yb hb7 hbx
    have hkz8:kb<w8.heap.size:=Nat.lt_of_lt_of_le hK7.lt hb8.size
    clear h7 hX7 hK7 hT7 hb7 hbx hb8 hO8 hc8 hmrg t0 t1 t2 t3 x0 x1 x2 x3
    by_cases he:er=0
    ·have hee:((er:Int) != 0)=false:=by simp [he]
     rw [if_pos he] at HA
     have hisc:Hid (Yw m (p,P,Q,R)):=hid (by
      have h1:=Ji H0.out.1.ok L (q,S,M,X)
      rw [HA.out] at h1;exact h1.cell (L,(p,P,Q,R)) (Xz (by rw [Sf,if_pos rfl])))
     clear he;go_wp2_with fail;generalize w8.alloc (.cells #[.int .i64 p,.slice E1 m1 e1,.slice E2 m2' e2,.slice E3 m3 e3] 105)=w9 at h9 hK9 hS9 hc9 hb9 ⊢;obtain ⟨sb,hsb⟩ : ∃ sb,w8.heap.size=sb:=⟨_,rfl⟩;rw [hsb] at hkz8 hS9 ⊢;clear hsb;obtain ⟨l0,l1,l2,l3,l4,l5,l6,hV,_,_⟩:=Qu (p,P,Q,R)
     have hkp:=hid (Ydj (n:=p) (w:=w9.drew) hc9.drew)
     rw [hV.out] at hkp
     have KK:Hid (∀ y:World,Below w9.heap.size w9 y→y.cell? ⟨g,2,none⟩=some (.map (some b))∧y.cell? ⟨kb,0,none⟩=some (.int .i64 x)∧y.cell? ⟨kb,1,none⟩=some (.int .i64 y')∧y.cell? ⟨kb,2,none⟩=some (.int .i64 z)∧y.cell? ⟨sb,0,none⟩=some (.int .i64 p)∧y.cell? ⟨sb,1,none⟩=some (.slice E1 m1 e1)∧y.cell? ⟨sb,2,none⟩=some (.slice E2 m2' e2)∧y.cell? ⟨sb,3,none⟩=some (.slice E3 m3 e3)):=hid fun y hy=>by
      have a1:=hK9.below hy hK9.lt
      have a2:=hS9.below hy hS9.lt
      exact ⟨(h9.Yc hy).c2,a1.cell 0,a1.cell 1,a1.cell 2,a2.cell 0,a2.cell 1,a2.cell 2,a2.cell 3⟩
     have KS:Hid (∀ y:World,Below w9.heap.size w9 y→∃ w',(Instr.mapUpdate 117 (.map (some b)) (.agg #[.int .i64 x,.int .i64 y',.int .i64 z]) (.agg #[.int .i64 l0,.int .i64 l1,.int .i64 l2,.int .i64 l3,.int .i64 l4,.int .i64 l5,.int .i64 l6])).run Tryz.prog y=.ok () w'∧Cb w' g b W m (Vn C L (p,P,Q,R))∧y.grownBy w' (some b)∧w'.cell? ⟨g,2,none⟩=some (.map (some b))∧w'.cell? ⟨kb,0,none⟩=some (.int .i64 x)∧w'.cell? ⟨kb,1,none⟩=some (.int .i64 y')∧w'.cell? ⟨kb,2,none⟩=some (.int .i64 z)∧w'.cell? ⟨sb,0,none⟩=some (.int .i64 p)∧w'.cell? ⟨sb,1,none⟩=some (.slice E1 m1 e1)∧w'.cell? ⟨sb,2,none⟩=some (.slice E2 m2' e2)∧w'.cell? ⟨sb,3,none⟩=some (.slice E3 m3 e3)):=hid fun y hy=>by
      have hy9:=h9.Yc hy
      obtain ⟨w',r1,r2,r3⟩:=hy9.map.store hw3 (t:=117) (x:=(p,P,Q,R)) Tryz.underlying117 hy9.ok.ris (by have:=hy9.len; omega) hk
      rw [hxyz.out,hV.out] at r1
      have a1:=(hK9.below hy hK9.lt).grown r3 (fun e=>by injection e with e; omega)
      have a2:=(hS9.below hy hS9.lt).grown r3 (fun e=>by injection e with e; omega)
      have a3:=hy9.put r3 r2 hk hisc.out
      exact ⟨w',r1,a3,r3,a3.c2,a1.cell 0,a1.cell 1,a1.cell 2,a2.cell 0,a2.cell 1,a2.cell 2,a2.cell 3⟩
     have k:=KK.out _ (Below.refl _ w9)
     obtain ⟨k0,k1,k2,k3,k4,k5,k6,k7⟩:=k
     have HB9:=hid hb9
     clear h9 hK9 hS9 hc9 hb9;go_region_held3 (fun w'=>w'.cell? ⟨g,2,none⟩=some (.map (some b))∧w'.cell? ⟨kb,0,none⟩=some (.int .i64 x)∧w'.cell? ⟨kb,1,none⟩=some (.int .i64 y')∧w'.cell? ⟨kb,2,none⟩=some (.int .i64 z)∧w'.cell? ⟨sb,0,none⟩=some (.int .i64 p)∧w'.cell? ⟨sb,1,none⟩=some (.slice E1 m1 e1)∧w'.cell? ⟨sb,2,none⟩=some (.slice E2 m2' e2)∧w'.cell? ⟨sb,3,none⟩=some (.slice E3 m3 e3))
      (first
       | go_keep
       | exact K11
       | exact KK.out _ hBB1)
      (first
       | (go_at_call 121; refine hkp.out.mono ?_; rintro e w10 ⟨rfl,hb10⟩; have hBB1:Below w9.heap.size w9 w10:=((below_drewN (Below.refl _ w9) 1).trans hb10); obtain ⟨w11,hrun,h11,hg11,K11⟩:=KS.out _ hBB1))
     have HF:=hid (And.intro h11 (Jn (Yb HB9.out hBB1) hg11))
     clear h11 hg11 hBB1 hb10 hrun K11 KK KS k0 k1 k2 k3 k4 k5 k6 k7;go_wp2_with fail;go_ret;rw [HA.out];exact ⟨rfl,HF.out.1,HF.out.2⟩
    ·have hee:((er:Int) != 0)=true:=by simpa using he
     rw [if_neg he] at HA
     have HF:=hid (And.intro h9 (grown_of hb9 (some b)))
     clear he h9 hK9 hS9 hc9 hb9;go_wp2_with fail;go_ret;rw [HA.out];exact ⟨rfl,HF.out.1,HF.out.2⟩
 ·have hcon:=hid (Ydl h1.c0 hL1 hk)
  have HV:=hid (Yfd (m:=m) (C:=C) (x:=(q,S,M,X)) hk)
  go_enter Tryz.func82,Tryz.ntmps82;go_wp2_with fail;generalize w.alloc (.cells #[.int .i64 q,.slice A1 n1 c1,.slice A2 n2 c2,.slice A3 n3 c3] 105)=w1 at hb1 h1 hL1 hx1 hcon hX ⊢;refine hcon.out.mono ?_;rintro e w2 ⟨rfl,hb2⟩
  have hbx:=Yb hb2 (Ya w2 (.cells #[.int .i64 0,.int .i64 0,.int .i64 0] 177))
  have HF:=hid (And.intro (h1.Yc hbx) (grown_of (Yb hb1 hbx) (some b)))
  clear hL1 h1 hb1 hbx hb2 hcon hX hx1 hk;go_wp2_with fail;go_ret;rw [HV.out];exact ⟨rfl,HF.out.1,HF.out.2⟩
end
section
open Go.RowKit Go.Maps
theorem Ynx (h:k.length=W) (hW:W≤3) {x y z:Int}(e:Hid (kc3 k=[.int .i64 x,.int .i64 y,.int .i64 z])):∀ (j:Nat) (u:Value),(k.map Xe)[j]?=some u→(#[Value.int .i64 x,.int .i64 y,.int .i64 z])[0+j]?=some u:=by
 intro j u hu
 have hj:j<k.length:=by have:=(List.getElem?_eq_some_iff.1 hu).1; simpa using this
 rw [Nat.zero_add]
 have e2:(#[Value.int .i64 x,.int .i64 y,.int .i64 z])[j]?=(kc3 k)[j]?:=by rw [e.out]; simp
 rw [e2,← hu,List.getElem?_map,List.getElem?_eq_getElem hj]
 match j,hj with
 | 0,hj=>simp [kc3,Xe,List.getD_eq_getElem?_getD,List.getElem?_eq_getElem hj]
 | 1,hj=>simp [kc3,Xe,List.getD_eq_getElem?_getD,List.getElem?_eq_getElem hj]
 | 2,hj=>simp [kc3,Xe,List.getD_eq_getElem?_getD,List.getElem?_eq_getElem hj]
 | j+3,hj=>omega
theorem Ydi (k:List Int):∃ x y z,Hid (kc3 k=[.int .i64 x,.int .i64 y,.int .i64 z]):=⟨_,_,_,hid rfl⟩
theorem Yhd {α:Type}{L:List α}{k:Nat}{x:α} (h:L[k]?=some x):L.take k++[x]=L.take (k+1):=by
 rw [List.take_add_one,h];rfl
theorem Yn0 (h:Cb w g b W m C):Calls Tryz.prog 117 #[.pointer (some ⟨g,0,none⟩)] w (Told Um 27 1 w (C.map (·.1))):=by
 have hS:=hid (Yg9 h)
 have hlen:=h.len
 have hw3:=h.w3
 have hw1:=h.w1
 have HC:=hid h
 obtain ⟨J,hJ⟩ : ∃ J,Hid (C.map (·.1)=J):=⟨_,hid rfl⟩
 have hJl:Hid (J.length=C.length):=hid (by rw [← hJ.out,List.length_map])
 have hJk:Hid (∀ k∈J,k.length=W):=hid fun k hk=>by
  rw [← hJ.out] at hk;obtain ⟨e,he,rfl⟩:=List.mem_map.1 hk;exact (h.ok.key e he).1
 rw [hJ.out] at hS ⊢;clear h;go_enter Tryz.func117,Tryz.ntmps117;go_wp2_with fail;refine hS.out.mono ?_;rintro e w2 ⟨⟨A,c,rfl,hR⟩,hb2⟩;obtain ⟨n,hn⟩ : ∃ n,Hid (C.length=n):=⟨_,hid rfl⟩;rw [hn.out] at hR hlen ⊢
 have hJn:Hid (J.length=n):=hid (hJl.out.trans hn.out)
 have h2:=HC.out.Yc hb2
 have HR:=hid hR
 have HH:=hid h2
 clear hS hR h2 HC;go_wp2_with fail;go_loopw [3,9] (fun v i wr=>∃ k:Nat,k≤n∧i=.int .i64 k∧Ys Um 27 1 wr w2.heap.size (fun b=>w2.heap.size≤b) v (J.take k)∧Below w2.heap.size w2 wr) (fun _ i _=>n - (intOf i).toNat)
 case atStart=>exact ⟨0,Nat.zero_le _,rfl,Ys.Zj w2 _ _,Below.refl _ _⟩
 case round =>
  obtain ⟨k,hk,rfl,hO,hB⟩:=hrel
  by_cases hlt:k<n
  ·obtain ⟨b',o,us,x,rfl,_,hbl,_,hcell,hx,hxe⟩:=(HR.out.mv Ymp (Mv.Yc hB _)).at_ hlt
   have hx:us=kc3 x:=hx
   obtain ⟨x0,x1,x2,hkc⟩:=Ydi x;rw [hx,hkc.out] at hcell
   have g0:wr.cell? ⟨b',o+k*3,none⟩=some (.int .i64 x0):=hcell 0 _ rfl
   have g1:wr.cell? ⟨b',o+k*3+1,none⟩=some (.int .i64 x1):=hcell 1 _ rfl
   have g2:wr.cell? ⟨b',o+k*3+2,none⟩=some (.int .i64 x2):=hcell 2 _ rfl
   have hxl:=hJk.out x (List.mem_of_getElem? hxe.out)
   have i0:(0:Int)≤(k:Int):=by omega
   have i1:(k:Int)<(n:Int):=by omega
   have iW0:(0:Int)≤(W:Int):=by omega
   have iW3:(W:Int)≤3:=by omega
   have hbx:=Ya wr (.cells #[.int .i64 x0,.int .i64 x1,.int .i64 x2] 177)
   have hBl:=Block.new wr 177 #[.int .i64 x0,.int .i64 x1,.int .i64 x2]
   have hO1:=hO.below Vf hbx
   have hB1:=hB.trans (hbx.mono hB.size)
   have hlo:=fun g e=>hO1.lt g e
   have c0:=(HH.out.Yc hB1).c0
   have hHI:=hid (Yx.part hBl 0 W 3 x hxl hw3 (by decide) (Ynx hxl hw3 hkc))
   have HT:=hid (Yhd hxe.out)
   have hlb:Hid ((J.take k).length≤1000000):=hid (Nat.le_trans (List.length_take_le k _) (by omega))
   clear hcell hx hO hB hxl hxe hkc hBl;go_wp2_with fail;generalize wr.alloc (.cells #[.int .i64 x0,.int .i64 x1,.int .i64 x2] 177)=W3 at hO1 hB1 hlo c0 hHI ⊢;clear g0 g1 g2;refine (V9 hHI.out (by omega)).mono ?_
   rintro e w5 ⟨⟨v5,rfl,hO5⟩,hb5⟩;obtain ⟨A5,n5,c5,rfl,_⟩:=hO5.Yu
   have hz1:=hB1.size
   have hlw:∀ g,u3.ownBlock=some g→w2.heap.size≤g∧g<W3.heap.size:=hlo
   have hy5:Um w5 (fun k=>w2.heap.size≤k∧u3.ownBlock≠some k) [.slice A5 n5 c5] x:=⟨_,rfl,(hO5.low (Nat.zero_le _)).Yk6,fun j hj=>⟨Nat.le_trans hz1 (hO5.lt j hj).1,fun e=>by have:=(hlw j e).2; have:=(hO5.lt j hj).1; omega⟩⟩
   have hO6':=hO1.below Vf hb5
   have hB6':=hB1.trans (hb5.mono hz1)
   have hz5:=hB6'.size
   have hO6:=hO6'.alloc Vf (.cells #[.slice A5 n5 c5] 27)
   have hy6:=Vf _ _ _ _ _ _ (Mv.alloc w5 (.cells #[.slice A5 n5 c5] 27) _) hy5
   have hone:=Yk1 A5 n5 c5
   have hB6:=hB6'.alloc hz5 (.cells #[.slice A5 n5 c5] 27)
   have hbs:w2.heap.size≤(w5.alloc (.cells #[.slice A5 n5 c5] 27)).heap.size:=by rw [World.size_alloc]; omega
   have hcl:∀ j u,[Value.slice A5 n5 c5][j]?=some u→(w5.alloc (.cells #[.slice A5 n5 c5] 27)).cell? ((⟨w5.heap.size,0,none⟩ : Addr).add j)=some u:=fun j u hj=>by
    rw [Yt,Nat.zero_add,Zk];simpa using hj
   clear hO1 hB1 hHI hO5 hb5 hy5 hO6' hB6' c0;go_wp2_with (at_builtin; refine Wq Vf rfl _ _ rfl Kr Tryz.underlying24 rfl (by decide) w2.heap.size _ _ _ rfl hO6 _ rfl [.slice A5 n5 c5] rfl x hcl hone hy6 hlb.out hbs ?_)
   intro v' w6 hO7 hG7
   have hF:=hid (show Ys Um 27 1 w6 w2.heap.size (fun b=>w2.heap.size≤b) v' (J.take (k+1))∧Below w2.heap.size w2 w6 from ⟨HT.out ▸ hO7,hB6.trans (hG7.Y4 hbs (fun g e=>(hlw g e).1))⟩)
   clear hO7 hG7 hO6 hy6 hB6 hlo hlw hone hcl;go_wp2_with fail;go_roundw
   case rel=>exact ⟨k+1,by omega,by go_num,hF.out.1,hF.out.2⟩
   case measure=>simp [intOf]; omega
  ·have hF:=hid (show Ys Um 27 1 wr w.heap.size (fun b=>w.heap.size≤b) u3 J∧Below w.heap.size w wr from ⟨by
     rw [List.take_of_length_le (by have:=hJn.out; omega)] at hO
     exact (hO.to Vf (fun b hb _=>Nat.le_trans hb2.size hb)).low hb2.size,Yb hb2 hB⟩)
   clear hO hB;go_wp2_with fail;go_ret;exact ⟨u3,rfl,hF.out.1,hF.out.2⟩
/-! ### Copy -/
theorem V1.to_ {b':Nat} (h:V1 W w b C) (hb:w'.heap[b']?=w.heap[b]?):V1 W w' b' C:=by
 obtain ⟨F,⟨⟨D,⟨es,clock,h1,h2,h3,h4⟩,h5⟩,n1,n2,n3,n4⟩,h6⟩:=h;exact ⟨F,⟨⟨D,⟨es,clock,hb.trans h1,h2,h3,h4⟩,h5⟩,n1,n2,n3,n4⟩,h6⟩
end
section
open Go.RowKit Go.Maps
/-! ### rows of cells whose lists lie in blocks of ints -/
def Yb0 (w:World):Nat→Prop:=fun k=>∃ cs,w.heap[k]?=some (.cells cs 3 (0,0))
abbrev S9 (w:World) (base:Nat) (v:Value) (L:List PC):Prop:=Ys Wi 105 4 w base (Yb0 w) v L
def Kept (w w' : World) (P:Nat→Prop):Prop:=w'.os=w.os∧w'.tape=w.tape∧w'.output=w.output∧w.heap.size≤w'.heap.size∧∀ k,k<w.heap.size→¬ P k→w'.heap[k]?=w.heap[k]?
theorem Kept.Wl {r:Option Nat} (h:w.grownBy w' r):Kept w w' (fun k=>r=some k):=⟨h.os,h.tape,h.output,h.size,fun k hk hn=>h.block k hk (fun e=>hn e.symm)⟩
theorem Kept.Yz (h:Below w.heap.size w w') (P:Nat→Prop):Kept w w' P:=⟨h.os,h.tape,h.output,h.size,fun k hk _=>h.block k hk⟩
theorem S9.kept {L:List PC}{P:Nat→Prop} (h:S9 w base v L) (hK:Kept w w' P) (hI:∀ k,Yb0 w k→¬ P k) (hv:∀ k,v.ownBlock=some k→¬ P k):S9 w' base v L:=by
 obtain ⟨vs,h1,h2⟩:=h;refine ⟨vs,Ev h1 fun k hk=>hK.2.2.2.2 k (h1.lt k hk).2 (hv k hk),fun i x hi=>Zh _ _ _ _ _ _ (fun b hb hl=>?_) (h2 i x hi)⟩
 have e:=hK.2.2.2.2 b hl (hI b hb.1)
 refine ⟨e,?_,hb.2⟩;obtain ⟨cs,hc⟩:=hb.1;exact ⟨cs,e.trans hc⟩
theorem S9.Yor {L:List PC} (h:S9 w base v L) (hne:105≠3) {k:Nat}(hk:Yb0 w k):v.ownBlock≠some k:=by
 obtain ⟨vs,h1,_⟩:=h;intro e;obtain ⟨cs,hc⟩:=hk
 rcases h1.2 with ⟨rfl,_⟩ | ⟨g,cap,cur,rfl,_,hg,_⟩
 ·simp [Value.ownBlock] at e
 ·have e2:g=k:=by simpa [Value.ownBlock] using e
  subst e2;rw [hc] at hg;injection hg with hg
  injection hg with _ hg _
  exact hne hg.symm
theorem X5.elB {n:Int}{v1 v2 v3:Value}{Su:List Int} (h:X5 w base v1 v2 v3 Su M X) (S:Nat→Prop) (hS:∀ k,Yb0 w k→base≤k→S k):Wi w S [.int .i64 n,v1,v2,v3] (n,Su,M,X):=by
 have key:∀ {v:Value}{l:List Int},Yf w base v l→Ty w S [v] l:=fun {v l} h=>by
  have h2:Ys Yr 3 1 w base (fun _=>False) v l:=h.Yk6
  obtain ⟨A,c,rfl,hr⟩:=h2.read Yh;refine ⟨A,_,c,rfl,hr.mv Yh (Mv.to w fun b hb hl=>?_)⟩
  rcases hb with hb | ⟨hb1,hb2⟩
  ·exact hb.elim
  ·refine hS b ?_ hb1
   rcases h.2 with ⟨e,_⟩ | ⟨g,cap,cur,e,_,hg,_⟩
   ·rw [e] at hb2; simp [Value.ownBlock] at hb2
   ·rw [e] at hb2
    have e2:g=b:=by simpa [Value.ownBlock] using hb2
    subst e2;exact ⟨cur,hg⟩
 exact ⟨rfl,key h.s,key h.m,key h.x⟩
/-! ### rows under keys -/
theorem S9.app {z w6:World}{v':Value}{L L':List PC} (h:S9 z base v L) (hne:105≠3) (h6:Ys Wi 105 4 w6 base (Yb0 z) v' L') (hG:Z7 z v w6 v'):S9 w6 base v' L' :=
 h6.to Zh fun k hk _=>by
  obtain ⟨cs,hc⟩:=hk
  have hl:=(Array.getElem?_eq_some_iff.1 hc).1
  exact ⟨cs,(hG.1.block k hl (fun e=>h.Yor hne ⟨cs,hc⟩ e.symm)).trans hc⟩
theorem Uj.iter {K:TypeId}{kv:List Int→Value}{r cnt:Nat}{F:Lit→Option Value}{J acc:List (List Int)} (h:Uj K kv W w b r F J acc cnt):∃ o:Obj,w.heap[r]?=some o∧o.isCells=false:=by
 obtain ⟨D,left,⟨es,clock,since,seen,c0,h1,F1,h2,h3,h4,rest⟩,h5,h6⟩:=h.rng;exact ⟨_,h4,rfl⟩
end
end Go.Proofs.YtkablhecedcngaaGreat
