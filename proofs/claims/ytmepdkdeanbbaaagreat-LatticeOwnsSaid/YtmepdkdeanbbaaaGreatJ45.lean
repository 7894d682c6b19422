/- CubE, CubG, CubH, CubI, CubJ, CubL, CubG2, CubQ, CubU, CubP2, CubV, CubV3, CubX, CubY, CubY2 -/
import Derived.Test.YtmepdkdeanbbaaaGreatJ1
import Derived.Test.YtmepdkdeanbbaaaGreatJ29
import Derived.Test.YtmepdkdeanbbaaaGreatJ41
import Derived.Deep.DeepCutAuto
import Derived.LoopIn
import Derived.LoopNIn
import Derived.RangeFuncBound
import Derived.RangeFuncNested
import Derived.Shelf.AbstractIn
import Derived.Shelf.RegionOpen
import Derived.Shelf.SlMaps.Clone
import Derived.Shelf.SlSortCmp.NoneTotal
namespace Go.Proofs.YtmepdkdeanbbaaaGreat
set_option maxRecDepth 100000
set_option maxHeartbeats 8000000
open Go.RowKit
open Proofs.Tryz renaming prog→aa,underlying179→aj,underlying71→az,underlying178→bs,ntmps110→du,func110→dw,ntmps111→ez,ntmps108→fb,ntmps56→fc,func229→ff,func111→fg,func108→fh,func56→fi
open And renaming intro→ae
open List renaming getElem?_eq_getElem→af,length_append→ag,flatMap_append→ao,replicate→aq,length_map→ar,getD_eq_getElem?_getD→au,range→aw,append_assoc→bg,mem_of_getElem?→bo,append_toArray→bp,size_toArray→bz,push_toArray→ch,flatMap_cons→cj,length_cons→cw,cons_append→cz,take_of_length_le→dc,nil_append→dd,length_nil→df,take_append_drop→dg,getElem?_map→dn,getElem?_eq_some_iff→dt,mem_map→dx,getElem?_take→dz
open Nat renaming le_refl→ai,le_trans→ak,lt_of_lt_of_le→ax,zero_add→br,zero_le→dh,reduceSub→di,reduceAdd→dj,le_succ→fj
open World renaming size_alloc→an,block_lt_of_cell?→cn
open Fence renaming wide→av
open Value renaming ownBlock→ay,int→ee
open _root_.Array renaming replicate_zero→bj,replicate_succ→bn,getElem?_eq_some_iff→dq,length_toList→dy
open Instr renaming lookup→da,mapUpdate→dp
open Go.Sort renaming ahead→db
open Option renaming getD_some→dm,map_some→ei
open Go.Lib (hid)
variable {w w':World}{W Wd a b base c g m n:Nat}{C:Cub}{L M X k:List Int}{v v':Value}{A:Option Addr}{u x:PC}{l:List UInt8}{J:List (List Int)}
section
open Go.RowKit Go.Maps Go.Sort Go.Shelf
attribute [local go_sem] Oper.semAt_some
theorem Yog:aa.keyTypeAt 4 178=true:=by kernel_rfl
theorem Yqw:Go.WideMaps.KeyLaw aa 178:=deep_law_laid (show laidOutB aa=true by kernel_rfl) (m:=4) (by decide) (of_decide_eq_true (by kernel_rfl)) Yog (by kernel_rfl)
theorem Ysc(hW:W<=3):Ev 178 kv3 W:=
 Ywd (Keyed.of_law Yqw) bs Tryz.underlying3 (by kernel_rfl) (by kernel_rfl) (by kernel_rfl) (of_decide_eq_true (by kernel_rfl)) hW
abbrev MJ(W:Nat)(w:World)(b:Nat)(F:Lit->Option Value)(J:List (List Int)):Prop:=Te 178 kv3 W w b F J
abbrev RJ(W:Nat)(w:World)(b r:Nat)(F:Lit->Option Value)(J acc:List (List Int))(cnt:Nat):Prop:=Ux 178 kv3 W w b r F J acc cnt
theorem Yrq(hW:Wd<=3)(n:Nat)(hn:1<=n)(l Bm b:Nat){F:Lit->Option Value}{J:List (List Int)}(I Ix:List (List Int)->World->Prop)
  (hY:∀pre x W,I pre W->pre.length<J.length->YieldAt av (n-1) aa l #[kv3 x] W λe W'=>(e=.returned (.bool true)/\I (pre++[x]) W'∧KeepsWalks W W')∨(e=.returned (.bool false)/\Ix (pre++[x]) W'))
  (W:World) (hI:AbidesFrom W.heap.size I) (hm:W.cell? ⟨Bm,0,none⟩=some (.map (some b))) (hown:MJ Wd W b F J) (h0:I [] W):
  CallsIn av n aa 229 #[.func (.yield l) #[] #[],.pointer (some ⟨Bm,0,none⟩)] W λe W'=>(∃v,e=.returned v)/\((∃xs,xs.Perm J/\I xs W')∨∃pre,Ix pre W'):=by
 have T:=Ysc hW
 refine callsIn_of_wp ff rfl trivial ?_ rfl;simp only[Tryz.ntmps229,bz,cw,df,dj,di,bn,bj,ch,bp,dd,cz]
 gi_wp2_with (first
  |(gi_at_range;refine Ga _ rfl _ 179 rfl 200 T aj b F J rfl hown ?_;intro w0 hrg0 hg0 hs0)
  |gi_in)
 go_frame
 gi_loopw [3] (λ_ wr=>∃(cnt:Nat) (ss:List (List Int)),RJ Wd wr b W.heap.size F J ss cnt/\I ss wr) (λ_ wr=>wr.rangeLeft b W.heap.size)
 case atStart=>
  exact⟨_,[],hrg0,hI [] W w0 none h0 hg0 (λr e=>by cases e)⟩
 case round=>
  obtain⟨cnt,ss,hrg,hIs⟩:=hrel
  gi_wp2_with (first
   |(gi_at_next;refine Ep _ rfl _ rfl T rfl hrg ?_ ?_)
   |gi_in)
  ·intro hp
   gi_wp2
   go_end0;exact⟨⟨_,rfl⟩,.inl ⟨ss,hp,hIs⟩⟩
  ·intro k kl v w2 cnt2 hk hnk hkl hF hrg2 hlt hg2 hs2 hen
   have hI2:I ss w2:=hI ss wr w2 (some W.heap.size) hIs hg2 (λr e=>by cases e;exact⟨ai _,by obtain⟨D,left,h1,_⟩:=hrg.rng;exact h1.iter_walk⟩)
   have hlen:ss.length<J.length:=by
    have:=(Yn2 hrg2.nodup hrg2.key)
    simp at this;omega
   obtain⟨x,y,z,hxyz⟩: ∃x y z,Hid (k.getD 0 0=x/\k.getD 1 0=y/\k.getD 2 0=z):=⟨_,_,_,hid ⟨rfl,rfl,rfl⟩⟩
   have ek:Hid (kv3 k=.agg #[.int .i64 x,.int .i64 y,.int .i64 z]):=hid (by unfold kv3;rw[hxyz.out.1,hxyz.out.2.1,hxyz.out.2.2])
   have hI3:I ss (w2.alloc (.cells #[.int .i64 x,.int .i64 y,.int .i64 z] 178)):=hI ss w2 _ none hI2 (World.grownBy_alloc w2 _ none) (λr e=>by cases e)
   obtain⟨fn,tmps,assign,body,hy,hR⟩:=hY ss k _ hI3 hlen
   have hrg3':=hrg2.alloc (.cells #[.int .i64 x,.int .i64 y,.int .i64 z] 178)
   rw[ek.out]at hen hy⊢;clear hs2
   gi_wp2
   refine hR.mono ?_;rintro e W3 (⟨rfl,hI4,hk4⟩|⟨rfl,hIx⟩)
   ·have hrg4:=hrg3'.of_walks hk4
    gi_wp2
    go_roundw
    case rel=>exact⟨cnt2,ss++[k],hrg4,hI4⟩
    case measure=>rw[hrg4.left,hrg.left];exact hlt
   ·gi_wp2
    refine bodyPost_ret (results_none rfl _ _ _) rfl ?_;exact⟨⟨_,rfl⟩,.inr ⟨ss++[k],hIx⟩⟩
theorem Yhf(n:Nat)(mb:Option Nat)(w:World):
  CallsIn av n aa 178 #[.map mb] w λe w'=>e=.returned (.func (.func 229) #[] #[.pointer (some ⟨w.heap.size,0,none⟩)])/\w'=w.alloc (.cells #[.map mb] 179):=by
 refine callsIn_of_wp Tryz.func178 rfl trivial ?_ rfl;simp only[Tryz.ntmps178,bz,cw,df,dj,di,bn,bj,ch,bp,dd,cz]
 gi_wp2
 go_ret;exact⟨rfl,rfl⟩
theorem Yjx(hW:Wd<=3)(n:Nat)(hn:1<=n)(Bm b:Nat){F:Lit->Option Value}{J:List (List Int)}(w:World)(hm:w.cell? ⟨Bm,0,none⟩=some (.map (some b)))(hown:MJ Wd w b F J):
  SeqStopsK av n aa 229 #[.pointer (some ⟨Bm,0,none⟩)] (λk=>#[kv3 k]) KeepsWalks (λxs=>xs.Perm J) (λ_=>True) J.length w:=λl I Ix W hb hI _ hY h0=>by
 have hlt:Bm<w.heap.size:=cn w _ hm
 refine(Yrq hW n hn l Bm b I Ix hY W hI ((hb.cell (p:=⟨Bm,0,none⟩) hlt).trans hm) (hown.below hb hown.lt) h0).mono ?_;rintro e W' ⟨h1,h2|⟨pre,h2⟩⟩
 ·exact⟨h1,.inl h2⟩
 ·exact⟨h1,.inr ⟨pre,trivial,h2⟩⟩
end
section
open Go.RowKit Go.Maps Go.Sort Go.Shelf
attribute [local go_sem] Oper.semAt_some
theorem Yp0:(aa.info? 178).map (λi=>(i.zero,i.size,i.bytes))=some (some (.agg #[.int .i64 0,.int .i64 0,.int .i64 0]),3,24):=by kernel_rfl
def kc3(k:List Int):List Value:=[.int .i64 (k.getD 0 0),.int .i64 (k.getD 1 0),.int .i64 (k.getD 2 0)]
theorem Ytj(A:List (List Int)):(A.flatMap kc3).length=A.length*3:=by
 induction A with
 |nil=>rfl
 |cons a A ih=>rw[cj,ag,ih];simp[kc3];omega
theorem Yh8{W W':World}(h:KeepsOthers W W'):KeepsWalks W W':=⟨h.size,λk o hk hw=>h.same k o hk (by cases o <;> first|rfl|cases hw)⟩
theorem Ypf{β:Type}(B:Nat)(t:TypeId)(cs:Array Value):Own (fun(_:β) W=>Block W B t cs):=λ_ X Y row hs hg hrow=>
 (hg.block B hs.lt (λe'=>by obtain⟨o,ho,hc⟩:=hrow B e'.symm;rw[show X.heap[B]?=_ from hs]at ho;cases ho;cases hc)).trans hs
theorem Yuy(w:World)(x y z:Value)(t:TypeId)(g:Nat)(hg:g=w.heap.size):∀j u,[x,y,z][j]?=some u->(w.alloc (.cells #[x,y,z] t)).cell? ((⟨g,0,none⟩:Addr).add j)=some u:=by
 intro j u hj;subst hg;rw[Yu,br,Zq];simpa using hj
theorem Yea(n:Nat)(hn:3<=n)(g:Nat)(lb:Array Value)(eg:∀args w,(callFunc g args).run aa w=.ok (.enter g args) w)(S Sp:List (List Int)->Prop)(N:Nat)(hN:N<=1000000)(w:World)
  (hseq:SeqStopsK av (n-1) aa g lb (λk=>#[kv3 k]) KeepsWalks S Sp N w):
  CallsIn av n aa 247 #[.slice none 0 0,.func (.func g) #[] lb] w λe w'=>∃(v:Value) (A:List (List Int)),e=.returned v/\S A/\w'.ownsRow w.heap.size 178 3 v A.length (A.flatMap kc3)/\Below w.heap.size w w':=by
 have h1:1<=n:=by omega
 refine callsIn_of_wp_marks Tryz.func247 rfl trivial ?_ rfl;simp only[Tryz.ntmps247,bz,cw,df,dj,di,bn,bj,ch,bp,dd,cz]
 gi_wp2
 have bB:=Boxed.new w 175 (.slice none 0 0)
 have hB0:Below w.heap.size w (w.alloc (.cells #[.slice none 0 0] 175)):=Yb w _
 have hsz:(w.alloc (.cells #[.slice none 0 0] 175)).heap.size=w.heap.size+1:=by simp
 obtain⟨W0,hW0⟩: ∃W0,w.alloc (.cells #[.slice none 0 0] 175)=W0:=⟨_,rfl⟩;rw[hW0]at bB hB0 hsz⊢;clear hW0;refine wpIn_rangeFunc_ownH rfl h1 (gf:=g) (lb:=lb) rfl trivial eg hseq walksK_t walksK_b hB0 (λ_=>rfl)
  (fun(pre:List (List Int)) W=>(∃v,Boxed W w.heap.size 175 v/\W.ownsRow w.heap.size 178 3 v pre.length (pre.flatMap kc3)/\True)/\Below w.heap.size w W)
  (λ_ _ _=>False)
  (OwnFrom.and (Own.from (holdsRow_own w.heap.size w.heap.size 175 178 3 (λpre:List (List Int)=>pre.length) (λpre:List (List Int)=>pre.flatMap kc3) (λ_ _=>True)) _) (ownFrom_below (ai _) (by omega)))
  (λ_ _ _ _ _ hs _ _=>hs)
  ⟨⟨_,bB,World.ownsRow_nil _ _ _ _,trivial⟩,hB0⟩
  (λk a' W=>∃Bx,w.heap.size<Bx/\Block W Bx 178 (kc3 k).toArray/\a'={tmps:=#[.slice none 0 0,.func (.func g) #[] lb,.pointer (some ⟨w.heap.size,0,none⟩),undef,.slice none 0 0,.pointer (some ⟨Bx,0,none⟩),.func (.func g) #[] lb,kv3 k,undef,undef,undef,undef,undef],defers:=[]})
  (λk a' _ X Y row hs hg hr=>by obtain⟨Bx,h1,h2,h3⟩:=hs;exact⟨Bx,h1,Ypf (β:=Unit) Bx _ _ () X Y row h2 hg (λr e=>(hr r e).2),h3⟩)
  ?assign ?body ?done ?stop
 case assign=>
  rintro l pre k W K ⟨⟨v,bv,hr,-⟩,hB⟩ hK;obtain⟨x,y,z,hxyz⟩: ∃x y z,Hid (k.getD 0 0=x/\k.getD 1 0=y/\k.getD 2 0=z):=⟨_,_,_,hid ⟨rfl,rfl,rfl⟩⟩
  have ek:kv3 k=.agg #[.int .i64 x,.int .i64 y,.int .i64 z]:=by unfold kv3;rw[hxyz.out.1,hxyz.out.2.1,hxyz.out.2.2]
  have ec:(kc3 k).toArray=#[.int .i64 x,.int .i64 y,.int .i64 z]:=by unfold kc3;rw[hxyz.out.1,hxyz.out.2.1,hxyz.out.2.2]
  rw[ek,ec]at hK;rw[ek]
  have hZ:=hB.size
  have HK:=hid λa' W'=>hK a' W'
  clear hK ek ec
  gi_wp2
  exact HK.out _ _ ((KeepsOthers.alloc _ _).from _) (KeepsWalks.alloc _ _) ⟨⟨v,bv.alloc _,hr.alloc _,trivial⟩,hB.alloc hZ _⟩ ⟨W.heap.size,bv.lt,Block.new W _ _,rfl⟩
 case body=>
  rintro l pre k a' W hl _ ⟨⟨v,bv,hr,-⟩,hB⟩ ⟨Bx,hBx,bX,rfl⟩ hlt;obtain⟨x,y,z,hxyz⟩: ∃x y z,Hid (k.getD 0 0=x/\k.getD 1 0=y/\k.getD 2 0=z):=⟨_,_,_,hid ⟨rfl,rfl,rfl⟩⟩
  have ek:kv3 k=.agg #[.int .i64 x,.int .i64 y,.int .i64 z]:=by unfold kv3;rw[hxyz.out.1,hxyz.out.2.1,hxyz.out.2.2]
  have ec:kc3 k=[.int .i64 x,.int .i64 y,.int .i64 z]:=by unfold kc3;rw[hxyz.out.1,hxyz.out.2.1,hxyz.out.2.2]
  rw[ec]at bX;rw[ek]
  have EC:=hid ec
  clear ek ec
  have x0:W.cell? ⟨Bx,0,none⟩=some (.int .i64 x):=bX.cell 0
  have x1:W.cell? ⟨Bx,1,none⟩=some (.int .i64 y):=bX.cell 1
  have x2:W.cell? ⟨Bx,2,none⟩=some (.int .i64 z):=bX.cell 2
  have hc:=bv.cell
  have hZ:=hB.size
  obtain⟨i0,hi,hz0,hz1,hz2⟩:=info_parts Yp0
  have hlen:pre.length<=1000000:=by omega
  have hone:∀u∈[ee .i64 x,.int .i64 y,.int .i64 z],u.oneCell'=true:=by
   intro u hu;simp at hu
   rcases hu with rfl|rfl|rfl <;> rfl
  have hTe:175≠178:=by decide
  clear hlt
  gi_wp2_with (gi_at_builtin;refine wpListIn_append_own _ rfl _ _ 175 rfl w.heap.size 178 i0 _ 3 24 Tryz.underlying175 hi hz0 hz1 hz2 rfl (by decide) _ _ _ rfl (hr.alloc _) ⟨W.heap.size,0,none⟩ 1 1 [.int .i64 x,.int .i64 y,.int .i64 z] rfl rfl (Yuy W _ _ _ _ _ rfl) hone (by unfold maxLen;omega) (by omega) (by rw[an];omega) ?_;intro v' w1 hown' hgrow _;obtain⟨g',cap',rfl⟩:=ownsRow_succ hown';obtain⟨hv1,hv2,hr2,hk2,hb2⟩:=bv.appended hTe hr hZ (ai _) hown' hgrow;have hc1:=hv1.cell;have hf1:=hv1.frozen)
  refine⟨hk2.from _,Yh8 hk2,⟨_,hv2,?_,trivial⟩,hB.trans hb2⟩
  rw[ao,ag];simpa[EC.out]using hr2
 case done=>
  rintro D A W hD hS ⟨⟨v,bv,hr,-⟩,hB⟩ hK
  have hc:=bv.cell
  gi_wp2
  refine⟨by simp,.inl ⟨_,_,rfl,run_takeDeferred hK,?_⟩⟩
  exact⟨_,results_tmp rfl _ _ _,v,A,rfl,hS,ownsRow_putObj hr _ hK rfl,hB.trans (belowK_b (w:=w) (ai _) W D _ _ (by omega) hK rfl rfl)⟩
 case stop=>
  rintro D c pre W hD _ h _;exact h.elim
end
section
open Go.RowKit Go.Maps Go.Sort Go.Shelf
attribute [local go_sem] Oper.semAt_some
theorem Ykm(n:Nat)(hn:4<=n)(g:Nat)(lb:Array Value)(eg:∀args w,(callFunc g args).run aa w=.ok (.enter g args) w)(S Sp:List (List Int)->Prop)(N:Nat)(hN:N<=1000000)(w:World)
  (hseq:SeqStopsK av (n-1-1) aa g lb (λk=>#[kv3 k]) KeepsWalks S Sp N w):
  CallsIn av n aa 227 #[.func (.func g) #[] lb] w λe w'=>∃(v:Value) (A:List (List Int)),e=.returned v/\S A/\w'.ownsRow w.heap.size 178 3 v A.length (A.flatMap kc3)/\Below w.heap.size w w':=by
 have h1:1<=n:=by omega
 refine callsIn_of_wp Tryz.func227 rfl trivial ?_ rfl;simp only[Tryz.ntmps227,bz,cw,df,dj,di,bn,bj,ch,bp,dd,cz]
 have hA:=Yea (n-1) (by omega) g lb eg S Sp N hN w hseq
 have hfn:av.fn 247:=trivial
 gi_wp2_with (gi_at_call 247;refine hA.mono ?_;rintro e w' ⟨v,A,rfl,hS,hrow,hb⟩)
 go_ret;exact⟨v,A,rfl,hS,hrow,hb⟩
theorem Yet(hW:Wd<=3){Bm b:Nat}{F:Lit->Option Value}{J:List (List Int)}{w:World}(hm:w.cell? ⟨Bm,0,none⟩=some (.map (some b)))(hown:MJ Wd w b F J)(hJ:J.length<=1000000):
  Calls aa 227 #[.func (.func 229) #[] #[.pointer (some ⟨Bm,0,none⟩)]] w λe w'=>∃(v:Value) (A:List (List Int)),e=.returned v/\A.Perm J/\w'.ownsRow w.heap.size 178 3 v A.length (A.flatMap kc3)/\Below w.heap.size w w':=by
 refine(callsIn_wide (n:=10)).1 ?_;exact Ykm 10 (by decide) _ _ (enters_of ff (by kernel_rfl) rfl) _ _ J.length hJ w (Yjx hW 8 (by decide) Bm b w hm hown)
/-! ### sorted -/
theorem Yfg(d:List (Int×Int×Int))(i c:Nat)(hc:c<3)(x:Int×Int×Int)(hx:d[i]?=some x):(d.flatMap Tf)[i*3+c]?=(Tf x)[c]?:=by
 induction d generalizing i with
 |nil=>simp at hx
 |cons a d ih=>
  rw[cj]
  cases i with
  |zero=>
   simp at hx;subst hx;rw[Nat.zero_mul,br,List.getElem?_append_left (by simpa[Tf]using hc)]
  |succ i=>
   rw[List.getElem?_append_right (by simp[Tf];omega)]
   have e:(i+1)*3+c-(Tf a).length=i*3+c:=by simp[Tf];omega
   rw[e];exact ih i (by simpa using hx)
theorem Ycj(d:List (Int×Int×Int)):(d.flatMap Tf).length=d.length*3:=by
 induction d with
 |nil=>rfl
 |cons a d ih=>rw[cj,ag,ih];simp[Tf];omega
theorem Yh5(d:Array (Int×Int×Int)):flatK Tf 3 d=(d.toList.flatMap Tf).toArray:=by
 refine ext_get! (by rw[size_flatK];show d.size*3=(List.flatMap Tf d.toList).length;rw[Ycj,dy]) λt ht=>?_
 rw[size_flatK]at ht;rw[get_flatK _ _ _ t ht]
 have h1:t/3<d.size:=by omega
 have h2:t%3<3:=Nat.mod_lt _ (by decide)
 have hx:d.toList[t/3]?=some d[t/3]:=by rw[Array.getElem?_toList,Array.getElem?_eq_getElem h1]
 have h3:=Yfg d.toList (t/3) (t%3) h2 _ hx
 rw[show t/3*3+t%3=t from by omega]at h3
 have h4:t<(d.toList.flatMap Tf).length:=by rw[Ycj];simpa using ht
 rw[af h4]at h3;rw[getElem!_pos d _ h1,getElem!_pos (d.toList.flatMap Tf).toArray t (by simpa using h4)]
 have h5:t%3<(Tf d[t/3]).length:=by simpa[Tf]using h2
 rw[af h5]at h3;rw[getElem!_pos (Tf d[t/3]) _ h5];simp only[List.getElem_toArray];exact(Option.some.inj h3).symm
theorem Dz(A:List (List Int)):A.flatMap kc3=(A.map Sc).flatMap Tf:=by
 rw[List.flatMap_map];rfl
def elK:ElT (List Int):=λ_ _ us k=>us=kc3 k
theorem Aw:elK.Ok:=λ_ _ _ _ _ _ _ h=>h
theorem Jw{B blk:Nat}{w0:World}{d:Array (Int×Int×Int)}{os:Array Obj}(hb:Below B w0 w)(hB:B<=blk)(hlt:blk<w.heap.size):Below B w0 (sortWorldK Tf 3 w blk 0 m d os):=by
 refine⟨hb.os,hb.tape,hb.output,?_,λk hk=>?_⟩
 ·show w0.heap.size<=(grow (putRowK Tf 3 (db w m) blk 0 d) os).heap.size
  rw[size_grow]
  have h1:(putRowK Tf 3 (db w m) blk 0 d).heap.size=w.heap.size:=by simp[putRowK,putRow,mapBlock,db]
  have:=hb.size
  omega
 ·show(grow (putRowK Tf 3 (db w m) blk 0 d) os).heap[k]?=_
  have h2:k<w.heap.size:=by omega
  rw[heap_grow_old _ _ (by simpa[putRowK,putRow,mapBlock,db]using h2)]
  have h3:blk≠k:=by omega
  simp only[putRowK,putRow,mapBlock,db,Array.getElem?_modify,if_neg h3];exact hb.block k hk
theorem Yei(hW:Wd<=3){C:Cub}{A:List (List Int)}{v:Value}{base:Nat}{w:World}(hC:Ris C)(hK:∀e∈C,isKey Wd e.1)(hp:A.Perm (C.map (·.1)))(hl:C.length<=1000000)(hr:w.ownsRow base 178 3 v A.length (A.flatMap kc3)):
  Calls aa 228 #[v,.func (.func 179) #[] #[]] w λe w'=>e=.returned (.tuple #[])/\(∃AA c,v=.slice AA C.length c/\Row elK 3 w' (λb=>base<=b) AA C.length c (C.map (·.1)))/\Below base w w':=by
 have hlen:A.length=C.length:=by have:=hp.length_eq;simpa using this
 rcases hr.2 with⟨rfl,h0⟩|⟨g,cap,cur,rfl,hbg,hgg,hnc,hcm,hcs,ht⟩
 ·have hc0:C.length=0:=by omega
  obtain rfl:C=[]:=List.eq_nil_of_length_eq_zero hc0;refine(AnyF.slices_SortFunc_none (P:=aa) (ρ:=Tryz.sortK_ren) {Tryz.sortK with} none 0 _ w).mono ?_
  rintro e w' ⟨rfl,rfl⟩;exact⟨rfl,⟨none,0,rfl,Row.none_ _ _⟩,Below.refl _ _⟩
 ·have hd:(A.map Sc).toArray.size=A.length:=by simp
  have hfl:flatK Tf 3 (A.map Sc).toArray=(A.flatMap kc3).toArray:=by rw[Yh5,Dz]
  have hgl:g<w.heap.size:=(dq.1 hgg).1
  have hH:HoldsK Tf 3 w g 0 (A.map Sc).toArray:=by
   unfold HoldsK;rw[hfl];intro j hj
   have hj':j<(A.flatMap kc3).length:=by simpa using hj
   have h1:=hr.cells (g:=g) rfl j _ (af hj')
   rw[Yu]at h1;refine⟨?_,?_⟩
   ·rw[h1,getElem!_pos (A.flatMap kc3).toArray j hj]
    simp
   ·rw[br]
    exact World.ownsRow.frozenAt hr j
  have eg:∀args w,(callFunc 179 args).run aa w=.ok (.enter 179 args) w:=enters_of Tryz.func179 (by kernel_rfl) rfl
  have hlt3:ltOf cf3=lt3:=by
   funext x y
   unfold ltOf cf3 lt3
   rcases hh:Ze (Nh x) (Nh y)with _|_
   ·rw[decide_eq_false_iff_not,Yb6,hh];simp
   ·rw[decide_eq_true_iff,Yb6,hh]
  have hcon:=AnyQ.slices_SortFunc Tryz.sortK 3 Tryz.isAgg178 Tryz.sizeOf178 Tf (λ_=>rfl) (λx v hv=>by simp[Tf]at hv;rcases hv with rfl|rfl|rfl <;> rfl) cf3 (by rw[hlt3];exact Yxv) 179 #[] g 0 cap (A.map Sc).toArray w eg (λ_ _ _ _ x y=>Ytd x y _) hH hgl (by rw[hd];omega)
  change Calls aa 228 _ _ _ at hcon
  rw[hd]at hcon;refine hcon.mono ?_;rintro e w' ⟨rfl,d',m,os,h1,h2,rfl⟩;refine⟨rfl,⟨some ⟨g,0,none⟩,cap,by rw[hlen],?_⟩,Jw (Below.refl _ _) hbg hgl⟩
  have hds:d'.toList=(C.map (·.1)).map Sc:=by
   refine Ymf hC hK hW hp (d:=(A.map Sc).toArray) (by simp) (by rw[hd];exact h1) ?_
   rw[hd,<-hlt3];exact h2
  have hsz:d'.size=(A.map Sc).toArray.size:=by
   rw[<-dy,hds];simp;omega
  have hH':=holdsK_sortWorldK_c Tf 3 w g 0 (A.map Sc).toArray d' m os hH hgl hsz
  unfold HoldsK at hH';rw[Yh5,hds,<-Dz]at hH'
  have hvl:((C.map (·.1)).flatMap kc3).length=C.length*3:=by rw[Ytj];simp
  refine⟨by simp,(C.map (·.1)).flatMap kc3,⟨hvl,by omega,hcm,(λh=>by cases h),λ_=>⟨g,0,rfl,hbg,?_,λj u hu=>?_⟩⟩,λi k hi=>?_⟩
  ·have:=(Jw (m:=m) (d:=d') (os:=os) (Below.refl g w) (ai _) hgl).size
   omega
  ·have hj:=(dt.1 hu).1
   have:=(hH' j (by simpa using hj)).1
   rw[this,getElem!_pos _ j (by simpa using hj)]
   rw[af hj]at hu;simpa using hu
  ·show((List.drop (i*3) _).take 3)=kc3 k
   apply List.ext_getElem?;intro c;rw[dz]
   split
   ·rename_i hc
    rw[List.getElem?_drop,Dz];rw[Yfg _ i c hc (Sc k) (by rw[dn,hi];rfl)]
    rfl
   ·rename_i hc
    rw[List.getElem?_eq_none (by simp[kc3];omega)]
end
section
open Go.RowKit Go.Maps
/-! ### how many cells there can be -/
theorem Yi4{A:List Nat}{N:Nat}(h:A.Nodup)(hs:∀k∈A,k<N):A.length<=N:=by
 have key:∀(A J:List Nat),A.Nodup->(∀k∈A,k∈J)->A.length<=J.length:=by
  intro A
  induction A with
  |nil=>intro J _ _;simp
  |cons a A ih=>
   intro J h hs;obtain⟨h1,h2⟩:=List.nodup_cons.1 h
   have ha:=hs a (by simp)
   have h3:=ih (J.erase a) h2 (λk hk=>(List.mem_erase_of_ne (λe=>h1 (by rw[<-e];exact hk))).2 (hs k (by simp[hk])))
   rw[List.length_erase_of_mem ha]at h3
   have h4:=List.length_pos_of_mem ha
   simp;omega
 have:=key A (aw N) h (λk hk=>List.mem_range.2 (hs k hk))
 simpa using this
def Yn0(k:List Int):Nat:=(k.getD 0 0).toNat*1681+(k.getD 1 0).toNat*41+(k.getD 2 0).toNat
theorem Yt3{W:Nat}{k:List Int}(h:isKey W k):Yn0 k<68921:=by
 have h0:=Uk h 0
 have h1:=Uk h 1
 have h2:=Uk h 2
 unfold Yn0;omega
theorem Yrt{W:Nat}{k j:List Int}(hk:isKey W k)(hj:isKey W j)(hW:W<=3)(e:Yn0 k=Yn0 j):k=j:=by
 have h0:=Uk hk 0
 have h1:=Uk hk 1
 have h2:=Uk hk 2
 have g0:=Uk hj 0
 have g1:=Uk hj 1
 have g2:=Uk hj 2
 unfold Yn0 at e;refine Yey (hk.1.trans hj.1.symm) (by rw[hk.1];exact hW) ?_
 unfold Sc
 have e0:k.getD 0 0=j.getD 0 0:=by omega
 have e1:k.getD 1 0=j.getD 1 0:=by omega
 have e2:k.getD 2 0=j.getD 2 0:=by omega
 rw[e0,e1,e2]
theorem Ygs{W:Nat}{J:List (List Int)}(hn:J.Nodup)(hk:∀k∈J,isKey W k)(hW:W<=3):J.length<=68921:=by
 have h1:(J.map Yn0).Nodup:=by
  unfold List.Nodup at hn⊢;rw[List.pairwise_map];exact List.Pairwise.imp_of_mem (λ{a b} ha hb hne e=>hne (Yrt (hk a ha) (hk b hb) hW e)) hn
 have h2:=Yi4 (N:=68921) h1 (λx hx=>by
  obtain⟨k,hk',rfl⟩:=dx.1 hx;exact Yt3 (hk k hk'))
 simpa using h2
/-! ### cells under their keys -/
theorem Te.perm{K:TypeId}{kv:List Int->Value}{W b:Nat}{w:World}{F:Lit->Option Value}{J J':List (List Int)}(h:Te K kv W w b F J)(hp:J.Perm J'):Te K kv W w b F J':=
 ⟨hp.length_eq▸h.map,hp.nodup_iff.1 h.nodup,λk hk=>h.key k (hp.mem_iff.2 hk),λk kl hk e=>(h.has k kl hk e).trans hp.mem_iff,h.back⟩
def Vt(W:Nat)(w:World)(b:Nat)(C:Cub):Prop:=∃F,MJ W w b F (C.map (·.1))/\∀k kl,isKey W k->keyOf aa 178 (kv3 k)=some kl->F kl=(Za C k).map Li
section
variable {w w' : World}{W b:Nat}{C:Cub}
theorem Vt.lt(h:Vt W w b C):b<w.heap.size:=by obtain⟨F,h1,_⟩:=h;exact h1.lt
theorem Vt.same(h:Vt W w b C)(hb:w'.heap[b]?=w.heap[b]?):Vt W w' b C:=by
 obtain⟨F,h1,h2⟩:=h;exact⟨F,h1.same hb,h2⟩
theorem Vt.below{D:Nat}(h:Vt W w b C)(hb:Below D w w')(hD:b<D):Vt W w' b C:=h.same (hb.block b hD)
theorem Vt.alloc(h:Vt W w b C)(o:Obj):Vt W (w.alloc o) b C:=h.below (Yb w o) h.lt
theorem Vt.drewN(h:Vt W w b C)(k:Nat):Vt W (w.drewN k) b C:=h.same rfl
theorem Vt.made(w:World):Vt W (w.alloc (.map #[] 0)) w.heap.size []:=⟨_,Te.made w,λ_ _ _ _=>rfl⟩
theorem Vt.R1(h:Vt W w b C):∃es clock,w.heap[b]?=some (.map es clock):=by
 obtain⟨F,h1,_⟩:=h;exact h1.map.R1
theorem Ypg(hC:Ris C)(k:List Int)(x:PC):(Yax (C.map (·.1)) k).Perm ((Wo C k x).map (·.1)):=by
 refine(List.perm_ext_iff_of_nodup (Yaj (O8 hC)) (O8 (Yah hC k x))).2 λj=>?_
 rw[Dw]
 have e1:∀(D:Cub),j∈D.map (·.1)↔Za D j≠none:=λD=>by
  rw[Ne,Tw];exact Classical.not_not.symm
 rw[e1,e1,Uq]
 by_cases h:j=k
 ·simp[h]
 ·simp[h]
theorem Vt.look{t:TypeId}{z:Value}(h:Vt W w b C)(hW:W<=3)(ht:aa.underlying t=some (.map 178 200))(hz:(zeroValue 200).run aa w=.ok z w){k:List Int}(hk:isKey W k):
  (da t (.map (some b)) (kv3 k) true).run aa w=.ok (.tuple #[((Za C k).map Li).getD z,.bool (Za C k).isSome]) w/\(da t (.map (some b)) (kv3 k) false).run aa w=.ok (((Za C k).map Li).getD z) w:=by
 obtain⟨F,h1,h2⟩:=h
 have T:=Ysc hW
 obtain⟨kl,hkl⟩:=T.is k hk
 have r1:=h1.map.look T.law ht hz hkl
 have r2:=h1.map.get T.law ht hz hkl
 rw[h2 k kl hk hkl]at r1 r2;exact⟨by rw[r1];simp,r2⟩
theorem Vt.store{t:TypeId}{x:PC}(h:Vt W w b C)(hW:W<=3)(ht:aa.underlying t=some (.map 178 200))(hC:Ris C)(hm:C.length<=1000000){k:List Int}(hk:isKey W k):
  ∃w',(dp t (.map (some b)) (kv3 k) (Li x)).run aa w=.ok () w'∧Vt W w' b (Wo C k x)/\w.grownBy w' (some b):=by
 obtain⟨F,h1,h2⟩:=h
 have T:=Ysc hW
 obtain⟨kl,hkl⟩:=T.is k hk;obtain⟨w',r1,r2,r3⟩:=h1.store T ht (v:=Li x) (by rw[ar];unfold maxLen;omega) hk hkl
 refine⟨w',r1,⟨_,r2.perm (Ypg hC k x),λj jl hj ej=>?_⟩,r3⟩
 rw[Uq]
 by_cases hjk:j=k
 ·subst hjk
  rw[hkl]at ej;injection ej with ej
  subst ej;rw[if_pos rfl,Gg];rfl
 ·rw[if_neg hjk,Oi (λe2:jl=kl=>hjk (T.one hj hk (e2▸ej) hkl))]
  exact h2 j jl hj ej
theorem Vt.len{t e:TypeId}(h:Vt W w b C)(ht:aa.underlying t=some (.map 178 e))(ty:TypeId):(Builtin.len_ #[t] ty #[.map (some b)]).run aa w=.ok (.int .i64 C.length) w:=by
 obtain⟨F,h1,_⟩:=h;rw[h1.map.len ht ty,ar]
end
/-! ### a Yak -/
structure Cb (w:World) (g b W m:Nat) (C:Cub):Prop where
 blk:Block w g 181 #[.int .i64 W,.int .i64 m,.map (some b)]
 map:Vt W w b C
 ok:Xw W m C
 w1:1<=W
 w3:W<=3
 m1:1<=m
 m2:m<=2
section
variable {w w' : World}{g b W m:Nat}{C:Cub}
theorem Cb.len(h:Cb w g b W m C):C.length<=68921:=by
 have:=Ygs (J:=C.map (·.1)) (O8 h.ok.ris) (λk hk=>by
  obtain⟨e,he,rfl⟩:=dx.1 hk;exact h.ok.key e he) h.w3
 simpa using this
theorem Cb.ne(h:Cb w g b W m C):g≠b:=λe=>by
 obtain⟨es,clock,hm⟩:=h.map.R1
 have h1:w.heap[g]?=_:=h.blk
 rw[e,hm]at h1
 cases h1
theorem Cb.below{D:Nat}(h:Cb w g b W m C)(hb:Below D w w')(hg:g<D)(hD:b<D):Cb w' g b W m C:=⟨h.blk.below hb hg,h.map.below hb hD,h.ok,h.w1,h.w3,h.m1,h.m2⟩
theorem Cb.Yc(h:Cb w g b W m C)(hb:Below w.heap.size w w'):Cb w' g b W m C:=h.below hb h.blk.lt h.map.lt
theorem Cb.alloc(h:Cb w g b W m C)(o:Obj):Cb (w.alloc o) g b W m C:=h.Yc (Yb w o)
theorem Cb.drewN(h:Cb w g b W m C)(k:Nat):Cb (w.drewN k) g b W m C:=⟨h.blk.drewN k,h.map.drewN k,h.ok,h.w1,h.w3,h.m1,h.m2⟩
theorem Cb.c0(h:Cb w g b W m C):w.cell? ⟨g,0,none⟩=some (.int .i64 W):=h.blk.cell 0
theorem Cb.c1(h:Cb w g b W m C):w.cell? ⟨g,1,none⟩=some (.int .i64 m):=h.blk.cell 1
theorem Cb.c2(h:Cb w g b W m C):w.cell? ⟨g,2,none⟩=some (.map (some b)):=h.blk.cell 2
theorem Cb.put{x:PC}{k:List Int}(h:Cb w g b W m C)(hg:w.grownBy w' (some b))(hm:Vt W w' b (Wo C k x))(hk:isKey W k)(hx:Yv m x):Cb w' g b W m (Wo C k x):=
 ⟨h.blk.grown hg (λe=>h.ne (Option.some.inj e).symm),hm,h.ok.Ys hk hx,h.w1,h.w3,h.m1,h.m2⟩
end
/-! ### how many,and the keys -/
theorem Yap(h:Cb w g b W m C):Calls aa 82 #[.pointer (some ⟨g,0,none⟩)] w λe w'=>e=.returned (.int .i64 (C.length:Int))/\w=w':=by
 have c2:=h.c2
 have hL:=λty=>h.map.len (t:=179) aj ty
 clear h;go_enter Tryz.func82,Tryz.ntmps82;go_wp2;go_ret;exact⟨rfl,rfl⟩
theorem Yde(mb:Option Nat)(w:World):
  Calls aa 178 #[.map mb] w λe w'=>e=.returned (.func (.func 229) #[] #[.pointer (some ⟨w.heap.size,0,none⟩)])/\w'=w.alloc (.cells #[.map mb] 179):=(callsIn_wide (n:=3)).1 (Yhf 3 mb w)
theorem D5{Bm:Nat}(hm:w.cell? ⟨Bm,0,none⟩=some (.map (some b)))(hmap:Vt W w b C)(hok:Xw W m C)(hW:W<=3)(hl:C.length<=1000000):
  Calls aa 177 #[.func (.func 229) #[] #[.pointer (some ⟨Bm,0,none⟩)],.func (.func 179) #[] #[]] w λe w'=>(∃A c,e=.returned (.slice A C.length c)/\Row elK 3 w' (λb=>w.heap.size<=b) A C.length c (C.map (·.1)))/\Below w.heap.size w w':=by
 obtain⟨F,h1,_⟩:=hmap
 have hc:=Yet hW hm h1 (by rw[ar];exact hl)
 go_enter Tryz.func177,Tryz.ntmps177;go_wp2_with fail;refine hc.mono ?_;rintro e w1 ⟨v,A,rfl,hp,hrow,hb⟩
 have hs:=hid (Yei hW hok.ris hok.key hp hl hrow)
 clear hc hp hrow h1 hok;go_wp2_with fail;refine hs.out.mono ?_;rintro e w2 ⟨rfl,⟨AA,c,rfl,hR⟩,hb2⟩
 have hF:=hid (ae hR (hb.trans hb2))
 clear hs hR hb hb2;go_wp2_with fail;go_ret;exact⟨⟨AA,c,rfl,hF.out.1⟩,hF.out.2⟩
theorem C9(h:Cb w g b W m C):Calls aa 109 #[.pointer (some ⟨g,0,none⟩)] w λe w'=>(∃A c,e=.returned (.slice A C.length c)/\Row elK 3 w' (λb=>w.heap.size<=b) A C.length c (C.map (·.1)))/\Below w.heap.size w w':=by
 have c2:=h.c2
 have hb1:=Yb w (.cells #[.map (some b)] 179)
 have hS:=hid (D5 (Bm:=w.heap.size) (w:=w.alloc (.cells #[.map (some b)] 179)) ((Block.new w _ #[.map (some b)]).cell 0) (h.map.alloc _) h.ok h.w3 (by have:=h.len;omega))
 clear h;go_enter Tryz.func109,Tryz.ntmps109;go_wp2_with fail;refine(Yde _ _).mono ?_;rintro e w1 ⟨rfl,rfl⟩;go_wp2_with fail;refine hS.out.mono ?_;rintro e w2 ⟨⟨A,c,rfl,hR⟩,hb2⟩
 have hF:=hid (ae (hR.mv Aw (Mv.to w2 (S':=λb=>w.heap.size<=b) λb hb _=>by rw[an]at hb;omega)) (Ya hb1 hb2))
 clear hS hR hb1 hb2;go_wp2_with fail;go_ret;exact⟨⟨A,c,rfl,hF.out.1⟩,hF.out.2⟩
end
section
open Go.RowKit Go.Maps
theorem J2:(aa.info? 178).map (·.size)=some 3:=by kernel_rfl
def Eh(w:World)(W m:Nat)(C:Cub)(v:Value)(w':World):Prop:=∃g b,v=.pointer (some ⟨g,0,none⟩)/\Cb w' g b W m C/\w.heap.size<=g/\w.heap.size<=b
theorem Yi7(h1:1<=W)(h2:W<=3)(h3:1<=m)(h4:m<=2)(w:World):Calls aa 96 #[.int .i64 W,.int .i64 m] w λe w'=>(∃v,e=.returned v/\Eh w W m [] v w')/\Below w.heap.size w w':=by
 have i1:¬(W:Int)<1:=by omega
 have i2:¬3<(W:Int):=by omega
 have i3:¬(m:Int)<1:=by omega
 have i4:¬2<(m:Int):=by omega
 have hmk:(Instr.makeMap 179 none).run aa w=.ok (.map (some w.heap.size)) (w.alloc (.map #[] 0)):=run_makeMap _ w
 have hF:=hid (show Eh w W m [] (.pointer (some ⟨w.heap.size+1,0,none⟩)) ((w.alloc (.map #[] 0)).alloc (.cells #[.int .i64 W,.int .i64 m,.map (some w.heap.size)] 181))from
  ⟨_,_,rfl,⟨by have:=Block.new (w.alloc (.map #[] 0)) 181 #[.int .i64 W,.int .i64 m,.map (some w.heap.size)];rwa [an]at this,(Vt.made w).alloc _,Xw.Zj _ _,h1,h2,h3,h4⟩,by omega,by omega⟩)
 have hB:=hid (Wz w (.map #[] 0) (.cells #[.int .i64 W,.int .i64 m,.map (some w.heap.size)] 181))
 clear h1 h2 h3 h4;go_enter Tryz.func96,Tryz.ntmps96;go_wp2;go_ret;exact⟨⟨_,rfl,hF.out⟩,hB.out⟩
/-! ### keyOf -/
theorem Yfq(hc:w.cell? ⟨g,0,none⟩=some (.int .i64 W))(h:Y2 w w.heap.size A n c L)(hk:¬isKey W L):
  Calls aa 110 #[.pointer (some ⟨g,0,none⟩),.slice A n c] w λe w'=>e=.returned (.tuple #[.agg #[.int .i64 0,.int .i64 0,.int .i64 0],.bool false])/\Below w.heap.size w w':=by
 have hgl:g<w.heap.size:=cn w _ hc
 have hb1:=Yb w (.cells #[.int .i64 0,.int .i64 0,.int .i64 0] 178)
 have hc1:=(hb1.cell (p:=⟨g,0,none⟩) hgl).trans hc
 have hR:=Block.new w 178 #[.int .i64 0,.int .i64 0,.int .i64 0]
 have h1:=h.Yc hb1
 have hl:=h.len
 have hcon:=hid (Lj h1)
 rw[Ybv]at hk;clear h h1 hc
 by_cases hw:(n:Int)=(W:Int)
 ·have hx:L.any Ra=true:=by
   rcases hh:L.any Ra with _|_
   ·exact absurd ⟨by omega,hh⟩ hk
   ·rfl
  have HX:=hid hx
  have hne:((n:Int) != (W:Int))=false:=by simp[hw]
  clear hx hk hw;go_enter dw,du;go_wp2_with fail;generalize w.alloc (.cells #[.int .i64 0,.int .i64 0,.int .i64 0] 178)=w1 at hb1 hc1 hR hcon⊢
  have r0:w1.cell? ⟨w.heap.size,0,none⟩=some (.int .i64 0):=hR.cell 0
  have r1:w1.cell? ⟨w.heap.size,1,none⟩=some (.int .i64 0):=hR.cell 1
  have r2:w1.cell? ⟨w.heap.size,2,none⟩=some (.int .i64 0):=hR.cell 2
  have f0:=hR.free 0
  have f1:=hR.free 1
  have f2:=hR.free 2
  have HR:=hid (hR.Ys3 (.int .i64 0) (.int .i64 0) (.int .i64 0))
  have HB:=hid (Kh hb1 (ai _) (.int .i64 0) (.int .i64 0) (.int .i64 0))
  clear hR hb1;refine hcon.out.mono ?_;rintro e v ⟨rfl,rfl⟩;rw[HX.out];go_wp2_with fail;refine bodyPost_ret (Ye rfl _ _ w.heap.size _ _ rfl HR.out bs rfl J2) rfl ?_;exact⟨rfl,HB.out⟩
 ·have hne:((n:Int) != (W:Int))=true:=by simpa using hw
  have HR:=hid hR
  have HB:=hid hb1
  clear hk hw hR hb1;go_enter dw,du;go_wp2_with fail;refine bodyPost_ret (Ye rfl _ _ w.heap.size _ _ rfl HR.out bs rfl J2) rfl ?_;exact⟨rfl,HB.out⟩
theorem Yke(l:List Int):splice [.int .i64 0,.int .i64 0,.int .i64 0] 0 ((l.take 3).map X6)=kc3 l:=by
 match l with
 |[]=>rfl
 |[_]=>rfl
 |[_,_]=>rfl
 |_::_::_::_=>rfl
theorem Yvg(k:List Int):kv3 k=.agg (kc3 k).toArray:=rfl
theorem Ycb(hc:w.cell? ⟨g,0,none⟩=some (.int .i64 W))(h:Y2 w w.heap.size A n c L)(hk:isKey W L):
  Calls aa 110 #[.pointer (some ⟨g,0,none⟩),.slice A n c] w λe w'=>e=.returned (.tuple #[kv3 L,.bool true])/\Below w.heap.size w w':=by
 obtain⟨x,y,z,hxyz⟩: ∃x y z,Hid (L.getD 0 0=x/\L.getD 1 0=y/\L.getD 2 0=z):=⟨_,_,_,hid ⟨rfl,rfl,rfl⟩⟩
 have ek:Hid (kv3 L=.agg #[.int .i64 x,.int .i64 y,.int .i64 z]):=hid (by unfold kv3;rw[hxyz.out.1,hxyz.out.2.1,hxyz.out.2.2])
 have ec:Hid (kc3 L=[.int .i64 x,.int .i64 y,.int .i64 z]):=hid (by unfold kc3;rw[hxyz.out.1,hxyz.out.2.1,hxyz.out.2.2])
 have hgl:g<w.heap.size:=cn w _ hc
 have hl:=h.len
 have hb1:=Yb w (.cells #[.int .i64 0,.int .i64 0,.int .i64 0] 178)
 have hc1:=(hb1.cell (p:=⟨g,0,none⟩) hgl).trans hc
 have hR:=Block.new w 178 #[.int .i64 0,.int .i64 0,.int .i64 0]
 have h1:=h.Yc hb1
 have hcon:=hid (Lj h1)
 rw[Ybv]at hk
 have HX:=hid hk.2
 have hnW:(n:Int)=(W:Int):=by omega
 have hne:((n:Int) != (W:Int))=false:=by simp[hnW]
 obtain⟨cs,hcs⟩: ∃cs,Hid ((L.take 3).map X6=cs):=⟨_,hid rfl⟩
 have hn:Hid (cs.length=Nat.min n 3):=hid (by rw[<-hcs.out,ar,List.length_take,h.len,Nat.min_comm])
 have hsp:Hid (splice [.int .i64 0,.int .i64 0,.int .i64 0] 0 cs=[.int .i64 x,.int .i64 y,.int .i64 z]):=hid (by rw[<-hcs.out,Yke,ec.out])
 have hfit:Hid (0+cs.length<=([.int .i64 0,.int .i64 0,.int .i64 0]:List Value).length):=hid (by rw[hn.out];have:=Nat.min_le_right n 3;simp;exact this)
 have hone:Hid (∀v∈cs,v.oneCell'=true):=hid (by rw[<-hcs.out];exact Qv _)
 have HH:=hid h1
 clear h h1 hc hk hnW;go_enter dw,du;go_wp2_with fail;generalize w.alloc (.cells #[.int .i64 0,.int .i64 0,.int .i64 0] 178)=w1 at hb1 hc1 hR hcon HH⊢;refine hcon.out.mono ?_;rintro e v ⟨rfl,rfl⟩;rw[HX.out]
 have hbx:=Yb w1 (.cells #[.int .i64 0,.int .i64 0,.int .i64 0] 178)
 have hb2:=Ya hb1 hbx
 have hG:(w1.alloc (.cells #[.int .i64 0,.int .i64 0,.int .i64 0] 178)).heap[w1.heap.size]?=some (.cells ([.int .i64 0,.int .i64 0,.int .i64 0]:List Value).toArray 178 (0,0)):=Block.new w1 178 #[.int .i64 0,.int .i64 0,.int .i64 0]
 have hR2:=hR.alloc (.cells #[.int .i64 0,.int .i64 0,.int .i64 0] 178)
 have hwl:=hR.lt
 have hpos:Hid (0<cs.length->∃ad,A=some ad/\∀j v,cs[j]?=some v->(w1.alloc (.cells #[.int .i64 0,.int .i64 0,.int .i64 0] 178)).cell? (ad.add j)=some v):=hid λh0=>by
  have hl:0<(L.map X6).length:=by
   rw[<-hcs.out]at h0;simp at h0⊢;omega
  obtain⟨b,o,e,_,hc⟩:=(HH.out.Yc hbx).has hl;refine⟨_,e,λj v hv=>?_⟩
  rw[Yu];refine hc j v ?_;rw[<-hcs.out,List.map_take,dz]at hv
  split at hv
  ·exact hv
  ·cases hv
 have HGG:=hid hG
 clear hbx hb1 hR hcon HH hG;go_wp2_with (refine wpList_copy_splice (o:=⟨some 21,_,_,_,_,_⟩) rfl _ _ 47 47 rfl 3 Tryz.underlying47 Mt _ A 3 3 n c rfl rfl w1.heap.size 0 [.int .i64 0,.int .i64 0,.int .i64 0] 178 HGG.out cs hn.out (λh0=>⟨rfl,hpos.out h0⟩) hfit.out hone.out w1.heap.size _ (Below.refl _ _) (ai _) ?_)
 intro w2 HG2 hB2
 have hG2:Block w2 w1.heap.size 178 #[.int .i64 x,.int .i64 y,.int .i64 z]:=by
  have:=HG2.out
  rw[hsp.out]at this;exact this
 have hR3:=hR2.below hB2 hwl
 have hbe:=hb2.trans (hB2.mono (by omega))
 have a0:w2.cell? ⟨w1.heap.size,0,none⟩=some (.int .i64 x):=hG2.cell 0
 have a1:w2.cell? ⟨w1.heap.size,1,none⟩=some (.int .i64 y):=hG2.cell 1
 have a2:w2.cell? ⟨w1.heap.size,2,none⟩=some (.int .i64 z):=hG2.cell 2
 have r0:w2.cell? ⟨w.heap.size,0,none⟩=some (.int .i64 0):=hR3.cell 0
 have r1:w2.cell? ⟨w.heap.size,1,none⟩=some (.int .i64 0):=hR3.cell 1
 have r2:w2.cell? ⟨w.heap.size,2,none⟩=some (.int .i64 0):=hR3.cell 2
 have f0:=hR3.free 0
 have f1:=hR3.free 1
 have f2:=hR3.free 2
 have HR:=hid (hR3.Ys3 (.int .i64 x) (.int .i64 y) (.int .i64 z))
 have HB:=hid (Kh hbe (ai _) (.int .i64 x) (.int .i64 y) (.int .i64 z))
 clear HG2 hG2 hR2 hR3 hbe hB2 hb2 hn hsp hfit hone hpos;go_wp2_with fail;refine bodyPost_ret (Ye rfl _ _ w.heap.size _ _ rfl HR.out bs rfl J2) rfl ?_;exact⟨by rw[ek.out];rfl,HB.out⟩
end
section
open Go.RowKit Go.Maps
theorem G0(w:World):(zeroValue 200).run aa w=.ok (.agg #[.int .i64 0,.int .i64 0,.int .i64 0,.int .i64 0,.int .i64 0,.int .i64 0,.int .i64 0]) w:=Tryz.zeroValue200 w
theorem Qe(k:List Int):∃x y z,Hid (kv3 k=.agg #[.int .i64 x,.int .i64 y,.int .i64 z]):=⟨_,_,_,hid rfl⟩
theorem Ot(x:PC):∃n a b c d e f,Hid (Li x=.agg #[.int .i64 n,.int .i64 a,.int .i64 b,.int .i64 c,.int .i64 d,.int .i64 e,.int .i64 f])/\Hid (n=x.1)/\Hid (∀m,Yv m x→[a,b].take m=x.2.1∧[c,d].take m=x.2.2.1∧[e,f].take m=x.2.2.2):=by
 refine⟨_,_,_,_,_,_,_,hid rfl,hid rfl,hid λm h=>?_⟩
 obtain⟨⟨h1,h2,h3,_⟩,_,h4⟩:=h;exact⟨Cm h4 (by omega),Cm (by omega) (by omega),Cm (by omega) (by omega)⟩
theorem Yvd(h:Cb w g b W m C)(hk:isKey W k)(hn:Za C k=none):
  Calls aa 111 #[.pointer (some ⟨g,0,none⟩),kv3 k] w λe w'=>e=.returned (.tuple #[.agg #[.int .i64 0,.slice none 0 0,.slice none 0 0,.slice none 0 0],.bool false])/\Below w.heap.size w w':=by
 obtain⟨x,y9,z,hxyz⟩:=Qe k
 have hb2:=Wz w (.cells #[.int .i64 x,.int .i64 y9,.int .i64 z] 178) (.cells #[.int .i64 0,.slice none 0 0,.slice none 0 0,.slice none 0 0] 71)
 have h2:=h.Yc hb2
 have hB1:=(Block.new w 178 #[.int .i64 x,.int .i64 y9,.int .i64 z]).alloc (.cells #[.int .i64 0,.slice none 0 0,.slice none 0 0,.slice none 0 0] 71)
 have hB2:=Block.new (w.alloc (.cells #[.int .i64 x,.int .i64 y9,.int .i64 z] 178)) 71 #[.int .i64 0,.slice none 0 0,.slice none 0 0,.slice none 0 0]
 rw[an]at hB2;rw[hxyz.out];go_enter fg,ez;go_wp2_with fail;generalize (w.alloc (.cells #[.int .i64 x,.int .i64 y9,.int .i64 z] 178)).alloc (.cells #[.int .i64 0,.slice none 0 0,.slice none 0 0,.slice none 0 0] 71)=W2 at hb2 h2 hB1 hB2⊢
 have K:∀y:World,Below W2.heap.size W2 y->y.cell? ⟨g,2,none⟩=some (.map (some b))/\y.cell? ⟨w.heap.size,0,none⟩=some (.int .i64 x)/\y.cell? ⟨w.heap.size,1,none⟩=some (.int .i64 y9)/\y.cell? ⟨w.heap.size,2,none⟩=some (.int .i64 z)∧
   (da 179 (.map (some b)) (.agg #[.int .i64 x,.int .i64 y9,.int .i64 z]) true).run aa y=.ok (.tuple #[.agg #[.int .i64 0,.int .i64 0,.int .i64 0,.int .i64 0,.int .i64 0,.int .i64 0,.int .i64 0],.bool false]) y:=λy hy=>by
  have hB:=hB1.below hy hB1.lt
  have hLk:=((h2.Yc hy).map.look h2.w3 (t:=179) aj (G0 _) hk).1
  rw[hn,hxyz.out]at hLk;exact⟨(h2.Yc hy).c2,hB.cell 0,hB.cell 1,hB.cell 2,hLk⟩
 obtain⟨p0,p1,p2,p3,p4⟩:=K _ (Below.refl _ W2);obtain⟨q0,q1,q2,q3,q4⟩:=K W2.drew (below_drewN (Below.refl _ W2) 1);obtain⟨o0,o1,o2,o3,o4⟩:=K _ (Yb W2 (.cells #[.int .i64 0,.int .i64 0,.int .i64 0,.int .i64 0,.int .i64 0,.int .i64 0,.int .i64 0] 200));obtain⟨s0,s1,s2,s3,s4⟩:=K (W2.alloc (.cells #[.int .i64 0,.int .i64 0,.int .i64 0,.int .i64 0,.int .i64 0,.int .i64 0,.int .i64 0] 200)).drew (below_drewN (Yb W2 (.cells #[.int .i64 0,.int .i64 0,.int .i64 0,.int .i64 0,.int .i64 0,.int .i64 0,.int .i64 0] 200)) 1);clear K
 have hb3:=below_drewN (Ya hb2 (Yb W2 (.cells #[.int .i64 0,.int .i64 0,.int .i64 0,.int .i64 0,.int .i64 0,.int .i64 0,.int .i64 0] 200))) 1
 have hR:=(hB2.alloc (.cells #[.int .i64 0,.int .i64 0,.int .i64 0,.int .i64 0,.int .i64 0,.int .i64 0,.int .i64 0] 200)).drewN 1
 clear h h2 hB1 hB2 hb2;go_region
 all_goals
  have hR:Block (W2.alloc (.cells #[.int .i64 0,.int .i64 0,.int .i64 0,.int .i64 0,.int .i64 0,.int .i64 0,.int .i64 0] 200)).drew (w.heap.size+1) 71 #[.int .i64 0,.slice none 0 0,.slice none 0 0,.slice none 0 0]:=hR
  have hb3:Below w.heap.size w (W2.alloc (.cells #[.int .i64 0,.int .i64 0,.int .i64 0,.int .i64 0,.int .i64 0,.int .i64 0,.int .i64 0] 200)).drew:=hb3
  generalize (W2.alloc (.cells #[.int .i64 0,.int .i64 0,.int .i64 0,.int .i64 0,.int .i64 0,.int .i64 0,.int .i64 0] 200)).drew=W3 at hR hb3⊢
  have r0:W3.cell? ⟨w.heap.size+1,0,none⟩=some (.int .i64 0):=hR.cell 0
  have r1:W3.cell? ⟨w.heap.size+1,1,none⟩=some (.slice none 0 0):=hR.cell 1
  have r2:W3.cell? ⟨w.heap.size+1,2,none⟩=some (.slice none 0 0):=hR.cell 2
  have r3:W3.cell? ⟨w.heap.size+1,3,none⟩=some (.slice none 0 0):=hR.cell 3
  have f0:=hR.free 0
  have f1:=hR.free 1
  have f2:=hR.free 2
  have f3:=hR.free 3
  have HR:=hid (hR.Zp (.int .i64 0) (.slice none 0 0) (.slice none 0 0) (.slice none 0 0))
  have HB:=hid (Yq (r:=w.heap.size+1) hb3 (fj _) (.int .i64 0) (.slice none 0 0) (.slice none 0 0) (.slice none 0 0))
  clear hR hb3 p0 p1 p2 p3 p4 q0 q1 q2 q3 q4 s0 s1 s2 s3 s4;go_wp2_with fail;refine bodyPost_ret (Ye rfl _ _ (w.heap.size+1) _ _ rfl HR.out az rfl Yz) rfl ?_;exact⟨rfl,HB.out⟩
theorem Yq9(h:Cb w g b W m C)(hk:isKey W k)(hn:Za C k=some u):
  Calls aa 111 #[.pointer (some ⟨g,0,none⟩),kv3 k] w λe w'=>(∃v1 v2 v3,e=.returned (.tuple #[.agg #[.int .i64 u.1,v1,v2,v3],.bool true])/\X7 w' w.heap.size v1 v2 v3 u.2.1 u.2.2.1 u.2.2.2)/\Below w.heap.size w w':=by
 obtain⟨n,l1,l2,l3,l4,l5,l6,hu,hn1,hl⟩:=Ot u
 have HL:=hid (hl.out m (h.ok.cell _ (Xg hn)))
 have m1:=h.m1
 have m2:=h.m2
 have hgl:=h.blk.lt
 obtain⟨x,y9,z,hxyz⟩:=Qe k
 have hb2:=Wz w (.cells #[.int .i64 x,.int .i64 y9,.int .i64 z] 178) (.cells #[.int .i64 0,.slice none 0 0,.slice none 0 0,.slice none 0 0] 71)
 have h2:=h.Yc hb2
 have hB1:=(Block.new w 178 #[.int .i64 x,.int .i64 y9,.int .i64 z]).alloc (.cells #[.int .i64 0,.slice none 0 0,.slice none 0 0,.slice none 0 0] 71)
 have hB2:=Block.new (w.alloc (.cells #[.int .i64 x,.int .i64 y9,.int .i64 z] 178)) 71 #[.int .i64 0,.slice none 0 0,.slice none 0 0,.slice none 0 0]
 rw[an]at hB2;rw[hxyz.out];go_enter fg,ez;go_wp2_with fail;generalize (w.alloc (.cells #[.int .i64 x,.int .i64 y9,.int .i64 z] 178)).alloc (.cells #[.int .i64 0,.slice none 0 0,.slice none 0 0,.slice none 0 0] 71)=W2 at hb2 h2 hB1 hB2⊢
 have K:∀y:World,Below W2.heap.size W2 y->y.cell? ⟨g,2,none⟩=some (.map (some b))/\y.cell? ⟨w.heap.size,0,none⟩=some (.int .i64 x)/\y.cell? ⟨w.heap.size,1,none⟩=some (.int .i64 y9)/\y.cell? ⟨w.heap.size,2,none⟩=some (.int .i64 z)∧
   (da 179 (.map (some b)) (.agg #[.int .i64 x,.int .i64 y9,.int .i64 z]) true).run aa y=.ok (.tuple #[.agg #[.int .i64 n,.int .i64 l1,.int .i64 l2,.int .i64 l3,.int .i64 l4,.int .i64 l5,.int .i64 l6],.bool true]) y:=λy hy=>by
  have hB:=hB1.below hy hB1.lt
  have hLk:=((h2.Yc hy).map.look h2.w3 (t:=179) aj (G0 _) hk).1
  rw[hn,hxyz.out]at hLk;simp only[ei,dm,Option.isSome_some,hu.out]at hLk;exact⟨(h2.Yc hy).c2,hB.cell 0,hB.cell 1,hB.cell 2,hLk⟩
 obtain⟨p0,p1,p2,p3,p4⟩:=K _ (Below.refl _ W2);obtain⟨q0,q1,q2,q3,q4⟩:=K W2.drew (below_drewN (Below.refl _ W2) 1);obtain⟨o0,o1,o2,o3,o4⟩:=K _ (Yb W2 (.cells #[.int .i64 0,.int .i64 0,.int .i64 0,.int .i64 0,.int .i64 0,.int .i64 0,.int .i64 0] 200));obtain⟨s0,s1,s2,s3,s4⟩:=K (W2.alloc (.cells #[.int .i64 0,.int .i64 0,.int .i64 0,.int .i64 0,.int .i64 0,.int .i64 0,.int .i64 0] 200)).drew (below_drewN (Yb W2 (.cells #[.int .i64 0,.int .i64 0,.int .i64 0,.int .i64 0,.int .i64 0,.int .i64 0,.int .i64 0] 200)) 1);clear K
 have hb3:=below_drewN (Ya hb2 (Yb W2 (.cells #[.int .i64 n,.int .i64 l1,.int .i64 l2,.int .i64 l3,.int .i64 l4,.int .i64 l5,.int .i64 l6] 200))) 1
 have hR:=(hB2.alloc (.cells #[.int .i64 n,.int .i64 l1,.int .i64 l2,.int .i64 l3,.int .i64 l4,.int .i64 l5,.int .i64 l6] 200)).drewN 1
 have hc1:=(h2.alloc (.cells #[.int .i64 n,.int .i64 l1,.int .i64 l2,.int .i64 l3,.int .i64 l4,.int .i64 l5,.int .i64 l6] 200)).drewN 1
 have hX:=(Block.new W2 200 #[.int .i64 n,.int .i64 l1,.int .i64 l2,.int .i64 l3,.int .i64 l4,.int .i64 l5,.int .i64 l6]).drewN 1
 have hlt:=hB2.lt
 clear h h2 hB1 hB2 hb2 hn;go_region
 all_goals
  have hR:Block (W2.alloc (.cells #[.int .i64 n,.int .i64 l1,.int .i64 l2,.int .i64 l3,.int .i64 l4,.int .i64 l5,.int .i64 l6] 200)).drew (w.heap.size+1) 71 #[.int .i64 0,.slice none 0 0,.slice none 0 0,.slice none 0 0]:=hR
  have hX:Block (W2.alloc (.cells #[.int .i64 n,.int .i64 l1,.int .i64 l2,.int .i64 l3,.int .i64 l4,.int .i64 l5,.int .i64 l6] 200)).drew W2.heap.size 200 #[.int .i64 n,.int .i64 l1,.int .i64 l2,.int .i64 l3,.int .i64 l4,.int .i64 l5,.int .i64 l6]:=hX
  have hc1:Cb (W2.alloc (.cells #[.int .i64 n,.int .i64 l1,.int .i64 l2,.int .i64 l3,.int .i64 l4,.int .i64 l5,.int .i64 l6] 200)).drew g b W m C:=hc1
  have hb3:Below w.heap.size w (W2.alloc (.cells #[.int .i64 n,.int .i64 l1,.int .i64 l2,.int .i64 l3,.int .i64 l4,.int .i64 l5,.int .i64 l6] 200)).drew:=hb3
  generalize (W2.alloc (.cells #[.int .i64 n,.int .i64 l1,.int .i64 l2,.int .i64 l3,.int .i64 l4,.int .i64 l5,.int .i64 l6] 200)).drew=W3 at hR hX hc1 hb3⊢
  have x0:W3.cell? ⟨W2.heap.size,0,none⟩=some (.int .i64 n):=hX.cell 0
  have x1:W3.cell? ⟨W2.heap.size,1,none⟩=some (.int .i64 l1):=hX.cell 1
  have x2:W3.cell? ⟨W2.heap.size,2,none⟩=some (.int .i64 l2):=hX.cell 2
  have x3:W3.cell? ⟨W2.heap.size,3,none⟩=some (.int .i64 l3):=hX.cell 3
  have x4:W3.cell? ⟨W2.heap.size,4,none⟩=some (.int .i64 l4):=hX.cell 4
  have x5:W3.cell? ⟨W2.heap.size,5,none⟩=some (.int .i64 l5):=hX.cell 5
  have x6:W3.cell? ⟨W2.heap.size,6,none⟩=some (.int .i64 l6):=hX.cell 6
  have c1:=hc1.c1
  have hXl:=hX.lt
  have hRl:=hR.lt
  have K:Hid (∀y,Below W3.heap.size W3 y->y.cell? ⟨W2.heap.size,0,none⟩=some (.int .i64 n)/\y.cell? ⟨W2.heap.size,1,none⟩=some (.int .i64 l1)/\y.cell? ⟨W2.heap.size,2,none⟩=some (.int .i64 l2)/\y.cell? ⟨W2.heap.size,3,none⟩=some (.int .i64 l3)/\y.cell? ⟨W2.heap.size,4,none⟩=some (.int .i64 l4)/\y.cell? ⟨W2.heap.size,5,none⟩=some (.int .i64 l5)/\y.cell? ⟨W2.heap.size,6,none⟩=some (.int .i64 l6)/\y.cell? ⟨g,1,none⟩=some (.int .i64 m)):=hid λy hy=>by
   have hY:=hX.below hy hXl
   exact⟨hY.cell 0,hY.cell 1,hY.cell 2,hY.cell 3,hY.cell 4,hY.cell 5,hY.cell 6,(hc1.Yc hy).c1⟩
  have hg9:W2.heap.size≠w.heap.size+1:=by omega
  have hg8:g≠w.heap.size+1:=by omega
  have K2:Hid (∀y a b c d,Below W3.heap.size W3 y->(Sr y (w.heap.size+1) a b c d).cell? ⟨W2.heap.size,0,none⟩=some (.int .i64 n)/\(Sr y (w.heap.size+1) a b c d).cell? ⟨W2.heap.size,1,none⟩=some (.int .i64 l1)/\(Sr y (w.heap.size+1) a b c d).cell? ⟨W2.heap.size,2,none⟩=some (.int .i64 l2)/\(Sr y (w.heap.size+1) a b c d).cell? ⟨W2.heap.size,3,none⟩=some (.int .i64 l3)/\(Sr y (w.heap.size+1) a b c d).cell? ⟨W2.heap.size,4,none⟩=some (.int .i64 l4)/\(Sr y (w.heap.size+1) a b c d).cell? ⟨W2.heap.size,5,none⟩=some (.int .i64 l5)/\(Sr y (w.heap.size+1) a b c d).cell? ⟨W2.heap.size,6,none⟩=some (.int .i64 l6)/\(Sr y (w.heap.size+1) a b c d).cell? ⟨g,1,none⟩=some (.int .i64 m)):=hid λy a b c d hy=>by
   have hY:=hX.below hy hXl
   have hZ:=(((hY.Zg (w.heap.size+1) 0 a hg9.symm).Zg (w.heap.size+1) 1 b hg9.symm).Zg (w.heap.size+1) 2 c hg9.symm).Zg (w.heap.size+1) 3 d hg9.symm
   have hV:=(((((hc1.Yc hy).blk.Zg (w.heap.size+1) 0 a hg8.symm).Zg (w.heap.size+1) 1 b hg8.symm).Zg (w.heap.size+1) 2 c hg8.symm).Zg (w.heap.size+1) 3 d hg8.symm)
   exact⟨hZ.cell 0,hZ.cell 1,hZ.cell 2,hZ.cell 3,hZ.cell 4,hZ.cell 5,hZ.cell 6,hV.cell 1⟩
  have HR1:Hid (∀y,Below W3.heap.size W3 y->Block y (w.heap.size+1) 71 #[.int .i64 0,.slice none 0 0,.slice none 0 0,.slice none 0 0]):=hid λy hy=>hR.below hy hRl
  have hfu:=hid (Ypz (n:=n) (a:=l1) (b:=l2) (c:=l3) (d:=l4) (e:=l5) (f:=l6) (w:=W3.drew) (show 0<m by omega) m2)
  have HC:=hid (hc1.Yc (w':=W3.drew) (below_drewN (Below.refl _ W3) 1))
  clear hX hc1 hR p0 p1 p2 p3 p4 q0 q1 q2 q3 q4 s0 s1 s2 s3 s4;go_wp2_with fail;go_region_held3 (λw'=>w'.cell? ⟨W2.heap.size,0,none⟩=some (.int .i64 n)/\w'.cell? ⟨W2.heap.size,1,none⟩=some (.int .i64 l1)/\w'.cell? ⟨W2.heap.size,2,none⟩=some (.int .i64 l2)/\w'.cell? ⟨W2.heap.size,3,none⟩=some (.int .i64 l3)/\w'.cell? ⟨W2.heap.size,4,none⟩=some (.int .i64 l4)/\w'.cell? ⟨W2.heap.size,5,none⟩=some (.int .i64 l5)/\w'.cell? ⟨W2.heap.size,6,none⟩=some (.int .i64 l6)/\w'.cell? ⟨g,1,none⟩=some (.int .i64 m))
   (first
    |go_keep
    |exact K.out _ hBB1
    |exact K2.out _ _ _ _ _ hBB1)
   (first
    |(go_at_call 182;refine hfu.out.mono ?_;rintro e w1 ⟨v1,v2,v3,rfl,hO,hB1⟩;have hBB1:Below W3.heap.size W3 w1:=((below_drewN (Below.refl _ W3) 1).trans hB1);obtain⟨A1,n1,c1',A2,n2,c2',A3,n3,c3',rfl,rfl,rfl,_⟩:=hO.form;have hr1:=HR1.out _ hBB1;have d0:w1.cell? ⟨w.heap.size+1,0,none⟩=some (.int .i64 0):=hr1.cell 0;have d1:w1.cell? ⟨w.heap.size+1,1,none⟩=some (.slice none 0 0):=hr1.cell 1;have d2:w1.cell? ⟨w.heap.size+1,2,none⟩=some (.slice none 0 0):=hr1.cell 2;have d3:w1.cell? ⟨w.heap.size+1,3,none⟩=some (.slice none 0 0):=hr1.cell 3;have f0:=hr1.free 0;have f1:=hr1.free 1;have f2:=hr1.free 2;have f3:=hr1.free 3))
  have hr1:=HR1.out _ hBB1
  have hO':X7 w1 W3.heap.size (.slice A1 n1 c1') (.slice A2 n2 c2') (.slice A3 n3 c3') ([l1,l2].take m) ([l3,l4].take m) ([l5,l6].take m):=hO
  rw[HL.out.1,HL.out.2.1,HL.out.2.2]at hO'
  have hR:=hid (hr1.Zp (.int .i64 n) (.slice A1 n1 c1') (.slice A2 n2 c2') (.slice A3 n3 c3'))
  have hF:=hid (X7.Zp (r:=w.heap.size+1) hO' hRl (.int .i64 n) (.slice A1 n1 c1') (.slice A2 n2 c2') (.slice A3 n3 c3'))
  have hG:=hid (Yq (r:=w.heap.size+1) (Ya hb3 hBB1) (fj _) (.int .i64 n) (.slice A1 n1 c1') (.slice A2 n2 c2') (.slice A3 n3 c3'))
  have hs3:=hb3.size
  clear hO hO' hB1 hBB1 hr1 d0 d1 d2 d3 f0 f1 f2 f3 K K2 HR1 HC hfu c1 x0 x1 x2 x3 x4 x5 x6;go_wp2_with fail;refine bodyPost_ret (Ye rfl _ _ (w.heap.size+1) _ _ rfl hR.out az rfl Yz) rfl ?_;exact⟨⟨_,_,_,by rw[hn1.out];rfl,⟨hF.out.s.low hs3,hF.out.m.low hs3,hF.out.x.low hs3⟩⟩,hG.out⟩
end
section
open Go.RowKit Go.Maps
def Fh(w:World)(r:Option PC)(e:Ending)(w':World):Prop:=
 (match r with
  |none=>e=.returned (.tuple #[.agg #[.int .i64 0,.slice none 0 0,.slice none 0 0,.slice none 0 0],.bool false])
  |some u=>∃v1 v2 v3,e=.returned (.tuple #[.agg #[.int .i64 u.1,v1,v2,v3],.bool true])/\X7 w' w.heap.size v1 v2 v3 u.2.1 u.2.2.1 u.2.2.2)/\Below w.heap.size w w'
def J7(W:Nat)(C:Cub)(L:List Int):Option PC:=if isKey W L then Za C L else none
theorem Oj(h:Cb w g b W m C)(hL:Y2 w w.heap.size A n c L):
  Calls aa 56 #[.pointer (some ⟨g,0,none⟩),.slice A n c] w (Fh w (J7 W C L)):=by
 have hb1:=Yb w (.cells #[.int .i64 0,.slice none 0 0,.slice none 0 0,.slice none 0 0] 71)
 have hR:=Block.new w 71 #[.int .i64 0,.slice none 0 0,.slice none 0 0,.slice none 0 0]
 have h1:=h.Yc hb1
 have hL1:=hL.Yc hb1
 have hgl:=h.blk.lt
 have hW3:=h.w3
 clear hL h
 by_cases hk:isKey W L
 ·have hcon:=hid (Ycb h1.c0 hL1 hk)
  obtain⟨x,y,z,hxyz⟩:=Qe L;go_enter fi,fc;go_wp2_with fail;generalize w.alloc (.cells #[.int .i64 0,.slice none 0 0,.slice none 0 0,.slice none 0 0] 71)=w1 at hb1 h1 hL1 hcon hR⊢;refine hcon.out.mono ?_;rintro e w2 ⟨rfl,hb2⟩
  have hbx:=Ya hb2 (Yb w2 (.cells #[.int .i64 x,.int .i64 y,.int .i64 z] 178))
  have hb3:=Ya hb1 hbx
  have h3:=h1.Yc hbx
  have hR3:=hR.below hbx hR.lt
  rw[hxyz.out];clear hL1 h1 hb1 hbx hb2 hcon hR;go_wp2_with fail;generalize w2.alloc (.cells #[.int .i64 x,.int .i64 y,.int .i64 z] 178)=w3 at hb3 h3 hR3⊢
  have hRl:=hR3.lt
  rcases hu:Za C L with _|u
  ·have HV:=hid (show J7 W C L=none by unfold J7;rw[if_pos hk,hu])
   have hat:=Yvd h3 hk hu
   rw[hxyz.out]at hat;refine hat.mono ?_;rintro e w4 ⟨rfl,hb4⟩
   have hR4:=hR3.below hb4 hRl
   have hb:=Ya hb3 hb4
   have r0:w4.cell? ⟨w.heap.size,0,none⟩=some (.int .i64 0):=hR4.cell 0
   have r1:w4.cell? ⟨w.heap.size,1,none⟩=some (.slice none 0 0):=hR4.cell 1
   have r2:w4.cell? ⟨w.heap.size,2,none⟩=some (.slice none 0 0):=hR4.cell 2
   have r3:w4.cell? ⟨w.heap.size,3,none⟩=some (.slice none 0 0):=hR4.cell 3
   have f0:=hR4.free 0
   have f1:=hR4.free 1
   have f2:=hR4.free 2
   have f3:=hR4.free 3
   have HR:=hid (hR4.Zp (.int .i64 0) (.slice none 0 0) (.slice none 0 0) (.slice none 0 0))
   have HB:=hid (Yq (r:=w.heap.size) hb (ai _) (.int .i64 0) (.slice none 0 0) (.slice none 0 0) (.slice none 0 0))
   clear hR4 hb hb4 hR3 h3 hat hu;go_wp2_with fail;refine bodyPost_ret (Ye rfl _ _ w.heap.size _ _ rfl HR.out az rfl Yz) rfl ?_;rw[HV.out];exact⟨rfl,HB.out⟩
  ·have HV:=hid (show J7 W C L=some u by unfold J7;rw[if_pos hk,hu])
   have hat:=Yq9 h3 hk hu
   rw[hxyz.out]at hat;refine hat.mono ?_;rintro e w4 ⟨⟨v1,v2,v3,rfl,hO⟩,hb4⟩;obtain⟨A1,n1,c1,A2,n2,c2,A3,n3,c3,rfl,rfl,rfl,_⟩:=hO.form
   have hR4:=hR3.below hb4 hRl
   have hb:=Ya hb3 hb4
   have r0:w4.cell? ⟨w.heap.size,0,none⟩=some (.int .i64 0):=hR4.cell 0
   have r1:w4.cell? ⟨w.heap.size,1,none⟩=some (.slice none 0 0):=hR4.cell 1
   have r2:w4.cell? ⟨w.heap.size,2,none⟩=some (.slice none 0 0):=hR4.cell 2
   have r3:w4.cell? ⟨w.heap.size,3,none⟩=some (.slice none 0 0):=hR4.cell 3
   have f0:=hR4.free 0
   have f1:=hR4.free 1
   have f2:=hR4.free 2
   have f3:=hR4.free 3
   obtain⟨q,hq⟩: ∃q,Hid (u.1=q):=⟨_,hid rfl⟩;rw[hq.out]
   have HR:=hid (hR4.Zp (.int .i64 q) (.slice A1 n1 c1) (.slice A2 n2 c2) (.slice A3 n3 c3))
   have HB:=hid (Yq (r:=w.heap.size) hb (ai _) (.int .i64 q) (.slice A1 n1 c1) (.slice A2 n2 c2) (.slice A3 n3 c3))
   have HO:=hid (X7.Zp (r:=w.heap.size) hO hRl (.int .i64 q) (.slice A1 n1 c1) (.slice A2 n2 c2) (.slice A3 n3 c3))
   have hz:=hb3.size
   clear hR4 hb hb4 hR3 h3 hat hu hO;go_wp2_with fail;refine bodyPost_ret (Ye rfl _ _ w.heap.size _ _ rfl HR.out az rfl Yz) rfl ?_;rw[HV.out];exact⟨⟨_,_,_,by rw[hq.out];rfl,HO.out.low hz⟩,HB.out⟩
 ·have hcon:=hid (Yfq h1.c0 hL1 hk)
  have HV:=hid (show J7 W C L=none by unfold J7;rw[if_neg hk])
  go_enter fi,fc;go_wp2_with fail;generalize w.alloc (.cells #[.int .i64 0,.slice none 0 0,.slice none 0 0,.slice none 0 0] 71)=w1 at hb1 h1 hL1 hcon hR⊢;refine hcon.out.mono ?_;rintro e w2 ⟨rfl,hb2⟩
  have hbx:=Ya hb2 (Yb w2 (.cells #[.int .i64 0,.int .i64 0,.int .i64 0] 178))
  have hb:=Ya hb1 hbx
  have hR4:=hR.below hbx hR.lt
  have HX:=hid (ae hR4 hb)
  clear hL1 h1 hb1 hbx hb2 hcon hR hR4 hb hk
  have r0:(w2.alloc (.cells #[.int .i64 0,.int .i64 0,.int .i64 0] 178)).cell? ⟨w.heap.size,0,none⟩=some (.int .i64 0):=HX.out.1.cell 0
  have r1:(w2.alloc (.cells #[.int .i64 0,.int .i64 0,.int .i64 0] 178)).cell? ⟨w.heap.size,1,none⟩=some (.slice none 0 0):=HX.out.1.cell 1
  have r2:(w2.alloc (.cells #[.int .i64 0,.int .i64 0,.int .i64 0] 178)).cell? ⟨w.heap.size,2,none⟩=some (.slice none 0 0):=HX.out.1.cell 2
  have r3:(w2.alloc (.cells #[.int .i64 0,.int .i64 0,.int .i64 0] 178)).cell? ⟨w.heap.size,3,none⟩=some (.slice none 0 0):=HX.out.1.cell 3
  have f0:=HX.out.1.free 0
  have f1:=HX.out.1.free 1
  have f2:=HX.out.1.free 2
  have f3:=HX.out.1.free 3
  have HR:=hid (HX.out.1.Zp (.int .i64 0) (.slice none 0 0) (.slice none 0 0) (.slice none 0 0))
  have HB:=hid (Yq (r:=w.heap.size) HX.out.2 (ai _) (.int .i64 0) (.slice none 0 0) (.slice none 0 0) (.slice none 0 0))
  go_wp2_with fail;refine bodyPost_ret (Ye rfl _ _ w.heap.size _ _ rfl HR.out az rfl Yz) rfl ?_;rw[HV.out];exact⟨rfl,HB.out⟩
end
section
open Go.RowKit Go.Maps
/-! ### what it comes to -/
theorem Yne(m:Nat)(hm:m<=2):Zo (Y0 m):=⟨by simpa[Y0]using hm,by simp[Y0],by simp[Y0],.inl (by simp[Y0])⟩
theorem Ymm(h:x.1=0):R6 W m C k x=(C,1):=Jd λh'=>h'.2.2.1 h
theorem Ykj(h:¬isKey W k):R6 W m C k x=(C,1):=Jd λh'=>h h'.1
theorem Yul(hC:Xw W m C)(hm:m<=2)(hk:isKey W k)(hx:x.1≠0):R6 W m C k x=if (Zs ((Za C k).getD (Y0 m)) x).2=0 then (Wo C k (Zs ((Za C k).getD (Y0 m)) x).1,0)else (C,(Zs ((Za C k).getD (Y0 m)) x).2):=by
 by_cases hi:Yv m x
 ·rcases hg:Za C k with _|y
  ·have e:Zs (Y0 m) x=(x,0):=by
    unfold Zs;rw[if_neg (by
     rintro(h|h|h)
     ·exact h (Yne m hm)
     ·exact h hi.1
     ·exact h (by rw[hi.2.2];simp[Y0])),if_pos (show(Y0 m).1=0 from rfl)]
   rw[Pf ⟨hk,hi⟩ hg,Option.getD_none,e];simp
  ·rw[dm]
   by_cases h0:(Zs y x).2=0
   ·rw[La ⟨hk,hi⟩ hg h0,if_pos h0]
   ·rw[Aj ⟨hk,hi⟩ hg h0,if_neg h0]
 ·have hl:((Za C k).getD (Y0 m)).2.1.length=m:=by
   rcases hg:Za C k with _|y
   ·simp[Y0]
   ·exact(hC.cell _ (Xg hg)).2.2
  have e:Zs ((Za C k).getD (Y0 m)) x=(Yl,1):=by
   unfold Zs;rw[if_pos]
   by_cases h:Zo x
   ·refine .inr (.inr λe=>hi ⟨h,hx,?_⟩)
    rw[<-e,hl]
   ·exact .inr (.inl h)
  rw[Jd (λh=>hi h.2),e,if_neg (by decide)]
theorem Lx{q:Int}{A1 A2 A3:Option Addr}{n1 c1 n2 c2 n3 c3:Nat}{S:List Int}(h:Cb w g b W m C)(hL:Y2 w w.heap.size A n c L)(hx:Wi w w.heap.size A1 n1 c1 A2 n2 c2 A3 n3 c3 S M X):
  Calls aa 108 #[.pointer (some ⟨g,0,none⟩),.slice A n c,.agg #[.int .i64 q,.slice A1 n1 c1,.slice A2 n2 c2,.slice A3 n3 c3]] w λe w'=>e=.returned (.int .i64 (R6 W m C L (q,S,M,X)).2)/\Cb w' g b W m (R6 W m C L (q,S,M,X)).1/\w.grownBy w' (some b):=by
 have hb1:=Yb w (.cells #[.int .i64 q,.slice A1 n1 c1,.slice A2 n2 c2,.slice A3 n3 c3] 71)
 have hX:=Block.new w 71 #[.int .i64 q,.slice A1 n1 c1,.slice A2 n2 c2,.slice A3 n3 c3]
 have h1:=h.Yc hb1
 have hL1:=hL.Yc hb1
 have hx1:=hx.Yc hb1
 have hgl:=h.blk.lt
 have hbl:=h.map.lt
 have hw3:=h.w3
 have hm1:=h.m1
 have hm2:=h.m2
 have H0:=hid (ae h hx)
 clear hL h hx
 by_cases hk:isKey W L
 ·have hcon:=hid (Ycb h1.c0 hL1 hk)
  obtain⟨x,y',z,hxyz⟩:=Qe L;go_enter fh,fb;go_wp2_with fail;generalize w.alloc (.cells #[.int .i64 q,.slice A1 n1 c1,.slice A2 n2 c2,.slice A3 n3 c3] 71)=w1 at hb1 h1 hL1 hx1 hcon hX⊢;refine hcon.out.mono ?_;rintro e w2 ⟨rfl,hb2⟩
  have hbx:=Ya hb2 (Yb w2 (.cells #[.int .i64 x,.int .i64 y',.int .i64 z] 178))
  have hb3:=Ya hb1 hbx
  have h3:=h1.Yc hbx
  have hX3:=hX.below hbx hX.lt
  have hx3:=hx1.Yc hbx
  have hK3:=Block.new w2 178 #[.int .i64 x,.int .i64 y',.int .i64 z]
  have hz2:w.heap.size<w2.heap.size:=ax hX.lt hb2.size
  rw[hxyz.out];clear hL1 h1 hb1 hbx hb2 hcon hX hx1
  by_cases hq:q=0
  ·have HV:=hid (Ymm (W:=W) (m:=m) (C:=C) (k:=L) (x:=(q,S,M,X)) hq)
   have HF:=hid (ae h3 (Uj hb3 (some b)))
   have hqe:((q:Int)==0)=true:=by simp[hq]
   have p0:(w2.alloc (.cells #[.int .i64 x,.int .i64 y',.int .i64 z] 178)).cell? ⟨w.heap.size,0,none⟩=some (.int .i64 q):=hX3.cell 0
   clear hX3 hx3 hK3 h3 hb3 hq;go_wp2_with fail;go_ret;rw[HV.out];exact⟨rfl,HF.out.1,HF.out.2⟩
  ·have hqe:((q:Int)==0)=false:=by simpa using hq
   have p0:(w2.alloc (.cells #[.int .i64 x,.int .i64 y',.int .i64 z] 178)).cell? ⟨w.heap.size,0,none⟩=some (.int .i64 q):=hX3.cell 0
   have HA:=hid (Yul (k:=L) (x:=(q,S,M,X)) h3.ok hm2 hk hq)
   clear hq;go_wp2_with fail;clear p0 hqe;generalize w2.alloc (.cells #[.int .i64 x,.int .i64 y',.int .i64 z] 178)=w3 at h3 hX3 hx3 hK3 hb3⊢;obtain⟨kb,hkb⟩: ∃kb,w2.heap.size=kb:=⟨_,rfl⟩;rw[hkb]at hz2 hK3⊢;clear hkb
   rcases hu:Za C L with _|u
   ·rw[hu]at HA
    have hat:=Yvd h3 hk hu
    rw[hxyz.out]at hat;refine hat.mono ?_;rintro e w4 ⟨rfl,hb4⟩
    have hbx:=Ya hb4 (Yb w4 (.cells #[.int .i64 0,.slice none 0 0,.slice none 0 0,.slice none 0 0] 71))
    have h5:=h3.Yc hbx
    have hX5:=hX3.below hbx hX3.lt
    have hK5:=hK3.below hbx hK3.lt
    have hx5:=hx3.Yc hbx
    have hT5:=Block.new w4 71 #[.int .i64 0,.slice none 0 0,.slice none 0 0,.slice none 0 0]
    have hb5:=Ya hb3 hbx
    have hkz:kb<w4.heap.size:=ax hK3.lt hb4.size
    have c15:=h5.c1
    clear h3 hX3 hx3 hK3 hb3 hbx hb4 hat hu;go_wp2_with fail;generalize w4.alloc (.cells #[.int .i64 0,.slice none 0 0,.slice none 0 0,.slice none 0 0] 71)=w5 at h5 hX5 hx5 hK5 hT5 hb5 c15⊢;obtain⟨tb,htb⟩: ∃tb,w4.heap.size=tb:=⟨_,rfl⟩;rw[htb]at hkz hT5⊢;clear htb;refine(Mz (m:Int) w5 (m:=m) (by omega)).mono ?_
    rintro e w6 ⟨⟨g1,g2,g3,rfl,hO6,_⟩,hb6⟩
    have hT6:=hT5.below hb6 hT5.lt
    have r0:w6.cell? ⟨tb,0,none⟩=some (.int .i64 0):=hT6.cell 0
    have r1:w6.cell? ⟨tb,1,none⟩=some (.slice none 0 0):=hT6.cell 1
    have r2:w6.cell? ⟨tb,2,none⟩=some (.slice none 0 0):=hT6.cell 2
    have r3:w6.cell? ⟨tb,3,none⟩=some (.slice none 0 0):=hT6.cell 3
    have f0:=hT6.free 0
    have f1:=hT6.free 1
    have f2:=hT6.free 2
    have f3:=hT6.free 3
    have hz6:w.heap.size<=tb:=by omega
    have hT7:=hT6.Zp (.int .i64 0) (.slice (some ⟨g1,0,none⟩) m m) (.slice (some ⟨g2,0,none⟩) m m) (.slice (some ⟨g3,0,none⟩) m m)
    have hb7:=Yq (r:=tb) (Ya hb5 hb6) hz6 (.int .i64 0) (.slice (some ⟨g1,0,none⟩) m m) (.slice (some ⟨g2,0,none⟩) m m) (.slice (some ⟨g3,0,none⟩) m m)
    have hO7:=X7.Zp (r:=tb) hO6 hT5.lt (.int .i64 0) (.slice (some ⟨g1,0,none⟩) m m) (.slice (some ⟨g2,0,none⟩) m m) (.slice (some ⟨g3,0,none⟩) m m)
    have hP:Below tb w6 (Sr w6 tb (.int .i64 0) (.slice (some ⟨g1,0,none⟩) m m) (.slice (some ⟨g2,0,none⟩) m m) (.slice (some ⟨g3,0,none⟩) m m)):=Yq (Below.refl _ _) (ai _) _ _ _ _
    have hX7:=(hX5.below hb6 hX5.lt).below hP (by omega)
    have hK7:=(hK5.below hb6 hK5.lt).below hP hkz
    have hy7:Wi (Sr w6 tb (.int .i64 0) (.slice (some ⟨g1,0,none⟩) m m) (.slice (some ⟨g2,0,none⟩) m m) (.slice (some ⟨g3,0,none⟩) m m)) _ (some ⟨g1,0,none⟩) m m (some ⟨g2,0,none⟩) m m (some ⟨g3,0,none⟩) m m (aq m 0) (aq m 0) (aq m 0):=⟨hO7.s.has,hO7.m.has,hO7.x.has⟩
    have HY:Hid ((Option.none:Option PC).getD (Y0 m)=(0,aq m 0,aq m 0,aq m 0)):=hid rfl
    have HZ:=hid (ae hT7 (ae hb7 (ae hX7 (ae hK7 hy7))))
    clear h5 hX5 hx5 hK5 hT5 hb5 hO6 hb6 hT6 hO7 hP hT7 hb7 hX7 hK7 hy7;go_upto_region 7 with fail
    clear r0 r1 r2 r3 f0 f1 f2 f3 c15;obtain⟨hT7,hb7,hX7,hK7,hy7⟩:=HZ.out;clear HZ;unfold Sr at hT7 hb7 hX7 hK7 hy7;generalize (((w6.setCell ⟨tb,0,none⟩ (.int .i64 0)).setCell ⟨tb,1,none⟩ (.slice (some ⟨g1,0,none⟩) m m)).setCell ⟨tb,2,none⟩ (.slice (some ⟨g2,0,none⟩) m m)).setCell ⟨tb,3,none⟩ (.slice (some ⟨g3,0,none⟩) m m)=w7 at hT7 hb7 hX7 hK7 hy7⊢
    have h7:=H0.out.1.Yc hb7
    have hx7:=H0.out.2.Yc hb7
    have hmrg:=hid (Ycm (q:=0) (q':=q) hy7 hx7)
    obtain⟨p,P,Q,R,er,HR⟩: ∃p P Q R er,Hid (Zs (0,aq m 0,aq m 0,aq m 0) (q,S,M,X)=((p,P,Q,R),er)):=⟨_,_,_,_,_,hid rfl⟩;rw[HY.out,HR.out]at HA
    have t0:w7.cell? ⟨tb,0,none⟩=some (.int .i64 (0)):=hT7.cell 0
    have t1:w7.cell? ⟨tb,1,none⟩=some (.slice (some ⟨g1,0,none⟩) m m):=hT7.cell 1
    have t2:w7.cell? ⟨tb,2,none⟩=some (.slice (some ⟨g2,0,none⟩) m m):=hT7.cell 2
    have t3:w7.cell? ⟨tb,3,none⟩=some (.slice (some ⟨g3,0,none⟩) m m):=hT7.cell 3
    have x0:w7.cell? ⟨w.heap.size,0,none⟩=some (.int .i64 q):=hX7.cell 0
    have x1:w7.cell? ⟨w.heap.size,1,none⟩=some (.slice A1 n1 c1):=hX7.cell 1
    have x2:w7.cell? ⟨w.heap.size,2,none⟩=some (.slice A2 n2 c2):=hX7.cell 2
    have x3:w7.cell? ⟨w.heap.size,3,none⟩=some (.slice A3 n3 c3):=hX7.cell 3
    clear hy7 hx7;go_wp2_with fail;refine hmrg.out.mono ?_;rw[HR.out];rintro e w8 ⟨⟨v1,v2,v3,rfl,hO8⟩,hb8⟩;obtain⟨E1,m1,e1,E2,m2',e2,E3,m3,e3,rfl,rfl,rfl,hc8⟩:=hO8.form
    have hbx:=Ya hb8 (Yb w8 (.cells #[.int .i64 p,.slice E1 m1 e1,.slice E2 m2' e2,.slice E3 m3 e3] 71))
    have h9:=h7.Yc hbx
    have hK9:=hK7.below hbx hK7.lt
    have hS9:=Block.new w8 71 #[.int .i64 p,.slice E1 m1 e1,.slice E2 m2' e2,.slice E3 m3 e3]
    have hc9:=hc8.Rz (.cells #[.int .i64 p,.slice E1 m1 e1,.slice E2 m2' e2,.slice E3 m3 e3] 71)
    have hb9:=Ya hb7 hbx
    have hkz8:kb<w8.heap.size:=ax hK7.lt hb8.size
    clear h7 hX7 hK7 hT7 hb7 hbx hb8 hO8 hc8 hmrg t0 t1 t2 t3 x0 x1 x2 x3
    by_cases he:er=0
    ·have hee:((er:Int) != 0)=false:=by simp[he]
     rw[if_pos he]at HA
     have hisc:Hid (Yv m (p,P,Q,R)):=hid (by
      have h1:=Nr H0.out.1.ok L (q,S,M,X)
      rw[HA.out]at h1;exact h1.cell (L,(p,P,Q,R)) (Xg (by rw[Uq,if_pos rfl])))
     clear he;go_wp2_with fail;generalize w8.alloc (.cells #[.int .i64 p,.slice E1 m1 e1,.slice E2 m2' e2,.slice E3 m3 e3] 71)=w9 at h9 hK9 hS9 hc9 hb9⊢;obtain⟨sb,hsb⟩: ∃sb,w8.heap.size=sb:=⟨_,rfl⟩;rw[hsb]at hkz8 hS9⊢;clear hsb;obtain⟨l0,l1,l2,l3,l4,l5,l6,hV,_,_⟩:=Ot (p,P,Q,R)
     have hkp:=hid (Yfi (n:=p) (w:=w9.drew) hc9.drew)
     rw[hV.out]at hkp
     have KK:Hid (∀y:World,Below w9.heap.size w9 y->y.cell? ⟨g,2,none⟩=some (.map (some b))/\y.cell? ⟨kb,0,none⟩=some (.int .i64 x)/\y.cell? ⟨kb,1,none⟩=some (.int .i64 y')/\y.cell? ⟨kb,2,none⟩=some (.int .i64 z)/\y.cell? ⟨sb,0,none⟩=some (.int .i64 p)/\y.cell? ⟨sb,1,none⟩=some (.slice E1 m1 e1)/\y.cell? ⟨sb,2,none⟩=some (.slice E2 m2' e2)/\y.cell? ⟨sb,3,none⟩=some (.slice E3 m3 e3)):=hid λy hy=>by
      have a1:=hK9.below hy hK9.lt
      have a2:=hS9.below hy hS9.lt
      exact⟨(h9.Yc hy).c2,a1.cell 0,a1.cell 1,a1.cell 2,a2.cell 0,a2.cell 1,a2.cell 2,a2.cell 3⟩
     have KS:Hid (∀y:World,Below w9.heap.size w9 y->∃w',(dp 179 (.map (some b)) (.agg #[.int .i64 x,.int .i64 y',.int .i64 z]) (.agg #[.int .i64 l0,.int .i64 l1,.int .i64 l2,.int .i64 l3,.int .i64 l4,.int .i64 l5,.int .i64 l6])).run aa y=.ok () w'∧Cb w' g b W m (Wo C L (p,P,Q,R))/\y.grownBy w' (some b)/\w'.cell? ⟨g,2,none⟩=some (.map (some b))/\w'.cell? ⟨kb,0,none⟩=some (.int .i64 x)/\w'.cell? ⟨kb,1,none⟩=some (.int .i64 y')/\w'.cell? ⟨kb,2,none⟩=some (.int .i64 z)/\w'.cell? ⟨sb,0,none⟩=some (.int .i64 p)/\w'.cell? ⟨sb,1,none⟩=some (.slice E1 m1 e1)/\w'.cell? ⟨sb,2,none⟩=some (.slice E2 m2' e2)/\w'.cell? ⟨sb,3,none⟩=some (.slice E3 m3 e3)):=hid λy hy=>by
      have hy9:=h9.Yc hy
      obtain⟨w',r1,r2,r3⟩:=hy9.map.store hw3 (t:=179) (x:=(p,P,Q,R)) aj hy9.ok.ris (by have:=hy9.len;omega) hk
      rw[hxyz.out,hV.out]at r1
      have a1:=(hK9.below hy hK9.lt).grown r3 (λe=>by injection e with e;omega)
      have a2:=(hS9.below hy hS9.lt).grown r3 (λe=>by injection e with e;omega)
      have a3:=hy9.put r3 r2 hk hisc.out
      exact⟨w',r1,a3,r3,a3.c2,a1.cell 0,a1.cell 1,a1.cell 2,a2.cell 0,a2.cell 1,a2.cell 2,a2.cell 3⟩
     have k:=KK.out _ (Below.refl _ w9)
     obtain⟨k0,k1,k2,k3,k4,k5,k6,k7⟩:=k
     have HB9:=hid hb9
     clear h9 hK9 hS9 hc9 hb9;go_region_held3 (λw'=>w'.cell? ⟨g,2,none⟩=some (.map (some b))/\w'.cell? ⟨kb,0,none⟩=some (.int .i64 x)/\w'.cell? ⟨kb,1,none⟩=some (.int .i64 y')/\w'.cell? ⟨kb,2,none⟩=some (.int .i64 z)/\w'.cell? ⟨sb,0,none⟩=some (.int .i64 p)/\w'.cell? ⟨sb,1,none⟩=some (.slice E1 m1 e1)/\w'.cell? ⟨sb,2,none⟩=some (.slice E2 m2' e2)/\w'.cell? ⟨sb,3,none⟩=some (.slice E3 m3 e3))
      (first
       |go_keep
       |exact K11
       |exact KK.out _ hBB1)
      (first
       |(go_at_call 176;refine hkp.out.mono ?_;rintro e w10 ⟨rfl,hb10⟩;have hBB1:Below w9.heap.size w9 w10:=((below_drewN (Below.refl _ w9) 1).trans hb10);obtain⟨w11,hrun,h11,hg11,K11⟩:=KS.out _ hBB1))
     have HF:=hid (ae h11 (Fg (Ya HB9.out hBB1) hg11))
     clear h11 hg11 hBB1 hb10 hrun K11 KK KS k0 k1 k2 k3 k4 k5 k6 k7;go_wp2_with fail;go_ret;rw[HA.out];exact⟨rfl,HF.out.1,HF.out.2⟩
    ·have hee:((er:Int) != 0)=true:=by simpa using he
     rw[if_neg he]at HA
     have HF:=hid (ae h9 (Uj hb9 (some b)))
     clear he h9 hK9 hS9 hc9 hb9;go_wp2_with fail;go_ret;rw[HA.out];exact⟨rfl,HF.out.1,HF.out.2⟩
   ·rw[hu]at HA
    have hat:=Yq9 h3 hk hu
    rw[hxyz.out]at hat;refine hat.mono ?_;rintro e w4 ⟨⟨v1,v2,v3,rfl,hO4⟩,hb4⟩;obtain⟨B1,k1,d1,B2,k2,d2,B3,k3,d3,rfl,rfl,rfl,hy4⟩:=hO4.form;obtain⟨u0,uS,uM,uX⟩:=u
    have hbx:=Ya hb4 (Yb w4 (.cells #[.int .i64 u0,.slice B1 k1 d1,.slice B2 k2 d2,.slice B3 k3 d3] 71))
    have hX7:=hX3.below hbx hX3.lt
    have hK7:=hK3.below hbx hK3.lt
    have hT7:=Block.new w4 71 #[.int .i64 u0,.slice B1 k1 d1,.slice B2 k2 d2,.slice B3 k3 d3]
    have hy7:=hy4.Rz (.cells #[.int .i64 u0,.slice B1 k1 d1,.slice B2 k2 d2,.slice B3 k3 d3] 71)
    have hb7:=Ya hb3 hbx
    have hkz:kb<w4.heap.size:=ax hK3.lt hb4.size
    have HY:Hid ((some (u0,uS,uM,uX):Option PC).getD (Y0 m)=(u0,uS,uM,uX)):=hid rfl
    clear h3 hX3 hx3 hK3 hb3 hbx hb4 hat hu hO4 hy4;go_upto_region 7 with fail
    generalize w4.alloc (.cells #[.int .i64 u0,.slice B1 k1 d1,.slice B2 k2 d2,.slice B3 k3 d3] 71)=w7 at hT7 hb7 hX7 hK7 hy7⊢;obtain⟨tb,htb⟩: ∃tb,w4.heap.size=tb:=⟨_,rfl⟩;rw[htb]at hkz hT7⊢;clear htb
    have hz6:w.heap.size<=tb:=by omega
    have h7:=H0.out.1.Yc hb7
    have hx7:=H0.out.2.Yc hb7
    have hmrg:=hid (Ycm (q:=u0) (q':=q) hy7 hx7)
    obtain⟨p,P,Q,R,er,HR⟩: ∃p P Q R er,Hid (Zs (u0,uS,uM,uX) (q,S,M,X)=((p,P,Q,R),er)):=⟨_,_,_,_,_,hid rfl⟩;rw[HY.out,HR.out]at HA
    have t0:w7.cell? ⟨tb,0,none⟩=some (.int .i64 (u0)):=hT7.cell 0
    have t1:w7.cell? ⟨tb,1,none⟩=some (.slice B1 k1 d1):=hT7.cell 1
    have t2:w7.cell? ⟨tb,2,none⟩=some (.slice B2 k2 d2):=hT7.cell 2
    have t3:w7.cell? ⟨tb,3,none⟩=some (.slice B3 k3 d3):=hT7.cell 3
    have x0:w7.cell? ⟨w.heap.size,0,none⟩=some (.int .i64 q):=hX7.cell 0
    have x1:w7.cell? ⟨w.heap.size,1,none⟩=some (.slice A1 n1 c1):=hX7.cell 1
    have x2:w7.cell? ⟨w.heap.size,2,none⟩=some (.slice A2 n2 c2):=hX7.cell 2
    have x3:w7.cell? ⟨w.heap.size,3,none⟩=some (.slice A3 n3 c3):=hX7.cell 3
    clear hy7 hx7;go_wp2_with fail;refine hmrg.out.mono ?_;rw[HR.out];rintro e w8 ⟨⟨v1,v2,v3,rfl,hO8⟩,hb8⟩;obtain⟨E1,m1,e1,E2,m2',e2,E3,m3,e3,rfl,rfl,rfl,hc8⟩:=hO8.form
    have hbx:=Ya hb8 (Yb w8 (.cells #[.int .i64 p,.slice E1 m1 e1,.slice E2 m2' e2,.slice E3 m3 e3] 71))
    have h9:=h7.Yc hbx
    have hK9:=hK7.below hbx hK7.lt
    have hS9:=Block.new w8 71 #[.int .i64 p,.slice E1 m1 e1,.slice E2 m2' e2,.slice E3 m3 e3]
    have hc9:=hc8.Rz (.cells #[.int .i64 p,.slice E1 m1 e1,.slice E2 m2' e2,.slice E3 m3 e3] 71)
    have hb9:=Ya hb7 hbx
    have hkz8:kb<w8.heap.size:=ax hK7.lt hb8.size
    clear h7 hX7 hK7 hT7 hb7 hbx hb8 hO8 hc8 hmrg t0 t1 t2 t3 x0 x1 x2 x3
    by_cases he:er=0
    ·have hee:((er:Int) != 0)=false:=by simp[he]
     rw[if_pos he]at HA
     have hisc:Hid (Yv m (p,P,Q,R)):=hid (by
      have h1:=Nr H0.out.1.ok L (q,S,M,X)
      rw[HA.out]at h1;exact h1.cell (L,(p,P,Q,R)) (Xg (by rw[Uq,if_pos rfl])))
     clear he;go_wp2_with fail;generalize w8.alloc (.cells #[.int .i64 p,.slice E1 m1 e1,.slice E2 m2' e2,.slice E3 m3 e3] 71)=w9 at h9 hK9 hS9 hc9 hb9⊢;obtain⟨sb,hsb⟩: ∃sb,w8.heap.size=sb:=⟨_,rfl⟩;rw[hsb]at hkz8 hS9⊢;clear hsb;obtain⟨l0,l1,l2,l3,l4,l5,l6,hV,_,_⟩:=Ot (p,P,Q,R)
     have hkp:=hid (Yfi (n:=p) (w:=w9.drew) hc9.drew)
     rw[hV.out]at hkp
     have KK:Hid (∀y:World,Below w9.heap.size w9 y->y.cell? ⟨g,2,none⟩=some (.map (some b))/\y.cell? ⟨kb,0,none⟩=some (.int .i64 x)/\y.cell? ⟨kb,1,none⟩=some (.int .i64 y')/\y.cell? ⟨kb,2,none⟩=some (.int .i64 z)/\y.cell? ⟨sb,0,none⟩=some (.int .i64 p)/\y.cell? ⟨sb,1,none⟩=some (.slice E1 m1 e1)/\y.cell? ⟨sb,2,none⟩=some (.slice E2 m2' e2)/\y.cell? ⟨sb,3,none⟩=some (.slice E3 m3 e3)):=hid λy hy=>by
      have a1:=hK9.below hy hK9.lt
      have a2:=hS9.below hy hS9.lt
      exact⟨(h9.Yc hy).c2,a1.cell 0,a1.cell 1,a1.cell 2,a2.cell 0,a2.cell 1,a2.cell 2,a2.cell 3⟩
     have KS:Hid (∀y:World,Below w9.heap.size w9 y->∃w',(dp 179 (.map (some b)) (.agg #[.int .i64 x,.int .i64 y',.int .i64 z]) (.agg #[.int .i64 l0,.int .i64 l1,.int .i64 l2,.int .i64 l3,.int .i64 l4,.int .i64 l5,.int .i64 l6])).run aa y=.ok () w'∧Cb w' g b W m (Wo C L (p,P,Q,R))/\y.grownBy w' (some b)/\w'.cell? ⟨g,2,none⟩=some (.map (some b))/\w'.cell? ⟨kb,0,none⟩=some (.int .i64 x)/\w'.cell? ⟨kb,1,none⟩=some (.int .i64 y')/\w'.cell? ⟨kb,2,none⟩=some (.int .i64 z)/\w'.cell? ⟨sb,0,none⟩=some (.int .i64 p)/\w'.cell? ⟨sb,1,none⟩=some (.slice E1 m1 e1)/\w'.cell? ⟨sb,2,none⟩=some (.slice E2 m2' e2)/\w'.cell? ⟨sb,3,none⟩=some (.slice E3 m3 e3)):=hid λy hy=>by
      have hy9:=h9.Yc hy
      obtain⟨w',r1,r2,r3⟩:=hy9.map.store hw3 (t:=179) (x:=(p,P,Q,R)) aj hy9.ok.ris (by have:=hy9.len;omega) hk
      rw[hxyz.out,hV.out]at r1
      have a1:=(hK9.below hy hK9.lt).grown r3 (λe=>by injection e with e;omega)
      have a2:=(hS9.below hy hS9.lt).grown r3 (λe=>by injection e with e;omega)
      have a3:=hy9.put r3 r2 hk hisc.out
      exact⟨w',r1,a3,r3,a3.c2,a1.cell 0,a1.cell 1,a1.cell 2,a2.cell 0,a2.cell 1,a2.cell 2,a2.cell 3⟩
     have k:=KK.out _ (Below.refl _ w9)
     obtain⟨k0,k1,k2,k3,k4,k5,k6,k7⟩:=k
     have HB9:=hid hb9
     clear h9 hK9 hS9 hc9 hb9;go_region_held3 (λw'=>w'.cell? ⟨g,2,none⟩=some (.map (some b))/\w'.cell? ⟨kb,0,none⟩=some (.int .i64 x)/\w'.cell? ⟨kb,1,none⟩=some (.int .i64 y')/\w'.cell? ⟨kb,2,none⟩=some (.int .i64 z)/\w'.cell? ⟨sb,0,none⟩=some (.int .i64 p)/\w'.cell? ⟨sb,1,none⟩=some (.slice E1 m1 e1)/\w'.cell? ⟨sb,2,none⟩=some (.slice E2 m2' e2)/\w'.cell? ⟨sb,3,none⟩=some (.slice E3 m3 e3))
      (first
       |go_keep
       |exact K11
       |exact KK.out _ hBB1)
      (first
       |(go_at_call 176;refine hkp.out.mono ?_;rintro e w10 ⟨rfl,hb10⟩;have hBB1:Below w9.heap.size w9 w10:=((below_drewN (Below.refl _ w9) 1).trans hb10);obtain⟨w11,hrun,h11,hg11,K11⟩:=KS.out _ hBB1))
     have HF:=hid (ae h11 (Fg (Ya HB9.out hBB1) hg11))
     clear h11 hg11 hBB1 hb10 hrun K11 KK KS k0 k1 k2 k3 k4 k5 k6 k7;go_wp2_with fail;go_ret;rw[HA.out];exact⟨rfl,HF.out.1,HF.out.2⟩
    ·have hee:((er:Int) != 0)=true:=by simpa using he
     rw[if_neg he]at HA
     have HF:=hid (ae h9 (Uj hb9 (some b)))
     clear he h9 hK9 hS9 hc9 hb9;go_wp2_with fail;go_ret;rw[HA.out];exact⟨rfl,HF.out.1,HF.out.2⟩
 ·have hcon:=hid (Yfq h1.c0 hL1 hk)
  have HV:=hid (Ykj (m:=m) (C:=C) (x:=(q,S,M,X)) hk)
  go_enter fh,fb;go_wp2_with fail;generalize w.alloc (.cells #[.int .i64 q,.slice A1 n1 c1,.slice A2 n2 c2,.slice A3 n3 c3] 71)=w1 at hb1 h1 hL1 hx1 hcon hX⊢;refine hcon.out.mono ?_;rintro e w2 ⟨rfl,hb2⟩
  have hbx:=Ya hb2 (Yb w2 (.cells #[.int .i64 0,.int .i64 0,.int .i64 0] 178))
  have HF:=hid (ae (h1.Yc hbx) (Uj (Ya hb1 hbx) (some b)))
  clear hL1 h1 hb1 hbx hb2 hcon hX hx1 hk;go_wp2_with fail;go_ret;rw[HV.out];exact⟨rfl,HF.out.1,HF.out.2⟩
end
section
open Go.RowKit Go.Maps
theorem Yg2(h:k.length=W)(hW:W<=3){x y z:Int}(e:Hid (kc3 k=[.int .i64 x,.int .i64 y,.int .i64 z])):∀(j:Nat) (u:Value),(k.map X6)[j]?=some u->(#[ee .i64 x,.int .i64 y,.int .i64 z])[0+j]?=some u:=by
 intro j u hu
 have hj:j<k.length:=by have:=(dt.1 hu).1;simpa using this
 rw[br]
 have e2:(#[ee .i64 x,.int .i64 y,.int .i64 z])[j]?=(kc3 k)[j]?:=by rw[e.out];simp
 rw[e2,<-hu,dn,af hj]
 match j,hj with
 |0,hj=>simp[kc3,X6,au,af hj]
 |1,hj=>simp[kc3,X6,au,af hj]
 |2,hj=>simp[kc3,X6,au,af hj]
 |j+3,hj=>omega
theorem En(k:List Int):∃x y z,Hid (kc3 k=[.int .i64 x,.int .i64 y,.int .i64 z]):=⟨_,_,_,hid rfl⟩
theorem Om{α:Type}{L:List α}{k:Nat}{x:α}(h:L[k]?=some x):L.take k++[x]=L.take (k+1):=by
 rw[List.take_add_one,h];rfl
theorem Ye3(h:Cb w g b W m C):Calls aa 55 #[.pointer (some ⟨g,0,none⟩)] w (Told Uz 47 1 w (C.map (·.1))):=by
 have hS:=hid (C9 h)
 have hlen:=h.len
 have hw3:=h.w3
 have hw1:=h.w1
 have HC:=hid h
 obtain⟨J,hJ⟩: ∃J,Hid (C.map (·.1)=J):=⟨_,hid rfl⟩
 have hJl:Hid (J.length=C.length):=hid (by rw[<-hJ.out,ar])
 have hJk:Hid (∀k∈J,k.length=W):=hid λk hk=>by
  rw[<-hJ.out]at hk;obtain⟨e,he,rfl⟩:=dx.1 hk;exact(h.ok.key e he).1
 rw[hJ.out]at hS⊢;clear h;go_enter Tryz.func55,Tryz.ntmps55;go_wp2_with fail;refine hS.out.mono ?_;rintro e w2 ⟨⟨A,c,rfl,hR⟩,hb2⟩;obtain⟨n,hn⟩: ∃n,Hid (C.length=n):=⟨_,hid rfl⟩;rw[hn.out]at hR hlen⊢
 have hJn:Hid (J.length=n):=hid (hJl.out.trans hn.out)
 have h2:=HC.out.Yc hb2
 have HR:=hid hR
 have HH:=hid h2
 clear hS hR h2 HC;go_wp2_with fail;go_loopw [3,9] (λv i wr=>∃k:Nat,k<=n/\i=.int .i64 k/\Yx Uz 47 1 wr w2.heap.size (λb=>w2.heap.size<=b) v (J.take k)/\Below w2.heap.size w2 wr) (λ_ i _=>n-(intOf i).toNat)
 case atStart=>exact⟨0,dh _,rfl,Yx.Zj w2 _ _,Below.refl _ _⟩
 case round=>
  obtain⟨k,hk,rfl,hO,hB⟩:=hrel
  by_cases hlt:k<n
  ·obtain⟨b',o,us,x,rfl,_,hbl,_,hcell,hx,hxe⟩:=(HR.out.mv Aw (Mv.Yc hB _)).at_ hlt
   have hx:us=kc3 x:=hx
   obtain⟨x0,x1,x2,hkc⟩:=En x;rw[hx,hkc.out]at hcell
   have g0:wr.cell? ⟨b',o+k*3,none⟩=some (.int .i64 x0):=hcell 0 _ rfl
   have g1:wr.cell? ⟨b',o+k*3+1,none⟩=some (.int .i64 x1):=hcell 1 _ rfl
   have g2:wr.cell? ⟨b',o+k*3+2,none⟩=some (.int .i64 x2):=hcell 2 _ rfl
   have hxl:=hJk.out x (bo hxe.out)
   have i0:(0:Int)<=(k:Int):=by omega
   have i1:(k:Int)<(n:Int):=by omega
   have iW0:(0:Int)<=(W:Int):=by omega
   have iW3:(W:Int)<=3:=by omega
   have hbx:=Yb wr (.cells #[.int .i64 x0,.int .i64 x1,.int .i64 x2] 178)
   have hBl:=Block.new wr 178 #[.int .i64 x0,.int .i64 x1,.int .i64 x2]
   have hO1:=hO.below Xp hbx
   have hB1:=hB.trans (hbx.mono hB.size)
   have hlo:=λg e=>hO1.lt g e
   have c0:=(HH.out.Yc hB1).c0
   have hHI:=hid (Y2.part hBl 0 W 3 x hxl hw3 (by decide) (Yg2 hxl hw3 hkc))
   have HT:=hid (Om hxe.out)
   have hlb:Hid ((J.take k).length<=1000000):=hid (ak (List.length_take_le k _) (by omega))
   clear hcell hx hO hB hxl hxe hkc hBl;go_wp2_with fail;generalize wr.alloc (.cells #[.int .i64 x0,.int .i64 x1,.int .i64 x2] 178)=W3 at hO1 hB1 hlo c0 hHI⊢;clear g0 g1 g2;refine(Tn hHI.out (by omega)).mono ?_
   rintro e w5 ⟨⟨v5,rfl,hO5⟩,hb5⟩;obtain⟨A5,n5,c5,rfl,_⟩:=hO5.Yr
   have hz1:=hB1.size
   have hlw:∀g,u3.ownBlock=some g->w2.heap.size<=g/\g<W3.heap.size:=hlo
   have hy5:Uz w5 (λk=>w2.heap.size<=k/\u3.ownBlock≠some k) [.slice A5 n5 c5] x:=⟨_,rfl,(hO5.low (dh _)).Bc,λj hj=>⟨ak hz1 (hO5.lt j hj).1,λe=>by have:=(hlw j e).2;have:=(hO5.lt j hj).1;omega⟩⟩
   have hO6':=hO1.below Xp hb5
   have hB6':=hB1.trans (hb5.mono hz1)
   have hz5:=hB6'.size
   have hO6:=hO6'.alloc Xp (.cells #[.slice A5 n5 c5] 47)
   have hy6:=Xp _ _ _ _ _ _ (Mv.alloc w5 (.cells #[.slice A5 n5 c5] 47) _) hy5
   have hone:=Ynn A5 n5 c5
   have hB6:=hB6'.alloc hz5 (.cells #[.slice A5 n5 c5] 47)
   have hbs:w2.heap.size<=(w5.alloc (.cells #[.slice A5 n5 c5] 47)).heap.size:=by rw[an];omega
   have hcl:∀j u,[Value.slice A5 n5 c5][j]?=some u->(w5.alloc (.cells #[.slice A5 n5 c5] 47)).cell? ((⟨w5.heap.size,0,none⟩:Addr).add j)=some u:=λj u hj=>by
    rw[Yu,br,Zq];simpa using hj
   clear hO1 hB1 hHI hO5 hb5 hy5 hO6' hB6' c0;go_wp2_with (at_builtin;refine Z9 Xp rfl _ _ rfl Fe Tryz.underlying24 rfl (by decide) w2.heap.size _ _ _ rfl hO6 _ rfl [.slice A5 n5 c5] rfl x hcl hone hy6 hlb.out hbs ?_)
   intro v' w6 hO7 hG7
   have hF:=hid (show Yx Uz 47 1 w6 w2.heap.size (λb=>w2.heap.size<=b) v' (J.take (k+1))/\Below w2.heap.size w2 w6 from⟨HT.out▸hO7,hB6.trans (hG7.Yw hbs (λg e=>(hlw g e).1))⟩)
   clear hO7 hG7 hO6 hy6 hB6 hlo hlw hone hcl;go_wp2_with fail;go_roundw
   case rel=>exact⟨k+1,by omega,by go_num,hF.out.1,hF.out.2⟩
   case measure=>simp[intOf];omega
  ·have hF:=hid (show Yx Uz 47 1 wr w.heap.size (λb=>w.heap.size<=b) u3 J/\Below w.heap.size w wr from⟨by
     rw[dc (by have:=hJn.out;omega)]at hO
     exact(hO.to Xp (λb hb _=>ak hb2.size hb)).low hb2.size,Ya hb2 hB⟩)
   clear hO hB;go_wp2_with fail;go_ret;exact⟨u3,rfl,hF.out.1,hF.out.2⟩
/-! ### Copy -/
theorem Vt.to_{b':Nat}(h:Vt W w b C)(hb:w'.heap[b']?=w.heap[b]?):Vt W w' b' C:=by
 obtain⟨F,⟨⟨D,⟨es,clock,h1,h2,h3,h4⟩,h5⟩,n1,n2,n3,n4⟩,h6⟩:=h;exact⟨F,⟨⟨D,⟨es,clock,hb.trans h1,h2,h3,h4⟩,h5⟩,n1,n2,n3,n4⟩,h6⟩
theorem Yj4(h:Vt W w b C):
  Calls aa 144 #[.map (some b)] w λe w'=>e=.returned (.map (some w.heap.size))/\Vt W w' w.heap.size C/\Below w.heap.size w w':=by
 obtain⟨es,clock,hb⟩:=h.R1
 have hq:=λw=>run_eql_map_nil_sl (P:=aa) w 179 _ _ (some b) aj
 have hF:=hid (show Vt W (w.alloc (.map es clock)) w.heap.size C/\Below w.heap.size w (w.alloc (.map es clock))from⟨h.to_ ((MapKept.heap_alloc w _).1.trans hb.symm),Yb w _⟩)
 clear h;go_enter Tryz.func144,Tryz.ntmps144;go_wp2;rw[run_callFunc_extern Tryz.func161 (by kernel_rfl) (by kernel_rfl) (by kernel_rfl) (e:=Extern.MapsClone.clone) (by kernel_rfl),run_maps_clone_sl w 179 hb]
 simp only[Result.andThen];rw[Oper.upon_value];go_wp2;rw[run_typeAssert_map_sl _ 179 20 _ _ _ aj];simp only[Result.andThen];rw[Oper.upon_value];go_wp2;go_ret;exact⟨rfl,hF.out.1,hF.out.2⟩
theorem Yez(h:Cb w g b W m C):
  Calls aa 78 #[.pointer (some ⟨g,0,none⟩)] w λe w'=>(∃v,e=.returned v/\Eh w W m C v w')/\Below w.heap.size w w':=by
 have HH:=hid h
 have K:Hid (∀y,Below w.heap.size w y->y.cell? ⟨g,0,none⟩=some (.int .i64 W)/\y.cell? ⟨g,1,none⟩=some (.int .i64 m)/\y.cell? ⟨g,2,none⟩=some (.map (some b))):=hid λy hy=>⟨(h.Yc hy).c0,(h.Yc hy).c1,(h.Yc hy).c2⟩
 have c0:=h.c0
 have c1:=h.c1
 have c2:=h.c2
 have hM:Vt W w.drew b C:=h.map.drewN 1
 have hcl:=hid (Yj4 hM)
 clear h hM;go_enter Tryz.func78,Tryz.ntmps78;go_wp2_with fail;go_region_held3 (λw'=>w'.cell? ⟨g,0,none⟩=some (.int .i64 W)/\w'.cell? ⟨g,1,none⟩=some (.int .i64 m)/\w'.cell? ⟨g,2,none⟩=some (.map (some b)))
  (first
   |go_keep
   |exact K.out _ hBB1)
  (first
   |(go_at_call 144;refine hcl.out.mono ?_;rintro e w1 ⟨rfl,hM1,hB1⟩;have hBB1:Below w.heap.size w w1:=((below_drewN (Below.refl _ w) 1).trans hB1)))
 have hs1:=hBB1.size
 have hM1:Vt W w1 w.heap.size C:=hM1
 have hF:=hid (show Eh w W m C (.pointer (some ⟨w1.heap.size,0,none⟩)) (w1.alloc (.cells #[.int .i64 W,.int .i64 m,.map (some w.heap.size)] 181))/\Below w.heap.size w (w1.alloc (.cells #[.int .i64 W,.int .i64 m,.map (some w.heap.size)] 181))from
  ⟨⟨_,_,rfl,⟨Block.new w1 _ _,hM1.alloc _,HH.out.ok,HH.out.w1,HH.out.w3,HH.out.m1,HH.out.m2⟩,hs1,ai _⟩,hBB1.alloc hs1 _⟩)
 clear hB1 hM1 hBB1 K HH hcl c0 c1 c2;go_wp2_with fail;go_ret;exact⟨⟨_,rfl,hF.out.1⟩,hF.out.2⟩
end
section
open Go.RowKit Go.Maps
theorem Zc.Wt{s:Nat}{T:TypeId}{cs:Array Value}(h:Zc w base 5 v l)(hb:Block w s T cs)(hT:T≠5):v.ownBlock≠some s:=by
 intro e
 rcases h.2 with⟨rfl,_⟩|⟨g,cap,cur,rfl,_,hg,_⟩
 ·simp[ay]at e
 ·have e2:g=s:=by simpa[ay]using e
  subst e2
  have h1:w.heap[g]?=_:=hb
  rw[hg]at h1;simp at h1;exact hT h1.2.symm
theorem Yau(u:PC):∃n a b c d e f,Hid (Li u=.agg #[.int .i64 n,.int .i64 a,.int .i64 b,.int .i64 c,.int .i64 d,.int .i64 e,.int .i64 f])/\Hid (n=u.1/\a=u.2.1.getD 0 0/\b=u.2.1.getD 1 0/\c=u.2.2.1.getD 0 0/\d=u.2.2.1.getD 1 0/\e=u.2.2.2.getD 0 0/\f=u.2.2.2.getD 1 0):=
 ⟨_,_,_,_,_,_,_,hid rfl,hid ⟨rfl,rfl,rfl,rfl,rfl,rfl,rfl⟩⟩
def Ykq(m:Nat)(u:PC):List UInt8:=Z2 u.1++(aw m).flatMap (Uc u.2.1 u.2.2.1 u.2.2.2)
theorem Yer(h:Yv m u)(hm:m<=2):(Ykq m u).length<=70:=by
 obtain⟨h1,h2,h3⟩:=Uh h;unfold Ykq;rw[ag]
 have e1:=V5 (x:=u.1) (by omega) (by omega)
 have e2:=My (m:=m) (n:=u.1) (S:=u.2.1) (M:=u.2.2.1) (X:=u.2.2.2) h m (ai _)
 omega
theorem Yar{n a b c d e f:Int}(hu:Yv m u)(hm:m<=2)(hU:Hid (n=u.1/\a=u.2.1.getD 0 0/\b=u.2.1.getD 1 0/\c=u.2.2.1.getD 0 0/\d=u.2.2.1.getD 1 0/\e=u.2.2.2.getD 0 0/\f=u.2.2.2.getD 1 0))
  (hO:Zc w base 5 v l) (hb:base<=w.heap.size) (hl:l.length<=100000000):
  Calls aa 122 #[v,.agg #[.int .i64 n,.int .i64 a,.int .i64 b,.int .i64 c,.int .i64 d,.int .i64 e,.int .i64 f],.int .i64 m] w λE w'=>∃v',E=.returned v'∧Zc w' base 5 v' (l++Ykq m u)/\Zl w v w' v':=by
 obtain⟨b1,b2,b3⟩:=Uh hu
 have hB3:=hid b3
 have hxl:=hid (Yer hu hm)
 have hn1: -9223372036854775808<=n:=by have:=hU.out.1;omega
 have hn2:n<=9223372036854775807:=by have:=hU.out.1;omega
 have hBl:=Block.new w 200 #[.int .i64 n,.int .i64 a,.int .i64 b,.int .i64 c,.int .i64 d,.int .i64 e,.int .i64 f]
 have hO1:=hO.alloc (.cells #[.int .i64 n,.int .i64 a,.int .i64 b,.int .i64 c,.int .i64 d,.int .i64 e,.int .i64 f] 200)
 have hB1:=(Zl.refl w v).alloc (.cells #[.int .i64 n,.int .i64 a,.int .i64 b,.int .i64 c,.int .i64 d,.int .i64 e,.int .i64 f] 200)
 have hkt:200≠5:=by decide
 have hit:3≠5:=by decide
 clear hO b1 b2 b3;go_enter Tryz.func122,Tryz.ntmps122;go_upto_region 1 with fail
 generalize w.alloc (.cells #[.int .i64 n,.int .i64 a,.int .i64 b,.int .i64 c,.int .i64 d,.int .i64 e,.int .i64 f] 200)=w1 at hBl hO1 hB1⊢;obtain⟨g,hg⟩: ∃g,w.heap.size=g:=⟨_,rfl⟩;rw[hg]at hBl hb⊢;clear hg
 have c0:w1.cell? ⟨g,0,none⟩=some (.int .i64 n):=hBl.cell 0
 have hs1:base<=w1.heap.size:=Nat.le_of_lt (Nat.lt_of_le_of_lt hb hBl.lt)
 go_wp2_with fail;refine(Uo v l n hn1 hn2 w1 base hO1 hs1 (by omega)).mono ?_
 rintro E w2 ⟨v2,rfl,hO2,hG2⟩
 have hBl2:=hBl.grown hG2.1 (hO1.Wt hBl hkt)
 have hB2:=hB1.trans hG2
 have hs2:base<=w2.heap.size:=ak hs1 hG2.1.size
 have HL0:Hid (l++enc (zig n)=l++(Z2 u.1++(aw 0).flatMap (Uc u.2.1 u.2.2.1 u.2.2.2))):=hid (by rw[hU.out.1];simp[Z2])
 rw[HL0.out]at hO2;clear hO1 hB1 hG2 hBl c0 hs1;go_wp2_with fail;go_loopw [0,15] (λv' i wr=>∃k:Nat,k<=m/\i=.int .i64 k/\Zc wr base 5 v' (l++(Z2 u.1++(aw k).flatMap (Uc u.2.1 u.2.2.1 u.2.2.2)))/\Block wr g 200 #[.int .i64 n,.int .i64 a,.int .i64 b,.int .i64 c,.int .i64 d,.int .i64 e,.int .i64 f]/\Zl w v wr v'∧base<=wr.heap.size) (λ_ i _=>m-(intOf i).toNat)
 case atStart=>exact⟨0,dh _,rfl,hO2,hBl2,hB2,hs2⟩
 case round=>
  obtain⟨k,hk,rfl,hO,hBk,hB,hs⟩:=hrel
  by_cases hlt:k<m
  ·have i0:(0:Int)<=(k:Int):=by omega
   have i1:(k:Int)<(m:Int):=by omega
   have i2:(k:Int)<2:=by omega
   obtain⟨s,t,x,hst⟩: ∃s t x,Hid (u.2.1.getD k 0=s/\u.2.2.1.getD k 0=t/\u.2.2.2.getD k 0=x):=⟨_,_,_,hid ⟨rfl,rfl,rfl⟩⟩
   have e1:wr.cell? ⟨g,1+k,none⟩=some (.int .i64 s):=by
    rw[hBk.cell,<-hst.out.1]
    have:k=0∨k=1:=by omega
    rcases this with rfl|rfl
    ·rw[<-hU.out.2.1];rfl
    ·rw[<-hU.out.2.2.1];rfl
   have e2:wr.cell? ⟨g,3+k,none⟩=some (.int .i64 t):=by
    rw[hBk.cell,<-hst.out.2.1]
    have:k=0∨k=1:=by omega
    rcases this with rfl|rfl
    ·rw[<-hU.out.2.2.2.1];rfl
    ·rw[<-hU.out.2.2.2.2.1];rfl
   have e3:wr.cell? ⟨g,5+k,none⟩=some (.int .i64 x):=by
    rw[hBk.cell,<-hst.out.2.2]
    have:k=0∨k=1:=by omega
    rcases this with rfl|rfl
    ·rw[<-hU.out.2.2.2.2.2.1];rfl
    ·rw[<-hU.out.2.2.2.2.2.2];rfl
   go_wp2_with fail
   have hq:=hB3.out k hlt
   rw[hst.out.1,hst.out.2.1,hst.out.2.2]at hq
   have hq:(-9223372036854775808<=s/\s<=9223372036854775807)/\(-9223372036854775808<=t/\t<=9223372036854775807)/\(-9223372036854775808<=x/\x<=9223372036854775807):=by
    unfold inS inV at hq;omega
   have hX5:=(Block.new wr 3 #[.int .i64 s,.int .i64 t,.int .i64 x]).drewN 1
   have hO5:=(hO.alloc (.cells #[.int .i64 s,.int .i64 t,.int .i64 x] 3)).drewN 1
   have hK5:=(hBk.alloc (.cells #[.int .i64 s,.int .i64 t,.int .i64 x] 3)).drewN 1
   have hB5:=(hB.alloc (.cells #[.int .i64 s,.int .i64 t,.int .i64 x] 3)).drewN 1
   have hs5:base<=(wr.alloc (.cells #[.int .i64 s,.int .i64 t,.int .i64 x] 3)).drew.heap.size:=ak hs (by show _<=(wr.alloc _).heap.size;rw[an];omega)
   have HLe:Hid ((Z2 u.1++(aw (k+1)).flatMap (Uc u.2.1 u.2.2.1 u.2.2.2)).length<=70):=hid (by
    have h1:=Yer hu hm
    have h2:(Ykq (k+1) u).length<=(Ykq m u).length:=by
     unfold Ykq;obtain⟨K,hK⟩: ∃K,k+1=K:=⟨_,rfl⟩;rw[hK];obtain⟨r,rfl⟩: ∃r,m=K+r:=⟨m-K,by omega⟩
     rw[List.range_add,ao];simp only[ag];omega
    exact ak h2 h1)
   have HSt:Hid ((aw (k+1)).flatMap (Uc u.2.1 u.2.2.1 u.2.2.2)=(aw k).flatMap (Uc u.2.1 u.2.2.1 u.2.2.2)++[s,t,x].flatMap Z2):=hid (by
    rw[Lw];unfold Uc;rw[hst.out.1,hst.out.2.1,hst.out.2.2];simp)
   obtain⟨Pk,hPk⟩: ∃Pk,Hid (l++(Z2 u.1++(aw k).flatMap (Uc u.2.1 u.2.2.1 u.2.2.2))=Pk):=⟨_,hid rfl⟩
   have HPl:Hid (∀j,j<=3->(Pk++([s,t,x].take j).flatMap Z2).length<=100000100):=hid λj hj=>by
    have h1:=HLe.out
    rw[HSt.out]at h1;rw[<-hPk.out]
    have h2:(([s,t,x].take j).flatMap Z2).length<=([s,t,x].flatMap Z2).length:=by
     rw[<-dg j [s,t,x],ao];simp only[dg,ag];omega
    simp only[ag]at h1⊢;omega
   rw[hPk.out]at hO5;clear hO hBk hB;go_region
   all_goals
    have hX5:Block (wr.alloc (.cells #[.int .i64 s,.int .i64 t,.int .i64 x] 3)).drew wr.heap.size 3 #[.int .i64 s,.int .i64 t,.int .i64 x]:=hX5
    have hO5:Zc (wr.alloc (.cells #[.int .i64 s,.int .i64 t,.int .i64 x] 3)).drew base 5 u0 (Pk):=hO5
    have hK5:Block (wr.alloc (.cells #[.int .i64 s,.int .i64 t,.int .i64 x] 3)).drew g 200 #[.int .i64 n,.int .i64 a,.int .i64 b,.int .i64 c,.int .i64 d,.int .i64 e,.int .i64 f]:=hK5
    have hB5:Zl w v (wr.alloc (.cells #[.int .i64 s,.int .i64 t,.int .i64 x] 3)).drew u0:=hB5
    generalize (wr.alloc (.cells #[.int .i64 s,.int .i64 t,.int .i64 x] 3)).drew=w5 at hX5 hO5 hK5 hB5 hs5⊢;obtain⟨gl,hgl⟩: ∃gl,wr.heap.size=gl:=⟨_,rfl⟩;rw[hgl]at hX5⊢;clear hgl e1 e2 e3;go_wp2_with fail;go_loopw [0,32] (λv' i wi=>∃j:Nat,j<=3/\i=.int .i64 j/\Zc wi base 5 v' (Pk++([s,t,x].take j).flatMap Z2)/\Block wi gl 3 #[.int .i64 s,.int .i64 t,.int .i64 x]/\Block wi g 200 #[.int .i64 n,.int .i64 a,.int .i64 b,.int .i64 c,.int .i64 d,.int .i64 e,.int .i64 f]/\Zl w v wi v'∧base<=wi.heap.size) (λ_ i _=>3-(intOf i).toNat)
    case atStart=>exact⟨0,by decide,rfl,by simpa using hO5,hX5,hK5,hB5,hs5⟩
    case round=>
     obtain⟨j,hj,rfl,hOi,hXi,hKi,hBi,hsi⟩:=hrel
     by_cases hj3:j<3
     ·have j0:(0:Int)<=(j:Int):=by omega
      have j1:(j:Int)<3:=by omega
      obtain⟨q,hqj⟩: ∃q,Hid ([s,t,x][j]?=some q):=⟨_,hid (af (by simpa using hj3))⟩
      have eq:wr.cell? ⟨gl,j,none⟩=some (.int .i64 q):=by
       rw[hXi.cell]
       have h1:=hqj.out
       have:j=0∨j=1∨j=2:=by omega
       rcases this with rfl|rfl|rfl
       ·simp at h1;rw[<-h1];rfl
       ·simp at h1;rw[<-h1];rfl
       ·simp at h1;rw[<-h1];rfl
      have hqb: -9223372036854775808<=q/\q<=9223372036854775807:=by
       have h1:=bo hqj.out
       simp at h1
       rcases h1 with rfl|rfl|rfl
       ·exact hq.1
       ·exact hq.2.1
       ·exact hq.2.2
      have HN:Hid (([s,t,x].take (j+1)).flatMap Z2=([s,t,x].take j).flatMap Z2++enc (zig q)):=hid (by
       rw[<-Om hqj.out,ao];simp[Z2])
      have HPI:=hid (Uo u0 _ q hqb.1 hqb.2 wr base hOi hsi (by have:=HPl.out j hj;omega))
      have HZ:=hid (ae hOi (ae hXi (ae hKi hBi)))
      clear hOi hXi hKi hBi;go_wp2_with fail;refine HPI.out.mono ?_;rintro E w6 ⟨v6,rfl,hO6,hG6⟩;obtain⟨hOi,hXi,hKi,hBi⟩:=HZ.out
      have hF:=hid (show Zc w6 base 5 v6 (Pk++([s,t,x].take (j+1)).flatMap Z2)/\Block w6 gl 3 #[.int .i64 s,.int .i64 t,.int .i64 x]/\Block w6 g 200 #[.int .i64 n,.int .i64 a,.int .i64 b,.int .i64 c,.int .i64 d,.int .i64 e,.int .i64 f]/\Zl w v w6 v6/\base<=w6.heap.size from
       ⟨by rw[HN.out,<-bg];exact hO6,hXi.grown hG6.1 (hOi.Wt hXi hit),hKi.grown hG6.1 (hOi.Wt hKi hkt),hBi.trans hG6,ak hsi hG6.1.size⟩)
      clear hOi hXi hKi hBi hO6 hG6 HZ HPI;go_wp2_with fail;go_roundw
      case rel=>exact⟨j+1,by omega,by go_num,hF.out⟩
      case measure=>simp[intOf];omega
     ·obtain rfl:j=3:=by omega
      have hF:=hid (show Zc wr base 5 u0 (l++(Z2 u.1++(aw (k+1)).flatMap (Uc u.2.1 u.2.2.1 u.2.2.2)))/\Block wr g 200 #[.int .i64 n,.int .i64 a,.int .i64 b,.int .i64 c,.int .i64 d,.int .i64 e,.int .i64 f]/\Zl w v wr u0/\base<=wr.heap.size from
       ⟨by
        have h1:=hOi
        rw[<-hPk.out]at h1;rw[HSt.out];simpa using h1,hKi,hBi,hsi⟩)
      clear hOi hXi hKi hBi;go_wp2_with fail;go_roundw
      case rel=>exact⟨k+1,by omega,by go_num,hF.out⟩
      case measure=>simp[intOf];omega
  ·obtain rfl:k=m:=by omega
   have hF:=hid (ae hO hB)
   clear hO hB hBk;go_wp2_with fail;go_ret;exact⟨u0,rfl,hF.out.1,hF.out.2⟩
end
section
open Go.RowKit Go.Maps
theorem Ynh{i:Nat}(h:C[i]?=some (k,u)):(C.take (i+1)).flatMap (Vr m)=(C.take i).flatMap (Vr m)++(k.flatMap Z2++Ykq m u):=by
 rw[<-Om h,ao]
 congr 1
 obtain⟨n,S,M,X⟩:=u;simp only[cj,List.flatMap_nil,List.append_nil];rw[Gp];rfl
def Jr(v:Value)(a b:Nat):Prop:=∀q,v.ownBlock=some q->q<a∨b<=q
theorem Jr.Ly(h:Jr v a b)(hG:Zl w v w' v')(hb:b<=w.heap.size):Jr v' a b:=λq hq=>by
 rcases hG.2 q hq with h1|h1
 ·exact h q h1
 ·exact .inr (ak hb h1)
theorem Yha(h:Row elK 3 w (λx=>a<=x/\x<b) A n c J)(hN:Jr v a b)(hG:Zl w v w' v'):Row elK 3 w' (λx=>a<=x/\x<b) A n c J:=
 h.mv Aw (Mv.grown hG.1 λx hx e=>by rcases hN x e with h1|h1 <;> omega)
end
section
open Go.RowKit Go.Maps
theorem Yes(h:Cb w g b W m C){A0:Option Addr}{n0 q0:Nat}{P0:List UInt8}(hP0:Xo w w.heap.size A0 n0 q0 P0)(hn0:n0<=1000000):
  Calls aa 63 #[.pointer (some ⟨g,0,none⟩),.slice A0 n0 q0] w λe w'=>∃v,e=.returned v/\Zc w' w.heap.size 5 v (P0++Yot m C)/\Below w.heap.size w w':=by
 have H0:=hid h
 have hlen:=h.len
 have hw3:=h.w3
 have hw1:=h.w1
 have hm2:=h.m2
 obtain⟨J,hJ⟩: ∃J,Hid (C.map (·.1)=J):=⟨_,hid rfl⟩
 obtain⟨n,hn⟩: ∃n,Hid (C.length=n):=⟨_,hid rfl⟩
 have hJn:Hid (J.length=n):=hid (by rw[<-hJ.out,ar,hn.out])
 rw[hn.out]at hlen
 have hkt:178≠5:=by decide
 have HP0:=hid (ae hP0.len hn0)
 have HCl:=hid (Ycz A0 n0 q0 P0 w hP0 (by omega))
 clear h hP0 hn0;go_enter Tryz.func63,Tryz.ntmps63;go_wp2_with fail;refine HCl.out.mono ?_;rintro e w1 ⟨⟨v1,rfl,hO1⟩,hb1⟩
 have hL1:=hid (Yap (H0.out.Yc hb1))
 have hz1:=hb1.size
 clear hJ;go_wp2_with fail;refine hL1.out.mono ?_;rintro e w1' ⟨rfl,rfl⟩;rw[hn.out];go_wp2_with fail;refine(Uo v1 P0 (n:Int) (by omega) (by omega) w1 w.heap.size hO1 hz1 (by have:=HP0.out;omega)).mono ?_
 rintro e w2 ⟨v2,rfl,hO2,hG2⟩
 have hb2:=hb1.trans (hG2.Yw hz1 (λk hk=>(hO1.lt k hk).1))
 obtain⟨I0,hI0⟩: ∃I0,Hid (P0++Z2 (n:Int)=I0):=⟨_,hid rfl⟩
 have hE2:Hid (P0++enc (zig (n:Int))=I0):=hid hI0.out
 rw[hE2.out]at hO2
 have hS:=hid (C9 (H0.out.Yc hb2))
 obtain⟨J,hJ⟩: ∃J,Hid (C.map (·.1)=J):=⟨_,hid rfl⟩
 have hJn:Hid (J.length=n):=hid (by rw[<-hJ.out,ar,hn.out])
 rw[hn.out,hJ.out]at hS
 have hz2:=hb2.size
 have hlt2:=λq hq=>(hO2.lt q hq).2
 clear hO1 hb1 hL1 hG2 hz1;go_wp2_with fail;refine hS.out.mono ?_;rintro e w3 ⟨⟨A,c,rfl,hR⟩,hb3⟩
 have hO3:=hO2.below hb3 (ai _)
 have hB3:=Ya hb2 hb3
 have hs3:=hB3.size
 have hR3:Row elK 3 w3 (λx=>w2.heap.size<=x/\x<w3.heap.size) A n c J:=hR.mv Aw (λx hx hl=>⟨rfl,hx,hl⟩)
 have hN3:Jr v2 w2.heap.size w3.heap.size:=λq hq=>.inl (hlt2 q hq)
 have H3:=hid (ae hO3 (ae hB3 (ae hR3 hN3)))
 clear hO2 hb2 hb3 hR hS hlt2 hO3 hB3 hR3 hN3;go_wp2_with fail;go_loopw [5,18] (λv i wr=>∃k:Nat,k<=n/\i=.int .i64 k/\Zc wr w.heap.size 5 v (I0++(C.take k).flatMap (Vr m))/\Below w.heap.size w wr/\Row elK 3 wr (λx=>w2.heap.size<=x/\x<w3.heap.size) A n c J/\Jr v w2.heap.size w3.heap.size/\w3.heap.size<=wr.heap.size) (λ_ i _=>n-(intOf i).toNat)
 case atStart=>exact⟨0,dh _,rfl,by simpa using H3.out.1,H3.out.2.1,H3.out.2.2.1,H3.out.2.2.2,ai _⟩
 case round=>
  obtain⟨k,hk,rfl,hO,hB,hR,hN,hs⟩:=hrel
  by_cases hlt:k<n
  ·obtain⟨b',o,us,x,rfl,_,hbl,_,hcell,hx,hxe⟩:=hR.at_ hlt
   have hx:us=kc3 x:=hx
   obtain⟨x0,x1,x2,hkc⟩:=En x;rw[hx,hkc.out]at hcell
   have g0:wr.cell? ⟨b',o+k*3,none⟩=some (.int .i64 x0):=hcell 0 _ rfl
   have g1:wr.cell? ⟨b',o+k*3+1,none⟩=some (.int .i64 x1):=hcell 1 _ rfl
   have g2:wr.cell? ⟨b',o+k*3+2,none⟩=some (.int .i64 x2):=hcell 2 _ rfl
   have i0:(0:Int)<=(k:Int):=by omega
   have i1:(k:Int)<(n:Int):=by omega
   have iW0:(0:Int)<=(W:Int):=by omega
   have iW3:(W:Int)<=3:=by omega
   obtain⟨u,hu⟩: ∃u,Hid (C[k]?=some (x,u)):=by
    have h1:=hxe.out
    rw[<-hJ.out,dn]at h1
    rcases hc:C[k]? with _|⟨y,u⟩
    ·rw[hc]at h1;cases h1
    ·rw[hc]at h1
     injection h1 with h1
     simp at h1;exact⟨u,hid (by rw[h1])⟩
   have hum:=bo hu.out
   have hxk:=H0.out.ok.key _ hum
   have hxc:=hid (H0.out.ok.cell _ hum)
   have hxl:x.length=W:=hxk.1
   have HXK:=hid hxk
   have hgu:=hid (Us H0.out.ok.ris hum)
   have hbx:=Yb wr (.cells #[.int .i64 x0,.int .i64 x1,.int .i64 x2] 178)
   have hBl:=Block.new wr 178 #[.int .i64 x0,.int .i64 x1,.int .i64 x2]
   have hO1:=hO.alloc (.cells #[.int .i64 x0,.int .i64 x1,.int .i64 x2] 178)
   have hB1:=Ya hB hbx
   have hR1:=hR.mv Aw (Mv.alloc wr (.cells #[.int .i64 x0,.int .i64 x1,.int .i64 x2] 178) _)
   have hs1:w3.heap.size<=(wr.alloc (.cells #[.int .i64 x0,.int .i64 x1,.int .i64 x2] 178)).heap.size:=by rw[an];omega
   have hHI:=hid (fun(y:World) (hy:Block y wr.heap.size 178 #[.int .i64 x0,.int .i64 x1,.int .i64 x2])=>Y2.part hy 0 W 3 x hxl hw3 (by decide) (Yg2 hxl hw3 hkc))
   have c0:=(H0.out.Yc hB1).c0
   have hsz9:wr.heap.size<(wr.alloc (.cells #[.int .i64 x0,.int .i64 x1,.int .i64 x2] 178)).heap.size:=by rw[an];omega
   have HP:Hid ((I0++(C.take k).flatMap (Vr m)).length<=8000000):=hid (by
    have h1:=V5 (x:=(n:Int)) (by omega) (by omega)
    have h2:=F7 (i:=k) H0.out.ok hw3 hm2
    have h3:=hn.out
    have h4:=HP0.out
    rw[<-hI0.out,ag,ag];omega)
   clear hcell hx hO hB hR hxk hum hxe hbx;go_wp2_with fail;clear g0 g1 g2;generalize wr.alloc (.cells #[.int .i64 x0,.int .i64 x1,.int .i64 x2] 178)=W3 at hO1 hB1 hR1 hs1 hBl c0 hsz9⊢;obtain⟨kb,hkb⟩: ∃kb,wr.heap.size=kb:=⟨_,rfl⟩;rw[hkb]at hBl hsz9 hs hHI⊢;clear hkb
   have hz3:w.heap.size<=W3.heap.size:=hB1.size
   obtain⟨Pk,hPk⟩: ∃Pk,Hid (I0++(C.take k).flatMap (Vr m)=Pk):=⟨_,hid rfl⟩;rw[hPk.out]at hO1 HP
   have HPl:Hid (∀j,(Pk++(x.take j).flatMap Z2).length<=8000100):=hid λj=>by
    have h1:=Ji HXK.out
    have h2:((x.take j).flatMap Z2).length<=(x.flatMap Z2).length:=by
     have h3:(x.flatMap Z2).length=((x.take j).flatMap Z2++(x.drop j).flatMap Z2).length:=by rw[<-ao,dg]
     rw[h3,ag];omega
    have h3:=HP.out
    rw[ag];omega
   have H5:=hid (ae hO1 (ae hB1 (ae hR1 hBl)))
   clear hO1 hB1 hR1 hBl c0;go_loopw [5,28] (λv' i wi=>∃j:Nat,j<=W/\i=.int .i64 j/\Zc wi w.heap.size 5 v' (Pk++(x.take j).flatMap Z2)/\Below w.heap.size w wi/\Row elK 3 wi (λx=>w2.heap.size<=x/\x<w3.heap.size) (some ⟨b',o,none⟩) n c J/\Block wi kb 178 #[.int .i64 x0,.int .i64 x1,.int .i64 x2]/\Jr v' w2.heap.size w3.heap.size/\W3.heap.size<=wi.heap.size) (λ_ i _=>W-(intOf i).toNat)
   case atStart=>exact⟨0,dh _,rfl,by simpa using H5.out.1,H5.out.2.1,H5.out.2.2.1,H5.out.2.2.2,hN,ai _⟩
   case round=>
    obtain⟨j,hj,rfl,hOi,hBi,hRi,hKi,hNi,hsi⟩:=hrel
    by_cases hjW:j<W
    ·have j0:(0:Int)<=(j:Int):=by omega
     have j1:(j:Int)<(W:Int):=by omega
     obtain⟨q,hq⟩: ∃q,Hid (x[j]?=some q):=⟨_,hid (af (by omega))⟩
     have eq:wr.cell? ⟨kb,j,none⟩=some (.int .i64 q):=by
      obtain⟨b9,o9,y9,e9,_,h9,h10⟩:=(hHI.out wr hKi).at_ (k:=j) hjW;injection e9 with e9
      injection e9 with e9a e9b
      subst e9a e9b;rw[br]at h9;rw[h9,h10.out,au,hq.out];rfl
     have hqb:=HXK.out.2 q (bo hq.out)
     have HN:Hid ((x.take (j+1)).flatMap Z2=(x.take j).flatMap Z2++enc (zig q)):=hid (by
      rw[<-Om hq.out,ao];simp[Z2])
     have hz9:=hBi.size
     have HPI:=hid (Uo u5 _ q (by omega) (by omega) wr w.heap.size hOi hz9 (by have:=HPl.out j;omega))
     have HZ:=hid (ae hOi (ae hBi (ae hRi (ae hKi hNi))))
     clear hOi hBi hRi hKi hNi;go_wp2_with fail;refine HPI.out.mono ?_;rintro E w6 ⟨v6,rfl,hO6,hG6⟩;obtain⟨hOi,hBi,hRi,hKi,hNi⟩:=HZ.out
     have hF:=hid (show Zc w6 w.heap.size 5 v6 (Pk++(x.take (j+1)).flatMap Z2)/\Below w.heap.size w w6/\Row elK 3 w6 (λx=>w2.heap.size<=x/\x<w3.heap.size) (some ⟨b',o,none⟩) n c J/\Block w6 kb 178 #[.int .i64 x0,.int .i64 x1,.int .i64 x2]/\Jr v6 w2.heap.size w3.heap.size/\W3.heap.size<=w6.heap.size from
      ⟨by rw[HN.out,<-bg];exact hO6,hBi.trans (hG6.Yw hz9 (λk hk=>(hOi.lt k hk).1)),Yha hRi hNi hG6,hKi.grown hG6.1 (hOi.Wt hKi hkt),hNi.Ly hG6 (ak hs1 hsi),ak hsi hG6.1.size⟩)
     clear hOi hBi hRi hKi hNi hO6 hG6 HZ HPI eq;go_wp2_with fail;go_roundw
     case rel=>exact⟨j+1,by omega,by go_num,hF.out⟩
     case measure=>simp[intOf];omega
    ·obtain rfl:W=j:=by omega
     have hC:=H0.out.Yc hBi
     have c1:=hC.c1
     have c2:=hC.c2
     have k0:wr.cell? ⟨kb,0,none⟩=some (.int .i64 x0):=hKi.cell 0
     have k1:wr.cell? ⟨kb,1,none⟩=some (.int .i64 x1):=hKi.cell 1
     have k2:wr.cell? ⟨kb,2,none⟩=some (.int .i64 x2):=hKi.cell 2
     obtain⟨l0,l1,l2,l3,l4,l5,l6,hV,hU⟩:=Yau u
     have hkv:Hid (kv3 x=.agg #[.int .i64 x0,.int .i64 x1,.int .i64 x2]):=hid (by rw[Yvg,hkc.out])
     have hLk:=((hC.drewN 1).map.look hw3 (t:=179) aj (G0 _) HXK.out).2
     rw[hgu.out,hkv.out]at hLk;simp only[ei,dm,hV.out]at hLk
     have hLk:(da 179 (.map (some b)) (.agg #[.int .i64 x0,.int .i64 x1,.int .i64 x2]) false).run aa wr.drew=.ok (.agg #[.int .i64 l0,.int .i64 l1,.int .i64 l2,.int .i64 l3,.int .i64 l4,.int .i64 l5,.int .i64 l6]) wr.drew:=hLk
     have hz9:w.heap.size<=wr.drew.heap.size:=hBi.size
     have hOd:Zc wr.drew w.heap.size 5 u5 (Pk++(x.take W).flatMap Z2):=hOi.drewN 1
     have hPC:=hid (Yar hxc.out hm2 hU hOd hz9 (by have:=HPl.out W;omega))
     have KS:Hid (∀(y:World) (v9:Value),Zl wr.drew u5 y v9->y.cell? ⟨g,2,none⟩=some (.map (some b))/\y.cell? ⟨g,1,none⟩=some (.int .i64 m)/\y.cell? ⟨kb,0,none⟩=some (.int .i64 x0)/\y.cell? ⟨kb,1,none⟩=some (.int .i64 x1)/\y.cell? ⟨kb,2,none⟩=some (.int .i64 x2)):=hid λy v9 hG=>by
      have hG':Zl wr u5 y v9:=⟨⟨hG.1.os,hG.1.tape,hG.1.output,hG.1.size,hG.1.block⟩,hG.2⟩
      have h1:=H0.out.Yc (hBi.trans (hG'.Yw hz9 (λk hk=>(hOi.lt k hk).1)))
      have h2:=hKi.grown hG'.1 (hOi.Wt hKi hkt)
      exact⟨h1.c2,h1.c1,h2.cell 0,h2.cell 1,h2.cell 2⟩
     have HZ:=hid (ae hOi (ae hBi (ae hRi hNi)))
     clear hOi hBi hRi hKi hNi hOd hC;go_wp2_with fail;go_region_held3 (λw'=>w'.cell? ⟨g,2,none⟩=some (.map (some b))/\w'.cell? ⟨g,1,none⟩=some (.int .i64 m)/\w'.cell? ⟨kb,0,none⟩=some (.int .i64 x0)/\w'.cell? ⟨kb,1,none⟩=some (.int .i64 x1)/\w'.cell? ⟨kb,2,none⟩=some (.int .i64 x2))
      (first
       |go_keep
       |exact KS.out _ _ hG9)
      (first
       |(go_at_call 122;refine hPC.out.mono ?_;rintro e w9 ⟨v9,rfl,hO9,hG9⟩))
     obtain⟨hOi,hBi,hRi,hNi⟩:=HZ.out
     have hG9':Zl wr u5 w9 v9:=⟨⟨hG9.1.os,hG9.1.tape,hG9.1.output,hG9.1.size,hG9.1.block⟩,hG9.2⟩
     have hF:=hid (show Zc w9 w.heap.size 5 v9 (I0++(C.take (k+1)).flatMap (Vr m))/\Below w.heap.size w w9/\Row elK 3 w9 (λx=>w2.heap.size<=x/\x<w3.heap.size) (some ⟨b',o,none⟩) n c J/\Jr v9 w2.heap.size w3.heap.size/\w3.heap.size<=w9.heap.size from
      ⟨by
       rw[Ynh hu.out,<-bg,hPk.out,<-bg]
       have h1:=hO9
       rw[dc (by omega)]at h1
       exact h1,hBi.trans (hG9'.Yw hz9 (λk hk=>(hOi.lt k hk).1)),Yha hRi hNi hG9',hNi.Ly hG9' (ak hs1 hsi),ak hs1 (ak hsi hG9'.1.size)⟩)
     clear hOi hBi hRi hNi hO9 hG9 hG9' HZ hPC c1 c2 k0 k1 k2 hLk;go_wp2_with fail;go_roundw
     case rel=>exact⟨k+1,by omega,by go_num,hF.out⟩
     case measure=>simp[intOf];omega
  ·obtain rfl:k=n:=by omega
   have hF:=hid (show Zc wr w.heap.size 5 u5 (P0++Yot m C)/\Below w.heap.size w wr from⟨by
    unfold Yot;rw[hn.out,<-bg,hI0.out]
    have h1:=hO
    rw[dc (by have:=hn.out;omega)]at h1
    exact h1,hB⟩)
   clear hO hB hR hN;go_wp2_with fail;go_ret;exact⟨u5,rfl,hF.out.1,hF.out.2⟩
end
section
open Go.RowKit Go.Maps
/-! ### one element more,inside a region that draws -/
theorem Hr{α:Type}{E:ElT α}(hE:E.Ok){T TS:TypeId}{sz bytes:Nat}{z:Value}{w:World}{ops:Array Oper}{o:Oper}{a:Act}{Q:Exit->Act->World->Prop}{K:Act->World->Prop}{Fl:Prop}(hgd:o.guard=none)(s x:Operand)
  (ho:o.op=.call {callee:=.builtin .append,args:=#[s,x],argTypes:=#[TS,TS]}) (hinfo:(aa.info? T).map (λi=>(i.zero,i.size,i.bytes))=some (some z,sz,bytes)) (hTS:aa.underlying TS=some (.slice T)) (hzs:z.cells.size=sz) (hsz:0<sz/\sz<=100/\bytes<=1000)
  (base:Nat) (S:Nat->Prop) (v:Value) (L:List α) (hs:a.eval s=v) (hown:Yx E T sz w base S v L) (g:Nat) (hx:a.eval x=.slice (some ⟨g,0,none⟩) 1 1) (us:List Value) (hus:us.length=sz) (y:α)
  (hy:∀j u,us[j]?=some u->w.cell? ((⟨g,0,none⟩:Addr).add j)=some u) (hone:∀u∈us,u.oneCell'=true) (hE':E w (λk=>S k/\v.ownBlock≠some k) us y) (hlen:L.length<=1000000) (hbase:base<=w.heap.size)
  (h:∀v' w',Yx E T sz w' base S v' (L++[y])->Zl w v w' v'→K (a.put o.dst v') w'):
  if Region.wanted o (yielded ops a.tmps)=true then Oper.wp aa o a w K Q else Fl:=by
 have hw:Region.wanted o (yielded ops a.tmps)=true:=by simp[Region.wanted,hgd]
 rw[if_pos hw];obtain⟨i,hi,hz0,hz1,hz2⟩:=info_parts hinfo;obtain⟨vs,hr,hxs⟩:=hown;obtain⟨v',w',hrun,h2,h3,_,h5⟩:=run_append_own_at (P:=aa) w base TS o.type T i _ sz bytes hTS hi hz0 hz1 hz2 hzs hsz.1 v L.length vs hr ⟨g,0,none⟩ 1 1 us (by rw[hus];omega) hy hone (by unfold maxLen;omega) (by have:=Nat.mul_le_mul (show L.length+1<=1000001 by omega) hsz.2.2;omega) hbase
 unfold Oper.wp execOp;simp only[ho,resolve,invoke,builtin,Sem.run_bind,Sem.run_pure,Result.andThen_ok,List.map_toArray,List.map_cons,List.map_nil,hs,hx,hrun]
 have hG:Zl w v w' v':=⟨h3,λq hq=>by
  rcases h5 with h5|h5
  ·exact .inl (h5▸hq)
  ·rw[h5]at hq
   injection hq with hq
   exact .inr (Nat.le_of_eq hq)⟩
 exact h v' w' (Yx.snoc hE hr hxs hus hE' h2 hG) hG
/-! ### rows of cells whose lists lie in blocks of ints -/
def Ye1(w:World):Nat->Prop:=λk=>∃cs,w.heap[k]?=some (.cells cs 3 (0,0))
abbrev R5(w:World)(base:Nat)(v:Value)(L:List PC):Prop:=Yx Z7 71 4 w base (Ye1 w) v L
def Kept(w w':World)(P:Nat->Prop):Prop:=w'.os=w.os/\w'.tape=w.tape/\w'.output=w.output/\w.heap.size<=w'.heap.size/\∀k,k<w.heap.size→¬P k->w'.heap[k]?=w.heap[k]?
theorem Kept.W5{r:Option Nat}(h:w.grownBy w' r):Kept w w' (λk=>r=some k):=⟨h.os,h.tape,h.output,h.size,λk hk hn=>h.block k hk (λe=>hn e.symm)⟩
theorem Kept.Y1(h:Below w.heap.size w w')(P:Nat->Prop):Kept w w' P:=⟨h.os,h.tape,h.output,h.size,λk hk _=>h.block k hk⟩
theorem R5.kept{L:List PC}{P:Nat->Prop}(h:R5 w base v L)(hK:Kept w w' P)(hI:∀k,Ye1 w k→¬P k)(hv:∀k,v.ownBlock=some k→¬P k):R5 w' base v L:=by
 obtain⟨vs,h1,h2⟩:=h;refine⟨vs,Ds h1 λk hk=>hK.2.2.2.2 k (h1.lt k hk).2 (hv k hk),λi x hi=>Zf _ _ _ _ _ _ (λb hb hl=>?_) (h2 i x hi)⟩
 have e:=hK.2.2.2.2 b hl (hI b hb.1)
 refine⟨e,?_,hb.2⟩;obtain⟨cs,hc⟩:=hb.1;exact⟨cs,e.trans hc⟩
theorem R5.Ysb{L:List PC}(h:R5 w base v L)(hne:71≠3){k:Nat}(hk:Ye1 w k):v.ownBlock≠some k:=by
 obtain⟨vs,h1,_⟩:=h;intro e;obtain⟨cs,hc⟩:=hk
 rcases h1.2 with⟨rfl,_⟩|⟨g,cap,cur,rfl,_,hg,_⟩
 ·simp[ay]at e
 ·have e2:g=k:=by simpa[ay]using e
  subst e2;rw[hc]at hg;injection hg with hg
  injection hg with _ hg _
  exact hne hg.symm
theorem X7.elB{n:Int}{v1 v2 v3:Value}{Su:List Int}(h:X7 w base v1 v2 v3 Su M X)(S:Nat->Prop)(hS:∀k,Ye1 w k->base<=k->S k):Z7 w S [.int .i64 n,v1,v2,v3] (n,Su,M,X):=by
 have key:∀{v:Value}{l:List Int},Yi w base v l->U3 w S [v] l:=λ{v l} h=>by
  have h2:Yx Yy 3 1 w base (λ_=>False) v l:=h.Bc
  obtain⟨A,c,rfl,hr⟩:=h2.read Yh;refine⟨A,_,c,rfl,hr.mv Yh (Mv.to w λb hb hl=>?_)⟩
  rcases hb with hb|⟨hb1,hb2⟩
  ·exact hb.elim
  ·refine hS b ?_ hb1
   rcases h.2 with⟨e,_⟩|⟨g,cap,cur,e,_,hg,_⟩
   ·rw[e]at hb2;simp[ay]at hb2
   ·rw[e]at hb2
    have e2:g=b:=by simpa[ay]using hb2
    subst e2;exact⟨cur,hg⟩
 exact⟨rfl,key h.s,key h.m,key h.x⟩
/-! ### rows under keys -/
theorem R5.app{z w6:World}{L L':List PC}(h:R5 z base v L)(hne:71≠3)(h6:Yx Z7 71 4 w6 base (Ye1 z) v' L')(hG:Zl z v w6 v'):R5 w6 base v' L':=
 h6.to Zf λk hk _=>by
  obtain⟨cs,hc⟩:=hk
  have hl:=(dq.1 hc).1
  exact⟨cs,(hG.1.block k hl (λe=>h.Ysb hne ⟨cs,hc⟩ e.symm)).trans hc⟩
theorem Ux.iter{K:TypeId}{kv:List Int->Value}{r cnt:Nat}{F:Lit->Option Value}{acc:List (List Int)}(h:Ux K kv W w b r F J acc cnt):∃o:Obj,w.heap[r]?=some o/\o.isCells=false:=by
 obtain⟨D,left,⟨es,clock,since,seen,c0,h1,F1,h2,h3,h4,rest⟩,h5,h6⟩:=h.rng;exact⟨_,h4,rfl⟩
end
end Go.Proofs.YtmepdkdeanbbaaaGreat
