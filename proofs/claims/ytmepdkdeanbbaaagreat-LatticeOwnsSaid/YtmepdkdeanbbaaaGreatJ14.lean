/- Wide2, WireRd, DictE, GrownOf, WireS, BatchM, CubW, CubR2, LatN, LatO, LatP, LatQ, LatR, LatS, LatT -/
import Derived.Test.YtmepdkdeanbbaaaGreatJ9
import Derived.BigQuiet
import Derived.Deep.RegionHeld3
namespace Go.Proofs.YtmepdkdeanbbaaaGreat
set_option maxRecDepth 100000
set_option maxHeartbeats 8000000
open Go.RowKit
open Classical renaming byContradiction→aa
open List renaming mem_map→ae,mem_cons_of_mem→af,mem_filter→ag,filter_congr→ai,getElem?_eq_getElem→aj,mem_append→ak,mem_cons→an,mem_append_left→ao,mem_singleton→aq,getD_eq_getElem?_getD→ar,exists_mem_of_ne_nil→au,mem_append_right→av,filter_filter→aw,map_map→ay,map_append→az,append_nil→bg,map_cons→bj,map_eq_nil_iff→bn,pairwise_map→bo,mem_flatten→bp,length_cons→br,length→bs
open List.cons renaming injEq→ax
open Go.Lib (hid)
variable {e i j m p:Nat}{L:Rws}{C:Cub}{l:List UInt8}{Qs:List (List Pth)}{v:List Int}{b:Zd × PC}{hi:Int}{Q:List Pth}{a w:World}
theorem Ytz(hi lo:Int)(w:World)(h:N4 hi lo)(n x:Int)
  (hs:(-9223372036854775808<=Kp hi lo/\Kp hi lo<=9223372036854775807/\n=Kp hi lo/\x=0)∨(¬(-9223372036854775808<=Kp hi lo/\Kp hi lo<=9223372036854775807)/\n=0/\x=14)):
  Calls Tryz.prog 246 #[.agg #[.int .i64 hi,.int .i64 lo]] w λe w'=>e=.returned (.tuple #[.int .i64 n,.int .i64 x])/\Below w.heap.size w w':=by
 have h':decide (N4 hi lo)=true:=decide_eq_true h
 go_enter Tryz.func246,Tryz.ntmps246;go_wp2_with fail;refine(Cn hi lo _).mono ?_;rintro e w1 ⟨rfl,hb⟩;rw[h']
 have hba:=Qx hb (g:=w.heap.size) rfl
 have hg0:w1.cell? ⟨w.heap.size,0,none⟩=some (.int .i64 hi):=hba.cell 0
 have hg1:w1.cell? ⟨w.heap.size,1,none⟩=some (.int .i64 lo):=hba.cell 1
 have hbe:=Ya (Yb _ _) hb
 clear hb h';obtain⟨m,hor,hm0,hm1,hlo,hhi⟩: ∃m:Int,bits .or .i64 (wrap64 (hi*4294967296)) lo=m∧-9223372036854775808<=m/\m<=9223372036854775807/\Hid (m%4294967296=lo)/\Hid ((-9223372036854775808<=Kp hi lo/\Kp hi lo<=9223372036854775807->m=Kp hi lo)/\(¬(-9223372036854775808<=Kp hi lo/\Kp hi lo<=9223372036854775807)->m/4294967296≠hi)):=by
  unfold N4 at h;refine⟨_,rfl,?_⟩;rw[Ym3 _ _ (by unfold wrap64;omega) (by omega) (by omega),IntKind.wrap_i64]
  unfold Kp wrap64;exact⟨by omega,by omega,hid (by omega),hid ⟨by omega,by omega⟩⟩
 have Hs:=hid hs
 clear h hs
 have hz:w.heap.size<w1.heap.size:=hba.lt
 rcases Hs.out with⟨h1,h2,rfl,rfl⟩|⟨h1,rfl,rfl⟩
 case' inl=>have hq:((m/4294967296:Int)==hi)=true:=by have h3:=hhi.out.1 ⟨h1,h2⟩;have h4:=hlo.out;unfold Kp at h3;simp;omega
 case' inl=>have hnm:=hid (hhi.out.1 ⟨h1,h2⟩)
 case' inr=>have hq:((m/4294967296:Int)==hi)=false:=by have h3:=hhi.out.2 h1;simp;exact h3
 case' inr=>have hnm:True:=trivial
 all_goals
  have hr:((m%4294967296:Int)==lo)=true:=by have h4:=hlo.out;simp;omega
  clear h1 hhi hlo Hs;go_wp2_with fail;go_region_held3 (λw'=>w'.cell? ⟨w.heap.size,0,none⟩=some (.int .i64 hi)/\w'.cell? ⟨w.heap.size,1,none⟩=some (.int .i64 lo))
   (first
    |exact⟨hg0,hg1⟩
    |exact⟨hk0,hk1⟩)
   (first
    |(go_at_call 256;refine(Ypu m _ hm0 hm1).mono ?_;rintro e w3 ⟨rfl,hbc⟩;have hk0:=(hbc.cell (p:=⟨w.heap.size,0,none⟩) hz).trans hg0;have hk1:=(hbc.cell (p:=⟨w.heap.size,1,none⟩) hz).trans hg1))
  have hbe3:Below w.heap.size w w3:=Ya (Below.drew hbe) hbc
  clear hbc hba hg0 hg1 hk0 hk1 hbe;go_wp2_with fail;go_ret2
  first
   |exact⟨rfl,hbe3⟩
   |exact⟨by rw[hnm.out];rfl,hbe3⟩
section
section
variable {T:TypeId}{w w' : World}{g:Nat}{A:Option Addr}{n c:Nat}{l:List UInt8}{p e:Nat}
theorem Ynf(w:World)(g i:Nat)(u:Value):w.grownBy (w.setCell ⟨g,i,none⟩ u) (some g):=
 ⟨rfl,rfl,rfl,by simp[World.setCell],λk _ hk=>by
  simp[World.setCell,Array.getElem?_modify];intro e;exact absurd (congrArg some e.symm) hk⟩
end
def lk(l:List UInt8)(p e:Nat)(lo hi:Int):Int×Nat×Nat:=
 if e≠0 then (0,0,e)else if gE (l.drop p)≠0 then (0,0,gE (l.drop p))else if gN (l.drop p)<lo∨hi<gN (l.drop p)then (0,0,2)else (gN (l.drop p),gK (l.drop p),0)
theorem Ywf{lo:Int}(h:gE (l.drop p)=0)(h': ¬(gN (l.drop p)<lo∨hi<gN (l.drop p))):lk l p 0 lo hi=(gN (l.drop p),gK (l.drop p),0):=by
 unfold lk;rw[if_neg (by simp),if_neg (by simpa using h),if_neg h']
def tx(l:List UInt8)(p e:Nat)(hi:Int):List UInt8×Nat×Nat:=
 let r:=lk l p e 0 hi
 if r.2.2≠0 then ([],p,r.2.2)else if r.1.toNat<=l.length-p-r.2.1 then ((l.drop (p+r.2.1)).take r.1.toNat,p+r.2.1+r.1.toNat,0)else ([],p,3)
theorem Yw2{k:Nat}{m:Int}(h:lk l p e 0 hi=(m,k,0))(hm:m.toNat<=l.length-p-k):tx l p e hi=((l.drop (p+k)).take m.toNat,p+k+m.toNat,0):=by
 unfold tx;rw[h];simp[hm]
end
def rdS(n:Nat)(l:List UInt8)(x:List Pth×Nat×Nat):List Pth×Nat×Nat:=
 let k:=lk l x.2.1 x.2.2 0 x.1.length
 let t:=tx l (x.2.1+k.2.1) k.2.2 12
 if Ysn n x.1 k.1.toNat t.1 then (x.1++[pth x.1 k.1.toNat++[t.1]],t.2.1,t.2.2)else (x.1,t.2.1,if t.2.2=0 then 2 else t.2.2)
def rdN(n:Nat)(l:List UInt8)(x:List Pth×Nat×Nat):Nat->List Pth×Nat×Nat
 |0=>x
 |i+1=>rdS n l (rdN n l x i)
theorem Yvm{n:Nat}{a k1 e1:Nat}{s:Txt}{p2 e2:Nat}(h1:lk l p e 0 Q.length=((a:Int),k1,e1))(h2:tx l (p+k1) e1 12=(s,p2,e2)):
  rdS n l (Q,p,e)=if Ysn n Q a s then (Q++[pth Q a++[s]],p2,e2)else (Q,p2,if e2=0 then 2 else e2):=by
 unfold rdS;simp only[h1,h2,Int.toNat_natCast]
theorem Uj(hb:Below w.heap.size w a)(r:Option Nat):w.grownBy a r:=⟨hb.os,hb.tape,hb.output,hb.size,λk hk _=>hb.block k hk⟩
theorem Fg{c:World}{b:Nat}(hb:Below w.heap.size w a)(hg:a.grownBy c (some b)):w.grownBy c (some b):=Vm (Uj hb _) hg λ_ h=>.inl h
def Z2(x:Int):List UInt8:=enc (zig x)
theorem V5{x:Int}(h: -9223372036854775808<=x)(h':x<=9223372036854775807):(Z2 x).length<=10:=U8 (Tm h h')
theorem Yhr{α:Type}{f:α->List UInt8}{l:List α}(h:∀x∈l,(f x).length<=m):(l.flatMap f).length<=m*l.length:=by
 induction l with
 |nil=>simp
 |cons x r ih=>
  have h1:=h x (by simp)
  have h2:=ih λy hy=>h y (af _ hy)
  rw[List.flatMap_cons,List.length_append,br,Nat.mul_succ];omega
abbrev Fct:=List (List Txt)×List Int
def U2(f:Fct):Prop:=f.1.length<=3/\(∀p∈f.1,Un p)/\f.2.length<=2/\∀x∈f.2,inV x
instance (f:Fct):Decidable (U2 f):=by unfold U2;exact inferInstance
def Ue(D:List Yk)(m:Nat)(f:Fct):Prop:=U2 f/\f.1.length=D.length/\f.2.length=m/\∀i,i<D.length->(f.1.getD i []).length=(D.getD i Wp).2.length
instance (D:List Yk) (m:Nat) (f:Fct):Decidable (Ue D m f):=by unfold Ue;exact inferInstance
def Uw(L:List Fct)(least:Nat)(ok:Fct->Prop)[DecidablePred ok]:Nat:=if L.length<least∨8<L.length then 13 else if ∃f∈L,¬ok f then 12 else 0
def Wf(D:List Yk)(M:List Txt)(V:List (List Int))(L:List Fct):Nat:=if Wk D M V then Uw L 1 (Ue D M.length)else 11
theorem Oa{L:List Fct}{ok:Fct->Prop}[DecidablePred ok](h:L.length<m∨8<L.length):Uw L m ok=13:=if_pos h
theorem Ynu{L:List Fct}{ok:Fct->Prop}[DecidablePred ok](h:¬(L.length<m∨8<L.length))(h': ∃f∈L,¬ok f):Uw L m ok=12:=by unfold Uw;rw[if_neg h,if_pos h']
theorem Jm{L:List Fct}{ok:Fct->Prop}[DecidablePred ok]:Uw L m ok=0↔m<=L.length/\L.length<=8/\∀f∈L,ok f:=by
 unfold Uw
 split
 ·constructor
  ·intro h;cases h
  ·intro h;omega
 ·split
  ·rename_i h
   obtain⟨f,hf,hn⟩:=h;constructor
   ·intro h;cases h
   ·intro h;exact absurd (h.2.2 f hf) hn
  ·rename_i h1 h2
   exact⟨λ_=>⟨by omega,by omega,λf hf=>aa λhn=>h2 ⟨f,hf,hn⟩⟩,λ_=>rfl⟩
theorem Yki(m:Int)(v:List Int):(Vf m [v]).2=0↔(0<=m/\m<=2/\isVal m v):=by
 by_cases h:m<0∨2<m
 ·unfold Vf
  rw[if_pos h];constructor
  ·intro h;cases h
  ·intro h;omega
 ·by_cases hv:isVal m v
  ·rw[J4 h (by intro u hu;rw[aq.1 hu];exact hv) (by simp),if_pos]
   ·simp only[true_iff]
    exact⟨by omega,by omega,hv⟩
   ·intro k hk
    have hx:inV (v.getD k 0):=by
     have hkl:k<v.length:=by have:=hv.1;omega
     have e:v.getD k 0=v[k]:=by rw[ar,aj hkl];rfl
     rw[e];exact hv.2 _ (List.getElem_mem hkl)
    unfold inV at hx;simp only[Wq,bj,List.map_nil,Y4,inS];omega
  ·rw[Tx (.inr (.inr ⟨v,by simp,hv⟩))]
   constructor
   ·intro h;cases h
   ·intro h;exact absurd h.2.2 hv
def Yuo(t:Int×Int×Int):List UInt8:=Z2 t.1++(Z2 t.2.1++Z2 t.2.2)
def ofC(m:Nat)(x:PC):Int×List (Int×Int×Int):=(x.1,(List.range m).map λk=>(x.2.1.getD k 0,x.2.2.1.getD k 0,x.2.2.2.getD k 0))
def Yq3(z:List Int×Int×List (Int×Int×Int)):List UInt8:=z.1.flatMap Z2++(Z2 z.2.1++z.2.2.flatMap Yuo)
def Vr(m:Nat)(d:List Int×PC):List UInt8:=Yq3 (d.1,ofC m d.2)
theorem Uh{x:PC}(h:Yv m x):1<=x.1/\x.1<=1099511627776/\∀k,k<m->inS (x.2.1.getD k 0)/\inV (x.2.2.1.getD k 0)/\inV (x.2.2.2.getD k 0):=by
 obtain⟨⟨_,_,_,h4⟩,h5,h6⟩:=h
 rcases h4 with h4|h4
 ·exact absurd (by rw[h4];rfl) h5
 ·obtain⟨a1,a2,a3⟩:=h4
  exact⟨a1,a2,λk hk=>by
   obtain⟨_,b1,b2,b3,_⟩:=a3 k (by rw[h6];exact hk)
   exact⟨b3,b1,b2⟩⟩
def Yot(m:Nat)(C:Cub):List UInt8:=Z2 (C.length:Int)++C.flatMap (Vr m)
def Yxz(C:Cub)(a:Int×Int×Int):Prop:=(C=[]/\a=(-1,0,0))∨(C≠[]/\a=Sc (C.getLastD ([],Yl)).1)
section
theorem Yh3{m:Nat}(hm:m<=2){l:List (List Int)}(hn:l.length<=1000)(_h0:l≠[])(hv:∀v∈l,isVal m v):Vf m l=if Zo (Yp m (l.map W6))then (Yp m (l.map W6),0)else (Yl,14):=by
 have hL:∀c∈Y0 m::l.map W6,Zo c/\c.2.1.length=m:=by
  intro c hc
  rcases an.1 hc with rfl|hc
  ·exact⟨⟨by simpa[Y0]using hm,by simp[Y0],by simp[Y0],.inl (by simp[Y0])⟩,by simp[Y0]⟩
  ·obtain⟨v,hv',rfl⟩:=ae.1 hc
   exact(Jk hm v).2 (hv v hv')
 have h1:=Ycy (k:=1) hm (by simp) hL (by intro c hc;simp at hc;subst hc;rfl)
 rw[Ybl hm l hn]at h1;simpa using h1
theorem Yby{m:Nat}(hm:m<=2){v:List Int}(h:isVal m v):Yv m (W6 v):=by
 obtain⟨h1,h2⟩:=(Jk hm v).2 h;exact⟨h1,by simp[W6],h2⟩
section
variable {α K:Type} [DecidableEq K]
def Yf(κ:α->K)(c:α->PC)(F:List α)(k:K):List PC:=(F.filter λf=>decide (κ f=k)).map c
theorem Tu(κ:α->K)(c:α->PC)(F G:List α)(k:K):Yf κ c (F++G) k=Yf κ c F k++Yf κ c G k:=by unfold Yf;rw[List.filter_append,az]
theorem Wm{κ:α->K}{c:α->PC}{F:List α}{k:K}:Yf κ c F k≠[]↔∃f∈F,κ f=k:=by
 unfold Yf;constructor
 ·intro h
  obtain⟨c,hc⟩:=au _ h;obtain⟨f,hf,_⟩:=ae.1 hc
  have h2:=ag.1 hf
  exact⟨f,h2.1,of_decide_eq_true h2.2⟩
 ·rintro⟨f,hf,e⟩ h
  have h2:f∈F.filter λf=>decide (κ f=k):=ag.2 ⟨hf,decide_eq_true e⟩
  rw[bn.1 h]at h2;simp at h2
theorem Ut{m:Nat}{κ:α->K}{c:α->PC}{F:List α}(hF:∀f∈F,Yv m (c f))(k:K):∀x∈Yf κ c F k,Full m x:=by
 intro x hx;obtain⟨f,hf,rfl⟩:=ae.1 hx;exact(hF f (ag.1 hf).1).full
def okF(m:Nat)(κ:α->K)(c:α->PC)(F:List α):Prop:=∀f∈F,Zo (Yp m (Yf κ c F (κ f)))
def V1(κ:α->K):List α->List K->List K
 |[],acc=>acc
 |f::F,acc=>V1 κ F (if κ f∈acc then acc else acc++[κ f])
theorem Yca(κ:α->K):∀(F:List α) (f:α) (acc:List K),V1 κ (F++[f]) acc=if κ f∈V1 κ F acc then V1 κ F acc else V1 κ F acc++[κ f]
 |[],f,acc=>rfl
 |g::F,f,acc=>by
  show V1 κ (F++[f]) _=_
  rw[Yca κ F f];rfl
theorem Si(κ:α->K):∀(F:List α) (acc:List K) (k:K),k∈V1 κ F acc↔k∈acc∨∃f∈F,κ f=k
 |[],acc,k=>by simp[V1]
 |g::F,acc,k=>by
  rw[V1,Si κ F]
  by_cases h:κ g∈acc
  ·rw[if_pos h]
   constructor
   ·rintro(h1|⟨f,hf,e⟩)
    ·exact .inl h1
    ·exact .inr ⟨f,af _ hf,e⟩
   ·rintro(h1|⟨f,hf,e⟩)
    ·exact .inl h1
    ·rcases an.1 hf with rfl|hf
     ·exact .inl (e▸h)
     ·exact .inr ⟨f,hf,e⟩
  ·rw[if_neg h]
   constructor
   ·rintro(h1|⟨f,hf,e⟩)
    ·rcases ak.1 h1 with h1|h1
     ·exact .inl h1
     ·exact .inr ⟨g,by simp,(aq.1 h1).symm⟩
    ·exact .inr ⟨f,af _ hf,e⟩
   ·rintro(h1|⟨f,hf,e⟩)
    ·exact .inl (ao _ h1)
    ·rcases an.1 hf with rfl|hf
     ·exact .inl (av _ (by simp[e]))
     ·exact .inr ⟨f,hf,e⟩
theorem Pt(κ:α->K):∀(F:List α) (acc:List K),acc.Nodup->(V1 κ F acc).Nodup
 |[],_,h=>h
 |g::F,acc,h=>by
  rw[V1];refine Pt κ F _ ?_
  split
  ·exact h
  ·rename_i hn
   refine List.nodup_append.2 ⟨h,by simp,λa ha b hb e=>?_⟩
   rw[aq.1 hb]at e;exact hn (e▸ha)
theorem Dx(κ:α->K):∀(F:List α) (acc:List K),(V1 κ F acc).length<=acc.length+F.length
 |[],acc=>by simp[V1]
 |g::F,acc=>by
  rw[V1]
  have h:=Dx κ F (if κ g∈acc then acc else acc++[κ g])
  have h2:(if κ g∈acc then acc else acc++[κ g]).length<=acc.length+1:=by split <;> simp
  simp only[br];omega
theorem M3{κ:α->K}{F:List α}{i:Nat}{f:α}(h:F[i]?=some f):V1 κ (F.take (i+1)) []=if κ f∈V1 κ (F.take i) []then V1 κ (F.take i) []else V1 κ (F.take i) []++[κ f]:=by
 rw[List.take_add_one,h];exact Yca κ _ _ _
theorem Yic{κ:α->K}{c:α->PC}{F:List α}{i:Nat}{k:K}(h:k∉V1 κ (F.take i) []):Yf κ c (F.drop i) k=Yf κ c F k:=by
 have h1:Yf κ c (F.take i) k=[]:=aa λhn=>h ((Si κ _ _ _).2 (.inr (Wm.1 hn)))
 have h2:=Tu κ c (F.take i) (F.drop i) k
 rw[List.take_append_drop,h1,List.nil_append]at h2;exact h2.symm
theorem Hq{m:Nat}{A B:List PC}(hA:∀c∈A,Full m c)(hB:∀c∈B,Full m c)(nA:A≠[]):Yp m (Yp m A::B)=Yp m (A++B):=by
 have hs:=Rb hA nA
 by_cases nB:B=[]
 ·subst nB
  rw[bg,Q0 hs]
 ·rw[show Yp m A::B=[Yp m A]++B from rfl,Ky (λc hc=>by rw[aq.1 hc];exact hs) hB (by simp) nB,Q0 hs,<-Ky hA hB nA nB]
end
/-! ### rows,and a Yak -/
section
variable {α:Type}
structure Xu (m:Nat) (κ:α->Zd) (c:α->PC) (F:List α) (R:Rws):Prop where
 ris:Cl R
 all:∀x,x∈R↔(∃f∈F,κ f=x.1)/\x.2=Yp m (Yf κ c F x.1)
theorem Xu.one{m:Nat}{κ:α->Zd}{c:α->PC}{F:List α}{R Q:Rws}(h:Xu m κ c F R)(h':Xu m κ c F Q):R=Q:=Yge h.ris h'.ris λx=>(h.all x).trans (h'.all x).symm
structure Wr (m:Nat) (κ:α->List Int) (c:α->PC) (F:List α) (C:Cub):Prop where
 ris:Ris C
 all:∀x,x∈C↔(∃f∈F,κ f=x.1)/\x.2=Yp m (Yf κ c F x.1)
theorem Wr.get{m:Nat}{κ:α->List Int}{c:α->PC}{F:List α}{C:Cub}(h:Wr m κ c F C)(k:List Int):Za C k=if ∃f∈F,κ f=k then some (Yp m (Yf κ c F k))else none:=by
 by_cases hk:∃f∈F,κ f=k
 ·rw[if_pos hk]
  exact Us h.ris ((h.all (k,_)).2 ⟨hk,rfl⟩)
 ·rw[if_neg hk,Tw]
  intro hm;obtain⟨x,hx,rfl⟩:=ae.1 hm;exact hk ((h.all x).1 hx).1
theorem Wr.Yvk{m:Nat}{κ:α->List Int}{c:α->PC}{F:List α}{C:Cub}(hr:Ris C)(h:∀k,Za C k=if ∃f∈F,κ f=k then some (Yp m (Yf κ c F k))else none):Wr m κ c F C:=
 ⟨hr,λx=>by
  constructor
  ·intro hx
   have h1:=Us hr hx
   rw[h]at h1
   split at h1
   ·rename_i hk
    injection h1 with h1
    exact⟨hk,h1.symm⟩
   ·cases h1
  ·rintro⟨hk,e⟩
   have h1:=h x.1
   rw[if_pos hk,<-e]at h1;exact Xg h1⟩
theorem Vc{κ:α->List Int}{μ:α->Zd}{c:α->PC}{F:List α}(h:∀f∈F,∀g∈F,κ f=κ g↔μ f=μ g){f:α}(hf:f∈F):Yf κ c F (κ f)=Yf μ c F (μ f):=by
 unfold Yf
 congr 1
 refine ai λg hg=>?_
 have h1:=h g hg f hf
 by_cases e:κ g=κ f
 ·rw[decide_eq_true e,decide_eq_true (h1.1 e)]
 ·rw[decide_eq_false e,decide_eq_false (λe'=>e (h1.2 e'))]
theorem Wr.rows{m:Nat}{κ:α->List Int}{μ:α->Zd}{c:α->PC}{F:List α}{C:Cub}{R:Rws}(hC:Wr m κ c F C)(h:∀f∈F,∀g∈F,κ f=κ g↔μ f=μ g)(ψ:List Int->Zd)(hψ:∀f∈F,ψ (κ f)=μ f)(hR:Cl R)(hp:R.Perm (C.map λe=>(ψ e.1,e.2))):Xu m μ c F R:=
 ⟨hR,λx=>by
  rw[hp.mem_iff,ae];constructor
  ·rintro⟨e,he,rfl⟩
   obtain⟨⟨f,hf,hk⟩,hc⟩:=(hC.all e).1 he
   have h2:ψ e.1=μ f:=by rw[<-hk];exact hψ f hf
   refine⟨⟨f,hf,h2.symm⟩,?_⟩
   show e.2=Yp m (Yf μ c F (ψ e.1))
   rw[hc,<-hk,Vc h hf,hψ f hf]
  ·rintro⟨⟨f,hf,hk⟩,hc⟩
   refine⟨(κ f,Yp m (Yf κ c F (κ f))),(hC.all _).2 ⟨⟨f,hf,rfl⟩,rfl⟩,?_⟩;refine Prod.ext ?_ ?_
   ·show ψ (κ f)=x.1
    rw[hψ f hf,hk]
   ·show Yp m (Yf κ c F (κ f))=x.2
    rw[Vc h hf,hc,hk]⟩
def Ud(m:Nat)(κ:α->Zd)(c:α->PC)(F:List α)(i:Nat):Rws:=(V1 κ (F.take i) []).map λk=>(k,Yp m (Yf κ c F k))
theorem Yaq(m:Nat)(κ:α->Zd)(c:α->PC)(F:List α)(i:Nat):(Ud m κ c F i).map (·.1)=V1 κ (F.take i) []:=by
 unfold Ud;rw[ay];exact List.map_id' _
theorem Yo6{m:Nat}{κ:α->Zd}{c:α->PC}{F:List α}{i:Nat}{f:α}(h:F[i]?=some f)(hh:κ f∈V1 κ (F.take i) []):Ud m κ c F (i+1)=Ud m κ c F i:=by
 unfold Ud;rw[M3 h,if_pos hh]
theorem Ymj{m:Nat}{κ:α->Zd}{c:α->PC}{F:List α}{i:Nat}{f:α}(h:F[i]?=some f)(hh:κ f∉V1 κ (F.take i) []):Ud m κ c F (i+1)=Ud m κ c F i++[(κ f,Yp m (Yf κ c F (κ f)))]:=by
 unfold Ud;rw[M3 h,if_neg hh,az];rfl
theorem Yme(m:Nat)(κ:α->Zd)(c:α->PC)(F:List α)(i:Nat):(Ud m κ c F i).Pairwise λa b=>a.1≠b.1:=by
 have h:=Pt κ (F.take i) [] List.nodup_nil
 unfold Ud;rw[bo];exact h
theorem Yiu{m:Nat}{κ:α->Zd}{c:α->PC}{F:List α}{R:Rws}(h:Sel (Ud m κ c F F.length) R []):Xu m κ c F R:=
 ⟨h.end_.1,λx=>by
  rw[h.end_.2.mem_iff];unfold Ud;rw[List.take_length,ae];constructor
  ·rintro⟨k,hk,rfl⟩
   rcases(Si κ F [] k).1 hk with h1|h1
   ·simp at h1
   ·exact⟨h1,rfl⟩
  ·rintro⟨hk,e⟩
   exact⟨x.1,(Si κ F [] x.1).2 (.inr hk),Prod.ext rfl e.symm⟩⟩
end
end
def Vo:List Int->List Pth->Zd
 |n::v,p::P=>p.take n.toNat::Vo v P
 |_,_=>[]
def Xn:List (List Pth)->List Int->List Pth->List Int
 |Q::Qs,n::v,p::P=>((fnd Q (p.take n.toNat):Nat):Int)::Xn Qs v P
 |_,_,_=>[]
def Z1:List (List Pth)->List Int->Zd
 |Q::Qs,c::k=>pth Q c.toNat::Z1 Qs k
 |_,_=>[]
def Xv:List (List Pth)->List Int->List Pth->Prop
 |Q::Qs,n::v,p::P=>(p.take n.toNat=[]∨p.take n.toNat∈Q)/\Xv Qs v P
 |[],[],[]=>True
 |_,_,_=>False
def Qy(Qs:List (List Pth)):Prop:=∀Q∈Qs,[]∉Q
theorem Ypy(h0:[]∉Q){a b:Pth}(ha:a=[]∨a∈Q)(hb:b=[]∨b∈Q):fnd Q a=fnd Q b↔a=b:=by
 constructor
 ·intro h
  rcases ha with rfl|ha
  ·rcases hb with rfl|hb
   ·rfl
   ·rw[S1 h0]at h
    exact absurd (Vh.2 hb) (by omega)
  ·exact Ytq h ha
 ·rintro rfl;rfl
theorem Ct:∀{Qs:List (List Pth)}{v:List Int}{P P':List Pth},Qy Qs->Xv Qs v P->Xv Qs v P'→(Xn Qs v P=Xn Qs v P'↔Vo v P=Vo v P')
 |[],[],[],[],_,_,_=>by simp[Xn,Vo]
 |Q::Qs,n::v,p::P,p'::P',h0,h,h'=>by
  have h1:=Ypy (h0 Q (by simp)) h.1 h'.1
  have h2:=Ct (Qs:=Qs) (v:=v) (P:=P) (P':=P') (λQ hQ=>h0 Q (af _ hQ)) h.2 h'.2
  simp only[Xn,Vo,ax,Int.natCast_inj];exact and_congr h1 h2
 |[],_::_,_,_,_,h,_=>h.elim
 |[],[],_::_,_,_,h,_=>h.elim
 |[],[],[],_::_,_,_,h=>h.elim
 |_::_,[],_,_,_,h,_=>h.elim
 |_::_,_::_,[],_,_,h,_=>h.elim
 |_::_,_::_,_::_,[],_,_,h=>h.elim
theorem Pw:∀{Qs:List (List Pth)}{v:List Int}{P:List Pth},Qy Qs->Xv Qs v P->Z1 Qs (Xn Qs v P)=Vo v P
 |[],[],[],_,_=>rfl
 |Q::Qs,n::v,p::P,h0,h=>by
  have h2:=Pw (Qs:=Qs) (v:=v) (P:=P) (λQ hQ=>h0 Q (af _ hQ)) h.2
  simp only[Xn,Vo,Z1,Int.toNat_natCast,ax];refine⟨?_,h2⟩
  rcases h.1 with e|hm
  ·rw[e,S1 (h0 Q (by simp))]
   rfl
  ·exact Qd hm
 |[],_::_,_,_,h=>h.elim
 |[],[],_::_,_,h=>h.elim
 |_::_,[],_,_,h=>h.elim
 |_::_,_::_,[],_,h=>h.elim
def Vg:List (List Pth)->List (List Pth)->Prop
 |Q::Qs,R::Rs=>(∃M,R=Q++M)/\Vg Qs Rs
 |[],[]=>True
 |_,_=>False
theorem Vg.refl:∀Qs:List (List Pth),Vg Qs Qs
 |[]=>trivial
 |Q::Qs=>⟨⟨[],by simp⟩,Vg.refl Qs⟩
theorem Vg.trans:∀{Qs Rs Ts:List (List Pth)},Vg Qs Rs->Vg Rs Ts->Vg Qs Ts
 |[],[],[],_,_=>trivial
 |Q::Qs,R::Rs,T::Ts,⟨⟨M,e⟩,h⟩,⟨⟨M',e'⟩,h'⟩=>⟨⟨M++M',by rw[e',e,List.append_assoc]⟩,Vg.trans h h'⟩
 |[],_::_,_,h,_=>h.elim
 |_::_,[],_,h,_=>h.elim
 |[],[],_::_,_,h=>h.elim
 |_::_,_::_,[],_,h=>h.elim
theorem Xv.grown:∀{Qs Rs:List (List Pth)}{v:List Int}{P:List Pth},Vg Qs Rs->Xv Qs v P->Xv Rs v P
 |[],[],_,_,_,h=>h
 |Q::Qs,R::Rs,n::v,p::P,⟨⟨M,e⟩,hg⟩,h=>⟨h.1.imp id λhm=>by rw[e];exact ao _ hm,Xv.grown hg h.2⟩
 |Q::Qs,R::Rs,[],_,_,h=>h.elim
 |Q::Qs,R::Rs,_::_,[],_,h=>h.elim
 |[],_::_,_,_,h,_=>h.elim
 |_::_,[],_,_,h,_=>h.elim
theorem Kj:∀{Qs Rs:List (List Pth)}{v:List Int}{P:List Pth},Vg Qs Rs->Qy Rs->Xv Qs v P->Xn Rs v P=Xn Qs v P
 |[],[],_,_,_,_,_=>rfl
 |Q::Qs,R::Rs,n::v,p::P,⟨⟨M,e⟩,hg⟩,h0,h=>by
  have h2:=Kj hg (λQ hQ=>h0 Q (af _ hQ)) h.2
  simp only[Xn,ax,Int.natCast_inj];refine⟨?_,h2⟩
  rcases h.1 with e1|hm
  ·have hR:[]∉R:=h0 R (by simp)
   rw[e1,S1 hR,S1 (λhq=>hR (by rw[e];exact ao _ hq))]
  ·rw[e]
   exact Ja hm
 |Q::Qs,R::Rs,[],_,_,_,h=>h.elim
 |Q::Qs,R::Rs,_::_,[],_,_,h=>h.elim
 |[],_::_,_,_,h,_,_=>h.elim
 |_::_,[],_,_,h,_,_=>h.elim
theorem Wr.more{α:Type}{κ:α->List Int}{c:α->PC}{F G:List α}{D:Cub}(hF:∀f∈F,Yv m (c f))(hG:∀f∈G,Yv m (c f))(hC:Wr m κ c F C)(hr:Ris D)
  (hD:∀k,Za D k=if ∃g∈G,κ g=k then some (Yp m ((Za C k).toList++Yf κ c G k))else Za C k):Wr m κ c (F++G) D:=by
 refine Wr.Yvk hr λk=>?_
 rw[hD k]
 by_cases hg:∃g∈G,κ g=k
 ·have hfg:∃f∈F++G,κ f=k:=by
   obtain⟨g,hg1,hg2⟩:=hg;exact⟨g,av _ hg1,hg2⟩
  rw[if_pos hg,if_pos hfg,Tu,hC.get]
  by_cases hf:∃f∈F,κ f=k
  ·rw[if_pos hf]
   show some (Yp m (Yp m (Yf κ c F k)::Yf κ c G k))=_
   rw[Hq (Ut hF k) (Ut hG k) (Wm.2 hf)]
  ·rw[if_neg hf]
   have h0:Yf κ c F k=[]:=aa λh=>hf (Wm.1 h)
   rw[h0];rfl
 ·rw[if_neg hg,hC.get]
  have h0:Yf κ c G k=[]:=aa λh=>hg (Wm.1 h)
  by_cases hf:∃f∈F,κ f=k
  ·have hfg:∃f∈F++G,κ f=k:=by
    obtain⟨g,hg1,hg2⟩:=hf;exact⟨g,ao _ hg1,hg2⟩
   rw[if_pos hf,if_pos hfg,Tu,h0,bg]
  ·rw[if_neg hf,if_neg]
   rintro⟨f,h1,h2⟩
   rcases ak.1 h1 with h1|h1
   ·exact hf ⟨f,h1,h2⟩
   ·exact hg ⟨f,h1,h2⟩
theorem Yp7{α:Type}{κ:α->List Int}{c:α->PC}{F G:List α}(hF:∀f∈F,Yv m (c f))(hG:∀f∈G,Yv m (c f))(hC:Wr m κ c F C)(hok:okF m κ c F):
  okF m κ c (F++G)↔∀g∈G,Zo (Yp m ((Za C (κ g)).toList++Yf κ c G (κ g))):=by
 have key:∀g∈G,Yp m ((Za C (κ g)).toList++Yf κ c G (κ g))=Yp m (Yf κ c (F++G) (κ g)):=λg hg=>by
  rw[Tu,hC.get]
  by_cases hf:∃f∈F,κ f=κ g
  ·rw[if_pos hf]
   show Yp m (Yp m (Yf κ c F (κ g))::Yf κ c G (κ g))=_
   rw[Hq (Ut hF _) (Ut hG _) (Wm.2 hf)]
  ·rw[if_neg hf]
   have h0:Yf κ c F (κ g)=[]:=aa λh=>hf (Wm.1 h)
   rw[h0];rfl
 constructor
 ·intro h g hg
  rw[key g hg];exact h g (av _ hg)
 ·intro h f hf
  by_cases hg:∃g∈G,κ g=κ f
  ·obtain⟨g,hg1,hg2⟩:=hg
   rw[<-hg2,<-key g hg1];exact h g hg1
  ·have h0:Yf κ c G (κ f)=[]:=aa λh=>hg (Wm.1 h)
   rw[Tu,h0,bg]
   rcases ak.1 hf with hf|hf
   ·exact hok f hf
   ·exact absurd ⟨f,hf,rfl⟩ hg
theorem Ybc{α:Type}{κ:α->List Int}{μ:α->Zd}{c:α->PC}{F:List α}(h:∀f∈F,∀g∈F,κ f=κ g↔μ f=μ g):okF m κ c F↔okF m μ c F:=by
 unfold okF;constructor
 ·intro hk f hf
  rw[<-Vc h hf];exact hk f hf
 ·intro hk f hf
  rw[Vc h hf];exact hk f hf
def kC{β:Type}(Qs:List (List Pth))(v:List Int)(f:Zd×β):List Int:=Xn Qs v f.1
def kP{β:Type}(v:List Int)(f:Zd×β):Zd:=Vo v f.1
theorem Tc{β:Type}{F:List (Zd×β)}(h0:Qy Qs)(h:∀f∈F,Xv Qs v f.1):∀f∈F,∀g∈F,kC Qs v f=kC Qs v g↔kP v f=kP v g:=λf hf g hg=>Ct h0 (h f hf) (h g hg)
theorem Ez{β:Type}{F:List (Zd×β)}(h0:Qy Qs)(h:∀f∈F,Xv Qs v f.1):∀f∈F,Z1 Qs (kC Qs v f)=kP v f:=λf hf=>Pw h0 (h f hf)
theorem Wr.grown{Rs:List (List Pth)}{β:Type}{c:Zd×β->PC}{F:List (Zd×β)}(hC:Wr m (kC Qs v) c F C)(hg:Vg Qs Rs)(h0:Qy Rs)(h:∀f∈F,Xv Qs v f.1):Wr m (kC Rs v) c F C:=by
 have e:∀f∈F,kC Rs v f=kC Qs v f:=λf hf=>Kj hg h0 (h f hf)
 have e2:∀k,Yf (kC Rs v) c F k=Yf (kC Qs v) c F k:=λk=>by
  unfold Yf
  congr 1
  refine ai λf hf=>?_
  rw[e f hf]
 refine⟨hC.ris,λx=>?_⟩
 rw[hC.all x,e2];refine and_congr_left λ_=>?_
 constructor
 ·rintro⟨f,hf,hk⟩;exact⟨f,hf,by rw[e f hf,hk]⟩
 ·rintro⟨f,hf,hk⟩;exact⟨f,hf,by rw[<-e f hf,hk]⟩
def Pv(L:Rws)(i j:Nat):Prop:=j<i/\∀(k:Nat) (a b:Zd×PC),k<i->L[k]?=some a->L[j]?=some b→¬Xb a.1 b.1
theorem Yfv:Pv L 1 0:=⟨by omega,λk a b hk ha hb=>by
 obtain rfl:k=0:=by omega
 rw[ha]at hb;injection hb with hb
 rw[hb];exact W4 _⟩
theorem Yem{a:Zd×PC}(h:Pv L i j)(ha:L[i]?=some a)(hb:L[j]?=some b)(hl:Xb a.1 b.1):Pv L (i+1) i:=⟨by omega,λk x y hk hx hy=>by
 rw[ha]at hy;injection hy with hy
 subst hy
 by_cases hki:k=i
 ·subst hki
  rw[ha]at hx;injection hx with hx
  rw[hx];exact W4 _
 ·exact λh1=>h.2 k x b (by omega) hx hb (Sn h1 hl)⟩
theorem Yhy{a:Zd×PC}(h:Pv L i j)(ha:L[i]?=some a)(hb:L[j]?=some b)(hl:¬Xb a.1 b.1):Pv L (i+1) j:=⟨by have:=h.1;omega,λk x y hk hx hy=>by
 by_cases hki:k=i
 ·subst hki
  rw[ha]at hx;injection hx with hx
  rw[hb]at hy;injection hy with hy
  rw[<-hx,<-hy];exact hl
 ·exact h.2 k x y (by omega) hx hy⟩
theorem Yh7(h:Pv L L.length j)(hb:L[j]?=some b):∀a∈L,¬Xb a.1 b.1:=λa ha=>by
 obtain⟨k,hk,rfl⟩:=List.getElem_of_mem ha;exact h.2 k _ b hk (aj hk) hb
abbrev Yd5(L:Rws)(k:Zd):List PC:=Yf (λe:Zd×PC=>e.1) (λe=>e.2) L k
structure Yxa (m:Nat) (L out l:Rws):Prop where
 left:l=L.filter λe=>decide (e.1∉out.map (·.1))
 ris:Cl out
 lt:∀a∈out,∀b∈l,Xb a.1 b.1
 val:∀x∈out,(∃e∈L,e.1=x.1)/\x.2=Yp m (Yd5 L x.1)
theorem Yxa.cells{out l:Rws}(h:Yxa m L out l){k:Zd}(hk:∃e∈l,e.1=k):Yd5 l k=Yd5 L k:=by
 obtain⟨e,he,rfl⟩:=hk;rw[h.left]at he⊢
 have hn:=of_decide_eq_true (ag.1 he).2
 unfold Yd5 Yf;rw[aw]
 congr 1
 refine ai λx hx=>?_
 by_cases hxe:x.1=e.1
 ·rw[decide_eq_true hxe,Bool.true_and,hxe,decide_eq_true hn]
 ·rw[decide_eq_false hxe,Bool.false_and]
theorem B4{α K:Type}[DecidableEq K](κ:α->K)(F:List α):∀Ks:List K,Ks.Nodup->((Ks.map λj=>F.filter λf=>decide (κ f=j)).flatten).Perm (F.filter λf=>decide (κ f∈Ks))
 |[],_=>by simp
 |j::Ks,h=>by
  obtain⟨h1,h2⟩:=List.nodup_cons.1 h
  have ih:=B4 κ F Ks h2
  rw[bj,List.flatten_cons];refine(ih.append_left _).trans ?_
  have hp:=List.filter_append_perm (λf=>decide (κ f=j)) (F.filter λf=>decide (κ f∈j::Ks))
  rw[aw,aw]at hp
  have e1:(F.filter λf=>decide (κ f=j)&&decide (κ f∈j::Ks))=F.filter λf=>decide (κ f=j):=ai λf _=>by
   by_cases e:κ f=j
   ·simp[e]
   ·simp[e]
  have e2:(F.filter λf=>(!decide (κ f=j))&&decide (κ f∈j::Ks))=F.filter λf=>decide (κ f∈Ks):=ai λf _=>by
   by_cases e:κ f=j
   ·simp[e,h1]
   ·simp[e]
  rw[e1,e2]at hp;exact hp
theorem nodup_keys(h:Ris C)(p:List Int×PC->Bool):((C.filter p).map (·.1)).Nodup:=by
 refine bo.2 ?_;exact List.Pairwise.imp (λhl=>W9 hl) (List.Pairwise.filter p h)
theorem Wr.sum{α K:Type}[DecidableEq K]{m:Nat}{κ:α->List Int}{c:α->PC}{g:List Int->K}{F:List α}{B:Cub}(hF:∀f∈F,Yv m (c f))(hB:Wr m κ c F B){k:K}(hk:∃e∈B,g e.1=k):Yp m (Yf (λe:List Int×PC=>g e.1) (λe=>e.2) B k)=Yp m (Yf (λf=>g (κ f)) c F k):=by
 have e1:Yf (λe:List Int×PC=>g e.1) (λe=>e.2) B k=((B.filter λe=>decide (g e.1=k)).map λe=>Yf κ c F e.1).map (Yp m):=by
  unfold Yf;rw[ay];refine List.map_congr_left λe he=>?_
  exact((hB.all e).1 (ag.1 he).1).2
 have hne:((B.filter λe=>decide (g e.1=k)).map λe=>Yf κ c F e.1)≠[]:=λh=>by
  obtain⟨e,he,hk⟩:=hk
  have h2:e∈B.filter λe=>decide (g e.1=k):=ag.2 ⟨he,decide_eq_true hk⟩
  rw[bn.1 h]at h2;simp at h2
 have hg:∀x∈(B.filter λe=>decide (g e.1=k)).map λe=>Yf κ c F e.1,x≠[]/\∀y∈x,Full m y:=λx hx=>by
  obtain⟨e,he,rfl⟩:=ae.1 hx;obtain⟨hk',_⟩:=(hB.all e).1 (ag.1 he).1;exact⟨Wm.2 hk',Ut hF _⟩
 rw[e1,Yo8 hg hne]
 have hp:((B.filter λe=>decide (g e.1=k)).map λe=>Yf κ c F e.1).flatten.Perm (Yf (λf=>g (κ f)) c F k):=by
  have e2:((B.filter λe=>decide (g e.1=k)).map λe=>Yf κ c F e.1).flatten=((((B.filter λe=>decide (g e.1=k)).map (·.1)).map λj=>F.filter λf=>decide (κ f=j)).flatten).map c:=by
   rw[List.map_flatten,ay,ay];rfl
  rw[e2];unfold Yf;refine List.Perm.map c ((B4 κ F _ (nodup_keys hB.ris _)).trans ?_);refine List.Perm.of_eq (ai λf hf=>?_)
  have hiff:κ f∈(B.filter λe=>decide (g e.1=k)).map (·.1)↔g (κ f)=k:=by
   constructor
   ·intro h
    obtain⟨e,he,hek⟩:=ae.1 h;rw[<-hek];exact of_decide_eq_true (ag.1 he).2
   ·intro h
    exact ae.2 ⟨(κ f,Yp m (Yf κ c F (κ f))),ag.2 ⟨(hB.all _).2 ⟨⟨f,hf,rfl⟩,rfl⟩,decide_eq_true h⟩,rfl⟩
  by_cases h:g (κ f)=k
  ·rw[decide_eq_true h]
   have h9:=hiff.2 h
   simp only[decide_eq_true_eq];exact h9
  ·rw[decide_eq_false h]
   exact decide_eq_false_iff_not.2 (λh'=>h (hiff.1 h'))
 exact J9 hp (λy hy=>by
  obtain⟨x,hx,hy⟩:=bp.1 hy;exact(hg x hx).2 y hy) (λh=>by
  obtain⟨x,hx⟩:=au _ hne;obtain⟨y,hy⟩:=au _ (hg x hx).1
  have h2:y∈((B.filter λe=>decide (g e.1=k)).map λe=>Yf κ c F e.1).flatten:=bp.2 ⟨x,hx,hy⟩
  rw[h]at h2;simp at h2)
def Xz:List Nat->List (List Pth)->Prop
 |n::N,Q::Qs=>Good n Q/\Xz N Qs
 |[],[]=>True
 |_,_=>False
theorem Xz.Q1:∀{N:List Nat}{Qs:List (List Pth)},Xz N Qs->Qy Qs
 |[],[],_=>λQ h=>by simp at h
 |n::N,Q::Qs,⟨h,h'⟩=>λR hR=>by
  rcases an.1 hR with rfl|hR
  ·exact h.ne_nil
  ·exact Xz.Q1 h' R hR
 |[],_::_,h=>h.elim
 |_::_,[],h=>h.elim
def Vj:List Nat->List (List Pth)->List Pth->List (List Pth)
 |n::N,Q::Qs,p::P=>V4 n Q p::Vj N Qs P
 |_,Qs,_=>Qs
def N8:List Nat->List (List Pth)->List Pth->Nat
 |n::N,Q::Qs,p::P=>if Qr n Q p≠0 then Qr n Q p else N8 N Qs P
 |_,_,_=>0
theorem Yj8(n:Nat)(Q:List Pth)(p:Pth):∃M,V4 n Q p=Q++M:=by
 unfold V4
 split
 ·exact⟨_,rfl⟩
 ·exact⟨[],by simp⟩
theorem Ka:∀(N:List Nat) (Qs:List (List Pth)) (P:List Pth),Vg Qs (Vj N Qs P)
 |n::N,Q::Qs,p::P=>⟨Yj8 n Q p,Ka N Qs P⟩
 |[],Qs,_=>by rw[Vj];exact Vg.refl Qs;all_goals simp
 |_::_,[],_=>trivial
 |_::_,Q::Qs,[]=>Vg.refl (Q::Qs)
theorem Mf:∀{N:List Nat}{Qs:List (List Pth)}(P:List Pth),Xz N Qs->Xz N (Vj N Qs P)
 |_::_,_::_,_::P,⟨h,h'⟩=>⟨h.add,Mf P h'⟩
 |[],[],_,h=>h
 |_::_,_::_,[],h=>h
 |[],_::_,_,h=>h.elim
 |_::_,[],_,h=>h.elim
def On:List Nat->List Int->Prop
 |n::N,v::V=>0<=v/\v<=(n:Int)/\On N V
 |[],[]=>True
 |_,_=>False
theorem Yh1:∀{N:List Nat}{Qs:List (List Pth)}{P:List Pth}{v:List Int},Xz N Qs->On N v->P.length=N.length->N8 N Qs P=0->Xv (Vj N Qs P) v P
 |[],[],[],[],_,_,_,_=>trivial
 |n::N,Q::Qs,p::P,x::v,⟨hg,hG⟩,⟨h0,h1,hv⟩,hl,he=>by
  have he0:Qr n Q p=0:=aa λh=>by rw[N8,if_pos h]at he;exact h he
  have he1:N8 N Qs P=0:=by rw[N8,if_neg (λh=>h he0)]at he;exact he
  have hok:Pc n Q p:=aa λh=>by
   unfold Qr at he0;rw[if_neg h]at he0
   split at he0 <;> cases he0
  refine⟨?_,Yh1 hG hv (by simpa using hl) he1⟩
  by_cases hx:x.toNat=0
  ·rw[hx];exact .inl (by simp)
  ·exact .inr (Good.Po hg.add (Yoe hg hok) (by omega) (by rw[hok.1.1];omega))
 |[],_::_,_,_,h,_,_,_=>h.elim
 |_::_,[],_,_,h,_,_,_=>h.elim
 |[],[],_::_,_,_,_,hl,_=>by simp at hl
 |[],[],[],_::_,_,h,_,_=>h.elim
 |_::_,_::_,[],_,_,_,hl,_=>by simp at hl
 |_::_,_::_,_::_,[],_,h,_,_=>h.elim
def Zh(N:List Nat):List (List Pth)->List Fct->List (List Pth)×Nat
 |Qs,[]=>(Qs,0)
 |Qs,f::F=>if N8 N Qs f.1≠0 then (Qs,N8 N Qs f.1)else Zh N (Vj N Qs f.1) F
theorem Pa{N:List Nat}: ∀{F:List Fct}{Qs Rs:List (List Pth)},Xz N Qs->Zh N Qs F=(Rs,0)->Xz N Rs/\Vg Qs Rs/\∀v,On N v->∀f∈F,f.1.length=N.length->Xv Rs v f.1
 |[],Qs,Rs,h,e=>by
  rw[Zh]at e;injection e with e _
  subst e;exact⟨h,Vg.refl _,λv _ f hf=>by simp at hf⟩
 |f::F,Qs,Rs,h,e=>by
  rw[Zh]at e
  by_cases he:N8 N Qs f.1≠0
  ·rw[if_pos he]at e
   injection e with _ e
   exact absurd e he
  ·rw[if_neg he]at e
   have he0:N8 N Qs f.1=0:=aa he
   obtain⟨h1,h2,h3⟩:=Pa (Mf f.1 h) e;refine⟨h1,(Ka N Qs f.1).trans h2,λv hv g hg hgl=>?_⟩
   rcases an.1 hg with rfl|hg
   ·exact(Yh1 h hv hgl he0).grown h2
   ·exact h3 v hv g hg hgl
section
def Yj(D:List Yk):List Nat:=D.map λd=>d.2.length
abbrev Zb(f:Fct):PC:=W6 f.2
theorem L3:∀{D:List Yk}{v:List Int},Z5 D v->On (Yj D) v
 |[],[],_=>trivial
 |[],_::_,h=>by have:=h.1;simp at this
 |_::_,[],h=>by have:=h.1;simp at this
 |d::D,x::v,h=>by
  have h0:=h.2 0 (by simp)
  simp at h0;refine⟨h0.1,h0.2,L3 ⟨by have:=h.1;simpa using this,λi hi=>?_⟩⟩
  have h1:=h.2 (i+1) (by simpa using hi)
  simpa using h1
theorem Ty{D:List Yk}{M:List Txt}{V:List (List Int)}(h:Wk D M V):∀v∈Yg D V,On (Yj D) v:=λv hv=>by
 rcases an.1 hv with rfl|hv
 ·exact L3 (Fy D)
 ·exact L3 (h.2.2.2.1 v hv)
theorem Yeh{D:List Yk}{m:Nat}{f:Fct}(h:Ue D m f):isVal m f.2:=⟨by have:=h.2.2.1;omega,h.1.2.2.2⟩
theorem Yhl{D:List Yk}{m:Nat}(hm:m<=2){f:Fct}(h:Ue D m f):Yv m (Zb f):=Yby hm (Yeh h)
theorem Yd7{D:List Yk}{m:Nat}{f:Fct}(h:Ue D m f):f.1.map bs=Yj D:=by
 refine List.ext_getElem (by simp[Yj,h.2.1]) λi h1 h2=>?_
 have hi:i<D.length:=by simpa[Yj]using h2
 have hj:i<f.1.length:=by simpa using h1
 have h3:=h.2.2.2 i hi
 rw[ar,ar,aj hi,aj hj]at h3;simpa[Yj]using h3
abbrev Hld:=Zd×PC
def Zy(f:Fct):Hld:=(f.1,W6 f.2)
abbrev Zk(e:Hld):PC:=e.2
def Q2(E:List Hld):Int:=Y4 (E.map λe=>e.2.1)
theorem Bh(E G:List Hld):Q2 (E++G)=Q2 E+Q2 G:=by
 unfold Q2;rw[az,Be]
theorem Rl:∀G:List Fct,Q2 (G.map Zy)=G.length
 |[]=>rfl
 |f::G=>by
  have h:=Bh [Zy f] (G.map Zy)
  rw[Rl G]at h;rw[bj,show Zy f::G.map Zy=[Zy f]++G.map Zy from rfl,h]
  simp[Q2,Zy,W6,Y4];omega
structure X5 (D:List Yk) (M:List Txt) (V:List (List Int)) (E:List Hld) (Qs:List (List Pth)):Prop where
 may:Wk D M V
 good:Xz (Yj D) Qs
 cell:∀e∈E,Yv M.length e.2
 lev:∀e∈E,e.1.map bs=Yj D
 has:∀v∈Yg D V,∀e∈E,Xv Qs v e.1
 ok:∀v∈Yg D V,okF M.length (kP v) Zk E
 cnt:Q2 E<=1099511627776
theorem Bv:∀{D:List Yk},(∀d∈D,Zn d.2 3)->Xz (Yj D) (D.map λ_=>[])
 |[],_=>trivial
 |d::D,h=>⟨Dj ⟨(h d (by simp)).1,(h d (by simp)).2.1⟩,Bv λe he=>h e (af _ he)⟩
theorem X5.begin{D:List Yk}{M:List Txt}{V:List (List Int)}(h:Wk D M V):X5 D M V [] (D.map λ_=>[]):=
 ⟨h,Bv h.1.1,λf hf=>by simp at hf,λf hf=>by simp at hf,λ_ _ f hf=>by simp at hf,λ_ _ f hf=>by simp at hf,by decide⟩
def Y9(D:List Yk)(M:List Txt)(V:List (List Int))(E:List Hld)(Qs:List (List Pth))(G:List Fct):(List Hld×List (List Pth))×Nat:=
 if Wf D M V G≠0 then ((E,Qs),Wf D M V G)
 else if (Zh (Yj D) Qs G).2≠0 then ((E,Qs),(Zh (Yj D) Qs G).2)
 else if ∃v∈Yg D V,∃e∈E++G.map Zy,¬Zo (Yp M.length (Yf (kP v) Zk (E++G.map Zy) (kP v e)))then ((E,Qs),14)
 else if Q2 E+G.length>1099511627776 then ((E,Qs),14)
 else ((E++G.map Zy,(Zh (Yj D) Qs G).1),0)
section
variable {D:List Yk}{M:List Txt}{V:List (List Int)}{E:List Hld}{G:List Fct}{Qs:List (List Pth)}
theorem Og(h:Wf D M V G≠0):Y9 D M V E Qs G=((E,Qs),Wf D M V G):=if_pos h
theorem Ql(h:Wf D M V G=0)(h2:(Zh (Yj D) Qs G).2≠0):Y9 D M V E Qs G=((E,Qs),(Zh (Yj D) Qs G).2):=by
 unfold Y9;rw[if_neg (λh'=>h' h),if_pos h2]
theorem Yp2{m:Nat}{κ:Hld->Zd}{c:Hld->PC}{E:List Hld}: ¬okF m κ c E↔∃f∈E,¬Zo (Yp m (Yf κ c E (κ f))):=by
 constructor
 ·intro h
  exact aa λhn=>h λf hf=>aa λhc=>hn ⟨f,hf,hc⟩
 ·rintro⟨f,hf,hc⟩ h
  exact hc (h f hf)
theorem O9(h:Wf D M V G=0)(h2:(Zh (Yj D) Qs G).2=0){v:List Int}(hv:v∈Yg D V)(h3:¬okF M.length (kP v) Zk (E++G.map Zy)):Y9 D M V E Qs G=((E,Qs),14):=by
 unfold Y9;rw[if_neg (λh'=>h' h),if_neg (λh'=>h' h2),if_pos ⟨v,hv,Yp2.1 h3⟩]
theorem Ec(h:Wf D M V G=0)(h2:(Zh (Yj D) Qs G).2=0)(h3:Q2 E+G.length>1099511627776):Y9 D M V E Qs G=((E,Qs),14):=by
 unfold Y9;rw[if_neg (λh'=>h' h),if_neg (λh'=>h' h2)]
 split
 ·rfl
 ·first|rfl|(rw[if_pos h3])
theorem Gw(h:Wf D M V G=0)(h2:(Zh (Yj D) Qs G).2=0)(h3:∀v∈Yg D V,okF M.length (kP v) Zk (E++G.map Zy))(h4:Q2 E+G.length<=1099511627776):Y9 D M V E Qs G=((E++G.map Zy,(Zh (Yj D) Qs G).1),0):=by
 unfold Y9;rw[if_neg (λh'=>h' h),if_neg (λh'=>h' h2),if_neg,if_neg (by omega)]
 rintro⟨v,hv,hf⟩;exact Yp2.2 hf (h3 v hv)
theorem Mb(h:Wf D M V G=0):∀f∈G,Ue D M.length f:=by
 unfold Wf at h
 split at h
 ·exact(Jm.1 h).2.2
 ·cases h
theorem X5.apply(h:X5 D M V E Qs)(G:List Fct):X5 D M V (Y9 D M V E Qs G).1.1 (Y9 D M V E Qs G).1.2:=by
 by_cases h1:Wf D M V G=0
 ·by_cases h2:(Zh (Yj D) Qs G).2=0
  ·by_cases h3:∀v∈Yg D V,okF M.length (kP v) Zk (E++G.map Zy)
   ·by_cases h4:Q2 E+G.length<=1099511627776
    ·rw[Gw h1 h2 h3 h4]
     have hfit:=Mb h1
     have hm:M.length<=2:=h.may.2.1.2.1
     obtain⟨g1,g2,g3⟩:=Pa (N:=Yj D) (F:=G) (Qs:=Qs) (Rs:=(Zh (Yj D) Qs G).1) h.good (Prod.ext rfl h2);refine⟨h.may,g1,λe he=>?_,λe he=>?_,λv hv e he=>?_,h3,?_⟩
     ·rcases ak.1 he with he|he
      ·exact h.cell e he
      ·obtain⟨f,hf,rfl⟩:=ae.1 he
       exact Yhl hm (hfit f hf)
     ·rcases ak.1 he with he|he
      ·exact h.lev e he
      ·obtain⟨f,hf,rfl⟩:=ae.1 he
       exact Yd7 (hfit f hf)
     ·rcases ak.1 he with he|he
      ·exact(h.has v hv e he).grown g2
      ·obtain⟨f,hf,rfl⟩:=ae.1 he
       exact g3 v (Ty h.may v hv) f hf (by rw[(hfit f hf).2.1];simp[Yj])
     ·rw[Bh,Rl]
      exact h4
    ·rw[Ec h1 h2 (by omega)]
     exact h
   ·obtain⟨v,hv,hb⟩: ∃v∈Yg D V,¬okF M.length (kP v) Zk (E++G.map Zy):=aa λhn=>h3 λv hv=>aa λhc=>hn ⟨v,hv,hc⟩
    rw[O9 h1 h2 hv hb];exact h
  ·rw[Ql h1 h2]
   exact h
 ·rw[Og h1]
  exact h
end
end
end Go.Proofs.YtmepdkdeanbbaaaGreat
