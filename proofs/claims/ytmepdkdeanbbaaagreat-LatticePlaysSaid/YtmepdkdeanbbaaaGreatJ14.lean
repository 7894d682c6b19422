/- Wide2, WireRd, DictE, GrownOf, WireS, BatchM, CubW, CubR2, LatN, LatO, LatP, LatQ, LatR, LatS, LatT -/
import Derived.Test.YtmepdkdeanbbaaaGreatJ9
import Derived.BigQuiet
import Derived.Deep.RegionHeld3
namespace Go.Proofs.YtmepdkdeanbbaaaGreat
set_option maxRecDepth 100000
set_option maxHeartbeats 8000000
open Go.RowKit
open Classical renaming byContradiction→aa
open List renaming mem_map→ae,mem_cons_of_mem→af,mem_filter→ag,filter_congr→ai,getElem?_eq_getElem→aj,mem_append→ak,mem_cons→an,mem_append_left→ao,mem_singleton→aq,getD_eq_getElem?_getD→ar,exists_mem_of_ne_nil→au,mem_append_right→av,filter_filter→aw,map_map→ay,map_append→az,append_nil→bg,map_cons→bj,map_eq_nil_iff→bn,pairwise_map→bo,mem_flatten→bp,length_cons→br,length→bs
open List.cons renaming injEq→ax
open Go.Lib (hid)
variable {e i j m p:Nat}{L:Rws}{C:Cub}{l:List UInt8}{Qs:List (List Pth)}{v:List Int}{b:Zd × PC}{hi:Int}{Q:List Pth}{a w:World}
theorem Ytq(hi lo:Int)(w:World)(h:Np hi lo)(n x:Int)
  (hs:(-9223372036854775808<=Kz hi lo/\Kz hi lo<=9223372036854775807/\n=Kz hi lo/\x=0)∨(¬(-9223372036854775808<=Kz hi lo/\Kz hi lo<=9223372036854775807)/\n=0/\x=14)):
  Calls Tryz.prog 246 #[.agg #[.int .i64 hi,.int .i64 lo]] w λe w'=>e=.returned (.tuple #[.int .i64 n,.int .i64 x])/\Below w.heap.size w w':=by
 have h':decide (Np hi lo)=true:=decide_eq_true h
 go_enter Tryz.func246,Tryz.ntmps246;go_wp2_with fail;refine(D7 hi lo _).mono ?_;rintro e w1 ⟨rfl,hb⟩;rw[h']
 have hba:=Pe hb (g:=w.heap.size) rfl
 have hg0:w1.cell? ⟨w.heap.size,0,none⟩=some (.int .i64 hi):=hba.cell 0
 have hg1:w1.cell? ⟨w.heap.size,1,none⟩=some (.int .i64 lo):=hba.cell 1
 have hbe:=Ya (Yb _ _) hb
 clear hb h';obtain⟨m,hor,hm0,hm1,hlo,hhi⟩: ∃m:Int,bits .or .i64 (wrap64 (hi*4294967296)) lo=m∧-9223372036854775808<=m/\m<=9223372036854775807/\Hid (m%4294967296=lo)/\Hid ((-9223372036854775808<=Kz hi lo/\Kz hi lo<=9223372036854775807->m=Kz hi lo)/\(¬(-9223372036854775808<=Kz hi lo/\Kz hi lo<=9223372036854775807)->m/4294967296≠hi)):=by
  unfold Np at h;refine⟨_,rfl,?_⟩;rw[Ynr _ _ (by unfold wrap64;omega) (by omega) (by omega),IntKind.wrap_i64]
  unfold Kz wrap64;exact⟨by omega,by omega,hid (by omega),hid ⟨by omega,by omega⟩⟩
 have Hs:=hid hs
 clear h hs
 have hz:w.heap.size<w1.heap.size:=hba.lt
 rcases Hs.out with⟨h1,h2,rfl,rfl⟩|⟨h1,rfl,rfl⟩
 case' inl=>have hq:((m/4294967296:Int)==hi)=true:=by have h3:=hhi.out.1 ⟨h1,h2⟩;have h4:=hlo.out;unfold Kz at h3;simp;omega
 case' inl=>have hnm:=hid (hhi.out.1 ⟨h1,h2⟩)
 case' inr=>have hq:((m/4294967296:Int)==hi)=false:=by have h3:=hhi.out.2 h1;simp;exact h3
 case' inr=>have hnm:True:=trivial
 all_goals
  have hr:((m%4294967296:Int)==lo)=true:=by have h4:=hlo.out;simp;omega
  clear h1 hhi hlo Hs;go_wp2_with fail;go_region_held3 (λw'=>w'.cell? ⟨w.heap.size,0,none⟩=some (.int .i64 hi)/\w'.cell? ⟨w.heap.size,1,none⟩=some (.int .i64 lo))
   (first
    |exact⟨hg0,hg1⟩
    |exact⟨hk0,hk1⟩)
   (first
    |(go_at_call 256;refine(Yqp m _ hm0 hm1).mono ?_;rintro e w3 ⟨rfl,hbc⟩;have hk0:=(hbc.cell (p:=⟨w.heap.size,0,none⟩) hz).trans hg0;have hk1:=(hbc.cell (p:=⟨w.heap.size,1,none⟩) hz).trans hg1))
  have hbe3:Below w.heap.size w w3:=Ya (Below.drew hbe) hbc
  clear hbc hba hg0 hg1 hk0 hk1 hbe;go_wp2_with fail;go_ret2
  first
   |exact⟨rfl,hbe3⟩
   |exact⟨by rw[hnm.out];rfl,hbe3⟩
section
section
variable {T:TypeId}{w w' : World}{g:Nat}{A:Option Addr}{n c:Nat}{l:List UInt8}{p e:Nat}
theorem Ym9(w:World)(g i:Nat)(u:Value):w.grownBy (w.setCell ⟨g,i,none⟩ u) (some g):=
 ⟨rfl,rfl,rfl,by simp[World.setCell],λk _ hk=>by
  simp[World.setCell,Array.getElem?_modify];intro e;exact absurd (congrArg some e.symm) hk⟩
end
def lk(l:List UInt8)(p e:Nat)(lo hi:Int):Int×Nat×Nat:=
 if e≠0 then (0,0,e)else if gE (l.drop p)≠0 then (0,0,gE (l.drop p))else if gN (l.drop p)<lo∨hi<gN (l.drop p)then (0,0,2)else (gN (l.drop p),gK (l.drop p),0)
theorem Yv3{lo:Int}(h:gE (l.drop p)=0)(h': ¬(gN (l.drop p)<lo∨hi<gN (l.drop p))):lk l p 0 lo hi=(gN (l.drop p),gK (l.drop p),0):=by
 unfold lk;rw[if_neg (by simp),if_neg (by simpa using h),if_neg h']
def tx(l:List UInt8)(p e:Nat)(hi:Int):List UInt8×Nat×Nat:=
 let r:=lk l p e 0 hi
 if r.2.2≠0 then ([],p,r.2.2)else if r.1.toNat<=l.length-p-r.2.1 then ((l.drop (p+r.2.1)).take r.1.toNat,p+r.2.1+r.1.toNat,0)else ([],p,3)
theorem Yv6{k:Nat}{m:Int}(h:lk l p e 0 hi=(m,k,0))(hm:m.toNat<=l.length-p-k):tx l p e hi=((l.drop (p+k)).take m.toNat,p+k+m.toNat,0):=by
 unfold tx;rw[h];simp[hm]
end
def rdS(n:Nat)(l:List UInt8)(x:List Pth×Nat×Nat):List Pth×Nat×Nat:=
 let k:=lk l x.2.1 x.2.2 0 x.1.length
 let t:=tx l (x.2.1+k.2.1) k.2.2 12
 if Yr8 n x.1 k.1.toNat t.1 then (x.1++[pth x.1 k.1.toNat++[t.1]],t.2.1,t.2.2)else (x.1,t.2.1,if t.2.2=0 then 2 else t.2.2)
def rdN(n:Nat)(l:List UInt8)(x:List Pth×Nat×Nat):Nat->List Pth×Nat×Nat
 |0=>x
 |i+1=>rdS n l (rdN n l x i)
theorem Yvh{n:Nat}{a k1 e1:Nat}{s:Txt}{p2 e2:Nat}(h1:lk l p e 0 Q.length=((a:Int),k1,e1))(h2:tx l (p+k1) e1 12=(s,p2,e2)):
  rdS n l (Q,p,e)=if Yr8 n Q a s then (Q++[pth Q a++[s]],p2,e2)else (Q,p2,if e2=0 then 2 else e2):=by
 unfold rdS;simp only[h1,h2,Int.toNat_natCast]
theorem Ue(hb:Below w.heap.size w a)(r:Option Nat):w.grownBy a r:=⟨hb.os,hb.tape,hb.output,hb.size,λk hk _=>hb.block k hk⟩
theorem F9{c:World}{b:Nat}(hb:Below w.heap.size w a)(hg:a.grownBy c (some b)):w.grownBy c (some b):=Vk (Ue hb _) hg λ_ h=>.inl h
def Z1(x:Int):List UInt8:=enc (zig x)
theorem V0{x:Int}(h: -9223372036854775808<=x)(h':x<=9223372036854775807):(Z1 x).length<=10:=U3 (Tz h h')
theorem Ye8{α:Type}{f:α->List UInt8}{l:List α}(h:∀x∈l,(f x).length<=m):(l.flatMap f).length<=m*l.length:=by
 induction l with
 |nil=>simp
 |cons x r ih=>
  have h1:=h x (by simp)
  have h2:=ih λy hy=>h y (af _ hy)
  rw[List.flatMap_cons,List.length_append,br,Nat.mul_succ];omega
abbrev Fct:=List (List Txt)×List Int
def U1(f:Fct):Prop:=f.1.length<=3/\(∀p∈f.1,Un p)/\f.2.length<=2/\∀x∈f.2,inV x
instance (f:Fct):Decidable (U1 f):=by unfold U1;exact inferInstance
def Ub(D:List Yk)(m:Nat)(f:Fct):Prop:=U1 f/\f.1.length=D.length/\f.2.length=m/\∀i,i<D.length->(f.1.getD i []).length=(D.getD i Wn).2.length
instance (D:List Yk) (m:Nat) (f:Fct):Decidable (Ub D m f):=by unfold Ub;exact inferInstance
def Ur(L:List Fct)(least:Nat)(ok:Fct->Prop)[DecidablePred ok]:Nat:=if L.length<least∨8<L.length then 13 else if ∃f∈L,¬ok f then 12 else 0
def Wf(D:List Yk)(M:List Txt)(V:List (List Int))(L:List Fct):Nat:=if Wk D M V then Ur L 1 (Ub D M.length)else 11
theorem Ol{L:List Fct}{ok:Fct->Prop}[DecidablePred ok](h:L.length<m∨8<L.length):Ur L m ok=13:=if_pos h
theorem Yo2{L:List Fct}{ok:Fct->Prop}[DecidablePred ok](h:¬(L.length<m∨8<L.length))(h': ∃f∈L,¬ok f):Ur L m ok=12:=by unfold Ur;rw[if_neg h,if_pos h']
theorem Jt{L:List Fct}{ok:Fct->Prop}[DecidablePred ok]:Ur L m ok=0↔m<=L.length/\L.length<=8/\∀f∈L,ok f:=by
 unfold Ur
 split
 ·constructor
  ·intro h;cases h
  ·intro h;omega
 ·split
  ·rename_i h
   obtain⟨f,hf,hn⟩:=h;constructor
   ·intro h;cases h
   ·intro h;exact absurd (h.2.2 f hf) hn
  ·rename_i h1 h2
   exact⟨λ_=>⟨by omega,by omega,λf hf=>aa λhn=>h2 ⟨f,hf,hn⟩⟩,λ_=>rfl⟩
theorem Yi2(m:Int)(v:List Int):(Vb m [v]).2=0↔(0<=m/\m<=2/\isVal m v):=by
 by_cases h:m<0∨2<m
 ·unfold Vb
  rw[if_pos h];constructor
  ·intro h;cases h
  ·intro h;omega
 ·by_cases hv:isVal m v
  ·rw[J5 h (by intro u hu;rw[aq.1 hu];exact hv) (by simp),if_pos]
   ·simp only[true_iff]
    exact⟨by omega,by omega,hv⟩
   ·intro k hk
    have hx:inV (v.getD k 0):=by
     have hkl:k<v.length:=by have:=hv.1;omega
     have e:v.getD k 0=v[k]:=by rw[ar,aj hkl];rfl
     rw[e];exact hv.2 _ (List.getElem_mem hkl)
    unfold inV at hx;simp only[Wp,bj,List.map_nil,Y4,inS];omega
  ·rw[Tk (.inr (.inr ⟨v,by simp,hv⟩))]
   constructor
   ·intro h;cases h
   ·intro h;exact absurd h.2.2 hv
def Ytw(t:Int×Int×Int):List UInt8:=Z1 t.1++(Z1 t.2.1++Z1 t.2.2)
def ofC(m:Nat)(x:PC):Int×List (Int×Int×Int):=(x.1,(List.range m).map λk=>(x.2.1.getD k 0,x.2.2.1.getD k 0,x.2.2.2.getD k 0))
def Yrw(z:List Int×Int×List (Int×Int×Int)):List UInt8:=z.1.flatMap Z1++(Z1 z.2.1++z.2.2.flatMap Ytw)
def Vm(m:Nat)(d:List Int×PC):List UInt8:=Yrw (d.1,ofC m d.2)
theorem Uh{x:PC}(h:Yu m x):1<=x.1/\x.1<=1099511627776/\∀k,k<m->inS (x.2.1.getD k 0)/\inV (x.2.2.1.getD k 0)/\inV (x.2.2.2.getD k 0):=by
 obtain⟨⟨_,_,_,h4⟩,h5,h6⟩:=h
 rcases h4 with h4|h4
 ·exact absurd (by rw[h4];rfl) h5
 ·obtain⟨a1,a2,a3⟩:=h4
  exact⟨a1,a2,λk hk=>by
   obtain⟨_,b1,b2,b3,_⟩:=a3 k (by rw[h6];exact hk)
   exact⟨b3,b1,b2⟩⟩
def Ylx(m:Nat)(C:Cub):List UInt8:=Z1 (C.length:Int)++C.flatMap (Vm m)
def Yxa(C:Cub)(a:Int×Int×Int):Prop:=(C=[]/\a=(-1,0,0))∨(C≠[]/\a=Sg (C.getLastD ([],Yl)).1)
section
theorem Yet{m:Nat}(hm:m<=2){l:List (List Int)}(hn:l.length<=1000)(_h0:l≠[])(hv:∀v∈l,isVal m v):Vb m l=if Zn (Yp m (l.map W5))then (Yp m (l.map W5),0)else (Yl,14):=by
 have hL:∀c∈Y0 m::l.map W5,Zn c/\c.2.1.length=m:=by
  intro c hc
  rcases an.1 hc with rfl|hc
  ·exact⟨⟨by simpa[Y0]using hm,by simp[Y0],by simp[Y0],.inl (by simp[Y0])⟩,by simp[Y0]⟩
  ·obtain⟨v,hv',rfl⟩:=ae.1 hc
   exact(Kl hm v).2 (hv v hv')
 have h1:=Ycs (k:=1) hm (by simp) hL (by intro c hc;simp at hc;subst hc;rfl)
 rw[Ybj hm l hn]at h1;simpa using h1
theorem Ya3{m:Nat}(hm:m<=2){v:List Int}(h:isVal m v):Yu m (W5 v):=by
 obtain⟨h1,h2⟩:=(Kl hm v).2 h;exact⟨h1,by simp[W5],h2⟩
section
variable {α K:Type} [DecidableEq K]
def Yf(κ:α->K)(c:α->PC)(F:List α)(k:K):List PC:=(F.filter λf=>decide (κ f=k)).map c
theorem Tw(κ:α->K)(c:α->PC)(F G:List α)(k:K):Yf κ c (F++G) k=Yf κ c F k++Yf κ c G k:=by unfold Yf;rw[List.filter_append,az]
theorem Wl{κ:α->K}{c:α->PC}{F:List α}{k:K}:Yf κ c F k≠[]↔∃f∈F,κ f=k:=by
 unfold Yf;constructor
 ·intro h
  obtain⟨c,hc⟩:=au _ h;obtain⟨f,hf,_⟩:=ae.1 hc
  have h2:=ag.1 hf
  exact⟨f,h2.1,of_decide_eq_true h2.2⟩
 ·rintro⟨f,hf,e⟩ h
  have h2:f∈F.filter λf=>decide (κ f=k):=ag.2 ⟨hf,decide_eq_true e⟩
  rw[bn.1 h]at h2;simp at h2
theorem Uw{m:Nat}{κ:α->K}{c:α->PC}{F:List α}(hF:∀f∈F,Yu m (c f))(k:K):∀x∈Yf κ c F k,Full m x:=by
 intro x hx;obtain⟨f,hf,rfl⟩:=ae.1 hx;exact(hF f (ag.1 hf).1).full
def okF(m:Nat)(κ:α->K)(c:α->PC)(F:List α):Prop:=∀f∈F,Zn (Yp m (Yf κ c F (κ f)))
def Vx(κ:α->K):List α->List K->List K
 |[],acc=>acc
 |f::F,acc=>Vx κ F (if κ f∈acc then acc else acc++[κ f])
theorem Yar(κ:α->K):∀(F:List α) (f:α) (acc:List K),Vx κ (F++[f]) acc=if κ f∈Vx κ F acc then Vx κ F acc else Vx κ F acc++[κ f]
 |[],f,acc=>rfl
 |g::F,f,acc=>by
  show Vx κ (F++[f]) _=_
  rw[Yar κ F f];rfl
theorem Sj(κ:α->K):∀(F:List α) (acc:List K) (k:K),k∈Vx κ F acc↔k∈acc∨∃f∈F,κ f=k
 |[],acc,k=>by simp[Vx]
 |g::F,acc,k=>by
  rw[Vx,Sj κ F]
  by_cases h:κ g∈acc
  ·rw[if_pos h]
   constructor
   ·rintro(h1|⟨f,hf,e⟩)
    ·exact .inl h1
    ·exact .inr ⟨f,af _ hf,e⟩
   ·rintro(h1|⟨f,hf,e⟩)
    ·exact .inl h1
    ·rcases an.1 hf with rfl|hf
     ·exact .inl (e▸h)
     ·exact .inr ⟨f,hf,e⟩
  ·rw[if_neg h]
   constructor
   ·rintro(h1|⟨f,hf,e⟩)
    ·rcases ak.1 h1 with h1|h1
     ·exact .inl h1
     ·exact .inr ⟨g,by simp,(aq.1 h1).symm⟩
    ·exact .inr ⟨f,af _ hf,e⟩
   ·rintro(h1|⟨f,hf,e⟩)
    ·exact .inl (ao _ h1)
    ·rcases an.1 hf with rfl|hf
     ·exact .inl (av _ (by simp[e]))
     ·exact .inr ⟨f,hf,e⟩
theorem Oh(κ:α->K):∀(F:List α) (acc:List K),acc.Nodup->(Vx κ F acc).Nodup
 |[],_,h=>h
 |g::F,acc,h=>by
  rw[Vx];refine Oh κ F _ ?_
  split
  ·exact h
  ·rename_i hn
   refine List.nodup_append.2 ⟨h,by simp,λa ha b hb e=>?_⟩
   rw[aq.1 hb]at e;exact hn (e▸ha)
theorem E9(κ:α->K):∀(F:List α) (acc:List K),(Vx κ F acc).length<=acc.length+F.length
 |[],acc=>by simp[Vx]
 |g::F,acc=>by
  rw[Vx]
  have h:=E9 κ F (if κ g∈acc then acc else acc++[κ g])
  have h2:(if κ g∈acc then acc else acc++[κ g]).length<=acc.length+1:=by split <;> simp
  simp only[br];omega
theorem Mg{κ:α->K}{F:List α}{i:Nat}{f:α}(h:F[i]?=some f):Vx κ (F.take (i+1)) []=if κ f∈Vx κ (F.take i) []then Vx κ (F.take i) []else Vx κ (F.take i) []++[κ f]:=by
 rw[List.take_add_one,h];exact Yar κ _ _ _
theorem Yer{κ:α->K}{c:α->PC}{F:List α}{i:Nat}{k:K}(h:k∉Vx κ (F.take i) []):Yf κ c (F.drop i) k=Yf κ c F k:=by
 have h1:Yf κ c (F.take i) k=[]:=aa λhn=>h ((Sj κ _ _ _).2 (.inr (Wl.1 hn)))
 have h2:=Tw κ c (F.take i) (F.drop i) k
 rw[List.take_append_drop,h1,List.nil_append]at h2;exact h2.symm
theorem Gi{m:Nat}{A B:List PC}(hA:∀c∈A,Full m c)(hB:∀c∈B,Full m c)(nA:A≠[]):Yp m (Yp m A::B)=Yp m (A++B):=by
 have hs:=S7 hA nA
 by_cases nB:B=[]
 ·subst nB
  rw[bg,Q1 hs]
 ·rw[show Yp m A::B=[Yp m A]++B from rfl,Jb (λc hc=>by rw[aq.1 hc];exact hs) hB (by simp) nB,Q1 hs,<-Jb hA hB nA nB]
end
/-! ### rows,and a Bo -/
section
variable {α:Type}
structure Xr (m:Nat) (κ:α->Zd) (c:α->PC) (F:List α) (R:Rws):Prop where
 ris:Cj R
 all:∀x,x∈R↔(∃f∈F,κ f=x.1)/\x.2=Yp m (Yf κ c F x.1)
theorem Xr.one{m:Nat}{κ:α->Zd}{c:α->PC}{F:List α}{R Q:Rws}(h:Xr m κ c F R)(h':Xr m κ c F Q):R=Q:=Yfp h.ris h'.ris λx=>(h.all x).trans (h'.all x).symm
structure Wq (m:Nat) (κ:α->List Int) (c:α->PC) (F:List α) (C:Cub):Prop where
 ris:Ris C
 all:∀x,x∈C↔(∃f∈F,κ f=x.1)/\x.2=Yp m (Yf κ c F x.1)
theorem Wq.get{m:Nat}{κ:α->List Int}{c:α->PC}{F:List α}{C:Cub}(h:Wq m κ c F C)(k:List Int):Za C k=if ∃f∈F,κ f=k then some (Yp m (Yf κ c F k))else none:=by
 by_cases hk:∃f∈F,κ f=k
 ·rw[if_pos hk]
  exact Uv h.ris ((h.all (k,_)).2 ⟨hk,rfl⟩)
 ·rw[if_neg hk,Tn]
  intro hm;obtain⟨x,hx,rfl⟩:=ae.1 hm;exact hk ((h.all x).1 hx).1
theorem Wq.Yvo{m:Nat}{κ:α->List Int}{c:α->PC}{F:List α}{C:Cub}(hr:Ris C)(h:∀k,Za C k=if ∃f∈F,κ f=k then some (Yp m (Yf κ c F k))else none):Wq m κ c F C:=
 ⟨hr,λx=>by
  constructor
  ·intro hx
   have h1:=Uv hr hx
   rw[h]at h1
   split at h1
   ·rename_i hk
    injection h1 with h1
    exact⟨hk,h1.symm⟩
   ·cases h1
  ·rintro⟨hk,e⟩
   have h1:=h x.1
   rw[if_pos hk,<-e]at h1;exact Xe h1⟩
theorem Ve{κ:α->List Int}{μ:α->Zd}{c:α->PC}{F:List α}(h:∀f∈F,∀g∈F,κ f=κ g↔μ f=μ g){f:α}(hf:f∈F):Yf κ c F (κ f)=Yf μ c F (μ f):=by
 unfold Yf
 congr 1
 refine ai λg hg=>?_
 have h1:=h g hg f hf
 by_cases e:κ g=κ f
 ·rw[decide_eq_true e,decide_eq_true (h1.1 e)]
 ·rw[decide_eq_false e,decide_eq_false (λe'=>e (h1.2 e'))]
theorem Wq.rows{m:Nat}{κ:α->List Int}{μ:α->Zd}{c:α->PC}{F:List α}{C:Cub}{R:Rws}(hC:Wq m κ c F C)(h:∀f∈F,∀g∈F,κ f=κ g↔μ f=μ g)(ψ:List Int->Zd)(hψ:∀f∈F,ψ (κ f)=μ f)(hR:Cj R)(hp:R.Perm (C.map λe=>(ψ e.1,e.2))):Xr m μ c F R:=
 ⟨hR,λx=>by
  rw[hp.mem_iff,ae];constructor
  ·rintro⟨e,he,rfl⟩
   obtain⟨⟨f,hf,hk⟩,hc⟩:=(hC.all e).1 he
   have h2:ψ e.1=μ f:=by rw[<-hk];exact hψ f hf
   refine⟨⟨f,hf,h2.symm⟩,?_⟩
   show e.2=Yp m (Yf μ c F (ψ e.1))
   rw[hc,<-hk,Ve h hf,hψ f hf]
  ·rintro⟨⟨f,hf,hk⟩,hc⟩
   refine⟨(κ f,Yp m (Yf κ c F (κ f))),(hC.all _).2 ⟨⟨f,hf,rfl⟩,rfl⟩,?_⟩;refine Prod.ext ?_ ?_
   ·show ψ (κ f)=x.1
    rw[hψ f hf,hk]
   ·show Yp m (Yf κ c F (κ f))=x.2
    rw[Ve h hf,hc,hk]⟩
def V7(m:Nat)(κ:α->Zd)(c:α->PC)(F:List α)(i:Nat):Rws:=(Vx κ (F.take i) []).map λk=>(k,Yp m (Yf κ c F k))
theorem Dd(m:Nat)(κ:α->Zd)(c:α->PC)(F:List α)(i:Nat):(V7 m κ c F i).map (·.1)=Vx κ (F.take i) []:=by
 unfold V7;rw[ay];exact List.map_id' _
theorem Yon{m:Nat}{κ:α->Zd}{c:α->PC}{F:List α}{i:Nat}{f:α}(h:F[i]?=some f)(hh:κ f∈Vx κ (F.take i) []):V7 m κ c F (i+1)=V7 m κ c F i:=by
 unfold V7;rw[Mg h,if_pos hh]
theorem Yol{m:Nat}{κ:α->Zd}{c:α->PC}{F:List α}{i:Nat}{f:α}(h:F[i]?=some f)(hh:κ f∉Vx κ (F.take i) []):V7 m κ c F (i+1)=V7 m κ c F i++[(κ f,Yp m (Yf κ c F (κ f)))]:=by
 unfold V7;rw[Mg h,if_neg hh,az];rfl
theorem Ymt(m:Nat)(κ:α->Zd)(c:α->PC)(F:List α)(i:Nat):(V7 m κ c F i).Pairwise λa b=>a.1≠b.1:=by
 have h:=Oh κ (F.take i) [] List.nodup_nil
 unfold V7;rw[bo];exact h
theorem Yiq{m:Nat}{κ:α->Zd}{c:α->PC}{F:List α}{R:Rws}(h:Sel (V7 m κ c F F.length) R []):Xr m κ c F R:=
 ⟨h.end_.1,λx=>by
  rw[h.end_.2.mem_iff];unfold V7;rw[List.take_length,ae];constructor
  ·rintro⟨k,hk,rfl⟩
   rcases(Sj κ F [] k).1 hk with h1|h1
   ·simp at h1
   ·exact⟨h1,rfl⟩
  ·rintro⟨hk,e⟩
   exact⟨x.1,(Sj κ F [] x.1).2 (.inr hk),Prod.ext rfl e.symm⟩⟩
end
end
def Vo:List Int->List Pth->Zd
 |n::v,p::P=>p.take n.toNat::Vo v P
 |_,_=>[]
def Xk:List (List Pth)->List Int->List Pth->List Int
 |Q::Qs,n::v,p::P=>((fnd Q (p.take n.toNat):Nat):Int)::Xk Qs v P
 |_,_,_=>[]
def Z2:List (List Pth)->List Int->Zd
 |Q::Qs,c::k=>pth Q c.toNat::Z2 Qs k
 |_,_=>[]
def Xy:List (List Pth)->List Int->List Pth->Prop
 |Q::Qs,n::v,p::P=>(p.take n.toNat=[]∨p.take n.toNat∈Q)/\Xy Qs v P
 |[],[],[]=>True
 |_,_,_=>False
def Pn(Qs:List (List Pth)):Prop:=∀Q∈Qs,[]∉Q
theorem Yri(h0:[]∉Q){a b:Pth}(ha:a=[]∨a∈Q)(hb:b=[]∨b∈Q):fnd Q a=fnd Q b↔a=b:=by
 constructor
 ·intro h
  rcases ha with rfl|ha
  ·rcases hb with rfl|hb
   ·rfl
   ·rw[S0 h0]at h
    exact absurd (Vf.2 hb) (by omega)
  ·exact Ysr h ha
 ·rintro rfl;rfl
theorem Ca:∀{Qs:List (List Pth)}{v:List Int}{P P':List Pth},Pn Qs->Xy Qs v P->Xy Qs v P'→(Xk Qs v P=Xk Qs v P'↔Vo v P=Vo v P')
 |[],[],[],[],_,_,_=>by simp[Xk,Vo]
 |Q::Qs,n::v,p::P,p'::P',h0,h,h'=>by
  have h1:=Yri (h0 Q (by simp)) h.1 h'.1
  have h2:=Ca (Qs:=Qs) (v:=v) (P:=P) (P':=P') (λQ hQ=>h0 Q (af _ hQ)) h.2 h'.2
  simp only[Xk,Vo,ax,Int.natCast_inj];exact and_congr h1 h2
 |[],_::_,_,_,_,h,_=>h.elim
 |[],[],_::_,_,_,h,_=>h.elim
 |[],[],[],_::_,_,_,h=>h.elim
 |_::_,[],_,_,_,h,_=>h.elim
 |_::_,_::_,[],_,_,h,_=>h.elim
 |_::_,_::_,_::_,[],_,_,h=>h.elim
theorem Ov:∀{Qs:List (List Pth)}{v:List Int}{P:List Pth},Pn Qs->Xy Qs v P->Z2 Qs (Xk Qs v P)=Vo v P
 |[],[],[],_,_=>rfl
 |Q::Qs,n::v,p::P,h0,h=>by
  have h2:=Ov (Qs:=Qs) (v:=v) (P:=P) (λQ hQ=>h0 Q (af _ hQ)) h.2
  simp only[Xk,Vo,Z2,Int.toNat_natCast,ax];refine⟨?_,h2⟩
  rcases h.1 with e|hm
  ·rw[e,S0 (h0 Q (by simp))]
   rfl
  ·exact Qd hm
 |[],_::_,_,_,h=>h.elim
 |[],[],_::_,_,h=>h.elim
 |_::_,[],_,_,h=>h.elim
 |_::_,_::_,[],_,h=>h.elim
def Vh:List (List Pth)->List (List Pth)->Prop
 |Q::Qs,R::Rs=>(∃M,R=Q++M)/\Vh Qs Rs
 |[],[]=>True
 |_,_=>False
theorem Vh.refl:∀Qs:List (List Pth),Vh Qs Qs
 |[]=>trivial
 |Q::Qs=>⟨⟨[],by simp⟩,Vh.refl Qs⟩
theorem Vh.trans:∀{Qs Rs Ts:List (List Pth)},Vh Qs Rs->Vh Rs Ts->Vh Qs Ts
 |[],[],[],_,_=>trivial
 |Q::Qs,R::Rs,T::Ts,⟨⟨M,e⟩,h⟩,⟨⟨M',e'⟩,h'⟩=>⟨⟨M++M',by rw[e',e,List.append_assoc]⟩,Vh.trans h h'⟩
 |[],_::_,_,h,_=>h.elim
 |_::_,[],_,h,_=>h.elim
 |[],[],_::_,_,h=>h.elim
 |_::_,_::_,[],_,h=>h.elim
theorem Xy.grown:∀{Qs Rs:List (List Pth)}{v:List Int}{P:List Pth},Vh Qs Rs->Xy Qs v P->Xy Rs v P
 |[],[],_,_,_,h=>h
 |Q::Qs,R::Rs,n::v,p::P,⟨⟨M,e⟩,hg⟩,h=>⟨h.1.imp id λhm=>by rw[e];exact ao _ hm,Xy.grown hg h.2⟩
 |Q::Qs,R::Rs,[],_,_,h=>h.elim
 |Q::Qs,R::Rs,_::_,[],_,h=>h.elim
 |[],_::_,_,_,h,_=>h.elim
 |_::_,[],_,_,h,_=>h.elim
theorem Ln:∀{Qs Rs:List (List Pth)}{v:List Int}{P:List Pth},Vh Qs Rs->Pn Rs->Xy Qs v P->Xk Rs v P=Xk Qs v P
 |[],[],_,_,_,_,_=>rfl
 |Q::Qs,R::Rs,n::v,p::P,⟨⟨M,e⟩,hg⟩,h0,h=>by
  have h2:=Ln hg (λQ hQ=>h0 Q (af _ hQ)) h.2
  simp only[Xk,ax,Int.natCast_inj];refine⟨?_,h2⟩
  rcases h.1 with e1|hm
  ·have hR:[]∉R:=h0 R (by simp)
   rw[e1,S0 hR,S0 (λhq=>hR (by rw[e];exact ao _ hq))]
  ·rw[e]
   exact Kx hm
 |Q::Qs,R::Rs,[],_,_,_,h=>h.elim
 |Q::Qs,R::Rs,_::_,[],_,_,h=>h.elim
 |[],_::_,_,_,h,_,_=>h.elim
 |_::_,[],_,_,h,_,_=>h.elim
theorem Wq.more{α:Type}{κ:α->List Int}{c:α->PC}{F G:List α}{D:Cub}(hF:∀f∈F,Yu m (c f))(hG:∀f∈G,Yu m (c f))(hC:Wq m κ c F C)(hr:Ris D)
  (hD:∀k,Za D k=if ∃g∈G,κ g=k then some (Yp m ((Za C k).toList++Yf κ c G k))else Za C k):Wq m κ c (F++G) D:=by
 refine Wq.Yvo hr λk=>?_
 rw[hD k]
 by_cases hg:∃g∈G,κ g=k
 ·have hfg:∃f∈F++G,κ f=k:=by
   obtain⟨g,hg1,hg2⟩:=hg;exact⟨g,av _ hg1,hg2⟩
  rw[if_pos hg,if_pos hfg,Tw,hC.get]
  by_cases hf:∃f∈F,κ f=k
  ·rw[if_pos hf]
   show some (Yp m (Yp m (Yf κ c F k)::Yf κ c G k))=_
   rw[Gi (Uw hF k) (Uw hG k) (Wl.2 hf)]
  ·rw[if_neg hf]
   have h0:Yf κ c F k=[]:=aa λh=>hf (Wl.1 h)
   rw[h0];rfl
 ·rw[if_neg hg,hC.get]
  have h0:Yf κ c G k=[]:=aa λh=>hg (Wl.1 h)
  by_cases hf:∃f∈F,κ f=k
  ·have hfg:∃f∈F++G,κ f=k:=by
    obtain⟨g,hg1,hg2⟩:=hf;exact⟨g,ao _ hg1,hg2⟩
   rw[if_pos hf,if_pos hfg,Tw,h0,bg]
  ·rw[if_neg hf,if_neg]
   rintro⟨f,h1,h2⟩
   rcases ak.1 h1 with h1|h1
   ·exact hf ⟨f,h1,h2⟩
   ·exact hg ⟨f,h1,h2⟩
theorem Yqo{α:Type}{κ:α->List Int}{c:α->PC}{F G:List α}(hF:∀f∈F,Yu m (c f))(hG:∀f∈G,Yu m (c f))(hC:Wq m κ c F C)(hok:okF m κ c F):
  okF m κ c (F++G)↔∀g∈G,Zn (Yp m ((Za C (κ g)).toList++Yf κ c G (κ g))):=by
 have key:∀g∈G,Yp m ((Za C (κ g)).toList++Yf κ c G (κ g))=Yp m (Yf κ c (F++G) (κ g)):=λg hg=>by
  rw[Tw,hC.get]
  by_cases hf:∃f∈F,κ f=κ g
  ·rw[if_pos hf]
   show Yp m (Yp m (Yf κ c F (κ g))::Yf κ c G (κ g))=_
   rw[Gi (Uw hF _) (Uw hG _) (Wl.2 hf)]
  ·rw[if_neg hf]
   have h0:Yf κ c F (κ g)=[]:=aa λh=>hf (Wl.1 h)
   rw[h0];rfl
 constructor
 ·intro h g hg
  rw[key g hg];exact h g (av _ hg)
 ·intro h f hf
  by_cases hg:∃g∈G,κ g=κ f
  ·obtain⟨g,hg1,hg2⟩:=hg
   rw[<-hg2,<-key g hg1];exact h g hg1
  ·have h0:Yf κ c G (κ f)=[]:=aa λh=>hg (Wl.1 h)
   rw[Tw,h0,bg]
   rcases ak.1 hf with hf|hf
   ·exact hok f hf
   ·exact absurd ⟨f,hf,rfl⟩ hg
theorem Ybx{α:Type}{κ:α->List Int}{μ:α->Zd}{c:α->PC}{F:List α}(h:∀f∈F,∀g∈F,κ f=κ g↔μ f=μ g):okF m κ c F↔okF m μ c F:=by
 unfold okF;constructor
 ·intro hk f hf
  rw[<-Ve h hf];exact hk f hf
 ·intro hk f hf
  rw[Ve h hf];exact hk f hf
def kC{β:Type}(Qs:List (List Pth))(v:List Int)(f:Zd×β):List Int:=Xk Qs v f.1
def kP{β:Type}(v:List Int)(f:Zd×β):Zd:=Vo v f.1
theorem Uz{β:Type}{F:List (Zd×β)}(h0:Pn Qs)(h:∀f∈F,Xy Qs v f.1):∀f∈F,∀g∈F,kC Qs v f=kC Qs v g↔kP v f=kP v g:=λf hf g hg=>Ca h0 (h f hf) (h g hg)
theorem El{β:Type}{F:List (Zd×β)}(h0:Pn Qs)(h:∀f∈F,Xy Qs v f.1):∀f∈F,Z2 Qs (kC Qs v f)=kP v f:=λf hf=>Ov h0 (h f hf)
theorem Wq.grown{Rs:List (List Pth)}{β:Type}{c:Zd×β->PC}{F:List (Zd×β)}(hC:Wq m (kC Qs v) c F C)(hg:Vh Qs Rs)(h0:Pn Rs)(h:∀f∈F,Xy Qs v f.1):Wq m (kC Rs v) c F C:=by
 have e:∀f∈F,kC Rs v f=kC Qs v f:=λf hf=>Ln hg h0 (h f hf)
 have e2:∀k,Yf (kC Rs v) c F k=Yf (kC Qs v) c F k:=λk=>by
  unfold Yf
  congr 1
  refine ai λf hf=>?_
  rw[e f hf]
 refine⟨hC.ris,λx=>?_⟩
 rw[hC.all x,e2];refine and_congr_left λ_=>?_
 constructor
 ·rintro⟨f,hf,hk⟩;exact⟨f,hf,by rw[e f hf,hk]⟩
 ·rintro⟨f,hf,hk⟩;exact⟨f,hf,by rw[<-e f hf,hk]⟩
def Ox(L:Rws)(i j:Nat):Prop:=j<i/\∀(k:Nat) (a b:Zd×PC),k<i->L[k]?=some a->L[j]?=some b→¬Xb a.1 b.1
theorem Yha:Ox L 1 0:=⟨by omega,λk a b hk ha hb=>by
 obtain rfl:k=0:=by omega
 rw[ha]at hb;injection hb with hb
 rw[hb];exact Wy _⟩
theorem Ydz{a:Zd×PC}(h:Ox L i j)(ha:L[i]?=some a)(hb:L[j]?=some b)(hl:Xb a.1 b.1):Ox L (i+1) i:=⟨by omega,λk x y hk hx hy=>by
 rw[ha]at hy;injection hy with hy
 subst hy
 by_cases hki:k=i
 ·subst hki
  rw[ha]at hx;injection hx with hx
  rw[hx];exact Wy _
 ·exact λh1=>h.2 k x b (by omega) hx hb (Sr h1 hl)⟩
theorem Ygo{a:Zd×PC}(h:Ox L i j)(ha:L[i]?=some a)(hb:L[j]?=some b)(hl:¬Xb a.1 b.1):Ox L (i+1) j:=⟨by have:=h.1;omega,λk x y hk hx hy=>by
 by_cases hki:k=i
 ·subst hki
  rw[ha]at hx;injection hx with hx
  rw[hb]at hy;injection hy with hy
  rw[<-hx,<-hy];exact hl
 ·exact h.2 k x y (by omega) hx hy⟩
theorem Yfq(h:Ox L L.length j)(hb:L[j]?=some b):∀a∈L,¬Xb a.1 b.1:=λa ha=>by
 obtain⟨k,hk,rfl⟩:=List.getElem_of_mem ha;exact h.2 k _ b hk (aj hk) hb
abbrev Ydw(L:Rws)(k:Zd):List PC:=Yf (λe:Zd×PC=>e.1) (λe=>e.2) L k
structure Ywk (m:Nat) (L out l:Rws):Prop where
 left:l=L.filter λe=>decide (e.1∉out.map (·.1))
 ris:Cj out
 lt:∀a∈out,∀b∈l,Xb a.1 b.1
 val:∀x∈out,(∃e∈L,e.1=x.1)/\x.2=Yp m (Ydw L x.1)
theorem Ywk.cells{out l:Rws}(h:Ywk m L out l){k:Zd}(hk:∃e∈l,e.1=k):Ydw l k=Ydw L k:=by
 obtain⟨e,he,rfl⟩:=hk;rw[h.left]at he⊢
 have hn:=of_decide_eq_true (ag.1 he).2
 unfold Ydw Yf;rw[aw]
 congr 1
 refine ai λx hx=>?_
 by_cases hxe:x.1=e.1
 ·rw[decide_eq_true hxe,Bool.true_and,hxe,decide_eq_true hn]
 ·rw[decide_eq_false hxe,Bool.false_and]
theorem Ey{α K:Type}[DecidableEq K](κ:α->K)(F:List α):∀Ks:List K,Ks.Nodup->((Ks.map λj=>F.filter λf=>decide (κ f=j)).flatten).Perm (F.filter λf=>decide (κ f∈Ks))
 |[],_=>by simp
 |j::Ks,h=>by
  obtain⟨h1,h2⟩:=List.nodup_cons.1 h
  have ih:=Ey κ F Ks h2
  rw[bj,List.flatten_cons];refine(ih.append_left _).trans ?_
  have hp:=List.filter_append_perm (λf=>decide (κ f=j)) (F.filter λf=>decide (κ f∈j::Ks))
  rw[aw,aw]at hp
  have e1:(F.filter λf=>decide (κ f=j)&&decide (κ f∈j::Ks))=F.filter λf=>decide (κ f=j):=ai λf _=>by
   by_cases e:κ f=j
   ·simp[e]
   ·simp[e]
  have e2:(F.filter λf=>(!decide (κ f=j))&&decide (κ f∈j::Ks))=F.filter λf=>decide (κ f∈Ks):=ai λf _=>by
   by_cases e:κ f=j
   ·simp[e,h1]
   ·simp[e]
  rw[e1,e2]at hp;exact hp
theorem nodup_keys(h:Ris C)(p:List Int×PC->Bool):((C.filter p).map (·.1)).Nodup:=by
 refine bo.2 ?_;exact List.Pairwise.imp (λhl=>W6 hl) (List.Pairwise.filter p h)
theorem Wq.sum{α K:Type}[DecidableEq K]{m:Nat}{κ:α->List Int}{c:α->PC}{g:List Int->K}{F:List α}{B:Cub}(hF:∀f∈F,Yu m (c f))(hB:Wq m κ c F B){k:K}(hk:∃e∈B,g e.1=k):Yp m (Yf (λe:List Int×PC=>g e.1) (λe=>e.2) B k)=Yp m (Yf (λf=>g (κ f)) c F k):=by
 have e1:Yf (λe:List Int×PC=>g e.1) (λe=>e.2) B k=((B.filter λe=>decide (g e.1=k)).map λe=>Yf κ c F e.1).map (Yp m):=by
  unfold Yf;rw[ay];refine List.map_congr_left λe he=>?_
  exact((hB.all e).1 (ag.1 he).1).2
 have hne:((B.filter λe=>decide (g e.1=k)).map λe=>Yf κ c F e.1)≠[]:=λh=>by
  obtain⟨e,he,hk⟩:=hk
  have h2:e∈B.filter λe=>decide (g e.1=k):=ag.2 ⟨he,decide_eq_true hk⟩
  rw[bn.1 h]at h2;simp at h2
 have hg:∀x∈(B.filter λe=>decide (g e.1=k)).map λe=>Yf κ c F e.1,x≠[]/\∀y∈x,Full m y:=λx hx=>by
  obtain⟨e,he,rfl⟩:=ae.1 hx;obtain⟨hk',_⟩:=(hB.all e).1 (ag.1 he).1;exact⟨Wl.2 hk',Uw hF _⟩
 rw[e1,Yn7 hg hne]
 have hp:((B.filter λe=>decide (g e.1=k)).map λe=>Yf κ c F e.1).flatten.Perm (Yf (λf=>g (κ f)) c F k):=by
  have e2:((B.filter λe=>decide (g e.1=k)).map λe=>Yf κ c F e.1).flatten=((((B.filter λe=>decide (g e.1=k)).map (·.1)).map λj=>F.filter λf=>decide (κ f=j)).flatten).map c:=by
   rw[List.map_flatten,ay,ay];rfl
  rw[e2];unfold Yf;refine List.Perm.map c ((Ey κ F _ (nodup_keys hB.ris _)).trans ?_);refine List.Perm.of_eq (ai λf hf=>?_)
  have hiff:κ f∈(B.filter λe=>decide (g e.1=k)).map (·.1)↔g (κ f)=k:=by
   constructor
   ·intro h
    obtain⟨e,he,hek⟩:=ae.1 h;rw[<-hek];exact of_decide_eq_true (ag.1 he).2
   ·intro h
    exact ae.2 ⟨(κ f,Yp m (Yf κ c F (κ f))),ag.2 ⟨(hB.all _).2 ⟨⟨f,hf,rfl⟩,rfl⟩,decide_eq_true h⟩,rfl⟩
  by_cases h:g (κ f)=k
  ·rw[decide_eq_true h]
   have h9:=hiff.2 h
   simp only[decide_eq_true_eq];exact h9
  ·rw[decide_eq_false h]
   exact decide_eq_false_iff_not.2 (λh'=>h (hiff.1 h'))
 exact J3 hp (λy hy=>by
  obtain⟨x,hx,hy⟩:=bp.1 hy;exact(hg x hx).2 y hy) (λh=>by
  obtain⟨x,hx⟩:=au _ hne;obtain⟨y,hy⟩:=au _ (hg x hx).1
  have h2:y∈((B.filter λe=>decide (g e.1=k)).map λe=>Yf κ c F e.1).flatten:=bp.2 ⟨x,hx,hy⟩
  rw[h]at h2;simp at h2)
def Xw:List Nat->List (List Pth)->Prop
 |n::N,Q::Qs=>Good n Q/\Xw N Qs
 |[],[]=>True
 |_,_=>False
theorem Xw.Pa:∀{N:List Nat}{Qs:List (List Pth)},Xw N Qs->Pn Qs
 |[],[],_=>λQ h=>by simp at h
 |n::N,Q::Qs,⟨h,h'⟩=>λR hR=>by
  rcases an.1 hR with rfl|hR
  ·exact h.ne_nil
  ·exact Xw.Pa h' R hR
 |[],_::_,h=>h.elim
 |_::_,[],h=>h.elim
def Vi:List Nat->List (List Pth)->List Pth->List (List Pth)
 |n::N,Q::Qs,p::P=>Vt n Q p::Vi N Qs P
 |_,Qs,_=>Qs
def Nx:List Nat->List (List Pth)->List Pth->Nat
 |n::N,Q::Qs,p::P=>if Qm n Q p≠0 then Qm n Q p else Nx N Qs P
 |_,_,_=>0
theorem Yj4(n:Nat)(Q:List Pth)(p:Pth):∃M,Vt n Q p=Q++M:=by
 unfold Vt
 split
 ·exact⟨_,rfl⟩
 ·exact⟨[],by simp⟩
theorem Ll:∀(N:List Nat) (Qs:List (List Pth)) (P:List Pth),Vh Qs (Vi N Qs P)
 |n::N,Q::Qs,p::P=>⟨Yj4 n Q p,Ll N Qs P⟩
 |[],Qs,_=>by rw[Vi];exact Vh.refl Qs;all_goals simp
 |_::_,[],_=>trivial
 |_::_,Q::Qs,[]=>Vh.refl (Q::Qs)
theorem Md:∀{N:List Nat}{Qs:List (List Pth)}(P:List Pth),Xw N Qs->Xw N (Vi N Qs P)
 |_::_,_::_,_::P,⟨h,h'⟩=>⟨h.add,Md P h'⟩
 |[],[],_,h=>h
 |_::_,_::_,[],h=>h
 |[],_::_,_,h=>h.elim
 |_::_,[],_,h=>h.elim
def Of:List Nat->List Int->Prop
 |n::N,v::V=>0<=v/\v<=(n:Int)/\Of N V
 |[],[]=>True
 |_,_=>False
theorem Yfc:∀{N:List Nat}{Qs:List (List Pth)}{P:List Pth}{v:List Int},Xw N Qs->Of N v->P.length=N.length->Nx N Qs P=0->Xy (Vi N Qs P) v P
 |[],[],[],[],_,_,_,_=>trivial
 |n::N,Q::Qs,p::P,x::v,⟨hg,hG⟩,⟨h0,h1,hv⟩,hl,he=>by
  have he0:Qm n Q p=0:=aa λh=>by rw[Nx,if_pos h]at he;exact h he
  have he1:Nx N Qs P=0:=by rw[Nx,if_neg (λh=>h he0)]at he;exact he
  have hok:Pc n Q p:=aa λh=>by
   unfold Qm at he0;rw[if_neg h]at he0
   split at he0 <;> cases he0
  refine⟨?_,Yfc hG hv (by simpa using hl) he1⟩
  by_cases hx:x.toNat=0
  ·rw[hx];exact .inl (by simp)
  ·exact .inr (Good.Pp hg.add (Ynw hg hok) (by omega) (by rw[hok.1.1];omega))
 |[],_::_,_,_,h,_,_,_=>h.elim
 |_::_,[],_,_,h,_,_,_=>h.elim
 |[],[],_::_,_,_,_,hl,_=>by simp at hl
 |[],[],[],_::_,_,h,_,_=>h.elim
 |_::_,_::_,[],_,_,_,hl,_=>by simp at hl
 |_::_,_::_,_::_,[],_,h,_,_=>h.elim
def Zi(N:List Nat):List (List Pth)->List Fct->List (List Pth)×Nat
 |Qs,[]=>(Qs,0)
 |Qs,f::F=>if Nx N Qs f.1≠0 then (Qs,Nx N Qs f.1)else Zi N (Vi N Qs f.1) F
theorem Q7{N:List Nat}: ∀{F:List Fct}{Qs Rs:List (List Pth)},Xw N Qs->Zi N Qs F=(Rs,0)->Xw N Rs/\Vh Qs Rs/\∀v,Of N v->∀f∈F,f.1.length=N.length->Xy Rs v f.1
 |[],Qs,Rs,h,e=>by
  rw[Zi]at e;injection e with e _
  subst e;exact⟨h,Vh.refl _,λv _ f hf=>by simp at hf⟩
 |f::F,Qs,Rs,h,e=>by
  rw[Zi]at e
  by_cases he:Nx N Qs f.1≠0
  ·rw[if_pos he]at e
   injection e with _ e
   exact absurd e he
  ·rw[if_neg he]at e
   have he0:Nx N Qs f.1=0:=aa he
   obtain⟨h1,h2,h3⟩:=Q7 (Md f.1 h) e;refine⟨h1,(Ll N Qs f.1).trans h2,λv hv g hg hgl=>?_⟩
   rcases an.1 hg with rfl|hg
   ·exact(Yfc h hv hgl he0).grown h2
   ·exact h3 v hv g hg hgl
section
def Yj(D:List Yk):List Nat:=D.map λd=>d.2.length
abbrev Zb(f:Fct):PC:=W5 f.2
theorem Lu:∀{D:List Yk}{v:List Int},Z4 D v->Of (Yj D) v
 |[],[],_=>trivial
 |[],_::_,h=>by have:=h.1;simp at this
 |_::_,[],h=>by have:=h.1;simp at this
 |d::D,x::v,h=>by
  have h0:=h.2 0 (by simp)
  simp at h0;refine⟨h0.1,h0.2,Lu ⟨by have:=h.1;simpa using this,λi hi=>?_⟩⟩
  have h1:=h.2 (i+1) (by simpa using hi)
  simpa using h1
theorem Tm{D:List Yk}{M:List Txt}{V:List (List Int)}(h:Wk D M V):∀v∈Yg D V,Of (Yj D) v:=λv hv=>by
 rcases an.1 hv with rfl|hv
 ·exact Lu (F8 D)
 ·exact Lu (h.2.2.2.1 v hv)
theorem Yc6{D:List Yk}{m:Nat}{f:Fct}(h:Ub D m f):isVal m f.2:=⟨by have:=h.2.2.1;omega,h.1.2.2.2⟩
theorem Yg8{D:List Yk}{m:Nat}(hm:m<=2){f:Fct}(h:Ub D m f):Yu m (Zb f):=Ya3 hm (Yc6 h)
theorem Yc1{D:List Yk}{m:Nat}{f:Fct}(h:Ub D m f):f.1.map bs=Yj D:=by
 refine List.ext_getElem (by simp[Yj,h.2.1]) λi h1 h2=>?_
 have hi:i<D.length:=by simpa[Yj]using h2
 have hj:i<f.1.length:=by simpa using h1
 have h3:=h.2.2.2 i hi
 rw[ar,ar,aj hi,aj hj]at h3;simpa[Yj]using h3
abbrev Hld:=Zd×PC
def Zy(f:Fct):Hld:=(f.1,W5 f.2)
abbrev Zj(e:Hld):PC:=e.2
def Qx(E:List Hld):Int:=Y4 (E.map λe=>e.2.1)
theorem Bp(E G:List Hld):Qx (E++G)=Qx E+Qx G:=by
 unfold Qx;rw[az,D9]
theorem R0:∀G:List Fct,Qx (G.map Zy)=G.length
 |[]=>rfl
 |f::G=>by
  have h:=Bp [Zy f] (G.map Zy)
  rw[R0 G]at h;rw[bj,show Zy f::G.map Zy=[Zy f]++G.map Zy from rfl,h]
  simp[Qx,Zy,W5,Y4];omega
structure X4 (D:List Yk) (M:List Txt) (V:List (List Int)) (E:List Hld) (Qs:List (List Pth)):Prop where
 may:Wk D M V
 good:Xw (Yj D) Qs
 cell:∀e∈E,Yu M.length e.2
 lev:∀e∈E,e.1.map bs=Yj D
 has:∀v∈Yg D V,∀e∈E,Xy Qs v e.1
 ok:∀v∈Yg D V,okF M.length (kP v) Zj E
 cnt:Qx E<=1099511627776
theorem Az:∀{D:List Yk},(∀d∈D,Zm d.2 3)->Xw (Yj D) (D.map λ_=>[])
 |[],_=>trivial
 |d::D,h=>⟨Bs ⟨(h d (by simp)).1,(h d (by simp)).2.1⟩,Az λe he=>h e (af _ he)⟩
theorem X4.begin{D:List Yk}{M:List Txt}{V:List (List Int)}(h:Wk D M V):X4 D M V [] (D.map λ_=>[]):=
 ⟨h,Az h.1.1,λf hf=>by simp at hf,λf hf=>by simp at hf,λ_ _ f hf=>by simp at hf,λ_ _ f hf=>by simp at hf,by decide⟩
def Y8(D:List Yk)(M:List Txt)(V:List (List Int))(E:List Hld)(Qs:List (List Pth))(G:List Fct):(List Hld×List (List Pth))×Nat:=
 if Wf D M V G≠0 then ((E,Qs),Wf D M V G)
 else if (Zi (Yj D) Qs G).2≠0 then ((E,Qs),(Zi (Yj D) Qs G).2)
 else if ∃v∈Yg D V,∃e∈E++G.map Zy,¬Zn (Yp M.length (Yf (kP v) Zj (E++G.map Zy) (kP v e)))then ((E,Qs),14)
 else if Qx E+G.length>1099511627776 then ((E,Qs),14)
 else ((E++G.map Zy,(Zi (Yj D) Qs G).1),0)
section
variable {D:List Yk}{M:List Txt}{V:List (List Int)}{E:List Hld}{G:List Fct}{Qs:List (List Pth)}
theorem Pu(h:Wf D M V G≠0):Y8 D M V E Qs G=((E,Qs),Wf D M V G):=if_pos h
theorem Qc(h:Wf D M V G=0)(h2:(Zi (Yj D) Qs G).2≠0):Y8 D M V E Qs G=((E,Qs),(Zi (Yj D) Qs G).2):=by
 unfold Y8;rw[if_neg (λh'=>h' h),if_pos h2]
theorem Yql{m:Nat}{κ:Hld->Zd}{c:Hld->PC}{E:List Hld}: ¬okF m κ c E↔∃f∈E,¬Zn (Yp m (Yf κ c E (κ f))):=by
 constructor
 ·intro h
  exact aa λhn=>h λf hf=>aa λhc=>hn ⟨f,hf,hc⟩
 ·rintro⟨f,hf,hc⟩ h
  exact hc (h f hf)
theorem Om(h:Wf D M V G=0)(h2:(Zi (Yj D) Qs G).2=0){v:List Int}(hv:v∈Yg D V)(h3:¬okF M.length (kP v) Zj (E++G.map Zy)):Y8 D M V E Qs G=((E,Qs),14):=by
 unfold Y8;rw[if_neg (λh'=>h' h),if_neg (λh'=>h' h2),if_pos ⟨v,hv,Yql.1 h3⟩]
theorem Fg(h:Wf D M V G=0)(h2:(Zi (Yj D) Qs G).2=0)(h3:Qx E+G.length>1099511627776):Y8 D M V E Qs G=((E,Qs),14):=by
 unfold Y8;rw[if_neg (λh'=>h' h),if_neg (λh'=>h' h2)]
 split
 ·rfl
 ·first|rfl|(rw[if_pos h3])
theorem Gz(h:Wf D M V G=0)(h2:(Zi (Yj D) Qs G).2=0)(h3:∀v∈Yg D V,okF M.length (kP v) Zj (E++G.map Zy))(h4:Qx E+G.length<=1099511627776):Y8 D M V E Qs G=((E++G.map Zy,(Zi (Yj D) Qs G).1),0):=by
 unfold Y8;rw[if_neg (λh'=>h' h),if_neg (λh'=>h' h2),if_neg,if_neg (by omega)]
 rintro⟨v,hv,hf⟩;exact Yql.2 hf (h3 v hv)
theorem M5(h:Wf D M V G=0):∀f∈G,Ub D M.length f:=by
 unfold Wf at h
 split at h
 ·exact(Jt.1 h).2.2
 ·cases h
theorem X4.apply(h:X4 D M V E Qs)(G:List Fct):X4 D M V (Y8 D M V E Qs G).1.1 (Y8 D M V E Qs G).1.2:=by
 by_cases h1:Wf D M V G=0
 ·by_cases h2:(Zi (Yj D) Qs G).2=0
  ·by_cases h3:∀v∈Yg D V,okF M.length (kP v) Zj (E++G.map Zy)
   ·by_cases h4:Qx E+G.length<=1099511627776
    ·rw[Gz h1 h2 h3 h4]
     have hfit:=M5 h1
     have hm:M.length<=2:=h.may.2.1.2.1
     obtain⟨g1,g2,g3⟩:=Q7 (N:=Yj D) (F:=G) (Qs:=Qs) (Rs:=(Zi (Yj D) Qs G).1) h.good (Prod.ext rfl h2);refine⟨h.may,g1,λe he=>?_,λe he=>?_,λv hv e he=>?_,h3,?_⟩
     ·rcases ak.1 he with he|he
      ·exact h.cell e he
      ·obtain⟨f,hf,rfl⟩:=ae.1 he
       exact Yg8 hm (hfit f hf)
     ·rcases ak.1 he with he|he
      ·exact h.lev e he
      ·obtain⟨f,hf,rfl⟩:=ae.1 he
       exact Yc1 (hfit f hf)
     ·rcases ak.1 he with he|he
      ·exact(h.has v hv e he).grown g2
      ·obtain⟨f,hf,rfl⟩:=ae.1 he
       exact g3 v (Tm h.may v hv) f hf (by rw[(hfit f hf).2.1];simp[Yj])
     ·rw[Bp,R0]
      exact h4
    ·rw[Fg h1 h2 (by omega)]
     exact h
   ·obtain⟨v,hv,hb⟩: ∃v∈Yg D V,¬okF M.length (kP v) Zj (E++G.map Zy):=aa λhn=>h3 λv hv=>aa λhc=>hn ⟨v,hv,hc⟩
    rw[Om h1 h2 hv hb];exact h
  ·rw[Qc h1 h2]
   exact h
 ·rw[Pu h1]
  exact h
end
end
end Go.Proofs.YtmepdkdeanbbaaaGreat
