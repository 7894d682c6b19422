/- Wide2, WireRd, DictE, GrownOf, WireS, BatchM, CubW, CubR2, LatN, LatO, LatP, LatQ, LatR, LatS, LatT, WireP, QryM, QryN, PlanM -/
import Derived.Test.YtkablhecedcngaaGreatJ8
import Derived.Deep.RegionHeld3
namespace Go.Proofs.YtkablhecedcngaaGreat
set_option maxRecDepth 100000
set_option maxHeartbeats 8000000
open Go.RowKit
open Go.Lib (hid)
variable {D:List Yg}{i j k m n:Nat}{V:List (List Int)}{M:List Txt}{G v:List Int}{L:Rws}{u:Int}{C:Cub}{Qs:List (List Pth)}{b:Zd × PC}{c:Int→Nat}{a w:World}
theorem Yqu (hi lo:Int) (w:World) (h:P6 hi lo) (n x:Int)
  (hs:(-9223372036854775808≤Lp hi lo∧Lp hi lo≤9223372036854775807∧n=Lp hi lo∧x=0)∨(¬ (-9223372036854775808≤Lp hi lo∧Lp hi lo≤9223372036854775807)∧n=0∧x=14)) :
  Calls Tryz.prog 153 #[.agg #[.int .i64 hi,.int .i64 lo]] w fun e w'=>e=.returned (.tuple #[.int .i64 n,.int .i64 x])∧Below w.heap.size w w':=by
 have h' : decide (P6 hi lo)=true:=decide_eq_true h
 go_enter Tryz.func153,Tryz.ntmps153;go_wp2_with fail;refine (Dn hi lo _).mono ?_;rintro e w1 ⟨rfl,hb⟩;rw [h']
 have hba:=Rz hb (g:=w.heap.size) rfl
 have hg0:w1.cell? ⟨w.heap.size,0,none⟩=some (.int .i64 hi):=hba.cell 0
 have hg1:w1.cell? ⟨w.heap.size,1,none⟩=some (.int .i64 lo):=hba.cell 1
 have hbe:=Yb (Ya _ _) hb
 clear hb h';obtain ⟨m,hor,hm0,hm1,hlo,hhi⟩ : ∃ m:Int,bits .or .i64 (wrap64 (hi*4294967296)) lo=m∧-9223372036854775808≤m∧m≤9223372036854775807∧Hid (m % 4294967296=lo)∧Hid ((-9223372036854775808≤Lp hi lo∧Lp hi lo≤9223372036854775807→m=Lp hi lo)∧(¬ (-9223372036854775808≤Lp hi lo∧Lp hi lo≤9223372036854775807)→m / 4294967296≠hi)):=by
  unfold P6 at h;refine ⟨_,rfl,?_⟩;rw [Yj7 _ _ (by unfold wrap64; omega) (by omega) (by omega),IntKind.wrap_i64]
  unfold Lp wrap64;exact ⟨by omega,by omega,hid (by omega),hid ⟨by omega,by omega⟩⟩
 have Hs:=hid hs
 clear h hs
 have hz:w.heap.size<w1.heap.size:=hba.lt
 rcases Hs.out with ⟨h1,h2,rfl,rfl⟩ | ⟨h1,rfl,rfl⟩
 case' inl=>have hq:((m / 4294967296:Int) == hi)=true:=by have h3:=hhi.out.1 ⟨h1,h2⟩; have h4:=hlo.out; unfold Lp at h3; simp; omega
 case' inl=>have hnm:=hid (hhi.out.1 ⟨h1,h2⟩)
 case' inr=>have hq:((m / 4294967296:Int) == hi)=false:=by have h3:=hhi.out.2 h1; simp; exact h3
 case' inr=>have hnm:True:=trivial
 all_goals
  have hr:((m % 4294967296:Int) == lo)=true:=by have h4:=hlo.out; simp; omega
  clear h1 hhi hlo Hs;go_wp2_with fail;go_region_held3 (fun w'=>w'.cell? ⟨w.heap.size,0,none⟩=some (.int .i64 hi)∧w'.cell? ⟨w.heap.size,1,none⟩=some (.int .i64 lo))
   (first
    | exact ⟨hg0,hg1⟩
    | exact ⟨hk0,hk1⟩)
   (first
    | (go_at_call 165; refine (Yo0 m _ hm0 hm1).mono ?_; rintro e w3 ⟨rfl,hbc⟩; have hk0:=(hbc.cell (p:=⟨w.heap.size,0,none⟩) hz).trans hg0; have hk1:=(hbc.cell (p:=⟨w.heap.size,1,none⟩) hz).trans hg1))
  have hbe3:Below w.heap.size w w3:=Yb (Below.drew hbe) hbc
  clear hbc hba hg0 hg1 hk0 hk1 hbe;go_wp2_with fail;go_ret2
  first
   | exact ⟨rfl,hbe3⟩
   | exact ⟨by rw [hnm.out]; rfl,hbe3⟩
section
section
variable {T:TypeId}{w w' : World}{g:Nat}{A:Option Addr}{n c:Nat}{l:List UInt8}{p e:Nat}
end
def lk (l:List UInt8) (p e:Nat) (lo hi:Int):Int × Nat × Nat :=
 if e≠0 then (0,0,e) else if gE (l.drop p)≠0 then (0,0,gE (l.drop p)) else if gN (l.drop p)<lo∨hi<gN (l.drop p) then (0,0,2) else (gN (l.drop p),gK (l.drop p),0)
end
theorem grown_of (hb:Below w.heap.size w a) (r:Option Nat):w.grownBy a r:=⟨hb.os,hb.tape,hb.output,hb.size,fun k hk _=>hb.block k hk⟩
theorem Jn {c:World}{b:Nat} (hb:Below w.heap.size w a) (hg:a.grownBy c (some b)):w.grownBy c (some b):=Na (grown_of hb _) hg fun _ h=>.inl h
abbrev Fct:=List (List Txt) × List Int
def Ut (f:Fct):Prop:=f.1.length≤3∧(∀ p∈f.1,Wu p)∧f.2.length≤2∧∀ x∈f.2,inV x
instance (f:Fct):Decidable (Ut f):=by unfold Ut; exact inferInstance
def Vx (D:List Yg) (m:Nat) (f:Fct):Prop:=Ut f∧f.1.length=D.length∧f.2.length=m∧∀ i,i<D.length→(f.1.getD i []).length=(D.getD i Xv).2.length
instance (D:List Yg) (m:Nat) (f:Fct):Decidable (Vx D m f):=by unfold Vx; exact inferInstance
def Ug (L:List Fct) (least:Nat) (ok:Fct→Prop) [DecidablePred ok] : Nat:=if L.length<least∨8<L.length then 13 else if ∃ f∈L,¬ ok f then 12 else 0
def Xu (D:List Yg) (M:List Txt) (V:List (List Int)) (L:List Fct):Nat:=if Z3 D M V then Ug L 1 (Vx D M.length) else 11
theorem Qx {L:List Fct}{ok:Fct→Prop} [DecidablePred ok] (h:L.length<m∨8<L.length):Ug L m ok=13:=if_pos h
theorem Yku {L:List Fct}{ok:Fct→Prop} [DecidablePred ok] (h:¬ (L.length<m∨8<L.length)) (h' : ∃ f∈L,¬ ok f):Ug L m ok=12:=by unfold Ug; rw [if_neg h,if_pos h']
theorem Lb {L:List Fct}{ok:Fct→Prop} [DecidablePred ok] : Ug L m ok=0↔m≤L.length∧L.length≤8∧∀ f∈L,ok f:=by
 unfold Ug
 split
 ·constructor
  ·intro h; cases h
  ·intro h; omega
 ·split
  ·rename_i h
   obtain ⟨f,hf,hn⟩:=h;constructor
   ·intro h; cases h
   ·intro h; exact absurd (h.2.2 f hf) hn
  ·rename_i h1 h2
   exact ⟨fun _=>⟨by omega,by omega,fun f hf=>Classical.byContradiction fun hn=>h2 ⟨f,hf,hn⟩⟩,fun _=>rfl⟩
theorem Yf9 (m:Int) (v:List Int):(Wn m [v]).2=0↔(0≤m∧m≤2∧isVal m v):=by
 by_cases h:m<0∨2<m
 ·unfold Wn
  rw [if_pos h];constructor
  ·intro h; cases h
  ·intro h; omega
 ·by_cases hv:isVal m v
  ·rw [L6 h (by intro u hu; rw [List.mem_singleton.1 hu]; exact hv) (by simp),if_pos]
   ·simp only [true_iff]
    exact ⟨by omega,by omega,hv⟩
   ·intro k hk
    have hx:inV (v.getD k 0):=by
     have hkl:k<v.length:=by have:=hv.1; omega
     have e:v.getD k 0=v[k]:=by rw [List.getD_eq_getElem?_getD,List.getElem?_eq_getElem hkl]; rfl
     rw [e];exact hv.2 _ (List.getElem_mem hkl)
    unfold inV at hx;simp only [X0,List.map_cons,List.map_nil,Y2,inS];omega
  ·rw [U8 (.inr (.inr ⟨v,by simp,hv⟩))]
   constructor
   ·intro h; cases h
   ·intro h; exact absurd h.2.2 hv
section
theorem Yc5 {m:Nat}(hm:m≤2) {l:List (List Int)}(hn:l.length≤1000) (_h0:l≠[]) (hv:∀ v∈l,isVal m v):Wn m l=if Zm (Yq m (l.map Wb)) then (Yq m (l.map Wb),0) else (Ym,14):=by
 have hL:∀ c∈Yv m :: l.map Wb,Zm c∧c.2.1.length=m:=by
  intro c hc
  rcases List.mem_cons.1 hc with rfl | hc
  ·exact ⟨⟨by simpa [Yv] using hm,by simp [Yv],by simp [Yv],.inl (by simp [Yv])⟩,by simp [Yv]⟩
  ·obtain ⟨v,hv',rfl⟩:=List.mem_map.1 hc
   exact (Lf hm v).2 (hv v hv')
 have h1:=Ce (k:=1) hm (by simp) hL (by intro c hc; simp at hc; subst hc; rfl)
 rw [Cf hm l hn] at h1;simpa using h1
theorem B5 {m:Nat}(hm:m≤2) {v:List Int}(h:isVal m v):Yw m (Wb v):=by
 obtain ⟨h1,h2⟩:=(Lf hm v).2 h;exact ⟨h1,by simp [Wb],h2⟩
section
variable {α K:Type} [DecidableEq K]
def Yi (κ:α→K) (c:α→PC) (F:List α) (k:K):List PC:=(F.filter fun f=>decide (κ f=k)).map c
theorem U9 (κ:α→K) (c:α→PC) (F G:List α) (k:K):Yi κ c (F++G) k=Yi κ c F k++Yi κ c G k:=by unfold Yi; rw [List.filter_append,List.map_append]
theorem Wg {κ:α→K}{c:α→PC}{F:List α}{k:K} : Yi κ c F k≠[]↔∃ f∈F,κ f=k:=by
 unfold Yi;constructor
 ·intro h
  obtain ⟨c,hc⟩:=List.exists_mem_of_ne_nil _ h;obtain ⟨f,hf,_⟩:=List.mem_map.1 hc
  have h2:=List.mem_filter.1 hf
  exact ⟨f,h2.1,of_decide_eq_true h2.2⟩
 ·rintro ⟨f,hf,e⟩ h
  have h2:f∈F.filter fun f=>decide (κ f=k):=List.mem_filter.2 ⟨hf,decide_eq_true e⟩
  rw [List.map_eq_nil_iff.1 h] at h2;simp at h2
theorem Re {m:Nat}{κ:α→K}{c:α→PC}{F:List α}(hF:∀ f∈F,Yw m (c f)) (k:K):∀ x∈Yi κ c F k,Full m x:=by
 intro x hx;obtain ⟨f,hf,rfl⟩:=List.mem_map.1 hx;exact (hF f (List.mem_filter.1 hf).1).full
def okF (m:Nat) (κ:α→K) (c:α→PC) (F:List α):Prop:=∀ f∈F,Zm (Yq m (Yi κ c F (κ f)))
def Vh (κ:α→K):List α→List K→List K
 | [],acc=>acc
 | f :: F,acc=>Vh κ F (if κ f∈acc then acc else acc++[κ f])
theorem C6 (κ:α→K):∀ (F:List α) (f:α) (acc:List K),Vh κ (F++[f]) acc=if κ f∈Vh κ F acc then Vh κ F acc else Vh κ F acc++[κ f]
 | [],f,acc=>rfl
 | g :: F,f,acc=>by
  show Vh κ (F++[f]) _=_
  rw [C6 κ F f];rfl
theorem Tv (κ:α→K):∀ (F:List α) (acc:List K) (k:K),k∈Vh κ F acc↔k∈acc∨∃ f∈F,κ f=k
 | [],acc,k=>by simp [Vh]
 | g :: F,acc,k=>by
  rw [Vh,Tv κ F]
  by_cases h:κ g∈acc
  ·rw [if_pos h]
   constructor
   ·rintro (h1 | ⟨f,hf,e⟩)
    ·exact .inl h1
    ·exact .inr ⟨f,List.mem_cons_of_mem _ hf,e⟩
   ·rintro (h1 | ⟨f,hf,e⟩)
    ·exact .inl h1
    ·rcases List.mem_cons.1 hf with rfl | hf
     ·exact .inl (e ▸ h)
     ·exact .inr ⟨f,hf,e⟩
  ·rw [if_neg h]
   constructor
   ·rintro (h1 | ⟨f,hf,e⟩)
    ·rcases List.mem_append.1 h1 with h1 | h1
     ·exact .inl h1
     ·exact .inr ⟨g,by simp,(List.mem_singleton.1 h1).symm⟩
    ·exact .inr ⟨f,List.mem_cons_of_mem _ hf,e⟩
   ·rintro (h1 | ⟨f,hf,e⟩)
    ·exact .inl (List.mem_append_left _ h1)
    ·rcases List.mem_cons.1 hf with rfl | hf
     ·exact .inl (List.mem_append_right _ (by simp [e]))
     ·exact .inr ⟨f,hf,e⟩
theorem Qo (κ:α→K):∀ (F:List α) (acc:List K),acc.Nodup→(Vh κ F acc).Nodup
 | [],_,h=>h
 | g :: F,acc,h=>by
  rw [Vh];refine Qo κ F _ ?_
  split
  ·exact h
  ·rename_i hn
   refine List.nodup_append.2 ⟨h,by simp,fun a ha b hb e=>?_⟩
   rw [List.mem_singleton.1 hb] at e;exact hn (e ▸ ha)
theorem Fy (κ:α→K):∀ (F:List α) (acc:List K),(Vh κ F acc).length≤acc.length+F.length
 | [],acc=>by simp [Vh]
 | g :: F,acc=>by
  rw [Vh]
  have h:=Fy κ F (if κ g∈acc then acc else acc++[κ g])
  have h2:(if κ g∈acc then acc else acc++[κ g]).length≤acc.length+1:=by split <;> simp
  simp only [List.length_cons];omega
theorem Om {κ:α→K}{F:List α}{i:Nat}{f:α}(h:F[i]?=some f):Vh κ (F.take (i+1)) []=if κ f∈Vh κ (F.take i) [] then Vh κ (F.take i) [] else Vh κ (F.take i) []++[κ f]:=by
 rw [List.take_add_one,h];exact C6 κ _ _ _
theorem Yck {κ:α→K}{c:α→PC}{F:List α}{i:Nat}{k:K}(h:k∉Vh κ (F.take i) []):Yi κ c (F.drop i) k=Yi κ c F k:=by
 have h1:Yi κ c (F.take i) k=[]:=Classical.byContradiction fun hn=>h ((Tv κ _ _ _).2 (.inr (Wg.1 hn)))
 have h2:=U9 κ c (F.take i) (F.drop i) k
 rw [List.take_append_drop,h1,List.nil_append] at h2;exact h2.symm
theorem Jb {m:Nat}{A B:List PC}(hA:∀ c∈A,Full m c) (hB:∀ c∈B,Full m c) (nA:A≠[]):Yq m (Yq m A :: B)=Yq m (A++B):=by
 have hs:=Ga hA nA
 by_cases nB:B=[]
 ·subst nB
  rw [List.append_nil,Jd hs]
 ·rw [show Yq m A :: B=[Yq m A]++B from rfl,Yew (fun c hc=>by rw [List.mem_singleton.1 hc]; exact hs) hB (by simp) nB,Jd hs,← Yew hA hB nA nB]
end
/-! ### rows,and a cuboid -/
section
variable {α:Type}
structure W7 (m:Nat) (κ:α→Zd) (c:α→PC) (F:List α) (R:Rws):Prop where
 ris:Ds R
 all:∀ x,x∈R↔(∃ f∈F,κ f=x.1)∧x.2=Yq m (Yi κ c F x.1)
structure U3 (m:Nat) (κ:α→List Int) (c:α→PC) (F:List α) (C:Cub):Prop where
 ris:Ris C
 all:∀ x,x∈C↔(∃ f∈F,κ f=x.1)∧x.2=Yq m (Yi κ c F x.1)
theorem U3.get {m:Nat}{κ:α→List Int}{c:α→PC}{F:List α}{C:Cub}(h:U3 m κ c F C) (k:List Int):Zb C k=if ∃ f∈F,κ f=k then some (Yq m (Yi κ c F k)) else none:=by
 by_cases hk:∃ f∈F,κ f=k
 ·rw [if_pos hk]
  exact Ps h.ris ((h.all (k,_)).2 ⟨hk,rfl⟩)
 ·rw [if_neg hk,Oo]
  intro hm;obtain ⟨x,hx,rfl⟩:=List.mem_map.1 hm;exact hk ((h.all x).1 hx).1
theorem U3.Ysu {m:Nat}{κ:α→List Int}{c:α→PC}{F:List α}{C:Cub}(hr:Ris C) (h:∀ k,Zb C k=if ∃ f∈F,κ f=k then some (Yq m (Yi κ c F k)) else none):U3 m κ c F C :=
 ⟨hr,fun x=>by
  constructor
  ·intro hx
   have h1:=Ps hr hx
   rw [h] at h1
   split at h1
   ·rename_i hk
    injection h1 with h1
    exact ⟨hk,h1.symm⟩
   ·cases h1
  ·rintro ⟨hk,e⟩
   have h1:=h x.1
   rw [if_pos hk,← e] at h1;exact Xz h1⟩
theorem Ue {κ:α→List Int}{μ:α→Zd}{c:α→PC}{F:List α}(h:∀ f∈F,∀ g∈F,κ f=κ g↔μ f=μ g) {f:α}(hf:f∈F):Yi κ c F (κ f)=Yi μ c F (μ f):=by
 unfold Yi
 congr 1
 refine List.filter_congr fun g hg=>?_
 have h1:=h g hg f hf
 by_cases e:κ g=κ f
 ·rw [decide_eq_true e,decide_eq_true (h1.1 e)]
 ·rw [decide_eq_false e,decide_eq_false (fun e'=>e (h1.2 e'))]
theorem U3.rows {m:Nat}{κ:α→List Int}{μ:α→Zd}{c:α→PC}{F:List α}{C:Cub}{R:Rws}(hC:U3 m κ c F C) (h:∀ f∈F,∀ g∈F,κ f=κ g↔μ f=μ g) (ψ:List Int→Zd) (hψ:∀ f∈F,ψ (κ f)=μ f) (hR:Ds R) (hp:R.Perm (C.map fun e=>(ψ e.1,e.2))):W7 m μ c F R :=
 ⟨hR,fun x=>by
  rw [hp.mem_iff,List.mem_map];constructor
  ·rintro ⟨e,he,rfl⟩
   obtain ⟨⟨f,hf,hk⟩,hc⟩:=(hC.all e).1 he
   have h2:ψ e.1=μ f:=by rw [← hk]; exact hψ f hf
   refine ⟨⟨f,hf,h2.symm⟩,?_⟩
   show e.2=Yq m (Yi μ c F (ψ e.1))
   rw [hc,← hk,Ue h hf,hψ f hf]
  ·rintro ⟨⟨f,hf,hk⟩,hc⟩
   refine ⟨(κ f,Yq m (Yi κ c F (κ f))),(hC.all _).2 ⟨⟨f,hf,rfl⟩,rfl⟩,?_⟩;refine Prod.ext ?_ ?_
   ·show ψ (κ f)=x.1
    rw [hψ f hf,hk]
   ·show Yq m (Yi κ c F (κ f))=x.2
    rw [Ue h hf,hc,hk]⟩
def Vv (m:Nat) (κ:α→Zd) (c:α→PC) (F:List α) (i:Nat):Rws:=(Vh κ (F.take i) []).map fun k=>(k,Yq m (Yi κ c F k))
theorem Fi (m:Nat) (κ:α→Zd) (c:α→PC) (F:List α) (i:Nat):(Vv m κ c F i).map (·.1)=Vh κ (F.take i) []:=by
 unfold Vv;rw [List.map_map];exact List.map_id' _
theorem Yjk {m:Nat}{κ:α→Zd}{c:α→PC}{F:List α}{i:Nat}{f:α}(h:F[i]?=some f) (hh:κ f∈Vh κ (F.take i) []):Vv m κ c F (i+1)=Vv m κ c F i:=by
 unfold Vv;rw [Om h,if_pos hh]
theorem Yjn {m:Nat}{κ:α→Zd}{c:α→PC}{F:List α}{i:Nat}{f:α}(h:F[i]?=some f) (hh:κ f∉Vh κ (F.take i) []):Vv m κ c F (i+1)=Vv m κ c F i++[(κ f,Yq m (Yi κ c F (κ f)))]:=by
 unfold Vv;rw [Om h,if_neg hh,List.map_append];rfl
theorem Yjo (m:Nat) (κ:α→Zd) (c:α→PC) (F:List α) (i:Nat):(Vv m κ c F i).Pairwise fun a b=>a.1≠b.1:=by
 have h:=Qo κ (F.take i) [] List.nodup_nil
 unfold Vv;rw [List.pairwise_map];exact h
theorem Yfx {m:Nat}{κ:α→Zd}{c:α→PC}{F:List α}{R:Rws}(h:Sel (Vv m κ c F F.length) R []):W7 m κ c F R :=
 ⟨h.end_.1,fun x=>by
  rw [h.end_.2.mem_iff];unfold Vv;rw [List.take_length,List.mem_map];constructor
  ·rintro ⟨k,hk,rfl⟩
   rcases (Tv κ F [] k).1 hk with h1 | h1
   ·simp at h1
   ·exact ⟨h1,rfl⟩
  ·rintro ⟨hk,e⟩
   exact ⟨x.1,(Tv κ F [] x.1).2 (.inr hk),Prod.ext rfl e.symm⟩⟩
end
end
def U1:List Int→List Pth→Zd
 | n :: v,p :: P=>p.take n.toNat :: U1 v P
 | _,_=>[]
def W9:List (List Pth)→List Int→List Pth→List Int
 | Q :: Qs,n :: v,p :: P=>((fnd Q (p.take n.toNat):Nat):Int) :: W9 Qs v P
 | _,_,_=>[]
def Us:List (List Pth)→List Int→Zd
 | Q :: Qs,c :: k=>pth Q c.toNat :: Us Qs k
 | _,_=>[]
def X4:List (List Pth)→List Int→List Pth→Prop
 | Q :: Qs,n :: v,p :: P=>(p.take n.toNat=[]∨p.take n.toNat∈Q)∧X4 Qs v P
 | [],[],[]=>True
 | _,_,_=>False
def Rw (Qs:List (List Pth)):Prop:=∀ Q∈Qs,[]∉Q
theorem Ym1 {Q:List Pth} (h0 : []∉Q) {a b:Pth}(ha:a=[]∨a∈Q) (hb:b=[]∨b∈Q):fnd Q a=fnd Q b↔a=b:=by
 constructor
 ·intro h
  rcases ha with rfl | ha
  ·rcases hb with rfl | hb
   ·rfl
   ·rw [S5 h0] at h
    exact absurd (Vp.2 hb) (by omega)
  ·exact Yqo h ha
 ·rintro rfl; rfl
theorem Ef:∀ {Qs:List (List Pth)}{v:List Int}{P P' : List Pth},Rw Qs→X4 Qs v P→X4 Qs v P'→(W9 Qs v P=W9 Qs v P'↔U1 v P=U1 v P')
 | [],[],[],[],_,_,_=>by simp [W9,U1]
 | Q :: Qs,n :: v,p :: P,p' :: P',h0,h,h'=>by
  have h1:=Ym1 (h0 Q (by simp)) h.1 h'.1
  have h2:=Ef (Qs:=Qs) (v:=v) (P:=P) (P':=P') (fun Q hQ=>h0 Q (List.mem_cons_of_mem _ hQ)) h.2 h'.2
  simp only [W9,U1,List.cons.injEq,Int.natCast_inj];exact and_congr h1 h2
 | [],_ :: _,_,_,_,h,_=>h.elim
 | [],[],_ :: _,_,_,h,_=>h.elim
 | [],[],[],_ :: _,_,_,h=>h.elim
 | _ :: _,[],_,_,_,h,_=>h.elim
 | _ :: _,_ :: _,[],_,_,h,_=>h.elim
 | _ :: _,_ :: _,_ :: _,[],_,_,h=>h.elim
theorem N6:∀ {Qs:List (List Pth)}{v:List Int}{P:List Pth},Rw Qs→X4 Qs v P→Us Qs (W9 Qs v P)=U1 v P
 | [],[],[],_,_=>rfl
 | Q :: Qs,n :: v,p :: P,h0,h=>by
  have h2:=N6 (Qs:=Qs) (v:=v) (P:=P) (fun Q hQ=>h0 Q (List.mem_cons_of_mem _ hQ)) h.2
  simp only [W9,U1,Us,Int.toNat_natCast,List.cons.injEq];refine ⟨?_,h2⟩
  rcases h.1 with e | hm
  ·rw [e,S5 (h0 Q (by simp))]
   rfl
  ·exact Qz hm
 | [],_ :: _,_,_,h=>h.elim
 | [],[],_ :: _,_,h=>h.elim
 | _ :: _,[],_,_,h=>h.elim
 | _ :: _,_ :: _,[],_,h=>h.elim
def Ws:List (List Pth)→List (List Pth)→Prop
 | Q :: Qs,R :: Rs=>(∃ M,R=Q++M)∧Ws Qs Rs
 | [],[]=>True
 | _,_=>False
theorem Ws.refl:∀ Qs:List (List Pth),Ws Qs Qs
 | []=>trivial
 | Q :: Qs=>⟨⟨[],by simp⟩,Ws.refl Qs⟩
theorem Ws.trans:∀ {Qs Rs Ts:List (List Pth)},Ws Qs Rs→Ws Rs Ts→Ws Qs Ts
 | [],[],[],_,_=>trivial
 | Q :: Qs,R :: Rs,T :: Ts,⟨⟨M,e⟩,h⟩,⟨⟨M',e'⟩,h'⟩=>⟨⟨M++M',by rw [e',e,List.append_assoc]⟩,Ws.trans h h'⟩
 | [],_ :: _,_,h,_=>h.elim
 | _ :: _,[],_,h,_=>h.elim
 | [],[],_ :: _,_,h=>h.elim
 | _ :: _,_ :: _,[],_,h=>h.elim
theorem X4.grown:∀ {Qs Rs:List (List Pth)}{v:List Int}{P:List Pth},Ws Qs Rs→X4 Qs v P→X4 Rs v P
 | [],[],_,_,_,h=>h
 | Q :: Qs,R :: Rs,n :: v,p :: P,⟨⟨M,e⟩,hg⟩,h=>⟨h.1.imp id fun hm=>by rw [e]; exact List.mem_append_left _ hm,X4.grown hg h.2⟩
 | Q :: Qs,R :: Rs,[],_,_,h=>h.elim
 | Q :: Qs,R :: Rs,_ :: _,[],_,h=>h.elim
 | [],_ :: _,_,_,h,_=>h.elim
 | _ :: _,[],_,_,h,_=>h.elim
theorem Nw:∀ {Qs Rs:List (List Pth)}{v:List Int}{P:List Pth},Ws Qs Rs→Rw Rs→X4 Qs v P→W9 Rs v P=W9 Qs v P
 | [],[],_,_,_,_,_=>rfl
 | Q :: Qs,R :: Rs,n :: v,p :: P,⟨⟨M,e⟩,hg⟩,h0,h=>by
  have h2:=Nw hg (fun Q hQ=>h0 Q (List.mem_cons_of_mem _ hQ)) h.2
  simp only [W9,List.cons.injEq,Int.natCast_inj];refine ⟨?_,h2⟩
  rcases h.1 with e1 | hm
  ·have hR : []∉R:=h0 R (by simp)
   rw [e1,S5 hR,S5 (fun hq=>hR (by rw [e]; exact List.mem_append_left _ hq))]
  ·rw [e]
   exact Fu hm
 | Q :: Qs,R :: Rs,[],_,_,_,h=>h.elim
 | Q :: Qs,R :: Rs,_ :: _,[],_,_,h=>h.elim
 | [],_ :: _,_,_,h,_,_=>h.elim
 | _ :: _,[],_,_,h,_,_=>h.elim
theorem U3.more {α:Type}{κ:α→List Int}{c:α→PC}{F G:List α}{D:Cub} (hF:∀ f∈F,Yw m (c f)) (hG:∀ f∈G,Yw m (c f)) (hC:U3 m κ c F C) (hr:Ris D)
  (hD:∀ k,Zb D k=if ∃ g∈G,κ g=k then some (Yq m ((Zb C k).toList++Yi κ c G k)) else Zb C k):U3 m κ c (F++G) D:=by
 refine U3.Ysu hr fun k=>?_
 rw [hD k]
 by_cases hg:∃ g∈G,κ g=k
 ·have hfg:∃ f∈F++G,κ f=k:=by
   obtain ⟨g,hg1,hg2⟩:=hg;exact ⟨g,List.mem_append_right _ hg1,hg2⟩
  rw [if_pos hg,if_pos hfg,U9,hC.get]
  by_cases hf:∃ f∈F,κ f=k
  ·rw [if_pos hf]
   show some (Yq m (Yq m (Yi κ c F k) :: Yi κ c G k))=_
   rw [Jb (Re hF k) (Re hG k) (Wg.2 hf)]
  ·rw [if_neg hf]
   have h0:Yi κ c F k=[]:=Classical.byContradiction fun h=>hf (Wg.1 h)
   rw [h0];rfl
 ·rw [if_neg hg,hC.get]
  have h0:Yi κ c G k=[]:=Classical.byContradiction fun h=>hg (Wg.1 h)
  by_cases hf:∃ f∈F,κ f=k
  ·have hfg:∃ f∈F++G,κ f=k:=by
    obtain ⟨g,hg1,hg2⟩:=hf;exact ⟨g,List.mem_append_left _ hg1,hg2⟩
   rw [if_pos hf,if_pos hfg,U9,h0,List.append_nil]
  ·rw [if_neg hf,if_neg]
   rintro ⟨f,h1,h2⟩
   rcases List.mem_append.1 h1 with h1 | h1
   ·exact hf ⟨f,h1,h2⟩
   ·exact hg ⟨f,h1,h2⟩
theorem Yo2 {α:Type}{κ:α→List Int}{c:α→PC}{F G:List α} (hF:∀ f∈F,Yw m (c f)) (hG:∀ f∈G,Yw m (c f)) (hC:U3 m κ c F C) (hok:okF m κ c F) :
  okF m κ c (F++G)↔∀ g∈G,Zm (Yq m ((Zb C (κ g)).toList++Yi κ c G (κ g))):=by
 have key:∀ g∈G,Yq m ((Zb C (κ g)).toList++Yi κ c G (κ g))=Yq m (Yi κ c (F++G) (κ g)):=fun g hg=>by
  rw [U9,hC.get]
  by_cases hf:∃ f∈F,κ f=κ g
  ·rw [if_pos hf]
   show Yq m (Yq m (Yi κ c F (κ g)) :: Yi κ c G (κ g))=_
   rw [Jb (Re hF _) (Re hG _) (Wg.2 hf)]
  ·rw [if_neg hf]
   have h0:Yi κ c F (κ g)=[]:=Classical.byContradiction fun h=>hf (Wg.1 h)
   rw [h0];rfl
 constructor
 ·intro h g hg
  rw [key g hg];exact h g (List.mem_append_right _ hg)
 ·intro h f hf
  by_cases hg:∃ g∈G,κ g=κ f
  ·obtain ⟨g,hg1,hg2⟩:=hg
   rw [← hg2,← key g hg1];exact h g hg1
  ·have h0:Yi κ c G (κ f)=[]:=Classical.byContradiction fun h=>hg (Wg.1 h)
   rw [U9,h0,List.append_nil]
   rcases List.mem_append.1 hf with hf | hf
   ·exact hok f hf
   ·exact absurd ⟨f,hf,rfl⟩ hg
theorem B4 {α:Type}{κ:α→List Int}{μ:α→Zd}{c:α→PC}{F:List α} (h:∀ f∈F,∀ g∈F,κ f=κ g↔μ f=μ g):okF m κ c F↔okF m μ c F:=by
 unfold okF;constructor
 ·intro hk f hf
  rw [← Ue h hf];exact hk f hf
 ·intro hk f hf
  rw [Ue h hf];exact hk f hf
def kC {β:Type}(Qs:List (List Pth)) (v:List Int) (f:Zd × β):List Int:=W9 Qs v f.1
def kP {β:Type}(v:List Int) (f:Zd × β):Zd:=U1 v f.1
theorem Pw {β:Type}{F:List (Zd × β)} (h0:Rw Qs) (h:∀ f∈F,X4 Qs v f.1):∀ f∈F,∀ g∈F,kC Qs v f=kC Qs v g↔kP v f=kP v g:=fun f hf g hg=>Ef h0 (h f hf) (h g hg)
theorem Hw {β:Type}{F:List (Zd × β)} (h0:Rw Qs) (h:∀ f∈F,X4 Qs v f.1):∀ f∈F,Us Qs (kC Qs v f)=kP v f:=fun f hf=>N6 h0 (h f hf)
theorem U3.grown {Rs:List (List Pth)}{β:Type}{c:Zd × β→PC}{F:List (Zd × β)} (hC:U3 m (kC Qs v) c F C) (hg:Ws Qs Rs) (h0:Rw Rs) (h:∀ f∈F,X4 Qs v f.1):U3 m (kC Rs v) c F C:=by
 have e:∀ f∈F,kC Rs v f=kC Qs v f:=fun f hf=>Nw hg h0 (h f hf)
 have e2:∀ k,Yi (kC Rs v) c F k=Yi (kC Qs v) c F k:=fun k=>by
  unfold Yi
  congr 1
  refine List.filter_congr fun f hf=>?_
  rw [e f hf]
 refine ⟨hC.ris,fun x=>?_⟩
 rw [hC.all x,e2];refine and_congr_left fun _=>?_
 constructor
 ·rintro ⟨f,hf,hk⟩; exact ⟨f,hf,by rw [e f hf,hk]⟩
 ·rintro ⟨f,hf,hk⟩; exact ⟨f,hf,by rw [← e f hf,hk]⟩
def Qa (L:Rws) (i j:Nat):Prop:=j<i∧∀ (k:Nat) (a b:Zd × PC),k<i→L[k]?=some a→L[j]?=some b→¬ Z0 a.1 b.1
theorem Ydq : Qa L 1 0:=⟨by omega,fun k a b hk ha hb=>by
 obtain rfl:k=0:=by omega
 rw [ha] at hb;injection hb with hb
 rw [hb];exact Up _⟩
theorem Ya2 {a:Zd × PC} (h:Qa L i j) (ha:L[i]?=some a) (hb:L[j]?=some b) (hl:Z0 a.1 b.1):Qa L (i+1) i:=⟨by omega,fun k x y hk hx hy=>by
 rw [ha] at hy;injection hy with hy
 subst hy
 by_cases hki:k=i
 ·subst hki
  rw [ha] at hx;injection hx with hx
  rw [hx];exact Up _
 ·exact fun h1=>h.2 k x b (by omega) hx hb (Rl h1 hl)⟩
theorem Ydp {a:Zd × PC} (h:Qa L i j) (ha:L[i]?=some a) (hb:L[j]?=some b) (hl:¬ Z0 a.1 b.1):Qa L (i+1) j:=⟨by have:=h.1; omega,fun k x y hk hx hy=>by
 by_cases hki:k=i
 ·subst hki
  rw [ha] at hx;injection hx with hx
  rw [hb] at hy;injection hy with hy
  rw [← hx,← hy];exact hl
 ·exact h.2 k x y (by omega) hx hy⟩
theorem Ydo (h:Qa L L.length j) (hb:L[j]?=some b):∀ a∈L,¬ Z0 a.1 b.1:=fun a ha=>by
 obtain ⟨k,hk,rfl⟩:=List.getElem_of_mem ha;exact h.2 k _ b hk (List.getElem?_eq_getElem hk) hb
abbrev Yao (L:Rws) (k:Zd):List PC:=Yi (fun e:Zd × PC=>e.1) (fun e=>e.2) L k
structure Ytc (m:Nat) (L out l:Rws):Prop where
 left:l=L.filter fun e=>decide (e.1∉out.map (·.1))
 ris:Ds out
 lt:∀ a∈out,∀ b∈l,Z0 a.1 b.1
 val:∀ x∈out,(∃ e∈L,e.1=x.1)∧x.2=Yq m (Yao L x.1)
theorem Ytc.cells {out l:Rws} (h:Ytc m L out l) {k:Zd}(hk:∃ e∈l,e.1=k):Yao l k=Yao L k:=by
 obtain ⟨e,he,rfl⟩:=hk;rw [h.left] at he ⊢
 have hn:=of_decide_eq_true (List.mem_filter.1 he).2
 unfold Yao Yi;rw [List.filter_filter]
 congr 1
 refine List.filter_congr fun x hx=>?_
 by_cases hxe:x.1=e.1
 ·rw [decide_eq_true hxe,Bool.true_and,hxe,decide_eq_true hn]
 ·rw [decide_eq_false hxe,Bool.false_and]
def Xj:List Nat→List (List Pth)→Prop
 | n :: N,Q :: Qs=>Good n Q∧Xj N Qs
 | [],[]=>True
 | _,_=>False
theorem Xj.J1:∀ {N:List Nat}{Qs:List (List Pth)},Xj N Qs→Rw Qs
 | [],[],_=>fun Q h=>by simp at h
 | n :: N,Q :: Qs,⟨h,h'⟩=>fun R hR=>by
  rcases List.mem_cons.1 hR with rfl | hR
  ·exact h.ne_nil
  ·exact Xj.J1 h' R hR
 | [],_ :: _,h=>h.elim
 | _ :: _,[],h=>h.elim
def Wx:List Nat→List (List Pth)→List Pth→List (List Pth)
 | n :: N,Q :: Qs,p :: P=>Vc n Q p :: Wx N Qs P
 | _,Qs,_=>Qs
def Pq:List Nat→List (List Pth)→List Pth→Nat
 | n :: N,Q :: Qs,p :: P=>if Rp n Q p≠0 then Rp n Q p else Pq N Qs P
 | _,_,_=>0
theorem Yfe (n:Nat) (Q:List Pth) (p:Pth):∃ M,Vc n Q p=Q++M:=by
 unfold Vc
 split
 ·exact ⟨_,rfl⟩
 ·exact ⟨[],by simp⟩
theorem Nf:∀ (N:List Nat) (Qs:List (List Pth)) (P:List Pth),Ws Qs (Wx N Qs P)
 | n :: N,Q :: Qs,p :: P=>⟨Yfe n Q p,Nf N Qs P⟩
 | [],Qs,_=>by rw [Wx]; exact Ws.refl Qs; all_goals simp
 | _ :: _,[],_=>trivial
 | _ :: _,Q :: Qs,[]=>Ws.refl (Q :: Qs)
theorem Oa:∀ {N:List Nat}{Qs:List (List Pth)}(P:List Pth),Xj N Qs→Xj N (Wx N Qs P)
 | _ :: _,_ :: _,_ :: P,⟨h,h'⟩=>⟨h.add,Oa P h'⟩
 | [],[],_,h=>h
 | _ :: _,_ :: _,[],h=>h
 | [],_ :: _,_,h=>h.elim
 | _ :: _,[],_,h=>h.elim
def Qb:List Nat→List Int→Prop
 | n :: N,v :: V=>0≤v∧v≤(n:Int)∧Qb N V
 | [],[]=>True
 | _,_=>False
theorem Yb5:∀ {N:List Nat}{Qs:List (List Pth)}{P:List Pth}{v:List Int},Xj N Qs→Qb N v→P.length=N.length→Pq N Qs P=0→X4 (Wx N Qs P) v P
 | [],[],[],[],_,_,_,_=>trivial
 | n :: N,Q :: Qs,p :: P,x :: v,⟨hg,hG⟩,⟨h0,h1,hv⟩,hl,he=>by
  have he0:Rp n Q p=0:=Classical.byContradiction fun h=>by rw [Pq,if_pos h] at he; exact h he
  have he1:Pq N Qs P=0:=by rw [Pq,if_neg (fun h=>h he0)] at he; exact he
  have hok:Rx n Q p:=Classical.byContradiction fun h=>by
   unfold Rp at he0;rw [if_neg h] at he0
   split at he0 <;> cases he0
  refine ⟨?_,Yb5 hG hv (by simpa using hl) he1⟩
  by_cases hx:x.toNat=0
  ·rw [hx]; exact .inl (by simp)
  ·exact .inr (Good.P3 hg.add (Yiw hg hok) (by omega) (by rw [hok.1.1]; omega))
 | [],_ :: _,_,_,h,_,_,_=>h.elim
 | _ :: _,[],_,_,h,_,_,_=>h.elim
 | [],[],_ :: _,_,_,_,hl,_=>by simp at hl
 | [],[],[],_ :: _,_,h,_,_=>h.elim
 | _ :: _,_ :: _,[],_,_,_,hl,_=>by simp at hl
 | _ :: _,_ :: _,_ :: _,[],_,h,_,_=>h.elim
def Zc (N:List Nat):List (List Pth)→List Fct→List (List Pth) × Nat
 | Qs,[]=>(Qs,0)
 | Qs,f :: F=>if Pq N Qs f.1≠0 then (Qs,Pq N Qs f.1) else Zc N (Wx N Qs f.1) F
theorem Ry {N:List Nat} : ∀ {F:List Fct}{Qs Rs:List (List Pth)},Xj N Qs→Zc N Qs F=(Rs,0)→Xj N Rs∧Ws Qs Rs∧∀ v,Qb N v→∀ f∈F,f.1.length=N.length→X4 Rs v f.1
 | [],Qs,Rs,h,e=>by
  rw [Zc] at e;injection e with e _
  subst e;exact ⟨h,Ws.refl _,fun v _ f hf=>by simp at hf⟩
 | f :: F,Qs,Rs,h,e=>by
  rw [Zc] at e
  by_cases he:Pq N Qs f.1≠0
  ·rw [if_pos he] at e
   injection e with _ e
   exact absurd e he
  ·rw [if_neg he] at e
   have he0:Pq N Qs f.1=0:=Classical.byContradiction he
   obtain ⟨h1,h2,h3⟩:=Ry (Oa f.1 h) e;refine ⟨h1,(Nf N Qs f.1).trans h2,fun v hv g hg hgl=>?_⟩
   rcases List.mem_cons.1 hg with rfl | hg
   ·exact (Yb5 h hv hgl he0).grown h2
   ·exact h3 v hv g hg hgl
section
def Yk (D:List Yg):List Nat:=D.map fun d=>d.2.length
abbrev Y8 (f:Fct):PC:=Wb f.2
theorem Nq:∀ {D:List Yg}{v:List Int},Zi D v→Qb (Yk D) v
 | [],[],_=>trivial
 | [],_ :: _,h=>by have:=h.1; simp at this
 | _ :: _,[],h=>by have:=h.1; simp at this
 | d :: D,x :: v,h=>by
  have h0:=h.2 0 (by simp)
  simp at h0;refine ⟨h0.1,h0.2,Nq ⟨by have:=h.1; simpa using this,fun i hi=>?_⟩⟩
  have h1:=h.2 (i+1) (by simpa using hi)
  simpa using h1
theorem Sk {D:List Yg}{M:List Txt}{V:List (List Int)}(h:Z3 D M V):∀ v∈Ye D V,Qb (Yk D) v:=fun v hv=>by
 rcases List.mem_cons.1 hv with rfl | hv
 ·exact Nq (Jm D)
 ·exact Nq (h.2.2.2.1 v hv)
theorem Yay {D:List Yg}{m:Nat}{f:Fct}(h:Vx D m f):isVal m f.2:=⟨by have:=h.2.2.1; omega,h.1.2.2.2⟩
theorem Ycx {D:List Yg}{m:Nat}(hm:m≤2) {f:Fct}(h:Vx D m f):Yw m (Y8 f):=B5 hm (Yay h)
theorem Yax {D:List Yg}{m:Nat}{f:Fct}(h:Vx D m f):f.1.map List.length=Yk D:=by
 refine List.ext_getElem (by simp [Yk,h.2.1]) fun i h1 h2=>?_
 have hi:i<D.length:=by simpa [Yk] using h2
 have hj:i<f.1.length:=by simpa using h1
 have h3:=h.2.2.2 i hi
 rw [List.getD_eq_getElem?_getD,List.getD_eq_getElem?_getD,List.getElem?_eq_getElem hi,List.getElem?_eq_getElem hj] at h3;simpa [Yk] using h3
abbrev Hld:=Zd × PC
def Zo (f:Fct):Hld:=(f.1,Wb f.2)
abbrev Xl (e:Hld):PC:=e.2
def Pc (E:List Hld):Int:=Y2 (E.map fun e=>e.2.1)
theorem G7 (E G:List Hld):Pc (E++G)=Pc E+Pc G:=by
 unfold Pc;rw [List.map_append,De]
theorem Qj:∀ G:List Fct,Pc (G.map Zo)=G.length
 | []=>rfl
 | f :: G=>by
  have h:=G7 [Zo f] (G.map Zo)
  rw [Qj G] at h;rw [List.map_cons,show Zo f :: G.map Zo=[Zo f]++G.map Zo from rfl,h]
  simp [Pc,Zo,Wb,Y2];omega
structure Tk (D:List Yg) (M:List Txt) (V:List (List Int)) (E:List Hld) (Qs:List (List Pth)):Prop where
 may:Z3 D M V
 good:Xj (Yk D) Qs
 cell:∀ e∈E,Yw M.length e.2
 lev:∀ e∈E,e.1.map List.length=Yk D
 has:∀ v∈Ye D V,∀ e∈E,X4 Qs v e.1
 ok:∀ v∈Ye D V,okF M.length (kP v) Xl E
 cnt:Pc E≤1099511627776
theorem F6:∀ {D:List Yg},(∀ d∈D,Ze d.2 3)→Xj (Yk D) (D.map fun _=>[])
 | [],_=>trivial
 | d :: D,h=>⟨F7 ⟨(h d (by simp)).1,(h d (by simp)).2.1⟩,F6 fun e he=>h e (List.mem_cons_of_mem _ he)⟩
theorem Tk.begin {D:List Yg}{M:List Txt}{V:List (List Int)}(h:Z3 D M V):Tk D M V [] (D.map fun _=>[]) :=
 ⟨h,F6 h.1.1,fun f hf=>by simp at hf,fun f hf=>by simp at hf,fun _ _ f hf=>by simp at hf,fun _ _ f hf=>by simp at hf,by decide⟩
def Y7 (D:List Yg) (M:List Txt) (V:List (List Int)) (E:List Hld) (Qs:List (List Pth)) (G:List Fct):(List Hld × List (List Pth)) × Nat :=
 if Xu D M V G≠0 then ((E,Qs),Xu D M V G)
 else if (Zc (Yk D) Qs G).2≠0 then ((E,Qs),(Zc (Yk D) Qs G).2)
 else if ∃ v∈Ye D V,∃ e∈E++G.map Zo,¬ Zm (Yq M.length (Yi (kP v) Xl (E++G.map Zo) (kP v e))) then ((E,Qs),14)
 else if Pc E+G.length>1099511627776 then ((E,Qs),14)
 else ((E++G.map Zo,(Zc (Yk D) Qs G).1),0)
section
variable {D:List Yg}{M:List Txt}{V:List (List Int)}{E:List Hld}{G:List Fct}{Qs:List (List Pth)}
theorem Qg (h:Xu D M V G≠0):Y7 D M V E Qs G=((E,Qs),Xu D M V G):=if_pos h
theorem Rb (h:Xu D M V G=0) (h2:(Zc (Yk D) Qs G).2≠0):Y7 D M V E Qs G=((E,Qs),(Zc (Yk D) Qs G).2):=by
 unfold Y7;rw [if_neg (fun h'=>h' h),if_pos h2]
theorem Yox {m:Nat}{κ:Hld→Zd}{c:Hld→PC}{E:List Hld} : ¬ okF m κ c E↔∃ f∈E,¬ Zm (Yq m (Yi κ c E (κ f))):=by
 constructor
 ·intro h
  exact Classical.byContradiction fun hn=>h fun f hf=>Classical.byContradiction fun hc=>hn ⟨f,hf,hc⟩
 ·rintro ⟨f,hf,hc⟩ h
  exact hc (h f hf)
theorem Qf (h:Xu D M V G=0) (h2:(Zc (Yk D) Qs G).2=0) {v:List Int}(hv:v∈Ye D V) (h3:¬ okF M.length (kP v) Xl (E++G.map Zo)):Y7 D M V E Qs G=((E,Qs),14):=by
 unfold Y7;rw [if_neg (fun h'=>h' h),if_neg (fun h'=>h' h2),if_pos ⟨v,hv,Yox.1 h3⟩]
theorem Jl (h:Xu D M V G=0) (h2:(Zc (Yk D) Qs G).2=0) (h3:Pc E+G.length>1099511627776):Y7 D M V E Qs G=((E,Qs),14):=by
 unfold Y7;rw [if_neg (fun h'=>h' h),if_neg (fun h'=>h' h2)]
 split
 ·rfl
 ·first | rfl | (rw [if_pos h3])
theorem L3 (h:Xu D M V G=0) (h2:(Zc (Yk D) Qs G).2=0) (h3:∀ v∈Ye D V,okF M.length (kP v) Xl (E++G.map Zo)) (h4:Pc E+G.length≤1099511627776):Y7 D M V E Qs G=((E++G.map Zo,(Zc (Yk D) Qs G).1),0):=by
 unfold Y7;rw [if_neg (fun h'=>h' h),if_neg (fun h'=>h' h2),if_neg,if_neg (by omega)]
 rintro ⟨v,hv,hf⟩;exact Yox.2 hf (h3 v hv)
theorem Ou (h:Xu D M V G=0):∀ f∈G,Vx D M.length f:=by
 unfold Xu at h
 split at h
 ·exact (Lb.1 h).2.2
 ·cases h
theorem Tk.apply (h:Tk D M V E Qs) (G:List Fct):Tk D M V (Y7 D M V E Qs G).1.1 (Y7 D M V E Qs G).1.2:=by
 by_cases h1:Xu D M V G=0
 ·by_cases h2:(Zc (Yk D) Qs G).2=0
  ·by_cases h3:∀ v∈Ye D V,okF M.length (kP v) Xl (E++G.map Zo)
   ·by_cases h4:Pc E+G.length≤1099511627776
    ·rw [L3 h1 h2 h3 h4]
     have hfit:=Ou h1
     have hm:M.length≤2:=h.may.2.1.2.1
     obtain ⟨g1,g2,g3⟩:=Ry (N:=Yk D) (F:=G) (Qs:=Qs) (Rs:=(Zc (Yk D) Qs G).1) h.good (Prod.ext rfl h2);refine ⟨h.may,g1,fun e he=>?_,fun e he=>?_,fun v hv e he=>?_,h3,?_⟩
     ·rcases List.mem_append.1 he with he | he
      ·exact h.cell e he
      ·obtain ⟨f,hf,rfl⟩:=List.mem_map.1 he
       exact Ycx hm (hfit f hf)
     ·rcases List.mem_append.1 he with he | he
      ·exact h.lev e he
      ·obtain ⟨f,hf,rfl⟩:=List.mem_map.1 he
       exact Yax (hfit f hf)
     ·rcases List.mem_append.1 he with he | he
      ·exact (h.has v hv e he).grown g2
      ·obtain ⟨f,hf,rfl⟩:=List.mem_map.1 he
       exact g3 v (Sk h.may v hv) f hf (by rw [(hfit f hf).2.1]; simp [Yk])
     ·rw [G7,Qj]
      exact h4
    ·rw [Jl h1 h2 (by omega)]
     exact h
   ·obtain ⟨v,hv,hb⟩ : ∃ v∈Ye D V,¬ okF M.length (kP v) Xl (E++G.map Zo):=Classical.byContradiction fun hn=>h3 fun v hv=>Classical.byContradiction fun hc=>hn ⟨v,hv,hc⟩
    rw [Qf h1 h2 hv hb];exact h
  ·rw [Rb h1 h2]
   exact h
 ·rw [Qg h1]
  exact h
end
end
abbrev Fil:=Int × Int × List (List Txt)
abbrev Qry:=List Int × List Fil
def Ybe (f:Fil):Prop:=(0≤f.1∧f.1≤2)∧(0≤f.2.1∧f.2.1≤3)∧f.2.2.length≤6∧∀ p∈f.2.2,Wu p
instance (f:Fil):Decidable (Ybe f):=by unfold Ybe; exact inferInstance
def Ybf (q:Qry):Prop:=q.1.length≤3∧q.2.length≤3∧(∀ n∈q.1,0≤n∧n≤3)∧∀ f∈q.2,Ybe f
instance (q:Qry):Decidable (Ybf q):=by unfold Ybf; exact inferInstance
def U5 (D:List Yg) (f:Fil):Prop:=(0≤f.1∧f.1<(D.length:Int))∧(1≤f.2.1∧f.2.1≤(((D.getD f.1.toNat Xv).2.length:Nat):Int))∧(1≤f.2.2.length∧f.2.2.length≤6)∧∀ p∈f.2.2,Wu p∧(p.length:Int)=f.2.1
instance (D:List Yg) (f:Fil):Decidable (U5 D f):=by unfold U5; exact inferInstance
def Rr (D:List Yg) (q:Qry):Prop:=Zi D q.1∧q.2.length≤3∧∀ f∈q.2,U5 D f
instance (D:List Yg) (q:Qry):Decidable (Rr D q):=by unfold Rr; exact inferInstance
def Wk (D:List Yg) (M:List Txt) (V:List (List Int)) (q:Qry):Nat:=if Z3 D M V then if Rr D q then 0 else 16 else 11
def Zu (F:List Fil) (i:Nat) (n:Int):Int:=F.foldl (fun n f=>if f.1=(i:Int)∧n<f.2.1 then f.2.1 else n) n
def Xa (q:Qry):List Int:=(List.range q.1.length).map fun i=>Zu q.2 i (q.1.getD i 0)
def Yo8 (P:List (List Txt)) (f:Fil):Prop:=0≤f.1∧f.1<(P.length:Int)∧∃ m∈f.2.2,Yhh (P.getD f.1.toNat []) m
instance (P:List (List Txt)) (f:Fil):Decidable (Yo8 P f):=by unfold Yo8; exact inferInstance
def Ysa (P:List (List Txt)) (q:Qry):Prop:=∀ f∈q.2,Yo8 P f
instance (P:List (List Txt)) (q:Qry):Decidable (Ysa P q):=by unfold Ysa; exact inferInstance
/-! ### a query that may be is plain -/
theorem Yf2 {q:Qry} (hS:Z3 D M V) (h:Rr D q):Ybf q:=by
 obtain ⟨⟨hd1,hd2⟩,_,_⟩:=hS
 have hD:D.length≤3:=by have:=hd2.2.1; rwa [List.length_map] at this
 have hL:∀ i,i<D.length→(D.getD i Xv).2.length≤3:=fun i hi=>by
  have e:D.getD i Xv=D[i]:=by rw [List.getD_eq_getElem?_getD,List.getElem?_eq_getElem hi]; rfl
  rw [e];exact (hd1 _ (List.getElem_mem hi)).2.1
 obtain ⟨⟨hc1,hc2⟩,hf,hF⟩:=h;refine ⟨by omega,hf,fun n hn=>?_,fun f hf=>?_⟩
 ·obtain ⟨i,hi,rfl⟩:=List.getElem_of_mem hn
  have h1:=hc2 i hi
  have h2:=hL i (by omega)
  rw [show q.1.getD i 0=q.1[i] from by rw [List.getD_eq_getElem?_getD,List.getElem?_eq_getElem hi]; rfl] at h1
  omega
 ·obtain ⟨h1,h2,h3,h4⟩:=hF f hf
  have h5:=hL f.1.toNat (by omega)
  exact ⟨by omega,by omega,h3.2,fun p hp=>(h4 p hp).1⟩
theorem Wv {q:Qry} (h:Wk D M V q=0):Z3 D M V∧Rr D q∧Ybf q:=by
 unfold Wk at h
 split at h
 ·rename_i h1
  split at h
  ·rename_i h2
   exact ⟨h1,h2,Yf2 h1 h2⟩
  ·cases h
 ·cases h
/-! ### how many bytes -/
/-! ### what is put is read again -/
/-! ### what it needs -/
theorem J0 (F:List Fil) (f:Fil) (i:Nat) (n:Int):Zu (F++[f]) i n=if f.1=(i:Int)∧Zu F i n<f.2.1 then f.2.1 else Zu F i n:=by
 unfold Zu;rw [List.foldl_append];rfl
theorem Vr (q:Qry):(Xa q).length=q.1.length:=by simp [Xa]
theorem Cv {n':Nat}{v:Int}{L:List (List Txt)}{x:Txt}{l:List Txt} (hk:k<D.length) (he:D.getD k Xv=(x,l)) (hl:l.length=n') (hn:L.length=n) :
  U5 D ((k:Int),v,L)↔(1≤v∧v≤(n' : Int))∧(1≤(n:Int)∧(n:Int)≤6)∧∀ p∈L,Wu p∧(p.length:Int)=v:=by
 subst hl hn;unfold U5;simp only [Int.toNat_natCast,he];constructor
 ·rintro ⟨_,h2,h3,h4⟩
  exact ⟨h2,⟨by omega,by omega⟩,h4⟩
 ·rintro ⟨h2,h3,h4⟩
  exact ⟨⟨by omega,by omega⟩,h2,⟨by omega,by omega⟩,h4⟩
theorem Cu {d v:Int}{L:List (List Txt)} (hn:D.length=n) (h:¬ (0≤d∧d≤(n:Int) - 1)):¬ U5 D (d,v,L):=fun h2=>h ⟨h2.1.1,by have:=h2.1.2; simp only at this; omega⟩
theorem Ox {α:Type}{L:List α}{x:α}{P:α→Prop} (hx:L[k]?=some x) (h:P x) (ht:∀ y∈L.take k,P y):∀ y∈L.take (k+1),P y:=by
 intro y hy;rw [List.take_add_one,hx] at hy
 rcases List.mem_append.1 hy with hy | hy
 ·exact ht y hy
 ·have hy:y∈[x]:=hy
  rw [List.mem_singleton.1 hy]; exact h
theorem Ycw {F:List Fil} (hn:F.length=n):Rr D (G,F)↔Zi D G∧(n:Int)≤3∧∀ f∈F,U5 D f:=by
 subst hn;unfold Rr;constructor
 ·rintro ⟨h1,h2,h3⟩; exact ⟨h1,by simp only at h2; omega,h3⟩
 ·rintro ⟨h1,h2,h3⟩; exact ⟨h1,by simp only; omega,h3⟩
theorem Yol {q:Qry} (h:¬ Z3 D M V):Wk D M V q=11:=if_neg h
theorem Ny {q:Qry} (h:Z3 D M V) (h' : ¬ Rr D q):Wk D M V q=16:=by
 unfold Wk; rw [if_pos h,if_neg h']
theorem Ygl {q:Qry} (h:Z3 D M V) (h' : Rr D q):Wk D M V q=0:=by
 unfold Wk; rw [if_pos h,if_pos h']
/-! ### what it needs,filter by filter -/
theorem Ykx (G:List Int):Xa (G,[])=G:=by
 refine List.ext_getElem? fun i=>?_
 unfold Xa;rw [List.getElem?_map]
 by_cases hi:i<G.length
 ·rw [List.getElem?_range hi,List.getElem?_eq_getElem hi]
  simp [Zu,List.getD_eq_getElem?_getD,List.getElem?_eq_getElem hi]
 ·rw [List.getElem?_eq_none (by simpa using hi),List.getElem?_eq_none (by omega)]
  rfl
theorem You {F:List Fil}{d:Nat}{v:Int}{M:List (List Txt)} (he:F[k]?=some ((d:Int),v,M)) :
  (Xa (G,F.take k)).set d (max ((Xa (G,F.take k)).getD d 0) v)=Xa (G,F.take (k+1)):=by
 have ht:F.take (k+1)=F.take k++[((d:Int),v,M)]:=by rw [List.take_add_one,he]; rfl
 refine List.ext_getElem? fun i=>?_
 by_cases hi:i<G.length
 ·have h1:∀ F',(Xa (G,F'))[i]?=some (Zu F' i (G.getD i 0)):=fun F'=>by
   unfold Xa;rw [List.getElem?_map,List.getElem?_range hi];rfl
  rw [List.getElem?_set,h1,h1,ht,J0];simp only
  by_cases hdi:d=i
  ·subst hdi
   have h2:(Xa (G,F.take k)).getD d 0=Zu (F.take k) d (G.getD d 0):=by rw [List.getD_eq_getElem?_getD,h1]; rfl
   rw [if_pos rfl,if_pos (by rw [Vr]; exact hi),h2]
   by_cases hlt:Zu (F.take k) d (G.getD d 0)<v
   ·rw [if_pos ⟨rfl,hlt⟩,Int.max_eq_right (by omega)]
   ·rw [if_neg (fun h=>hlt h.2),Int.max_eq_left (by omega)]
  ·rw [if_neg hdi,if_neg (fun h=>hdi (by have:=h.1; omega))]
 ·rw [List.getElem?_eq_none (by rw [List.length_set,Vr]; exact Nat.le_of_not_lt hi),List.getElem?_eq_none (by rw [Vr]; exact Nat.le_of_not_lt hi)]
def Yea (D:List Yg) (M:List Txt) (V:List (List Int)) (q:Qry):List Int:=if Wk D M V q=0 then Xa q else []
def R0 (L:List (List Int)) (v:List Int) (k:Nat):List Int:=((List.range k).filter fun i=>decide (Xh (L.getD i []) v)).map fun (i:Nat)=>(i:Int)
theorem Pn {L:List (List Int)} (h:Xh (L.getD k []) v):R0 L v (k+1)=R0 L v k++[(k:Int)]:=by
 unfold R0;rw [List.range_succ,List.filter_append,List.map_append];simp only [List.filter_cons,List.filter_nil,decide_eq_true h,if_pos];rfl
theorem Hq {L:List (List Int)} (h:¬ Xh (L.getD k []) v):R0 L v (k+1)=R0 L v k:=by
 unfold R0;rw [List.range_succ,List.filter_append,List.map_append];simp only [List.filter_cons,List.filter_nil,decide_eq_false h,Bool.false_eq_true,if_false,List.map_nil,List.append_nil]
theorem Mq {L:List (List Int)} : u∈R0 L v k↔∃ i:Nat,i<k∧Xh (L.getD i []) v∧u=(i:Int):=by
 unfold R0;rw [List.mem_map];constructor
 ·rintro ⟨i,hi,rfl⟩
  obtain ⟨h1,h2⟩:=List.mem_filter.1 hi;exact ⟨i,List.mem_range.1 h1,of_decide_eq_true h2,rfl⟩
 ·rintro ⟨i,h1,h2,rfl⟩
  exact ⟨i,List.mem_filter.2 ⟨List.mem_range.2 h1,decide_eq_true h2⟩,rfl⟩
theorem Mp (L:List (List Int)) (v:List Int) (k:Nat):(R0 L v k).length≤k:=by
 unfold R0;rw [List.length_map];exact Nat.le_trans (List.length_filter_le _ _) (by rw [List.length_range]; exact Nat.le_refl _)
theorem Cp (L:List (List Int)) (v:List Int) (k:Nat):(R0 L v k).Pairwise (·<·):=by
 induction k with
 | zero=>exact List.Pairwise.nil
 | succ k ih =>
  by_cases h:Xh (L.getD k []) v
  ·rw [Pn h,List.pairwise_append]
   refine ⟨ih,List.pairwise_singleton _ _,fun a ha b hb=>?_⟩
   obtain ⟨i,hi,_,rfl⟩:=Mq.1 ha;rw [List.mem_singleton.1 hb];omega
  ·rw [Hq h]; exact ih
theorem Yji {L:List (List Int)} (h:Xh (L.getD 0 []) v) (hk:0<k):∃ T,R0 L v k=0 :: T:=by
 induction k with
 | zero=>exact absurd hk (by decide)
 | succ k ih =>
  by_cases h0:k=0
  ·subst h0
   rw [Pn h];exact ⟨[],rfl⟩
  ·obtain ⟨T,hT⟩:=ih (by omega)
   by_cases h1:Xh (L.getD k []) v
   ·rw [Pn h1,hT]; exact ⟨_,rfl⟩
   ·rw [Hq h1,hT]; exact ⟨_,rfl⟩
def Vd (D:List Yg) (V:List (List Int)) (q:Qry):List Int:=R0 (Ye D V) (Xa q) (Ye D V).length
def Yft (D:List Yg) (M:List Txt) (V:List (List Int)) (q:Qry):List Int:=if Wk D M V q=0 then Vd D V q else []
/-! ### what a query needs is a corner: the base covers it -/
theorem Yec {F:List Fil} : ∀ {n m:Int},n≤m→Zu F i n≤Zu F i m:=by
 unfold Zu
 induction F with
 | nil=>exact fun h=>h
 | cons f F ih =>
  intro n m h;rw [List.foldl_cons,List.foldl_cons];apply ih
  split <;> split <;> rename_i h1 h2 <;> omega
theorem Ykw {F:List Fil} : ∀ {n:Int},n≤Zu F i n:=by
 unfold Zu
 induction F with
 | nil=>exact fun {n}=>Int.le_refl _
 | cons f F ih =>
  intro n;rw [List.foldl_cons];refine Int.le_trans ?_ ih
  split <;> omega
theorem Ygo {F:List Fil}{b:Int} : ∀ {n:Int},n≤b→(∀ f∈F,f.1=(i:Int)→f.2.1≤b)→Zu F i n≤b:=by
 unfold Zu
 induction F with
 | nil=>exact fun h _=>h
 | cons f F ih =>
  intro n h hF;rw [List.foldl_cons];refine ih ?_ fun g hg=>hF g (List.mem_cons_of_mem _ hg)
  split
  ·rename_i h1; exact hF f List.mem_cons_self h1.1
  ·exact h
theorem N0 {q:Qry} (hi:i<q.1.length):(Xa q).getD i 0=Zu q.2 i (q.1.getD i 0):=by
 unfold Xa;rw [List.getD_eq_getElem?_getD,List.getElem?_map,List.getElem?_range hi];rfl
theorem Yba {q:Qry} (h:Rr D q):Zi D (Xa q):=by
 obtain ⟨⟨h1,h2⟩,_,hF⟩:=h;refine ⟨by rw [Vr]; exact h1,fun i hi=>?_⟩
 rw [Vr] at hi;obtain ⟨h3,h4⟩:=h2 i hi;rw [N0 hi];refine ⟨Int.le_trans h3 Ykw,Ygo h4 fun f hf e=>?_⟩
 have:=(hF f hf).2.1.2
 rw [e,Int.toNat_natCast] at this;exact this
theorem Kd {q:Qry} (h:Wk D M V q=0):∃ T,Vd D V q=0 :: T :=
 Yji (L:=Ye D V) (Ycd (Yba (Wv h).2.1)) (Nat.succ_pos _)
theorem Tp {q:Qry} (h:Wk D M V q=0):Yft D M V q=Vd D V q:=if_pos h
theorem Yau {q:Qry} (h:Wk D M V q≠0):Yft D M V q=[]:=if_neg h
theorem Hr {q:Qry} (h:u∈Vd D V q):∃ i:Nat,i<V.length+1∧u=(i:Int)∧Xh ((Ye D V).getD i []) (Xa q):=by
 obtain ⟨i,h1,h2,h3⟩:=Mq.1 h;exact ⟨i,h1,h3,h2⟩
/-! ### a query that needs less -/
def V3 (q:Qry) (k:Nat):Qry:=(q.1.set k 0,q.2.dropLast)
theorem Ya9 (F:List Fil) (f:Fil) (i:Nat) (n:Int):Zu F i n≤Zu (F++[f]) i n:=by
 unfold Zu;rw [List.foldl_append];simp only [List.foldl_cons,List.foldl_nil]
 split <;> omega
theorem Yeb (F:List Fil) (i:Nat) (n:Int):Zu F.dropLast i n≤Zu F i n:=by
 by_cases h:F=[]
 ·subst h; exact Int.le_refl _
 ·have e:=List.dropLast_concat_getLast h
  have:=Ya9 F.dropLast (F.getLast h) i n
  rwa [e] at this
theorem Bg : (G.set k 0).getD i 0=if k=i then 0 else G.getD i 0:=by
 rw [List.getD_eq_getElem?_getD,List.getElem?_set,List.getD_eq_getElem?_getD]
 by_cases h:k=i
 ·rw [if_pos h,if_pos h]
  split <;> rfl
 ·rw [if_neg h,if_neg h]
theorem Yn4 {q:Qry} (h:Rr D q):Rr D (V3 q k):=by
 obtain ⟨⟨h1,h2⟩,h3,h4⟩:=h;refine ⟨⟨by simpa [V3] using h1,fun i hi=>?_⟩,Nat.le_trans (by simp [V3]) h3,fun f hf=>h4 f (List.dropLast_subset _ hf)⟩
 have hi' : i<q.1.length:=by simpa [V3] using hi
 have h5:=h2 i hi'
 show 0≤(q.1.set k 0).getD i 0∧(q.1.set k 0).getD i 0≤_
 rw [Bg]
 split <;> omega
theorem Ydy {q:Qry} (h:Wk D M V q=0):Wk D M V (V3 q k)=0:=Ygl (Wv h).1 (Yn4 (Wv h).2.1)
theorem Ydx {q:Qry} (h:Rr D q) {x:List Int}(hx:Xh x (Xa q)):Xh x (Xa (V3 q k)):=by
 obtain ⟨⟨h1,h2⟩,_,_⟩:=h;obtain ⟨h3,h4⟩:=hx;rw [Vr] at h3;refine ⟨by rw [Vr,h3]; simp [V3],fun i hi=>Int.le_trans ?_ (h4 i hi)⟩
 have hi' : i<q.1.length:=by omega
 rw [N0 hi',N0 (by simpa [V3] using hi')]
 refine Int.le_trans (Yec (m:=q.1.getD i 0) ?_) (Yeb q.2 i _)
 show (q.1.set k 0).getD i 0≤_
 rw [Bg]
 have:=(h2 i hi').1
 split <;> omega
theorem Yn3 {q:Qry} (h:Rr D q) {u:Int}(hu:u∈Vd D V q):u∈Vd D V (V3 q k):=by
 obtain ⟨i,h1,h2,h3⟩:=Mq.1 hu;exact Mq.2 ⟨i,h1,Ydx h h2,h3⟩
/-! ### the one that is chosen -/
def Va (c:Int→Nat) (L:List Int) (v:Int):Prop:=v∈L∧∀ u∈L,c v<c u∨(c v=c u∧v≤u)
theorem Va.uniq {L:List Int}{v:Int} (h:Va c L v) (h' : Va c L u):v=u:=by
 have h1:=h.2 u h'.1
 have h2:=h'.2 v h.1
 omega
theorem Cc (c:Int→Nat) (v:Int):Va c [v] v:=⟨List.mem_singleton.2 rfl,fun u hu=>.inr ⟨by rw [List.mem_singleton.1 hu],by rw [List.mem_singleton.1 hu]; exact Int.le_refl _⟩⟩
theorem Va.less {L:List Int}{v:Int} (h:Va c L v) (hc:c u<c v):Va c (L++[u]) u:=by
 refine ⟨List.mem_append_right _ (List.mem_singleton.2 rfl),fun x hx=>?_⟩
 rcases List.mem_append.1 hx with hx | hx
 ·have:=h.2 x hx; omega
 ·rw [List.mem_singleton.1 hx]; exact .inr ⟨rfl,Int.le_refl _⟩
theorem Va.Vj {L:List Int}{v:Int} (h:Va c L v) (hc:¬ c u<c v) (hv:v≤u):Va c (L++[u]) v:=by
 refine ⟨List.mem_append_left _ h.1,fun x hx=>?_⟩
 rcases List.mem_append.1 hx with hx | hx
 ·exact h.2 x hx
 ·rw [List.mem_singleton.1 hx]; omega
theorem E7 {L:List Int} (h:L.Pairwise (·<·)) {k:Nat}{u v:Int}(hu:L[k]?=some u) (hv:v∈L.take k):v<u:=by
 obtain ⟨i,hi,rfl⟩:=List.getElem_of_mem hv;obtain ⟨hk,rfl⟩:=List.getElem?_eq_some_iff.1 hu;rw [List.getElem_take]
 have hi' : i<k:=by rw [List.length_take] at hi; omega
 exact List.pairwise_iff_getElem.1 h i k (by omega) hk hi'
end Go.Proofs.YtkablhecedcngaaGreat
