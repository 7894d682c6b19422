/- Ys4, Key3, MapR, SchemaT, CubT -/
import Derived.Test.YtkablhecedcngaaGreatJ12
import Derived.Test.YtkablhecedcngaaGreatJ15
import Derived.Sort.Statements
namespace Go.Proofs.YtkablhecedcngaaGreat
set_option maxRecDepth 100000
set_option maxHeartbeats 8000000
open Go.RowKit
open Go.Lib (hid)
variable {W:Nat}{I K:TypeId}
section
open Go.RowKit Go.Maps
structure Hd (K:TypeId) (kv:List Int→Value) (W:Nat):Prop where
 law:Keyed Tryz.prog K
 is:∀ k,isKey W k→∃ kl,keyOf Tryz.prog K (kv k)=some kl
 inj:∀ k j,isKey W k→isKey W j→kv k=kv j→k=j
theorem Hd.one {K:TypeId}{kv:List Int→Value}{W:Nat}(h:Hd K kv W) {k j:List Int}{kl:Lit}(hk:isKey W k) (hj:isKey W j) (e:keyOf Tryz.prog K (kv k)=some kl) (e' : keyOf Tryz.prog K (kv j)=some kl):k=j:=h.inj k j hk hj (h.law.inj e e')
def Yp7 (w:World) (S:Nat→Prop):Option PC→Option Value→Prop
 | none,none=>True
 | some x,some v=>∃ us,v=.agg us.toArray∧Yhz w S us x
 | _,_=>False
theorem Yp7.some_ {w:World}{S:Nat→Prop}{x:Option PC}{v:Option Value}(h:Yp7 w S x v):v.isSome=x.isSome:=by
 rcases x with _ | x <;> rcases v with _ | v
 ·rfl
 ·exact h.elim
 ·exact h.elim
 ·rfl
def Ys4 (K:TypeId) (kv:List Int→Value) (W:Nat) (w:World) (S:Nat→Prop) (b:Nat) (C:Cub):Prop :=
 ∃ F,Tl w K b C.length F∧(∀ k kl,isKey W k→keyOf Tryz.prog K (kv k)=some kl→Yp7 w S (Zb C k) (F kl))∧∀ kl v,F kl=some v→∃ k,isKey W k∧keyOf Tryz.prog K (kv k)=some kl
section
variable {w w' : World}{S S' : Nat→Prop}{K:TypeId}{kv:List Int→Value}{W b:Nat}{C:Cub}
end
end
section
open Go.RowKit Go.Maps
def kv3 (k:List Int):Value:=.agg #[.int .i64 (k.getD 0 0),.int .i64 (k.getD 1 0),.int .i64 (k.getD 2 0)]
theorem Yq0 {a b:List Int} (h:a.length=b.length) (h3:a.length≤3) (e:kv3 a=kv3 b):a=b:=by
 simp only [kv3,Value.agg.injEq,Array.mk.injEq,List.cons.injEq,Value.int.injEq,and_true,true_and] at e;obtain ⟨h1,h2,h4⟩:=e;exact Yef h h3 (by unfold Tz; rw [h1,h2,h4])
theorem Ybw {x:Int} (h:0≤x∧x≤40):(Lit.int .i64 x).wf=true:=by
 have h1:IntKind.i64.min=-9223372036854775808:=rfl
 have h2:IntKind.i64.max=9223372036854775807:=rfl
 simp only [Lit.wf,Bool.and_eq_true,decide_eq_true_eq];omega
theorem V7 {k:List Int} (h:isKey W k) (i:Nat):0≤k.getD i 0∧k.getD i 0≤40:=by
 rw [List.getD_eq_getElem?_getD]
 rcases hi:k[i]? with _ | c
 ·simp
 ·exact h.2 c (List.mem_of_getElem? hi)
theorem Yqx (hu:Tryz.prog.underlying K=some (.array 3 I)) (hI:Tryz.prog.underlying I=some (.int .i64)) (h1:Tryz.prog.keyType K=true) (h3:Tryz.prog.cellsOf K=3) (h4:Tryz.prog.cellsOf I=1) (h2:0<Tryz.prog.types.size)
  {x y z:Int}(hx:(Lit.int .i64 x).wf=true) (hy:(Lit.int .i64 y).wf=true) (hz:(Lit.int .i64 z).wf=true):∃ kl,keyOf Tryz.prog K (.agg #[.int .i64 x,.int .i64 y,.int .i64 z])=some kl:=by
 have hf:(Value.agg #[.int .i64 x,.int .i64 y,.int .i64 z]).formed Tryz.prog K=true:=by
  simp [Value.formed,hu,h3]
 unfold keyOf;rw [hu,h1,hf];simp only [Bool.and_self,if_true]
 have hl:∃ ls,Tryz.prog.keyLits (Tryz.prog.types.size+1) K (Value.agg #[.int .i64 x,.int .i64 y,.int .i64 z]).cells.toList=some ls:=by
  obtain ⟨d,hd⟩ : ∃ d,Tryz.prog.types.size+1=d+2:=⟨Tryz.prog.types.size - 1,by omega⟩
  rw [hd];clear hd h2 h1 hf
  have hr:List.range 3=[0,1,2]:=by decide
  simp [Program.keyLits,hu,hI,Value.cells,h3,h4,hr,hx,hy,hz]
 obtain ⟨ls,hl⟩:=hl;rw [hl];exact ⟨_,rfl⟩
theorem Ysm (law:Keyed Tryz.prog K) (hu:Tryz.prog.underlying K=some (.array 3 I)) (hI:Tryz.prog.underlying I=some (.int .i64)) (h1:Tryz.prog.keyType K=true) (h3:Tryz.prog.cellsOf K=3) (h4:Tryz.prog.cellsOf I=1) (h2:0<Tryz.prog.types.size) {W:Nat}(hW:W≤3):Hd K kv3 W where
 law:=law
 is k hk:=Yqx hu hI h1 h3 h4 h2 (Ybw (V7 hk 0)) (Ybw (V7 hk 1)) (Ybw (V7 hk 2))
 inj k j hk hj e:=Yq0 (hk.1.trans hj.1.symm) (by rw [hk.1]; exact hW) e
end
section
open Go.RowKit Go.Maps
/-! ### plain: keys in order -/
theorem F4 (A:List (List Int)) (k:List Int):Zb (A.map fun a=>(a,Ym)) k=if k∈A then some Ym else none:=by
 induction A with
 | nil=>simp [Zb]
 | cons a A ih =>
  rw [List.map_cons,Zb,ih]
  by_cases h:a=k
  ·subst h
   simp
  ·rw [if_neg h]
   by_cases h2:k∈A
   ·rw [if_pos h2,if_pos (List.mem_cons_of_mem _ h2)]
   ·rw [if_neg h2,if_neg (fun hm=>(List.mem_cons.1 hm).elim (fun e=>h e.symm) h2)]
theorem Yeq {C:Cub}(h:Ris C):(C.map (·.1)).Pairwise fun a b=>Zp a b=true:=List.pairwise_map.2 h
theorem Qv {C:Cub}(h:Ris C):(C.map (·.1)).Nodup:=(Yeq h).imp fun hl=>Uo hl
theorem keys_eq {A:List (List Int)}{C:Cub}(hC:Ris C) (hp:A.Perm (C.map (·.1))) (hs:A.Pairwise fun a b=>Zp b a=false):A=C.map (·.1):=by
 have hn:A.Nodup:=hp.nodup_iff.2 (Qv hC)
 have hA:A.Pairwise fun a b=>Zp a b=true:=by
  refine (List.pairwise_and_iff.2 ⟨hs,hn⟩).imp fun {a b} ⟨h1,h2⟩=>?_
  rcases R6 a b with h | h | h
  ·exact h
  ·exact absurd h h2
  ·rw [h1] at h; cases h
 have e:=Yrq (C:=A.map fun a=>(a,Ym)) (D:=(C.map (·.1)).map fun a=>(a,Ym)) (List.pairwise_map.2 hA) (List.pairwise_map.2 (Yeq hC)) fun k=>by
  rw [F4,F4]
  by_cases h:k∈A
  ·rw [if_pos h,if_pos (hp.mem_iff.1 h)]
  ·rw [if_neg h,if_neg (fun h'=>h (hp.mem_iff.2 h'))]
 have e2:=congrArg (List.map (·.1)) e
 simpa [List.map_map,Function.comp_def] using e2
/-! ### a range -/
structure Yt2 (K:TypeId) (kv:List Int→Value) (W:Nat) (C:Cub) (left:Lit→Bool) (acc:List (List Int)):Prop where
 nodup:acc.Nodup
 key:∀ k∈acc,isKey W k
 mem:∀ k kl,isKey W k→keyOf Tryz.prog K (kv k)=some kl→(k∈acc↔(Zb C k).isSome∧left kl=false)
def Yit (K:TypeId) (kv:List Int→Value) (W:Nat) (w:World) (S:Nat→Prop) (b r:Nat) (C:Cub) (acc:List (List Int)) (cnt:Nat):Prop :=
 ∃ D F left,w.ranges Tryz.prog K Hi b r C.length D left cnt∧Tl w K b C.length F∧(∀ kl v,(∀ zd,D.atKey kl zd=.held v)→F kl=some v)∧(∀ k kl,isKey W k→keyOf Tryz.prog K (kv k)=some kl→Yp7 w S (Zb C k) (F kl)) ∧
  (∀ kl v,F kl=some v→∃ k,isKey W k∧keyOf Tryz.prog K (kv k)=some kl)∧Yt2 K kv W C left acc
section
variable {w w' : World}{S S' : Nat→Prop}{K:TypeId}{kv:List Int→Value}{W b r cnt:Nat}{C:Cub}{acc:List (List Int)}
theorem Yit.map (h:Yit K kv W w S b r C acc cnt):Ys4 K kv W w S b C:=by
 obtain ⟨D,F,left,_,h2,_,h4,h5,_⟩:=h;exact ⟨F,h2,h4,h5⟩
theorem Yit.left (h:Yit K kv W w S b r C acc cnt):w.rangeLeft b r=cnt:=by obtain ⟨D,F,left,h1,_⟩:=h; exact h1.left_eq
theorem Yit.key (h:Yit K kv W w S b r C acc cnt):∀ k∈acc,isKey W k:=by obtain ⟨D,F,left,_,_,_,_,_,h6⟩:=h; exact h6.key
end
section
variable (w:World) {S:Nat→Prop}{K:TypeId}{kv:List Int→Value}{W b r cnt:Nat}{C:Cub}{acc:List (List Int)}{ops:Array Oper}{rest:List Oper}{o:Oper}{a:Act}{Q:Exit→Act→World→Prop}
end
end
section
open Go.RowKit Go.Maps
theorem Yev:Keyed Tryz.prog 9:=string_keyed Tryz.underlying9
theorem Ypl {a b:Txt} (h:Xp a=Xp b):a=b:=by
 simp only [Xp,Value.string.injEq,ByteArray.mk.injEq] at h;simpa using h
theorem Bz {α β:Type}{f:α→β} (hf:∀ a b,f a=f b→a=b) {l:List α} : (l.map f).Nodup↔l.Nodup:=by
 unfold List.Nodup;rw [List.pairwise_map];constructor
 ·exact fun h=>h.imp fun hne e=>hne (by rw [e])
 ·exact fun h=>h.imp fun hne e=>hne (hf _ _ e)
theorem Yko (w:World):(Instr.makeMap 193 none).run Tryz.prog w=.ok (.map (some w.heap.size)) (w.alloc (.map #[] 0)):=run_makeMap _ w
theorem Yll {l:List Txt}{k:Nat}{x:Txt} (hk:k<l.length) (e:x=l.getD k []):(l.take k).map Xp++[Xp x]=(l.take (k+1)).map Xp:=by
 rw [List.take_succ_eq_append_getElem hk,List.map_append,e,List.getD_eq_getElem?_getD,List.getElem?_eq_getElem hk];rfl
theorem Yhf {A:Option Addr}{n c:Nat}{L:List Txt}{w:World} (h:Zn w w.heap.size A n c L) (hn:n≤1000) (hm:∀ s∈L,s.length≤maxLen) :
  Calls Tryz.prog 92 #[.slice A n c] w fun e w'=>e=.returned (.bool (decide (¬ L.Nodup)))∧Below w.heap.size w w':=by
 have HL:=hid h.len
 have HM:=hid hm
 have hmk:=Yko
 clear hm;go_enter Tryz.func92,Tryz.ntmps92;go_wp2_with fail
 have hK0:=R9.made w 9
 have hb0:=Ya w (.map #[] 0)
 clear hmk;generalize w.alloc (.map #[] 0)=w1 at hK0 hb0 ⊢;go_loopw [9] (fun i wr=>∃ k:Nat,k≤n∧i=.int .i64 k∧R9 wr 9 w.heap.size ((L.take k).map Xp)∧Below w.heap.size w wr) (fun i _=>n - (intOf i).toNat)
 case atStart=>exact ⟨0,Nat.zero_le _,rfl,hK0,hb0⟩
 case round =>
  obtain ⟨k,hk,rfl,hK,hB⟩:=hrel
  by_cases hlt:k<n
  ·obtain ⟨b,o,x,rfl,hb,hc,ex⟩:=(h.below hB (Nat.le_refl _)).at_ hlt
   have i0:(0:Int)≤(k:Int):=by omega
   have i1:(k:Int)<(n:Int):=by omega
   have hx:(⟨x.toArray⟩ : ByteArray).size≤maxLen:=by
    have h1:x∈L:=by rw [ex.out,List.getD_eq_getElem?_getD,List.getElem?_eq_getElem (by have:=HL.out; omega)]; exact List.getElem_mem _
    have:=HM.out x h1
    show x.toArray.size≤maxLen
    simpa using this
   obtain ⟨w2,hrun,hK2,hg2⟩:=hK.store Yev Tryz.underlying193 (WideMaps.keyOf_string_mk Tryz.underlying9 hx) (by rw [List.length_map]; exact Nat.le_trans (List.length_take_le k _) (by omega))
   have hK2:R9 w2 9 w.heap.size ((L.take k).map Xp++[Xp x]):=hK2
   rw [Yll (by have:=HL.out; omega) ex.out] at hK2
   have HK2:=hid hK2
   have HB2:=hid (hB.grown hg2 hB.size (fun j hj=>by cases hj; exact Nat.le_refl _))
   clear hK hK2 hg2 hB hx;go_wp2_with fail;go_roundw
   case rel=>exact ⟨k+1,by omega,by go_num,HK2.out,HB2.out⟩
   case measure=>simp [intOf]; omega
  ·have e:L.take k=L:=List.take_of_length_le (by have:=HL.out; omega)
   rw [e] at hK;obtain ⟨N,m,Dm,hown,hsz,hle,hnd⟩:=hK.count Yev;rw [Bz fun _ _=>Ypl,List.length_map,HL.out] at hnd
   rw [List.length_map,HL.out] at hle;clear e hK
   by_cases hno:L.Nodup
   ·obtain rfl:m=n:=hnd.2 hno
    have H:Hid (decide (¬ L.Nodup)=false):=hid (by simpa using hno)
    have hs:Hid (Maps.size Dm=m):=hid hsz
    clear hnd hno hsz;go_wp2_with (at_len; refine wpList_len_own _ rfl _ 193 rfl 9 194 Tryz.underlying193 (unitElem (H:=Unit)) w.heap.size N Dm rfl hown ?_; rw [hs.out]);go_ret;exact ⟨Yd H.out.symm,hB⟩
   ·have hlt2:m<n:=by
     have:m≠n:=fun e=>hno (hnd.1 e)
     omega
    have H:Hid (decide (¬ L.Nodup)=true):=hid (by simpa using hno)
    have hs:Hid (Maps.size Dm=m):=hid hsz
    have hlt3:(m:Int)<(n:Int):=by omega
    clear hnd hno hsz;go_wp2_with (at_len; refine wpList_len_own _ rfl _ 193 rfl 9 194 Tryz.underlying193 (unitElem (H:=Unit)) w.heap.size N Dm rfl hown ?_; rw [hs.out]);go_ret;exact ⟨Yd H.out.symm,hB⟩
end
section
open Go.Sort
theorem Ya3 {a b c:List Int}(h1:Zp a b=false) (h2:Zp b c=false):Zp a c=false:=by
 rcases h:Zp a c with _ | _
 ·rfl
 ·exfalso
  rcases R6 a b with h3 | h3 | h3
  ·rw [h1] at h3; cases h3
  ·subst h3
   rw [h] at h2
   cases h2
  ·have h4:=Vl h3 h
   rw [h2] at h4
   cases h4
def lt3 (x y:Int × Int × Int):Bool:=Zp (Pe x) (Pe y)
theorem Yuk:SWO lt3:=⟨fun _=>Wt _,fun _ _ _ h1 h2=>Vl h1 h2,fun _ _ _ h1 h2=>Ya3 h1 h2⟩
section
variable {α:Type} [Inhabited α] {lt:α→α→Bool}{d d' : Array α}
theorem Yeg (h:PermIn 0 d.size d d'):d'.toList.Perm d.toList:=by
 obtain ⟨h1,_,h3⟩:=h
 have e1:d.extract 0 d.size=d:=by simp
 have e2:d'.extract 0 d.size=d':=by rw [← h1]; simp
 rw [e1,e2] at h3;exact h3
theorem D5 (hs:d'.size=d.size) (h:SortedIn lt 0 d.size d'):d'.toList.Pairwise fun a b=>lt b a=false:=by
 rw [List.pairwise_iff_getElem];intro i j hi hj hij
 have hi' : i<d'.size:=by simpa using hi
 have hj' : j<d'.size:=by simpa using hj
 have:=h i j (Nat.zero_le _) hij (by omega)
 rw [getElem!_pos d' i hi',getElem!_pos d' j hj'] at this;simpa using this
end
theorem Ylf {C:Cub}{A:List (List Int)} (hC:Ris C) (hW:∀ e∈C,isKey W e.1) (h3:W≤3) (hp:A.Perm (C.map (·.1))) {d d' : Array (Int × Int × Int)}(hd:d.toList=A.map Tz) (h1:PermIn 0 d.size d d') (h2:SortedIn lt3 0 d.size d'):d'.toList=(C.map (·.1)).map Tz:=by
 have hA:∀ k∈A,k.length=W:=fun k hk=>by
  obtain ⟨e,he,rfl⟩:=List.mem_map.1 (hp.mem_iff.1 hk);exact (hW e he).1
 have q1:=Yeg h1
 rw [hd] at q1
 have q2:=D5 h1.1 h2
 have back:∀ k∈A,(Pe (Tz k)).take W=k:=fun k hk=>by
  have e:=hA k hk
  rw [← e];exact Kz (by omega)
 have e1:(d'.toList.map fun t=>(Pe t).take W).map Tz=d'.toList:=by
  rw [List.map_map]
  conv=>rhs; rw [← List.map_id d'.toList]
  apply List.map_congr_left;intro t ht;obtain ⟨k,hk,rfl⟩:=List.mem_map.1 (q1.mem_iff.1 ht);simp [back k hk]
 have p1:(d'.toList.map fun t=>(Pe t).take W).Perm A:=by
  have:=q1.map fun t=>(Pe t).take W
  rw [List.map_map] at this
  have e2:A.map ((fun t=>(Pe t).take W) ∘ Tz)=A:=by
   conv=>rhs; rw [← List.map_id A]
   exact List.map_congr_left fun k hk=>back k hk
  rw [e2] at this;exact this
 have s1:(d'.toList.map fun t=>(Pe t).take W).Pairwise fun a b=>Zp b a=false:=by
  rw [List.pairwise_map];refine List.Pairwise.imp_of_mem (fun {a b} ha hb hl=>?_) q2
  obtain ⟨k,hk,rfl⟩:=List.mem_map.1 (q1.mem_iff.1 ha);obtain ⟨j,hj,rfl⟩:=List.mem_map.1 (q1.mem_iff.1 hb);rw [back k hk,back j hj]
  have e3:=Yk8 (a:=j) (b:=k) ((hA j hj).trans (hA k hk).symm) (by rw [hA j hj]; exact h3)
  rw [← e3];exact hl
 rw [← e1,keys_eq hC (p1.trans hp) s1]
end
end Go.Proofs.YtkablhecedcngaaGreat
