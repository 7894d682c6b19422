/- Uj -/
import Derived.Test.YtkablhecedcngaaGreatJ25
import Derived.RangeFuncSeq
namespace Go.Proofs.YtkablhecedcngaaGreat
set_option maxRecDepth 100000
set_option maxHeartbeats 8000000
open Go.RowKit
section
open Go.RowKit Go.Maps
theorem Ykz {A J:List (List Int)}(h:A.Nodup) (hs:∀ k∈A,k∈J):A.length≤J.length:=by
 induction A generalizing J with
 | nil=>simp
 | cons a A ih =>
  obtain ⟨h1,h2⟩:=List.nodup_cons.1 h
  have ha:=hs a (by simp)
  have h3:=ih (J:=J.erase a) h2 (fun k hk=>(List.mem_erase_of_ne (fun e=>h1 (by rw [← e]; exact hk))).2 (hs k (by simp [hk])))
  rw [List.length_erase_of_mem ha] at h3
  have h4:=List.length_pos_of_mem ha
  simp;omega
structure Gb (K:TypeId) (kv:List Int→Value) (W:Nat) (J:List (List Int)) (left:Lit→Bool) (acc:List (List Int)):Prop where
 nodup:acc.Nodup
 key:∀ k∈acc,k∈J
 mem:∀ k kl,isKey W k→keyOf Tryz.prog K (kv k)=some kl→(k∈acc↔k∈J∧left kl=false)
structure Uj (K:TypeId) (kv:List Int→Value) (W:Nat) (w:World) (b r:Nat) (F:Lit→Option Value) (J acc:List (List Int)) (cnt:Nat):Prop where
 map:Uy K kv W w b F J
 rng:∃ D left,w.ranges Tryz.prog K Hi b r J.length D left cnt∧(∀ kl v,(∀ zd,D.atKey kl zd=.held v)→F kl=some v)∧Gb K kv W J left acc
section
variable {w w' : World}{K:TypeId}{kv:List Int→Value}{W b r cnt:Nat}{F:Lit→Option Value}{J acc:List (List Int)}
theorem Uj.left (h:Uj K kv W w b r F J acc cnt):w.rangeLeft b r=cnt:=by obtain ⟨D,left,h1,_⟩:=h.rng; exact h1.left_eq
theorem Uj.ne (h:Uj K kv W w b r F J acc cnt):r≠b:=by obtain ⟨D,left,h1,_⟩:=h.rng; exact h1.ne
theorem Uj.key (h:Uj K kv W w b r F J acc cnt):∀ k∈acc,k∈J:=by
 obtain ⟨D,left,_,_,h1⟩:=h.rng;exact h1.key
theorem Uj.nodup (h:Uj K kv W w b r F J acc cnt):acc.Nodup:=by
 obtain ⟨D,left,_,_,h1⟩:=h.rng;exact h1.nodup
theorem Uj.kept {row:Option Nat}(h:Uj K kv W w b r F J acc cnt) (hg:w.grownBy w' row) (hb:some b≠row) (hr:some r≠row):Uj K kv W w' b r F J acc cnt:=by
 obtain ⟨D,left,h1,h2,h3⟩:=h.rng;exact ⟨h.map.same (hg.block b h.map.lt hb),D,left,h1.kept hg hb hr,h2,h3⟩
theorem Uj.alloc (h:Uj K kv W w b r F J acc cnt) (o:Obj):Uj K kv W (w.alloc o) b r F J acc cnt:=h.kept (World.grownBy_alloc w o none) (by simp) (by simp)
theorem Uj.of_walks (h:Uj K kv W w b r F J acc cnt) (hk:KeepsWalks w w'):Uj K kv W w' b r F J acc cnt:=by
 obtain ⟨D,left,h1,h2,h3⟩:=h.rng;obtain ⟨es,clock,hm⟩:=h.map.map.Rt;refine ⟨h.map.same ?_,D,left,h1.of_walks hk,h2,h3⟩;rw [hm];exact hk.same b _ hm rfl
theorem Uj.start (h:Uy K kv W w b F J):∃ D,w.ownsMap Tryz.prog K Hi b J.length D∧∀ w',w'.ranges Tryz.prog K Hi b w.heap.size J.length D (Maps.has D) (Maps.size D)→w.grownBy w' none→Uj K kv W w' b w.heap.size F J [] J.length:=by
 obtain ⟨D,d1,d2,d3,d4⟩:=h.map.own;refine ⟨D,d1,fun w' r1 r2=>⟨h.same (r2.block b h.lt (by simp)),D,_,by rw [d2] at r1; exact r1,d4,List.nodup_nil,(fun k hk=>by simp at hk),fun k kl hk ek=>?_⟩⟩
 have hu:=h.has k kl hk ek
 rw [d3];constructor
 ·intro hk; simp at hk
 ·rintro ⟨h1,h2⟩
  rw [hu.2 h1] at h2
  cases h2
theorem Gb.step {left:Lit→Bool}(h:Gb K kv W J left acc) (T:Hd K kv W) {k:List Int}{kl:Lit}(hk:isKey W k) (e:keyOf Tryz.prog K (kv k)=some kl) (hl:left kl=true) (hx:k∈J) :
  k∉acc∧Gb K kv W J (fun z=>left z && !z.sameKey kl) (acc++[k]):=by
 have hnot:k∉acc:=fun hm=>by
  have:=((h.mem k kl hk e).1 hm).2
  rw [hl] at this
  cases this
 refine ⟨hnot,List.nodup_append.2 ⟨h.nodup,by simp,fun a ha b hb=>by
  rw [List.mem_singleton.1 hb];exact fun e'=>hnot (e' ▸ ha)⟩,fun j hj=>?_,fun j jl hj ej=>?_⟩
 ·rcases List.mem_append.1 hj with hj | hj
  ·exact h.key j hj
  ·rw [List.mem_singleton.1 hj]; exact hx
 ·by_cases hjk:j=k
  ·subst hjk
   rw [e] at ej;injection ej with ej
   subst ej;simp [hx,WideAt.sameKey_self (T.law.key e)]
  ·have hne:¬ jl=kl:=fun e2:jl=kl=>hjk (T.one hj hk (e2 ▸ ej) e)
   have hs:jl.sameKey kl=false:=by
    rcases hh:jl.sameKey kl with _ | _
    ·rfl
    ·exact absurd (WideAt.sameKey_eq hh) hne
   simp only [List.mem_append,List.mem_singleton,hjk,or_false,hs,Bool.not_false,Bool.and_true];exact h.mem j jl hj ej
theorem Gb.all {left:Lit→Bool}(h:Gb K kv W J left acc) (T:Hd K kv W) (hJ:J.Nodup) (hW:∀ k∈J,isKey W k) (hl:∀ kl,left kl=false):acc.Perm J:=by
 refine (List.perm_ext_iff_of_nodup h.nodup hJ).2 fun k=>⟨fun hk=>h.key k hk,fun hk=>?_⟩
 obtain ⟨kl,e⟩:=T.is k (hW k hk);exact (h.mem k kl (hW k hk) e).2 ⟨hk,hl kl⟩
theorem Uj.more (h:Uj K kv W w b r F J acc cnt) (T:Hd K kv W) {D:DataW Value}{left:Lit→Bool}(h2:∀ kl v,(∀ zd,D.atKey kl zd=.held v)→F kl=some v) (h3:Gb K kv W J left acc)
  {x c:Value}{kl:Lit}{y:DataW Value × List MemPlace}{cnt' : Nat}(hkey:keyOf Tryz.prog K x=some kl) (hl:left kl=true) (hv:Hi c=some y) (hat:∀ zd,D.atKey kl zd=y.1) (hrg:w'.ranges Tryz.prog K Hi b r J.length D (fun z=>left z && !z.sameKey kl) cnt') (hgr:w.grownBy w' (some r)) :
  ∃ k,x=kv k∧k∈J∧k∉acc∧F kl=some c∧Uj K kv W w' b r F J (acc++[k]) cnt':=by
 rw [E4 hv] at hat
 have hF:=h2 kl c hat
 obtain ⟨k,hk,ek⟩:=h.map.back kl c hF;obtain rfl:x=kv k:=T.law.inj hkey ek
 have hJ:k∈J:=(h.map.has k kl hk ek).1 (by rw [hF]; rfl)
 obtain ⟨h4,h5⟩:=h3.step T hk ek hl hJ;exact ⟨k,rfl,hJ,h4,hF,h.map.same (hgr.block b h.map.lt (fun e=>h.ne (Option.some.inj e).symm)),D,_,hrg,h2,h5⟩
end
section
variable (w:World) {K:TypeId}{kv:List Int→Value}{W b r cnt:Nat}{F:Lit→Option Value}{J acc:List (List Int)}{ops:Array Oper}{rest:List Oper}{o:Oper}{a:Act}{Q:Exit→Act→World→Prop}
end
section
variable (w:World) {Fc:Fence}{nF:Nat}{K:TypeId}{kv:List Int→Value}{W b r cnt:Nat}{F:Lit→Option Value}{J acc:List (List Int)}{ops:Array Oper}{rest:List Oper}{o:Oper}{a:Act}{Q:Exit→Act→World→Prop}
theorem Jg (hg:o.guard=none) (m:Operand) (t:TypeId) (hop:o.op=Op.range t m) (e:TypeId) (T:Hd K kv W) (ht:Tryz.prog.underlying t=some (.map K e)) (b:Nat) (F:Lit→Option Value) (J:List (List Int)) (hm:a.eval m=.map (some b)) (h:Uy K kv W w b F J)
  (hK:∀ w',Uj K kv W w' b w.heap.size F J [] J.length→w.grownBy w' none→w'.heap.size=w.heap.size+1→wpListIn Fc nF Tryz.prog ops Q rest (a.put o.dst (.pointer (some ⟨w.heap.size,0,none⟩))) w'):wpListIn Fc nF Tryz.prog ops Q (o :: rest) a w:=by
 obtain ⟨D,d1,d2⟩:=Uj.start h;exact wpListIn_range_own w hg m t hop K e T.law ht Hi b _ D hm d1 fun w' r1 r2 r3=>hK w' (d2 w' r1 r2) r2 r3
theorem Hj (hg:o.guard=none) (it:Operand) (hop:o.op=Op.next it false) (T:Hd K kv W) (hit:a.eval it=.pointer (some ⟨r,0,none⟩)) (h:Uj K kv W w b r F J acc cnt)
  (hDone:acc.Perm J→wpListIn Fc nF Tryz.prog ops Q rest (a.put o.dst (.tuple #[.bool false])) w)
  (hMore:∀ (k:List Int) (kl:Lit) (v:Value) (w' : World) (cnt' : Nat),k∈J→k∉acc→keyOf Tryz.prog K (kv k)=some kl→F kl=some v→Uj K kv W w' b r F J (acc++[k]) cnt'→cnt'<cnt→w.grownBy w' (some r)→w'.heap.size=w.heap.size →
   (Instr.entry (.pointer (some ⟨r,0,none⟩))).run Tryz.prog w'=.ok (.tuple #[kv k,v]) w'→wpListIn Fc nF Tryz.prog ops Q rest (a.put o.dst (.tuple #[.bool true,kv k,v])) w'):wpListIn Fc nF Tryz.prog ops Q (o :: rest) a w:=by
 obtain ⟨D,left,h1,h2,h3⟩:=h.rng;refine wpListIn_next_ranges w hg it hop K T.law Hi (mkK:=fun v:Value=>v) (mkV:=fun v:Value=>v) (fun key kl _=>⟨key,rfl⟩) (fun v y _=>⟨v,rfl⟩) b r _ D left cnt hit h1 (fun _ hl=>hDone (h3.all T h.map.nodup h.map.key hl)) ?_
 intro v c kl y w' cnt' hkey hl hv hat hrg hlt hgr hsz hen;obtain ⟨k,rfl,g1,g2,g3,g4⟩:=h.more T h2 h3 hkey hl hv hat hrg hgr;exact hMore k kl c w' cnt' g1 g2 hkey g3 g4 hlt hgr hsz hen
end
end
end Go.Proofs.YtkablhecedcngaaGreat
