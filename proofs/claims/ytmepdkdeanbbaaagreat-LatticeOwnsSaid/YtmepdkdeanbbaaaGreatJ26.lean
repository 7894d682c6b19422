/- CubB, Ux -/
import Derived.Test.YtmepdkdeanbbaaaGreatJ23
import Derived.RangeFuncSeq
namespace Go.Proofs.YtmepdkdeanbbaaaGreat
set_option maxRecDepth 100000
set_option maxHeartbeats 8000000
open Go.RowKit
open Proofs.Tryz renaming prog→aa,ntmps249→aj,ntmps181→ak,func249→an,func181→ao
open List renaming getD_eq_getElem?_getD→ae,getElem?_eq_getElem→af,mem_singleton→ag,drop_eq_getElem_cons→ai,drop_of_length_le→aq,any_eq_true→ar,mem_append→au
open Go.Lib (hid)
variable {L L':List Int}{A:Option Addr}{B c n:Nat}{w:World}
/-! ### codes -/
def Ra(n:Int):Bool:=decide (n<0∨40<n)
theorem C7(n:Int)(w:World):Calls aa 181 #[.int .i64 n] w λe w'=>e=.returned (.bool (Ra n))/\w=w':=by
 by_cases h:n<0
 ·have H:=hid (show Ra n=true by unfold Ra;simp[h])
  go_enter ao,ak;go_wp2;go_ret;exact⟨Yd H.out.symm,rfl⟩
 ·by_cases h2:40<n
  ·have H:=hid (show Ra n=true by unfold Ra;simp[h2])
   go_enter ao,ak;go_wp2;go_ret;exact⟨Yd H.out.symm,rfl⟩
  ·have H:=hid (show Ra n=false by unfold Ra;simp;omega)
   go_enter ao,ak;go_wp2;go_ret;exact⟨Yd H.out.symm,rfl⟩
def Yxm(L:List Int)(n:Nat)(r:Int):Prop:=(0<=r/\∃k:Nat,k<n/\Ra (L.getD k 0)=true)∨(r=-1/\∀k,k<n->Ra (L.getD k 0)=false)
theorem Yjl(h:Y2 w B A n c L):
  Calls aa 231 #[.slice A n c,.func (.func 181) #[] #[]] w λe w'=>(∃r:Int,e=.returned (.int .i64 r)/\Yxm L n r)/\w=w':=by
 have hn:=h.Ym
 go_enter Tryz.func231,Tryz.ntmps231;go_wp2;go_loop [8] (λi=>∃k:Nat,k<=n/\i=.int .i64 k/\Hid (∀j,j<k->Ra (L.getD j 0)=false)) (λi=>n-(intOf i).toNat)
 case atStart=>exact⟨0,Nat.zero_le _,rfl,hid λj hj=>absurd hj (by omega)⟩
 case round=>
  obtain⟨k,hk,rfl,hJ⟩:=hrel
  by_cases hlt:k<n
  ·obtain⟨b,o,x,rfl,hb,hc,ex⟩:=h.at_ hlt
   have i0:(0:Int)<=(k:Int):=by omega
   have i1:(k:Int)<(n:Int):=by omega
   rcases hbx:Ra x with _|_
   ·have H:Hid (∀j,j<k+1->Ra (L.getD j 0)=false):=hid λj hj=>by
     by_cases h:j<k
     ·exact hJ.out j h
     ·obtain rfl:j=k:=by omega
      rw[<-ex.out];exact hbx
    have HB:=hid hbx
    clear hbx;go_wp2_with fail;refine(C7 x w).mono ?_;rintro e v ⟨rfl,rfl⟩;rw[HB.out];go_wp2_with fail;go_round
    case rel=>exact⟨k+1,by omega,by go_num,H⟩
    case measure=>simp[intOf];omega
   ·have H:Hid (Ra (L.getD k 0)=true):=hid (by rw[<-ex.out];exact hbx)
    have HB:=hid hbx
    clear hbx;go_wp2_with fail;refine(C7 x w).mono ?_;rintro e v ⟨rfl,rfl⟩;rw[HB.out];go_wp2_with fail;go_ret;exact⟨⟨_,rfl,.inl ⟨i0,k,hlt,H.out⟩⟩,rfl⟩
  ·obtain rfl:k=n:=by omega
   go_wp2_with fail;go_ret;exact⟨⟨_,rfl,.inr ⟨rfl,hJ.out⟩⟩,rfl⟩
theorem Yls:L.any Ra=true↔∃k,k<L.length/\Ra (L.getD k 0)=true:=by
 rw[ar];constructor
 ·rintro⟨x,hx,hb⟩
  obtain⟨k,hk,rfl⟩:=List.mem_iff_getElem.1 hx;exact⟨k,hk,by rw[ae,af hk];exact hb⟩
 ·rintro⟨k,hk,hb⟩
  rw[ae,af hk]at hb;exact⟨_,List.getElem_mem hk,hb⟩
theorem Lj(h:Y2 w B A n c L):
  Calls aa 180 #[.slice A n c,.func (.func 181) #[] #[]] w λe w'=>e=.returned (.bool (L.any Ra))/\w=w':=by
 have hl:=hid h.len
 have hi:=Yjl h
 clear h;go_enter Tryz.func180,Tryz.ntmps180;go_wp2_with fail;refine hi.mono ?_;rintro e w' ⟨⟨r,rfl,hr⟩,rfl⟩
 rcases hr with⟨h0,k,hk,hb⟩|⟨rfl,hb⟩
 ·have H:Hid (L.any Ra=true):=hid (Yls.2 ⟨k,by rw[hl.out];exact hk,hb⟩)
  clear hb hi;go_wp2_with fail;go_ret;exact⟨Yd H.out.symm,rfl⟩
 ·have H:Hid (L.any Ra=false):=hid (by
   rw[Bool.eq_false_iff];intro hx;obtain⟨k,hk,hb'⟩:=Yls.1 hx;rw[hb k (by rw[<-hl.out];exact hk)]at hb'
   cases hb')
  clear hb hi;go_wp2_with fail;go_ret;exact⟨Yd H.out.symm,rfl⟩
theorem Ybv{W:Nat}{k:List Int}:isKey W k↔k.length=W/\k.any Ra=false:=by
 unfold isKey;rw[Bool.eq_false_iff,Ne,ar];refine and_congr_right λ_=>⟨λh ⟨x,hx,hb⟩=>?_,λh c hc=>?_⟩
 ·have:=h x hx
  simp[Ra]at hb;omega
 ·have:¬Ra c=true:=λhb=>h ⟨c,hc,hb⟩
  simp[Ra]at this;omega
/-! ### the order -/
def Ge(a b:Int):Int:=if a<b then -1 else if b<a then 1 else 0
theorem Ae(a:Int)(w:World):Calls aa 267 #[.int .i64 a] w λe w'=>e=.returned (.bool false)/\w=w':=by
 go_enter Tryz.func267,Tryz.ntmps267;go_wp2;go_ret;exact⟨rfl,rfl⟩
theorem Oy(a b:Int)(w:World):Calls aa 249 #[.int .i64 a,.int .i64 b] w λe w'=>e=.returned (.int .i64 (Ge a b))/\w=w':=by
 have h1:=Ae a w
 have h2:=Ae b w
 by_cases hab:a<b
 ·have H:=hid (show Ge a b=-1 by unfold Ge;rw[if_pos hab])
  go_enter an,aj;go_wp2_with fail;refine h1.mono ?_;rintro e v ⟨rfl,rfl⟩;go_wp2_with fail;refine h2.mono ?_;rintro e v ⟨rfl,rfl⟩;go_wp2_with fail;go_ret;exact⟨X8 H.out.symm,rfl⟩
 ·by_cases hba:b<a
  ·have H:=hid (show Ge a b=1 by unfold Ge;rw[if_neg hab,if_pos hba])
   go_enter an,aj;go_wp2_with fail;refine h1.mono ?_;rintro e v ⟨rfl,rfl⟩;go_wp2_with fail;refine h2.mono ?_;rintro e v ⟨rfl,rfl⟩;go_wp2_with fail;go_ret;exact⟨X8 H.out.symm,rfl⟩
  ·have H:=hid (show Ge a b=0 by unfold Ge;rw[if_neg hab,if_neg hba])
   go_enter an,aj;go_wp2_with fail;refine h1.mono ?_;rintro e v ⟨rfl,rfl⟩;go_wp2_with fail;refine h2.mono ?_;rintro e v ⟨rfl,rfl⟩;go_wp2_with fail;go_ret;exact⟨X8 H.out.symm,rfl⟩
theorem Ypd{k:Nat}{x y:Int}(h:Oz L L'=Oz (L.drop k) (L'.drop k))(hk:k<L.length)(hk':k<L'.length)(ex:x=L.getD k 0)(ey:y=L'.getD k 0):Oz L L'=if x<y then -1 else if y<x then 1 else Oz (L.drop (k+1)) (L'.drop (k+1)):=by
 rw[h,ai hk,ai hk',Yph];rw[ex,ey,ae,af hk,ae,af hk'];rfl
theorem Yc9{A':Option Addr}{c' B':Nat}(hr:Y2 w B A n c L)(hr':Y2 w B' A' n c' L'):
  Calls aa 230 #[.slice A n c,.slice A' n c'] w λe w'=>e=.returned (.int .i64 (Oz L L'))/\w=w':=by
 have hn:=hr.Ym
 have HL:=hid hr.len
 have HL':=hid hr'.len
 go_enter Tryz.func230,Tryz.ntmps230;go_wp2;go_loop [11] (λi=>∃k:Nat,k<=n/\i=.int .i64 k/\Hid (Oz L L'=Oz (L.drop k) (L'.drop k))) (λi=>n-(intOf i).toNat)
 case atStart=>exact⟨0,Nat.zero_le _,rfl,hid rfl⟩
 case round=>
  obtain⟨k,hk,rfl,ht⟩:=hrel
  by_cases hlt:k<n
  ·obtain⟨b,o,x,rfl,hb,hc,ex⟩:=hr.at_ hlt
   obtain⟨b',o',y,rfl,hb',hc',ey⟩:=hr'.at_ hlt
   have HS:=hid (Ypd ht.out (by have:=HL.out;omega) (by have:=HL'.out;omega) ex.out ey.out)
   clear ht ex ey
   by_cases h1:x<y
   ·have H:Hid (Oz L L'=-1):=hid (by rw[HS.out,if_pos h1])
    have HC:Hid (Ge x y=-1):=hid (by unfold Ge;rw[if_pos h1])
    clear h1;go_wp2_with fail;refine(Oy x y w).mono ?_;rintro e v ⟨rfl,rfl⟩;rw[HC.out];go_wp2_with fail;go_ret;exact⟨X8 H.out.symm,rfl⟩
   ·by_cases h2:y<x
    ·have H:Hid (Oz L L'=1):=hid (by rw[HS.out,if_neg h1,if_pos h2])
     have HC:Hid (Ge x y=1):=hid (by unfold Ge;rw[if_neg h1,if_pos h2])
     clear h1 h2;go_wp2_with fail;refine(Oy x y w).mono ?_;rintro e v ⟨rfl,rfl⟩;rw[HC.out];go_wp2_with fail;go_ret;exact⟨X8 H.out.symm,rfl⟩
    ·have H:Hid (Oz L L'=Oz (L.drop (k+1)) (L'.drop (k+1))):=hid (by rw[HS.out,if_neg h1,if_neg h2])
     have HC:Hid (Ge x y=0):=hid (by unfold Ge;rw[if_neg h1,if_neg h2])
     clear h1 h2;go_wp2_with fail;refine(Oy x y w).mono ?_;rintro e v ⟨rfl,rfl⟩;rw[HC.out];go_wp2_with fail;go_round
     case rel=>exact⟨k+1,by omega,by go_num,H⟩
     case measure=>simp[intOf];omega
  ·obtain rfl:k=n:=by omega
   have H:Hid (Oz L L'=0):=hid (by
    have h1:=HL.out;have h2:=HL'.out
    rw[ht.out,aq (by omega),aq (by omega)]
    rfl)
   go_wp2;go_ret;exact⟨X8 H.out.symm,rfl⟩
section
open Go.RowKit Go.Maps
theorem Yn2{A J:List (List Int)}(h:A.Nodup)(hs:∀k∈A,k∈J):A.length<=J.length:=by
 induction A generalizing J with
 |nil=>simp
 |cons a A ih=>
  obtain⟨h1,h2⟩:=List.nodup_cons.1 h
  have ha:=hs a (by simp)
  have h3:=ih (J:=J.erase a) h2 (λk hk=>(List.mem_erase_of_ne (λe=>h1 (by rw[<-e];exact hk))).2 (hs k (by simp[hk])))
  rw[List.length_erase_of_mem ha]at h3
  have h4:=List.length_pos_of_mem ha
  simp;omega
structure Bj (K:TypeId) (kv:List Int->Value) (W:Nat) (J:List (List Int)) (left:Lit->Bool) (acc:List (List Int)):Prop where
 nodup:acc.Nodup
 key:∀k∈acc,k∈J
 mem:∀k kl,isKey W k->keyOf aa K (kv k)=some kl->(k∈acc↔k∈J/\left kl=false)
structure Ux (K:TypeId) (kv:List Int->Value) (W:Nat) (w:World) (b r:Nat) (F:Lit->Option Value) (J acc:List (List Int)) (cnt:Nat):Prop where
 map:Te K kv W w b F J
 rng:∃D left,w.ranges aa K Et b r J.length D left cnt/\(∀kl v,(∀zd,D.atKey kl zd=.held v)->F kl=some v)/\Bj K kv W J left acc
section
variable {w w' : World}{K:TypeId}{kv:List Int->Value}{W b r cnt:Nat}{F:Lit->Option Value}{J acc:List (List Int)}
theorem Ux.left(h:Ux K kv W w b r F J acc cnt):w.rangeLeft b r=cnt:=by obtain⟨D,left,h1,_⟩:=h.rng;exact h1.left_eq
theorem Ux.ne(h:Ux K kv W w b r F J acc cnt):r≠b:=by obtain⟨D,left,h1,_⟩:=h.rng;exact h1.ne
theorem Ux.key(h:Ux K kv W w b r F J acc cnt):∀k∈acc,k∈J:=by
 obtain⟨D,left,_,_,h1⟩:=h.rng;exact h1.key
theorem Ux.nodup(h:Ux K kv W w b r F J acc cnt):acc.Nodup:=by
 obtain⟨D,left,_,_,h1⟩:=h.rng;exact h1.nodup
theorem Ux.kept{row:Option Nat}(h:Ux K kv W w b r F J acc cnt)(hg:w.grownBy w' row)(hb:some b≠row)(hr:some r≠row):Ux K kv W w' b r F J acc cnt:=by
 obtain⟨D,left,h1,h2,h3⟩:=h.rng;exact⟨h.map.same (hg.block b h.map.lt hb),D,left,h1.kept hg hb hr,h2,h3⟩
theorem Ux.alloc(h:Ux K kv W w b r F J acc cnt)(o:Obj):Ux K kv W (w.alloc o) b r F J acc cnt:=h.kept (World.grownBy_alloc w o none) (by simp) (by simp)
theorem Ux.of_walks(h:Ux K kv W w b r F J acc cnt)(hk:KeepsWalks w w'):Ux K kv W w' b r F J acc cnt:=by
 obtain⟨D,left,h1,h2,h3⟩:=h.rng;obtain⟨es,clock,hm⟩:=h.map.map.R1;refine⟨h.map.same ?_,D,left,h1.of_walks hk,h2,h3⟩;rw[hm];exact hk.same b _ hm rfl
theorem Ux.start(h:Te K kv W w b F J):∃D,w.ownsMap aa K Et b J.length D/\∀w',w'.ranges aa K Et b w.heap.size J.length D (Maps.has D) (Maps.size D)->w.grownBy w' none->Ux K kv W w' b w.heap.size F J [] J.length:=by
 obtain⟨D,d1,d2,d3,d4⟩:=h.map.own;refine⟨D,d1,λw' r1 r2=>⟨h.same (r2.block b h.lt (by simp)),D,_,by rw[d2]at r1;exact r1,d4,List.nodup_nil,(λk hk=>by simp at hk),λk kl hk ek=>?_⟩⟩
 have hu:=h.has k kl hk ek
 rw[d3];constructor
 ·intro hk;simp at hk
 ·rintro⟨h1,h2⟩
  rw[hu.2 h1]at h2
  cases h2
theorem Bj.step{left:Lit->Bool}(h:Bj K kv W J left acc)(T:Ev K kv W){k:List Int}{kl:Lit}(hk:isKey W k)(e:keyOf aa K (kv k)=some kl)(hl:left kl=true)(hx:k∈J):
  k∉acc/\Bj K kv W J (λz=>left z&& !z.sameKey kl) (acc++[k]):=by
 have hnot:k∉acc:=λhm=>by
  have:=((h.mem k kl hk e).1 hm).2
  rw[hl]at this
  cases this
 refine⟨hnot,List.nodup_append.2 ⟨h.nodup,by simp,λa ha b hb=>by
  rw[ag.1 hb];exact λe'=>hnot (e'▸ha)⟩,λj hj=>?_,λj jl hj ej=>?_⟩
 ·rcases au.1 hj with hj|hj
  ·exact h.key j hj
  ·rw[ag.1 hj];exact hx
 ·by_cases hjk:j=k
  ·subst hjk
   rw[e]at ej;injection ej with ej
   subst ej;simp[hx,WideAt.sameKey_self (T.law.key e)]
  ·have hne:¬jl=kl:=λe2:jl=kl=>hjk (T.one hj hk (e2▸ej) e)
   have hs:jl.sameKey kl=false:=by
    rcases hh:jl.sameKey kl with _|_
    ·rfl
    ·exact absurd (WideAt.sameKey_eq hh) hne
   simp only[au,ag,hjk,or_false,hs,Bool.not_false,Bool.and_true];exact h.mem j jl hj ej
theorem Bj.all{left:Lit->Bool}(h:Bj K kv W J left acc)(T:Ev K kv W)(hJ:J.Nodup)(hW:∀k∈J,isKey W k)(hl:∀kl,left kl=false):acc.Perm J:=by
 refine(List.perm_ext_iff_of_nodup h.nodup hJ).2 λk=>⟨λhk=>h.key k hk,λhk=>?_⟩
 obtain⟨kl,e⟩:=T.is k (hW k hk);exact(h.mem k kl (hW k hk) e).2 ⟨hk,hl kl⟩
theorem Ux.more(h:Ux K kv W w b r F J acc cnt)(T:Ev K kv W){D:DataW Value}{left:Lit->Bool}(h2:∀kl v,(∀zd,D.atKey kl zd=.held v)->F kl=some v)(h3:Bj K kv W J left acc)
  {x c:Value}{kl:Lit}{y:DataW Value×List MemPlace}{cnt':Nat}(hkey:keyOf aa K x=some kl) (hl:left kl=true) (hv:Et c=some y) (hat:∀zd,D.atKey kl zd=y.1) (hrg:w'.ranges aa K Et b r J.length D (λz=>left z&& !z.sameKey kl) cnt') (hgr:w.grownBy w' (some r)):
  ∃k,x=kv k/\k∈J/\k∉acc/\F kl=some c/\Ux K kv W w' b r F J (acc++[k]) cnt':=by
 rw[Yal hv]at hat
 have hF:=h2 kl c hat
 obtain⟨k,hk,ek⟩:=h.map.back kl c hF;obtain rfl:x=kv k:=T.law.inj hkey ek
 have hJ:k∈J:=(h.map.has k kl hk ek).1 (by rw[hF];rfl)
 obtain⟨h4,h5⟩:=h3.step T hk ek hl hJ;exact⟨k,rfl,hJ,h4,hF,h.map.same (hgr.block b h.map.lt (λe=>h.ne (Option.some.inj e).symm)),D,_,hrg,h2,h5⟩
end
section
variable (w:World) {K:TypeId}{kv:List Int->Value}{W b r cnt:Nat}{F:Lit->Option Value}{J acc:List (List Int)}{ops:Array Oper}{rest:List Oper}{o:Oper}{a:Act}{Q:Exit->Act->World->Prop}
end
section
variable (w:World) {Fc:Fence}{nF:Nat}{K:TypeId}{kv:List Int->Value}{W b r cnt:Nat}{F:Lit->Option Value}{J acc:List (List Int)}{ops:Array Oper}{rest:List Oper}{o:Oper}{a:Act}{Q:Exit->Act->World->Prop}
theorem Ga(hg:o.guard=none)(m:Operand)(t:TypeId)(hop:o.op=Op.range t m)(e:TypeId)(T:Ev K kv W)(ht:aa.underlying t=some (.map K e))(b:Nat)(F:Lit->Option Value)(J:List (List Int))(hm:a.eval m=.map (some b))(h:Te K kv W w b F J)
  (hK:∀w',Ux K kv W w' b w.heap.size F J [] J.length->w.grownBy w' none->w'.heap.size=w.heap.size+1->wpListIn Fc nF aa ops Q rest (a.put o.dst (.pointer (some ⟨w.heap.size,0,none⟩))) w'):wpListIn Fc nF aa ops Q (o::rest) a w:=by
 obtain⟨D,d1,d2⟩:=Ux.start h;exact wpListIn_range_own w hg m t hop K e T.law ht Et b _ D hm d1 λw' r1 r2 r3=>hK w' (d2 w' r1 r2) r2 r3
theorem Ep(hg:o.guard=none)(it:Operand)(hop:o.op=Op.next it false)(T:Ev K kv W)(hit:a.eval it=.pointer (some ⟨r,0,none⟩))(h:Ux K kv W w b r F J acc cnt)
  (hDone:acc.Perm J->wpListIn Fc nF aa ops Q rest (a.put o.dst (.tuple #[.bool false])) w)
  (hMore:∀(k:List Int) (kl:Lit) (v:Value) (w':World) (cnt':Nat),k∈J->k∉acc->keyOf aa K (kv k)=some kl->F kl=some v->Ux K kv W w' b r F J (acc++[k]) cnt'→cnt'<cnt->w.grownBy w' (some r)->w'.heap.size=w.heap.size→
   (Instr.entry (.pointer (some ⟨r,0,none⟩))).run aa w'=.ok (.tuple #[kv k,v]) w'→wpListIn Fc nF aa ops Q rest (a.put o.dst (.tuple #[.bool true,kv k,v])) w'):wpListIn Fc nF aa ops Q (o::rest) a w:=by
 obtain⟨D,left,h1,h2,h3⟩:=h.rng;refine wpListIn_next_ranges w hg it hop K T.law Et (mkK:=λv:Value=>v) (mkV:=λv:Value=>v) (λkey kl _=>⟨key,rfl⟩) (λv y _=>⟨v,rfl⟩) b r _ D left cnt hit h1 (λ_ hl=>hDone (h3.all T h.map.nodup h.map.key hl)) ?_
 intro v c kl y w' cnt' hkey hl hv hat hrg hlt hgr hsz hen;obtain⟨k,rfl,g1,g2,g3,g4⟩:=h.more T h2 h3 hkey hl hv hat hrg hgr;exact hMore k kl c w' cnt' g1 g2 hkey g3 g4 hlt hgr hsz hen
end
end
end Go.Proofs.YtmepdkdeanbbaaaGreat
