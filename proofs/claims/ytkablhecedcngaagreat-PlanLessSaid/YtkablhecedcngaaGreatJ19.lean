/- NamesD, NamesU, UpO -/
import Derived.Test.YtkablhecedcngaaGreatJ18
import Derived.Sort.Walk0
namespace Go.Proofs.YtkablhecedcngaaGreat
set_option maxRecDepth 100000
set_option maxHeartbeats 8000000
open Go.RowKit
open Go.Lib (hid)
variable {L L':List Txt}{x y:Txt}{c k n:Nat}{w:World}{A:Option Addr}
theorem Yn5 (h:x<y):Op.bytesLess x y=true:=by rw [Go.Proofs.bytesLess_eq,decide_eq_true h]
theorem Yh8 (h:¬ x<y):Op.bytesLess x y=false:=by rw [Go.Proofs.bytesLess_eq,decide_eq_false h]
/-! ### Where two lists part -/
theorem Mr (hk:k<L.length) (e:x=L.getD k []):L.drop k=x :: L.drop (k+1):=by
 rw [List.drop_eq_getElem_cons hk,e,List.getD_eq_getElem?_getD,List.getElem?_eq_getElem hk];rfl
theorem Yqi (hk:k<L.length) (hk' : k<L'.length) (ht:L.take k=L'.take k) (e:x=L.getD k []) (e' : y=L'.getD k []) (h:x<y):Xw L L'=-1:=by
 rw [Oe k L L' (by omega) (by omega) ht,Mr hk e,Mr hk' e',Xw,if_pos h]
theorem Yqh (hk:k<L.length) (hk' : k<L'.length) (ht:L.take k=L'.take k) (e:x=L.getD k []) (e' : y=L'.getD k []) (h:y<x):Xw L L'=1:=by
 rw [Oe k L L' (by omega) (by omega) ht,Mr hk e,Mr hk' e',Xw,if_neg (Yag h),if_pos h]
theorem Yar (hk:k≤L.length) (hk' : k≤L'.length) (ht:L.take k=L'.take k) (h:L.length=k∨L'.length=k):Xw L L'=if L.length<L'.length then -1 else if L'.length<L.length then 1 else 0:=by
 rw [Oe k L L' hk hk' ht]
 by_cases h1:L.length=k
 ·rw [List.drop_of_length_le (by omega:L.length≤k)]
  by_cases h2:L'.length=k
  ·rw [List.drop_of_length_le (by omega:L'.length≤k),if_neg (by omega),if_neg (by omega)]; rfl
  ·rw [if_pos (by omega)]
   rcases hd:L'.drop k with _ | ⟨b,q⟩
   ·rw [List.drop_eq_nil_iff] at hd; omega
   ·rfl
 ·rw [List.drop_of_length_le (by omega:L'.length≤k),if_neg (by omega),if_pos (by omega)]
  rcases hd:L.drop k with _ | ⟨b,q⟩
  ·rw [List.drop_eq_nil_iff] at hd; omega
  ·rfl
theorem Yg0 {A':Option Addr}{n' c' B B':Nat} (hr:Zn w B A n c L) (hr' : Zn w B' A' n' c' L') :
  Calls Tryz.prog 125 #[.slice A n c,.slice A' n' c'] w fun e w'=>e=.returned (.int .i64 (Xw L L'))∧∃ k,w'=w.drewN k:=by
 have hn:=hr.Yn
 have hn':=hr'.Yn
 have HL:=hid hr.len
 have HL':=hid hr'.len
 go_enter Tryz.func125,Tryz.ntmps125;go_wp2;go_loopw [5] (fun i wr=>∃ k q:Nat,k≤n∧k≤n'∧i=.int .i64 k∧wr=w.drewN q∧Hid (L.take k=L'.take k)) (fun i _=>n - (intOf i).toNat)
 case atStart=>exact ⟨0,0,Nat.zero_le _,Nat.zero_le _,rfl,rfl,hid rfl⟩
 case round =>
  obtain ⟨k,q,hk,hk',rfl,rfl,ht⟩:=hrel
  by_cases hlt:k<n
  ·by_cases hlt' : k<n'
   ·obtain ⟨b,o,x,rfl,hb,hc,ex⟩:=hr.at_ hlt
    obtain ⟨b',o',y,rfl,hb',hc',ey⟩:=hr'.at_ hlt'
    by_cases h1:x<y
    ·have H:=hid (Yqi (by have:=HL.out; omega) (by have:=HL'.out; omega) ht.out ex.out ey.out h1)
     have g1:=Yn5 h1
     clear h1;go_wp2;go_quiet (fail);go_wp2;go_ret;exact ⟨Vi H.out.symm,q+nq,World.drewN_drewN _ _ _⟩
    ·by_cases h2:y<x
     ·have H:=hid (Yqh (by have:=HL.out; omega) (by have:=HL'.out; omega) ht.out ex.out ey.out h2)
      have g1:=Yh8 h1
      have g2:(x == y)=false:=by rw [beq_eq_false_iff_ne]; rintro rfl; exact Uc _ h2
      clear h1 h2;go_wp2;go_quiet (fail);obtain ⟨na,hna⟩ : ∃ na,na=nq:=⟨_,rfl⟩;go_wp2;go_quiet (fail);go_wp2;go_ret;exact ⟨Vi H.out.symm,_,by first | exact World.drewN_drewN _ _ _ | (rw [World.drewN_drewN,World.drewN_drewN])⟩
     ·obtain rfl:=Ybt h1 h2
      have H:=hid (Dh (by have:=HL.out; omega) (by have:=HL'.out; omega) ht.out ex.out ey.out)
      have g1:=Yh8 h1
      have g2:(x == x)=true:=by simp
      clear h1 h2;go_wp2;go_quiet (fail);go_wp2;go_quiet (fail);go_wp2;go_roundw
      case rel=>exact ⟨k+1,_,by omega,by omega,by go_num,rfl,H⟩
      case measure=>simp [intOf]; omega
   ·have H:Hid (Xw L L'=1):=hid (by
     have h1:=HL.out; have h2:=HL'.out
     rw [Yar (k:=k) (by omega) (by omega) ht.out (by omega),if_neg (by omega),if_pos (by omega)])
    have g1:¬ (n:Int)<(n' : Int):=by omega
    go_wp2;go_ret;exact ⟨Vi H.out.symm,q,rfl⟩
  ·by_cases hlt' : n<n'
   ·have H:Hid (Xw L L'=-1):=hid (by
     have h1:=HL.out; have h2:=HL'.out
     rw [Yar (k:=k) (by omega) (by omega) ht.out (by omega),if_pos (by omega)])
    go_wp2;go_ret;exact ⟨Vi H.out.symm,q,rfl⟩
   ·have H:Hid (Xw L L'=0):=hid (by
     have h1:=HL.out; have h2:=HL'.out
     rw [Yar (k:=k) (by omega) (by omega) ht.out (by omega),if_neg (by omega),if_neg (by omega)])
    go_wp2;go_ret;exact ⟨Vi H.out.symm,q,rfl⟩
theorem Ybz {w:World}{ops:Array Oper}{rest:List Oper}{o:Oper}{a:Act}{Q:Exit→Act→World→Prop} (hgd:o.guard=none) (s x:Operand)
  (ho:o.op=.call { callee:=.builtin .append,args:=#[s,x],argTypes:=#[23,23] })
  (base:Nat) (v:Value) (l:List Txt) (hs:a.eval s=v) (hown:Xb w base v l) (B:Nat) (A:Option Addr) (m c:Nat) (news:List Txt) (hx:a.eval x=.slice A m c) (hr:Zn w B A m c news) (hbytes:(l.length+m)*16≤140737488355328) (hbase:base≤w.heap.size)
  (h:∀ v' w',Xb w' base v' (l++news)→Z7 w v w' v'→wpList Tryz.prog ops Q rest (a.put o.dst v') w'):wpList Tryz.prog ops Q (o :: rest) a w:=by
 obtain ⟨i,hi,hz0,hz1,hz2⟩:=info_parts Jx
 have hml:=hr.len
 have hmap:(l++news).map Xp=l.map Xp++news.map Xp:=List.map_append
 have key:∃ v' w',(Builtin.append_ #[23,23] o.type #[v,.slice A m c]).run Tryz.prog w=.ok v' w'∧Xb w' base v' (l++news)∧Z7 w v w' v':=by
  rcases A with _ | ad
  ·obtain rfl:=hr.void rfl
   have hc:=hr.cap
   obtain rfl:m=0:=by omega
   obtain rfl:news=[]:=List.eq_nil_of_length_eq_zero hml;exact ⟨v,w,run_append_owned_none (P:=Tryz.prog) (w:=w) base 23 o.type 9 i 1 Tryz.underlying23 hi v l.length (l.map Xp) hown,by rw [List.append_nil]; exact hown,Z7.refl w v⟩
  ·have hcells:∀ j u,(news.map Xp)[j]?=some u→w.cell? (ad.add j)=some u:=by
    intro j u hu
    have hj:j<(news.map Xp).length:=by
     rcases Nat.lt_or_ge j (news.map Xp).length with h1 | h1
     ·exact h1
     ·rw [List.getElem?_eq_none h1] at hu; cases hu
    obtain ⟨b,o',e',_,hc⟩:=hr.has (by omega)
    injection e' with e'
    subst e';rw [Yt];exact hc j u hu
   obtain ⟨v',w',h1,h2,h3,_,h5⟩:=run_append_own_at (P:=Tryz.prog) w base 23 o.type 9 i _ 1 16 Tryz.underlying23 hi hz0 hz1 hz2 rfl (by decide) v l.length (l.map Xp) hown ad m c (news.map Xp) (by simp [hml]) hcells (Ypm news) (by unfold maxLen; omega) (by omega) hbase
   refine ⟨v',w',h1,by unfold Xb; rw [hmap,List.length_append,hml]; exact h2,h3,fun k hk=>?_⟩
   rcases h5 with h5 | h5
   ·exact .inl (h5 ▸ hk)
   ·rw [h5] at hk
    injection hk with hk
    exact .inr (Nat.le_of_eq hk)
 obtain ⟨v',w',hrun,h2,h3⟩:=key;refine wpList_plain hgd fun K hK=>?_
 unfold Oper.wp execOp;simp only [ho,resolve,invoke,builtin,Sem.run_bind,Sem.run_pure,Result.andThen_ok,List.map_toArray,List.map_cons,List.map_nil,hs,hx,hrun];exact hK _ _ (h v' w' h2 h3)
theorem L9 (w:World) (y:Value) (t:TypeId) (g:Nat) (hg:g=w.heap.size):(w.alloc (.cells #[y] t)).cell? ⟨g,0,none⟩=some y:=by
 subst hg;rw [Zk]; rfl
theorem Mc (h:k<L.length) {x:Txt}(hx:x=L.getD k []):L.take k++[x]=L.take (k+1):=by
 rw [List.take_add_one,hx,List.getD_eq_getElem?_getD,List.getElem?_eq_getElem h];rfl
theorem Yg3 (hr:Zn w w.heap.size A n c L) (m:Int) (hs:n≤1000000) :
  Calls Tryz.prog 124 #[.slice A n c,.int .i64 m] w fun e w'=>(∃ v,e=.returned v∧Xb w' w.heap.size v (upP L m))∧Below w.heap.size w w':=by
 have hn:=hr.Yn
 have HL:=hid hr.len
 go_enter Tryz.func124,Tryz.ntmps124;go_wp2;go_loopw [5,6] (fun v i wr=>∃ k:Nat,k≤n∧k≤m.toNat∧i=.int .i64 k∧Xb wr w.heap.size v (L.take k)∧Below w.heap.size w wr) (fun _ i _=>n - (intOf i).toNat)
 case atStart=>exact ⟨0,Nat.zero_le _,Nat.zero_le _,rfl,Xb.Zj w _,Below.refl _ _⟩
 case round =>
  obtain ⟨k,hk,hkm,rfl,hO,hB⟩:=hrel
  by_cases hgo:k<n∧(k:Int)<m
  ·obtain ⟨hlt,hltm⟩:=hgo
   obtain ⟨b,o,x,rfl,hb,hc,ex⟩:=(hr.below hB (Nat.le_refl _)).at_ hlt
   have hz:=hB.size
   have hlb:Hid ((L.take k).length≤1000000):=hid (Nat.le_trans (List.length_take_le k _) (by omega))
   have HT:=hid (Mc (by have:=HL.out; omega) ex.out)
   have hlo:=fun g e=>(hO.lt g e).1
   have hO1:=hO.alloc (.cells #[.string ⟨x.toArray⟩] 9)
   go_wp2_with (at_builtin; refine P7 rfl _ _ rfl w.heap.size _ _ rfl hO1 _ rfl x (L9 _ _ _ _ (by simp)) hlb.out (by rw [World.size_alloc]; omega) ?_)
   intro v' w2 hO2 hG2
   have hB2:=hid ((hB.alloc hz (.cells #[.string ⟨x.toArray⟩] 9)).trans (hG2.Y4 (by rw [World.size_alloc]; omega) hlo))
   rw [HT.out] at hO2
   have hO3:=hid hO2
   clear hO hO1 hO2 hG2 hlo hB;go_wp2_with fail;go_roundw
   case rel=>exact ⟨k+1,by omega,by omega,by go_num,hO3.out,hB2.out⟩
   case measure=>simp [intOf]; omega
  ·have HT:Hid (L.take k=L.take m.toNat):=hid (by
    have:=HL.out
    by_cases h:k<n
    ·congr 1; omega
    ·rw [List.take_of_length_le (by omega),List.take_of_length_le (by omega)])
   have hv:=hO
   rw [HT.out] at hv;clear hO
   by_cases hlt:k<n
   ·have hm:¬ (k:Int)<m:=by omega
    clear hgo;go_wp2;go_ret;exact ⟨⟨_,rfl,hv⟩,hB⟩
   ·clear hgo
    go_wp2;go_ret;exact ⟨⟨_,rfl,hv⟩,hB⟩
end Go.Proofs.YtkablhecedcngaaGreat
