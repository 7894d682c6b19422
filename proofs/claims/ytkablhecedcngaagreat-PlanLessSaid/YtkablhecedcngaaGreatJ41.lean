/- NamesR, DictC, DictP, DictQ, DictR, DictA, DictS, DictF -/
import Derived.Test.YtkablhecedcngaaGreatJ21
import Derived.Test.YtkablhecedcngaaGreatJ35
import Derived.Test.YtkablhecedcngaaGreatJ36
import Derived.Deep.RegionHeld3
namespace Go.Proofs.YtkablhecedcngaaGreat
set_option maxRecDepth 100000
set_option maxHeartbeats 8000000
open Go.RowKit
open Go.Lib (hid)
variable {w:World}{B base bm c g k m n r:Nat}{Q:List Pth}{Lv pv v:Value}{A:Option Addr}{L:List Txt}{l:List Int}
theorem Mb (h:Zn w B A n c L) (hm:Wu L) :
  Calls Tryz.prog 41 #[.slice A n c] w fun e w'=>e=.returned (.bool true)∧w=w':=by
 have:=N9 h
 rwa [decide_eq_true hm] at this
theorem Ai (h:Zn w B A n c L) (hm:¬ Wu L) :
  Calls Tryz.prog 41 #[.slice A n c] w fun e w'=>e=.returned (.bool false)∧w=w':=by
 have:=N9 h
 rwa [decide_eq_false hm] at this
/-! ### Text -/
/-! ### Path -/
def Yin (l:Txt) (k f:Nat) (P:List Txt):Prop:=if k≤l.length then (47:UInt8)∉(l.drop f).take (k - f)∧K7 l=P++K7 (l.drop f) else K7 l=P
theorem Yin.start (l:Txt):Yin l 0 0 []:=by
 unfold Yin;rw [if_pos (Nat.zero_le _)];simp
theorem Yin.done {l:Txt}{f:Nat}{P:List Txt} (h:Yin l k f P) (hk:¬ k≤l.length):P=K7 l:=by
 unfold Yin at h;rw [if_neg hk] at h;exact h.symm
theorem Ba:(Tryz.prog.info? 139).map (fun i=>(i.zero,i.size,i.bytes))=some (some (.agg #[.int .i64 0,.string ByteArray.empty]),2,24):=by kernel_rfl
theorem W8.alloc {E:List (Nat × Txt)} (h:W8 w base v E) (o:Obj):W8 (w.alloc o) base v E:=World.ownsRow.alloc h o
theorem Ylg {w:World}{ops:Array Oper}{o:Oper}{a:Act}{Q:Exit→Act→World→Prop}{K:Act→World→Prop}{F:Prop} (hgd:o.guard=none) (s x:Operand)
  (ho:o.op=.call { callee:=.builtin .append,args:=#[s,x],argTypes:=#[129,129] })
  (base:Nat) (v:Value) (L:List (Nat × Txt)) (hs:a.eval s=v) (hown:W8 w base v L) (g:Nat) (hx:a.eval x=.slice (some ⟨g,0,none⟩) 1 1) (k:Nat) (t:Txt)
  (hy:∀ j u,(pcs (k,t))[j]?=some u→w.cell? ((⟨g,0,none⟩ : Addr).add j)=some u) (hl:L.length≤1000) (hbase:base≤w.heap.size)
  (h:∀ v' w',W8 w' base v' (L++[(k,t)])→Z7 w v w' v'→K (a.put o.dst v') w') :
  if Region.wanted o (yielded ops a.tmps)=true then Oper.wp Tryz.prog o a w K Q else F:=by
 have hw:Region.wanted o (yielded ops a.tmps)=true:=by simp [Region.wanted,hgd]
 rw [if_pos hw];obtain ⟨i,hi,hz0,hz1,hz2⟩:=info_parts Ba;obtain ⟨v',w',hrun,h2,h3,_,h5⟩:=run_append_own_at (P:=Tryz.prog) w base 129 o.type 139 i _ 2 24 Tryz.underlying129 hi hz0 hz1 hz2 rfl (by decide) v L.length (L.flatMap pcs) hown ⟨g,0,none⟩ 1 1 (pcs (k,t)) rfl hy
  (fun u hu=>by simp [pcs] at hu; rcases hu with rfl | rfl <;> rfl) (by unfold maxLen; omega) (by omega) hbase
 unfold Oper.wp execOp;simp only [ho,resolve,invoke,builtin,Sem.run_bind,Sem.run_pure,Result.andThen_ok,List.map_toArray,List.map_cons,List.map_nil,hs,hx,hrun];refine h v' w' (by unfold W8; simpa using h2) ⟨h3,fun q hq=>?_⟩
 rcases h5 with h5 | h5
 ·exact .inl (h5 ▸ hq)
 ·rw [h5] at hq
  injection hq with hq
  exact .inr (Nat.le_of_eq hq)
theorem Yi8 (w:World) (k:Nat) (t:Txt) (e:TypeId) (g:Nat) (hg:g=w.heap.size):∀ j u,(pcs (k,t))[j]?=some u→(w.alloc (.cells #[.int .i64 k,.string ⟨t.toArray⟩] e)).cell? ((⟨g,0,none⟩ : Addr).add j)=some u:=by
 intro j u hj;subst hg;rw [Yt,Nat.zero_add,Zk];simpa [pcs,Xp] using hj
theorem Yh7 (h1:w.cell? ⟨g,1,none⟩=some (.slice A m c)) (_hm:m≤1000) :
  Calls Tryz.prog 103 #[.pointer (some ⟨g,0,none⟩)] w fun e w'=>e=.returned (.int .i64 (m:Nat))∧w=w':=by
 go_enter Tryz.func103,Tryz.ntmps103;go_wp2;go_ret;exact ⟨rfl,rfl⟩
theorem Np (s:ByteArray) (w:World) (hs:s.size≤281474976710656) :
  Calls Tryz.prog 67 #[.string s] w fun e w'=>e=.returned (.string s)∧Below w.heap.size w w':=by
 have h:=Tryz.stringslite_Clone s w hs
 go_enter Tryz.func67,Tryz.ntmps67;go_wp2_with fail;refine h.mono ?_;rintro e w' ⟨rfl,hB⟩;go_wp2_with fail;go_ret;exact ⟨rfl,hB⟩
theorem Ymj (h:Dc w base g pv bm n Q) {a:Nat}{s:Txt}(ha:a≤Q.length) (hs:Zx s) (hnew:pth Q a++[s]∉Q) (hg:Good n (Q++[pth Q a++[s]])) :
  Calls Tryz.prog 104 #[.pointer (some ⟨g,0,none⟩),.agg #[.int .i64 a,.string ⟨s.toArray⟩]] w fun e w'=>∃ pv',e=.returned (.int .i64 ((Q.length+1:Nat):Int))∧Dc w' base g pv' bm n (Q++[pth Q a++[s]]) ∧
   Chg (U0 g pv bm) w w'∧(∀ k,pv'.ownBlock=some k→pv.ownBlock=some k∨w.heap.size≤k):=by
 obtain ⟨A,cap,rfl,hEr⟩:=h.form;clear hEr
 have hgl:=h.block.lt
 have hbl:=h.map.lt
 have hgb:=h.gb
 have hmb:=h.mb
 have hQ:=h.good.size
 have hne:(a,s)∉Un Q:=fun hm=>hnew ((h.good.Yd6 ha).1 hm)
 have hE2:=hid (h.good.Ykr (s:=s) ha)
 have hsz:(⟨s.toArray⟩ : ByteArray).size≤281474976710656:=by
  have:=hs.2.1
  show s.toArray.size≤_
  simp; omega
 have hsm:s.length≤maxLen:=by have:=hs.2.1; unfold maxLen; omega
 have hw1:=Ya w (.cells #[.int .i64 a,.string ⟨s.toArray⟩] 139)
 have hcl:=Np ⟨s.toArray⟩ (w.alloc (.cells #[.int .i64 a,.string ⟨s.toArray⟩] 139)) hsz
 have hbx:=Block.new w 139 #[.int .i64 a,.string ⟨s.toArray⟩]
 go_enter Tryz.func104,Tryz.ntmps104;go_wp2_with fail;refine hcl.mono ?_;rintro e w2 ⟨rfl,hB2⟩
 have hx2:=hbx.below hB2 (by simp)
 have hf2:=hx2.free 1
 have k2:w2.cell? ⟨w.heap.size,1,none⟩=some (.string ⟨s.toArray⟩):=hx2.cell 1
 have hx3:=hx2.Yo 1 (.string ⟨s.toArray⟩)
 have hw3:Below w.heap.size w (w2.setCell ⟨w.heap.size,1,none⟩ (.string ⟨s.toArray⟩)):=(Yb hw1 hB2).setCell (p:=⟨w.heap.size,1,none⟩) (Nat.le_refl _) _
 clear hcl hbx hB2 hx2 hw1;go_wp2_with fail;obtain ⟨w3,he3⟩ : ∃ w3,w3=w2.setCell ⟨w.heap.size,1,none⟩ (.string ⟨s.toArray⟩):=⟨_,rfl⟩;rw [← he3] at hx3 hw3 ⊢;clear he3 hf2 k2
 have hD:=h.below hw3
 have hs3:=hw3.size
 have c1:=hD.c1
 have k0:w3.cell? ⟨w.heap.size,0,none⟩=some (.int .i64 a):=hx3.cell 0
 have k1:w3.cell? ⟨w.heap.size,1,none⟩=some (.string ⟨s.toArray⟩):=hx3.cell 1
 have hff:=hD.block.free 1
 have hO1:W8 (w3.drew.alloc (.cells #[.int .i64 a,.string ⟨s.toArray⟩] 139)) base (.slice A Q.length cap) (Un Q):=W8.alloc (w:=w3.drew) hD.row _
 have hpr:=Yi8 w3.drew a s 139 w3.heap.size rfl
 have hbs:base≤(w3.drew.alloc (.cells #[.int .i64 a,.string ⟨s.toArray⟩] 139)).heap.size:=by simp; omega
 have hel:(Un Q).length≤1000:=by rw [My]; omega
 have hbr:=hD.block
 have hrg:=hD.Ytx
 have HO1:=hid hO1
 have Hpr:=hid hpr
 have Hbs:=hid hbs
 have Hel:=hid hel
 have HB:=hid (show Block (w3.drew.alloc (.cells #[.int .i64 a,.string ⟨s.toArray⟩] 139)) g 131 _ from Block.alloc (w:=w3.drew) hbr _)
 have c1a:(w3.alloc (.cells #[.int .i64 a,.string ⟨s.toArray⟩] 139)).drew.cell? ⟨g,1,none⟩=some (.slice A Q.length cap):=HB.out.cell 1
 clear hO1 hpr hbs hel hbr
 have HL2:Hid ((Un Q++[(a,s)]).length=Q.length+1):=hid (by simp [My])
 have hch0:Chg (U0 g (.slice A Q.length cap) bm) w (w3.drew.alloc (.cells #[.int .i64 a,.string ⟨s.toArray⟩] 139)):=Chg.alloc (b:=w3.drew) ((Chg.Yz hw3 (Nat.le_refl _)).drewN 1) _
 have hM0:W6 (w3.drew.alloc (.cells #[.int .i64 a,.string ⟨s.toArray⟩] 139)) bm (Un Q):=W6.alloc (w:=w3.drew) hD.map _
 have hx0:Block (w3.drew.alloc (.cells #[.int .i64 a,.string ⟨s.toArray⟩] 139)) w.heap.size 139 _:=Block.alloc (w:=w3.drew) hx3 _
 have hrb:=h.Ysy
 have hgm:=h.Yt5
 have hown:=fun k hk=>World.ownsRow.lt h.row k hk
 have Hh:=hid (show Chg (U0 g (.slice A Q.length cap) bm) w _∧W6 _ bm (Un Q)∧Block _ w.heap.size 139 _∧(Value.slice A Q.length cap).ownBlock≠some bm∧g≠bm∧(∀ k,(Value.slice A Q.length cap).ownBlock=some k→base≤k∧k<w.heap.size) from ⟨hch0,hM0,hx0,hrb,hgm,hown⟩)
 have Hg:=hid hg
 have Hne:=hid hne
 clear hch0 hM0 hx0 hrb hgm hown hg hne hnew hs;go_region_law (refine Ylg rfl _ _ rfl base _ (Un Q) rfl HO1.out _ rfl a s Hpr.out Hel.out Hbs.out ?_; intro v2 w4 hO2 hG2; obtain ⟨A2,cap2,e2,hE2r⟩:=hO2.form; rw [HL2.out] at e2; subst e2; have hB4:=HB.out.grown hG2.1 hrg; have f4:=hB4.free 1; have c4:w4.cell? ⟨g,1,none⟩=some (.slice A Q.length cap):=hB4.cell 1; clear hE2r)
 all_goals
  obtain ⟨hch,hM,hx,hrb,hgm,hown⟩:=Hh.out
  have hO5:W8 (w4.setCell ⟨g,1,none⟩ (.slice A2 (Q.length+1) cap2)) base (.slice A2 (Q.length+1) cap2) (Un Q++[(a,s)]):=ownsRow_setCell_other hO2 (a:=⟨g,1,none⟩) (fun e=>by
   rcases hG2.2 g e with h1 | h1
   ·exact hrg h1
   ·simp at h1; omega) _
  have hown5:∀ k,(Value.slice A2 (Q.length+1) cap2).ownBlock=some k→(Value.slice A Q.length cap).ownBlock=some k∨w.heap.size≤k:=fun k hk=>(hG2.2 k hk).imp id (fun h1=>by simp at h1; omega)
  have hB5:=hB4.Yo 1 (.slice A2 (Q.length+1) cap2)
  have hM5:W6 (w4.setCell ⟨g,1,none⟩ (.slice A2 (Q.length+1) cap2)) bm (Un Q):=(hM.kept hG2.1 (fun e=>hrb e.symm)).same (by simp [World.setCell,Array.getElem?_modify,hgm])
  have hx5:=(hx.grown hG2.1 (fun e=>by have:=(hown _ e).2; omega)).Yl g 1 (.slice A2 (Q.length+1) cap2) (by omega)
  have hch5:=(hch.trans (S':=U0 g (.slice A Q.length cap) bm) (Chg.Wl hG2.1 (fun k hk _=>.inr (.inl hk))) (fun _ _ h=>h)).Yo g 1 (.slice A2 (Q.length+1) cap2) (fun _=>.inl rfl)
  clear hM hx hch hO2 hG2 hB4 f4 c4;generalize w4.setCell ⟨g,1,none⟩ (.slice A2 (Q.length+1) cap2)=w5 at hO5 hB5 hM5 hx5 hch5 ⊢;obtain ⟨w6,hrun0,hM6,hG6⟩:=(show W6 w5.drew bm (Un Q) from hM5).store (a:=a) (s:=s) (by omega) hsm Hel.out Hne.out
  have hrun:(Instr.mapUpdate 128 (.map (some bm)) (.agg #[.int .i64 a,.string ⟨s.toArray⟩]) (.int .i64 ((Q.length:Int)+1))).run Tryz.prog w5.drew=.ok () w6:=by
   rw [My] at hrun0;simpa [M4,Xp] using hrun0
  have hB6:=hB5.grown (w':=w6) (show w5.grownBy w6 (some bm) from ⟨hG6.os,hG6.tape,hG6.output,hG6.size,hG6.block⟩) (fun e=>by injection e with e; omega)
  have hD6:=hid (show Dc w6 base g (.slice A2 (Q.length+1) cap2) bm n (Q++[pth Q a++[s]]) from ⟨hB6,by rw [hE2.out]; exact World.ownsRow.kept hO5 (show w5.grownBy w6 (some bm) from ⟨hG6.os,hG6.tape,hG6.output,hG6.size,hG6.block⟩) (.inr (fun e=>by
    rcases hown5 _ e with h1 | h1
    ·exact hrb h1
    ·omega)),by rw [hE2.out]; exact hM6,hgb,hmb,Hg.out⟩)
  have hch6:=hid (hch5.trans (S':=U0 g (.slice A Q.length cap) bm) (c:=w6) (Chg.Wl (show w5.grownBy w6 (some bm) from ⟨hG6.os,hG6.tape,hG6.output,hG6.size,hG6.block⟩) (fun k hk _=>.inr (.inr (Option.some.inj hk).symm))) (fun _ _ h=>h))
  have Hown5:=hid hown5
  have d1:w5.cell? ⟨g,1,none⟩=some (.slice A2 (Q.length+1) cap2):=hB5.cell 1
  have d2:w5.cell? ⟨g,2,none⟩=some (.map (some bm)):=hB5.cell 2
  have d3:w5.cell? ⟨w.heap.size,0,none⟩=some (.int .i64 a):=hx5.cell 0
  have d4:w5.cell? ⟨w.heap.size,1,none⟩=some (.string ⟨s.toArray⟩):=hx5.cell 1
  have d5:w6.cell? ⟨g,1,none⟩=some (.slice A2 (Q.length+1) cap2):=hB6.cell 1
  clear hrun0 hM6 hG6 hB6 hch5 hown5 hO5 hB5 hM5 hx5 hrb hgm hown;go_wp2_with fail;go_region_with (go_at_call 103; refine (Yh7 (w:=w5.drew) (A:=A2) (m:=Q.length+1) (c:=cap2) d1 (by omega)).mono ?_; rintro e w' ⟨rfl,rfl⟩)
  all_goals
   go_wp2_with fail;refine (Yh7 (w:=w6) d5 (by omega)).mono ?_
   rintro e w' ⟨rfl,rfl⟩;go_wp2_with fail;go_ret;exact ⟨_,by first | rfl | simp,hD6.out,hch6.out,Hown5.out⟩
theorem Yd0 (w:World):(Instr.makeMap 128 none).run Tryz.prog w=.ok (.map (some w.heap.size)) (w.alloc (.map #[] 0)):=run_makeMap _ w
theorem Yi6 (w:World) (o:Obj) (e:TypeId) (cs:Array Value) (g:Nat) (hg:g=w.heap.size+1):Block ((w.alloc o).alloc (.cells cs e)) g e cs:=by
 subst hg
 have:=Block.new (w.alloc o) e cs
 simpa using this
theorem Yow (w:World) {n:Nat}(hn:1≤n∧n≤3) {g:Nat}(hg:g=w.heap.size+1):Dc ((w.alloc (.map #[] 0)).alloc (.cells #[.int .i64 n,.slice none 0 0,.map (some w.heap.size)] 131)) w.heap.size g (.slice none 0 0) w.heap.size n [] :=
 ⟨Yi6 _ _ _ _ _ hg,W8.Zj _ _,(W6.made w).alloc _,by omega,Nat.le_refl _,F7 hn⟩
theorem Yrb (w:World) {n:Nat}(hn:1≤n∧n≤3) :
  Calls Tryz.prog 45 #[.int .i64 n] w fun e w'=>e=.returned (.pointer (some ⟨w.heap.size+1,0,none⟩))∧Dc w' w.heap.size (w.heap.size+1) (.slice none 0 0) w.heap.size n []∧Below w.heap.size w w':=by
 have hmm:=Yd0
 have h1:¬ (n:Int)<1:=by omega
 have h2:¬ (3:Int)<(n:Int):=by omega
 have H:=fun g (hg:g=w.heap.size+1)=>hid (Yow w hn hg)
 clear hn;go_enter Tryz.func45,Tryz.ntmps45;go_wp2;go_ret;exact ⟨by first | rfl | simp,(H _ rfl).out,We _ _ _⟩
def upA (Q:List Pth) (c k:Int):Nat × Nat :=
 if 0≤c∧c≤(Q.length:Int) then if 0≤k∧k≤((pth Q c.toNat).length:Int) then (fnd Q ((pth Q c.toNat).take k.toNat),0) else (0,1) else (0,33)
theorem Ybu {a b a' b':Nat} (h:(a,b)=(a',b')):Ending.returned (.tuple #[.int .i64 a,.int .i64 b])=.returned (.tuple #[.int .i64 (a' : Int),.int .i64 (b' : Int)]):=by
 injection h with h1 h2
 rw [h1,h2]
theorem Yql (h:Dc w base g pv bm n Q) (c k:Int) {x e:Nat}(hx:Hid (upA Q c k=(x,e))) :
  Calls Tryz.prog 133 #[.pointer (some ⟨g,0,none⟩),.int .i64 c,.int .i64 k] w fun y w'=>y=.returned (.tuple #[.int .i64 x,.int .i64 e])∧Below w.heap.size w w':=by
 by_cases hc:0≤c∧c≤(Q.length:Int)
 ·obtain ⟨m,rfl⟩ : ∃ m:Nat,c=(m:Int):=⟨c.toNat,by omega⟩
  obtain ⟨q,hq⟩ : ∃ q,Hid (pth Q m=q):=⟨_,hid rfl⟩
  have hm:m≤Q.length:=by omega
  have hh:=hid (decide_eq_true hc)
  have hA:upA Q (m:Int) k=if 0≤k∧k≤(q.length:Int) then (fnd Q (q.take k.toNat),0) else (0,1):=by
   unfold upA; rw [if_pos hc]; simp only [Int.toNat_natCast,hq.out]
  rw [hA] at hx
  have hl:=Yn8 h m hm hq
  clear hc hA
  by_cases hk:0≤k
  ·by_cases hk2:k≤(q.length:Int)
   ·obtain ⟨i,rfl⟩ : ∃ i:Nat,k=(i:Int):=⟨k.toNat,by omega⟩
    have hi:i≤q.length:=by omega
    have Hx:Hid ((fnd Q (q.take i),0)=(x,e)):=hid (by have:=hx.out; rw [if_pos ⟨hk,hk2⟩] at this; simpa using this)
    clear hx hk;go_enter Tryz.func133,Tryz.ntmps133;go_wp2_with fail;refine (Hu h _ hh).mono ?_;rintro y w' ⟨rfl,rfl⟩;go_wp2_with fail;refine hl.mono ?_;rintro y w' ⟨v,rfl,hO,hB⟩;obtain ⟨A,n',c',rfl,hI,_⟩:=hO.Yu
    have hn' : n'=q.length+1:=by rw [← hI.len,Xg]
    have hin:i<n':=by omega
    obtain ⟨b,o,y,rfl,hb,hcell,hy⟩:=hI.at_ hin;rw [Yam (by omega)] at hy
    have Hn:=hid hn'
    have hge:¬ (n' : Int)≤(i:Int):=by omega
    have hcap:=hI.cap
    have hcm:=hI.Z1
    clear hO hn' hl hI hk2 hi;go_wp2_with fail;go_ret2;exact ⟨by rw [hy.out]; exact Ybu Hx.out,hB⟩
   ·have Hx:Hid ((0,1)=(x,e)):=hid (by have:=hx.out; rwa [if_neg (fun h=>hk2 h.2)] at this)
    clear hx;go_enter Tryz.func133,Tryz.ntmps133;go_wp2_with fail;refine (Hu h _ hh).mono ?_;rintro y w' ⟨rfl,rfl⟩;go_wp2_with fail;refine hl.mono ?_;rintro y w' ⟨v,rfl,hO,hB⟩;obtain ⟨A,n',c',rfl,hI,_⟩:=hO.Yu
    have hn' : n'=q.length+1:=by rw [← hI.len,Xg]
    have hge:(n' : Int)≤k:=by omega
    have hcap:=hI.cap
    have hcm:=hI.Z1
    clear hO hn' hl hI hk2;go_wp2_with fail;go_ret2;exact ⟨Ybu Hx.out,hB⟩
  ·have Hx:Hid ((0,1)=(x,e)):=hid (by have:=hx.out; rwa [if_neg (fun h=>hk h.1)] at this)
   clear hx;go_enter Tryz.func133,Tryz.ntmps133;go_wp2_with fail;refine (Hu h _ hh).mono ?_;rintro y w' ⟨rfl,rfl⟩;go_wp2_with fail;refine hl.mono ?_;rintro y w' ⟨v,rfl,hO,hB⟩;obtain ⟨A,n',c',rfl,hI,_⟩:=hO.Yu;clear hO hl hI;go_wp2_with fail;go_ret2;exact ⟨Ybu Hx.out,hB⟩
 ·have Hx:Hid ((0,33)=(x,e)):=hid (by have:=hx.out; unfold upA at this; rwa [if_neg hc] at this)
  have hh:=hid (decide_eq_false hc)
  clear hx hc;go_enter Tryz.func133,Tryz.ntmps133;go_wp2_with fail;refine (Hu h _ hh).mono ?_;rintro y w' ⟨rfl,rfl⟩;go_wp2_with fail;go_ret2;exact ⟨Ybu Hx.out,Below.refl _ _⟩
theorem Lr {P:Program} (w:World) {ops:Array Oper}{rest:List Oper}{o:Oper}{a:Act}{Q:Exit→Act→World→Prop}
  (hg:o.guard=none) (l c:Operand) (t:TypeId) (hop:o.op=Op.makeSlice t l c)
  (e:TypeId) (i:TypeInfo) (z:Value) (h1:P.underlying t=some (.slice e)) (h2:P.info? e=some i) (h3:i.zero=some z) (h4:i.size=1) (h5:i.bytes=8)
  (N C:Int) (n k:Nat) (hl:a.eval l=.int .i64 N) (hc:a.eval c=.int .i64 C) (hN:N=n) (hC:C=k) (hnk:n≤k) (hk:k≤1000000)
  (hK:wpList P ops Q rest (a.put o.dst (.slice (some ⟨w.heap.size,0,none⟩) n k)) (w.alloc (.cells (madeCells z.cells k).toList.toArray e))) :
  wpList P ops Q (o :: rest) a w:=by
 subst hN hC;refine wpList_plain hg fun K hK'=>?_
 have hrun:=run_make (P:=P) w t e i z h1 h2 h3 .i64 .i64 n k (by omega) (by omega) (by rw [h5]; omega) (by omega)
 rw [h4,Nat.mul_one,Int.toNat_natCast,Int.toNat_natCast] at hrun;unfold Oper.wp;simp [execOp,hop,hl,hc,hrun,Result.andThen];exact hK' _ _ (by simpa using hK)
theorem Yof (w:World) (k:Nat) (hk:k≤1000000):Yf (w.alloc (.cells (madeCells #[.int .i64 0] k).toList.toArray 3)) w.heap.size (.slice (some ⟨w.heap.size,0,none⟩) 0 k) []:=by
 refine World.ownsRow_made w _ k (Nat.le_refl _) (by unfold maxLen; omega) ?_
 simp [size_madeCells]
theorem Good.Ygg (h:Good n Q) {p:Pth}{k:Nat}(hk:k<p.length) (hm:p.take k=[]∨p.take k∈Q) {s:Txt}(hs:s=p.getD k []) {a:Nat}(ha:fnd Q (p.take k)=a) :
  a≤Q.length∧fnd (Un Q) (a,s)=fnd Q (p.take (k+1))∧decide ((a,s)∈Un Q)=decide (p.take (k+1)∈Q):=by
 have hle:a≤Q.length:=by rw [← ha]; exact Nt
 have e:pth Q a=p.take k:=by
  rcases hm with e | e
  ·rw [← ha,e,h.Ol]; rfl
  ·rw [← ha]; exact Qz e
 have e2:pth Q a++[s]=p.take (k+1):=by
  rw [e,hs];exact Mc hk rfl
 refine ⟨hle,by rw [h.Yc4 hle,e2],?_⟩
 have:=h.Yd6 (s:=s) hle
 rw [e2] at this;exact decide_eq_decide.2 this
theorem Yki (h:Dc w base g pv bm n Q) {A:Option Addr}{m c:Nat}{p:Pth}(hp:Zn w w.heap.size A m c p) (hmay:Wu p) :
  Calls Tryz.prog 102 #[.pointer (some ⟨g,0,none⟩),.slice A m c] w fun e w'=>∃ v k,e=.returned v∧O5 Q p k∧Yf w' w.heap.size v (cds Q p (k+1))∧Below w.heap.size w w':=by
 obtain ⟨i0,hi,hz0,hz1,hz2⟩:=info_parts S7
 have hgood:=hid h.good
 have hm3:m≤3:=by rw [← hp.len]; exact hmay.1
 have Hpl:=hid hp.len
 have Hmay:=hid hmay
 have hD:=hid h
 have hgl:=h.block.lt
 have K:Hid (∀ y,Below w.heap.size w y→y.cell? ⟨g,2,none⟩=some (.map (some bm))∧W6 y bm (Un Q)):=hid fun y hy=>⟨(hy.cell (p:=⟨g,2,none⟩) hgl).trans h.c2,(h.below hy).map⟩
 have H1:=fun (W:World) (hW:W=w.alloc (.cells (madeCells #[.int .i64 0] (m+1)).toList.toArray 3))=>hid (show Yf W w.heap.size (.slice (some ⟨w.heap.size,0,none⟩) 0 (m+1)) []∧Below w.heap.size w W from by subst hW; exact ⟨Yof w (m+1) (by omega),Ya _ _⟩)
 clear hmay h;go_enter Tryz.func102,Tryz.ntmps102;go_wp2_with (first
  | (at_make; refine Lr _ rfl _ _ 27 rfl 3 i0 (.int .i64 0) Tryz.underlying27 hi hz0 hz1 hz2 0 ((m:Int)+1) 0 (m+1) rfl rfl rfl (by omega) (by omega) (by omega) ?_)
  | (at_builtin; refine Y9 rfl _ _ rfl w.heap.size _ _ rfl ((H1 _ rfl).out.1.alloc _) _ rfl 0 (Zs _ _ _ _ (by simp)) (by simp) (by simp; omega) ?_)
  | fail)
 intro v0 w1 hO0 hG0
 have hB1:Below w.heap.size w w1:=((H1 _ rfl).out.2.alloc (by simp) _).trans (hG0.Y4 (by simp; omega) (fun k hk=>by cases hk; exact Nat.le_refl _))
 have hO1:Yf w1 w.heap.size v0 (cds Q p (0+1)):=by rw [Nat.zero_add,Yqe hgood.out]; simpa using hO0
 clear hO0 hG0 H1;go_wp2_with fail;go_loopw [5,18] (fun v i wr=>∃ k:Nat,k≤m∧i=.int .i64 k∧Yf wr w.heap.size v (cds Q p (k+1))∧Below w.heap.size w wr∧Hid (∀ j,j<k→p.take (j+1)∈Q)) (fun _ i _=>m - (intOf i).toNat)
 case atStart=>exact ⟨0,Nat.zero_le _,rfl,hO1,hB1,hid (fun j hj=>by omega)⟩
 case round =>
  obtain ⟨k,hk,rfl,hO,hB,hall⟩:=hrel
  by_cases hlt:k<m
  ·obtain ⟨b,o,s,rfl,hb,hc,es⟩:=(hp.below hB (Nat.le_refl _)).at_ hlt
   obtain ⟨a,ha⟩ : ∃ a,Hid (fnd Q (p.take k)=a):=⟨_,hid rfl⟩;obtain ⟨hal,hlk1,hlk2⟩:=hgood.out.Ygg (p:=p) (k:=k) (by have:=Hpl.out; omega) (by
    cases k with
    | zero=>left; rfl
    | succ k=>right; exact hall.out k (by omega)) es.out ha.out
   have hQ40:=hgood.out.size
   have hsl:s.length≤maxLen:=by
    have h1:=(Hmay.out.2 s (by rw [es.out,List.getD_eq_getElem?_getD,List.getElem?_eq_getElem (by have:=Hpl.out; omega)]; exact List.getElem_mem _)).2.1
    unfold maxLen; omega
   obtain ⟨c2,hM⟩:=K.out wr hB
   have hrun0:=fun q=>(hM.drewN q).look (a:=a) (s:=s) (by omega) hsl
   rw [hlk1,hlk2] at hrun0;obtain ⟨g2,cap2,rfl,hg1,hg2,hcap',hcm',hcell⟩:=hO.C4 (by rw [Xg]; omega)
   have hlo:=fun g e=>(hO.lt g e).1
   have hck:=hcell k (by rw [Xg]; omega)
   rw [Yam (by omega),ha.out] at hck
   have hHid:=hid hO
   rw [Xg] at hcap'
   have e0:=Xg Q p (k+1)
   rw [e0] at hHid;simp only [e0];clear e0 hcell hO hM hlk1 hlk2 hsl
   have hsz:=hB.size
   have hki:(0:Int)≤(k:Int):=by omega
   have hkl:(k:Int)<(k:Int)+1:=by omega
   have hkk:IntKind.i64.wrap ((k:Int)+1 - 1)=(k:Int):=by rw [show (k:Int)+1 - 1=(k:Int) by omega]; exact IntWalk.i64_in _ (by omega)
   by_cases hyes:p.take (k+1)∈Q
   ·have hrun:∀ q,(Instr.lookup 128 (.map (some bm)) (.agg #[.int .i64 a,.string ⟨s.toArray⟩]) true).run Tryz.prog (wr.drewN q)=.ok (.tuple #[.int .i64 (fnd Q (p.take (k+1)):Nat),.bool true]) (wr.drewN q):=fun q=>by
     have:=hrun0 q
     rwa [decide_eq_true hyes] at this
    obtain ⟨d,hd⟩ : ∃ d,Hid (fnd Q (p.take (k+1))=d):=⟨_,hid rfl⟩;rw [hd.out] at hrun
    have hall2:Hid (∀ j,j<k+1→p.take (j+1)∈Q):=hid fun j hj=>by
     rcases Nat.lt_or_ge j k with h1 | h1
     ·exact hall.out j h1
     ·obtain rfl:j=k:=by omega
      exact hyes
    clear hyes hrun0;go_wp2_with fail;go_quiet (fail)
    have hO1:=(hHid.out.drewN nq).alloc (.cells #[.int .i64 d] 3)
    have hJ:=hid (Yci Q p (k+1))
    rw [hd.out] at hJ
    have hll:Hid ((cds Q p (k+1)).length≤1000000):=hid (by rw [Xg]; omega)
    go_wp2_with (at_builtin; refine Y9 rfl _ _ rfl w.heap.size _ _ rfl hO1 _ rfl d (Zs _ _ _ _ (by simp)) hll.out (by rw [World.size_alloc]; exact Nat.le_succ_of_le hsz) ?_)
    intro v2 w2 hO2 hG2
    have hB2:=hid (((below_drewN hB nq).alloc hsz (.cells #[.int .i64 d] 3)).trans (hG2.Y4 (by rw [World.size_alloc]; exact Nat.le_succ_of_le hsz) hlo))
    rw [← hJ.out] at hO2
    have hO3:=hid hO2
    clear hO1 hO2 hG2 hlo hB hkk;go_wp2_with fail;go_roundw
    case rel=>exact ⟨k+1,by omega,by go_num,hO3.out,hB2.out,hall2⟩
    case measure=>simp [intOf]; omega
   ·have hrun:∀ q,(Instr.lookup 128 (.map (some bm)) (.agg #[.int .i64 a,.string ⟨s.toArray⟩]) true).run Tryz.prog (wr.drewN q)=.ok (.tuple #[.int .i64 (fnd Q (p.take (k+1)):Nat),.bool false]) (wr.drewN q):=fun q=>by
     have:=hrun0 q
     rwa [decide_eq_false hyes] at this
    have hkn:Hid (O5 Q p k):=hid ⟨by have:=Hpl.out; omega,hall.out,.inr hyes⟩
    clear hyes hrun0;go_wp2_with fail;go_quiet (fail);go_wp2_with fail;go_ret;exact ⟨_,k,rfl,hkn.out,hHid.out.drewN _,below_drewN hB _⟩
  ·have hkn:Hid (O5 Q p k):=hid ⟨by have:=Hpl.out; omega,hall.out,.inl (by have:=Hpl.out; omega)⟩
   go_wp2_with fail;go_ret;exact ⟨_,k,rfl,hkn.out,hO,hB⟩
section
structure Rf (w:World) (base r n:Nat) (Lv:Value) (Q:List Pth):Prop where
 block:Block w r 111 #[.int .i64 n,Lv]
 row:Zl w base Lv Q
 rb:base≤r
 good:Good n Q
def Wp (r:Nat) (Lv:Value) (k:Nat):Prop:=k=r∨Lv.ownBlock=some k
section
variable {w w' : World}{base r n:Nat}{Lv:Value}{Q:List Pth}
theorem Rf.drewN (h:Rf w base r n Lv Q) (k:Nat):Rf (w.drewN k) base r n Lv Q:=⟨h.block.drewN k,h.row.drewN k,h.rb,h.good⟩
theorem Rf.chg {S:Nat→Prop}(h:Rf w base r n Lv Q) (hc:Chg S w w') (hS:NoT w S) (hr:¬ S r):Rf w' base r n Lv Q :=
 ⟨(hc.block r h.block.lt hr).trans h.block,h.row.chg hc hS,h.rb,h.good⟩
theorem Rf.below (h:Rf w base r n Lv Q) (hb:Below w.heap.size w w'):Rf w' base r n Lv Q:=h.chg (S:=fun _=>False) (Chg.Yz hb (Nat.le_refl _)) (NoT.none w) (fun h=>h)
theorem Rf.c0 (h:Rf w base r n Lv Q):w.cell? ⟨r,0,none⟩=some (.int .i64 n):=h.block.cell 0
theorem Rf.c1 (h:Rf w base r n Lv Q):w.cell? ⟨r,1,none⟩=some Lv:=h.block.cell 1
end
theorem Yjx {α:Type}{l:List α}{x y:α} (h:∀ j,j<k→l[j]?≠some x) (hy:l[k]?=some y) (hne:y≠x):∀ j,j<k+1→l[j]?≠some x:=by
 intro j hj
 rcases Nat.lt_or_ge j k with h1 | h1
 ·exact h j h1
 ·obtain rfl:j=k:=by omega
  rw [hy];exact fun e=>hne (Option.some.inj e)
theorem Ymv {l:List Pth}{x:Pth} (h:∀ j,j<l.length→l[j]?≠some x):fnd l x=0:=by
 refine S5 fun hm=>?_
 obtain ⟨j,hj⟩:=List.getElem?_of_mem hm;exact h j (List.getElem?_eq_some_iff.1 hj).1 hj
theorem J3 (h:Rf w base r n Lv Q) {B:Nat}{A:Option Addr}{m c:Nat}{p:Pth}(hp:Zn w B A m c p) {x:Nat}(hx:Hid (fnd Q p=x)) :
  Calls Tryz.prog 84 #[.pointer (some ⟨r,0,none⟩),.slice A m c] w fun e w'=>e=.returned (.int .i64 x)∧∃ k,w'=w.drewN k:=by
 obtain ⟨A2,cap,rfl,hT⟩:=h.row.form
 have hcap:=hT.cap
 have hQ:=h.good.size
 have hH:=hid h
 have HT:=hid hT
 have c1:=fun q=>(h.drewN q).c1
 clear hT h;go_enter Tryz.func84,Tryz.ntmps84;go_wp2;go_loopw [5] (fun i wr=>∃ k q:Nat,k≤Q.length∧i=.int .i64 k∧wr=w.drewN q∧Hid (∀ j,j<k→Q[j]?≠some p)) (fun i _=>Q.length - (intOf i).toNat)
 case atStart=>exact ⟨0,0,Nat.zero_le _,rfl,rfl,hid (fun j hj=>by omega)⟩
 case round =>
  obtain ⟨k,q,hk,rfl,rfl,hno⟩:=hrel
  have c1q:=c1 q
  by_cases hlt:k<Q.length
  ·obtain ⟨y,hy⟩ : ∃ y,Hid (Q[k]?=some y):=⟨_,hid (List.getElem?_eq_getElem hlt)⟩
   obtain ⟨b,o,A',n',c',rfl,hb,hc,hty⟩:=HT.out.has k y hy.out
   have hcq:(w.drewN q).cell? ⟨b,o+k,none⟩=some (.slice A' n' c'):=hc
   have hs:=Yld (w:=w.drewN q) (hty.drewN q) (hp.drewN q)
   have hk0:(0:Int)≤(k:Int):=by omega
   have hk1:(k:Int)<(Q.length:Int):=by omega
   by_cases he:y=p
   ·rw [decide_eq_true he] at hs
    have hxk:Hid (x=k+1):=hid (by rw [← hx.out]; exact Yaz (by rw [hy.out,he]) hno.out)
    clear he;go_wp2_with fail;refine hs.mono ?_;rintro e w' ⟨rfl,j,rfl⟩;go_wp2_with fail;go_ret;exact ⟨Vi (by have:=hxk.out; omega),q+j,by first | rfl | exact World.drewN_drewN _ _ _⟩
   ·rw [decide_eq_false he] at hs
    have hno2:=hid (Yjx hno.out hy.out he)
    clear he;go_wp2_with fail;refine hs.mono ?_;rintro e w' ⟨rfl,j,rfl⟩;go_wp2_with fail;go_roundw
    case rel=>exact ⟨k+1,q+j,by omega,by go_num,by first | rfl | exact World.drewN_drewN _ _ _,hno2⟩
    case measure=>simp [intOf]; omega
  ·have hx0:Hid (x=0):=hid (by rw [← hx.out]; exact Ymv (fun j hj=>hno.out j (by omega)))
   go_wp2_with fail;go_ret;exact ⟨Vi (by have:=hx0.out; omega),q,rfl⟩
end
section
section
variable {w w' : World}{base g:Nat}{pv:Value}{bm n:Nat}{Q:List Pth}
theorem Dc.Fw (h:Dc w base g pv bm n Q) {B e size m:Nat}{v:Value}{xs:List Value}(hr:w.ownsRow B e size v m xs) (h1:e≠131) (h2:e≠139):∀ k,v.ownBlock=some k→¬ U0 g pv bm k:=by
 intro k hk hf
 rcases hr.2 with ⟨rfl,_⟩ | ⟨g',cap,cur,rfl,_,hg,_⟩
 ·cases hk
 ·simp only [Value.ownBlock,Option.some.injEq] at hk
  subst hk
  rcases hf with rfl | hf | rfl
  ·have hb:w.heap[g']?=some (.cells _ _ _):=h.block
   rw [hg] at hb;simp only [Option.some.injEq,Obj.cells.injEq] at hb;exact h1 hb.2.1
  ·rcases h.row.2 with ⟨rfl,_⟩ | ⟨g2,cap2,cur2,rfl,_,hg2,_⟩
   ·cases hf
   ·simp only [Value.ownBlock,Option.some.injEq] at hf
    subst hf;rw [hg] at hg2;simp only [Option.some.injEq,Obj.cells.injEq] at hg2;exact h2 hg2.2.1
  ·obtain ⟨es,clock,he⟩:=h.map.Rt
   rw [hg] at he
   cases he
theorem Dc.Yj3 (h:Dc w base g pv bm n Q) {B e size m:Nat}{v:Value}{xs:List Value}(hr:w.ownsRow B e size v m xs) (h1:e≠131) (h2:e≠139) (hg:w.grownBy w' v.ownBlock):Dc w' base g pv bm n Q :=
 h.chg (S:=fun k=>v.ownBlock=some k) (Chg.Wl hg fun _ hk _=>hk) fun k hk hs=>h.Fw hr h1 h2 k hs hk
theorem Zn.chg {S:Nat→Prop}{B m c:Nat}{A:Option Addr}{l:List Txt}(h:Zn w B A m c l) (hB:B≤w.heap.size) (hc:Chg S w w') (hS:∀ ad,A=some ad→¬ S ad.block):Zn w' B A m c l :=
 ⟨h.len,h.cap,h.fit,h.void,fun hn=>by
  obtain ⟨b,o,e,hb,hcell⟩:=h.has hn;exact ⟨b,o,e,hb,fun j u hu=>(World.cell?_of_block (hc.block b (by omega) (hS _ e))).trans (hcell j u hu)⟩⟩
end
def Gf (w:World) (B:Nat) (v:Value) (l:List Int):Prop :=
 (v=.slice none 0 0∧l=[])∨∃ g c x,v=.slice (some ⟨g,1,none⟩) l.length c∧Yf w B (.slice (some ⟨g,0,none⟩) (l.length+1) (c+1)) (x :: l)
theorem Gf.read (h:Gf w B v l):∃ A m c,v=.slice A m c∧Yx w w.heap.size A m c l∧∀ ad,A=some ad→B≤ad.block:=by
 rcases h with ⟨rfl,rfl⟩ | ⟨g,c,x,rfl,hO⟩
 ·exact ⟨none,0,0,rfl,⟨rfl,Nat.le_refl _,Nat.zero_le _,fun _=>rfl,Has.Zj⟩,fun _ h=>by cases h⟩
 ·obtain ⟨A',n',c',e,hI,hb⟩:=hO.Yu
  injection e with e1 e2 e3
  subst e1 e2 e3;refine ⟨_,_,_,rfl,?_,fun ad had=>by injection had with had; subst had; exact hb ⟨g,0,none⟩ rfl⟩
  have hcap:=hI.cap
  have hl:=hI.len
  refine ⟨rfl,by simp at hl; omega,by have:=hI.fit; omega,(fun h=>by cases h),fun hn=>?_⟩
  obtain ⟨b,o,e,hb2,hc⟩:=hI.has (by simp)
  injection e with e
  injection e with e1 e2 e3
  subst e1 e2;refine ⟨g,1,rfl,hb2,fun j u hu=>?_⟩
  have:=hc (j+1) u (by simpa using hu)
  rwa [Nat.zero_add,Nat.add_comm] at this
theorem Good.Ylj (h:Good n Q) {p:Pth}{k:Nat}(hk:k<p.length) (hm:p.take k=[]∨p.take k∈Q) {a:Nat}(ha:fnd Q (p.take k)=a):a≤Q.length∧pth Q a++[p.getD k []]=p.take (k+1):=by
 refine ⟨by rw [← ha]; exact Nt,?_⟩
 have e:pth Q a=p.take k:=by
  rcases hm with e | e
  ·rw [← ha,e,h.Ol]; rfl
  ·rw [← ha]; exact Qz e
 rw [e];exact Mc hk rfl
theorem Gf.of {B':Nat} (h:Yf w B (.slice (some ⟨g,0,none⟩) (m+1) c) l) (hB:B'≤B) (hc:1<c):Gf w B' (.slice (some ⟨g,1,none⟩) m (c - 1)) (l.drop 1):=by
 have hl:=h.len_
 rcases l with _ | ⟨x,r⟩
 ·simp at hl
 ·have e:r.length=m:=by simpa using hl
  subst e;refine .inr ⟨g,c - 1,x,rfl,?_⟩;rw [show c - 1+1=c by omega]
  exact h.low hB
def Yhl (w:World) (base g:Nat) (pv:Value) (bm n:Nat) (Q:List Pth) (p:Pth) (y:Ending) (w' : World):Prop :=
 ∃ v pv',y=.returned (.tuple #[v,.int .i64 ((Rp n Q p:Nat):Int)])∧Gf w' w.heap.size v (Mg n Q p)∧Dc w' base g pv' bm n (Vc n Q p)∧Chg (U0 g pv bm) w w'∧∀ k,pv'.ownBlock=some k→pv.ownBlock=some k∨w.heap.size≤k
theorem Yqb (h:Dc w base g pv bm n Q) {A:Option Addr}{m c:Nat}{p:Pth}(hp:Zn w w.heap.size A m c p) (hfar:0<m→∀ ad,A=some ad→¬ U0 g pv bm ad.block) :
  Calls Tryz.prog 77 #[.pointer (some ⟨g,0,none⟩),.slice A m c] w (Yhl w base g pv bm n Q p):=by
 have hpl:=hp.len
 have hc0:=h.c0
 by_cases hmn:m=n
 ·subst hmn
  by_cases hm:Wu p
  ·have hmb:=hid (decide_eq_true hm)
   have hmy:=Ow hp
   rw [hmb.out] at hmy
   have hnn:((m:Int) != (m:Int))=false:=by simp
   have hD:=hid h
   have Hm:=hid hm
   have hm1:=h.good.lv.1
   have hm3:=h.good.lv.2
   have hQ40:=h.good.size
   have hbase:base≤w.heap.size:=Nat.le_trans h.gb (Nat.le_of_lt h.block.lt)
   have Hpl:=hid hpl
   have Hfar:=hid (hfar (by omega))
   obtain ⟨b,o,_,rfl,hb,_,_⟩:=hp.at_ (k:=0) (by omega)
   have hP:=hid hp
   have hcap:=hp.cap
   have hcm:=hp.Z1
   clear hm h hp hpl hfar hc0;go_enter Tryz.func77,Tryz.ntmps77
   have c0:=hD.out.c0
   go_wp2_with fail;refine hmy.mono ?_;rintro y w1 ⟨rfl,hB1⟩;clear hmy;go_wp2_with fail;refine (Yki (hD.out.below hB1) (hP.out.Yc hB1) Hm.out).mono ?_;rintro y w2 ⟨v,k,rfl,hk,hO,hB2⟩
   have hB:=hB1.trans (hB2.mono hB1.size)
   have hO:=hO.low hB1.size
   have hkm:k≤m:=by have:=hk.1; have:=Hpl.out; omega
   have HK:=hid hk
   have hlack:=hD.out.good.Ot hk.1 hk.2.1 hk.2.2
   have hlackl:(Sa Q p).length=m - k:=by rw [hlack,List.length_drop,Wz,Hpl.out]
   have hD2:=hid (hD.out.below hB)
   have hch2:Hid (Chg (U0 g pv bm) w w2):=hid (Chg.Yz hB (Nat.le_refl _))
   have hs2:=hB.size
   have HO:=hid hO
   obtain ⟨g2,cap2,rfl,hg1,hg2,hcap',hcm',hcell⟩:=hO.C4 (by rw [Xg]; omega)
   rw [Xg] at hcap'
   have e0:=Xg Q p (k+1)
   rw [e0] at HO ⊢
   have hk0:(0:Int)≤(k:Int):=by omega
   have hk1:(k:Int)≤(m:Int):=by omega
   have hk2:(m:Int)≤(c:Int):=by omega
   have hk3:(k:Int)≤(c:Int):=by omega
   have hkk:(k:Int)+1 - 1=(k:Int):=by omega
   clear e0 hcell hO hk hB hB1 hB2 hmb
   by_cases h40:Q.length+(m - k)≤40
   ·obtain ⟨e1,e2,e3⟩:=Lx (n:=m) (Q:=Q) (p:=p) ⟨Hpl.out,Hm.out⟩ (by rw [hlackl]; exact h40)
    rw [hlack,← Kl HK.out.1,Hpl.out] at e1 e2;rw [← Ymc,Hpl.out] at e2
    have H1:=hid e1
    have H2:=hid e2
    have H3:=hid e3
    have h40' : ¬ (40:Int)<(Q.length:Int)+((m - k:Nat):Int):=by omega
    have H40:=hid h40
    clear e1 e2 e3 hlack hlackl h40
    by_cases hcp:c=k
    ·obtain rfl:k=m:=by omega
     subst hcp
     have h40'' : ¬ (40:Int)<(Q.length:Int):=by have:=H40.out; omega
     clear h40'
     have hge:=hD2.out.good.lv.1
     have hc21:¬ cap2=1:=by omega
     have hx1:(1:Int)≤(c:Int)+1:=by omega
     have hx2:(c:Int)+1≤(cap2:Int):=by omega
     have hx3:(1:Int)≤(cap2:Int):=by omega
     have hT:=hid (Gf.of HO.out (Nat.le_refl _) (by omega))
     have HQ:Hid (grown Q p c (c - c)=Q):=hid (by rw [Nat.sub_self,Qq])
     rw [HQ.out] at H1 H2;go_wp2_with fail;refine (Hy hD2.out).mono ?_;rintro y w' ⟨rfl,rfl⟩;go_wp2_with fail;go_loopw [6,38] (fun v i wr=>v=.slice (some ⟨g2,0,none⟩) (c+1) cap2∧i=.int .i64 0∧wr=w2) (fun _ _ _=>0)
     case atStart=>exact ⟨rfl,rfl,rfl⟩
     case round =>
      obtain ⟨rfl,rfl,rfl⟩:=hrel;go_wp2_with fail;go_ret2;exact ⟨_,pv,by rw [H3.out]; rfl,by rw [H2.out]; exact hT.out,by rw [H1.out]; exact hD2.out,hch2.out,fun k hk=>.inl hk⟩
    ·go_wp2_with fail
     refine (Hy hD2.out).mono ?_;rintro y w' ⟨rfl,rfl⟩;go_wp2_with fail;go_loopw [6,38] (fun v i wr=>∃ (j:Nat) (pv' : Value),j≤m - k∧i=.int .i64 j∧Yf wr w.heap.size v (cds (grown Q p k j) p (k+j+1))∧Dc wr base g pv' bm m (grown Q p k j)∧Chg (U0 g pv bm) w wr∧Hid (∀ k,pv'.ownBlock=some k→pv.ownBlock=some k∨w.heap.size≤k)) (fun _ i _=>m - (intOf i).toNat)
     case atStart=>exact ⟨0,pv,Nat.zero_le _,rfl,by rw [Qq]; exact HO.out,by rw [Qq]; exact hD2.out,hch2.out,hid (fun k hk=>.inl hk)⟩
     case round =>
      obtain ⟨j,pv',hj,rfl,hO,hDj,hch,hown⟩:=hrel
      by_cases hlt:j<m - k
      ·have hkj:k+j<p.length:=by have:=Hpl.out; omega
       have hgj:=Nu hD.out.good Hm.out.2 (Nat.le_of_eq Hpl.out) HK.out (by rw [Hpl.out]; exact H40.out) (j:=j) (by have:=Hpl.out; omega)
       have hgj1:=Nu hD.out.good Hm.out.2 (Nat.le_of_eq Hpl.out) HK.out (by rw [Hpl.out]; exact H40.out) (j:=j+1) (by omega)
       obtain ⟨s,hs⟩ : ∃ s,Hid (s=p.getD (k+j) []):=⟨_,hid rfl⟩;obtain ⟨a,ha⟩ : ∃ a,Hid (fnd (grown Q p k j) (p.take (k+j))=a):=⟨_,hid rfl⟩;obtain ⟨hal,htk⟩:=hgj.Ylj (p:=p) (k:=k+j) hkj (by
        rcases Nat.eq_zero_or_pos (k+j) with h0 | h0
        ·left; rw [h0]; rfl
        ·right
         obtain ⟨i,hi⟩ : ∃ i,k+j=i+1:=⟨k+j - 1,by omega⟩
         rw [hi];exact Kn HK.out (by omega) (by omega)) ha.out
       rw [← hs.out] at htk
       have hsn:Zx s:=Hm.out.2 s (by rw [hs.out,List.getD_eq_getElem?_getD,List.getElem?_eq_getElem hkj]; exact List.getElem_mem _)
       have hnew:pth (grown Q p k j) a++[s]∉grown Q p k j:=by rw [htk]; exact Ko HK.out (by omega) hkj hD.out.good
       rw [S6 hkj,← htk] at hgj1
       have hcome:=Ymj hDj hal hsn hnew hgj1
       rw [htk,← S6 hkj,Km (by omega)] at hcome
       have hcd:=hid (Yj2 hD.out.good HK.out hkj)
       have hpw:=(hP.out.chg (Nat.le_refl _) hch Hfar.out).has
       obtain ⟨b',o',eb,_,hcl⟩:=hpw (by simp; omega)
       injection eb with eb
       injection eb with eb1 eb2 _
       subst eb1 eb2
       have hcs:wr.cell? ⟨b,o+k+j,none⟩=some (.string ⟨s.toArray⟩):=by
        rw [Nat.add_assoc,hs.out];exact hcl (k+j) _ (by simp [Xp,List.getElem?_map,List.getD_eq_getElem?_getD,List.getElem?_eq_getElem hkj])
       obtain ⟨r,hr⟩ : ∃ r,Hid (k+j=r):=⟨_,hid rfl⟩
       have hfr:=hDj.Fw hO (by decide) (by decide)
       obtain ⟨g3,cap3,rfl,hg31,hg32,hcap3,hcm3,hcell3⟩:=hO.C4 (by rw [Xg]; omega)
       have hck:=hcell3 (k+j) (by rw [Xg]; omega)
       rw [Yam (by omega),ha.out,hr.out] at hck
       rw [Xg,hr.out] at hcap3
       have e0:=Xg (grown Q p k j) p (k+j+1)
       rw [hr.out] at hO e0 hcd;rw [e0] at hO;simp only [hr.out];rw [e0]
       have HOj:=hid hO
       have hrr:(r:Int)+1 - 1=(r:Int):=by omega
       have hr0:(0:Int)≤(r:Int):=by omega
       have hjj:((j:Nat):Int)<((m - k:Nat):Int):=by omega
       have hsz:=hch.size
       have Hch:=hid hch
       obtain ⟨d,hd⟩ : ∃ d,Hid (Q.length+j+1=d):=⟨_,hid rfl⟩;rw [hd.out] at hcome hcd
       have hcome2:=hid hcome
       have Hlt:=hid hlt
       have hr40:Hid (r≤100):=hid (by rw [← hr.out]; omega)
       clear hpw hcl hsn hnew htk hgj hgj1 hcome hO hDj hch hkj hcell3 e0 hal;go_wp2_with fail;refine hcome2.out.mono ?_;rintro y w3 ⟨pv3,rfl,hD3,hch3,hown3⟩
       have hO3:=hch3.row HOj.out hfr
       have hO4:Yf (w3.alloc (.cells #[.int .i64 d] 3)) w.heap.size (.slice (some ⟨g3,0,none⟩) (r+1) cap3) (cds (grown Q p k j) p (r+1)):=World.ownsRow.alloc hO3 _
       have hD4:=hD3.below (Ya w3 (.cells #[.int .i64 d] 3))
       have hsz3:=Nat.le_trans hsz hch3.size
       have hll:Hid ((cds (grown Q p k j) p (r+1)).length≤1000000):=hid (by rw [Xg]; have:=hr40.out; omega)
       have hch4:Chg (U0 g pv bm) w (w3.alloc (.cells #[.int .i64 d] 3)):=(Hch.out.trans hch3 (fun k hk hf=>by
        rcases hf with hf | hf | hf
        ·exact .inl hf
        ·rcases hown.out k hf with h1 | h1
         ·exact .inr (.inl h1)
         ·omega
        ·exact .inr (.inr hf))).alloc _
       have hown4:Hid (∀ k,pv3.ownBlock=some k→pv.ownBlock=some k∨w.heap.size≤k):=hid fun k hk=>by
        rcases hown3 k hk with h1 | h1
        ·exact hown.out k h1
        ·exact .inr (Nat.le_trans hsz h1)
       have HD4:=hid hD4
       have Hch4:=hid hch4
       clear hO3 hD3 hch3 hown3 hD4 hch4 hcome2;go_wp2_with (at_builtin; refine Y9 rfl _ _ rfl w.heap.size _ _ rfl hO4 _ rfl d (Zs _ _ _ _ (by simp)) hll.out (by rw [World.size_alloc]; omega) ?_)
       intro v4 w4 hO5 hG5
       have hD5:=hid (HD4.out.Yj3 hO4 (by decide) (by decide) hG5.1)
       have hch5:=hid (Hch4.out.trans (S':=fun k=>(Value.slice (some ⟨g3,0,none⟩) (r+1) cap3).ownBlock=some k) (c:=w4) (Chg.Wl hG5.1 fun k hk _=>hk) (fun k hk hs=>by
        have:=(World.ownsRow.lt HOj.out k hs).1
        omega))
       have hO6:Hid (Yf w4 w.heap.size v4 (cds (grown Q p k (j+1)) p (k+(j+1)+1))):=hid (by rw [hcd.out]; exact hO5)
       clear hO4 hO5 hG5;go_wp2_with fail;go_roundw
       case rel=>exact ⟨j+1,pv3,by have:=Hlt.out; omega,by go_num,hO6.out,hD5.out,hch5.out,hown4⟩
       case measure=>have:=Hlt.out; simp [intOf]; omega
      ·obtain rfl:j=m - k:=by omega
       have hkj:k+(m - k)+1=m+1:=by omega
       rw [hkj] at hO;obtain ⟨g3,cap3,rfl,hg31,hg32,hcap3,hcm3,_⟩:=hO.C4 (by rw [Xg]; omega)
       rw [Xg] at hcap3
       have e0:=Xg (grown Q p k (m - k)) p (m+1)
       rw [e0] at hO ⊢
       have hT:=hid (Gf.of hO (Nat.le_refl _) (by omega))
       rw [← H2.out] at hT
       have hx1:(1:Int)≤(m:Int)+1:=by omega
       have hx2:(m:Int)+1≤(cap3:Int):=by omega
       have hx3:(1:Int)≤(cap3:Int):=by omega
       have hc31:¬ cap3=1:=by omega
       rw [← H1.out] at hDj
       have hF:=hid (show Dc wr base g pv' bm m (Vc m Q p)∧Chg (U0 g pv bm) w wr∧_ from ⟨hDj,hch,hown.out⟩)
       clear e0 hO hDj hch hown hkj hlt hj;go_wp2_with fail;go_ret2;exact ⟨_,pv',by rw [H3.out]; rfl,hT.out,hF.out.1,hF.out.2.1,hF.out.2.2⟩
   ·obtain ⟨e1,e2,e3⟩:=Yb7 (n:=m) (Q:=Q) (p:=p) ⟨Hpl.out,Hm.out⟩ (by rw [hlackl]; omega)
    have H1:=hid e1
    have H2:=hid e2
    have H3:=hid e3
    have h40' : (40:Int)<(Q.length:Int)+((m - k:Nat):Int):=by omega
    have hcp:¬ c=k:=by omega
    clear e1 e2 e3 hlack hlackl h40;go_wp2_with fail;refine (Hy hD2.out).mono ?_;rintro y w' ⟨rfl,rfl⟩;go_wp2_with fail;go_ret2;exact ⟨_,pv,by rw [H3.out]; rfl,by rw [H2.out]; exact .inl ⟨rfl,rfl⟩,by rw [H1.out]; exact hD2.out,hch2.out,fun k hk=>.inl hk⟩
  ·obtain ⟨e1,e2,e3⟩:=Mj (n:=m) (Q:=Q) (p:=p) (fun a=>hm a.2)
   have H1:=hid e1
   have H2:=hid e2
   have H3:=hid e3
   have hmb:=hid (decide_eq_false hm)
   have hmy:=Ow hp
   rw [hmb.out] at hmy
   have hnn:((m:Int) != (m:Int))=false:=by simp
   have hD:=hid h
   clear hm e1 e2 e3 h;go_enter Tryz.func77,Tryz.ntmps77;go_wp2_with fail;refine hmy.mono ?_;rintro y w1 ⟨rfl,hB1⟩;go_wp2_with fail;go_ret2;exact ⟨_,pv,by rw [H3.out]; rfl,by rw [H2.out]; exact .inl ⟨rfl,rfl⟩,by rw [H1.out]; exact hD.out.below hB1,Chg.Yz hB1 (Nat.le_refl _),fun k hk=>.inl hk⟩
 ·obtain ⟨e1,e2,e3⟩:=Mj (n:=n) (Q:=Q) (p:=p) (fun a=>hmn (by rw [← hpl]; exact a.1))
  have H1:=hid e1
  have H2:=hid e2
  have H3:=hid e3
  have hnn:((m:Int) != (n:Int))=true:=by simp; omega
  have hD:=hid h
  clear e1 e2 e3 h hmn;go_enter Tryz.func77,Tryz.ntmps77;go_wp2_with fail;go_ret2;exact ⟨_,pv,by rw [H3.out]; rfl,by rw [H2.out]; exact .inl ⟨rfl,rfl⟩,by rw [H1.out]; exact hD.out,Chg.refl _ _,fun k hk=>.inl hk⟩
end
theorem B7 {p:Pth} (h:k<p.length):(U2 p).take (k+1)=(U2 p).take k++[p.take (k+1)]:=by
 rw [List.take_add_one,V4 h];rfl
theorem Yfb (p:Pth):(U2 p).take p.length=U2 p:=List.take_of_length_le (by rw [Wz]; exact Nat.le_refl _)
def lks (Q:List Pth) (p:Pth) (k:Nat):List Pth:=((U2 p).take k).filter fun q=>decide (q∉Q)
theorem Yib (Q:List Pth) (p:Pth) (k:Nat):(lks Q p k).length≤p.length:=by
 unfold lks;exact Nat.le_trans (List.length_filter_le _ _) (Nat.le_trans (List.length_take_le' _ _) (by rw [Wz]; exact Nat.le_refl _))
theorem Yia (Q:List Pth) (p:Pth):lks Q p p.length=Sa Q p:=by unfold lks Sa; rw [Yfb]
def Gd (w:World) (base r n:Nat) (Lv:Value) (Q:List Pth) (p:Pth) (y:Ending) (w' : World):Prop :=
 ∃ v Lv',y=.returned (.tuple #[v,.int .i64 ((Rp n Q p:Nat):Int)])∧Yf w' w.heap.size v (Mg n Q p)∧Rf w' base r n Lv' (Vc n Q p)∧Chg (Wp r Lv) w w'∧∀ k,Lv'.ownBlock=some k→Lv.ownBlock=some k∨w.heap.size≤k
theorem Yej (h:Rf w base r n Lv Q) {A:Option Addr}{m c:Nat}{p:Pth}(hp:Zn w w.heap.size A m c p) (hfar:0<m→∀ ad,A=some ad→¬ Wp r Lv ad.block) :
  Calls Tryz.prog 55 #[.pointer (some ⟨r,0,none⟩),.slice A m c] w (Gd w base r n Lv Q p):=by
 have hpl:=hp.len
 have hc0:=h.c0
 have hmy:=N9 hp
 by_cases hm:Wu p
 ·rw [decide_eq_true hm] at hmy
  by_cases hmn:m=n
  ·subst hmn
   obtain ⟨A2,cap,rfl,hTs⟩:=h.row.form
   have hc1:=h.c1
   have hm3:m≤3:=h.good.lv.2
   have hQ:=h.good.size
   have hcm:=hp.Z1
   have hcap:=hp.cap
   have hnn:((m:Int) != (m:Int))=false:=by simp
   have HH:=hid h
   have HP:=hid hp
   have Hm:=hid hm
   have HL:=hid hpl
   have Hfar:=hid (hfar (by have:=h.good.lv.1; omega))
   have hrl:=h.block.lt
   have hbase:base≤w.heap.size:=Nat.le_trans h.rb (Nat.le_of_lt hrl)
   have K:Hid (∀ y,Below w.heap.size w y→y.cell? ⟨r,1,none⟩=some (.slice A2 Q.length cap)∧Rf y base r m (.slice A2 Q.length cap) Q∧Zn y w.heap.size A m c p):=hid fun y hy=>⟨(hy.cell (p:=⟨r,1,none⟩) hrl).trans hc1,h.below hy,hp.below hy (Nat.le_refl _)⟩
   clear hTs hm hpl hfar hp h;go_enter Tryz.func55,Tryz.ntmps55;go_wp2_with fail;refine hmy.mono ?_;rintro y w1 ⟨rfl,rfl⟩;clear hmy;go_wp2_with fail;clear hnn;go_loopw [7,8] (fun v i wr=>∃ s:Nat,1≤s∧s≤m+1∧i=.int .i64 s∧Zl wr w.heap.size v (lks Q p (s - 1))∧Below w.heap.size w wr) (fun _ i _=>m+1 - (intOf i).toNat)
   case atStart=>exact ⟨1,Nat.le_refl _,by omega,rfl,Zl.Zj _ _,Below.refl _ _⟩
   case round =>
    obtain ⟨s,hs1,hsm,rfl,hO,hB⟩:=hrel
    by_cases hlt:s≤m
    ·obtain ⟨c1,hRf,hPw⟩:=K.out wr hB
     obtain ⟨x,hx⟩ : ∃ x,Hid (fnd Q (p.take s)=x):=⟨_,hid rfl⟩
     have hPt:=hPw.R8 s hlt
     have hf:=J3 hRf hPt hx
     have hpt:=hid (show (U2 p).take s=(U2 p).take (s - 1)++[p.take s] from by
      have:=B7 (p:=p) (k:=s - 1) (by have:=HL.out; omega)
      rwa [Nat.sub_add_cancel hs1] at this)
     have h1:(s:Int)≤(m:Int):=by omega
     have h2:(s:Int)≤(c:Int):=by omega
     have h3:(0:Int)≤(s:Int):=by omega
     by_cases hin:p.take s∈Q
     ·have hx0:((x:Int) == 0)=false:=by have:=Vp.2 hin; rw [hx.out] at this; simp; omega
      have hfl:Hid (lks Q p (s+1 - 1)=lks Q p (s - 1)):=hid (by
       rw [Nat.add_sub_cancel];unfold lks;rw [hpt.out,List.filter_append];simp [hin])
      clear hin hRf hPw hPt;go_wp2_with fail;refine hf.mono ?_;rintro y w2 ⟨rfl,j,rfl⟩;go_wp2_with fail;go_roundw
      case rel=>exact ⟨s+1,by omega,by omega,by go_num,by rw [hfl.out]; exact hO.drewN j,below_drewN hB j⟩
      case measure=>simp [intOf]; omega
     ·obtain rfl:x=0:=by rw [← hx.out]; exact S5 hin
      have hfl:Hid (lks Q p (s+1 - 1)=lks Q p (s - 1)++[p.take s]):=hid (by
       rw [Nat.add_sub_cancel];unfold lks;rw [hpt.out,List.filter_append];simp [hin])
      have hll:Hid ((lks Q p (s - 1)).length≤1000000):=hid (Nat.le_trans (Yib _ _ _) (by have:=HL.out; omega))
      have hsz:=hB.size
      have hlo:=fun k e=>(hO.lt k e).1
      clear hin hRf hPw;go_wp2_with fail;refine hf.mono ?_;rintro y w2 ⟨rfl,j,rfl⟩;go_wp2_with (at_builtin; refine Ybz rfl _ _ rfl wr.heap.size _ [] rfl (Xb.Zj _ _) _ A s c _ rfl (hPt.drewN j) (by simp; omega) (Nat.le_refl _) ?_)
      intro v3 w3 hO3 hG3;obtain ⟨A3,n3,c3,rfl,hT3,_⟩:=hO3.Yu;clear hT3
      have hB3:Below wr.heap.size wr w3:=Yb (Below.refl _ _) (show Below wr.heap.size wr w3 from ⟨hG3.1.os,hG3.1.tape,hG3.1.output,hG3.1.size,fun k hk=>hG3.1.block k hk (by simp [Value.ownBlock])⟩)
      have hO4:Zl (w3.alloc (.cells #[.slice A3 n3 c3] 23)) w.heap.size _ _:=(hO.below hB3).alloc _
      have hy4:Xb (w3.alloc (.cells #[.slice A3 n3 c3] 23)) w.heap.size (.slice A3 n3 c3) (p.take s):=by simpa using (hO3.alloc (.cells #[.slice A3 n3 c3] 23)).low hsz
      have hs3:=Nat.le_trans hsz hB3.size
      have hB4:=(hB.trans (hB3.mono hsz)).alloc hs3 (.cells #[.slice A3 n3 c3] 23)
      have HO4:=hid hO4
      have Hy4:=hid hy4
      clear hO hO3 hG3 hO4 hy4 hB3 hPt;go_wp2_with (at_builtin; refine Ye8 rfl _ _ rfl w.heap.size _ _ rfl HO4.out _ rfl (.slice A3 n3 c3) (p.take s) (L9 _ _ _ _ (by simp)) Hy4.out hll.out (by rw [World.size_alloc]; omega) ?_)
      intro v5 w5 hO5 hG5
      have hB5:=hid (hB4.trans (hG5.Y4 (by rw [World.size_alloc]; omega) hlo))
      rw [← hfl.out] at hO5
      have HO5:=hid hO5
      clear hO5 hG5 hB4 hB hlo;go_wp2_with fail;go_roundw
      case rel=>exact ⟨s+1,by omega,by omega,by go_num,HO5.out,hB5.out⟩
      case measure=>simp [intOf]; omega
    ·have hsl:lks Q p (s - 1)=Sa Q p:=by rw [show s - 1=p.length by have:=HL.out; omega]; exact Yia Q p
     rw [hsl] at hO;obtain ⟨c1,hRf,hPw⟩:=K.out wr hB;obtain ⟨A4,c4,rfl,hT4⟩:=hO.form;obtain ⟨lk,hlk⟩ : ∃ lk,Hid ((Sa Q p).length=lk):=⟨_,hid rfl⟩;rw [hlk.out] at hO ⊢
     have hsz:=hB.size
     have hf1:=hRf.block.free 1
     have hlk3:lk≤3:=by rw [← hlk.out]; have:=Yib Q p p.length; rw [Yia] at this; have:=HL.out; omega
     have hslt:¬ (s:Int)≤(m:Int):=by omega
     clear hT4 hsl
     by_cases h40:Q.length+lk≤40
     ·obtain ⟨e1,e2,e3⟩:=Lx (n:=m) (Q:=Q) (p:=p) ⟨HL.out,Hm.out⟩ (by rw [hlk.out]; exact h40)
      have H1:=hid e1
      have H2:=hid e2
      have H3:=hid e3
      have hgood:Hid (Good m (Vc m Q p)):=hid hRf.good.add
      have h40' : ¬ (40:Int)<(Q.length:Int)+(lk:Int):=by omega
      have hll:Hid (Q.length+(Sa Q p).length≤1000000):=hid (by rw [hlk.out]; omega)
      have hlo:=World.ownsRow.lt hRf.row.choose_spec.1
      have hrr:=hRf.row
      have hrb:=hRf.block
      have HR:=hid hRf
      have HB:=hid hB
      have hOl:=hO.low hbase
      clear e1 e2 e3 h40 hRf hPw hB hO;go_wp2_with (at_builtin; refine Yby rfl _ _ rfl base _ Q rfl hrr _ (Sa Q p) rfl hOl hll.out (Nat.le_trans hbase hsz) ?_)
      intro v5 w5 hO5 hG5;rw [← H1.out] at hO5
      have hnr:(Value.slice A2 Q.length cap).ownBlock≠some r:=fun e=>by
       obtain ⟨vs,h1,_⟩:=hrr
       rcases h1.2 with ⟨e1,_⟩ | ⟨g1,cap1,cur1,e1,_,hg1,_⟩
       ·rw [e1] at e; cases e
       ·rw [e1] at e
        simp only [Value.ownBlock,Option.some.injEq] at e;subst e
        have hb:wr.heap[g1]?=some (.cells _ _ _):=hrb
        rw [hg1] at hb;simp only [Option.some.injEq,Obj.cells.injEq] at hb;exact absurd hb.2.1 (by decide)
      have hb5:=hrb.grown hG5.1 hnr
      obtain ⟨A5,c5,rfl,_⟩:=hO5.form;obtain ⟨n5,hn5⟩ : ∃ n5,Hid ((Vc m Q p).length=n5):=⟨_,hid rfl⟩;rw [hn5.out] at hO5 hG5 ⊢
      have d1:w5.cell? ⟨r,1,none⟩=some (.slice A2 Q.length cap):=hb5.cell 1
      have f1:=hb5.free 1
      have hb6:=hb5.Yo 1 (.slice A5 n5 c5)
      have hch6:Chg (Wp r (.slice A2 Q.length cap)) w (w5.setCell ⟨r,1,none⟩ (.slice A5 n5 c5)):=((Chg.Yz HB.out (Nat.le_refl _)).trans (S':=Wp r (.slice A2 Q.length cap)) (Chg.Wl hG5.1 (fun k hk _=>.inr hk)) (fun _ _ h=>h)).Yo r 1 _ (fun _=>.inl rfl)
      have hO6:Zl (w5.setCell ⟨r,1,none⟩ (.slice A5 n5 c5)) base (.slice A5 n5 c5) (Vc m Q p):=hO5.chg (S:=fun k=>k=r) ((Chg.refl _ w5).Yo r 1 _ (fun _=>rfl)) (fun k hk cs e fr he=>by
       subst hk
       have hb:w5.heap[k]?=some (.cells _ _ _):=hb5
       rw [he] at hb;simp only [Option.some.injEq,Obj.cells.injEq] at hb;rw [hb.2.1]
       decide)
      have hown6:Hid (∀ k,(Value.slice A5 n5 c5).ownBlock=some k→(Value.slice A2 Q.length cap).ownBlock=some k∨w.heap.size≤k):=hid fun k hk=>(hG5.2 k hk).imp id (fun h=>Nat.le_trans hsz h)
      go_wp2_with fail;generalize w5.setCell ⟨r,1,none⟩ (.slice A5 n5 c5)=w6 at hb6 hch6 hO6 ⊢
      have hR6:Rf w6 base r m (.slice A5 n5 c5) (Vc m Q p):=⟨hb6,hO6,HR.out.rb,hgood.out⟩
      have hP6:Zn w6 w.heap.size A m c p:=HP.out.chg (Nat.le_refl _) hch6 Hfar.out
      have hs6:=hch6.size
      have K6:Hid (∀ y,Below w6.heap.size w6 y→Rf y base r m (.slice A5 n5 c5) (Vc m Q p)∧Zn y w.heap.size A m c p):=hid fun y hy=>⟨hR6.below hy,hP6.below hy hs6⟩
      have Hch6:=hid hch6
      clear hb6 hO6 hR6 hP6 hO5 hG5 hb5 d1 f1 hrr hrb HR hOl hnr hf1 c1 hlo hch6;go_wp2_with fail;go_loopw [10,11] (fun v i wr=>∃ t:Nat,1≤t∧t≤m+1∧i=.int .i64 t∧Yf wr w6.heap.size v (((U2 p).map fun q=>((fnd (Vc m Q p) q:Nat):Int)).take (t - 1))∧Below w6.heap.size w6 wr) (fun _ i _=>m+1 - (intOf i).toNat)
      case atStart=>exact ⟨1,Nat.le_refl _,by omega,rfl,Yf.Zj _ _,Below.refl _ _⟩
      case round =>
       obtain ⟨t,ht1,htm,rfl,hO,hB⟩:=hrel
       by_cases hlt2:t≤m
       ·obtain ⟨hRf,hPw⟩:=K6.out wr hB
        obtain ⟨x,hx⟩ : ∃ x,Hid (fnd (Vc m Q p) (p.take t)=x):=⟨_,hid rfl⟩
        have hf:=J3 hRf (hPw.R8 t hlt2) hx
        have h1:(t:Int)≤(m:Int):=by omega
        have h2:(t:Int)≤(c:Int):=by omega
        have h3:(0:Int)≤(t:Int):=by omega
        have htk:Hid (((U2 p).map fun q=>((fnd (Vc m Q p) q:Nat):Int)).take (t+1 - 1)=((U2 p).map fun q=>((fnd (Vc m Q p) q:Nat):Int)).take (t - 1)++[(x:Int)]):=hid (by
         have e1:=B7 (p:=p) (k:=t - 1) (by have:=HL.out; omega)
         rw [Nat.sub_add_cancel ht1] at e1;rw [Nat.add_sub_cancel,← List.map_take,e1,List.map_append,List.map_take,← hx.out];rfl)
        have hsz2:=hB.size
        have hlo2:=fun k e=>(hO.lt k e).1
        have hll2:Hid ((((U2 p).map fun q=>((fnd (Vc m Q p) q:Nat):Int)).take (t - 1)).length≤1000000):=hid (Nat.le_trans (List.length_take_le _ _) (by omega))
        clear hRf hPw;go_wp2_with fail;refine hf.mono ?_;rintro y w7 ⟨rfl,j,rfl⟩
        have hO7:=(hO.drewN j).alloc (.cells #[.int .i64 x] 3)
        go_wp2_with (at_builtin; refine Y9 rfl _ _ rfl w6.heap.size _ _ rfl hO7 _ rfl x (Zs _ _ _ _ (by simp)) hll2.out (by rw [World.size_alloc]; exact Nat.le_succ_of_le hsz2) ?_)
        intro v8 w8 hO8 hG8
        have hB8:=hid (((below_drewN hB j).alloc hsz2 (.cells #[.int .i64 x] 3)).trans (hG8.Y4 (by rw [World.size_alloc]; exact Nat.le_succ_of_le hsz2) hlo2))
        rw [← htk.out] at hO8
        have HO8:=hid hO8
        clear hO hO7 hO8 hG8 hB hlo2;go_wp2_with fail;go_roundw
        case rel=>exact ⟨t+1,by omega,by omega,by go_num,HO8.out,hB8.out⟩
        case measure=>simp [intOf]; omega
       ·have hall:Hid (((U2 p).map fun q=>((fnd (Vc m Q p) q:Nat):Int)).take (t - 1)=Mg m Q p):=hid (by
         rw [List.take_of_length_le (by rw [List.length_map,Wz,HL.out]; omega),H2.out,H1.out])
        rw [hall.out] at hO
        have hF:=hid (show Yf wr w.heap.size _ (Mg m Q p)∧Rf wr base r m (.slice A5 n5 c5) (Vc m Q p)∧Chg (Wp r (.slice A2 Q.length cap)) w wr from ⟨hO.low hs6,(K6.out wr hB).1,Hch6.out.trans (S':=fun _=>False) (Chg.Yz hB (Nat.le_refl _)) (fun _ _ h=>h.elim)⟩)
        clear hO hB;go_wp2_with fail;go_ret2;exact ⟨_,_,by rw [H3.out]; rfl,hF.out.1,hF.out.2.1,hF.out.2.2,hown6.out⟩
     ·obtain ⟨e1,e2,e3⟩:=Yb7 (n:=m) (Q:=Q) (p:=p) ⟨HL.out,Hm.out⟩ (by rw [hlk.out]; omega)
      have H1:=hid e1
      have H2:=hid e2
      have H3:=hid e3
      have h40' : (40:Int)<(Q.length:Int)+(lk:Int):=by omega
      have HR:=hid hRf
      have HB:=hid hB
      clear e1 e2 e3 h40 hO hRf hPw hB;go_wp2_with fail;go_ret2;exact ⟨_,.slice A2 Q.length cap,by rw [H3.out]; rfl,by rw [H2.out]; exact Yf.Zj _ _,by rw [H1.out]; exact HR.out,Chg.Yz HB.out (Nat.le_refl _),fun k hk=>.inl hk⟩
  ·obtain ⟨e1,e2,e3⟩:=Mj (n:=n) (Q:=Q) (p:=p) (fun a=>hmn (by rw [← hpl]; exact a.1))
   have H1:=hid e1
   have H2:=hid e2
   have H3:=hid e3
   have hnn:((m:Int) != (n:Int))=true:=by simp; omega
   have hD:=hid h
   clear e1 e2 e3 h hmn hm;go_enter Tryz.func55,Tryz.ntmps55;go_wp2_with fail;refine hmy.mono ?_;rintro y w1 ⟨rfl,rfl⟩;go_wp2_with fail;go_ret2;exact ⟨_,Lv,by rw [H3.out]; rfl,by rw [H2.out]; exact Yf.Zj _ _,by rw [H1.out]; exact hD.out,Chg.refl _ _,fun k hk=>.inl hk⟩
 ·rw [decide_eq_false hm] at hmy
  obtain ⟨e1,e2,e3⟩:=Mj (n:=n) (Q:=Q) (p:=p) (fun a=>hm a.2)
  have H1:=hid e1
  have H2:=hid e2
  have H3:=hid e3
  have hD:=hid h
  clear e1 e2 e3 h hm;go_enter Tryz.func55,Tryz.ntmps55;go_wp2_with fail;refine hmy.mono ?_;rintro y w1 ⟨rfl,rfl⟩;go_wp2_with fail;go_ret2;exact ⟨_,Lv,by rw [H3.out]; rfl,by rw [H2.out]; exact Yf.Zj _ _,by rw [H1.out]; exact hD.out,Chg.refl _ _,fun k hk=>.inl hk⟩
end Go.Proofs.YtkablhecedcngaaGreat
