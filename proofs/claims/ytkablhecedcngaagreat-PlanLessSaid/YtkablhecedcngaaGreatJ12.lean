/- DictK, DictO, Dims, NamesQ, NamesP -/
import Derived.Test.YtkablhecedcngaaGreatJ9
namespace Go.Proofs.YtkablhecedcngaaGreat
set_option maxRecDepth 100000
set_option maxHeartbeats 8000000
open Go.RowKit
open Go.Lib (hid)
variable {w:World}{x:Txt}{L:List Txt}{b base bm c g k n p:Nat}{E:List (Nat × Txt)}{s:ByteArray}{pv:Value}{Q:List Pth}{A:Option Addr}
section
open Go.RowKit Go.Maps
theorem laidOut:laidOutB Tryz.prog=true:=by kernel_rfl
theorem Yny:Tryz.prog.keyTypeAt 4 139=true:=by kernel_rfl
theorem M5:Keyed Tryz.prog 139:=Keyed.of_law (deep_law_laid laidOut (m:=4) (by decide) (of_decide_eq_true (by kernel_rfl)) Yny (by kernel_rfl))
def M4 (a:Nat) (s:Txt):Value:=.agg #[.int .i64 a,Xp s]
theorem Yim {a:Nat}(h:a≤1000000):(Lit.int .i64 a).wf=true:=by
 have h1:IntKind.i64.min=-9223372036854775808:=rfl
 have h2:IntKind.i64.max=9223372036854775807:=rfl
 simp only [Lit.wf,Bool.and_eq_true,decide_eq_true_eq];omega
theorem Ynw {a:Nat}{s:Txt}(ha:a≤1000000) (hs:s.length≤maxLen):∃ kl,keyOf Tryz.prog 139 (M4 a s)=some kl:=by
 have h1:Tryz.prog.keyType 139=true:=by kernel_rfl
 have h3:Tryz.prog.cellsOf 139=2:=by kernel_rfl
 have h4:Tryz.prog.cellsOf 3=1:=by kernel_rfl
 have h5:Tryz.prog.cellsOf 9=1:=by kernel_rfl
 have hw:=Yim ha
 have hsz:(⟨s.toArray⟩ : ByteArray).size≤maxLen:=by show s.toArray.size≤maxLen; simpa using hs
 have hf:(M4 a s).formed Tryz.prog 139=true:=by
  simp [M4,Value.formed,Tryz.underlying139,h3]
 unfold keyOf;rw [Tryz.underlying139,h1,hf];simp only [Bool.and_self,if_true]
 have hl:∃ ls,Tryz.prog.keyLits (Tryz.prog.types.size+1) 139 (M4 a s).cells.toList=some ls:=by
  have h2:0<Tryz.prog.types.size:=of_decide_eq_true (by kernel_rfl)
  obtain ⟨d,hd⟩ : ∃ d,Tryz.prog.types.size+1=d+2:=⟨Tryz.prog.types.size - 1,by omega⟩
  rw [hd];clear hd h2 h1 hf;simp [Program.keyLits,Tryz.underlying139,Tryz.underlying3,Tryz.underlying9,M4,Xp,Value.cells,h3,h4,h5,hw,hsz]
 obtain ⟨ls,hl⟩:=hl;rw [hl];exact ⟨_,rfl⟩
theorem key_inj {a a' : Nat}{s s' : Txt}{kl:Lit}(h:keyOf Tryz.prog 139 (M4 a s)=some kl) (h' : keyOf Tryz.prog 139 (M4 a' s')=some kl):(a,s)=(a',s'):=by
 have e:=M5.inj h h'
 simp only [M4,Xp,Value.agg.injEq,Array.mk.injEq,List.cons.injEq,Value.int.injEq,Value.string.injEq,ByteArray.mk.injEq,and_true,true_and] at e;obtain ⟨e1,e2⟩:=e
 have e1' : a=a':=by omega
 have e2' : s=s':=by simpa using e2
 rw [e1',e2']
theorem Ypv (w:World):(zeroValue 3).run Tryz.prog w=.ok (.int .i64 0) w:=by kernel_rfl
def W6 (w:World) (b:Nat) (E:List (Nat × Txt)):Prop :=
 ∃ (n:Nat) (D:DataW Unit),w.ownsMap Tryz.prog 139 (plainElem Tryz.prog 3) b n D∧n≤E.length ∧
  ∀ (a:Nat) (s:Txt) (kl:Lit),keyOf Tryz.prog 139 (M4 a s)=some kl→Maps.has D kl=decide ((a,s)∈E)∧D.atKey kl (.lit (.int .i64 0))=.lit (.int .i64 (fnd E (a,s):Nat))
section
variable {w w' : World}{b:Nat}{E:List (Nat × Txt)}
theorem W6.lt (h:W6 w b E):b<w.heap.size:=by obtain ⟨n,D,h1,_⟩:=h; exact h1.lt
theorem W6.made (w:World):W6 (w.alloc (.map #[] 0)) w.heap.size [] :=
 ⟨0,.map [],World.ownsMap_made _ _ _ _,Nat.le_refl _,fun a s kl h=>⟨by simp [Maps.has],by simp [fnd,DataW.atKey]⟩⟩
theorem W6.drewN (h:W6 w b E) (k:Nat):W6 (w.drewN k) b E:=h
theorem W6.kept {row:Option Nat}(h:W6 w b E) (hg:w.grownBy w' row) (hne:some b≠row):W6 w' b E:=by
 obtain ⟨n,D,h1,h2⟩:=h;exact ⟨n,D,h1.kept hg hne,h2⟩
theorem W6.same (h:W6 w b E) (hb:w'.heap[b]?=w.heap[b]?):W6 w' b E:=by
 obtain ⟨n,D,⟨es,clock,h1,h2,h3,h4⟩,h5⟩:=h;exact ⟨n,D,⟨es,clock,hb.trans h1,h2,h3,h4⟩,h5⟩
theorem W6.alloc (h:W6 w b E) (o:Obj):W6 (w.alloc o) b E:=h.kept (World.grownBy_alloc w o none) (by simp)
theorem W6.Rt (h:W6 w b E):∃ es clock,w.heap[b]?=some (.map es clock):=by
 obtain ⟨n,D,⟨es,clock,h1,_⟩,_⟩:=h;exact ⟨es,clock,h1⟩
theorem W6.step {n:Nat}{D:DataW Unit}{a:Nat}{s:Txt}{kl:Lit}(hkey:keyOf Tryz.prog 139 (M4 a s)=some kl) (hn:n≤E.length) (hnew:(a,s)∉E) (hD:IsMap D)
  (h:∀ (a:Nat) (s:Txt) (kl:Lit),keyOf Tryz.prog 139 (M4 a s)=some kl→Maps.has D kl=decide ((a,s)∈E)∧D.atKey kl (.lit (.int .i64 0))=.lit (.int .i64 (fnd E (a,s):Nat)))
  (hown:w'.ownsMap Tryz.prog 139 (plainElem Tryz.prog 3) b (n+1) (D.put kl (.lit (.int .i64 ((E.length+1:Nat):Int))))):W6 w' b (E++[(a,s)]):=by
 refine ⟨n+1,_,hown,by simp; omega,fun a' s' kl' hkey'=>?_⟩
 by_cases e:(a',s')=(a,s)
 ·have e1:kl'=kl:=by
   simp only [Prod.mk.injEq] at e;obtain ⟨rfl,rfl⟩:=e;rw [hkey] at hkey';exact (Option.some.inj hkey').symm
  subst e1;rw [e,has_put_same hD (M5.key hkey),atKey_put_same hD (M5.key hkey),Yh2 hnew];exact ⟨by simp,rfl⟩
 ·have hne:kl'≠kl:=fun e1=>e (key_inj hkey' (e1 ▸ hkey))
  obtain ⟨h1,h2⟩:=h a' s' kl' hkey';rw [has_put_other hne,atKey_put_other hne,C0 e,h1,h2];exact ⟨by simp [e],rfl⟩
end
theorem W6.look (h:W6 w b E) {a:Nat}{s:Txt}(ha:a≤1000000) (hs:s.length≤maxLen) :
  (Instr.lookup 128 (.map (some b)) (M4 a s) true).run Tryz.prog w=.ok (.tuple #[.int .i64 (fnd E (a,s):Nat),.bool (decide ((a,s)∈E))]) w:=by
 obtain ⟨n,D,h1,h2,h3⟩:=h;obtain ⟨kl,hkey⟩:=Ynw ha hs;obtain ⟨h4,h5⟩:=h3 a s kl hkey;obtain ⟨v,ps,hrun,hv⟩:=h1.look_ok M5 Tryz.underlying128 (Ypv w) (zd:=.lit (.int .i64 0)) (zp:=[]) (plainElem_int Tryz.underlying3 (by decide)) hkey
 rw [h5] at hv;obtain ⟨c,rfl,hc,_⟩:=plainElem_int_inv Tryz.underlying3 hv;simp only [Prod.mk.injEq,DataW.lit.injEq,Lit.int.injEq,true_and] at hc;rw [hrun,h4,← hc.1]
theorem W6.store (h:W6 w b E) {a:Nat}{s:Txt}(ha:a≤1000000) (hs:s.length≤maxLen) (hE:E.length≤1000) (hnew:(a,s)∉E) :
  ∃ w',(Instr.mapUpdate 128 (.map (some b)) (M4 a s) (.int .i64 ((E.length+1:Nat):Int))).run Tryz.prog w=.ok () w'∧W6 w' b (E++[(a,s)])∧w.grownBy w' (some b):=by
 obtain ⟨n,D,h1,h2,h3⟩:=h;obtain ⟨kl,hkey⟩:=Ynw ha hs;obtain ⟨w',hrun,hown,hg⟩:=h1.update M5 Tryz.underlying128 (by unfold maxLen; omega) hkey (plainElem_int (H:=Unit) Tryz.underlying3 (Yim (a:=E.length+1) (by omega)))
 exact ⟨w',hrun,W6.step hkey h2 hnew h1.isMap h3 hown,hg⟩
end
section
/-! ### What may have changed -/
structure Chg (S:Nat→Prop) (w w' : World):Prop where
 os:w'.os=w.os
 tape:w'.tape=w.tape
 output:w'.output=w.output
 size:w.heap.size≤w'.heap.size
 block:∀ k,k<w.heap.size→¬ S k→w'.heap[k]?=w.heap[k]?
section
variable {S S' : Nat→Prop}{a b c w w' : World}
theorem Chg.refl (S:Nat→Prop) (w:World):Chg S w w:=⟨rfl,rfl,rfl,Nat.le_refl _,fun _ _ _=>rfl⟩
theorem Chg.Yz {B:Nat}(h:Below B w w') (hB:w.heap.size≤B):Chg S w w':=⟨h.os,h.tape,h.output,h.size,fun k hk _=>h.block k (by omega)⟩
theorem Chg.Wl {row:Option Nat}(h:w.grownBy w' row) (hS:∀ k,row=some k→k<w.heap.size→S k):Chg S w w' :=
 ⟨h.os,h.tape,h.output,h.size,fun k hk hn=>h.block k hk fun e=>hn (hS k e.symm hk)⟩
theorem Chg.trans (h:Chg S a b) (h' : Chg S' b c) (hS:∀ k,k<a.heap.size→S' k→S k):Chg S a c :=
 ⟨h'.os.trans h.os,h'.tape.trans h.tape,h'.output.trans h.output,Nat.le_trans h.size h'.size,fun k hk hn=>(h'.block k (Nat.lt_of_lt_of_le hk h.size) fun hs=>hn (hS k hk hs)).trans (h.block k hk hn)⟩
theorem Chg.mono (h:Chg S w w') (hS:∀ k,k<w.heap.size→S k→S' k):Chg S' w w':=⟨h.os,h.tape,h.output,h.size,fun k hk hn=>h.block k hk fun hs=>hn (hS k hk hs)⟩
theorem Chg.below (h:Chg S w w') {B:Nat}(hB:B≤w.heap.size) (hS:∀ k,S k→B≤k):Below B w w':=⟨h.os,h.tape,h.output,h.size,fun k hk=>h.block k (by omega) fun hs=>by have:=hS k hs; omega⟩
theorem Chg.drewN (h:Chg S a b) (k:Nat):Chg S a (b.drewN k):=⟨h.os,h.tape,h.output,h.size,h.block⟩
theorem Chg.alloc (h:Chg S a b) (o:Obj):Chg S a (b.alloc o):=h.trans (Chg.Yz (S:=S) ((Below.refl _ b).alloc (Nat.le_refl _) o) (Nat.le_refl _)) fun _ _ hs=>hs
theorem Chg.Yo (h:Chg S a b) (g i:Nat) (u:Value) (hS:g<a.heap.size→S g):Chg S a (b.setCell ⟨g,i,none⟩ u) :=
 ⟨h.os,h.tape,h.output,by simpa [World.setCell] using h.size,fun k hk hn=>by
  have hne:g≠k:=fun e=>hn (e ▸ hS (e ▸ hk))
  rw [← h.block k hk hn];simp [World.setCell,Array.getElem?_modify,hne]⟩
theorem Chg.row {base:Nat}{e:TypeId}{size n:Nat}{v:Value}{xs:List Value}(h:Chg S w w') (hr:w.ownsRow base e size v n xs) (hn:∀ k,v.ownBlock=some k→¬ S k):w'.ownsRow base e size v n xs:=by
 refine ⟨hr.1,hr.2.imp id ?_⟩;rintro ⟨g,cap,cur,rfl,hb,hg,r⟩;exact ⟨g,cap,cur,rfl,hb,(h.block g (Array.getElem?_eq_some_iff.1 hg).1 (hn g rfl)).trans hg,r⟩
end
/-! ### The row of paths -/
def pcs (e:Nat × Txt):List Value:=[.int .i64 (e.1:Int),Xp e.2]
theorem Yrk (E:List (Nat × Txt)):(E.flatMap pcs).length=E.length*2:=by
 induction E with
 | nil=>rfl
 | cons e r ih=>simp [List.flatMap_cons,ih,pcs]; omega
theorem Yrj {i:Nat}{a:Nat}{s:Txt} (h:E[i]?=some (a,s)):(E.flatMap pcs)[i*2]?=some (.int .i64 a)∧(E.flatMap pcs)[i*2+1]?=some (Xp s):=by
 induction E generalizing i with
 | nil=>simp at h
 | cons e r ih =>
  cases i with
  | zero =>
   simp at h;subst h;simp [List.flatMap_cons,pcs]
  | succ i =>
   have:=ih (i:=i) (by simpa using h)
   rw [show (i+1)*2=i*2+1+1 by omega]
   simpa [List.flatMap_cons,pcs] using this
theorem Yrl (E:List (Nat × Txt)):∀ u∈E.flatMap pcs,u.oneCell'=true:=by
 intro u hu;obtain ⟨e,_,he⟩:=List.mem_flatMap.1 hu;simp [pcs] at he
 rcases he with rfl | rfl <;> rfl
def W8 (w:World) (base:Nat) (v:Value) (E:List (Nat × Txt)):Prop:=w.ownsRow base 139 2 v E.length (E.flatMap pcs)
structure Ylw (w:World) (A:Option Addr) (n c:Nat) (E:List (Nat × Txt)):Prop where
 len:E.length=n
 cap:n≤c
 fit:c≤maxLen
 void:A=none→c=0
 has:∀ (i a:Nat) (s:Txt),E[i]?=some (a,s)→∃ b o,A=some ⟨b,o,none⟩∧b<w.heap.size∧w.cell? ⟨b,o+i*2,none⟩=some (.int .i64 a)∧w.cell? ⟨b,o+i*2+1,none⟩=some (Xp s)
section
variable {w w' : World}{base:Nat}{v:Value}{E:List (Nat × Txt)}
theorem W8.Zj (w:World) (base:Nat):W8 w base (.slice none 0 0) []:=World.ownsRow_nil w base _ 2
theorem W8.form (h:W8 w base v E):∃ A c,v=.slice A E.length c∧Ylw w A E.length c E:=by
 rcases h.2 with ⟨rfl,h0⟩ | ⟨g,cap,cur,rfl,hb,hg,hnc,hcm,hcs,ht⟩
 ·have hl:E=[]:=List.eq_nil_of_length_eq_zero h0
  subst hl;exact ⟨none,0,rfl,rfl,Nat.le_refl _,Nat.zero_le _,fun _=>rfl,fun i a s h=>by simp at h⟩
 ·refine ⟨_,cap,rfl,rfl,hnc,hcm,(fun h=>by cases h),fun i a s hi=>?_⟩
  have hc:=World.ownsRow.cells h (g:=g) rfl
  obtain ⟨h1,h2⟩:=Yrj hi
  have e1:=hc _ _ h1
  have e2:=hc _ _ h2
  rw [Yt] at e1 e2;rw [← Nat.add_assoc] at e2;exact ⟨g,0,rfl,(Array.getElem?_eq_some_iff.1 hg).1,e1,e2⟩
theorem W8.low {base' : Nat}(h:W8 w base v E) (hb:base'≤base):W8 w base' v E:=Uv h hb
theorem W8.drewN (h:W8 w base v E) (k:Nat):W8 (w.drewN k) base v E:=h
theorem W8.below (h:W8 w base v E) (hb:Below w.heap.size w w'):W8 w' base v E:=Z8 h hb
theorem Ylw.below {A:Option Addr}{n c:Nat}(h:Ylw w A n c E) (hb:Below w.heap.size w w'):Ylw w' A n c E :=
 ⟨h.len,h.cap,h.fit,h.void,fun i a s hi=>by
  obtain ⟨b,o,h1,h2,h3,h4⟩:=h.has i a s hi;exact ⟨b,o,h1,Nat.lt_of_lt_of_le h2 hb.size,(hb.cell (p:=⟨b,o+i*2,none⟩) h2).trans h3,(hb.cell (p:=⟨b,o+i*2+1,none⟩) h2).trans h4⟩⟩
end
/-! ### A dictionary -/
structure Dc (w:World) (base g:Nat) (pv:Value) (bm n:Nat) (Q:List Pth):Prop where
 block:Block w g 131 #[.int .i64 n,pv,.map (some bm)]
 row:W8 w base pv (Un Q)
 map:W6 w bm (Un Q)
 gb:base≤g
 mb:base≤bm
 good:Good n Q
def U0 (g:Nat) (pv:Value) (bm:Nat) (k:Nat):Prop:=k=g∨pv.ownBlock=some k∨k=bm
section
variable {w w' : World}{base g:Nat}{pv:Value}{bm n:Nat}{Q:List Pth}
theorem Dc.drewN (h:Dc w base g pv bm n Q) (k:Nat):Dc (w.drewN k) base g pv bm n Q:=⟨h.block.drewN k,h.row.drewN k,h.map.drewN k,h.gb,h.mb,h.good⟩
theorem Dc.chg {S:Nat→Prop}(h:Dc w base g pv bm n Q) (hc:Chg S w w') (hS:∀ k,U0 g pv bm k→¬ S k):Dc w' base g pv bm n Q :=
 ⟨(hc.block g h.block.lt (hS g (.inl rfl))).trans h.block,hc.row h.row fun k hk=>hS k (.inr (.inl hk)),h.map.same (hc.block bm h.map.lt (hS bm (.inr (.inr rfl)))),h.gb,h.mb,h.good⟩
theorem Dc.below (h:Dc w base g pv bm n Q) (hb:Below w.heap.size w w'):Dc w' base g pv bm n Q:=h.chg (S:=fun _=>False) (Chg.Yz hb (Nat.le_refl _)) (fun _ _ h=>h)
theorem Dc.low {base' : Nat}(h:Dc w base g pv bm n Q) (hb:base'≤base):Dc w base' g pv bm n Q:=⟨h.block,h.row.low hb,h.map,Nat.le_trans hb h.gb,Nat.le_trans hb h.mb,h.good⟩
theorem Dc.Ki (h:Dc w base g pv bm n Q) {k:Nat}(hk:U0 g pv bm k):base≤k∧k<w.heap.size:=by
 rcases hk with rfl | hk | rfl
 ·exact ⟨h.gb,h.block.lt⟩
 ·exact World.ownsRow.lt h.row k hk
 ·exact ⟨h.mb,h.map.lt⟩
theorem Dc.Yt5 (h:Dc w base g pv bm n Q):g≠bm:=by
 rintro rfl;obtain ⟨es,clock,he⟩:=h.map.Rt
 have hb:w.heap[g]?=some (.cells _ _ _):=h.block
 rw [hb] at he
 cases he
theorem Dc.Ysy (h:Dc w base g pv bm n Q):pv.ownBlock≠some bm:=by
 intro hk;obtain ⟨es,clock,he⟩:=h.map.Rt
 rcases h.row.2 with ⟨e,_⟩ | ⟨g',cap,cur,e,_,hg,_⟩
 ·rw [e] at hk; cases hk
 ·rw [e] at hk
  simp only [Value.ownBlock,Option.some.injEq] at hk;subst hk;rw [hg] at he
  cases he
theorem Dc.Ytx (h:Dc w base g pv bm n Q):pv.ownBlock≠some g:=by
 intro hk
 rcases h.row.2 with ⟨e,_⟩ | ⟨g',cap,cur,e,_,hg,_⟩
 ·rw [e] at hk; cases hk
 ·rw [e] at hk
  simp only [Value.ownBlock,Option.some.injEq] at hk;subst hk
  have hb:w.heap[g']?=some (.cells _ _ _):=h.block
  rw [hg] at hb;simp only [Option.some.injEq,Obj.cells.injEq] at hb;exact absurd hb.2.1 (by decide)
theorem Dc.c0 (h:Dc w base g pv bm n Q):w.cell? ⟨g,0,none⟩=some (.int .i64 n):=h.block.cell 0
theorem Dc.c1 (h:Dc w base g pv bm n Q):w.cell? ⟨g,1,none⟩=some pv:=h.block.cell 1
theorem Dc.c2 (h:Dc w base g pv bm n Q):w.cell? ⟨g,2,none⟩=some (.map (some bm)):=h.block.cell 2
theorem Dc.form (h:Dc w base g pv bm n Q):∃ A c,pv=.slice A Q.length c∧Ylw w A Q.length c (Un Q):=by
 have:=h.row.form
 rwa [My] at this
end
theorem Hy (h:Dc w base g pv bm n Q) :
  Calls Tryz.prog 103 #[.pointer (some ⟨g,0,none⟩)] w fun e w'=>e=.returned (.int .i64 (Q.length:Nat))∧w=w':=by
 have h1:=h.c1
 obtain ⟨A,c,rfl,hE⟩:=h.form
 have hs:=h.good.size
 go_enter Tryz.func103,Tryz.ntmps103;go_wp2;go_ret;exact ⟨rfl,rfl⟩
theorem Hu (h:Dc w base g pv bm n Q) (c:Int) {b:Bool}(hh:Hid (decide (0≤c∧c≤(Q.length:Int))=b)) :
  Calls Tryz.prog 149 #[.pointer (some ⟨g,0,none⟩),.int .i64 c] w fun e w'=>e=.returned (.bool b)∧w=w':=by
 by_cases h0:0≤c
 ·go_enter Tryz.func149,Tryz.ntmps149
  go_wp2_with fail;refine (Hy h).mono ?_;rintro e w' ⟨rfl,rfl⟩;go_wp2_with fail;go_ret;exact ⟨Yd (by rw [← hh.out]; simp [h0]),rfl⟩
 ·go_enter Tryz.func149,Tryz.ntmps149
  go_wp2_with fail;go_ret;exact ⟨Yd (by rw [← hh.out]; simp; omega),rfl⟩
end
section
structure Xf (w:World) (B:Nat) (A:Option Addr) (n c:Nat) (D:List Yg):Prop where
 len:D.length=n
 cap:n≤c
 fit:c≤maxLen
 void:A=none→c=0
 has:∀ i,i<n→∃ b o A' n' c',A=some ⟨b,o,none⟩∧b<B∧w.cell? ⟨b,o+i*2,none⟩=some (Xp (D.getD i Xv).1)∧w.cell? ⟨b,o+i*2+1,none⟩=some (.slice A' n' c')∧Zn w B A' n' c' (D.getD i Xv).2
section
variable {w w' : World}{B B' n c:Nat}{A:Option Addr}{D:List Yg}
theorem Xf.Vj (h:Xf w B A n c D) (hk:∀ b o,b<B→w'.cell? ⟨b,o,none⟩=w.cell? ⟨b,o,none⟩):Xf w' B A n c D :=
 ⟨h.len,h.cap,h.fit,h.void,fun i hi=>by
  obtain ⟨b,o,A',n',c',h1,h2,h3,h4,h5⟩:=h.has i hi;exact ⟨b,o,A',n',c',h1,h2,(hk b _ h2).trans h3,(hk b _ h2).trans h4,h5.Vj hk⟩⟩
theorem Xf.more (h:Xf w B A n c D) (hB:B≤B'):Xf w B' A n c D :=
 ⟨h.len,h.cap,h.fit,h.void,fun i hi=>by
  obtain ⟨b,o,A',n',c',h1,h2,h3,h4,h5⟩:=h.has i hi;exact ⟨b,o,A',n',c',h1,Nat.lt_of_lt_of_le h2 hB,h3,h4,h5.more hB⟩⟩
theorem Xf.below {C:Nat}(h:Xf w B A n c D) (hb:Below C w w') (hC:B≤C):Xf w' B A n c D :=
 h.Vj fun b o hp=>hb.cell (p:=⟨b,o,none⟩) (Nat.lt_of_lt_of_le hp hC)
theorem Xf.Yc (h:Xf w w.heap.size A n c D) (hb:Below w.heap.size w w'):Xf w' w'.heap.size A n c D:=(h.below hb (Nat.le_refl _)).more hb.size
theorem Xf.drewN (h:Xf w B A n c D) (k:Nat):Xf (w.drewN k) B A n c D:=h.Vj fun _ _ _=>rfl
theorem Xf.Yn (h:Xf w B A n c D):n≤9223372036854775807:=by
 have h1:=h.cap; have h2:=h.fit
 unfold maxLen at h2; omega
theorem Xf.Z1 (h:Xf w B A n c D):c≤9223372036854775807:=by
 have h2:=h.fit
 unfold maxLen at h2; omega
theorem Xf.at_ (h:Xf w B A n c D) {k:Nat}(hk:k<n):∃ b o x A' n' c' L,A=some ⟨b,o,none⟩∧b<B ∧
  w.cell? ⟨b,o+k*2,none⟩=some (.string ⟨x.toArray⟩)∧w.cell? ⟨b,o+k*2+1,none⟩=some (.slice A' n' c')∧Zn w B A' n' c' L∧Hid (D.getD k Xv=(x,L)):=by
 obtain ⟨b,o,A',n',c',h1,h2,h3,h4,h5⟩:=h.has k hk;exact ⟨b,o,_,A',n',c',_,h1,h2,h3,h4,h5,hid rfl⟩
end
/-! ### A schema by value -/
abbrev V6 (A1:Option Addr) (n1 c1:Nat) (A2:Option Addr) (n2 c2:Nat) (A3:Option Addr) (n3 c3:Nat):Value :=
 .agg #[.slice A1 n1 c1,.slice A2 n2 c2,.slice A3 n3 c3]
structure Tx (w:World) (B:Nat) (A1:Option Addr) (n1 c1:Nat) (A2:Option Addr) (n2 c2:Nat) (A3:Option Addr) (n3 c3:Nat) (D:List Yg) (M:List Txt) (V:List (List Int)):Prop where
 d:Xf w B A1 n1 c1 D
 m:Zn w B A2 n2 c2 M
 v:Ux w B A3 n3 c3 V
section
variable {w w' : World}{B B' n1 c1 n2 c2 n3 c3:Nat}{A1 A2 A3:Option Addr}{D:List Yg}{M:List Txt}{V:List (List Int)}
theorem Tx.more (h:Tx w B A1 n1 c1 A2 n2 c2 A3 n3 c3 D M V) (hB:B≤B'):Tx w B' A1 n1 c1 A2 n2 c2 A3 n3 c3 D M V:=⟨h.d.more hB,h.m.more hB,h.v.more hB⟩
theorem Tx.below {C:Nat}(h:Tx w B A1 n1 c1 A2 n2 c2 A3 n3 c3 D M V) (hb:Below C w w') (hC:B≤C):Tx w' B A1 n1 c1 A2 n2 c2 A3 n3 c3 D M V:=⟨h.d.below hb hC,h.m.below hb hC,h.v.below hb hC⟩
theorem Tx.Yc (h:Tx w w.heap.size A1 n1 c1 A2 n2 c2 A3 n3 c3 D M V) (hb:Below w.heap.size w w'):Tx w' w'.heap.size A1 n1 c1 A2 n2 c2 A3 n3 c3 D M V:=(h.below hb (Nat.le_refl _)).more hb.size
end
/-! ### What came in -/
theorem Cj:Tryz.prog.cellsOf 54=2:=by kernel_rfl
theorem Ul:Tryz.prog.cellsOf 9=1:=by kernel_rfl
theorem Th:Tryz.prog.cellsOf 23=1:=by kernel_rfl
theorem S1:Tryz.prog.cellsOf 3=1:=by kernel_rfl
theorem Nn:Tryz.prog.cellsOf 27=1:=by kernel_rfl
theorem Yfk:Tryz.prog.cellsOf 22=1:=by kernel_rfl
theorem Ycl:Tryz.prog.cellsOf 24=1:=by kernel_rfl
theorem Yap:Tryz.prog.cellsOf 26=3:=by kernel_rfl
def Sq (D:List Yg):Prop:=∀ d∈D,d.1.length≤maxLen∧∀ s∈d.2,s.length≤maxLen
/-! ### Rows of dimensions of the call's own,whose levels lie below C -/
section
variable {w w' : World}{base C:Nat}{v:Value}{D:List Yg}
end
end
def Ub (r:Int):Bool:=decide (97≤r∧r≤122∨48≤r∧r≤57∨r=45∨r=95)
theorem K8 (r:Int) (w:World):Calls Tryz.prog 129 #[.int .i32 r] w fun e w'=>e=.returned (.bool (Ub r))∧w=w':=by
 by_cases h1:97≤r∧r≤122
 ·obtain ⟨h2,h3⟩:=h1
  have H:Hid (Ub r=true):=hid (by unfold Ub; simp; omega)
  go_enter Tryz.func129,Tryz.ntmps129;go_wp2;go_ret;exact ⟨Yd H.out.symm,rfl⟩
 ·by_cases h4:48≤r∧r≤57
  ·obtain ⟨h2,h3⟩:=h4
   have h5:¬ 97≤r:=by omega
   have H:Hid (Ub r=true):=hid (by unfold Ub; simp; omega)
   clear h1;go_enter Tryz.func129,Tryz.ntmps129;go_wp2;go_ret;exact ⟨Yd H.out.symm,rfl⟩
  ·by_cases h5:r=45
   ·subst h5
    clear h1 h4;go_enter Tryz.func129,Tryz.ntmps129;go_wp2;go_ret;exact ⟨rfl,rfl⟩
   ·by_cases h6:r=95
    ·subst h6
     clear h1 h4 h5;go_enter Tryz.func129,Tryz.ntmps129;go_wp2;go_ret;exact ⟨rfl,rfl⟩
    ·have H:Hid (Ub r=false):=hid (by unfold Ub; simp; omega)
     have h7:(r == 45)=false:=by simp; omega
     have h8:(r == 95)=false:=by simp; omega
     clear h5 h6
     by_cases g1:97≤r
     ·have g2:¬ r≤122:=by omega
      have g3:48≤r:=by omega
      have g4:¬ r≤57:=by omega
      clear h1 h4;go_enter Tryz.func129,Tryz.ntmps129;go_wp2;go_ret;exact ⟨Yd H.out.symm,rfl⟩
     ·by_cases g3:48≤r
      ·have g4:¬ r≤57:=by omega
       clear h1 h4;go_enter Tryz.func129,Tryz.ntmps129;go_wp2;go_ret;exact ⟨Yd H.out.symm,rfl⟩
      ·clear h1 h4
       go_enter Tryz.func129,Tryz.ntmps129;go_wp2;go_ret;exact ⟨Yd H.out.symm,rfl⟩
theorem Q2 (b:UInt8):Ub (b.toNat:Int)=isLet b:=by
 unfold Ub isLet;rw [Bool.eq_iff_iff];simp only [decide_eq_true_eq,Bool.or_eq_true,Bool.and_eq_true,beq_iff_eq,UInt8.le_iff_toNat_le,← UInt8.toNat_inj]
 have:(97:UInt8).toNat=97:=rfl
 have:(122:UInt8).toNat=122:=rfl
 have:(48:UInt8).toNat=48:=rfl
 have:(57:UInt8).toNat=57:=rfl
 have:(45:UInt8).toNat=45:=rfl
 have:(95:UInt8).toNat=95:=rfl
 omega
theorem Ykf {b:UInt8} (h:isLet b=true):b.toNat<128:=by
 rw [← Q2] at h;unfold Ub at h;simp at h;omega
theorem Yet {r:Nat} (h:128≤r):Ub (r:Int)=false:=by
 unfold Ub;simp;omega
theorem M0 (s:ByteArray) {p:Nat}(h:p<s.size):s.data.toList[p]'(by simpa using h)=s[p]'h:=by simp [ByteArray.getElem_eq_getElem_data]
theorem Ep (h:p<s.size) (ht:∀ b∈s.data.toList.take p,isLet b=true) (hb:isLet (s[p]'h)=true):∀ b∈s.data.toList.take (p+1),isLet b=true:=by
 rw [List.take_succ_eq_append_getElem (by simpa using h),M0 s h]
 intro b hm
 rcases List.mem_append.1 hm with hm | hm
 ·exact ht b hm
 ·rw [List.mem_singleton.1 hm]; exact hb
theorem Ky (h:p<s.size) (hb:isLet (s[p]'h)=false):decide (Zx s.data.toList)=false:=by
 rw [decide_eq_false_iff_not];intro hn
 have:=hn.2.2 (s[p]'h) (by rw [← M0 s h]; exact List.getElem_mem _)
 rw [hb] at this
 cases this
theorem Bs (h:¬ p<s.size) (h1:1≤s.size) (h2:s.size≤12) (ht:∀ b∈s.data.toList.take p,isLet b=true):decide (Zx s.data.toList)=true:=by
 rw [decide_eq_true_eq]
 have hl:s.data.toList.length=s.size:=by simp
 refine ⟨by omega,by omega,?_⟩
 rwa [List.take_of_length_le (by omega)] at ht
theorem Ng (w:World) (s:ByteArray) (pos:Nat):Below w.heap.size w (w.iter s pos):=(Below.refl _ _).alloc (Nat.le_refl _) _
theorem Ykv (s:ByteArray) (w:World):Calls Tryz.prog 91 #[.string s] w fun e w'=>e=.returned (.bool (decide (Zx s.data.toList)))∧Below w.heap.size w w':=by
 have hl:s.data.toList.length=s.size:=by simp
 by_cases h0:s.size=0
 ·have H:Hid (decide (Zx s.data.toList)=false):=hid (by rw [decide_eq_false_iff_not]; intro h; have:=h.1; omega)
  have hs:s.toList.isEmpty=true:=by rw [ByteArray.toList_eq,List.isEmpty_iff]; exact List.eq_nil_of_length_eq_zero (by omega)
  have hs2:s.toList=[]:=List.isEmpty_iff.1 hs
  clear h0 hl;go_enter Tryz.func91,Tryz.ntmps91;go_wp2;go_ret;exact ⟨Yd H.out.symm,Below.refl _ _⟩
 ·have hs:s.toList.isEmpty=false:=by rw [ByteArray.toList_eq,List.isEmpty_eq_false_iff]; intro e; rw [e] at hl; simp at hl; omega
  have hs2:(s.toList == [])=false:=by rw [beq_eq_false_iff_ne]; intro e; rw [e] at hs; cases hs
  by_cases h12:12<s.size
  ·have H:Hid (decide (Zx s.data.toList)=false):=hid (by rw [decide_eq_false_iff_not]; intro h; have:=h.2.1; omega)
   clear h0 hl;go_enter Tryz.func91,Tryz.ntmps91;go_wp2;go_ret;exact ⟨Yd H.out.symm,Below.refl _ _⟩
  ·clear hl
   go_enter Tryz.func91,Tryz.ntmps91;go_wp2;go_loopw [4] (fun _ wr=>∃ pos:Nat,wr=w.iter s pos∧Hid (∀ b∈s.data.toList.take pos,isLet b=true)) (fun _ wr=>s.size - wr.iterPos w.heap.size)
   case atStart=>exact ⟨0,rfl,hid (by simp)⟩
   case round =>
    obtain ⟨pos,rfl,ht⟩:=hrel
    have HB:Below w.heap.size w (w.iter s pos):=Ng w s pos
    by_cases hp:pos<s.size
    ·by_cases ha:(s[pos]'hp).toNat<128
     ·have hnx:∀ ty,(Instr.next (.pointer (some ⟨w.heap.size,0,none⟩)) true ty).run Tryz.prog (w.iter s pos)=_:=fun ty=>run_next_ascii w s pos ty hp ha
      cases hb:isLet (s[pos]'hp) with
      | true =>
       have H:=hid (Ep hp ht.out hb)
       have hst:Ub ((s[pos]'hp).toNat:Int)=true:=(Q2 _).trans hb
       clear hb;go_wp2_with (go_at_call 129; refine (K8 _ _).mono ?_; rintro e w' ⟨rfl,rfl⟩);go_roundw
       case rel=>exact ⟨pos+1,rfl,H⟩
       case measure=>simp; omega
      | false =>
       have H:=hid (Ky hp hb)
       have hst:Ub ((s[pos]'hp).toNat:Int)=false:=(Q2 _).trans hb
       clear hb;go_wp2_with (go_at_call 129; refine (K8 _ _).mono ?_; rintro e w' ⟨rfl,rfl⟩);go_ret;exact ⟨Yd H.out.symm,Ng w s (pos+1)⟩
     ·have hnx:∀ ty,(Instr.next (.pointer (some ⟨w.heap.size,0,none⟩)) true ty).run Tryz.prog (w.iter s pos)=_:=fun ty=>run_next_any w s pos ty hp
      have hb:isLet (s[pos]'hp)=false:=by
       cases hb:isLet (s[pos]'hp) with
       | true=>exact absurd (Ykf hb) ha
       | false=>rfl
      have H:=hid (Ky hp hb)
      have hd:=(decode_high s pos hp (by omega)).1
      have hst:Ub ((Utf8.decode s pos).1:Int)=false:=Yet hd
      clear hb;go_wp2_with (go_at_call 129; refine (K8 _ _).mono ?_; rintro e w' ⟨rfl,rfl⟩);go_ret;exact ⟨Yd H.out.symm,Ng w s _⟩
    ·have hnx:∀ ty,(Instr.next (.pointer (some ⟨w.heap.size,0,none⟩)) true ty).run Tryz.prog (w.iter s pos)=_:=fun ty=>run_next_end w s pos ty hp
     have H:=hid (Bs hp (by omega) (by omega) ht.out)
     go_wp2;go_ret;exact ⟨Yd H.out.symm,HB⟩
theorem Yd7 (x:Txt) (w:World):Calls Tryz.prog 91 #[.string ⟨x.toArray⟩] w fun e w'=>e=.returned (.bool (decide (Zx x)))∧Below w.heap.size w w':=by
 have:=Ykv ⟨x.toArray⟩ w
 simpa using this
theorem Yd8 (h:Zx x) (w:World):Calls Tryz.prog 91 #[.string ⟨x.toArray⟩] w fun e w'=>e=.returned (.bool true)∧Below w.heap.size w w':=by
 have:=Yd7 x w
 rwa [decide_eq_true h] at this
theorem Yie (h:¬ Zx x) (w:World):Calls Tryz.prog 91 #[.string ⟨x.toArray⟩] w fun e w'=>e=.returned (.bool false)∧Below w.heap.size w w':=by
 have:=Yd7 x w
 rwa [decide_eq_false h] at this
theorem Ov (hk:k<L.length) (hx:x=L.getD k []) (h:Zx x) (ht:∀ s∈L.take k,Zx s):∀ s∈L.take (k+1),Zx s:=by
 rw [List.take_succ_eq_append_getElem hk];intro s hs
 rcases List.mem_append.1 hs with hs | hs
 ·exact ht s hs
 ·rw [List.mem_singleton.1 hs]
  simpa [hx,List.getD_eq_getElem?_getD,List.getElem?_eq_getElem hk] using h
theorem Yd5 (hk:k<L.length) (hx:x=L.getD k []) (h:¬ Zx x):decide (Wu L)=false:=by
 rw [decide_eq_false_iff_not];intro hm;refine h (hm.2 x ?_);rw [hx,List.getD_eq_getElem?_getD,List.getElem?_eq_getElem hk];exact List.getElem_mem hk
theorem Yd4 (hk:L.length≤k) (h3:L.length≤3) (ht:∀ s∈L.take k,Zx s):decide (Wu L)=true:=by
 rw [decide_eq_true_eq];rw [List.take_of_length_le hk] at ht;exact ⟨h3,ht⟩
theorem Bo (h3:3<L.length):decide (Wu L)=false:=by
 rw [decide_eq_false_iff_not];intro h
 have:=h.1
 omega
theorem Ow (h:Zn w w.heap.size A n c L) :
  Calls Tryz.prog 99 #[.slice A n c] w fun e w'=>e=.returned (.bool (decide (Wu L)))∧Below w.heap.size w w':=by
 have hl:=h.len
 have hn:=h.Yn
 by_cases h3:3<n
 ·have H:=hid (Bo (L:=L) (by omega))
  have h3' : (3:Int)<(n:Int):=by omega
  clear hl;go_enter Tryz.func99,Tryz.ntmps99;go_wp2;go_ret;exact ⟨Yd H.out.symm,Below.refl _ _⟩
 ·have h3' : ¬ (3:Int)<(n:Int):=by omega
  have HL:=hid hl
  clear hl;go_enter Tryz.func99,Tryz.ntmps99;go_wp2;go_loopw [10] (fun i wr=>∃ k:Nat,k≤n∧i=.int .i64 k∧Below w.heap.size w wr∧Hid (∀ s∈L.take k,Zx s)) (fun i _=>n - (intOf i).toNat)
  case atStart=>exact ⟨0,Nat.zero_le _,rfl,Below.refl _ _,hid (by simp)⟩
  case round =>
   obtain ⟨k,hk,rfl,hB,ht⟩:=hrel
   by_cases hlt:k<n
   ·obtain ⟨b,o,x,rfl,hb,hc,ex⟩:=(h.below hB (Nat.le_refl _)).at_ hlt
    by_cases hx:Zx x
    ·have H:=hid (Ov (by have:=HL.out; omega) ex.out hx ht.out)
     have HX:=hid hx
     clear hx;go_wp2_with fail;refine (Yd8 HX.out _).mono ?_;rintro e v ⟨rfl,hb1⟩
     have hB2:=hB.trans (hb1.mono hB.size)
     go_wp2_with fail;go_roundw
     case rel=>exact ⟨k+1,by omega,by go_num,hB2,H⟩
     case measure=>simp [intOf]; omega
    ·have H:=hid (Yd5 (by have:=HL.out; omega) ex.out hx)
     have HX:=hid hx
     clear hx;go_wp2_with fail;refine (Yie HX.out _).mono ?_;rintro e v ⟨rfl,hb1⟩
     have hB2:=hB.trans (hb1.mono hB.size)
     go_wp2_with fail;go_ret;exact ⟨Yd H.out.symm,hB2⟩
   ·have H:=hid (Yd4 (by have:=HL.out; omega) (by have:=HL.out; omega) ht.out)
    go_wp2;go_ret;exact ⟨Yd H.out.symm,hB⟩
/-! ### The reference's -/
theorem Ydh (b:UInt8):isLet b=decide (97≤(b.toNat:Int)∧(b.toNat:Int)≤122∨48≤(b.toNat:Int)∧(b.toNat:Int)≤57∨(b.toNat:Int)=45∨(b.toNat:Int)=95):=(Q2 b).symm
theorem Ybi (s:ByteArray) (w:World):Calls Tryz.prog 61 #[.string s] w fun e w'=>e=.returned (.bool (decide (Zx s.data.toList)))∧w=w':=by
 have hl:s.data.toList.length=s.size:=by simp
 by_cases h0:s.size=0
 ·have H:Hid (decide (Zx s.data.toList)=false):=hid (by rw [decide_eq_false_iff_not]; intro h; have:=h.1; omega)
  have h1:(s.size:Int)<1:=by omega
  clear h0 hl;go_enter Tryz.func61,Tryz.ntmps61;go_wp2;go_ret;exact ⟨Yd H.out.symm,rfl⟩
 ·have h1:¬ (s.size:Int)<1:=by omega
  by_cases h12:12<s.size
  ·have H:Hid (decide (Zx s.data.toList)=false):=hid (by rw [decide_eq_false_iff_not]; intro h; have:=h.2.1; omega)
   have h2:(12:Int)<(s.size:Int):=by omega
   clear h0 hl;go_enter Tryz.func61,Tryz.ntmps61;go_wp2;go_ret;exact ⟨Yd H.out.symm,rfl⟩
  ·have h2:¬ (12:Int)<(s.size:Int):=by omega
   clear hl;go_enter Tryz.func61,Tryz.ntmps61;go_wp2;go_loop [3] (fun i=>∃ k:Nat,k≤s.size∧i=.int .i64 k∧Hid (∀ b∈s.data.toList.take k,isLet b=true)) (fun i=>s.size - (intOf i).toNat)
   case atStart=>exact ⟨0,Nat.zero_le _,rfl,hid (by simp)⟩
   case round =>
    obtain ⟨k,hk,rfl,ht⟩:=hrel
    by_cases hp:k<s.size
    ·obtain ⟨x,hx⟩ : ∃ x:Nat,s[k].toNat=x:=⟨_,rfl⟩
     have hq:=hid hx
     by_cases hyes:97≤(x:Int)∧(x:Int)≤122∨48≤(x:Int)∧(x:Int)≤57∨(x:Int)=45∨(x:Int)=95
     ·have hb:isLet (s[k]'hp)=true:=by rw [Ydh,hx,decide_eq_true hyes]
      have H:=hid (Ep hp ht.out hb)
      clear hb
      rcases hyes with ⟨g1,g2⟩ | ⟨g1,g2⟩ | g1 | g1
      ·go_wp2
       go_round
       case rel=>exact ⟨k+1,by omega,by go_num,H⟩
       case measure=>simp [intOf]; omega
      ·have g3:¬ 97≤(x:Int):=by omega
       go_wp2;go_round
       case rel=>exact ⟨k+1,by omega,by go_num,H⟩
       case measure=>simp [intOf]; omega
      ·obtain rfl:x=45:=by omega
       clear g1;go_wp2;go_round
       case rel=>exact ⟨k+1,by omega,by go_num,H⟩
       case measure=>simp [intOf]; omega
      ·obtain rfl:x=95:=by omega
       clear g1;go_wp2;go_round
       case rel=>exact ⟨k+1,by omega,by go_num,H⟩
       case measure=>simp [intOf]; omega
     ·have hb:isLet (s[k]'hp)=false:=by rw [Ydh,hx,decide_eq_false hyes]
      have H:=hid (Ky hp hb)
      have g7:((x:Int) != 45)=true:=by simp; omega
      have g8:((x:Int) != 95)=true:=by simp; omega
      clear hb
      by_cases g1:97≤(x:Int)
      ·have g2:¬ (x:Int)≤122:=by omega
       have g3:48≤(x:Int):=by omega
       have g4:¬ (x:Int)≤57:=by omega
       clear hyes;go_wp2;go_ret;exact ⟨Yd H.out.symm,rfl⟩
      ·by_cases g3:48≤(x:Int)
       ·have g4:¬ (x:Int)≤57:=by omega
        clear hyes;go_wp2;go_ret;exact ⟨Yd H.out.symm,rfl⟩
       ·clear hyes
        go_wp2;go_ret;exact ⟨Yd H.out.symm,rfl⟩
    ·have H:=hid (Bs hp (by omega) (by omega) ht.out)
     go_wp2;go_ret;exact ⟨Yd H.out.symm,rfl⟩
theorem J5 (x:Txt) (w:World):Calls Tryz.prog 61 #[.string ⟨x.toArray⟩] w fun e w'=>e=.returned (.bool (decide (Zx x)))∧w=w':=by
 have:=Ybi ⟨x.toArray⟩ w
 simpa using this
theorem J6 (h:Zx x) (w:World):Calls Tryz.prog 61 #[.string ⟨x.toArray⟩] w fun e w'=>e=.returned (.bool true)∧w=w':=by
 have:=J5 x w
 rwa [decide_eq_true h] at this
theorem E6 (h:¬ Zx x) (w:World):Calls Tryz.prog 61 #[.string ⟨x.toArray⟩] w fun e w'=>e=.returned (.bool false)∧w=w':=by
 have:=J5 x w
 rwa [decide_eq_false h] at this
theorem N9 {B:Nat} (h:Zn w B A n c L) :
  Calls Tryz.prog 41 #[.slice A n c] w fun e w'=>e=.returned (.bool (decide (Wu L)))∧w=w':=by
 have hl:=h.len
 have hn:=h.Yn
 by_cases h3:3<n
 ·have H:=hid (Bo (L:=L) (by omega))
  have h3' : (3:Int)<(n:Int):=by omega
  clear hl;go_enter Tryz.func41,Tryz.ntmps41;go_wp2;go_ret;exact ⟨Yd H.out.symm,rfl⟩
 ·have h3' : ¬ (3:Int)<(n:Int):=by omega
  have HL:=hid hl
  clear hl;go_enter Tryz.func41,Tryz.ntmps41;go_wp2;go_loop [3] (fun i=>∃ k:Nat,k≤n∧i=.int .i64 k∧Hid (∀ s∈L.take k,Zx s)) (fun i=>n - (intOf i).toNat)
  case atStart=>exact ⟨0,Nat.zero_le _,rfl,hid (by simp)⟩
  case round =>
   obtain ⟨k,hk,rfl,ht⟩:=hrel
   by_cases hlt:k<n
   ·obtain ⟨b,o,x,rfl,hb,hc,ex⟩:=h.at_ hlt
    by_cases hx:Zx x
    ·have H:=hid (Ov (by have:=HL.out; omega) ex.out hx ht.out)
     have HX:=hid hx
     clear hx;go_wp2_with fail;refine (J6 HX.out _).mono ?_;rintro e v ⟨rfl,rfl⟩;go_wp2_with fail;go_round
     case rel=>exact ⟨k+1,by omega,by go_num,H⟩
     case measure=>simp [intOf]; omega
    ·have H:=hid (Yd5 (by have:=HL.out; omega) ex.out hx)
     have HX:=hid hx
     clear hx;go_wp2_with fail;refine (E6 HX.out _).mono ?_;rintro e v ⟨rfl,rfl⟩;go_wp2_with fail;go_ret;exact ⟨Yd H.out.symm,rfl⟩
   ·have H:=hid (Yd4 (by have:=HL.out; omega) (by have:=HL.out; omega) ht.out)
    go_wp2;go_ret;exact ⟨Yd H.out.symm,rfl⟩
end Go.Proofs.YtkablhecedcngaaGreat
