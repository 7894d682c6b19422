/- DictK, DictO, Dims, NamesQ, NamesP -/
import Derived.Test.YtmepdkdeanbbaaaGreatJ10
import Derived.WalkLawsBesides
namespace Go.Proofs.YtmepdkdeanbbaaaGreat
set_option maxRecDepth 100000
set_option maxHeartbeats 8000000
open Go.RowKit
open Proofs.Tryz renaming prog→aa,ntmps214→af,func214→ag,underlying3→aj,underlying168→an,ntmps154→aw,ntmps136→ax,func154→az,func136→bg,underlying157→bo,ntmps183→ch,ntmps159→cj,ntmps142→cn,func183→cw,func159→cz,func142→da
open Nat renaming le_refl→ae,lt_of_lt_of_le→ai,zero_le→au,le_trans→bn
open Option.some renaming injEq→ak,inj→db
open List renaming take_succ_eq_append_getElem→ao,flatMap_cons→aq,eq_nil_of_length_eq_zero→ar,getD_eq_getElem?_getD→av,getElem?_eq_getElem→ay,take_of_length_le→bj,mem_singleton→bp,isEmpty_iff→br,getElem_mem→bs,mem_append→bz
open Go.Lib (hid)
variable {w:World}{x:Txt}{L:List Txt}{b base bm c g k n p:Nat}{E:List (Nat × Txt)}{s:ByteArray}{pv:Value}{Q:List Pth}{A:Option Addr}
section
open Go.RowKit Go.Maps
theorem laidOut:laidOutB aa=true:=by kernel_rfl
theorem Yq4:aa.keyTypeAt 4 168=true:=by kernel_rfl
theorem Jh:Keyed aa 168:=Keyed.of_law (deep_law_laid laidOut (m:=4) (by decide) (of_decide_eq_true (by kernel_rfl)) Yq4 (by kernel_rfl))
def Kq(a:Nat)(s:Txt):Value:=.agg #[.int .i64 a,Wa s]
theorem Yk4{a:Nat}(h:a<=1000000):(Lit.int .i64 a).wf=true:=by
 have h1:IntKind.i64.min=-9223372036854775808:=rfl
 have h2:IntKind.i64.max=9223372036854775807:=rfl
 simp only[Lit.wf,Bool.and_eq_true,decide_eq_true_eq];omega
theorem Yrd{a:Nat}{s:Txt}(ha:a<=1000000)(hs:s.length<=maxLen):∃kl,keyOf aa 168 (Kq a s)=some kl:=by
 have h1:aa.keyType 168=true:=by kernel_rfl
 have h3:aa.cellsOf 168=2:=by kernel_rfl
 have h4:aa.cellsOf 3=1:=by kernel_rfl
 have h5:aa.cellsOf 9=1:=by kernel_rfl
 have hw:=Yk4 ha
 have hsz:(⟨s.toArray⟩:ByteArray).size<=maxLen:=by show s.toArray.size<=maxLen;simpa using hs
 have hf:(Kq a s).formed aa 168=true:=by
  simp[Kq,Value.formed,an,h3]
 unfold keyOf;rw[an,h1,hf];simp only[Bool.and_self,if_true]
 have hl:∃ls,aa.keyLits (aa.types.size+1) 168 (Kq a s).cells.toList=some ls:=by
  have h2:0<aa.types.size:=of_decide_eq_true (by kernel_rfl)
  obtain⟨d,hd⟩: ∃d,aa.types.size+1=d+2:=⟨aa.types.size-1,by omega⟩
  rw[hd];clear hd h2 h1 hf;simp[Program.keyLits,an,aj,Tryz.underlying9,Kq,Wa,Value.cells,h3,h4,h5,hw,hsz]
 obtain⟨ls,hl⟩:=hl;rw[hl];exact⟨_,rfl⟩
theorem key_inj{a a':Nat}{s s':Txt}{kl:Lit}(h:keyOf aa 168 (Kq a s)=some kl)(h':keyOf aa 168 (Kq a' s')=some kl):(a,s)=(a',s'):=by
 have e:=Jh.inj h h'
 simp only[Kq,Wa,Value.agg.injEq,Array.mk.injEq,List.cons.injEq,Value.int.injEq,Value.string.injEq,ByteArray.mk.injEq,and_true,true_and]at e;obtain⟨e1,e2⟩:=e
 have e1':a=a':=by omega
 have e2':s=s':=by simpa using e2
 rw[e1',e2']
theorem Yrb(w:World):(zeroValue 3).run aa w=.ok (.int .i64 0) w:=by kernel_rfl
def Vn(w:World)(b:Nat)(E:List (Nat×Txt)):Prop:=
 ∃(n:Nat) (D:DataW Unit),w.ownsMap aa 168 (plainElem aa 3) b n D/\n<=E.length∧
  ∀(a:Nat) (s:Txt) (kl:Lit),keyOf aa 168 (Kq a s)=some kl->Maps.has D kl=decide ((a,s)∈E)/\D.atKey kl (.lit (.int .i64 0))=.lit (.int .i64 (fnd E (a,s):Nat))
section
variable {w w' : World}{b:Nat}{E:List (Nat × Txt)}
theorem Vn.lt(h:Vn w b E):b<w.heap.size:=by obtain⟨n,D,h1,_⟩:=h;exact h1.lt
theorem Vn.made(w:World):Vn (w.alloc (.map #[] 0)) w.heap.size []:=
 ⟨0,.map [],World.ownsMap_made _ _ _ _,ae _,λa s kl h=>⟨by simp[Maps.has],by simp[fnd,DataW.atKey]⟩⟩
theorem Vn.drewN(h:Vn w b E)(k:Nat):Vn (w.drewN k) b E:=h
theorem Vn.kept{row:Option Nat}(h:Vn w b E)(hg:w.grownBy w' row)(hne:some b≠row):Vn w' b E:=by
 obtain⟨n,D,h1,h2⟩:=h;exact⟨n,D,h1.kept hg hne,h2⟩
theorem Vn.same(h:Vn w b E)(hb:w'.heap[b]?=w.heap[b]?):Vn w' b E:=by
 obtain⟨n,D,⟨es,clock,h1,h2,h3,h4⟩,h5⟩:=h;exact⟨n,D,⟨es,clock,hb.trans h1,h2,h3,h4⟩,h5⟩
theorem Vn.alloc(h:Vn w b E)(o:Obj):Vn (w.alloc o) b E:=h.kept (World.grownBy_alloc w o none) (by simp)
theorem Vn.R1(h:Vn w b E):∃es clock,w.heap[b]?=some (.map es clock):=by
 obtain⟨n,D,⟨es,clock,h1,_⟩,_⟩:=h;exact⟨es,clock,h1⟩
theorem Vn.step{n:Nat}{D:DataW Unit}{a:Nat}{s:Txt}{kl:Lit}(hkey:keyOf aa 168 (Kq a s)=some kl)(hn:n<=E.length)(hnew:(a,s)∉E)(hD:IsMap D)
  (h:∀(a:Nat) (s:Txt) (kl:Lit),keyOf aa 168 (Kq a s)=some kl->Maps.has D kl=decide ((a,s)∈E)/\D.atKey kl (.lit (.int .i64 0))=.lit (.int .i64 (fnd E (a,s):Nat)))
  (hown:w'.ownsMap aa 168 (plainElem aa 3) b (n+1) (D.put kl (.lit (.int .i64 ((E.length+1:Nat):Int))))):Vn w' b (E++[(a,s)]):=by
 refine⟨n+1,_,hown,by simp;omega,λa' s' kl' hkey'=>?_⟩
 by_cases e:(a',s')=(a,s)
 ·have e1:kl'=kl:=by
   simp only[Prod.mk.injEq]at e;obtain⟨rfl,rfl⟩:=e;rw[hkey]at hkey';exact(db hkey').symm
  subst e1;rw[e,has_put_same hD (Jh.key hkey),atKey_put_same hD (Jh.key hkey),Yk5 hnew];exact⟨by simp,rfl⟩
 ·have hne:kl'≠kl:=λe1=>e (key_inj hkey' (e1▸hkey))
  obtain⟨h1,h2⟩:=h a' s' kl' hkey';rw[has_put_other hne,atKey_put_other hne,Yco e,h1,h2];exact⟨by simp[e],rfl⟩
end
theorem Vn.look(h:Vn w b E){a:Nat}{s:Txt}(ha:a<=1000000)(hs:s.length<=maxLen):
  (Instr.lookup 157 (.map (some b)) (Kq a s) true).run aa w=.ok (.tuple #[.int .i64 (fnd E (a,s):Nat),.bool (decide ((a,s)∈E))]) w:=by
 obtain⟨n,D,h1,h2,h3⟩:=h;obtain⟨kl,hkey⟩:=Yrd ha hs;obtain⟨h4,h5⟩:=h3 a s kl hkey;obtain⟨v,ps,hrun,hv⟩:=h1.look_ok Jh bo (Yrb w) (zd:=.lit (.int .i64 0)) (zp:=[]) (plainElem_int aj (by decide)) hkey
 rw[h5]at hv;obtain⟨c,rfl,hc,_⟩:=plainElem_int_inv aj hv;simp only[Prod.mk.injEq,DataW.lit.injEq,Lit.int.injEq,true_and]at hc;rw[hrun,h4,<-hc.1]
theorem Vn.store(h:Vn w b E){a:Nat}{s:Txt}(ha:a<=1000000)(hs:s.length<=maxLen)(hE:E.length<=1000)(hnew:(a,s)∉E):
  ∃w',(Instr.mapUpdate 157 (.map (some b)) (Kq a s) (.int .i64 ((E.length+1:Nat):Int))).run aa w=.ok () w'∧Vn w' b (E++[(a,s)])/\w.grownBy w' (some b):=by
 obtain⟨n,D,h1,h2,h3⟩:=h;obtain⟨kl,hkey⟩:=Yrd ha hs;obtain⟨w',hrun,hown,hg⟩:=h1.update Jh bo (by unfold maxLen;omega) hkey (plainElem_int (H:=Unit) aj (Yk4 (a:=E.length+1) (by omega)))
 exact⟨w',hrun,Vn.step hkey h2 hnew h1.isMap h3 hown,hg⟩
end
section
/-! ### What may have changed -/
structure Chg (S:Nat->Prop) (w w':World):Prop where
 os:w'.os=w.os
 tape:w'.tape=w.tape
 output:w'.output=w.output
 size:w.heap.size<=w'.heap.size
 block:∀k,k<w.heap.size→¬S k->w'.heap[k]?=w.heap[k]?
section
variable {S S' : Nat->Prop}{a b c w w' : World}
theorem Chg.refl(S:Nat->Prop)(w:World):Chg S w w:=⟨rfl,rfl,rfl,ae _,λ_ _ _=>rfl⟩
theorem Chg.Y1{B:Nat}(h:Below B w w')(hB:w.heap.size<=B):Chg S w w':=⟨h.os,h.tape,h.output,h.size,λk hk _=>h.block k (by omega)⟩
theorem Chg.W5{row:Option Nat}(h:w.grownBy w' row)(hS:∀k,row=some k->k<w.heap.size->S k):Chg S w w':=
 ⟨h.os,h.tape,h.output,h.size,λk hk hn=>h.block k hk λe=>hn (hS k e.symm hk)⟩
theorem Chg.trans(h:Chg S a b)(h':Chg S' b c)(hS:∀k,k<a.heap.size->S' k->S k):Chg S a c:=
 ⟨h'.os.trans h.os,h'.tape.trans h.tape,h'.output.trans h.output,bn h.size h'.size,λk hk hn=>(h'.block k (ai hk h.size) λhs=>hn (hS k hk hs)).trans (h.block k hk hn)⟩
theorem Chg.mono(h:Chg S w w')(hS:∀k,k<w.heap.size->S k->S' k):Chg S' w w':=⟨h.os,h.tape,h.output,h.size,λk hk hn=>h.block k hk λhs=>hn (hS k hk hs)⟩
theorem Chg.below(h:Chg S w w'){B:Nat}(hB:B<=w.heap.size)(hS:∀k,S k->B<=k):Below B w w':=⟨h.os,h.tape,h.output,h.size,λk hk=>h.block k (by omega) λhs=>by have:=hS k hs;omega⟩
theorem Chg.drewN(h:Chg S a b)(k:Nat):Chg S a (b.drewN k):=⟨h.os,h.tape,h.output,h.size,h.block⟩
theorem Chg.alloc(h:Chg S a b)(o:Obj):Chg S a (b.alloc o):=h.trans (Chg.Y1 (S:=S) ((Below.refl _ b).alloc (ae _) o) (ae _)) λ_ _ hs=>hs
theorem Chg.Ys(h:Chg S a b)(g i:Nat)(u:Value)(hS:g<a.heap.size->S g):Chg S a (b.setCell ⟨g,i,none⟩ u):=
 ⟨h.os,h.tape,h.output,by simpa[World.setCell]using h.size,λk hk hn=>by
  have hne:g≠k:=λe=>hn (e▸hS (e▸hk))
  rw[<-h.block k hk hn];simp[World.setCell,Array.getElem?_modify,hne]⟩
theorem Chg.row{base:Nat}{e:TypeId}{size n:Nat}{v:Value}{xs:List Value}(h:Chg S w w')(hr:w.ownsRow base e size v n xs)(hn:∀k,v.ownBlock=some k→¬S k):w'.ownsRow base e size v n xs:=by
 refine⟨hr.1,hr.2.imp id ?_⟩;rintro⟨g,cap,cur,rfl,hb,hg,r⟩;exact⟨g,cap,cur,rfl,hb,(h.block g (Array.getElem?_eq_some_iff.1 hg).1 (hn g rfl)).trans hg,r⟩
end
/-! ### The row of paths -/
def pcs(e:Nat×Txt):List Value:=[.int .i64 (e.1:Int),Wa e.2]
theorem Yts(E:List (Nat×Txt)):(E.flatMap pcs).length=E.length*2:=by
 induction E with
 |nil=>rfl
 |cons e r ih=>simp[aq,ih,pcs];omega
theorem Ytu{i:Nat}{a:Nat}{s:Txt}(h:E[i]?=some (a,s)):(E.flatMap pcs)[i*2]?=some (.int .i64 a)/\(E.flatMap pcs)[i*2+1]?=some (Wa s):=by
 induction E generalizing i with
 |nil=>simp at h
 |cons e r ih=>
  cases i with
  |zero=>
   simp at h;subst h;simp[aq,pcs]
  |succ i=>
   have:=ih (i:=i) (by simpa using h)
   rw[show(i+1)*2=i*2+1+1 by omega]
   simpa[aq,pcs]using this
theorem Yum(E:List (Nat×Txt)):∀u∈E.flatMap pcs,u.oneCell'=true:=by
 intro u hu;obtain⟨e,_,he⟩:=List.mem_flatMap.1 hu;simp[pcs]at he
 rcases he with rfl|rfl <;> rfl
def Vp(w:World)(base:Nat)(v:Value)(E:List (Nat×Txt)):Prop:=w.ownsRow base 168 2 v E.length (E.flatMap pcs)
structure Ypl (w:World) (A:Option Addr) (n c:Nat) (E:List (Nat×Txt)):Prop where
 len:E.length=n
 cap:n<=c
 fit:c<=maxLen
 void:A=none->c=0
 has:∀(i a:Nat) (s:Txt),E[i]?=some (a,s)->∃b o,A=some ⟨b,o,none⟩∧b<w.heap.size/\w.cell? ⟨b,o+i*2,none⟩=some (.int .i64 a)/\w.cell? ⟨b,o+i*2+1,none⟩=some (Wa s)
section
variable {w w' : World}{base:Nat}{v:Value}{E:List (Nat × Txt)}
theorem Vp.Zj(w:World)(base:Nat):Vp w base (.slice none 0 0) []:=World.ownsRow_nil w base _ 2
theorem Vp.form(h:Vp w base v E):∃A c,v=.slice A E.length c/\Ypl w A E.length c E:=by
 rcases h.2 with⟨rfl,h0⟩|⟨g,cap,cur,rfl,hb,hg,hnc,hcm,hcs,ht⟩
 ·have hl:E=[]:=ar h0
  subst hl;exact⟨none,0,rfl,rfl,ae _,au _,λ_=>rfl,λi a s h=>by simp at h⟩
 ·refine⟨_,cap,rfl,rfl,hnc,hcm,(λh=>by cases h),λi a s hi=>?_⟩
  have hc:=World.ownsRow.cells h (g:=g) rfl
  obtain⟨h1,h2⟩:=Ytu hi
  have e1:=hc _ _ h1
  have e2:=hc _ _ h2
  rw[Yu]at e1 e2;rw[<-Nat.add_assoc]at e2;exact⟨g,0,rfl,(Array.getElem?_eq_some_iff.1 hg).1,e1,e2⟩
theorem Vp.low{base':Nat}(h:Vp w base v E)(hb:base'<=base):Vp w base' v E:=Vu h hb
theorem Vp.drewN(h:Vp w base v E)(k:Nat):Vp (w.drewN k) base v E:=h
theorem Vp.below(h:Vp w base v E)(hb:Below w.heap.size w w'):Vp w' base v E:=Xi h hb
theorem Ypl.below{A:Option Addr}{n c:Nat}(h:Ypl w A n c E)(hb:Below w.heap.size w w'):Ypl w' A n c E:=
 ⟨h.len,h.cap,h.fit,h.void,λi a s hi=>by
  obtain⟨b,o,h1,h2,h3,h4⟩:=h.has i a s hi;exact⟨b,o,h1,ai h2 hb.size,(hb.cell (p:=⟨b,o+i*2,none⟩) h2).trans h3,(hb.cell (p:=⟨b,o+i*2+1,none⟩) h2).trans h4⟩⟩
end
/-! ### A dictionary -/
structure Dc (w:World) (base g:Nat) (pv:Value) (bm n:Nat) (Q:List Pth):Prop where
 block:Block w g 160 #[.int .i64 n,pv,.map (some bm)]
 row:Vp w base pv (Xa Q)
 map:Vn w bm (Xa Q)
 gb:base<=g
 mb:base<=bm
 good:Good n Q
def Th(g:Nat)(pv:Value)(bm:Nat)(k:Nat):Prop:=k=g∨pv.ownBlock=some k∨k=bm
section
variable {w w' : World}{base g:Nat}{pv:Value}{bm n:Nat}{Q:List Pth}
theorem Dc.drewN(h:Dc w base g pv bm n Q)(k:Nat):Dc (w.drewN k) base g pv bm n Q:=⟨h.block.drewN k,h.row.drewN k,h.map.drewN k,h.gb,h.mb,h.good⟩
theorem Dc.chg{S:Nat->Prop}(h:Dc w base g pv bm n Q)(hc:Chg S w w')(hS:∀k,Th g pv bm k→¬S k):Dc w' base g pv bm n Q:=
 ⟨(hc.block g h.block.lt (hS g (.inl rfl))).trans h.block,hc.row h.row λk hk=>hS k (.inr (.inl hk)),h.map.same (hc.block bm h.map.lt (hS bm (.inr (.inr rfl)))),h.gb,h.mb,h.good⟩
theorem Dc.below(h:Dc w base g pv bm n Q)(hb:Below w.heap.size w w'):Dc w' base g pv bm n Q:=h.chg (S:=λ_=>False) (Chg.Y1 hb (ae _)) (λ_ _ h=>h)
theorem Dc.low{base':Nat}(h:Dc w base g pv bm n Q)(hb:base'<=base):Dc w base' g pv bm n Q:=⟨h.block,h.row.low hb,h.map,bn hb h.gb,bn hb h.mb,h.good⟩
theorem Dc.Gt(h:Dc w base g pv bm n Q){k:Nat}(hk:Th g pv bm k):base<=k/\k<w.heap.size:=by
 rcases hk with rfl|hk|rfl
 ·exact⟨h.gb,h.block.lt⟩
 ·exact World.ownsRow.lt h.row k hk
 ·exact⟨h.mb,h.map.lt⟩
theorem Dc.Yxu(h:Dc w base g pv bm n Q):g≠bm:=by
 rintro rfl;obtain⟨es,clock,he⟩:=h.map.R1
 have hb:w.heap[g]?=some (.cells _ _ _):=h.block
 rw[hb]at he
 cases he
theorem Dc.Yv4(h:Dc w base g pv bm n Q):pv.ownBlock≠some bm:=by
 intro hk;obtain⟨es,clock,he⟩:=h.map.R1
 rcases h.row.2 with⟨e,_⟩|⟨g',cap,cur,e,_,hg,_⟩
 ·rw[e]at hk;cases hk
 ·rw[e]at hk
  simp only[Value.ownBlock,ak]at hk;subst hk;rw[hg]at he
  cases he
theorem Dc.Ywt(h:Dc w base g pv bm n Q):pv.ownBlock≠some g:=by
 intro hk
 rcases h.row.2 with⟨e,_⟩|⟨g',cap,cur,e,_,hg,_⟩
 ·rw[e]at hk;cases hk
 ·rw[e]at hk
  simp only[Value.ownBlock,ak]at hk;subst hk
  have hb:w.heap[g']?=some (.cells _ _ _):=h.block
  rw[hg]at hb;simp only[ak,Obj.cells.injEq]at hb;exact absurd hb.2.1 (by decide)
theorem Dc.c0(h:Dc w base g pv bm n Q):w.cell? ⟨g,0,none⟩=some (.int .i64 n):=h.block.cell 0
theorem Dc.c1(h:Dc w base g pv bm n Q):w.cell? ⟨g,1,none⟩=some pv:=h.block.cell 1
theorem Dc.c2(h:Dc w base g pv bm n Q):w.cell? ⟨g,2,none⟩=some (.map (some bm)):=h.block.cell 2
theorem Dc.form(h:Dc w base g pv bm n Q):∃A c,pv=.slice A Q.length c/\Ypl w A Q.length c (Xa Q):=by
 have:=h.row.form
 rwa [Sq]at this
end
theorem Jb(h:Dc w base g pv bm n Q):
  Calls aa 120 #[.pointer (some ⟨g,0,none⟩)] w λe w'=>e=.returned (.int .i64 (Q.length:Nat))/\w=w':=by
 have h1:=h.c1
 obtain⟨A,c,rfl,hE⟩:=h.form
 have hs:=h.good.size
 go_enter Tryz.func120,Tryz.ntmps120;go_wp2;go_ret;exact⟨rfl,rfl⟩
theorem Jy(h:Dc w base g pv bm n Q)(c:Int){b:Bool}(hh:Hid (decide (0<=c/\c<=(Q.length:Int))=b)):
  Calls aa 183 #[.pointer (some ⟨g,0,none⟩),.int .i64 c] w λe w'=>e=.returned (.bool b)/\w=w':=by
 by_cases h0:0<=c
 ·go_enter cw,ch
  go_wp2_with fail;refine(Jb h).mono ?_;rintro e w' ⟨rfl,rfl⟩;go_wp2_with fail;go_ret;exact⟨Yd (by rw[<-hh.out];simp[h0]),rfl⟩
 ·go_enter cw,ch
  go_wp2_with fail;go_ret;exact⟨Yd (by rw[<-hh.out];simp;omega),rfl⟩
end
section
structure Wg (w:World) (B:Nat) (A:Option Addr) (n c:Nat) (D:List Yk):Prop where
 len:D.length=n
 cap:n<=c
 fit:c<=maxLen
 void:A=none->c=0
 has:∀i,i<n->∃b o A' n' c',A=some ⟨b,o,none⟩∧b<B/\w.cell? ⟨b,o+i*2,none⟩=some (Wa (D.getD i Wp).1)/\w.cell? ⟨b,o+i*2+1,none⟩=some (.slice A' n' c')/\Zx w B A' n' c' (D.getD i Wp).2
section
variable {w w' : World}{B B' n c:Nat}{A:Option Addr}{D:List Yk}
theorem Wg.V0(h:Wg w B A n c D)(hk:∀b o,b<B->w'.cell? ⟨b,o,none⟩=w.cell? ⟨b,o,none⟩):Wg w' B A n c D:=
 ⟨h.len,h.cap,h.fit,h.void,λi hi=>by
  obtain⟨b,o,A',n',c',h1,h2,h3,h4,h5⟩:=h.has i hi;exact⟨b,o,A',n',c',h1,h2,(hk b _ h2).trans h3,(hk b _ h2).trans h4,h5.V0 hk⟩⟩
theorem Wg.more(h:Wg w B A n c D)(hB:B<=B'):Wg w B' A n c D:=
 ⟨h.len,h.cap,h.fit,h.void,λi hi=>by
  obtain⟨b,o,A',n',c',h1,h2,h3,h4,h5⟩:=h.has i hi;exact⟨b,o,A',n',c',h1,ai h2 hB,h3,h4,h5.more hB⟩⟩
theorem Wg.below{C:Nat}(h:Wg w B A n c D)(hb:Below C w w')(hC:B<=C):Wg w' B A n c D:=
 h.V0 λb o hp=>hb.cell (p:=⟨b,o,none⟩) (ai hp hC)
theorem Wg.Yc(h:Wg w w.heap.size A n c D)(hb:Below w.heap.size w w'):Wg w' w'.heap.size A n c D:=(h.below hb (ae _)).more hb.size
theorem Wg.drewN(h:Wg w B A n c D)(k:Nat):Wg (w.drewN k) B A n c D:=h.V0 λ_ _ _=>rfl
theorem Wg.Ym(h:Wg w B A n c D):n<=9223372036854775807:=by
 have h1:=h.cap;have h2:=h.fit
 unfold maxLen at h2;omega
theorem Wg.Xf(h:Wg w B A n c D):c<=9223372036854775807:=by
 have h2:=h.fit
 unfold maxLen at h2;omega
theorem Wg.at_(h:Wg w B A n c D){k:Nat}(hk:k<n):∃b o x A' n' c' L,A=some ⟨b,o,none⟩∧b<B∧
  w.cell? ⟨b,o+k*2,none⟩=some (.string ⟨x.toArray⟩)/\w.cell? ⟨b,o+k*2+1,none⟩=some (.slice A' n' c')/\Zx w B A' n' c' L/\Hid (D.getD k Wp=(x,L)):=by
 obtain⟨b,o,A',n',c',h1,h2,h3,h4,h5⟩:=h.has k hk;exact⟨b,o,_,A',n',c',_,h1,h2,h3,h4,h5,hid rfl⟩
end
/-! ### A schema by value -/
abbrev Sy(A1:Option Addr)(n1 c1:Nat)(A2:Option Addr)(n2 c2:Nat)(A3:Option Addr)(n3 c3:Nat):Value:=
 .agg #[.slice A1 n1 c1,.slice A2 n2 c2,.slice A3 n3 c3]
structure Pg (w:World) (B:Nat) (A1:Option Addr) (n1 c1:Nat) (A2:Option Addr) (n2 c2:Nat) (A3:Option Addr) (n3 c3:Nat) (D:List Yk) (M:List Txt) (V:List (List Int)):Prop where
 d:Wg w B A1 n1 c1 D
 m:Zx w B A2 n2 c2 M
 v:Tg w B A3 n3 c3 V
section
variable {w w' : World}{B B' n1 c1 n2 c2 n3 c3:Nat}{A1 A2 A3:Option Addr}{D:List Yk}{M:List Txt}{V:List (List Int)}
theorem Pg.more(h:Pg w B A1 n1 c1 A2 n2 c2 A3 n3 c3 D M V)(hB:B<=B'):Pg w B' A1 n1 c1 A2 n2 c2 A3 n3 c3 D M V:=⟨h.d.more hB,h.m.more hB,h.v.more hB⟩
theorem Pg.below{C:Nat}(h:Pg w B A1 n1 c1 A2 n2 c2 A3 n3 c3 D M V)(hb:Below C w w')(hC:B<=C):Pg w' B A1 n1 c1 A2 n2 c2 A3 n3 c3 D M V:=⟨h.d.below hb hC,h.m.below hb hC,h.v.below hb hC⟩
theorem Pg.Yc(h:Pg w w.heap.size A1 n1 c1 A2 n2 c2 A3 n3 c3 D M V)(hb:Below w.heap.size w w'):Pg w' w'.heap.size A1 n1 c1 A2 n2 c2 A3 n3 c3 D M V:=(h.below hb (ae _)).more hb.size
end
/-! ### What came in -/
theorem Ych:aa.cellsOf 75=2:=by kernel_rfl
theorem S9:aa.cellsOf 9=1:=by kernel_rfl
theorem Qn:aa.cellsOf 23=1:=by kernel_rfl
theorem Co:aa.cellsOf 3=1:=by kernel_rfl
theorem Yao:aa.cellsOf 47=1:=by kernel_rfl
theorem Yjv:aa.cellsOf 22=1:=by kernel_rfl
theorem Ye9:aa.cellsOf 24=1:=by kernel_rfl
theorem Yec:aa.cellsOf 26=3:=by kernel_rfl
def L5(D:List Yk):Prop:=∀d∈D,d.1.length<=maxLen/\∀s∈d.2,s.length<=maxLen
/-! ### Rows of dimensions of the call's own,whose levels lie below C -/
section
variable {w w' : World}{base C:Nat}{v:Value}{D:List Yk}
end
end
def Ul(r:Int):Bool:=decide (97<=r/\r<=122∨48<=r/\r<=57∨r=45∨r=95)
theorem Gc(r:Int)(w:World):Calls aa 214 #[.int .i32 r] w λe w'=>e=.returned (.bool (Ul r))/\w=w':=by
 by_cases h1:97<=r/\r<=122
 ·obtain⟨h2,h3⟩:=h1
  have H:Hid (Ul r=true):=hid (by unfold Ul;simp;omega)
  go_enter ag,af;go_wp2;go_ret;exact⟨Yd H.out.symm,rfl⟩
 ·by_cases h4:48<=r/\r<=57
  ·obtain⟨h2,h3⟩:=h4
   have h5:¬97<=r:=by omega
   have H:Hid (Ul r=true):=hid (by unfold Ul;simp;omega)
   clear h1;go_enter ag,af;go_wp2;go_ret;exact⟨Yd H.out.symm,rfl⟩
  ·by_cases h5:r=45
   ·subst h5
    clear h1 h4;go_enter ag,af;go_wp2;go_ret;exact⟨rfl,rfl⟩
   ·by_cases h6:r=95
    ·subst h6
     clear h1 h4 h5;go_enter ag,af;go_wp2;go_ret;exact⟨rfl,rfl⟩
    ·have H:Hid (Ul r=false):=hid (by unfold Ul;simp;omega)
     have h7:(r==45)=false:=by simp;omega
     have h8:(r==95)=false:=by simp;omega
     clear h5 h6
     by_cases g1:97<=r
     ·have g2:¬r<=122:=by omega
      have g3:48<=r:=by omega
      have g4:¬r<=57:=by omega
      clear h1 h4;go_enter ag,af;go_wp2;go_ret;exact⟨Yd H.out.symm,rfl⟩
     ·by_cases g3:48<=r
      ·have g4:¬r<=57:=by omega
       clear h1 h4;go_enter ag,af;go_wp2;go_ret;exact⟨Yd H.out.symm,rfl⟩
      ·clear h1 h4
       go_enter ag,af;go_wp2;go_ret;exact⟨Yd H.out.symm,rfl⟩
theorem Ol(b:UInt8):Ul (b.toNat:Int)=isLet b:=by
 unfold Ul isLet;rw[Bool.eq_iff_iff];simp only[decide_eq_true_eq,Bool.or_eq_true,Bool.and_eq_true,beq_iff_eq,UInt8.le_iff_toNat_le,<-UInt8.toNat_inj]
 have:(97:UInt8).toNat=97:=rfl
 have:(122:UInt8).toNat=122:=rfl
 have:(48:UInt8).toNat=48:=rfl
 have:(57:UInt8).toNat=57:=rfl
 have:(45:UInt8).toNat=45:=rfl
 have:(95:UInt8).toNat=95:=rfl
 omega
theorem Ymx{b:UInt8}(h:isLet b=true):b.toNat<128:=by
 rw[<-Ol]at h;unfold Ul at h;simp at h;omega
theorem Yhi{r:Nat}(h:128<=r):Ul (r:Int)=false:=by
 unfold Ul;simp;omega
theorem Kv(s:ByteArray){p:Nat}(h:p<s.size):s.data.toList[p]'(by simpa using h)=s[p]'h:=by simp[ByteArray.getElem_eq_getElem_data]
theorem C5(h:p<s.size)(ht:∀b∈s.data.toList.take p,isLet b=true)(hb:isLet (s[p]'h)=true):∀b∈s.data.toList.take (p+1),isLet b=true:=by
 rw[ao (by simpa using h),Kv s h]
 intro b hm
 rcases bz.1 hm with hm|hm
 ·exact ht b hm
 ·rw[bp.1 hm];exact hb
theorem G9(h:p<s.size)(hb:isLet (s[p]'h)=false):decide (Z6 s.data.toList)=false:=by
 rw[decide_eq_false_iff_not];intro hn
 have:=hn.2.2 (s[p]'h) (by rw[<-Kv s h];exact bs _)
 rw[hb]at this
 cases this
theorem Yb7(h:¬p<s.size)(h1:1<=s.size)(h2:s.size<=12)(ht:∀b∈s.data.toList.take p,isLet b=true):decide (Z6 s.data.toList)=true:=by
 rw[decide_eq_true_eq]
 have hl:s.data.toList.length=s.size:=by simp
 refine⟨by omega,by omega,?_⟩
 rwa [bj (by omega)]at ht
theorem Lz(w:World)(s:ByteArray)(pos:Nat):Below w.heap.size w (w.iter s pos):=(Below.refl _ _).alloc (ae _) _
theorem Ynj(s:ByteArray)(w:World):Calls aa 154 #[.string s] w λe w'=>e=.returned (.bool (decide (Z6 s.data.toList)))/\Below w.heap.size w w':=by
 have hl:s.data.toList.length=s.size:=by simp
 by_cases h0:s.size=0
 ·have H:Hid (decide (Z6 s.data.toList)=false):=hid (by rw[decide_eq_false_iff_not];intro h;have:=h.1;omega)
  have hs:s.toList.isEmpty=true:=by rw[ByteArray.toList_eq,br];exact ar (by omega)
  have hs2:s.toList=[]:=br.1 hs
  clear h0 hl;go_enter az,aw;go_wp2;go_ret;exact⟨Yd H.out.symm,Below.refl _ _⟩
 ·have hs:s.toList.isEmpty=false:=by rw[ByteArray.toList_eq,List.isEmpty_eq_false_iff];intro e;rw[e]at hl;simp at hl;omega
  have hs2:(s.toList==[])=false:=by rw[beq_eq_false_iff_ne];intro e;rw[e]at hs;cases hs
  by_cases h12:12<s.size
  ·have H:Hid (decide (Z6 s.data.toList)=false):=hid (by rw[decide_eq_false_iff_not];intro h;have:=h.2.1;omega)
   clear h0 hl;go_enter az,aw;go_wp2;go_ret;exact⟨Yd H.out.symm,Below.refl _ _⟩
  ·clear hl
   go_enter az,aw;go_wp2;go_loopw [4] (λ_ wr=>∃pos:Nat,wr=w.iter s pos/\Hid (∀b∈s.data.toList.take pos,isLet b=true)) (λ_ wr=>s.size-wr.iterPos w.heap.size)
   case atStart=>exact⟨0,rfl,hid (by simp)⟩
   case round=>
    obtain⟨pos,rfl,ht⟩:=hrel
    have HB:Below w.heap.size w (w.iter s pos):=Lz w s pos
    by_cases hp:pos<s.size
    ·by_cases ha:(s[pos]'hp).toNat<128
     ·have hnx:∀ty,(Instr.next (.pointer (some ⟨w.heap.size,0,none⟩)) true ty).run aa (w.iter s pos)=_:=λty=>run_next_ascii w s pos ty hp ha
      cases hb:isLet (s[pos]'hp)with
      |true=>
       have H:=hid (C5 hp ht.out hb)
       have hst:Ul ((s[pos]'hp).toNat:Int)=true:=(Ol _).trans hb
       clear hb;go_wp2_with (go_at_call 214;refine(Gc _ _).mono ?_;rintro e w' ⟨rfl,rfl⟩);go_roundw
       case rel=>exact⟨pos+1,rfl,H⟩
       case measure=>simp;omega
      |false=>
       have H:=hid (G9 hp hb)
       have hst:Ul ((s[pos]'hp).toNat:Int)=false:=(Ol _).trans hb
       clear hb;go_wp2_with (go_at_call 214;refine(Gc _ _).mono ?_;rintro e w' ⟨rfl,rfl⟩);go_ret;exact⟨Yd H.out.symm,Lz w s (pos+1)⟩
     ·have hnx:∀ty,(Instr.next (.pointer (some ⟨w.heap.size,0,none⟩)) true ty).run aa (w.iter s pos)=_:=λty=>run_next_any w s pos ty hp
      have hb:isLet (s[pos]'hp)=false:=by
       cases hb:isLet (s[pos]'hp)with
       |true=>exact absurd (Ymx hb) ha
       |false=>rfl
      have H:=hid (G9 hp hb)
      have hd:=(decode_high s pos hp (by omega)).1
      have hst:Ul ((Utf8.decode s pos).1:Int)=false:=Yhi hd
      clear hb;go_wp2_with (go_at_call 214;refine(Gc _ _).mono ?_;rintro e w' ⟨rfl,rfl⟩);go_ret;exact⟨Yd H.out.symm,Lz w s _⟩
    ·have hnx:∀ty,(Instr.next (.pointer (some ⟨w.heap.size,0,none⟩)) true ty).run aa (w.iter s pos)=_:=λty=>run_next_end w s pos ty hp
     have H:=hid (Yb7 hp (by omega) (by omega) ht.out)
     go_wp2;go_ret;exact⟨Yd H.out.symm,HB⟩
theorem Yfu(x:Txt)(w:World):Calls aa 154 #[.string ⟨x.toArray⟩] w λe w'=>e=.returned (.bool (decide (Z6 x)))/\Below w.heap.size w w':=by
 have:=Ynj ⟨x.toArray⟩ w
 simpa using this
theorem Ygk(h:Z6 x)(w:World):Calls aa 154 #[.string ⟨x.toArray⟩] w λe w'=>e=.returned (.bool true)/\Below w.heap.size w w':=by
 have:=Yfu x w
 rwa [decide_eq_true h]at this
theorem Yl4(h:¬Z6 x)(w:World):Calls aa 154 #[.string ⟨x.toArray⟩] w λe w'=>e=.returned (.bool false)/\Below w.heap.size w w':=by
 have:=Yfu x w
 rwa [decide_eq_false h]at this
theorem Md(hk:k<L.length)(hx:x=L.getD k [])(h:Z6 x)(ht:∀s∈L.take k,Z6 s):∀s∈L.take (k+1),Z6 s:=by
 rw[ao hk];intro s hs
 rcases bz.1 hs with hs|hs
 ·exact ht s hs
 ·rw[bp.1 hs]
  simpa[hx,av,ay hk]using h
theorem Yia(hk:k<L.length)(hx:x=L.getD k [])(h:¬Z6 x):decide (Un L)=false:=by
 rw[decide_eq_false_iff_not];intro hm;refine h (hm.2 x ?_);rw[hx,av,ay hk];exact bs hk
theorem Yfb(hk:L.length<=k)(h3:L.length<=3)(ht:∀s∈L.take k,Z6 s):decide (Un L)=true:=by
 rw[decide_eq_true_eq];rw[bj hk]at ht;exact⟨h3,ht⟩
theorem Yc1(h3:3<L.length):decide (Un L)=false:=by
 rw[decide_eq_false_iff_not];intro h
 have:=h.1
 omega
theorem E9(h:Zx w w.heap.size A n c L):
  Calls aa 159 #[.slice A n c] w λe w'=>e=.returned (.bool (decide (Un L)))/\Below w.heap.size w w':=by
 have hl:=h.len
 have hn:=h.Ym
 by_cases h3:3<n
 ·have H:=hid (Yc1 (L:=L) (by omega))
  have h3':(3:Int)<(n:Int):=by omega
  clear hl;go_enter cz,cj;go_wp2;go_ret;exact⟨Yd H.out.symm,Below.refl _ _⟩
 ·have h3': ¬(3:Int)<(n:Int):=by omega
  have HL:=hid hl
  clear hl;go_enter cz,cj;go_wp2;go_loopw [10] (λi wr=>∃k:Nat,k<=n/\i=.int .i64 k/\Below w.heap.size w wr/\Hid (∀s∈L.take k,Z6 s)) (λi _=>n-(intOf i).toNat)
  case atStart=>exact⟨0,au _,rfl,Below.refl _ _,hid (by simp)⟩
  case round=>
   obtain⟨k,hk,rfl,hB,ht⟩:=hrel
   by_cases hlt:k<n
   ·obtain⟨b,o,x,rfl,hb,hc,ex⟩:=(h.below hB (ae _)).at_ hlt
    by_cases hx:Z6 x
    ·have H:=hid (Md (by have:=HL.out;omega) ex.out hx ht.out)
     have HX:=hid hx
     clear hx;go_wp2_with fail;refine(Ygk HX.out _).mono ?_;rintro e v ⟨rfl,hb1⟩
     have hB2:=hB.trans (hb1.mono hB.size)
     go_wp2_with fail;go_roundw
     case rel=>exact⟨k+1,by omega,by go_num,hB2,H⟩
     case measure=>simp[intOf];omega
    ·have H:=hid (Yia (by have:=HL.out;omega) ex.out hx)
     have HX:=hid hx
     clear hx;go_wp2_with fail;refine(Yl4 HX.out _).mono ?_;rintro e v ⟨rfl,hb1⟩
     have hB2:=hB.trans (hb1.mono hB.size)
     go_wp2_with fail;go_ret;exact⟨Yd H.out.symm,hB2⟩
   ·have H:=hid (Yfb (by have:=HL.out;omega) (by have:=HL.out;omega) ht.out)
    go_wp2;go_ret;exact⟨Yd H.out.symm,hB⟩
/-! ### The reference's -/
theorem Yht(b:UInt8):isLet b=decide (97<=(b.toNat:Int)/\(b.toNat:Int)<=122∨48<=(b.toNat:Int)/\(b.toNat:Int)<=57∨(b.toNat:Int)=45∨(b.toNat:Int)=95):=(Ol b).symm
theorem Ydq(s:ByteArray)(w:World):Calls aa 136 #[.string s] w λe w'=>e=.returned (.bool (decide (Z6 s.data.toList)))/\w=w':=by
 have hl:s.data.toList.length=s.size:=by simp
 by_cases h0:s.size=0
 ·have H:Hid (decide (Z6 s.data.toList)=false):=hid (by rw[decide_eq_false_iff_not];intro h;have:=h.1;omega)
  have h1:(s.size:Int)<1:=by omega
  clear h0 hl;go_enter bg,ax;go_wp2;go_ret;exact⟨Yd H.out.symm,rfl⟩
 ·have h1:¬(s.size:Int)<1:=by omega
  by_cases h12:12<s.size
  ·have H:Hid (decide (Z6 s.data.toList)=false):=hid (by rw[decide_eq_false_iff_not];intro h;have:=h.2.1;omega)
   have h2:(12:Int)<(s.size:Int):=by omega
   clear h0 hl;go_enter bg,ax;go_wp2;go_ret;exact⟨Yd H.out.symm,rfl⟩
  ·have h2:¬(12:Int)<(s.size:Int):=by omega
   clear hl;go_enter bg,ax;go_wp2;go_loop [3] (λi=>∃k:Nat,k<=s.size/\i=.int .i64 k/\Hid (∀b∈s.data.toList.take k,isLet b=true)) (λi=>s.size-(intOf i).toNat)
   case atStart=>exact⟨0,au _,rfl,hid (by simp)⟩
   case round=>
    obtain⟨k,hk,rfl,ht⟩:=hrel
    by_cases hp:k<s.size
    ·obtain⟨x,hx⟩: ∃x:Nat,s[k].toNat=x:=⟨_,rfl⟩
     have hq:=hid hx
     by_cases hyes:97<=(x:Int)/\(x:Int)<=122∨48<=(x:Int)/\(x:Int)<=57∨(x:Int)=45∨(x:Int)=95
     ·have hb:isLet (s[k]'hp)=true:=by rw[Yht,hx,decide_eq_true hyes]
      have H:=hid (C5 hp ht.out hb)
      clear hb
      rcases hyes with⟨g1,g2⟩|⟨g1,g2⟩|g1|g1
      ·go_wp2
       go_round
       case rel=>exact⟨k+1,by omega,by go_num,H⟩
       case measure=>simp[intOf];omega
      ·have g3:¬97<=(x:Int):=by omega
       go_wp2;go_round
       case rel=>exact⟨k+1,by omega,by go_num,H⟩
       case measure=>simp[intOf];omega
      ·obtain rfl:x=45:=by omega
       clear g1;go_wp2;go_round
       case rel=>exact⟨k+1,by omega,by go_num,H⟩
       case measure=>simp[intOf];omega
      ·obtain rfl:x=95:=by omega
       clear g1;go_wp2;go_round
       case rel=>exact⟨k+1,by omega,by go_num,H⟩
       case measure=>simp[intOf];omega
     ·have hb:isLet (s[k]'hp)=false:=by rw[Yht,hx,decide_eq_false hyes]
      have H:=hid (G9 hp hb)
      have g7:((x:Int) != 45)=true:=by simp;omega
      have g8:((x:Int) != 95)=true:=by simp;omega
      clear hb
      by_cases g1:97<=(x:Int)
      ·have g2:¬(x:Int)<=122:=by omega
       have g3:48<=(x:Int):=by omega
       have g4:¬(x:Int)<=57:=by omega
       clear hyes;go_wp2;go_ret;exact⟨Yd H.out.symm,rfl⟩
      ·by_cases g3:48<=(x:Int)
       ·have g4:¬(x:Int)<=57:=by omega
        clear hyes;go_wp2;go_ret;exact⟨Yd H.out.symm,rfl⟩
       ·clear hyes
        go_wp2;go_ret;exact⟨Yd H.out.symm,rfl⟩
    ·have H:=hid (Yb7 hp (by omega) (by omega) ht.out)
     go_wp2;go_ret;exact⟨Yd H.out.symm,rfl⟩
theorem Fq(x:Txt)(w:World):Calls aa 136 #[.string ⟨x.toArray⟩] w λe w'=>e=.returned (.bool (decide (Z6 x)))/\w=w':=by
 have:=Ydq ⟨x.toArray⟩ w
 simpa using this
theorem Eb(h:Z6 x)(w:World):Calls aa 136 #[.string ⟨x.toArray⟩] w λe w'=>e=.returned (.bool true)/\w=w':=by
 have:=Fq x w
 rwa [decide_eq_true h]at this
theorem Dd(h:¬Z6 x)(w:World):Calls aa 136 #[.string ⟨x.toArray⟩] w λe w'=>e=.returned (.bool false)/\w=w':=by
 have:=Fq x w
 rwa [decide_eq_false h]at this
theorem O6{B:Nat}(h:Zx w B A n c L):
  Calls aa 142 #[.slice A n c] w λe w'=>e=.returned (.bool (decide (Un L)))/\w=w':=by
 have hl:=h.len
 have hn:=h.Ym
 by_cases h3:3<n
 ·have H:=hid (Yc1 (L:=L) (by omega))
  have h3':(3:Int)<(n:Int):=by omega
  clear hl;go_enter da,cn;go_wp2;go_ret;exact⟨Yd H.out.symm,rfl⟩
 ·have h3': ¬(3:Int)<(n:Int):=by omega
  have HL:=hid hl
  clear hl;go_enter da,cn;go_wp2;go_loop [3] (λi=>∃k:Nat,k<=n/\i=.int .i64 k/\Hid (∀s∈L.take k,Z6 s)) (λi=>n-(intOf i).toNat)
  case atStart=>exact⟨0,au _,rfl,hid (by simp)⟩
  case round=>
   obtain⟨k,hk,rfl,ht⟩:=hrel
   by_cases hlt:k<n
   ·obtain⟨b,o,x,rfl,hb,hc,ex⟩:=h.at_ hlt
    by_cases hx:Z6 x
    ·have H:=hid (Md (by have:=HL.out;omega) ex.out hx ht.out)
     have HX:=hid hx
     clear hx;go_wp2_with fail;refine(Eb HX.out _).mono ?_;rintro e v ⟨rfl,rfl⟩;go_wp2_with fail;go_round
     case rel=>exact⟨k+1,by omega,by go_num,H⟩
     case measure=>simp[intOf];omega
    ·have H:=hid (Yia (by have:=HL.out;omega) ex.out hx)
     have HX:=hid hx
     clear hx;go_wp2_with fail;refine(Dd HX.out _).mono ?_;rintro e v ⟨rfl,rfl⟩;go_wp2_with fail;go_ret;exact⟨Yd H.out.symm,rfl⟩
   ·have H:=hid (Yfb (by have:=HL.out;omega) (by have:=HL.out;omega) ht.out)
    go_wp2;go_ret;exact⟨Yd H.out.symm,rfl⟩
end Go.Proofs.YtmepdkdeanbbaaaGreat
