/- LtS, LtW, LtX, LtY, LuA, LuH, LuI, LuN, LuO, LuP, LuQ, LuS, LuR, LuT, PlnC, PlnY, PlnL, TwoB, PlnB -/
import Derived.Test.YtkablhecedcngaaGreatJ27
import Derived.Test.YtkablhecedcngaaGreatJ49
namespace Go.Proofs.YtkablhecedcngaaGreat
set_option maxRecDepth 100000
set_option maxHeartbeats 8000000
open Go.RowKit
open Go.Lib (hid)
variable {w w' w1 y:World}{D:List Yg}{V:List (List Int)}{Qs Rs:List (List Pth)}{M:List Txt}{B base cf cv g k m n n1 n2 n3 nf nv r rB rE rL x:Nat}{G G2:List Fct}{F R S:Nat→Prop}{E:List Hld}{A1 A2 A3 Af Av:Option Addr}{rs:List (Nat × Value)}{N gs:List Nat}{L v:List Int}{Dv Lv X1 X2 X3 dv uv:Value}{b c u:Int}{Cs:List Cub}{T e:TypeId}{cs:Array Value}{fr:Nat × Nat}
theorem Yi2 {u:FrameMode} (hE:w.cell? ⟨rE,0,none⟩=some (.int .i64 0)) :
  CallsD Tryz.prog 50 #[.pointer (some ⟨rE,0,none⟩),.pointer (some ⟨rB,0,none⟩),.pointer (some ⟨rL,0,none⟩)] u w fun e u' w'=>u'=u∧(e=.returned (.tuple #[])∧w'=w):=by
 go_enter_d Tryz.func50,Tryz.ntmps50;go_wp2;go_end0;exact ⟨rfl,rfl⟩
theorem L1 {u:FrameMode}{A:Option Addr}{c:Nat}{er:Int} (he:er≠0) (hE:w.cell? ⟨rE,0,none⟩=some (.int .i64 er)) (hB:w.cell? ⟨rB,0,none⟩=some (.slice A n c)) (hL:w.cell? ⟨rL,0,none⟩=some (.pointer (some ⟨g,0,none⟩))) (hg:w.cell? ⟨g,3,none⟩=some dv) (hf:w.frozen? ⟨g,3,none⟩=false) :
  CallsD Tryz.prog 50 #[.pointer (some ⟨rE,0,none⟩),.pointer (some ⟨rB,0,none⟩),.pointer (some ⟨rL,0,none⟩)] u w fun e u' w'=>u'=u∧(e=.returned (.tuple #[])∧w'=w.setCell ⟨g,3,none⟩ (.slice A n c)):=by
 go_enter_d Tryz.func50,Tryz.ntmps50;go_wp2;go_end0;exact ⟨rfl,rfl⟩
theorem V5 {fn:Func}{p:Tmp} (h:fn.results=#[.cell p 33]) (tmps:Array Value) (w:World) (g:Nat) {v:Value}(hp:tmps.getD p undef=.pointer (some ⟨g,0,none⟩)) (hc:w.cell? ⟨g,0,none⟩=some v):(results fn tmps).run Tryz.prog w=.ok v w:=by
 have hp' : tmps[p]?.getD undef=.pointer (some ⟨g,0,none⟩):=by simpa using hp
 simp [results,h,hp',asAddr,loadVar,go_sem,hc]
def Sn (D:List Yg) (M:List Txt) (V:List (List Int)) (Qs:List (List Pth)) (Cs:List Cub) (cnt:Int) (G:List Fct) (er:Int) (Qs' : List (List Pth)) (Cs' : List Cub) (cnt' : Int):Prop :=
 (er=(Xu D M V G:Nat)∧Xu D M V G≠0∧Qs'=Qs∧Cs'=Cs∧cnt'=cnt) ∨
 (Xu D M V G=0∧er=((Zc (Yk D) Qs G).2:Nat)∧(Zc (Yk D) Qs G).2≠0∧Qs'=Qs∧Cs'=Cs∧cnt'=cnt) ∨
 (Xu D M V G=0∧∃ Rs,Zc (Yk D) Qs G=(Rs,0)∧((1099511627776<cnt+(G.length:Int)∧er=14)∨(cnt+(G.length:Int)≤1099511627776∧∃ (i:Nat) (x:List Int × List PC),i<(Ye D V).length∧x∈X6 (kC Rs ((Ye D V).getD i [])) Y8 G∧(Z5 (Cs.getD i []) x.1 x.2).2≠0∧er=(Z5 (Cs.getD i []) x.1 x.2).2))∧Qs'=Qs∧Cs'=Cs∧cnt'=cnt) ∨
 (Xu D M V G=0∧∃ Rs,Zc (Yk D) Qs G=(Rs,0)∧cnt+(G.length:Int)≤1099511627776∧(∀ i,i<(Ye D V).length→okV (Cs.getD i []) (X6 (kC Rs ((Ye D V).getD i [])) Y8 G))∧er=0∧Qs'=Rs∧Cs'=Vm Cs (To Rs (Ye D V) Cs G (Ye D V).length)∧cnt'=cnt+(G.length:Int))
def P8 (w:World) (F0:Nat→Prop) (g:Nat) (X1 X2 X3 vv:Value) (W m:Nat) (D:List Yg) (M:List Txt) (V:List (List Int)) (Qs:List (List Pth)) (Cs:List Cub) (cnt:Int) (G:List Fct) (e:Ending) (w' : World):Prop :=
 ∃ dv' ds' vs' Qs' Cs' cnt' er,e=.returned (.int .i64 er)∧LtM w' g X1 X2 X3 dv' vv ds' vs' (Yk D) Qs' W m Cs' cnt'∧Chg F0 w w'∧(∀ k,Zg g dv' vv ds' vs' k→F0 k∨w.heap.size≤k)∧Sn D M V Qs Cs cnt G er Qs' Cs' cnt'
theorem Yfg {B1 B2 B3:Option Addr}{b1 b2 b3:Nat}{vv:Value}{ds:List DAt}{vs:List CAt}{cnt:Int}{Me:List Txt} (h:LtM w g (.slice B1 D.length b1) (.slice B2 Me.length b2) (.slice B3 n3 b3) dv vv ds vs (Yk D) Qs D.length Me.length Cs cnt) (hS:Wm w R B1 D.length b1 B2 Me.length b2 B3 n3 b3 D Me V) (hR:∀ k,R k→¬ Zg g dv vv ds vs k) (hm:Z3 D Me V) (hCl:Cs.length=(Ye D V).length) (hc0:0≤cnt) (hc1:cnt≤1099511627776) {Af:Option Addr}{nf cf:Nat}{G:List Fct}(hF:Tj w S Af nf cf G) (hSf:∀ b,S b→¬ Zg g dv vv ds vs b) (hfit:Sq D) (hfm:∀ s∈Me,s.length≤maxLen) :
  Calls Tryz.prog 25 #[.pointer (some ⟨g,0,none⟩),.slice Af nf cf] w (P8 w (Zg g dv vv ds vs) g (.slice B1 D.length b1) (.slice B2 Me.length b2) (.slice B3 n3 b3) vv D.length Me.length D Me V Qs Cs cnt G):=by
 have hdim:=W4 hm
 have hb0:=Ya w (.cells #[.pointer (some ⟨g,0,none⟩)] 40)
 have hb1:=Yb hb0 (Ya (w.alloc (.cells #[.pointer (some ⟨g,0,none⟩)] 40)) (.cells #[.int .i64 0] 33))
 have hbL:=(Block.new w 40 #[.pointer (some ⟨g,0,none⟩)]).alloc (.cells #[.int .i64 0] 33)
 have hbE:=Block.new (w.alloc (.cells #[.pointer (some ⟨g,0,none⟩)] 40)) 33 #[.int .i64 0]
 rw [World.size_alloc] at hbE
 have hmf:∀ (fn:Fn) (first cap:Array Value) (w:World),(Instr.makeFunc fn first cap).run Tryz.prog w=.ok (.func fn first cap) w:=fun _ _ _ _=>rfl
 have HMy:=hid (Ya7 (hS.Yc hb1).has hfit hfm (by have:=hS.d.1; omega) (hF.mv Y1 (Mv.Yc hb1 _)))
 have HM:=hid h
 have HS:=hid hS
 have HF:=hid hF
 have k0:=(h.below hb1).c0
 have k1:=(h.below hb1).c1
 have k2:=(h.below hb1).c2
 have q0:=hbL.cell 0
 have e0:=hbE.cell 0
 have ef:=hbE.free 0
 clear h hS hF;go_enter_defers Tryz.func25,Tryz.ntmps25;go_wp2_with fail;generalize (w.alloc (.cells #[.pointer (some ⟨g,0,none⟩)] 40)).alloc (.cells #[.int .i64 0] 33)=W1 at hb1 hbL hbE q0 e0 ef k0 k1 k2 HMy ⊢
 have hlE:=hbE.lt
 refine HMy.out.mono ?_;rintro e w3 ⟨rfl,hB3⟩
 have hbL3:=hbL.below hB3 hbL.lt
 have hbE3:=hbE.below hB3 hbE.lt
 have hb3:=hb1.trans (hB3.mono hb1.size)
 have e3:=hbE3.cell 0
 have f3:=hbE3.free 0
 have q3:=hbL3.cell 0
 obtain ⟨mb,hmb⟩ : ∃ mb,Hid (Xu D Me V G=mb):=⟨_,hid rfl⟩;rw [hmb.out]
 have hbEY:=hbE3.Yo 0 (.int .i64 ((mb:Nat):Int))
 have hbLY:Block (w3.setCell ⟨w.heap.size+1,0,none⟩ (.int .i64 ((mb:Nat):Int))) w.heap.size 40 #[.pointer (some ⟨g,0,none⟩)]:=hbL3.chg ((Chg.refl (fun k=>k=w.heap.size+1) w3).Yo (w.heap.size+1) 0 _ fun _=>rfl) (by omega)
 have hbY:=hb3.setCell (p:=⟨w.heap.size+1,0,none⟩) (Nat.le_succ _) (.int .i64 ((mb:Nat):Int))
 clear HMy q0 e0 ef k0 k1 k2 hB3;go_upto_region 2 with fail
 generalize w3.setCell ⟨w.heap.size+1,0,none⟩ (.int .i64 ((mb:Nat):Int))=Y at hbEY hbLY hbY ⊢;clear e3 f3 q3 hbE3 hbL3 hb3
 have eY:=hbEY.cell 0
 have fY:=hbEY.free 0
 have qY:=hbLY.cell 0
 by_cases hmz:mb=0
 ·subst hmz
  have hMY:=HM.out.below hbY
  obtain ⟨Ad,cd,edv,_,_⟩:=hMY.Ydr;subst edv
  have p3:=hMY.c3
  have hdr:=hMY.dr
  rw [show ds.length=(Yk D).length from hMY.dcs.len.symm ▸ rfl] at hdr
  have HOw:=hid (Yk5 hdr hMY.dcs (by rw [M6]; omega))
  clear hMY hdr;go_wp2_with fail;refine HOw.out.mono ?_;rintro e w5 ⟨⟨Ab,cb,dsB,rfl,hrB,hdB,hfB⟩,hB5⟩
  have hbL5:=(hbLY.below hB5 hbLY.lt).alloc (.cells #[.slice Ab (Yk D).length cb] 79)
  have hbE5:=(hbEY.below hB5 hbEY.lt).alloc (.cells #[.slice Ab (Yk D).length cb] 79)
  have hbB5:=Block.new w5 79 #[.slice Ab (Yk D).length cb]
  have hb5:=hbY.trans (hB5.mono hbY.size)
  have hba:=Ya w5 (.cells #[.slice Ab (Yk D).length cb] 79)
  have hbZ:=hb5.trans (hba.mono hb5.size)
  have hrZ:=Z8 hrB hba
  have hdZ:=hdB.chg (Chg.Yz (S:=fun _=>False) hba (Nat.le_refl _)) fun _ _ _ _ h=>h
  have hwE:w.heap.size+1<w5.heap.size:=Nat.lt_of_lt_of_le hbEY.lt hB5.size
  have hzY:=hbY.size
  have hYE:=hbEY.lt
  clear hrB hdB hB5 hb5 hba HOw eY fY qY p3 hbLY hbEY;go_upto_region 5 with fail
  generalize hgB:w5.heap.size=gB at hbB5 hwE ⊢;generalize w5.alloc (.cells #[.slice Ab (Yk D).length cb] 79)=Z at hbL5 hbE5 hbB5 hbZ hrZ hdZ ⊢;clear hgB
  have qZ:=hbL5.cell 0
  have HZ:=hid (HM.out.below hbZ)
  have hBt:=Yr5 hm hmb.out
  have HBt:=hid hBt
  have hCome:=Yjf HZ.out (HF.out.mv Y1 (Mv.Yc hbZ _)) hSf (by have:=HF.out.len; have:=hBt.few; omega) hBt.len (by rw [M6]; omega)
  have HCome:=hid hCome
  -- all that was refused leaves the dictionaries as before
  have HRest:Hid (∀ (y:World) (ds' : List DAt) (Qs' : List (List Pth)) (dv' : Value),Chg (fun k=>Zg g (.slice Ad (Yk D).length cd) vv ds vs k∨k=w.heap.size+1) Z y→LtM y g (.slice B1 D.length b1) (.slice B2 Me.length b2) (.slice B3 n3 b3) dv' vv ds' vs (Yk D) Qs' D.length Me.length Cs cnt→∀ er,Sn D Me V Qs Cs cnt G er Qs Cs cnt→P8 w (Zg g (.slice Ad (Yk D).length cd) vv ds vs) g (.slice B1 D.length b1) (.slice B2 Me.length b2) (.slice B3 n3 b3) vv D.length Me.length D Me V Qs Cs cnt G (.returned (.int .i64 er)) (y.setCell ⟨g,3,none⟩ (.slice Ab (Yk D).length cb))):=hid fun y ds' Qs' dv' hc hL er ho=>by
   have hlt:∀ k,Zg g (.slice Ad (Yk D).length cd) vv ds vs k→k<w.heap.size:=fun k hk=>HM.out.lt hk
   have hn1:∀ k,(Value.slice Ab (Yk D).length cb).ownBlock=some k→w.heap.size≤k:=fun k hk=>Nat.le_trans hzY (World.ownsRow.lt hrZ k hk).1
   have hl:dsB.length=(Yk D).length:=hdZ.len.symm ▸ rfl
   have hno:∀ k,Y.heap.size≤k→¬ (Zg g (.slice Ad (Yk D).length cd) vv ds vs k∨k=w.heap.size+1):=fun k hk h=>by
    rcases h with h | h
    ·have:=hlt k h; omega
    ·omega
   refine ⟨_,dsB,vs,Qs,Cs,cnt,er,rfl,hL.Yty (by rw [hl]; exact Uv (hc.row hrZ fun k hk hk'=>hno k (World.ownsRow.lt hrZ k hk).1 hk') (Nat.zero_le _)) (hdZ.chg hc fun d hd k hk hk'=>hno k (hfB d hd k hk) hk') (fun d hd c hcv k hk hkc=>by have:=hfB d hd k hk; have:=hlt k (.inr (.inr (.inr (.inr ⟨c,hcv,hkc⟩)))); omega),?_,?_,ho⟩
   ·exact ((Chg.Yz (S:=Zg g (.slice Ad (Yk D).length cd) vv ds vs) hbZ (Nat.le_refl _)).trans hc fun k hk h=>h.elim id fun h=>by omega).Yo g 3 _ fun _=>.inl rfl
   ·rintro k (hk | hk | hk | ⟨d,hd,hk⟩ | hk)
    ·exact .inl (.inl hk)
    ·exact .inr (hn1 k hk)
    ·exact .inl (.inr (.inr (.inl hk)))
    ·exact .inr (Nat.le_trans hzY (hfB d hd k hk))
    ·exact .inl (.inr (.inr (.inr (.inr hk))))
  clear hCome;go_wp2_with fail;refine HCome.out.mono ?_;rintro e w7 ⟨ds7,Qs7,hC7,hcase⟩
  have hF0:∀ k,Zg g (.slice Ad (Yk D).length cd) vv ds vs k→k<w.heap.size:=fun k hk=>HM.out.lt hk
  have hwZ:w.heap.size+1<Z.heap.size:=hbE5.lt
  have hL7:=hbL5.chg hC7.chg fun hk=>by have:=hF0 _ hk; omega
  have hE7:=hbE5.chg hC7.chg fun hk=>by have:=hF0 _ hk; omega
  have hB7:=hbB5.chg hC7.chg fun hk=>by have:=hF0 _ hk; omega
  have e7:=hE7.cell 0
  have f7:=hE7.free 0
  have q7:=hL7.cell 0
  have hgE:¬ g=w.heap.size+1:=by have:=hF0 g (.inl rfl); omega
  -- a world behind a store into the answer
  have HSt:Hid (∀ (er:Int),Chg (fun k=>Zg g (.slice Ad (Yk D).length cd) vv ds vs k∨k=w.heap.size+1) Z (w7.setCell ⟨w.heap.size+1,0,none⟩ (.int .i64 er))∧LtM (w7.setCell ⟨w.heap.size+1,0,none⟩ (.int .i64 er)) g (.slice B1 D.length b1) (.slice B2 Me.length b2) (.slice B3 n3 b3) (.slice Ad (Yk D).length cd) vv ds7 vs (Yk D) Qs7 D.length Me.length Cs cnt∧Block (w7.setCell ⟨w.heap.size+1,0,none⟩ (.int .i64 er)) (w.heap.size+1) 33 #[.int .i64 er]∧Block (w7.setCell ⟨w.heap.size+1,0,none⟩ (.int .i64 er)) w.heap.size 40 #[.pointer (some ⟨g,0,none⟩)]∧Block (w7.setCell ⟨w.heap.size+1,0,none⟩ (.int .i64 er)) gB 79 #[.slice Ab (Yk D).length cb]):=hid fun er=>by
   have hs:Chg (fun k=>k=w.heap.size+1) w7 (w7.setCell ⟨w.heap.size+1,0,none⟩ (.int .i64 er)):=(Chg.refl _ w7).Yo (w.heap.size+1) 0 _ fun _=>rfl
   refine ⟨(hC7.chg.mono fun k _ h=>.inl h).trans hs fun k _ h=>.inr h,hC7.lt.chg hs fun k hk e=>?_,hE7.Yo 0 _,hL7.chg hs (by omega),hB7.chg hs (by omega)⟩
   rcases hC7.U0 k hk with h1 | h1
   ·have:=hF0 k h1; omega
   ·omega
  clear hL7 hE7 hB7 hbL5 hbE5 hbB5 hrZ hdZ hfB qZ
  rcases hcase with ⟨ha,rfl,kv,rfl,hKv⟩ | ⟨ha,rfl⟩
  ·obtain ⟨Rs,hRs⟩ : ∃ Rs,Hid ((Zc (Yk D) Qs G).1=Rs):=⟨_,hid rfl⟩
   have hAd:Zc (Yk D) Qs G=(Rs,0):=Prod.ext hRs.out ha
   have HAd:=hid hAd
   obtain ⟨hc8,hL8,hE8,hl8,hB8⟩:=HSt.out 0;rw [hRs.out] at hKv hL8
   have hs:Chg (fun k=>k=w.heap.size+1) w7 (w7.setCell ⟨w.heap.size+1,0,none⟩ (.int .i64 0)):=(Chg.refl _ w7).Yo (w.heap.size+1) 0 _ fun _=>rfl
   have hK8:Xk (w7.setCell ⟨w.heap.size+1,0,none⟩ (.int .i64 0)) Z.heap.size kv (Vk (Yk D) Rs G):=by
    obtain ⟨xs,h1,h2⟩:=hKv
    have hno:∀ {v:Value}{e:TypeId}{size n:Nat}{ys:List Value},w7.ownsRow Z.heap.size e size v n ys→∀ k,v.ownBlock=some k→¬ k=w.heap.size+1:=fun hr k hk e=>by have:=(World.ownsRow.lt hr k hk).1; omega
    exact ⟨xs,hs.row h1 (hno h1),fun i q hi=>by
     obtain ⟨x,e,hx⟩:=h2 i q hi;exact ⟨x,e,hs.row hx (hno hx)⟩⟩
   obtain ⟨Ak,ck,rfl,hKl⟩:=hK8.form
   have hfoot:=hC7.U0
   have hz7:Z.heap.size≤(w7.setCell ⟨w.heap.size+1,0,none⟩ (.int .i64 0)).heap.size:=hc8.size
   clear hs hKv hK8 ha;go_upto_region 7 with fail
   generalize w7.setCell ⟨w.heap.size+1,0,none⟩ (.int .i64 0)=w8 at hc8 hL8 hE8 hl8 hB8 hKl hz7 ⊢
   have hnf:∀ k,Zg g (.slice Ad (Yk D).length cd) vv ds7 vs k→¬ k=w.heap.size+1:=fun k hk e=>by
    rcases hfoot k hk with h1 | h1
    ·have:=hF0 k h1; omega
    ·omega
   have hcw8:Chg (Zg g (.slice Ad (Yk D).length cd) vv ds vs) w w8:=(Chg.Yz hbZ (Nat.le_refl _)).trans hc8 fun k hk h=>h.elim id fun h=>by omega
   have hS8:=HS.out.chg hcw8 hR
   have hF8:=HF.out.mv Y1 (Mv.chg hcw8 hSf)
   have hgd:=hL8.dcs.good
   have hbk:=Yqd hm HBt.out HZ.out.dcs.good HAd.out
   have hnk:(Vk (Yk D) Rs G).length=nf:=by unfold Vk; rw [List.length_map]; exact HF.out.len
   have hnf8:nf≤1000:=by have:=HF.out.len; have:=HBt.out.few; omega
   have hCh:=Yaq hL8 hS8 hm hCl hc0 hc1 hKl hF8 hnf8 HBt.out.small HBt.out.val hnk hbk.1
   rw [hnk] at hCh ⊢
   have HCh:=hid hCh
   have HL8:=hid hL8
   have e8:=hE8.cell 0
   have f8:=hE8.free 0
   have q8:=hl8.cell 0
   clear hCh hgd hS8 hF8 hKl;go_wp2_with fail;refine HCh.out.mono ?_;rintro e w9 ⟨hcase,hB9w⟩
   have hE9:=hE8.below hB9w hE8.lt
   have hl9:=hl8.below hB9w hl8.lt
   have hB9:=hB8.below hB9w hB8.lt
   have hL9:=HL8.out.below hB9w
   have hc9:=hc8.trans (Chg.Yz (S:=fun k=>Zg g (.slice Ad (Yk D).length cd) vv ds vs k∨k=w.heap.size+1) hB9w (Nat.le_refl _)) fun _ _ h=>h
   have hnf9:=hnf
   have e9:=hE9.cell 0
   have f9:=hE9.free 0
   have q9:=hl9.cell 0
   clear e8 f8 q8 hB9w HCh
   rcases hcase with ⟨h1,rfl⟩ | ⟨h1,i,x,h2,h3,h4,rfl⟩ | ⟨h1,h2,Al,cl,rfl,hRw⟩
   ·obtain ⟨er,her⟩ : ∃ er:Int,Hid ((14:Int)=er):=⟨_,hid rfl⟩
    have hne14:¬ er=0:=by rw [← her.out]; decide
    have hOut:=hid (show Sn D Me V Qs Cs cnt G er Qs Cs cnt from .inr (.inr (.inl ⟨hmb.out,Rs,HAd.out,.inl ⟨h1,her.out.symm⟩,rfl,rfl,rfl⟩)))
    rw [her.out]
    have hei:¬ er=0:=hne14
    have hs9:Chg (fun k=>k=w.heap.size+1) w9 (w9.setCell ⟨w.heap.size+1,0,none⟩ (.int .i64 er)):=(Chg.refl _ w9).Yo (w.heap.size+1) 0 _ fun _=>rfl
    have hL9s:=hL9.chg hs9 hnf9
    have hE9s:=hE9.Yo 0 (.int .i64 er)
    have hl9s:=hl9.chg hs9 (by omega)
    have hB9s:=hB9.chg hs9 (by omega)
    have hc9s:=hc9.trans hs9 fun k _ h=>.inr h
    go_upto_region 10 with fail
    generalize w9.setCell ⟨w.heap.size+1,0,none⟩ (.int .i64 er)=wa at hL9s hE9s hl9s hB9s hc9s ⊢
    have ea:=hE9s.cell 0
    have fa:=hE9s.free 0
    have hsa:Chg (fun k=>k=w.heap.size+1) wa (wa.setCell ⟨w.heap.size+1,0,none⟩ (.int .i64 er)):=(Chg.refl _ wa).Yo (w.heap.size+1) 0 _ fun _=>rfl
    have hLb:=hid (hL9s.chg hsa hnf9)
    have HEb:=hid (hE9s.Yo 0 (.int .i64 er))
    have Hlb:=hid (hl9s.chg hsa (by omega))
    have HBb:=hid (hB9s.chg hsa (by omega))
    have Hcb:=hid (hc9s.trans hsa fun k _ h=>.inr h)
    have Hei:=hid hei
    clear hsa hs9;go_wp2_with fail;refine leaves_cons (f:=50) (args:=#[.pointer (some ⟨w.heap.size+1,0,none⟩),.pointer (some ⟨gB,0,none⟩),.pointer (some ⟨w.heap.size,0,none⟩)]) (by simp) (by simp [go_sem]) ?_
    refine (L1 (er:=er) Hei.out (HEb.out.cell 0) (HBb.out.cell 0) (Hlb.out.cell 0) (hLb.out.c3) (hLb.out.blk.free 3)).mono ?_;rintro e u' w'' ⟨rfl,rfl,rfl⟩;exact ⟨_,V5 rfl _ _ _ rfl ((HEb.out.chg ((Chg.refl (fun k=>k=g) _).Yo g 3 _ fun _=>rfl) (by omega)).cell 0),HRest.out _ _ _ _ Hcb.out hLb.out _ hOut.out⟩
   ·obtain ⟨er,her⟩ : ∃ er:Int,Hid ((Z5 (Cs.getD i []) x.1 x.2).2=er):=⟨_,hid rfl⟩
    have hOut:=hid (show Sn D Me V Qs Cs cnt G er Qs Cs cnt from .inr (.inr (.inl ⟨hmb.out,Rs,HAd.out,.inr ⟨h1,i,x,h2,h3,h4,her.out.symm⟩,rfl,rfl,rfl⟩)))
    rw [her.out] at h4 ⊢
    have hei:¬ er=0:=h4
    have hs9:Chg (fun k=>k=w.heap.size+1) w9 (w9.setCell ⟨w.heap.size+1,0,none⟩ (.int .i64 er)):=(Chg.refl _ w9).Yo (w.heap.size+1) 0 _ fun _=>rfl
    have hL9s:=hL9.chg hs9 hnf9
    have hE9s:=hE9.Yo 0 (.int .i64 er)
    have hl9s:=hl9.chg hs9 (by omega)
    have hB9s:=hB9.chg hs9 (by omega)
    have hc9s:=hc9.trans hs9 fun k _ h=>.inr h
    go_upto_region 10 with fail
    generalize w9.setCell ⟨w.heap.size+1,0,none⟩ (.int .i64 er)=wa at hL9s hE9s hl9s hB9s hc9s ⊢
    have ea:=hE9s.cell 0
    have fa:=hE9s.free 0
    have hsa:Chg (fun k=>k=w.heap.size+1) wa (wa.setCell ⟨w.heap.size+1,0,none⟩ (.int .i64 er)):=(Chg.refl _ wa).Yo (w.heap.size+1) 0 _ fun _=>rfl
    have hLb:=hid (hL9s.chg hsa hnf9)
    have HEb:=hid (hE9s.Yo 0 (.int .i64 er))
    have Hlb:=hid (hl9s.chg hsa (by omega))
    have HBb:=hid (hB9s.chg hsa (by omega))
    have Hcb:=hid (hc9s.trans hsa fun k _ h=>.inr h)
    have Hei:=hid hei
    clear hsa hs9;go_wp2_with fail;refine leaves_cons (f:=50) (args:=#[.pointer (some ⟨w.heap.size+1,0,none⟩),.pointer (some ⟨gB,0,none⟩),.pointer (some ⟨w.heap.size,0,none⟩)]) (by simp) (by simp [go_sem]) ?_
    refine (L1 (er:=er) Hei.out (HEb.out.cell 0) (HBb.out.cell 0) (Hlb.out.cell 0) (hLb.out.c3) (hLb.out.blk.free 3)).mono ?_;rintro e u' w'' ⟨rfl,rfl,rfl⟩;exact ⟨_,V5 rfl _ _ _ rfl ((HEb.out.chg ((Chg.refl (fun k=>k=g) _).Yo g 3 _ fun _=>rfl) (by omega)).cell 0),HRest.out _ _ _ _ Hcb.out hLb.out _ hOut.out⟩
   ·obtain ⟨nv,hnv⟩ : ∃ nv,Hid ((Ye D V).length=nv):=⟨_,hid rfl⟩
    rw [hnv.out] at hRw h2 hCl ⊢;obtain ⟨L,hL⟩ : ∃ L,Hid (To Rs (Ye D V) Cs G nv=L):=⟨_,hid rfl⟩;rw [hL.out] at hRw ⊢;obtain ⟨n,hn⟩ : ∃ n,Hid (L.length=n):=⟨_,hid rfl⟩;rw [hn.out] at hRw ⊢
    have hOut:=hid (show Sn D Me V Qs Cs cnt G 0 Rs (Vm Cs L) (cnt+(G.length:Int)) from .inr (.inr (.inr ⟨hmb.out,Rs,HAd.out,h1,by rw [hnv.out]; exact h2,rfl,rfl,by rw [hnv.out,hL.out],rfl⟩)))
    have hGl:=HF.out.len
    have hnb:n≤56:=by
     have h3:=G0 Rs (Ye D V) Cs G nv
     rw [hL.out,hn.out] at h3
     have h4:=Vt hm
     rw [hnv.out] at h4;exact Nat.le_trans h3 (Nat.mul_le_mul h4 HBt.out.few)
    have hwr:IntKind.i64.wrap (cnt+(nf:Int))=cnt+(nf:Int):=IntWalk.i64_in _ (by omega)
    have hview:∀ v,v<nv→(Ye D V).getD v []∈Ye D V:=fun v hv=>by
     rw [List.getD_eq_getElem?_getD,List.getElem?_eq_getElem (by rw [hnv.out]; exact hv)]
     exact List.getElem_mem _
    have hcub:∀ v,v<nv→Wr D.length Me.length (Cs.getD v []):=fun v hv=>by
     have h3:=hL9.cbs.len
     obtain ⟨c,hc⟩ : ∃ c,vs[v]?=some c:=⟨_,List.getElem?_eq_getElem (by omega)⟩
     exact (hL9.cbs.at_ v c hc).ok
    have HFit:Hid (∀ (i:Nat) (x:Chn),L[i]?=some x→Fits D.length Me.length nv (Vm Cs (L.take i)) G x):=hid fun i x hx=>by
     rw [← hL.out] at hx ⊢;exact Ypg hCl hcub h2 HBt.out.cell (fun v hv f hf=>hbk.2 _ (Sk hm _ (hview v hv)) f hf) hx
    have hs9:Chg (fun k=>k=w.heap.size+1) w9 (w9.setCell ⟨w.heap.size+1,0,none⟩ (.int .i64 0)):=(Chg.refl _ w9).Yo (w.heap.size+1) 0 _ fun _=>rfl
    have hL9s:=hL9.chg hs9 hnf9
    have hE9s:=hE9.Yo 0 (.int .i64 0)
    have hl9s:=hl9.chg hs9 (by omega)
    have hB9s:=hB9.chg hs9 (by omega)
    have hc9s:=hc9.trans hs9 fun k _ h=>.inr h
    have hR9s:=hRw.mv Tr (show Mv w9 (KeB w9) (w9.setCell ⟨w.heap.size+1,0,none⟩ (.int .i64 0)) (KeB (w9.setCell ⟨w.heap.size+1,0,none⟩ (.int .i64 0))) from fun k hb hl=>by
     obtain ⟨cs,T,hT,hk⟩:=hb
     have e:=hs9.block k hl fun e=>by
      subst e
      have hE:w9.heap[w.heap.size+1]?=some (.cells _ _ _):=hE9
      rw [hk] at hE;simp only [Option.some.injEq,Obj.cells.injEq] at hE
      rcases hT with h | h | h <;> (rw [h] at hE; exact absurd hE.2.1 (by decide))
     exact ⟨e,cs,T,hT,e.trans hk⟩)
    clear h1 h2 hcub hview hRw hL9 hE9 hl9 hB9 hc9 HRest hs9;go_upto_region 10 with fail
    generalize w9.setCell ⟨w.heap.size+1,0,none⟩ (.int .i64 0)=wa at hL9s hE9s hl9s hB9s hc9s hR9s ⊢
    have ea:=hE9s.cell 0
    have qa:=hl9s.cell 0
    have HL0:=hid hL9s
    have HR0:=hid hR9s
    have hZa:Z.heap.size≤wa.heap.size:=hc9s.size
    clear hR9s;go_wp2_with fail;go_loopw [46] (fun i wr=>∃ k:Nat,k≤n∧i=.int .i64 k∧Hid (∃ vs',LtM wr g (.slice B1 D.length b1) (.slice B2 Me.length b2) (.slice B3 n3 b3) (.slice Ad (Yk D).length cd) vv ds7 vs' (Yk D) Rs D.length Me.length (Vm Cs (L.take k)) cnt∧∀ q,Zg g (.slice Ad (Yk D).length cd) vv ds7 vs' q→Zg g (.slice Ad (Yk D).length cd) vv ds7 vs q∨wa.heap.size≤q)∧Hid (Row Mu 7 wr (KeB wr) Al n cl L)∧Chg (Zg g (.slice Ad (Yk D).length cd) vv ds7 vs) wa wr) (fun i _=>n - (intOf i).toNat)
    case atStart=>exact ⟨0,Nat.zero_le _,rfl,hid ⟨vs,HL0.out,fun q hq=>.inl hq⟩,HR0,Chg.refl _ _⟩
    case round =>
     obtain ⟨k,hk,rfl,hO,hRw,hC⟩:=hrel
     have hlw:=hl9s.chg hC fun hk=>by
      rcases hfoot _ hk with h1 | h1
      ·have:=hF0 _ h1; omega
      ·omega
     have hEw:=hE9s.chg hC fun hk=>hnf9 _ hk rfl
     have qw:=hlw.cell 0
     by_cases hlt:k<n
     ·obtain ⟨b,o,us,x,rfl,_,hbl,_,hcs,⟨A1,e1,c1,ad,e2,c2,q,A3,e3,c3,A4,e4,c4,A5,e5,c5,rfl,hxK,hxM,hxX⟩,hx⟩:=hRw.out.at_ hlt
      obtain ⟨⟨v,K⟩,M,q',Sx,Mx,Xx⟩:=x
      dsimp only at hxK hxM hxX hcs
      have hq:q=q':=by
       obtain ⟨n',_,_,_,_,_,_,_,_,_,_,_,_,e,_,_,_,ex⟩:=Tq hxX;simp only [List.cons.injEq,Value.int.injEq,true_and] at e;simp only [Prod.mk.injEq] at ex;rw [e.1,ex.1]
      subst hq;obtain ⟨vs',hLw,hfw⟩:=hO.out;obtain ⟨f1,f2,f3,f4,f5,f6,f7'⟩:=HFit.out k _ hx.out
      dsimp only at f1 f2 f3 f4 f5 f6 f7'
      have p0:wr.cell? ⟨b,o+k*7,none⟩=some (.int .i64 v):=hcs 0 _ rfl
      have p1:wr.cell? ⟨b,o+k*7+1,none⟩=some (.slice A1 e1 c1):=hcs 1 _ rfl
      have p2:wr.cell? ⟨b,o+k*7+2,none⟩=some (.slice (some ad) e2 c2):=hcs 2 _ rfl
      have p3:wr.cell? ⟨b,o+k*7+3,none⟩=some (.int .i64 q):=hcs 3 _ rfl
      have p4:wr.cell? ⟨b,o+k*7+4,none⟩=some (.slice A3 e3 c3):=hcs 4 _ rfl
      have p5:wr.cell? ⟨b,o+k*7+5,none⟩=some (.slice A4 e4 c4):=hcs 5 _ rfl
      have p6:wr.cell? ⟨b,o+k*7+6,none⟩=some (.slice A5 e5 c5):=hcs 6 _ rfl
      have i0:(0:Int)≤(k:Int):=by omega
      have i1:(k:Int)<(n:Int):=by omega
      have hba:=Ya wr (.cells #[.int .i64 v,.slice A1 e1 c1,.slice (some ad) e2 c2,.int .i64 q,.slice A3 e3 c3,.slice A4 e4 c4,.slice A5 e5 c5] 107)
      have hLa:=hLw.below hba
      have hcl:=hLw.cbs.len
      have hpl:(Vm Cs (L.take k)).length=nv:=by rw [B9]; exact hCl
      have hvl:v<(Vm Cs (L.take k)).length:=by omega
      have hcell:∀ e∈(Vm Cs (L.take k)).getD v [],Yw Me.length e.2:=by
       obtain ⟨c,hc⟩ : ∃ c,vs'[v]?=some c:=⟨_,List.getElem?_eq_getElem (by omega)⟩
       exact (hLw.cbs.at_ v c hc).ok.cell
      have hPut:=Ypf hLa hdim hvl (hxK.mv Yh (Mv.Yc hba _)).Qr (hxM.mv Zh (Mv.Yc hba _)) (by have:=hxM.1; have:=HBt.out.few; omega) (Zh _ _ _ _ _ _ (Mv.Yc hba _) hxX) f6 hcell f2 f3 f4 f7'
      have hnext:(Vm Cs (L.take k)).set v (Vn ((Vm Cs (L.take k)).getD v []) K (q,Sx,Mx,Xx))=Vm Cs (L.take (k+1)):=(Ygy hx.out).symm
      rw [hnext] at hPut
      have HPut:=hid hPut
      have HLa:=hid hLa
      have Hfw:=hid hfw
      have HRa:=hid (hRw.out.mv Tr (KeB.below hba))
      have HCa:=hid (hC.trans (Chg.Yz (S:=Zg g (.slice Ad (Yk D).length cd) vv ds7 vs) hba (Nat.le_refl _)) fun _ _ h=>h)
      have hbk':=(Ta wr (.int .i64 v) (.slice A1 e1 c1) (.slice (some ad) e2 c2) (.int .i64 q) (.slice A3 e3 c3) (.slice A4 e4 c4) (.slice A5 e5 c5))
      have z0:=hbk'.cell 0
      have z1:=hbk'.cell 1
      have z2:=hbk'.cell 2
      have z3:=hbk'.cell 3
      have z4:=hbk'.cell 4
      have z5:=hbk'.cell 5
      have z6:=hbk'.cell 6
      have lw:=hlw.lt
      have hza:=hC.size
      have hzb:=hba.size
      clear hO hRw hxK hxM hxX hx hcs hLw hfw hLa hcell hPut hnext hcl hpl hvl f2 f3 f4 f5 f6 f7' hbk' hba;go_wp2_with fail;refine HPut.out.mono ?_;rintro e wc ⟨rfl,vs2,hL2,hC2,hf2⟩
      have hFin:=hid (show (∃ vs',LtM wc g (.slice B1 D.length b1) (.slice B2 Me.length b2) (.slice B3 n3 b3) (.slice Ad (Yk D).length cd) vv ds7 vs' (Yk D) Rs D.length Me.length (Vm Cs (L.take (k+1))) cnt∧∀ q,Zg g (.slice Ad (Yk D).length cd) vv ds7 vs' q→Zg g (.slice Ad (Yk D).length cd) vv ds7 vs q∨wa.heap.size≤q)∧Row Mu 7 wc (KeB wc) (some ⟨b,o,none⟩) n cl L∧Chg (Zg g (.slice Ad (Yk D).length cd) vv ds7 vs) wa wc from
       ⟨⟨vs2,hL2,fun q hq=>by
        rcases hf2 q hq with h1 | h1
        ·exact Hfw.out q h1
        ·exact .inr (by omega)⟩,HRa.out.mv Tr (KeB.Ysf HLa.out hC2),HCa.out.trans hC2 fun q hq h=>by
        rcases Hfw.out q h with h1 | h1
        ·exact h1
        ·omega⟩)
      clear hL2 hC2 hf2 p0 p1 p2 p3 p4 p5 p6 z0 z1 z2 z3 z4 z5 z6;go_wp2_with fail;go_roundw
      case rel=>exact ⟨k+1,by omega,by go_num,hid hFin.out.1,hid hFin.out.2.1,hFin.out.2.2⟩
      case measure=>simp [intOf]; omega
     ·have hkn:k=n:=by omega
      obtain ⟨vs',hLw,hfw⟩:=hO.out;rw [List.take_of_length_le (by rw [hn.out,hkn]; exact Nat.le_refl _)] at hLw
      subst hkn
      have p5:=hLw.c5
      have pf:=hLw.blk.free 5
      have hg5:Chg (fun k=>k=g) wr (wr.setCell ⟨g,5,none⟩ (.int .i64 (cnt+(nf:Int)))):=(Chg.refl _ wr).Yo g 5 _ fun _=>rfl
      have HL5:=hid (hLw.Yuf (cnt+(nf:Int)))
      have HE5:=hid (hEw.chg hg5 fun e=>hnf9 g (.inl rfl) e.symm)
      have HC5:=hid (hC.trans (hg5.mono (S':=Zg g (.slice Ad (Yk D).length cd) vv ds7 vs) fun q _ h=>.inl h) fun _ _ h=>h)
      have Hfw:=hid hfw
      have ew:=hEw.cell 0
      have ewf:=hEw.free 0
      have hsf:Chg (fun k=>k=w.heap.size+1) (wr.setCell ⟨g,5,none⟩ (.int .i64 (cnt+(nf:Int)))) ((wr.setCell ⟨g,5,none⟩ (.int .i64 (cnt+(nf:Int)))).setCell ⟨w.heap.size+1,0,none⟩ (.int .i64 0)):=(Chg.refl _ _).Yo (w.heap.size+1) 0 _ fun _=>rfl
      have hlEa:=hE9s.lt
      have HEf:=hid (HE5.out.Yo 0 (.int .i64 0))
      have hOut':=hOut.out
      rw [hGl] at hOut'
      have HF':=hid (show P8 w (Zg g (.slice Ad (Yk D).length cd) vv ds vs) g (.slice B1 D.length b1) (.slice B2 Me.length b2) (.slice B3 n3 b3) vv D.length Me.length D Me V Qs Cs cnt G (.returned (.int .i64 0)) ((wr.setCell ⟨g,5,none⟩ (.int .i64 (cnt+(nf:Int)))).setCell ⟨w.heap.size+1,0,none⟩ (.int .i64 0)) from
       ⟨_,ds7,vs',Rs,Vm Cs L,_,0,rfl,HL5.out.chg hsf fun q hq e=>(by
        rcases Hfw.out q hq with h1 | h1
        ·exact hnf9 q h1 e
        ·omega),((((Chg.Yz (S:=Zg g (.slice Ad (Yk D).length cd) vv ds vs) hbZ (Nat.le_refl _)).trans hc9s fun q hq h=>h.elim id fun h=>(by omega)).trans HC5.out fun q hq h=>(by
        rcases hfoot q h with h1 | h1
        ·exact h1
        ·omega)).trans hsf fun q hq h=>(by omega)),fun q hq=>(by
        rcases Hfw.out q hq with h1 | h1
        ·rcases hfoot q h1 with h2 | h2
         ·exact .inl h2
         ·exact .inr (by omega)
        ·exact .inr (by omega)),hOut'⟩)
      clear hO hRw hLw hfw hg5 hsf hOut'
      have gE:=HE5.out.cell 0
      have gF:=HE5.out.free 0
      go_wp2_with fail;refine leaves_cons (f:=50) (args:=#[.pointer (some ⟨w.heap.size+1,0,none⟩),.pointer (some ⟨gB,0,none⟩),.pointer (some ⟨w.heap.size,0,none⟩)]) (by simp) (by simp [go_sem]) ?_
      refine (Yi2 (HEf.out.cell 0)).mono ?_;rintro e u' w'' ⟨rfl,rfl,rfl⟩;exact ⟨_,V5 rfl _ _ _ rfl (HEf.out.cell 0),HF'.out⟩
  ·have hOut:=hid (show Sn D Me V Qs Cs cnt G (((Zc (Yk D) Qs G).2:Nat):Int) Qs Cs cnt from .inr (.inl ⟨hmb.out,rfl,ha,rfl,rfl,rfl⟩))
   obtain ⟨er,her⟩ : ∃ er:Nat,Hid ((Zc (Yk D) Qs G).2=er):=⟨_,hid rfl⟩;rw [her.out] at ha hOut ⊢
   have hei:¬ ((er:Nat):Int)=0:=by omega
   obtain ⟨hc8,hL8,hE8,hl8,hB8⟩:=HSt.out ((er:Nat):Int);go_upto_region 7 with fail
   generalize w7.setCell ⟨w.heap.size+1,0,none⟩ (.int .i64 ((er:Nat):Int))=w8 at hc8 hL8 hE8 hl8 hB8 ⊢
   have e8:=hE8.cell 0
   have f8:=hE8.free 0
   have hs:Chg (fun k=>k=w.heap.size+1) w8 (w8.setCell ⟨w.heap.size+1,0,none⟩ (.int .i64 ((er:Nat):Int))):=(Chg.refl _ w8).Yo (w.heap.size+1) 0 _ fun _=>rfl
   have hFt:=hC7.U0
   have hL9:=hid (hL8.chg hs fun k hk e=>by
    rcases hFt k hk with h1 | h1
    ·have:=hF0 k h1; omega
    ·omega)
   have HE9:=hid (hE8.Yo 0 (.int .i64 ((er:Nat):Int)))
   have Hl9:=hid (hl8.chg hs (by omega))
   have HB9:=hid (hB8.chg hs (by omega))
   have Hc9:=hid (hc8.trans hs fun k _ h=>.inr h)
   have Hei:=hid hei
   clear hs;go_wp2_with fail;refine leaves_cons (f:=50) (args:=#[.pointer (some ⟨w.heap.size+1,0,none⟩),.pointer (some ⟨gB,0,none⟩),.pointer (some ⟨w.heap.size,0,none⟩)]) (by simp) (by simp [go_sem]) ?_
   refine (L1 (er:=((er:Nat):Int)) Hei.out (HE9.out.cell 0) (HB9.out.cell 0) (Hl9.out.cell 0) (hL9.out.c3) (hL9.out.blk.free 3)).mono ?_;rintro e u' w'' ⟨rfl,rfl,rfl⟩;exact ⟨_,V5 rfl _ _ _ rfl ((HE9.out.chg ((Chg.refl (fun k=>k=g) _).Yo g 3 _ fun _=>rfl) (by omega)).cell 0),HRest.out _ _ _ _ Hc9.out hL9.out _ hOut.out⟩
 ·have hmi:¬ ((mb:Nat):Int)=0:=by omega
  have hF:=hid (show P8 w (Zg g dv vv ds vs) g (.slice B1 D.length b1) (.slice B2 Me.length b2) (.slice B3 n3 b3) vv D.length Me.length D Me V Qs Cs cnt G (.returned (.int .i64 ((mb:Nat):Int))) (Y.setCell ⟨w.heap.size+1,0,none⟩ (.int .i64 ((mb:Nat):Int))) from by
   have hb:=hbY.setCell (p:=⟨w.heap.size+1,0,none⟩) (Nat.le_succ _) (.int .i64 ((mb:Nat):Int))
   exact ⟨dv,ds,vs,Qs,Cs,cnt,_,rfl,HM.out.below hb,Chg.Yz hb (Nat.le_refl _),fun k hk=>.inl hk,.inl ⟨by rw [hmb.out],by rw [hmb.out]; exact hmz,rfl,rfl,rfl⟩⟩)
  have hbE':=(hbEY.Yo 0 (.int .i64 ((mb:Nat):Int))).cell 0
  have HE':=hid (show (Y.setCell ⟨w.heap.size+1,0,none⟩ (.int .i64 ((mb:Nat):Int))).cell? ⟨w.heap.size+1,0,none⟩=some (.int .i64 ((mb:Nat):Int)) from hbE')
  clear hbE';go_wp2_with fail;exact ⟨_,V5 rfl _ _ _ rfl HE'.out,hF.out⟩
section
section
variable {D:List Yg}{M:List Txt}{V:List (List Int)}{E:List Hld}{Qs Qs' : List (List Pth)}{Cs Cs' : List Cub}{cnt cnt' er:Int}{G:List Fct}
theorem Yi3 (hL:Tk D M V E Qs) (hI:Wc D M V E Qs Cs) (hC:∀ i,i<(Ye D V).length→Wr D.length M.length (Cs.getD i [])) (hn:cnt=Pc E) (h:Sn D M V Qs Cs cnt G er Qs' Cs' cnt') :
  er=((Y7 D M V E Qs G).2:Nat)∧Qs'=(Y7 D M V E Qs G).1.2∧Wc D M V (Y7 D M V E Qs G).1.1 Qs' Cs'∧cnt'=Pc (Y7 D M V E Qs G).1.1:=by
 have hall:∀ i,Wr D.length M.length (Cs.getD i []):=fun i=>by
  by_cases hi:i<(Ye D V).length
  ·exact hC i hi
  ·rw [List.getD_eq_getElem?_getD,List.getElem?_eq_none (by rw [hI.len]; omega)]
   exact Wr.Zj _ _
 have hkey:∀ Rs,Xu D M V G=0→Zc (Yk D) Qs G=(Rs,0)→Wc D M V E Rs Cs∧(∀ f∈G,Yw M.length (Y8 f))∧∀ v∈Ye D V,∀ i,(Ye D V)[i]?=some v→(okV (Cs.getD i []) (X6 (kC Rs v) Y8 G)↔okF M.length (kP v) Xl (E++G.map Zo)):=fun Rs h1 h2=>by
  obtain ⟨g1,g2,g3⟩:=Ry hL.good h2
  have hB:=Yr5 hL.may h1
  have hI':=hI.grown hL g2 g1.J1
  exact ⟨hI',hB.cell,fun v hv i hi=>Yr0 hL.cell hB.cell g1.J1 (fun e he=>(hL.has v hv e he).grown g2) (fun f hf=>g3 v (Sk hL.may v hv) f hf (hB.len f hf)) (hI'.at_ i v hi) (hL.ok v hv) (hall i).cell⟩
 rcases h with ⟨rfl,h1,a,b,rfl⟩ | ⟨h1,rfl,h2,a,b,rfl⟩ | ⟨h1,Rs,h2,h3,a,b,rfl⟩ | ⟨h1,Rs,h2,h3,h4,rfl,a,b,rfl⟩ <;> (have a:=a.symm; have b:=b.symm; subst a b)
 ·rw [Qg h1]
  exact ⟨rfl,rfl,hI,hn⟩
 ·rw [Rb h1 h2]
  exact ⟨rfl,rfl,hI,hn⟩
 ·have e2:(Zc (Yk D) Qs G).2=0:=by rw [h2]
  obtain ⟨hI',hG,hok⟩:=hkey Rs h1 h2
  have fin:er=14∧Y7 D M V E Qs G=((E,Qs),14):=by
   rcases h3 with ⟨hb,rfl⟩ | ⟨hb,i,x,hi,hx,hne,rfl⟩
   ·refine ⟨rfl,?_⟩
    by_cases hf:∀ v∈Ye D V,okF M.length (kP v) Xl (E++G.map Zo)
    ·exact Jl h1 e2 (by rw [← hn]; exact hb)
    ·obtain ⟨v,hv,hbad⟩ : ∃ v∈Ye D V,¬ okF M.length (kP v) Xl (E++G.map Zo):=Classical.byContradiction fun hc=>hf fun v hv=>Classical.byContradiction fun hc'=>hc ⟨v,hv,hc'⟩
     exact Qf h1 e2 hv hbad
   ·have hiv:(Ye D V)[i]?=some ((Ye D V).getD i []):=by rw [List.getD_eq_getElem?_getD,List.getElem?_eq_getElem hi]; rfl
    have hv:=List.mem_of_getElem? hiv
    refine ⟨?_,Qf h1 e2 hv fun hc=>hne (((hok _ hv i hiv).2 hc) x hx)⟩
    obtain ⟨⟨f,hf,hfk⟩,hxc⟩:=Ur.1 hx
    have hM:∀ c∈x.2,Yw M.length c:=fun c hc=>by
     rw [hxc] at hc;unfold Yi at hc;obtain ⟨f',hf',rfl⟩:=List.mem_map.1 hc;exact hG f' (List.mem_filter.1 hf').1
    have hMn:x.2≠[]:=fun h0=>by
     have h5:Y8 f∈Yi (kC Rs ((Ye D V).getD i [])) Y8 G x.1:=by unfold Yi; exact List.mem_map.2 ⟨f,List.mem_filter.2 ⟨hf,decide_eq_true hfk⟩,rfl⟩
     rw [← hxc,h0] at h5
     cases h5
    have hcs:∀ c∈(Zb (Cs.getD i []) x.1).toList++x.2,Yw M.length c:=fun c hc=>by
     rcases List.mem_append.1 hc with hc | hc
     ·rcases hq:Zb (Cs.getD i []) x.1 with _ | y
      ·rw [hq] at hc; simp at hc
      ·rw [hq] at hc
       simp at hc;subst hc;exact (hall i).cell _ (Xz hq)
     ·exact hM c hc
    have hcells:=Qh hcs (fun h0=>hMn (List.append_eq_nil_iff.1 h0).2)
    unfold Z5 at hne ⊢;rw [hcells] at hne ⊢
    by_cases hmay:Zm (Yq M.length ((Zb (Cs.getD i []) x.1).toList++x.2))
    ·rw [if_pos hmay] at hne
     exact absurd rfl hne
    ·rw [if_neg hmay]
  rw [fin.2];exact ⟨fin.1,rfl,hI,hn⟩
 ·have e2:(Zc (Yk D) Qs G).2=0:=by rw [h2]
  have e1:(Zc (Yk D) Qs G).1=Rs:=by rw [h2]
  obtain ⟨hI',hG,hok⟩:=hkey Rs h1 h2
  have hokV:∀ i v,(Ye D V)[i]?=some v→okV (Cs.getD i []) (X6 (kC Rs v) Y8 G):=fun i v hi=>by
   have hil:=(List.getElem?_eq_some_iff.1 hi).1
   have h5:=h4 i hil
   have hv:(Ye D V).getD i []=v:=by rw [List.getD_eq_getElem?_getD,hi]; rfl
   rw [hv] at h5;exact h5
  have hap:=L3 (E:=E) h1 e2 (fun v hv=>by
   obtain ⟨i,hi⟩:=List.getElem?_of_mem hv;exact (hok v hv i hi).1 (hokV i v hi)) (by rw [← hn]; exact h3)
  rw [hap,e1];exact ⟨rfl,rfl,Wc.put hL.cell hG hI' (fun i=>(hall i).ris) (fun i=>(hall i).cell) hokV,by rw [G7,Qj,hn]⟩
end
end
theorem En (h:Z3 D M V):Sq D∧∀ s∈M,s.length≤maxLen:=by
 have hs:=S8 h
 refine ⟨fun d hd=>⟨?_,fun s hs'=>?_⟩,fun s hs'=>?_⟩
 ·have:=(hs.d.2 d hd).1; unfold maxLen; omega
 ·have:=(hs.d.2 d hd).2.2 s hs'; unfold maxLen; omega
 ·have:=hs.m.2 s hs'; unfold maxLen; omega
theorem Ymi (h:∀ e∈E,Yw m e.2):0≤Pc E:=by
 unfold Pc;refine (Df fun x hx=>?_).1
 obtain ⟨e,he,rfl⟩:=List.mem_map.1 hx
 have h1:=h e he
 rcases h1.1.2.2.2 with h2 | h2
 ·exact absurd (by rw [h2]; rfl) h1.2.1
 ·have:=h2.1; have:=h2.2.1; omega
theorem Yb8 (h:Lt w R g F D M V Qs Cs (Pc E)) (hRl:∀ k,R k→k<w.heap.size) (hL:Tk D M V E Qs) (hI:Wc D M V E Qs Cs) {Af:Option Addr}{nf cf:Nat}{G:List Fct}(hF:Tj w S Af nf cf G) (hSf:∀ b,S b→¬ F b) :
  Calls Tryz.prog 25 #[.pointer (some ⟨g,0,none⟩),.slice Af nf cf] w fun e w'=>e=.returned (.int .i64 ((Y7 D M V E Qs G).2:Nat))∧∃ F' Cs',Lt w' R g F' D M V (Y7 D M V E Qs G).1.2 Cs' (Pc (Y7 D M V E Qs G).1.1)∧Wc D M V (Y7 D M V E Qs G).1.1 (Y7 D M V E Qs G).1.2 Cs'∧Chg F w w'∧∀ k,F' k→F k∨w.heap.size≤k:=by
 obtain ⟨dv,vv,ds,vs,A1,n1,c1,A2,n2,c2,A3,n3,c3,h1,h2,h3,h4,hm,hCl⟩:=h
 have e1:=h2.d.1
 have e2:=h2.m.1
 subst e1 e2
 have hfit:=En hm
 have hC:∀ i,i<(Ye D V).length→Wr D.length M.length (Cs.getD i []):=fun i hi=>by
  have h5:=h1.cbs.len
  obtain ⟨c,hc⟩ : ∃ c,vs[i]?=some c:=⟨_,List.getElem?_eq_getElem (by omega)⟩
  exact (h1.cbs.at_ i c hc).ok
 refine (Yfg h1 h2 (fun k hk hf=>h4 k hk ((h3 k).2 hf)) hm hCl (Ymi hL.cell) hL.cnt hF (fun b hb hf=>hSf b hb ((h3 b).2 hf)) hfit.1 hfit.2).mono ?_
 rintro e w' ⟨dv',ds',vs',Qs',Cs',cnt',er,rfl,hL',hc',hf',ho⟩;obtain ⟨rfl,rfl,hI',rfl⟩:=Yi3 hL hI hC rfl ho
 have hc:Chg F w w':=hc'.mono fun k _ hk=>(h3 k).2 hk
 refine ⟨rfl,Zg g dv' vv ds' vs',Cs',⟨dv',vv,ds',vs',A1,_,c1,A2,_,c2,A3,n3,c3,hL',h2.chg hc h4,fun k=>Iff.rfl,fun k hk hf=>?_,hm,hI'.len⟩,hI',hc,fun k hk=>(hf' k hk).imp (fun h=>(h3 k).2 h) id⟩
 rcases hf' k hf with h5 | h5
 ·exact h4 k hk ((h3 k).2 h5)
 ·have:=hRl k hk; omega
section
section
variable {D:List Yg}{M:List Txt}{V:List (List Int)}{E:List Hld}{Qs:List (List Pth)}{Cs:List Cub}
theorem Ao (hL:Tk D M V E Qs) (hI:Wc D M V E Qs Cs) {i:Nat}{v:List Int}(hi:(Ye D V)[i]?=some v):(J8 Qs (Cs.getD i [])).Pairwise fun a b=>a.1≠b.1:=by
 unfold J8;rw [List.pairwise_map]
 have hC:=hI.at_ i v hi
 have h0:Rw Qs:=hL.good.J1
 have hP:=hL.has v (List.mem_of_getElem? hi)
 refine List.Pairwise.imp_of_mem (fun {a b} ha hb hl e=>?_) hC.ris
 obtain ⟨⟨f,hf,hk⟩,_⟩:=(hC.all a).1 ha;obtain ⟨⟨g,hg,hk'⟩,_⟩:=(hC.all b).1 hb;refine Uo hl ?_;rw [← hk,← hk',Pw h0 hP f hf g hg,← Hw h0 hP f hf,← Hw h0 hP g hg,hk,hk'];exact e
theorem Yih:∀ {L:Rws},L.Pairwise (fun a b=>¬ Z0 b.1 a.1)→L.Pairwise (fun a b=>a.1≠b.1)→Ds L
 | [],_,_=>List.Pairwise.nil
 | x :: L,h,h'=>by
  obtain ⟨h1,h2⟩:=List.pairwise_cons.1 h;obtain ⟨g1,g2⟩:=List.pairwise_cons.1 h';refine List.pairwise_cons.2 ⟨fun y hy=>?_,Yih h2 g2⟩
  rcases Kv x.1 y.1 with h3 | h3 | h3
  ·exact h3
  ·exact absurd h3 (g1 y hy)
  ·exact absurd h3 (h1 y hy)
theorem Yrs (hL:Tk D M V E Qs) (hI:Wc D M V E Qs Cs) {i:Nat}{v:List Int}(hi:(Ye D V)[i]?=some v) {L:Rws}(hp:L.Perm (J8 Qs (Cs.getD i []))) (hs:L.Pairwise fun a b=>¬ Z0 b.1 a.1):W7 M.length (kP v) Xl E L:=by
 have h0:Rw Qs:=hL.good.J1
 have hP:=hL.has v (List.mem_of_getElem? hi)
 refine U3.rows (hI.at_ i v hi) (Pw h0 hP) (Us Qs) (Hw h0 hP) (Yih hs ?_) hp;exact (hp.symm.pairwise_iff (fun h e=>h e.symm)).1 (Ao hL hI hi)
theorem Ylc (hL:Tk D M V E Qs) (hI:Wc D M V E Qs Cs) {i:Nat}{v:List Int}(hi:(Ye D V)[i]?=some v) (x:Zd × PC):x∈J8 Qs (Cs.getD i [])↔(∃ f∈E,kP v f=x.1)∧x.2=Yq M.length (Yi (kP v) Xl E x.1):=by
 have hC:=hI.at_ i v hi
 have h0:Rw Qs:=hL.good.J1
 have hP:=hL.has v (List.mem_of_getElem? hi)
 have hal:=Pw h0 hP
 have hpa:=Hw h0 hP
 unfold J8;rw [List.mem_map];constructor
 ·rintro ⟨e,he,rfl⟩
  obtain ⟨⟨f,hf,hk⟩,hc⟩:=(hC.all e).1 he
  have h2:Us Qs e.1=kP v f:=by rw [← hk]; exact hpa f hf
  refine ⟨⟨f,hf,h2.symm⟩,?_⟩
  show e.2=Yq M.length (Yi (kP v) Xl E (Us Qs e.1))
  rw [hc,← hk,Ue hal hf,hpa f hf]
 ·rintro ⟨⟨f,hf,hk⟩,hc⟩
  refine ⟨(kC Qs v f,Yq M.length (Yi (kC Qs v) Xl E (kC Qs v f))),(hC.all _).2 ⟨⟨f,hf,rfl⟩,rfl⟩,Prod.ext ?_ ?_⟩
  ·show Us Qs (kC Qs v f)=x.1
   rw [hpa f hf,hk]
  ·show Yq M.length (Yi (kC Qs v) Xl E (kC Qs v f))=x.2
   rw [Ue hal hf,hc,hk]
theorem E8 (hL:Tk D M V E Qs) (hI:Wc D M V E Qs Cs) {i:Nat}{v:List Int}(hi:(Ye D V)[i]?=some v) {L:Rws}(h:W7 M.length (kP v) Xl E L):(Cs.getD i []).length=L.length:=by
 have h1:(J8 Qs (Cs.getD i [])).Perm L:=(List.perm_ext_iff_of_nodup ((Ao hL hI hi).imp fun h e=>h (congrArg Prod.fst e)) (h.ris.imp fun h e=>Ydv h (congrArg Prod.fst e))).2 fun x=>(Ylc hL hI hi x).trans (h.all x).symm
 rw [← h1.length_eq];unfold J8;rw [List.length_map]
end
section
variable {w:World}{R F:Nat→Prop}{g:Nat}{D:List Yg}{M:List Txt}{V:List (List Int)}{E:List Hld}{Qs:List (List Pth)}{Cs:List Cub}{cnt:Int}
end
end
section
/-! ### what came in -/
theorem Yqk {w:World}{cs:List Value}(h:RC Tryz.prog w 54 cs):∃ d,Po w (fun b=>b<w.heap.size) cs d∧(d.1.length≤maxLen∧∀ s∈d.2,s.length≤maxLen):=by
 have hl:=h.len Tryz.underlying54
 rw [Cj] at hl
 have f1:=h.field Tryz.underlying54 0 _ rfl
 have f2:=h.field Tryz.underlying54 1 _ rfl
 obtain ⟨x,h1,k1⟩:=RC.Yy (S:=fun b=>b<w.heap.size) Tryz.underlying9 f1
 obtain ⟨L,h2,k2⟩:=RC.Zf (E:=Yy) (G:=fun s=>s.length≤maxLen) Tryz.underlying23 Ul (by decide) (fun cs h=>RC.Yy Tryz.underlying9 h) f2
 refine ⟨(x,L),⟨?_,?_⟩,k1,k2⟩
 ·have h1:Yy w (fun b=>b<w.heap.size) ((cs.drop 0).take (Tryz.prog.cellsOf 9)) x:=h1
  rw [Ul] at h1;exact h1
 ·have h2:Zf Yy 1 w (fun b=>b<w.heap.size) ((cs.drop 1).take (Tryz.prog.cellsOf 23)) L:=h2
  rw [Th,List.take_of_length_le (by simp; omega)] at h2
  exact h2
theorem H9 {w:World}{cs:List Value}(h:RC Tryz.prog w 26 cs):∃ (A1:Option Addr) (n1 c1:Nat) (A2:Option Addr) (n2 c2:Nat) (A3:Option Addr) (n3 c3:Nat) (D:List Yg) (M:List Txt) (V:List (List Int)),
  cs=[.slice A1 n1 c1,.slice A2 n2 c2,.slice A3 n3 c3]∧Wm w (fun b=>b<w.heap.size) A1 n1 c1 A2 n2 c2 A3 n3 c3 D M V∧Sq D∧∀ s∈M,s.length≤maxLen:=by
 have hl:=h.len Tryz.underlying26
 rw [Yap] at hl
 have f1:=h.field Tryz.underlying26 0 _ rfl
 have f2:=h.field Tryz.underlying26 1 _ rfl
 have f3:=h.field Tryz.underlying26 2 _ rfl
 obtain ⟨A1,n1,c1,e1⟩:=f1.Uh Tryz.underlying22;obtain ⟨A2,n2,c2,e2⟩:=f2.Uh Tryz.underlying23;obtain ⟨A3,n3,c3,e3⟩:=f3.Uh Tryz.underlying24;rw [e1] at f1;rw [e2] at f2;rw [e3] at f3;obtain ⟨D,h1,k1⟩:=f1.row (E:=Po) Tryz.underlying22 Cj (by decide) fun _ h=>Yqk h
 obtain ⟨M,h2,k2⟩:=f2.row (E:=Yy) (G:=fun s=>s.length≤maxLen) Tryz.underlying23 Ul (by decide) fun _ h=>RC.Yy Tryz.underlying9 h
 obtain ⟨V,h3,_⟩:=f3.row (E:=Zf Yr 1) Tryz.underlying24 Nn (by decide) fun _ h=>RC.Zf (E:=Yr) Tryz.underlying27 S1 (by decide) (fun _ h=>RC.Yr Tryz.underlying3 h) h
 have e1:(cs.drop 0).take (Tryz.prog.cellsOf 22)=[.slice A1 n1 c1]:=e1
 have e2:(cs.drop 1).take (Tryz.prog.cellsOf 23)=[.slice A2 n2 c2]:=e2
 have e3:(cs.drop 2).take (Tryz.prog.cellsOf 24)=[.slice A3 n3 c3]:=e3
 rw [Yfk] at e1;rw [Th] at e2;rw [Ycl] at e3
 match cs,hl with
 | [u0,u1,u2],_ =>
  simp at e1 e2 e3;subst e1 e2 e3;exact ⟨A1,n1,c1,A2,n2,c2,A3,n3,c3,D,M,V,rfl,⟨h1,h2,h3⟩,k1,k2⟩
abbrev Yfy:ElT (List Fct):=Zf O8 2
theorem Mt:Yfy.Ok:=Xm Y1
theorem Gq {w:World}{a:Option Addr}{n c:Nat}(h:RC Tryz.prog w 39 [.slice a n c]):∃ L,Row Yfy 1 w (fun b=>b<w.heap.size) a n c L:=by
 obtain ⟨L,h1,_⟩:=h.row (E:=Yfy) (G:=fun _=>True) (sz:=1) Tryz.underlying39 (by kernel_rfl) (by decide) fun cs h=>by
  obtain ⟨l,h1,_⟩:=RC.Zf (E:=O8) (G:=Yr2) Tryz.underlying61 Gy (by decide) (fun cs h=>Yqn h) h
  exact ⟨l,h1,trivial⟩
 exact ⟨L,h1⟩
/-! ### a lattice,its blocks F,its schema's R,all Yho B -/
structure LSt (y:World) (g:Nat) (F R:Nat→Prop) (B:Nat) (D:List Yg) (M:List Txt) (V:List (List Int)) (E:List Hld) (Qs:List (List Pth)):Prop where
 ex:∃ Cs,Lt y R g F D M V Qs Cs (Pc E)∧Wc D M V E Qs Cs
 ok:Tk D M V E Qs
 whole:Qc (Yk D) Qs
 low:∀ k,F k→B≤k
 rlt:∀ k,R k→k<y.heap.size
section
variable {y y' : World}{g:Nat}{F R S:Nat→Prop}{B:Nat}{D:List Yg}{M:List Txt}{V:List (List Int)}{E:List Hld}{Qs:List (List Pth)}
theorem LSt.chg (h:LSt y g F R B D M V E Qs) (hc:Chg S y y') (hF:∀ k,F k→¬ S k) (hR:∀ k,R k→¬ S k):LSt y' g F R B D M V E Qs:=by
 obtain ⟨Cs,h1,h2⟩:=h.ex;exact ⟨⟨Cs,h1.chg hc hF hR,h2⟩,h.ok,h.whole,h.low,fun k hk=>Nat.lt_of_lt_of_le (h.rlt k hk) hc.size⟩
theorem LSt.below (h:LSt y g F R B D M V E Qs) (hb:Below y.heap.size y y'):LSt y' g F R B D M V E Qs:=h.chg (S:=fun _=>False) (Chg.Yz hb (Nat.le_refl _)) (fun _ _ h=>h) fun _ _ h=>h
theorem LSt.drewN (h:LSt y g F R B D M V E Qs) (k:Nat):LSt (y.drewN k) g F R B D M V E Qs:=h.below (below_drewN (Below.refl _ _) k)
theorem LSt.lt (h:LSt y g F R B D M V E Qs) {k:Nat}(hk:F k):k<y.heap.size:=by
 obtain ⟨Cs,h1,h2⟩:=h.ex;exact h1.lt hk
theorem Yi4 {G:List Fct}(h:(Y7 D M V E Qs G).2≠0):(Y7 D M V E Qs G).1=(E,Qs):=by
 unfold Y7 at h ⊢
 split
 ·rfl
 ·rename_i h1
  rw [if_neg h1] at h
  split
  ·rfl
  ·rename_i h2
   rw [if_neg h2] at h
   split
   ·rfl
   ·rename_i h3
    rw [if_neg h3] at h
    split
    ·rfl
    ·rename_i h4
     rw [if_neg h4] at h;exact absurd rfl h
theorem Gn {G:List Fct}(h:(Y7 D M V E Qs G).2=0):(Y7 D M V E Qs G).1=(E++G.map Zo,(Zc (Yk D) Qs G).1):=by
 unfold Y7 at h ⊢
 split
 ·rename_i h1
  rw [if_pos h1] at h;exact absurd h h1
 ·rename_i h1
  rw [if_neg h1] at h
  split
  ·rename_i h2
   rw [if_pos h2] at h;exact absurd h h2
  ·rename_i h2
   rw [if_neg h2] at h
   split
   ·rename_i h3
    rw [if_pos h3] at h
    cases h
   ·rename_i h3
    rw [if_neg h3] at h
    split
    ·rename_i h4
     rw [if_pos h4] at h
     cases h
    ·rfl
theorem Yed {A1 A2 A3:Option Addr}{n1 c1 n2 c2 n3 c3:Nat}{T:Nat→Prop}(h:Wm y T A1 n1 c1 A2 n2 c2 A3 n3 c3 D M V) (hf:Sq D) (hm:∀ s∈M,s.length≤maxLen) (hyes:Z3 D M V) :
  Calls Tryz.prog 24 #[V6 A1 n1 c1 A2 n2 c2 A3 n3 c3] y fun e y'=>∃ g F R,e=.returned (.tuple #[.pointer (some ⟨g,0,none⟩),.int .i64 0])∧LSt y' g F R y.heap.size D M V [] (D.map fun _=>[])∧(∀ k,R k→y.heap.size≤k)∧Below y.heap.size y y':=by
 refine (Yov h hf hm hyes).mono ?_;rintro e y' ⟨g,F,R,rfl,hL,hF,hR,hB⟩;exact ⟨g,F,R,rfl,⟨⟨_,hL,Wc.begin D M V _⟩,Tk.begin hyes,Dk D,hF,fun k hk=>(hR k hk).2⟩,fun k hk=>(hR k hk).1,hB⟩
theorem Gp (h:LSt y g F R B D M V E Qs) (hB:B≤y.heap.size) {Af:Option Addr}{nf cf:Nat}{G:List Fct}(hG:Tj y S Af nf cf G) (hS:∀ b,S b→¬ F b) :
  Calls Tryz.prog 25 #[.pointer (some ⟨g,0,none⟩),.slice Af nf cf] y fun e y'=>e=.returned (.int .i64 ((Y7 D M V E Qs G).2:Nat))∧∃ F',LSt y' g F' R B D M V (Y7 D M V E Qs G).1.1 (Y7 D M V E Qs G).1.2∧Chg F y y'∧∀ k,F' k→F k∨y.heap.size≤k:=by
 obtain ⟨Cs,h1,h2⟩:=h.ex;refine (Yb8 h1 h.rlt h.ok h2 hG hS).mono ?_;rintro e y' ⟨rfl,F',Cs',h3,h4,hc,hf⟩;refine ⟨rfl,F',⟨⟨Cs',h3,h4⟩,h.ok.apply G,Yak h.ok.good h.whole G,fun k hk=>?_,fun k hk=>Nat.lt_of_lt_of_le (h.rlt k hk) hc.size⟩,hc,hf⟩
 rcases hf k hk with h5 | h5
 ·exact h.low k h5
 ·omega
theorem Yfh (h:LSt y g F R B D M V E Qs) (hB:B≤y.heap.size) {Af:Option Addr}{nf cf:Nat}{G:List Fct}(hG:Tj y S Af nf cf G) (hS:∀ b,S b→¬ F b) (hx:(Y7 D M V E Qs G).2=0) :
  Calls Tryz.prog 25 #[.pointer (some ⟨g,0,none⟩),.slice Af nf cf] y fun e y'=>e=.returned (.int .i64 0)∧∃ F',LSt y' g F' R B D M V (E++G.map Zo) (Zc (Yk D) Qs G).1∧Chg F y y'∧∀ k,F' k→F k∨y.heap.size≤k:=by
 have h1:=Gp h hB hG hS
 rw [Gn hx,hx] at h1;exact h1
theorem Yn2 (h:LSt y g F R B D M V E Qs) {i:Nat}{v:List Int}(hi:(Ye D V)[i]?=some v) {L:Rws}(hL:W7 M.length (kP v) Xl E L) :
  Calls Tryz.prog 16 #[.pointer (some ⟨g,0,none⟩),.int .i64 i] y fun e y'=>e=.returned (.tuple #[.int .i64 (L.length:Nat),.int .i64 0])∧y=y':=by
 obtain ⟨Cs,h1,h2⟩:=h.ex
 have hil:=(List.getElem?_eq_some_iff.1 hi).1
 have hcl:=h2.len
 refine Yds h1 (i:Int) (hid ?_);unfold Yge;rw [if_pos ⟨by omega,by omega⟩,Int.toNat_natCast,E8 h.ok h2 hi hL]
end
end
section
section
variable {D:List Yg}{M:List Txt}{V:List (List Int)}{E:List Hld}{Qs:List (List Pth)}{G:List Fct}
theorem Yb9 (h:(Y7 D M V E Qs G).2=0):Xu D M V G=0∧(Zc (Yk D) Qs G).2=0:=by
 by_cases h1:Xu D M V G=0
 ·by_cases h2:(Zc (Yk D) Qs G).2=0
  ·exact ⟨h1,h2⟩
  ·rw [Rb h1 h2] at h
   exact absurd h h2
 ·rw [Qg h1] at h
  exact absurd h h1
end
theorem LSt.apart {y':World}{F2:Nat→Prop} (h:LSt y g F R B D M V E Qs) (hc:Chg F2 y y') (h1:∀ k,F2 k→¬ F k∧¬ R k):LSt y' g F R B D M V E Qs :=
 h.chg hc (fun k hk hk2=>(h1 k hk2).1 hk) fun k hk hk2=>(h1 k hk2).2 hk
end
theorem Pj (G:List Fct) (k:Zd):Yi (kP v) Xl (G.map Zo) k=Yi (kP v) Y8 G k:=by
 unfold Yi;rw [List.filter_map,List.map_map];rfl
theorem Yf7 {L:Rws} (h:W7 m (kP v) Y8 G L):W7 m (kP v) Xl (G.map Zo) L :=
 ⟨h.ris,fun x=>by
  rw [h.all x,Pj];refine and_congr_left fun _=>?_
  constructor
  ·rintro ⟨f,hf,e⟩
   exact ⟨Zo f,List.mem_map.2 ⟨f,hf,rfl⟩,e⟩
  ·rintro ⟨e,he,hk⟩
   obtain ⟨f,hf,rfl⟩:=List.mem_map.1 he;exact ⟨f,hf,hk⟩⟩
theorem Ybd : okF m (kP v) Xl (G.map Zo)↔okF m (kP v) Y8 G:=by
 constructor
 ·intro h f hf
  have h1:=h (Zo f) (List.mem_map.2 ⟨f,hf,rfl⟩)
  rw [Pj] at h1;exact h1
 ·intro h e he
  obtain ⟨f,hf,rfl⟩:=List.mem_map.1 he;rw [Pj];exact h f hf
theorem Ymx (hm:Z3 D M V) {G:List Fct}(hf:∀ f∈G,Vx D M.length f) {v:List Int}(hv:v∈Ye D V) {nv:Nat}(hnv:v.length=nv):∀ f∈G,nv≤f.1.length∧isVal M.length f.2∧∀ p∈f.1,p.length≤1000000:=fun f hfG=>by
 have h1:=hf f hfG
 have h2:=(Sk hm v hv).len
 refine ⟨?_,Yay h1,fun p hp=>?_⟩
 ·rw [← hnv,h2,h1.2.1]
  unfold Yk;rw [List.length_map];exact Nat.le_refl _
 ·have h3:p.length∈Yk D:=by
   rw [← Yax h1];exact List.mem_map.2 ⟨p,hp,rfl⟩
  have:=(Ydz hm _ h3).2
  omega
theorem Ypt (hm:Z3 D M V) {v:List Int}(hv:v∈Ye D V):v.length≤3:=by
 have h2:=(Sk hm v hv).len
 have h3:=(W4 hm).2.1
 rw [h2];unfold Yk;rw [List.length_map];exact h3
theorem Lm {c1 c2 c3:Nat} (hm:Z3 D M V) (hf:∀ f∈G,Vx D M.length f) (hG:Tj y (fun b=>b<y.heap.size) Af nf cf G) {v:List Int}(hv:v∈Ye D V) (hV:Yx y y.heap.size Av nv cv v) (hn:nf≤1000) :
  Calls Tryz.prog 56 #[V6 A1 n1 c1 A2 M.length c2 A3 n3 c3,.slice Af nf cf,.slice Av nv cv] y (Yl2 y M.length (kP v) G) :=
 Yep hG hV (W4 hm).2.2.2 (Ymx hm hf hv hV.len) hn (by have h1:=hV.len; have h2:=Ypt hm hv; omega)
theorem Ybl {c1 c2 c3:Nat} (hL:Tk D M V (G.map Zo) Qs) (hf:∀ f∈G,Vx D M.length f) (hG:Tj y (fun b=>b<y.heap.size) Af nf cf G) {v:List Int}(hv:v∈Ye D V) (hV:Yx y y.heap.size Av nv cv v) (hn:nf≤1000) :
  Calls Tryz.prog 56 #[V6 A1 n1 c1 A2 M.length c2 A3 n3 c3,.slice Af nf cf,.slice Av nv cv] y fun e y'=>(∃ A c L,e=.returned (.tuple #[.slice A L.length c,.int .i64 0])∧W7 M.length (kP v) Xl (G.map Zo) L∧Row Sd 5 y' (fun b=>y.heap.size≤b) A L.length c L)∧Below y.heap.size y y':=by
 refine (Lm hL.may hf hG hv hV hn).mono ?_;rintro e y' ⟨h,hb⟩
 rcases h with ⟨_,A,c,L,rfl,h1,h2⟩ | ⟨h,_⟩
 ·exact ⟨⟨A,c,L,rfl,Yf7 h1,h2⟩,hb⟩
 ·exact absurd (Ybd.1 (hL.ok v hv)) h
theorem Ys.chg {α:Type}{E:ElT α}{sz:Nat}{v:Value}{L:List α} (hE:E.Ok) (h:Ys E T sz w base S v L) (hc:Chg F w w') (h1:∀ k,v.ownBlock=some k→¬ F k) (h2:∀ k,S k→¬ F k):Ys E T sz w' base S v L:=by
 obtain ⟨vs,hr,hx⟩:=h;exact ⟨vs,hc.row hr h1,fun i x hi=>hE _ _ _ _ _ _ (fun b hb hl=>⟨hc.block b hl (h2 b hb.1),hb⟩) (hx i x hi)⟩
theorem Bl (h:Xu D M V G=0):1≤G.length∧G.length≤8:=by
 unfold Xu at h
 split at h
 ·obtain ⟨h1,h2,_⟩:=Lb.1 h
  exact ⟨h1,h2⟩
 ·cases h
theorem Cr (S:Nat→Prop) (w:World):∀ (us:List Value) (y:Fct),O8 w S us y→us.length=2→∀ u∈us,u.oneCell'=true:=by
 intro us y h hl u hu;obtain ⟨⟨A,n,c,e1,_⟩,B,m,d,e2,_⟩:=h
 match us,hl with
 | [a,b],_ =>
  simp at e1 e2;subst e1 e2;simp at hu
  rcases hu with rfl | rfl <;> rfl
section
def NoS (w:World) (S:Nat→Prop):Prop:=∀ k,S k→∀ cs e fr,w.heap[k]?=some (.cells cs e fr)→e≠9
section
variable {w w' : World}{S:Nat→Prop}{base r n:Nat}{Lv:Value}{Q:List Pth}
theorem Xb.He {x:Value}{q:Pth}(h:Xb w base x q) (hc:Chg S w w') (hS:NoS w S):Xb w' base x q:=hc.row h (Ybo h hS)
theorem Zl.He {v:Value}(h:Zl w base v Q) (hc:Chg S w w') (hS:NoS w S) (hv:∀ k,v.ownBlock=some k→¬ S k):Zl w' base v Q:=by
 obtain ⟨vs,h1,h2⟩:=h;exact ⟨vs,hc.row h1 hv,fun i q hi=>by obtain ⟨x,e,hx⟩:=h2 i q hi; exact ⟨x,e,hx.He hc hS⟩⟩
theorem Rf.He (h:Rf w base r n Lv Q) (hc:Chg S w w') (hS:NoS w S) (hf:∀ k,Wp r Lv k→¬ S k):Rf w' base r n Lv Q :=
 ⟨h.block.chg hc (hf r (.inl rfl)),h.row.He hc hS fun k hk=>hf k (.inr hk),h.rb,h.good⟩
theorem Rf.kind (h:Rf w base r n Lv Q) {k:Nat}(hk:Wp r Lv k):∃ cs e fr,w.heap[k]?=some (.cells cs e fr)∧(e=111∨e=23):=by
 rcases hk with rfl | hk
 ·exact ⟨_,_,_,h.block,.inl rfl⟩
 ·obtain ⟨vs,h1,_⟩:=h.row
  obtain ⟨cs,fr,e⟩:=Xn h1 hk;exact ⟨cs,_,fr,e,.inr rfl⟩
theorem Rf.noS (h:Rf w base r n Lv Q):NoS w (Wp r Lv):=fun k hk cs e fr he=>by
 obtain ⟨cs',e',fr',he',h1⟩:=h.kind hk;rw [he] at he';simp only [Option.some.injEq,Obj.cells.injEq] at he';rw [he'.2.1]
 rcases h1 with h1 | h1 <;> (rw [h1]; decide)
theorem Rf.lt (h:Rf w base r n Lv Q) {k:Nat}(hk:Wp r Lv k):k<w.heap.size:=by
 rcases hk with rfl | hk
 ·exact h.block.lt
 ·exact (h.row.lt k hk).2
end
structure Rfs (w:World) (rs:List (Nat × Value)) (N:List Nat) (Qs:List (List Pth)):Prop where
 len:rs.length=N.length
 good:Xj N Qs
 at_:∀ (i:Nat) (p:Nat × Value),rs[i]?=some p→Rf w 0 p.1 (N.getD i 0) p.2 (Qs.getD i [])
 ne:∀ (i j:Nat) (p q:Nat × Value),rs[i]?=some p→rs[j]?=some q→i≠j→∀ k,Wp p.1 p.2 k→¬ Wp q.1 q.2 k
section
variable {w w' : World}{S:Nat→Prop}{rs:List (Nat × Value)}{N:List Nat}{Qs:List (List Pth)}
theorem Rfs.Zj (w:World):Rfs w [] [] []:=⟨rfl,trivial,fun i d h=>by simp at h,fun i j d e h=>by simp at h⟩
theorem Rfs.lt (h:Rfs w rs N Qs) {p:Nat × Value}(hp:p∈rs) {k:Nat}(hk:Wp p.1 p.2 k):k<w.heap.size:=by
 obtain ⟨i,hi⟩:=List.getElem?_of_mem hp;exact (h.at_ i p hi).lt hk
theorem Rfs.He (h:Rfs w rs N Qs) (hc:Chg S w w') (hS:NoS w S) (hf:∀ p∈rs,∀ k,Wp p.1 p.2 k→¬ S k):Rfs w' rs N Qs :=
 ⟨h.len,h.good,fun i p hi=>(h.at_ i p hi).He hc hS (hf p (List.mem_of_getElem? hi)),h.ne⟩
theorem NoS.none (w:World):NoS w (fun _=>False):=fun _ h=>h.elim
theorem Rfs.below (h:Rfs w rs N Qs) (hb:Below w.heap.size w w'):Rfs w' rs N Qs:=h.He (S:=fun _=>False) (Chg.Yz hb (Nat.le_refl _)) (NoS.none w) fun _ _ _ _ h=>h
theorem Rfs.Ykj (h:Rfs w rs N Qs):Qs.length=rs.length:=by rw [h.good.len,h.len]
theorem Rfs.Yo (h:Rfs w rs N Qs) {i:Nat}{p p' : Nat × Value}{Q' : List Pth}(hi:rs[i]?=some p) (hc:Chg (Wp p.1 p.2) w w') (hd:Rf w' 0 p'.1 (N.getD i 0) p'.2 Q') (hf:∀ k,Wp p'.1 p'.2 k→Wp p.1 p.2 k∨w.heap.size≤k):Rfs w' (rs.set i p') N (Qs.set i Q'):=by
 have hil:=(List.getElem?_eq_some_iff.1 hi).1
 have hq:=h.Ykj
 have hl:=h.len
 have hS:=(h.at_ i p hi).noS
 refine ⟨by rw [List.length_set]; exact h.len,Xj.of (by rw [List.length_set,hq,hl]) fun j hj=>?_,fun j e hj=>?_,fun a b x y ha hb hab k hx hy=>?_⟩
 ·rw [Pr (by omega)]
  by_cases hij:i=j
  ·subst hij; rw [if_pos rfl]; exact hd.good
  ·rw [if_neg hij]; exact h.good.get hj
 ·rw [Pr (by omega)]
  rw [List.getElem?_set] at hj
  by_cases hij:i=j
  ·subst hij
   rw [if_pos rfl,if_pos hil] at hj;obtain rfl:=Option.some.inj hj;rw [if_pos rfl]; exact hd
  ·rw [if_neg hij] at hj
   rw [if_neg hij];exact (h.at_ j e hj).He hc hS fun k hk hk'=>h.ne i j p e hi hj hij k hk' hk
 ·rw [List.getElem?_set] at ha hb
  by_cases h1:i=a
  ·subst h1
   rw [if_pos rfl,if_pos hil] at ha;obtain rfl:=Option.some.inj ha;rw [if_neg hab] at hb
   rcases hf k hx with h2 | h2
   ·exact h.ne i b p y hi hb hab k h2 hy
   ·have:=h.lt (List.mem_of_getElem? hb) hy; omega
  ·rw [if_neg h1] at ha
   by_cases h2:i=b
   ·subst h2
    rw [if_pos rfl,if_pos hil] at hb;obtain rfl:=Option.some.inj hb
    rcases hf k hy with h3 | h3
    ·exact h.ne i a p x hi ha (fun e=>hab e.symm) k h3 hx
    ·have:=h.lt (List.mem_of_getElem? ha) hx; omega
   ·rw [if_neg h2] at hb
    exact h.ne a b x y ha hb hab k hx hy
theorem Rfs.snoc (h:Rfs w rs N Qs) (hb:Below w.heap.size w w') {p:Nat × Value}{n:Nat}{Q:List Pth}(hd:Rf w' 0 p.1 n p.2 Q) (hf:∀ k,Wp p.1 p.2 k→w.heap.size≤k):Rfs w' (rs++[p]) (N++[n]) (Qs++[Q]):=by
 have h':=h.below hb
 have hl:=h.len
 have hq:=h.Ykj
 refine ⟨by rw [List.length_append,List.length_append,hl]; rfl,Xj.of (by rw [List.length_append,List.length_append,hq,hl]; rfl) fun j hj=>?_,fun i e hi=>?_,fun i j x y hi hj hij k hx hy=>?_⟩
 ·rw [List.length_append] at hj
  simp only [List.length_singleton] at hj;rw [Vq,Vq]
  by_cases hjl:j=N.length
  ·rw [if_pos hjl,if_pos (by omega)]; exact hd.good
  ·rw [if_neg hjl,if_neg (by omega)]; exact h.good.get (by omega)
 ·rw [Vq,Vq]
  rcases Xd hi with ⟨h1,h2⟩ | ⟨h1,rfl⟩
  ·rw [if_neg (by omega),if_neg (by omega)]; exact h'.at_ i e h2
  ·rw [if_pos (by omega),if_pos (by omega)]; exact hd
 ·rcases Xd hi with ⟨h1,h2⟩ | ⟨h1,rfl⟩
  ·rcases Xd hj with ⟨h3,h4⟩ | ⟨h3,rfl⟩
   ·exact h.ne i j x y h2 h4 hij k hx hy
   ·have h5:=h.lt (List.mem_of_getElem? h2) hx
    have h6:=hf k hy
    omega
  ·rcases Xd hj with ⟨h3,h4⟩ | ⟨h3,rfl⟩
   ·have h5:=h.lt (List.mem_of_getElem? h4) hy
    have h6:=hf k hx
    omega
   ·omega
end
structure RfL (w:World) (r:Nat) (X1 X2 X3 Lv Dv:Value) (B:Nat) (rs:List (Nat × Value)) (N:List Nat) (Qs:List (List Pth)) (G:List Fct):Prop where
 blk:Block w r 73 #[X1,X2,X3,Lv,Dv]
 facts:Ys O8 60 2 w B (fun b=>b<B) Lv G
 dr:w.ownsRow B 109 1 Dv rs.length (rs.map fun p=>Xo p.1)
 dicts:Rfs w rs N Qs
 rb:B≤r
theorem R5 (h:¬ (e=82∨e=91∨e=78∨e=131∨e=139∨e=119)):¬ Tt (.cells cs e fr):=h
theorem Ku (hk:∀ k,F k→∃ o,w.heap[k]?=some o∧Tt o) {k:Nat}{cs:Array Value}{e:TypeId}{fr:Nat × Nat}(h:w.heap[k]?=some (.cells cs e fr)) (he:¬ Tt (.cells cs e fr)):¬ F k:=fun hf=>by
 obtain ⟨o,ho,hl⟩:=hk k hf;rw [h] at ho;injection ho with ho
 rw [← ho] at hl;exact he hl
section
variable {w w' : World}{F:Nat→Prop}{r B:Nat}{X1 X2 X3 Lv Dv:Value}{rs:List (Nat × Value)}{N:List Nat}{Qs:List (List Pth)}{G:List Fct}
theorem RfL.Yro (h:RfL w r X1 X2 X3 Lv Dv B rs N Qs G) (hk:∀ k,F k→∃ o,w.heap[k]?=some o∧Tt o):¬ F r:=Ku hk h.blk (R5 (by decide))
theorem RfL.lat (h:RfL w r X1 X2 X3 Lv Dv B rs N Qs G) (hc:Chg F w w') (hk:∀ k,F k→∃ o,w.heap[k]?=some o∧Tt o) (hB:∀ b,b<B→¬ F b):RfL w' r X1 X2 X3 Lv Dv B rs N Qs G:=by
 refine ⟨h.blk.chg hc (h.Yro hk),Ys.chg Y1 h.facts hc (fun k hk'=>?_) hB,hc.row h.dr fun k hk'=>?_,h.dicts.He hc (fun k hk' cs e fr he hs=>?_) fun p hp k hk'=>?_,h.rb⟩
 ·obtain ⟨vs,h1,_⟩:=h.facts
  obtain ⟨cs,fr,e⟩:=Xn h1 hk';exact Ku hk e (R5 (by decide))
 ·obtain ⟨cs,fr,e⟩:=Xn h.dr hk'
  exact Ku hk e (R5 (by decide))
 ·subst hs
  exact Ku hk he (R5 (by decide)) hk'
 ·obtain ⟨i,hi⟩:=List.getElem?_of_mem hp
  obtain ⟨cs,e,fr,he,h1⟩:=(h.dicts.at_ i p hi).kind hk'
  rcases h1 with rfl | rfl
  ·exact Ku hk he (R5 (by decide))
  ·exact Ku hk he (R5 (by decide))
theorem RfL.below (h:RfL w r X1 X2 X3 Lv Dv B rs N Qs G) (hb:Below w.heap.size w w'):RfL w' r X1 X2 X3 Lv Dv B rs N Qs G :=
 h.lat (F:=fun _=>False) (Chg.Yz hb (Nat.le_refl _)) (fun _ h=>h.elim) fun _ _ h=>h
theorem RfL.c0 (h:RfL w r X1 X2 X3 Lv Dv B rs N Qs G):w.cell? ⟨r,0,none⟩=some X1:=h.blk.cell 0
theorem RfL.c1 (h:RfL w r X1 X2 X3 Lv Dv B rs N Qs G):w.cell? ⟨r,1,none⟩=some X2:=h.blk.cell 1
theorem RfL.c2 (h:RfL w r X1 X2 X3 Lv Dv B rs N Qs G):w.cell? ⟨r,2,none⟩=some X3:=h.blk.cell 2
theorem RfL.c3 (h:RfL w r X1 X2 X3 Lv Dv B rs N Qs G):w.cell? ⟨r,3,none⟩=some Lv:=h.blk.cell 3
theorem RfL.c4 (h:RfL w r X1 X2 X3 Lv Dv B rs N Qs G):w.cell? ⟨r,4,none⟩=some Dv:=h.blk.cell 4
theorem RfL.Ydr (h:RfL w r X1 X2 X3 Lv Dv B rs N Qs G):∃ A c,Dv=.slice A N.length c∧rs.length=N.length∧∀ i p,rs[i]?=some p→∃ b,A=some ⟨b,0,none⟩∧Dv.ownBlock=some b∧b<w.heap.size∧w.cell? ⟨b,i,none⟩=some (.pointer (some ⟨p.1,0,none⟩)):=by
 have hl:=h.dicts.len
 have h1:=Uv h.dr (Nat.zero_le _)
 rw [show (rs.map fun p=>Xo p.1)=(rs.map (·.1)).map Xo by rw [List.map_map]; rfl,show rs.length=(rs.map (·.1)).length by rw [List.length_map]] at h1
 obtain ⟨A,c,e,_,_,hat⟩:=Lj h1;rw [List.length_map,hl] at e;exact ⟨A,c,e,hl,fun i p hi=>hat i p.1 (by rw [List.getElem?_map,hi]; rfl)⟩
end
theorem Rfs.off (h:Rfs w rs N Qs) (hc:Chg (fun k=>k=r) w w') (hr:w.heap[r]?=some (.cells cs e fr)) (he:e≠111∧e≠23∧e≠9):Rfs w' rs N Qs:=by
 refine h.He hc (fun k hk cs' e' fr' h1=>?_) fun p hp k hk hkr=>?_
 ·subst hk
  rw [hr] at h1;simp only [Option.some.injEq,Obj.cells.injEq] at h1;rw [← h1.2.1];exact he.2.2
 ·subst hkr
  obtain ⟨i,hi⟩:=List.getElem?_of_mem hp;obtain ⟨cs',e',fr',h1,h2⟩:=(h.at_ i p hi).kind hk;rw [hr] at h1;simp only [Option.some.injEq,Obj.cells.injEq] at h1;rw [← h1.2.1] at h2
  rcases h2 with h2 | h2
  ·exact he.1 h2
  ·exact he.2.1 h2
theorem RfL.Yt4 {w8:World}{v':Value} (h:RfL w r X1 X2 X3 Lv Dv B rs N Qs G) (hb:Below w.heap.size w y) {p:Nat × Value}{n:Nat}{Q:List Pth}(hd:Rf y 0 p.1 n p.2 Q) (hf:∀ k,Wp p.1 p.2 k→w.heap.size≤k) (hO:w8.ownsRow B 109 1 v' (rs.length+1) (rs.map (fun p=>Xo p.1)++[Xo p.1])) (hG:Z7 y Dv w8 v') :
  Block w8 r 73 #[X1,X2,X3,Lv,Dv]∧RfL (w8.setCell ⟨r,4,none⟩ v') r X1 X2 X3 Lv v' B (rs++[p]) (N++[n]) (Qs++[Q]) G:=by
 have h1:=h.below hb
 have hc:=Pm hG
 have b8:=h1.blk.chg hc (Y6 h1.dr h1.blk (by decide))
 have hDk:∀ k,Dv.ownBlock=some k→∃ cs fr,y.heap[k]?=some (.cells cs 109 fr):=fun k hk=>Xn h1.dr hk
 have hD:Rfs y (rs++[p]) (N++[n]) (Qs++[Q]):=h.dicts.snoc hb hd hf
 have hD8:Rfs w8 (rs++[p]) (N++[n]) (Qs++[Q]):=hD.He hc (fun k hk cs e fr he=>by
  obtain ⟨cs',fr',h2⟩:=hDk k hk;rw [he] at h2;simp only [Option.some.injEq,Obj.cells.injEq] at h2;rw [h2.2.1]
  decide) fun q hq k hk hdv=>by
  obtain ⟨i,hi⟩:=List.getElem?_of_mem hq;obtain ⟨cs',e',fr',h2,h3⟩:=(hD.at_ i q hi).kind hk;obtain ⟨cs2,fr2,h4⟩:=hDk k hdv;rw [h4] at h2;simp only [Option.some.injEq,Obj.cells.injEq] at h2;rw [← h2.2.1] at h3
  rcases h3 with h3 | h3 <;> exact absurd h3 (by decide)
 have hFv:∀ (z:World),(∃ vs,z.ownsRow B 60 2 Lv G.length vs)→∀ k,Lv.ownBlock=some k→∃ cs fr,z.heap[k]?=some (.cells cs 60 fr):=fun z hz k hk=>by
  obtain ⟨vs,hv⟩:=hz;exact Xn hv hk
 have hF8:=Ys.chg Y1 h1.facts hc (fun k hk hdv=>by
  obtain ⟨vs,hv,_⟩:=h1.facts;obtain ⟨cs2,fr2,h4⟩:=hDk k hdv;obtain ⟨cs3,fr3,h5⟩:=Xn hv hk;rw [h4] at h5;simp only [Option.some.injEq,Obj.cells.injEq] at h5;exact absurd h5.2.1 (by decide)) fun b hb' hdv=>by have:=(World.ownsRow.lt h1.dr b hdv).1; omega
 have hs:Chg (fun k=>k=r) w8 (w8.setCell ⟨r,4,none⟩ v'):=(Chg.refl _ w8).Yo r 4 v' fun _=>rfl
 have b8' : w8.heap[r]?=some (.cells _ 73 _):=b8
 refine ⟨b8,⟨b8.Yo 4 v',Ys.chg Y1 hF8 hs (fun k hk e=>?_) (fun b hb' e=>by have:=h.rb; omega),?_,hD8.off hs b8' (by decide),h.rb⟩⟩
 ·obtain ⟨vs,hv,_⟩:=hF8
  exact Y6 hv b8 (by decide) (e ▸ hk)
 ·have h2:=hs.row hO fun k hk e=>Y6 hO b8 (by decide) (e ▸ hk)
  simpa using h2
def RLt (w:World) (r B:Nat) (D:List Yg) (M:List Txt) (V:List (List Int)) (Qs:List (List Pth)) (G:List Fct):Prop :=
 ∃ Lv Dv rs A1 n1 c1 A2 n2 c2 A3 n3 c3,RfL w r (.slice A1 n1 c1) (.slice A2 n2 c2) (.slice A3 n3 c3) Lv Dv B rs (Yk D) Qs G∧Wm w (fun b=>b<B) A1 n1 c1 A2 n2 c2 A3 n3 c3 D M V∧Z3 D M V∧∀ f∈G,Vx D M.length f
section
variable {w w' : World}{F:Nat→Prop}{r B:Nat}{D:List Yg}{M:List Txt}{V:List (List Int)}{Qs:List (List Pth)}{G:List Fct}
theorem RLt.lat (h:RLt w r B D M V Qs G) (hc:Chg F w w') (hk:∀ k,F k→∃ o,w.heap[k]?=some o∧Tt o) (hB:∀ b,b<B→¬ F b):RLt w' r B D M V Qs G:=by
 obtain ⟨Lv,Dv,rs,A1,n1,c1,A2,n2,c2,A3,n3,c3,h1,h2,h3⟩:=h;exact ⟨Lv,Dv,rs,A1,n1,c1,A2,n2,c2,A3,n3,c3,h1.lat hc hk hB,h2.chg hc hB,h3⟩
theorem RLt.below (h:RLt w r B D M V Qs G) (hb:Below w.heap.size w w'):RLt w' r B D M V Qs G:=h.lat (F:=fun _=>False) (Chg.Yz hb (Nat.le_refl _)) (fun _ h=>h.elim) fun _ _ h=>h
theorem RLt.Yro (h:RLt w r B D M V Qs G) (hk:∀ k,F k→∃ o,w.heap[k]?=some o∧Tt o):¬ F r:=by
 obtain ⟨Lv,Dv,rs,A1,n1,c1,A2,n2,c2,A3,n3,c3,h1,h2,h3⟩:=h;exact h1.Yro hk
end
end
theorem Ydf:(Tryz.prog.info? 109).map (fun i=>(i.zero,i.size,i.bytes))=some (some (.pointer none),1,8):=by kernel_rfl
theorem Rf.Yua (hn:1≤n∧n≤3):Rf (w.alloc (.cells #[.int .i64 n,.slice none 0 0] 111)) 0 w.heap.size n (.slice none 0 0) [] :=
 ⟨Block.new w _ _,Zl.Zj _ _,Nat.zero_le _,F7 hn⟩
theorem Yg1 {c1 c2 c3:Nat} (h:Wm w (fun b=>b<B) A1 n1 c1 A2 n2 c2 A3 n3 c3 D M V) (hn1:n1≤1000) (hn3:n3≤1000) (hno:¬ Z3 D M V) :
  Calls Tryz.prog 26 #[V6 A1 n1 c1 A2 n2 c2 A3 n3 c3] w fun e w'=>e=.returned (.tuple #[.pointer none,.int .i64 11])∧Below w.heap.size w w':=by
 have hb1:=Ya w (.cells #[.slice A1 n1 c1,.slice A2 n2 c2,.slice A3 n3 c3] 26)
 have hX:=Block.new w 26 #[.slice A1 n1 c1,.slice A2 n2 c2,.slice A3 n3 c3]
 have HM:=Rn (h.Yc hb1).has hn1 hn3
 rw [decide_eq_false hno] at HM
 have HM:=hid HM
 go_enter Tryz.func26,Tryz.ntmps26
 have x0:(w.alloc (.cells #[.slice A1 n1 c1,.slice A2 n2 c2,.slice A3 n3 c3] 26)).cell? ⟨w.heap.size,0,none⟩=some (.slice A1 n1 c1):=hX.cell 0
 have x1:(w.alloc (.cells #[.slice A1 n1 c1,.slice A2 n2 c2,.slice A3 n3 c3] 26)).cell? ⟨w.heap.size,1,none⟩=some (.slice A2 n2 c2):=hX.cell 1
 have x2:(w.alloc (.cells #[.slice A1 n1 c1,.slice A2 n2 c2,.slice A3 n3 c3] 26)).cell? ⟨w.heap.size,2,none⟩=some (.slice A3 n3 c3):=hX.cell 2
 have HB1:=hid hb1
 clear hX h hb1 hno;go_wp2_with fail;refine HM.out.mono ?_;rintro e w2 ⟨rfl,hb2⟩
 have HB2:=hid (Yb HB1.out hb2)
 clear hb2 HM x0 x1 x2;go_wp2_with fail;go_ret2;exact ⟨rfl,HB2.out⟩
theorem Yen {c1 c2 c3:Nat} (h:Wm w (fun b=>b<B) A1 n1 c1 A2 n2 c2 A3 n3 c3 D M V) (hn3:n3≤1000) (hB:B≤w.heap.size) (hyes:Z3 D M V) :
  Calls Tryz.prog 26 #[V6 A1 n1 c1 A2 n2 c2 A3 n3 c3] w fun e w'=>∃ r,e=.returned (.tuple #[.pointer (some ⟨r,0,none⟩),.int .i64 0])∧RLt w' r B D M V (D.map fun _=>[]) []∧w.heap.size≤r∧Below w.heap.size w w':=by
 have hd:=W4 hyes
 have hDl:=h.d.len
 have hb1:=Ya w (.cells #[.slice A1 n1 c1,.slice A2 n2 c2,.slice A3 n3 c3] 26)
 have hX:=Block.new w 26 #[.slice A1 n1 c1,.slice A2 n2 c2,.slice A3 n3 c3]
 have HM:=Rn (h.Yc hb1).has (by omega) hn3
 rw [decide_eq_true hyes] at HM
 have HM:=hid HM
 have KS:Hid (∀ y,Below w.heap.size w y→Wm y (fun b=>b<B) A1 n1 c1 A2 n2 c2 A3 n3 c3 D M V):=hid fun y hy=>h.Yc hy
 have hnl:n1≤3:=by omega
 have HDl:=hid hDl
 have HY:=hid hyes
 go_enter Tryz.func26,Tryz.ntmps26
 have x0:(w.alloc (.cells #[.slice A1 n1 c1,.slice A2 n2 c2,.slice A3 n3 c3] 26)).cell? ⟨w.heap.size,0,none⟩=some (.slice A1 n1 c1):=hX.cell 0
 have x1:(w.alloc (.cells #[.slice A1 n1 c1,.slice A2 n2 c2,.slice A3 n3 c3] 26)).cell? ⟨w.heap.size,1,none⟩=some (.slice A2 n2 c2):=hX.cell 1
 have x2:(w.alloc (.cells #[.slice A1 n1 c1,.slice A2 n2 c2,.slice A3 n3 c3] 26)).cell? ⟨w.heap.size,2,none⟩=some (.slice A3 n3 c3):=hX.cell 2
 have HB1:=hid hb1
 have HX:=hid hX
 clear hX h hb1 hyes hDl hd;go_wp2_with fail;generalize w.alloc (.cells #[.slice A1 n1 c1,.slice A2 n2 c2,.slice A3 n3 c3] 26)=w1 at HM HB1 HX x0 x1 x2 ⊢;refine HM.out.mono ?_;rintro e w2 ⟨rfl,hb2⟩;clear x0 x1 x2
 have KX:Hid (∀ y,Below w2.heap.size w2 y→y.cell? ⟨w.heap.size,0,none⟩=some (.slice A1 n1 c1)∧y.cell? ⟨w.heap.size,1,none⟩=some (.slice A2 n2 c2)∧y.cell? ⟨w.heap.size,2,none⟩=some (.slice A3 n3 c3)):=hid fun y hy=>by
  have h2:=HX.out.below hb2 HX.out.lt
  have h3:=h2.below hy h2.lt
  exact ⟨h3.cell 0,h3.cell 1,h3.cell 2⟩
 obtain ⟨x0,x1,x2⟩:=KX.out w2 (Below.refl _ _)
 have HB2:=hid (Yb HB1.out hb2)
 have hz2:w.heap.size≤w2.heap.size:=HB2.out.size
 clear hb2 HM
 have hblk:=Block.new w2 73 #[.slice A1 n1 c1,.slice A2 n2 c2,.slice A3 n3 c3,.slice none 0 0,.slice none 0 0]
 have hb3:=Ya w2 (.cells #[.slice A1 n1 c1,.slice A2 n2 c2,.slice A3 n3 c3,.slice none 0 0,.slice none 0 0] 73)
 have hR0:=hid (show RfL (w2.alloc (.cells #[.slice A1 n1 c1,.slice A2 n2 c2,.slice A3 n3 c3,.slice none 0 0,.slice none 0 0] 73)) w2.heap.size (.slice A1 n1 c1) (.slice A2 n2 c2) (.slice A3 n3 c3) (.slice none 0 0) (.slice none 0 0) B [] ((Yk D).take 0) (List.replicate 0 []) [] from ⟨hblk,Ys.Zj _ _ _,World.ownsRow_nil _ _ _ _,Rfs.Zj _,by omega⟩)
 have HB3:=hid hb3
 clear hblk hb3;go_wp2_with fail;clear x0 x1 x2;go_loopw [6] (fun i wr=>∃ k:Nat,k≤n1∧i=.int .i64 k∧Hid (∃ Dv rs,RfL wr w2.heap.size (.slice A1 n1 c1) (.slice A2 n2 c2) (.slice A3 n3 c3) (.slice none 0 0) Dv B rs ((Yk D).take k) (List.replicate k []) []∧∀ q,Dv.ownBlock=some q→w2.heap.size≤q)∧Below w2.heap.size w2 wr) (fun i _=>n1 - (intOf i).toNat)
 case atStart=>exact ⟨0,Nat.zero_le _,rfl,hid ⟨_,_,hR0.out,fun q hq=>by cases hq⟩,HB3.out⟩
 case round =>
  obtain ⟨k,hk,rfl,hO,hBr⟩:=hrel;obtain ⟨x0,x1,x2⟩:=KX.out wr hBr
  have HBr:=hid hBr
  have HBw:=hid (HB2.out.trans (hBr.mono hz2))
  clear hBr
  by_cases hlt:k<n1
  ·obtain ⟨Dv,rs,hL,hlo⟩:=hO.out
   obtain ⟨Ad,cd,e,hrl,_⟩:=hL.Ydr
   have hrk:rs.length=k:=by rw [hrl]; unfold Yk; rw [List.length_take,List.length_map,HDl.out]; omega
   rw [show ((Yk D).take k).length=k by unfold Yk; rw [List.length_take,List.length_map,HDl.out]; omega] at e
   subst e;obtain ⟨b,o,A',n',c',rfl,hb,_,g1,hT⟩:=(KS.out wr HBw.out).has.d.has k hlt;obtain ⟨x,l,hxl⟩ : ∃ x l,D[k]?=some (x,l):=⟨_,_,List.getElem?_eq_getElem (by rw [HDl.out]; exact hlt)⟩
   have hgd:D.getD k Xv=(x,l):=by rw [List.getD_eq_getElem?_getD,hxl]; rfl
   rw [hgd] at hT
   have hll:l.length=n':=hT.len
   have hln:(Yk D).take k++[n']=(Yk D).take (k+1):=by rw [← hll]; exact Bh hxl
   have hn' : 1≤n'∧n'≤3:=Ydz HY.out n' (by
    rw [← hll];exact List.mem_map.2 ⟨(x,l),List.mem_of_getElem? hxl,rfl⟩)
   have i0:(0:Int)≤(k:Int):=by omega
   have i1:(k:Int)<(n1:Int):=by omega
   have p0:=hL.c4
   have HL:=hid hL
   have HLn:=hid hln
   have HRk:=hid hrk
   have hzr:=HBr.out.size
   have hBB:B≤wr.heap.size:=by omega
   clear hT hgd hxl hll hln hL hrl hrk hO
   have hb4:=Ya wr (.cells #[.int .i64 (n' : Int),.slice none 0 0] 111)
   have hb5:=Ya (wr.alloc (.cells #[.int .i64 (n' : Int),.slice none 0 0] 111)) (.cells #[.pointer (some ⟨wr.heap.size,0,none⟩)] 109)
   have HB7:Hid (Below wr.heap.size wr ((wr.alloc (.cells #[.int .i64 (n' : Int),.slice none 0 0] 111)).alloc (.cells #[.pointer (some ⟨wr.heap.size,0,none⟩)] 109)).drew):=hid (below_drewN (Yb hb4 hb5) 1)
   have HR7:=hid (show (((wr.alloc (.cells #[.int .i64 (n' : Int),.slice none 0 0] 111)).alloc (.cells #[.pointer (some ⟨wr.heap.size,0,none⟩)] 109)).drew).ownsRow B 109 1 (.slice Ad k cd) k (rs.map fun p=>Xo p.1) from by
    have h:=(HL.out.below HB7.out).dr
    rwa [HRk.out] at h)
   have HC7:Hid (∀ j u,[Xo wr.heap.size][j]?=some u→(((wr.alloc (.cells #[.int .i64 (n' : Int),.slice none 0 0] 111)).alloc (.cells #[.pointer (some ⟨wr.heap.size,0,none⟩)] 109)).drew).cell? ((⟨wr.heap.size+1,0,none⟩ : Addr).add j)=some u):=hid (Ob (wr.alloc (.cells #[.int .i64 (n' : Int),.slice none 0 0] 111)) (.pointer (some ⟨wr.heap.size,0,none⟩)) 109 (wr.heap.size+1) (by rw [World.size_alloc]))
   have HD7:Hid (Rf (((wr.alloc (.cells #[.int .i64 (n' : Int),.slice none 0 0] 111)).alloc (.cells #[.pointer (some ⟨wr.heap.size,0,none⟩)] 109)).drew) 0 wr.heap.size n' (.slice none 0 0) []):=hid (((Rf.Yua hn').below hb5).drewN 1)
   have hB7:B≤(((wr.alloc (.cells #[.int .i64 (n' : Int),.slice none 0 0] 111)).alloc (.cells #[.pointer (some ⟨wr.heap.size,0,none⟩)] 109)).drew).heap.size:=Nat.le_trans hBB HB7.out.size
   have p1:=(HL.out.below hb4).c4
   have p2:=(HL.out.below (Yb hb4 hb5)).c4
   clear hb4 hb5;go_wp2_with fail;go_region_law (first
    | (refine Ja rfl _ _ rfl Ydf Tryz.underlying71 rfl (by decide) B (.slice Ad k cd) k _ rfl HR7.out _ rfl [Xo wr.heap.size] rfl HC7.out (H8 _) (by omega) hB7 ?_; intro v' w8 hO8 hG8; obtain ⟨A8,c8,e8⟩:=Sj hO8; subst e8; obtain ⟨hb8,hM8⟩:=HL.out.Yt4 (p:=(wr.heap.size,.slice none 0 0)) HB7.out HD7.out (fun q hq=>(by rcases hq with hq | hq; exact Nat.le_of_eq hq.symm; cases hq)) (by rw [HRk.out]; exact hO8) hG8; have p8:w8.cell? ⟨w2.heap.size,4,none⟩=some (.slice Ad k cd):=hb8.cell 4; have f8:=hb8.free 4; have HM8:=hid hM8; have HG8:=hid hG8; clear hM8 hb8 hO8 hG8))
   all_goals
    have hz7:=HB7.out.size
    have hb9:=(HBr.out.trans (HB7.out.mono hzr)).trans (HG8.out.Y4 (Nat.le_trans hzr hz7) hlo)
    have hFin:=hid (show (∃ Dv rs,RfL (w8.setCell ⟨w2.heap.size,4,none⟩ (.slice A8 (k+1) c8)) w2.heap.size (.slice (some ⟨b,o,none⟩) n1 c1) (.slice A2 n2 c2) (.slice A3 n3 c3) (.slice none 0 0) Dv B rs ((Yk D).take (k+1)) (List.replicate (k+1) []) []∧∀ q,Dv.ownBlock=some q→w2.heap.size≤q)∧Below w2.heap.size w2 (w8.setCell ⟨w2.heap.size,4,none⟩ (.slice A8 (k+1) c8)) from
     ⟨⟨_,_,by have h:=HM8.out; rw [HLn.out,show List.replicate k ([] : List Pth)++[[]]=List.replicate (k+1) [] from List.replicate_succ'.symm] at h; exact h,fun q hq=>by
      rcases HG8.out.2 q hq with h1 | h1
      ·exact hlo q h1
      ·omega⟩,hb9.setCell (p:=⟨w2.heap.size,4,none⟩) (Nat.le_refl _) _⟩)
    clear HM8 p8 f8 p1 p2 HB7 HR7 HC7 HD7 p0 hlo hb9 HG8;go_wp2_with fail;go_roundw
    case rel=>exact ⟨k+1,by omega,by go_num,hid hFin.out.1,hFin.out.2⟩
    case measure=>simp [intOf]; omega
  ·obtain ⟨Dv,rs,hL,_⟩:=hO.out
   have hkn:k=n1:=by omega
   rw [List.take_of_length_le (by unfold Yk; rw [List.length_map,HDl.out]; omega),show List.replicate k ([] : List Pth)=D.map (fun _=>[]) by rw [List.map_const',HDl.out,hkn]] at hL
   have hF:=hid (show RLt wr w2.heap.size B D M V (D.map fun _=>[]) []∧Below w.heap.size w wr from ⟨⟨_,Dv,rs,A1,n1,c1,A2,n2,c2,A3,n3,c3,hL,KS.out wr HBw.out,HY.out,fun f hf=>by simp at hf⟩,HBw.out⟩)
   clear hL hO;go_wp2_with fail;go_ret2;exact ⟨_,rfl,hF.out.1,hz2,hF.out.2⟩
def Yh1:ElT Nat:=fun _ _ us g=>us=[Xo g]
theorem Fp:Yh1.Ok:=fun _ _ _ _ _ _ _ h=>h
theorem Kf {v:Value}{L:List Nat} (h:Ys Yh1 T 1 w base S v L):w.ownsRow base T 1 v L.length (L.map Xo):=by
 obtain ⟨vs,h1,h2⟩:=h
 have e:vs=L.map Xo:=by
  have hl:=h1.1
  refine List.ext_getElem? fun i=>?_
  rw [List.getElem?_map]
  by_cases hi:i<L.length
  ·have hL:L[i]?=some (L[i]'hi):=List.getElem?_eq_getElem hi
   have h3:=h2 i _ hL
   have h4:=congrArg (fun l=>l[0]?) (show (vs.drop (i*1)).take 1=[Xo (L[i]'hi)] from h3)
   simp only [Nat.mul_one,List.getElem?_take,List.getElem?_drop,Nat.lt_one_iff,if_true,Nat.add_zero,List.getElem?_cons_zero] at h4;rw [h4,hL];rfl
  ·rw [List.getElem?_eq_none (by omega),List.getElem?_eq_none (by omega)]
   rfl
 rw [← e];exact h1
theorem Ye7 {α:Type}{E:ElT α} (hE:E.Ok) {T TS:TypeId}{sz bytes:Nat}{z:Value}{w:World}{ops:Array Oper}{rest:List Oper}{o:Oper}{a:Act}{Q:Exit→Act→World→Prop}(hgd:o.guard=none) (s x:Operand)
  (ho:o.op=.call { callee:=.builtin .append,args:=#[s,x],argTypes:=#[TS,TS] }) (hinfo:(Tryz.prog.info? T).map (fun i=>(i.zero,i.size,i.bytes))=some (some z,sz,bytes)) (hTS:Tryz.prog.underlying TS=some (.slice T)) (hzs:z.cells.size=sz) (hsz:0<sz∧sz≤100∧bytes≤1000)
  (base base0:Nat) (S:Nat→Prop) (hs:a.eval s=.slice none 0 0) (u:Value) (L2:List α) (hx:a.eval x=u) (hr:Ys E T sz w base0 S u L2) (hone:∀ S us y,E w S us y→us.length=sz→∀ u∈us,u.oneCell'=true) (hlen:L2.length≤1000000) (hbase:base≤w.heap.size)
  (h:∀ v' w',Ys E T sz w' base S v' L2→Z7 w (.slice none 0 0) w' v'→wpList Tryz.prog ops Q rest (a.put o.dst v') w'):wpList Tryz.prog ops Q (o :: rest) a w:=by
 obtain ⟨i,hi,hz0,hz1,hz2⟩:=info_parts hinfo;obtain ⟨us,u1,u2⟩:=hr
 have hul:=u1.1
 rcases u1.2 with ⟨rfl,h0⟩ | ⟨g,cap,cur,rfl,hb,hg,hnc,hcm,hcs,ht⟩
 ·obtain rfl:L2=[]:=List.eq_nil_of_length_eq_zero h0
  refine wpList_plain hgd fun K' hK=>?_
  have hrun:=run_append_owned_none (P:=Tryz.prog) (w:=w) base TS o.type T i sz hTS hi (.slice none 0 0) 0 [] (World.ownsRow_nil _ _ _ _)
  unfold Oper.wp execOp;simp only [ho,resolve,invoke,builtin,Sem.run_bind,Sem.run_pure,Result.andThen_ok,List.map_toArray,List.map_cons,List.map_nil,hs,hx,hrun];exact hK _ _ (h _ w (Ys.Zj _ _ _) (Z7.refl w _))
 ·have hcells:=World.ownsRow.cells u1 (g:=g) rfl
  have hcut:∀ j,j<L2.length→((us.drop (j*sz)).take sz).length=sz:=fun j hj=>by
   have:j*sz+sz≤L2.length*sz:=by rw [← Nat.succ_mul]; exact Nat.mul_le_mul_right sz hj
   rw [List.length_take,List.length_drop]; omega
  have h1c:∀ u∈us,u.oneCell'=true:=fun u hu=>by
   obtain ⟨t,ht⟩:=List.getElem?_of_mem hu
   have htl:=(List.getElem?_eq_some_iff.1 ht).1
   have hj:t / sz<L2.length:=(Nat.div_lt_iff_lt_mul hsz.1).2 (by omega)
   have hm:t % sz<sz:=Nat.mod_lt _ hsz.1
   refine hone _ _ _ (u2 (t / sz) _ (List.getElem?_eq_getElem (by omega))) (hcut _ hj) u (List.mem_of_getElem? (i:=t % sz) ?_)
   rw [List.getElem?_take,if_pos hm,List.getElem?_drop,Nat.mul_comm,Nat.div_add_mod,ht]
  refine wpList_append_own_at w hgd s x TS ho base T i _ sz bytes hTS hi hz0 hz1 hz2 hzs hsz.1 (.slice none 0 0) 0 [] hs (World.ownsRow_nil _ _ _ _) ⟨g,0,none⟩ L2.length cap us hx hul hcells h1c (by unfold maxLen; omega) (by have h9:=Nat.mul_le_mul hlen hsz.2.2; rw [Nat.zero_add]; omega) hbase ?_
  intro v' w' e1 e2 _ e4
  have hG:Z7 w (.slice none 0 0) w' v':=⟨e2,fun k hk=>by
   rcases e4 with e4 | e4
   ·exact .inl (e4 ▸ hk)
   ·rw [e4] at hk
    injection hk with hk
    exact .inr (Nat.le_of_eq hk)⟩
  have hm:Mv w (fun k=>S k∧(Value.slice none 0 0).ownBlock≠some k) w' (fun k=>S k∧v'.ownBlock≠some k):=Mv.Kk hG
  refine h v' w' ⟨us,by rw [List.nil_append,Nat.zero_add] at e1; exact e1,fun j y hj=>hE _ _ _ _ _ _ hm (hE _ _ _ _ _ _ (Mv.to w fun b hb _=>⟨hb.1,fun e=>by cases e⟩) (u2 j y hj))⟩ hG
theorem Yhb {w:World}{ops:Array Oper}{o:Oper}{a:Act}{Q:Exit→Act→World→Prop}{K:Act→World→Prop}{Fl:Prop} (hgd:o.guard=none) (s x:Operand)
  (ho:o.op=.call { callee:=.builtin .append,args:=#[s,x],argTypes:=#[58,58] })
  (base:Nat) (v:Value) (R:List Pth) (hs:a.eval s=v) (hown:Zl w base v R) (u:Value) (P:List Pth) (hx:a.eval x=u) (hu:Zl w base u P) (hl:R.length+P.length≤1000000) (hbase:base≤w.heap.size)
  (h:∀ v' w',Zl w' base v' (R++P)→Z7 w v w' v'→K (a.put o.dst v') w') :
  if Region.wanted o (yielded ops a.tmps)=true then Oper.wp Tryz.prog o a w K Q else Fl:=by
 have hw:Region.wanted o (yielded ops a.tmps)=true:=by simp [Region.wanted,hgd]
 rw [if_pos hw];obtain ⟨i,hi,hz0,hz1,hz2⟩:=info_parts Nv
 have hown0:=hown
 obtain ⟨vs,h1,h2⟩:=hown;obtain ⟨us,u1,u2⟩:=hu
 have hul:us.length=P.length:=by have:=u1.1; omega
 rcases u1.2 with ⟨rfl,h0⟩ | ⟨g,cap,cur,rfl,hb,hg,hnc,hcm,hcs,ht⟩
 ·obtain rfl:P=[]:=List.eq_nil_of_length_eq_zero h0
  have hrun:=run_append_owned_none (P:=Tryz.prog) (w:=w) base 58 o.type 23 i 1 Tryz.underlying58 hi v R.length vs h1
  unfold Oper.wp execOp;simp only [ho,resolve,invoke,builtin,Sem.run_bind,Sem.run_pure,Result.andThen_ok,List.map_toArray,List.map_cons,List.map_nil,hs,hx,hrun];exact h v w (by rw [List.append_nil]; exact hown0) (Z7.refl w v)
 ·have hcells:=World.ownsRow.cells u1 (g:=g) rfl
  have hones:∀ x∈us,x.oneCell'=true:=fun x hx=>by
   obtain ⟨j,hj⟩:=List.getElem?_of_mem hx
   have hjl:j<P.length:=by have:=(List.getElem?_eq_some_iff.1 hj).1; omega
   obtain ⟨x',e,hx'⟩:=u2 j _ (List.getElem?_eq_getElem hjl);rw [hj] at e;obtain rfl:=Option.some.inj e;obtain ⟨A',c',rfl,_⟩:=hx'.form;rfl
  obtain ⟨v',w',hrun,e1,e2,_,e4⟩:=run_append_own_at (P:=Tryz.prog) w base 58 o.type 23 i _ 1 24 Tryz.underlying58 hi hz0 hz1 hz2 rfl (by decide) v R.length vs h1 ⟨g,0,none⟩ P.length cap us (by omega) hcells hones (by unfold maxLen; omega) (by omega) hbase
  unfold Oper.wp execOp;simp only [ho,resolve,invoke,builtin,Sem.run_bind,Sem.run_pure,Result.andThen_ok,List.map_toArray,List.map_cons,List.map_nil,hs,hx,hrun];refine h v' w' (Zl.more h1 h2 hul u2 e1 e2) ⟨e2,fun k hk=>?_⟩
  rcases e4 with e4 | e4
  ·exact .inl (e4 ▸ hk)
  ·rw [e4] at hk
   injection hk with hk
   exact .inr (Nat.le_of_eq hk)
theorem Ysv {L0 v:Value}{Q:List Pth} (hb:Block w r 111 #[.int .i64 n,L0]) (hO:Zl w 0 v Q) (hg:Good n Q):Rf (w.setCell ⟨r,1,none⟩ v) 0 r n v Q:=by
 refine ⟨hb.Yo 1 v,hO.chg ((Chg.refl _ w).Yo r 1 v fun _=>rfl:Chg (fun k=>k=r) w _) (fun k hk cs e fr he=>?_),Nat.zero_le _,hg⟩
 subst hk
 have hb' : w.heap[k]?=some (.cells _ 111 _):=hb
 rw [hb'] at he;simp only [Option.some.injEq,Obj.cells.injEq] at he;rw [← he.2.1];exact ⟨by decide,by decide⟩
theorem RfL.swap {v6 Dv2:Value}{rs3:List (Nat × Value)}{G':List Fct} (h:RfL w r X1 X2 X3 Lv Dv B rs N Qs G) (hO:Ys O8 60 2 w B (fun b=>b<B) v6 G') (hd:w.ownsRow B 109 1 Dv2 rs3.length (rs3.map fun p=>Xo p.1)) (hR:Rfs w rs3 N Rs) :
  RfL ((w.setCell ⟨r,3,none⟩ v6).setCell ⟨r,4,none⟩ Dv2) r X1 X2 X3 v6 Dv2 B rs3 N Rs G':=by
 have hc:Chg (fun k=>k=r) w ((w.setCell ⟨r,3,none⟩ v6).setCell ⟨r,4,none⟩ Dv2):=((Chg.refl (fun k=>k=r) w).Yo r 3 v6 fun _=>rfl).Yo r 4 Dv2 fun _=>rfl
 have b1:Block w r 73 #[X1,X2,X3,Lv,Dv]:=h.blk
 have b1' : w.heap[r]?=some (.cells _ 73 _):=b1
 refine ⟨(b1.Yo 3 v6).Yo 4 Dv2,Ys.chg Y1 hO hc (fun k hk e=>?_) (fun b hb e=>by have:=h.rb; omega),hc.row hd fun k hk e=>Y6 hd b1 (by decide) (e ▸ hk),hR.off hc b1' (by decide),h.rb⟩
 obtain ⟨vs,hv,_⟩:=hO;exact Y6 hv b1 (by decide) (e ▸ hk)
theorem Yqf (w:World) (r:Nat) (u v:Value):Chg (fun k=>k=r) w ((w.setCell ⟨r,3,none⟩ u).setCell ⟨r,4,none⟩ v):=((Chg.refl (fun k=>k=r) w).Yo r 3 u fun _=>rfl).Yo r 4 v fun _=>rfl
def Sr (w:World) (r B:Nat) (D:List Yg) (M:List Txt) (V:List (List Int)) (Qs:List (List Pth)) (G G2:List Fct) (e:Ending) (w' : World):Prop :=
 e=.returned (.int .i64 ((Y7 D M V (G.map Zo) Qs G2).2:Nat))∧Chg (fun k=>k=r) w w'∧RLt w' r B D M V (Y7 D M V (G.map Zo) Qs G2).1.2 (if (Y7 D M V (G.map Zo) Qs G2).2=0 then G++G2 else G)
theorem Sr.no (h:RLt w r B D M V Qs G) {x:Nat}(hx:Y7 D M V (G.map Zo) Qs G2=((G.map Zo,Qs),x)) (hx0:x≠0) (hb:Below w.heap.size w w'):Sr w r B D M V Qs G G2 (.returned (.int .i64 (x:Nat))) w':=by
 refine ⟨by rw [hx],Chg.Yz (S:=fun k=>k=r) hb (Nat.le_refl _),?_⟩
 rw [hx,if_neg hx0];exact h.below hb
structure Mf (w1 w:World) (gs:List Nat) (uv:Value) (N:List Nat) (Qs:List (List Pth)) (rs:List (Nat × Value)):Prop where
 gv:rs.map (·.1)=gs
 fs:Rfs w rs N Qs
 lo:∀ p∈rs,∀ q,Wp p.1 p.2 q→w1.heap.size≤q
 row:w.ownsRow w1.heap.size 109 1 uv gs.length (gs.map Xo)
 bel:Below w1.heap.size w1 w
theorem Mf.below (h:Mf w1 w gs uv N Qs rs) (hb:Below w.heap.size w w'):Mf w1 w' gs uv N Qs rs :=
 ⟨h.gv,h.fs.below hb,h.lo,Yk7 h.row hb,h.bel.trans (hb.mono h.bel.size)⟩
theorem Mf.Yo (h:Mf w1 w gs uv N Qs rs) {i:Nat}{p:Nat × Value}{Lv' : Value}{Q' : List Pth}(hi:rs[i]?=some p) (hc:Chg (Wp p.1 p.2) w w') (hd:Rf w' 0 p.1 (N.getD i 0) Lv' Q') (hf:∀ k,Lv'.ownBlock=some k→p.2.ownBlock=some k∨w.heap.size≤k):Mf w1 w' gs uv N (Qs.set i Q') (rs.set i (p.1,Lv')):=by
 have hm:=List.mem_of_getElem? hi
 have hf' : ∀ k,Wp p.1 Lv' k→Wp p.1 p.2 k∨w.heap.size≤k:=by
  rintro k (hk | hk)
  ·exact .inl (.inl hk)
  ·rcases hf k hk with h2 | h2
   ·exact .inl (.inr h2)
   ·exact .inr h2
 refine ⟨by rw [M7 (f:=fun p:Nat × Value=>p.1) (y:=(p.1,Lv')) hi rfl]; exact h.gv,h.fs.Yo hi hc hd hf',fun q hq k hk=>?_,hc.row h.row fun k hk hk'=>?_,h.bel.trans (hc.below h.bel.size fun k hk=>h.lo p hm k hk)⟩
 ·rcases List.mem_or_eq_of_mem_set hq with hq | rfl
  ·exact h.lo q hq k hk
  ·rcases hf' k hk with h2 | h2
   ·exact h.lo p hm k h2
   ·have:=h.bel.size; omega
 ·obtain ⟨cs,fr,e⟩:=Xn h.row hk
  obtain ⟨cs',e',fr',he,h1⟩:=(h.fs.at_ i p hi).kind hk';rw [e] at he;simp only [Option.some.injEq,Obj.cells.injEq] at he;rw [← he.2.1] at h1
  rcases h1 with h1 | h1 <;> exact absurd h1 (by decide)
theorem Mf.ptr (h:Mf w1 w gs uv N Qs rs):∃ A c,uv=.slice A gs.length c∧gs.length=N.length∧∀ i p,rs[i]?=some p→∃ b,A=some ⟨b,0,none⟩∧w.cell? ⟨b,i,none⟩=some (.pointer (some ⟨p.1,0,none⟩)):=by
 obtain ⟨A,c,e,_,_,hat⟩:=Lj (Uv h.row (Nat.zero_le _));refine ⟨A,c,e,by rw [← h.gv,List.length_map]; exact h.fs.len,fun i p hi=>?_⟩
 obtain ⟨b,e1,_,_,e2⟩:=hat i p.1 (by rw [← h.gv,List.getElem?_map,hi]; rfl)
 exact ⟨b,e1,e2⟩
theorem Dy (h:RLt w r B D M V Qs G) {Af:Option Addr}{nf cf:Nat}(hF:Tj w (fun b=>b<B) Af nf cf G2) (hn:G.length≤900) :
  Calls Tryz.prog 27 #[.pointer (some ⟨r,0,none⟩),.slice Af nf cf] w (Sr w r B D M V Qs G G2):=by
 have HR0:=hid h
 obtain ⟨Lv,Dv,rs,A1,n1,c1,A2,n2,c2,A3,n3,c3,h1,h2,hm,hfit⟩:=h
 have hd:=W4 hm
 have hsm:=S8 hm
 have hDl:=h2.d.len
 have hVl:=h2.v.len
 have HMl:=hid h2.m.len
 have hV6:V.length≤1000:=by have:=Vt hm; simp [Ye] at this; omega
 have hn1:n1≤1000:=by omega
 have hn3:n3≤1000:=by omega
 obtain ⟨Ad,cd,e,hrl,_⟩:=h1.Ydr;subst e;obtain ⟨AL,cL,e⟩:=h1.facts.shape;subst e;obtain ⟨ng,hng⟩ : ∃ ng,G.length=ng:=⟨_,rfl⟩;rw [hng] at h1 hn
 have Hng:=hid hng
 clear hng;obtain ⟨nd,hnd⟩ : ∃ nd,Hid ((Yk D).length=nd):=⟨_,hid rfl⟩;rw [hnd.out] at h1 hrl
 have hnd3:nd≤3:=by have:=hnd.out; unfold Yk at this; rw [List.length_map] at this; omega
 have hBs:B≤w.heap.size:=by have:=h1.blk.lt; have:=h1.rb; omega
 have KR:Hid (∀ y,Below w.heap.size w y→RfL y r (.slice A1 n1 c1) (.slice A2 n2 c2) (.slice A3 n3 c3) (.slice AL ng cL) (.slice Ad nd cd) B rs (Yk D) Qs G):=hid fun y hy=>h1.below hy
 have KS:Hid (∀ y,Below w.heap.size w y→Wm y (fun b=>b<B) A1 n1 c1 A2 n2 c2 A3 n3 c3 D M V):=hid fun y hy=>h2.Yc hy
 have KF:Hid (∀ y,Below w.heap.size w y→Tj y (fun b=>b<B) Af nf cf G2):=hid fun y hy=>hF.mv Y1 (Mv.Yc hy _)
 have HFl:=hid hF.len
 have hfm:=hF.Yn
 have HM:=Yel (h2.has) hn1 hn3 hF
 have HY:=hid hm
 have HFit:=hid hfit
 have HGd:=hid h1.dicts.good
 have c0:=h1.c0
 have c1':=h1.c1
 have c2':=h1.c2
 have Hrl:=hid hrl
 clear h1 h2 hF hm hsm hd hDl hVl hV6 hfit hrl;go_enter Tryz.func27,Tryz.ntmps27
 by_cases hx:Xu D M V G2=0
 ·rw [hx] at HM
  have HM:=hid HM
  have Hx:=hid hx
  have HGn:=hid (Bl hx)
  clear hx;go_wp2_with fail;refine HM.out.mono ?_;rintro e w1 ⟨rfl,hb1⟩
  have HB1:=hid hb1
  have hz1:w.heap.size≤w1.heap.size:=hb1.size
  clear c0 c1' c2' hb1 HM;go_wp2_with fail;go_loopw [6,7,8] (fun u i _ wr=>∃ k:Nat,k≤nd∧i=.int .i64 k∧Hid (∃ rs2:List (Nat × Value),Ys Yh1 109 1 wr w1.heap.size (fun _=>False) u (rs2.map (·.1))∧rs2.length=k∧Rfs wr rs2 ((Yk D).take k) (Qs.take k)∧∀ p∈rs2,∀ q,Wp p.1 p.2 q→w1.heap.size≤q)∧Below w1.heap.size w1 wr) (fun _ i _ _=>nd - (intOf i).toNat)
  case atStart=>exact ⟨0,Nat.zero_le _,rfl,hid ⟨[],Ys.Zj _ _ _,rfl,Rfs.Zj _,fun p hp=>by simp at hp⟩,Below.refl _ _⟩
  case round =>
   obtain ⟨k,hk,rfl,hO,hB⟩:=hrel
   have HB:=hid hB
   have HBw:=hid (HB1.out.trans (hB.mono hz1))
   have hzr:w1.heap.size≤wr.heap.size:=hB.size
   clear hB
   have c4:=(KR.out wr HBw.out).c4
   by_cases hlt:k<nd
   ·obtain ⟨⟨r0,v0⟩,hp⟩ : ∃ p,Hid (rs[k]?=some p):=⟨_,hid (List.getElem?_eq_getElem (by have:=Hrl.out; omega))⟩
    have hRr:=KR.out wr HBw.out
    obtain ⟨Ad',cd',e,_,hat⟩:=hRr.Ydr;rw [hnd.out] at e;injection e with e1 _ e3
    subst e1 e3;obtain ⟨bd,rfl,_,hbd,gp⟩:=hat k _ hp.out
    have hRf:=hRr.dicts.at_ k _ hp.out
    obtain ⟨n,hn'⟩ : ∃ n,Hid ((Yk D).getD k 0=n):=⟨_,hid rfl⟩;obtain ⟨Q,hQ⟩ : ∃ Q,Hid (Qs.getD k []=Q):=⟨_,hid rfl⟩
    have hRf:Rf wr 0 r0 n v0 Q:=by rw [← hn'.out,← hQ.out]; exact hRf
    have q0:=hRf.c0
    obtain ⟨Aq,cq,rfl,_⟩:=hRf.row.form
    have q1:=hRf.c1
    have i0:(0:Int)≤(k:Int):=by omega
    have i1:(k:Int)<(nd:Int):=by omega
    have HRf:=hid hRf
    have HQl:=hRf.good.size
    have hb4:=Ya wr (.cells #[.int .i64 n,.slice none 0 0] 111)
    have hbk:=Block.new wr 111 #[.int .i64 n,.slice none 0 0]
    have c4z:=(KR.out _ (HBw.out.trans (hb4.mono HBw.out.size))).c4
    have gpz:(wr.alloc (.cells #[.int .i64 n,.slice none 0 0] 111)).cell? ⟨bd,k,none⟩=some (.pointer (some ⟨r0,0,none⟩)):=(hb4.cell (p:=⟨bd,k,none⟩) hbd).trans gp
    have q1z:(wr.alloc (.cells #[.int .i64 n,.slice none 0 0] 111)).cell? ⟨r0,1,none⟩=some (.slice Aq Q.length cq):=(hRf.below hb4).c1
    have HRz:=hid ((hRf.below hb4).row)
    have e1z:(wr.alloc (.cells #[.int .i64 n,.slice none 0 0] 111)).cell? ⟨wr.heap.size,1,none⟩=some (.slice none 0 0):=hbk.cell 1
    clear hRr hRf hat hbd;go_wp2_with fail;clear c4 gp q0 q1;obtain ⟨bx,hbx⟩ : ∃ bx,wr.heap.size=bx:=⟨_,rfl⟩
    have HB4:=hid hb4
    have hz4:wr.heap.size≤(wr.alloc (.cells #[.int .i64 n,.slice none 0 0] 111)).heap.size:=hb4.size
    clear hb4;rw [hbx] at hbk e1z ⊢;generalize wr.alloc (.cells #[.int .i64 n,.slice none 0 0] 111)=W0 at hbk c4z gpz q1z HRz e1z HB4 hz4 ⊢
    have HBk:=hid hbk
    have HBx:=hid hbx
    clear hbx hbk;go_region_law (first
     | (refine Yhb rfl _ _ rfl 0 (.slice none 0 0) [] rfl (Zl.Zj _ _) (.slice Aq Q.length cq) Q rfl HRz.out (by simp; omega) (Nat.zero_le _) ?_; intro v8 w8 hO8 hG8; have hb8:Below W0.heap.size W0 w8:=(below_drewN (Below.refl _ W0) 1).trans (hG8.Y4 (Nat.le_refl _) (fun j e=>(by cases e))); have hbk8:=HBk.out.below hb8 HBk.out.lt; have p8:w8.cell? ⟨bx,1,none⟩=some (.slice none 0 0):=hbk8.cell 1; have f8:=hbk8.free 1; have HO8:=hid hO8; have HG8:=hid hG8; have HB8:=hid hb8; have HBk8:=hid hbk8; obtain ⟨A8,c8,e8,_⟩:=hO8.form; subst e8; clear hO8 hG8 hb8 hbk8))
    all_goals
     rw [List.nil_append] at HO8
     have HR9:=hid (Ysv HBk8.out HO8.out HRf.out.good)
     have hB9:Below wr.heap.size wr (w8.setCell ⟨bx,1,none⟩ (.slice A8 Q.length c8)):=(HB4.out.trans (HB8.out.mono hz4)).setCell (p:=⟨bx,1,none⟩) (Nat.le_of_eq HBx.out) _
     have HB9:=hid hB9
     obtain ⟨rs2,hOv,hrl2,hfs2,hlo2⟩:=hO.out
     have hzs:=HB8.out.size
     have HSn:=hid (hfs2.snoc hB9 (p:=(bx,.slice A8 Q.length c8)) HR9.out (fun q hq=>by
      rcases hq with hq | hq
      ·have:=HBx.out; have hq:q=bx:=hq; omega
      ·rcases HG8.out.2 q hq with h1 | h1
       ·cases h1
       ·have h1:W0.heap.size≤q:=h1
        omega))
     have hHT:(Yk D).take k++[n]=(Yk D).take (k+1):=by rw [← hn'.out]; exact (Md 0 (by rw [hnd.out]; exact hlt)).symm
     have hQT:Qs.take k++[Q]=Qs.take (k+1):=by rw [← hQ.out]; exact (Md [] (by rw [HGd.out.len,hnd.out]; exact hlt)).symm
     rw [hHT,hQT] at HSn
     have HOv:=hid ((hOv.below Fp hB9).alloc Fp (.cells #[.pointer (some ⟨bx,0,none⟩)] 109))
     have hb10:=hB9.trans ((Ya (w8.setCell ⟨bx,1,none⟩ (.slice A8 Q.length c8)) (.cells #[.pointer (some ⟨bx,0,none⟩)] 109)).mono hB9.size)
     have HB10:=hid (HB.out.trans (hb10.mono hzr))
     have hbs:w1.heap.size≤((w8.setCell ⟨bx,1,none⟩ (.slice A8 Q.length c8)).alloc (.cells #[.pointer (some ⟨bx,0,none⟩)] 109)).heap.size:=HB10.out.size
     have HSn10:=hid (HSn.out.below (Ya (w8.setCell ⟨bx,1,none⟩ (.slice A8 Q.length c8)) (.cells #[.pointer (some ⟨bx,0,none⟩)] 109)))
     have hlb:Hid ((rs2.map (·.1)).length≤1000000):=hid (by rw [List.length_map]; omega)
     have hloO:=hOv.lt
     have HLo2:=hid (show ∀ p∈rs2++[(bx,Value.slice A8 Q.length c8)],∀ q,Wp p.1 p.2 q→w1.heap.size≤q from fun p hp q hq=>by
      rcases List.mem_append.1 hp with hp | hp
      ·exact hlo2 p hp q hq
      ·rw [List.mem_singleton.1 hp] at hq
       rcases hq with hq | hq
       ·have:=HBx.out; have hq:q=bx:=hq; omega
       ·rcases HG8.out.2 q hq with h1 | h1
        ·cases h1
        ·have h1:W0.heap.size≤q:=h1
         omega)
     have HC10:=hid (Ob (w8.setCell ⟨bx,1,none⟩ (.slice A8 Q.length c8)) (.pointer (some ⟨bx,0,none⟩)) 109 w8.heap.size (by simp [World.setCell]))
     clear hB9 hfs2 hlo2 hOv HRz c4z gpz q1z e1z HR9 hb10 hO hHT hQT;go_wp2_with (at_builtin; refine Wq Fp rfl _ _ rfl Ydf Tryz.underlying71 rfl (by decide) w1.heap.size (fun _=>False) u6 (rs2.map (·.1)) rfl HOv.out _ rfl [Xo bx] rfl bx HC10.out (H8 bx) rfl hlb.out hbs ?_)
     intro v11 w11 hO11 hG11
     have hFin:=hid (show (∃ rs3:List (Nat × Value),Ys Yh1 109 1 w11 w1.heap.size (fun _=>False) v11 (rs3.map (·.1))∧rs3.length=k+1∧Rfs w11 rs3 ((Yk D).take (k+1)) (Qs.take (k+1))∧∀ p∈rs3,∀ q,Wp p.1 p.2 q→w1.heap.size≤q)∧Below w1.heap.size w1 w11 from
      ⟨⟨rs2++[(bx,Value.slice A8 Q.length c8)],by rw [List.map_append]; exact hO11,by rw [List.length_append,hrl2]; rfl,HSn10.out.He (Pm hG11) (fun q hq cs e fr he=>by
       obtain ⟨cs',fr',h1⟩:=Xn (Kf HOv.out) hq;rw [he] at h1;simp only [Option.some.injEq,Obj.cells.injEq] at h1;rw [h1.2.1]
       decide) (fun p hp q hq hqv=>by
       obtain ⟨i,hi⟩:=List.getElem?_of_mem hp;obtain ⟨cs',e',fr',h1,h2⟩:=(HSn10.out.at_ i p hi).kind hq;obtain ⟨cs2,fr2,h3⟩:=Xn (Kf HOv.out) hqv;rw [h3] at h1;simp only [Option.some.injEq,Obj.cells.injEq] at h1;rw [← h1.2.1] at h2
       rcases h2 with h2 | h2 <;> exact absurd h2 (by decide)),HLo2.out⟩,HB10.out.trans (hG11.Y4 hbs fun j e=>(hloO j e).1)⟩)
     clear hO11 hG11 p8 f8;go_wp2_with fail;go_roundw
     case rel=>exact ⟨k+1,by omega,by go_num,hid hFin.out.1,hFin.out.2⟩
     case measure=>simp [intOf]; omega
   ·have hkn:k=nd:=by omega
    subst hkn;obtain ⟨rs2,hOv,hrl2,hfs2,hlo2⟩:=hO.out;rw [List.take_of_length_le (by rw [hnd.out]; exact Nat.le_refl _),List.take_of_length_le (by rw [HGd.out.len,hnd.out]; exact Nat.le_refl _)] at hfs2
    obtain ⟨gs,hgs⟩ : ∃ gs,rs2.map (·.1)=gs:=⟨_,rfl⟩
    have hgl:gs.length=k:=by rw [← hgs,List.length_map]; exact hrl2
    have hC0:Mf w1 wr gs u6 (Yk D) Qs rs2:=⟨hgs,hfs2,hlo2,by rw [← hgs,List.length_map]; have h:=Kf hOv; rwa [List.length_map] at h,HB.out⟩
    obtain ⟨Au,cu,e,eg,eh⟩:=hC0.ptr;clear eg eh;rw [hgl] at e;subst e
    have HC0:=hid hC0
    have HGl:=hid hgl
    clear hOv hrl2 hfs2 hlo2 hC0 hgs hgl hO;go_wp2_with fail;clear c4;go_loopw [9,10,11,12] (fun i _ _ _ wr=>∃ (t:Nat) (rs3:List (Nat × Value)) (Rs:List (List Pth)),t≤nf∧i=.int .i64 t∧Hid (Mf w1 wr gs (.slice Au k cu) (Yk D) Rs rs3∧Zc (Yk D) Qs (G2.take t)=(Rs,0))) (fun i _ _ _ _=>nf - (intOf i).toNat)
    case atStart=>exact ⟨0,rs2,Qs,Nat.zero_le _,rfl,hid ⟨HC0.out,rfl⟩⟩
    case round =>
     obtain ⟨t,rs3,Rs,ht,rfl,hS⟩:=hrel
     by_cases hlt2:t<nf
     ·obtain ⟨hCm,hAd⟩:=hS.out
      have hBw:=HB1.out.trans (hCm.bel.mono hz1)
      obtain ⟨b,o,P,np,cp,Q',nq,cq,p,q,rfl,_,_,_,_,hp,_,he⟩:=(KF.out wr hBw).at2 hlt2
      have hfp:=Ou Hx.out _ (List.mem_of_getElem? he.out)
      have hpl:p.length=k:=by
       have h9:p.length=D.length:=hfp.2.1
       have h8:=hnd.out
       unfold Yk at h8;rw [List.length_map] at h8;omega
      have hRl:Rs.length=k:=by rw [hCm.fs.good.len,hnd.out]
      have hnp:np=k:=by have h9:=hp.len; omega
      subst hnp
      have HPl:Hid (p.length=(Yk D).length):=hid (by rw [hnd.out]; exact hpl)
      have HRl:Hid (Rs.length=(Yk D).length):=hid (by rw [hnd.out]; exact hRl)
      have HCm:=hid hCm
      have HAd:=hid hAd
      have i0:(0:Int)≤(t:Int):=by omega
      have i1:(t:Int)<(nf:Int):=by omega
      clear hBw hp hfp hpl hRl hCm hAd hS;obtain ⟨wo,rfl⟩ : ∃ wo,wo=wr:=⟨_,rfl⟩;go_wp2_with fail;go_loopw [10] (fun j wr=>∃ (jn:Nat) (rs4:List (Nat × Value)),jn≤np∧j=.int .i64 jn∧Hid (Mf w1 wr gs (.slice Au np cu) (Yk D) (Ri (Yk D) Rs p jn) rs4∧∀ i,i<jn→St (Yk D) Rs p i=0)) (fun j _=>np - (intOf j).toNat)
      case atStart=>exact ⟨0,rs3,Nat.zero_le _,rfl,hid ⟨by rw [Fa]; exact HCm.out,fun i hi=>absurd hi (by omega)⟩⟩
      case round =>
       obtain ⟨jn,rs4,hjn,rfl,hS2⟩:=hrel
       by_cases hlt3:jn<np
       ·obtain ⟨hC2,hE2⟩:=hS2.out
        have hBw:=HB1.out.trans (hC2.bel.mono hz1)
        obtain ⟨b5,o5,P5,np5,cp5,Q5,nq5,cq5,p5,q5,e5,_,_,gp,_,hp5,_,he5⟩:=(KF.out wr hBw).at2 hlt2;injection e5 with e5
        injection e5 with e5a e5b
        subst e5a e5b
        have hpq:(p5,q5)=(p,q):=by have h9:=he5.out; rw [he.out] at h9; exact (Option.some.inj h9).symm
        injection hpq with hpq1 hpq2
        subst hpq1 hpq2
        have hnp5:np5=np:=by have h9:=hp5.len; have h8:=HPl.out; rw [hnd.out] at h8; omega
        subst hnp5;obtain ⟨b1,o1,A',n',c',pj,rfl,hSb1,_,gpj,hpp,hpe⟩:=hp5.at1 hlt3;obtain ⟨Au',cu',e6,e6g,hat⟩:=hC2.ptr;injection e6 with e6a e6n e6c
        clear e6n e6g;subst e6a e6c;obtain ⟨p4,hp4⟩ : ∃ p4,Hid (rs4[jn]?=some p4):=⟨_,hid (List.getElem?_eq_getElem (by have h9:=hC2.fs.len; rw [hnd.out] at h9; omega))⟩
        obtain ⟨bu,rfl,gu⟩:=hat jn p4 hp4.out
        have hRf:=hC2.fs.at_ jn p4 hp4.out
        rw [Cn HRl.out HPl.out (by rw [hnd.out]; exact hlt3)] at hRf
        have epj:p5.getD jn []=pj:=by rw [List.getD_eq_getElem?_getD,hpe.out]; rfl
        have hfar:0<n'→∀ ad,A'=some ad→¬ Wp p4.1 p4.2 ad.block:=fun hn' ad ead hf=>by
         obtain ⟨b9,o9,_,_,e9,hS9,_⟩:=hpp.at_ hn';rw [ead] at e9;injection e9 with e9
         rw [e9] at hf
         have h8:=hC2.lo p4 (List.mem_of_getElem? hp4.out) _ hf
         have h7:b9<B:=hS9
         simp only at h8;omega
        obtain ⟨er,her⟩ : ∃ er,Hid (Rp ((Yk D).getD jn 0) (Rs.getD jn []) pj=er):=⟨_,hid rfl⟩
        have hX:=Yej (hRf.drewN 1) (hpp.Ea.drewN 1) hfar
        unfold Gd at hX;rw [her.out] at hX
        have hej:Hid (St (Yk D) Rs p5 jn=er):=hid (by show Rp _ _ (p5.getD jn [])=er; rw [epj]; exact her.out)
        have HQj:Hid (Vc ((Yk D).getD jn 0) (Rs.getD jn []) pj=Gj (Yk D) Rs p5 jn):=hid (by show _=Vc _ _ (p5.getD jn []); rw [epj])
        have j0:(0:Int)≤(jn:Int):=by omega
        have j1:(jn:Int)<(np5:Int):=by omega
        have HC2:=hid (hC2.below (below_drewN (Below.refl _ wr) 1))
        have HE2:=hid hE2
        have HX:=hid hX
        clear hX hfar hS2 hC2 hE2 hRf hpp hat epj hBw hp5 he5 hpe
        by_cases hez:er=0
        ·subst hez
         go_wp2_with fail;go_region_law (first
          | (go_simp; go_at_call 55; refine HX.out.mono ?_; rintro e w3 ⟨v3,Lv3,rfl,hI3,hRf3,hch3,hown3⟩; have hC3:=HC2.out.Yo hp4.out hch3 hRf3 hown3; have HC3:=hid hC3; clear hC3 hI3 hRf3 hch3 hown3))
         all_goals
          have hF3:=hid (show Mf w1 w3 gs (.slice (some ⟨bu,0,none⟩) np5 cu) (Yk D) (Ri (Yk D) Rs p5 (jn+1)) (rs4.set jn (p4.1,Lv3))∧∀ i,i<jn+1→St (Yk D) Rs p5 i=0 from ⟨by
           have h9:=HC3.out
           rwa [HQj.out,G9 HRl.out HPl.out (by rw [hnd.out]; exact hlt3)] at h9,fun i hi=>by
           by_cases hij:i<jn
           ·exact HE2.out i hij
           ·obtain rfl:i=jn:=by omega
            exact hej.out⟩)
          clear gp gpj gu;go_wp2_with fail;go_roundw
          case rel=>exact ⟨jn+1,_,by omega,by go_num,hF3⟩
          case measure=>simp [intOf]; omega
        ·have hne:((er:Int) != 0)=true:=by simpa using hez
         have Hst:=hid (show Zc (Yk D) Qs G2=(Rs,er) from by
          have h1:=Qd he.out HAd.out
          have h2:=Yaw (by rw [hnd.out]; exact hlt3) HRl.out HPl.out HE2.out (by rw [hej.out]; exact hez)
          rw [h2,hej.out,if_pos hez] at h1
          have h3:=Gk (N:=Yk D) (Qs:=Qs) (G:=G2) (i:=t+1) (by rw [h1]; exact hez)
          rw [h3,h1])
         have Hez:=hid hez
         clear hez;go_wp2_with fail;go_region_law (first
          | (go_simp; go_at_call 55; refine HX.out.mono ?_; rintro e w3 ⟨v3,Lv3,rfl,hI3,hRf3,hch3,hown3⟩; have hC3:=HC2.out.Yo hp4.out hch3 hRf3 hown3; have HC3:=hid hC3; clear hC3 hI3 hRf3 hch3 hown3))
         all_goals
          have HFin:=hid (show Sr w r B D M V Qs G G2 (.returned (.int .i64 (er:Nat))) w3 from Sr.no HR0.out (by rw [Rb Hx.out (by rw [Hst.out]; exact Hez.out),Hst.out]) Hez.out (HB1.out.trans (HC3.out.bel.mono hz1)))
          clear gp gpj gu;go_wp2_with fail;go_ret;exact HFin.out
       ·obtain rfl:jn=np:=by omega
        have hF3:=hid (show Mf w1 wr gs (.slice Au jn cu) (Yk D) (Wx (Yk D) Rs p) rs4∧Zc (Yk D) Qs (G2.take (t+1))=(Wx (Yk D) Rs p,0) from by
         obtain ⟨hC2,hE2⟩:=hS2.out
         have e9:Ri (Yk D) Rs p jn=Wx (Yk D) Rs p:=by rw [← hnd.out]; exact Cm HRl.out HPl.out
         rw [e9] at hC2
         have hed:=Kg HRl.out HPl.out (by rw [hnd.out]; exact hE2)
         have hsn:=Qd he.out HAd.out
         rw [if_neg (fun h=>h hed)] at hsn
         exact ⟨hC2,hsn⟩)
        clear hS2;go_wp2_with fail;go_roundw
        case rel=>exact ⟨t+1,_,_,by omega,by go_num,hF3⟩
        case measure=>simp [intOf]; omega
     ·obtain rfl:t=nf:=by omega
      have HHe:=hid (show Mf w1 wr gs (.slice Au k cu) (Yk D) Rs rs3∧Zc (Yk D) Qs G2=(Rs,0) from by
       obtain ⟨h1,h2⟩:=hS.out;rw [List.take_of_length_le (by rw [HFl.out]; exact Nat.le_refl _)] at h2
       exact ⟨h1,h2⟩)
      have HBw:=hid (HB1.out.trans (HHe.out.1.bel.mono hz1))
      have HRf:=hid (KR.out wr HBw.out)
      have cl3:=HRf.out.c3
      have hne0:0<t:=by have h9:=HGn.out.1; rw [HFl.out] at h9; exact h9
      obtain ⟨bf,of,P9,np9,cp9,Q9,nq9,cq9,p9,q9,ef9,_⟩:=(KF.out wr HBw.out).at2 hne0;subst ef9
      have HzB:=hid HBw.out.size
      have Hlg:Hid (G.length≤1000000):=hid (by rw [Hng.out]; omega)
      clear hS;go_wp2_with (at_builtin; refine Ye7 Y1 rfl _ _ rfl C9 Tryz.underlying61 rfl (by decide) wr.heap.size B (fun b=>b<B) rfl (.slice AL ng cL) G rfl HRf.out.facts (fun S us y=>Cr S _ us y) Hlg.out (Nat.le_refl _) ?_)
      intro v5 w5 hO5 hG5
      have hb5:Below wr.heap.size wr w5:=hG5.Y4 (Nat.le_refl _) fun j e=>(by cases e)
      have HO5:=hid hO5
      have hlo5:=hO5.lt
      have HF5:=hid ((KF.out w5 (HBw.out.trans (hb5.mono HzB.out))).mv Y1 (Mv.to w5 (S':=fun b=>b<B∧v5.ownBlock≠some b) fun b hb _=>⟨hb,fun e=>by have h1:=(hlo5 b e).1; have:=HzB.out; omega⟩))
      have hbs5:wr.heap.size≤w5.heap.size:=hb5.size
      have Hlg2:Hid (G.length+t≤1000000):=hid (by rw [Hng.out]; have h9:=HGn.out.2; rw [HFl.out] at h9; omega)
      have HB5:=hid hb5
      clear hO5 hG5 hb5 cl3;go_wp2_with (at_builtin; refine Vu Y1 rfl _ _ rfl C9 Tryz.underlying61 rfl (by decide) wr.heap.size (fun b=>b<B) v5 G rfl HO5.out ⟨bf,of,none⟩ t cf G2 rfl HF5.out (fun S us y=>Cr S _ us y) Hlg2.out hbs5 ?_)
      intro v6 w6 hO6 hG6
      have hb6:Below wr.heap.size wr w6:=HB5.out.trans (hG6.Y4 hbs5 fun j e=>(hlo5 j e).1)
      have HB6:=hid hb6
      have HBw6:=hid (HBw.out.trans (hb6.mono HzB.out))
      obtain ⟨A6,c6,e6,hR6⟩:=hO6.read Y1;subst e6;obtain ⟨na,hna⟩ : ∃ na,Hid ((G++G2).length=na):=⟨_,hid rfl⟩;rw [hna.out] at hR6
      have hRead:=hid (show Tj w6 (fun b=>b<w6.heap.size) A6 na c6 (G++G2) from hR6.mv Y1 (Mv.to w6 fun b _ hl=>hl))
      have HO6:=hid hO6
      rw [hna.out]
      have hNa:na≤1000:=by have h8:=hna.out; have h9:=HGn.out.2; rw [List.length_append,Hng.out] at h8; omega
      have c0:=(KR.out w6 HBw6.out).c0
      have c1':=(KR.out w6 HBw6.out).c1
      have c2':=(KR.out w6 HBw6.out).c2
      have HV:=hid (Se (KS.out w6 HBw6.out).has hn1 hn3)
      have HFn:=hid (show ∀ f∈G++G2,Vx D M.length f from fun f hf=>by
       rcases List.mem_append.1 hf with hf | hf
       ·exact HFit.out f hf
       ·exact Ou Hx.out f hf)
      clear hO6 hG6 hb6 hR6 hlo5 HO5 HF5;go_wp2_with fail;refine HV.out.mono ?_;rintro e w7 ⟨⟨Av,cv,rfl,hVs⟩,hb7⟩
      have HBx:=hid (HB6.out.trans (hb7.mono HB6.out.size))
      have HB7:=hid hb7
      have HBw7:=hid (HBw6.out.trans (hb7.mono HBw6.out.size))
      have HVs:=hid hVs
      obtain ⟨NV,hNV⟩ : ∃ NV,(Ye D V).length=NV:=⟨_,rfl⟩
      have hNV7:NV≤7:=by rw [← hNV]; exact Vt HY.out
      have HNV:=hid hNV
      rw [hNV] at HVs ⊢;clear hb7 hVs HV hNV c0 c1' c2';go_wp2_with fail;go_loopw [15] (fun i wi=>∃ t2:Nat,t2≤NV∧i=.int .i64 t2∧Below w7.heap.size w7 wi∧Hid (∀ j v,j<t2→(Ye D V)[j]?=some v→okF M.length (kP v) Y8 (G++G2))) (fun i _=>NV - (intOf i).toNat)
      case atStart=>exact ⟨0,Nat.zero_le _,rfl,Below.refl _ _,hid fun j v hj=>absurd hj (by omega)⟩
      case round =>
       obtain ⟨t2,ht2,rfl,hBt,HOk⟩:=hrel
       have HBt:=hid hBt
       have HBwt:=hid (HBw7.out.trans (hBt.mono HBw7.out.size))
       clear hBt
       have c0:=(KR.out wr HBwt.out).c0
       have c1':=(KR.out wr HBwt.out).c1
       have c2':=(KR.out wr HBwt.out).c2
       by_cases hlt2:t2<NV
       ·obtain ⟨vk,hvk⟩ : ∃ vk,Hid ((Ye D V)[t2]?=some vk):=⟨_,hid (List.getElem?_eq_getElem (by rw [HNV.out]; exact hlt2))⟩
        have hmem:=List.mem_of_getElem? hvk.out
        have j0:(0:Int)≤(t2:Int):=by omega
        have j1:(t2:Int)<(NV:Int):=by omega
        obtain ⟨bv,ov,A',n',c',rfl,hbv,gv,hv⟩:=HVs.out.has t2 hlt2;rw [show (Ye D V).getD t2 []=vk by rw [List.getD_eq_getElem?_getD,hvk.out]; rfl] at hv
        have gv:=(HBt.out.cell (p:=⟨bv,ov+t2,none⟩) hbv).trans gv
        have HRr:=hid (fun (y:World) (hy:Below w7.heap.size w7 y)=>by
         have h1:=Lm (A1:=A1) (n1:=n1) (c1:=c1) (A2:=A2) (c2:=c2) (A3:=A3) (n3:=n3) (c3:=c3) HY.out HFn.out ((hRead.out.mv Y1 (Mv.Yc (HB7.out.trans (hy.mono HB7.out.size)) _)).mv Y1 (Mv.to y fun b _ hl=>hl)) hmem (hv.Yc hy) hNa
         rw [HMl.out] at h1;exact h1)
        have HX:=hid (HRr.out (wr.drewN 1) (HBt.out.trans ((below_drewN (Below.refl _ wr) 1).mono HBt.out.size)))
        have Hmem:=hid hmem
        clear hv hmem hbv HRr
        by_cases hok:okF n2 (kP vk) Y8 (G++G2)
        ·go_wp2_with fail
         go_region_law (first
          | (go_simp; go_at_call 56; refine HX.out.mono ?_; rintro e w8 ⟨h8,hb8⟩; rcases h8 with ⟨_,A8,c8,L8,rfl,_,_⟩ | ⟨h8,_⟩; rotate_left 1; exact absurd hok h8; have hb8' : Below wr.heap.size wr w8:=(below_drewN (Below.refl _ wr) 1).trans hb8; have HB8:=hid (HBt.out.trans (hb8'.mono HBt.out.size)); clear hb8 hb8'))
         all_goals
          have HOk9:=hid (show ∀ j v,j<t2+1→(Ye D V)[j]?=some v→okF M.length (kP v) Y8 (G++G2) from fun j v hj hv=>by
           by_cases hjt:j<t2
           ·exact HOk.out j v hjt hv
           ·obtain rfl:j=t2:=by omega
            rw [hvk.out] at hv;injection hv with hv
            subst hv;rw [HMl.out];exact hok)
          clear c0 c1' c2' gv;go_wp2_with fail;go_roundw
          case rel=>exact ⟨t2+1,by omega,by go_num,HB8.out,HOk9⟩
          case measure=>simp [intOf]; omega
        ·have Hno:=hid (show Y7 D M V (G.map Zo) Qs G2=((G.map Zo,Qs),14) from Qf Hx.out (by rw [HHe.out.2]) Hmem.out fun h=>hok (by
          rw [← List.map_append,Ybd,HMl.out] at h;exact h))
         go_wp2_with fail;go_region_law (first
          | (go_simp; go_at_call 56; refine HX.out.mono ?_; rintro e w8 ⟨h8,hb8⟩; rcases h8 with ⟨h8,_⟩ | ⟨_,rfl⟩; exact absurd h8 hok; have hb8' : Below wr.heap.size wr w8:=(below_drewN (Below.refl _ wr) 1).trans hb8; have HB8:=hid (HBwt.out.trans (hb8'.mono HBwt.out.size)); clear hb8 hb8'))
         all_goals
          have HFin:=hid (show Sr w r B D M V Qs G G2 (.returned (.int .i64 ((14:Nat):Nat))) w8 from Sr.no HR0.out Hno.out (by decide) HB8.out)
          clear c0 c1' c2' gv;go_wp2_with fail;go_ret;exact HFin.out
       ·obtain rfl:t2=NV:=by omega
        have HFin:=hid (show Sr w r B D M V Qs G G2 (.returned (.int .i64 ((0:Nat):Nat))) ((wr.setCell ⟨r,3,none⟩ (.slice A6 na c6)).setCell ⟨r,4,none⟩ (.slice Au k cu)) from by
         have e1:Y7 D M V (G.map Zo) Qs G2=((G.map Zo++G2.map Zo,Rs),0):=by
          rw [L3 Hx.out (by rw [HHe.out.2]) (fun v hv=>by
           obtain ⟨j,hj⟩:=List.getElem?_of_mem hv;rw [← List.map_append,Ybd];exact HOk.out j v (by rw [← HNV.out]; exact (List.getElem?_eq_some_iff.1 hj).1) hj) (by rw [Qj,Hng.out]; have h9:=HGn.out.2; omega),HHe.out.2]
         have hC:=HHe.out.1.below (HBx.out.trans (HBt.out.mono HBx.out.size))
         have hrow:=Uv hC.row (show B≤w1.heap.size by omega)
         rw [← hC.gv,List.length_map,List.map_map] at hrow
         have h8:=HO6.out
         rw [hna.out] at h8
         have h8:=(h8.below Y1 (HB7.out.trans (HBt.out.mono HB7.out.size))).low (Nat.le_trans hBs HBw.out.size)
         have hL:=(KR.out wr HBwt.out).swap h8 hrow hC.fs
         have hrb:=(KR.out wr HBwt.out).rb
         refine ⟨by rw [e1],((Chg.Yz (S:=fun k=>k=r) HBwt.out (Nat.le_refl _)).Yo r 3 _ fun _=>rfl).Yo r 4 _ fun _=>rfl,?_⟩
         rw [e1,if_pos rfl];exact ⟨_,_,rs3,A1,n1,c1,A2,n2,c2,A3,n3,c3,hL,(KS.out wr HBwt.out).chg (Yqf wr r (.slice A6 na c6) (.slice Au k cu)) (fun b hb e=>by have hb:b<B:=hb; have e:b=r:=e; omega),HY.out,HFn.out⟩)
        have hbk:=(KR.out wr HBwt.out).blk
        have s3:=hbk.cell 3
        have f3:=hbk.free 3
        have hbk2:=hbk.Yo 3 (.slice A6 na c6)
        have s4:=hbk2.cell 4
        have f4:=hbk2.free 4
        clear hbk hbk2;go_wp2_with fail;go_ret;exact HFin.out
 ·obtain ⟨x,hq⟩ : ∃ x,Hid (Xu D M V G2=x):=⟨_,hid rfl⟩
  rw [hq.out] at HM hx
  have hne:((x:Int) != 0)=true:=by simpa using hx
  have HM:=hid HM
  have Hx:=hid hx
  clear hx;go_wp2_with fail;refine HM.out.mono ?_;rintro e w1 ⟨rfl,hb1⟩
  have HFin:=hid (show Sr w r B D M V Qs G G2 (.returned (.int .i64 (x:Nat))) w1 from Sr.no HR0.out (by rw [Qg (by rw [hq.out]; exact Hx.out),hq.out]) Hx.out hb1)
  clear hb1 HM;go_wp2_with fail;go_ret;exact HFin.out
theorem RLt.parts (h:RLt w r B D M V Qs G) :
  ∃ AL cL A1 n1 c1 A2 n2 c2 A3 n3 c3,(∀ y,Below w.heap.size w y→y.cell? ⟨r,0,none⟩=some (.slice A1 n1 c1)∧y.cell? ⟨r,1,none⟩=some (.slice A2 n2 c2)∧y.cell? ⟨r,2,none⟩=some (.slice A3 n3 c3)∧y.cell? ⟨r,3,none⟩=some (.slice AL G.length cL)∧Wm y (fun b=>b<y.heap.size) A1 n1 c1 A2 n2 c2 A3 n3 c3 D M V∧Tj y (fun b=>b<y.heap.size) AL G.length cL G)∧Z3 D M V∧n1≤1000∧M.length=n2∧n3≤1000∧∀ f∈G,Vx D M.length f:=by
 obtain ⟨Lv,Dv,rs,A1,n1,c1,A2,n2,c2,A3,n3,c3,h1,h2,hm,hf⟩:=h;obtain ⟨AL,cL,e,_⟩:=h1.facts.read Y1;subst e
 have hd:=W4 hm
 have h3:=h2.d.len
 have h4:=h2.v.len
 have h5:=Vt hm
 refine ⟨AL,cL,A1,n1,c1,A2,n2,c2,A3,n3,c3,fun y hy=>?_,hm,by omega,h2.m.len,by simp [Ye] at h5; omega,hf⟩
 have g1:=h1.below hy
 obtain ⟨AL',cL',e,g3⟩:=g1.facts.read Y1;injection e with e1 _ e3
 subst e1 e3
 have g2:=h2.Yc hy
 have hB:B≤y.heap.size:=by have:=g1.blk.lt; have:=g1.rb; omega
 exact ⟨g1.c0,g1.c1,g1.c2,g1.c3,⟨(g2.d).mv Wy (Mv.to y fun b _ hl=>hl),(g2.m).mv Yp (Mv.to y fun b _ hl=>hl),(g2.v).mv Wj (Mv.to y fun b _ hl=>hl)⟩,g3.mv Y1 (Mv.to y fun b _ hl=>hl)⟩
theorem Ysb (h:RLt w r B D M V Qs G) {v:Int}(hv:v<0∨((Ye D V).length:Int)≤v) :
  Calls Tryz.prog 33 #[.pointer (some ⟨r,0,none⟩),.int .i64 v] w fun e w'=>e=.returned (.tuple #[.slice none 0 0,.int .i64 17])∧Below w.heap.size w w':=by
 obtain ⟨AL,cL,A1,n1,c1,A2,n2,c2,A3,n3,c3,KS,hm,hn1,hM,hn3,hf⟩:=h.parts;obtain ⟨c0,c1',c2',c3',hS,_⟩:=KS w (Below.refl _ w)
 have HV:=hid (Se hS.has hn1 hn3)
 have hv7:=Vt hm
 obtain ⟨nv,hnv⟩ : ∃ nv,(Ye D V).length=nv:=⟨_,rfl⟩;rw [hnv] at hv hv7
 have Hnv:=hid hnv
 clear hnv h hS KS hm hM hf;go_enter Tryz.func33,Tryz.ntmps33;go_wp2_with fail;refine HV.out.mono ?_;rintro e w1 ⟨⟨Av,cv,rfl,hVs⟩,hb1⟩;rw [Hnv.out]
 have HB:=hid hb1
 clear hVs hb1 HV c0 c1' c2' c3'
 by_cases hv0:v<0
 ·have e0:decide (v<0)=true:=decide_eq_true hv0
  go_wp2_with fail;go_ret2;exact ⟨rfl,HB.out⟩
 ·have e0:decide (v<0)=false:=decide_eq_false hv0
  have e1:decide ((nv:Int)≤v)=true:=decide_eq_true (by omega)
  go_wp2_with fail;go_ret2;exact ⟨rfl,HB.out⟩
theorem Ybn (h:RLt w r B D M V Qs G) (hL:Tk D M V (G.map Zo) Rs) (hn:G.length≤1000) {k:Nat}{v:List Int}(hv:(Ye D V)[k]?=some v) :
  Calls Tryz.prog 33 #[.pointer (some ⟨r,0,none⟩),.int .i64 (k:Nat)] w fun e w'=>(∃ A c L,e=.returned (.tuple #[.slice A L.length c,.int .i64 0])∧W7 M.length (kP v) Xl (G.map Zo) L∧Row Sd 5 w' (fun b=>w.heap.size≤b) A L.length c L)∧Below w.heap.size w w':=by
 obtain ⟨AL,cL,A1,n1,c1,A2,n2,c2,A3,n3,c3,KS,hm,hn1,hM,hn3,hf⟩:=h.parts;obtain ⟨c0,c1',c2',c3',hS,_⟩:=KS w (Below.refl _ w)
 have HV:=hid (Se hS.has hn1 hn3)
 have hmem:=hid (List.mem_of_getElem? hv)
 have hkl:=(List.getElem?_eq_some_iff.1 hv).1
 have hv7:=Vt hm
 obtain ⟨nv,hnv⟩ : ∃ nv,(Ye D V).length=nv:=⟨_,rfl⟩;rw [hnv] at hkl hv7
 have Hnv:=hid hnv
 have Hv:=hid hv
 have KS:=hid KS
 have HF:=hid hf
 have HM:=hid hM
 have HL:=hid hL
 obtain ⟨ng,hng⟩ : ∃ ng,G.length=ng:=⟨_,rfl⟩;rw [hng] at KS c3' hn;clear hnv h hS hm hM hf hv hL hng;go_enter Tryz.func33,Tryz.ntmps33;go_wp2_with fail;refine HV.out.mono ?_;rintro e w1 ⟨⟨Av,cv,rfl,hVs⟩,hb1⟩;rw [Hnv.out] at hVs ⊢
 have HB:=hid hb1
 obtain ⟨bv,ov,A',n',c',rfl,hbv,gv,hv⟩:=hVs.has k hkl;rw [show (Ye D V).getD k []=v by rw [List.getD_eq_getElem?_getD,Hv.out]; rfl] at hv
 have hbx:Below w1.heap.size w1 (w1.drewN 1):=below_drewN (Below.refl _ w1) 1
 obtain ⟨x0,x1,x2,x3,_,_⟩:=KS.out w1 hb1;obtain ⟨_,_,_,_,_,hG⟩:=KS.out (w1.drewN 1) (hb1.trans (hbx.mono hb1.size))
 have hX:=Ybl (A1:=A1) (n1:=n1) (c1:=c1) (A2:=A2) (c2:=c2) (A3:=A3) (n3:=n3) (c3:=c3) HL.out HF.out hG hmem.out (hv.Yc hbx) hn
 rw [HM.out] at hX
 have HX:=hid hX
 have i0:¬ (k:Int)<0:=by omega
 have i1:¬ (nv:Int)≤(k:Int):=by omega
 have j0:(0:Int)≤(k:Int):=by omega
 have j1:(k:Int)<(nv:Int):=by omega
 clear hVs hb1 HV c0 c1' c2' c3' hv hbv hX hG hbx;go_wp2_with fail;go_region_law (first
  | (go_simp; go_at_call 56; refine HX.out.mono ?_; rintro e w8 ⟨⟨A8,c8,L8,rfl,hL8,hr8⟩,hb8⟩; have HE:=hid (show (∃ A c L,Ending.returned (.tuple #[.slice A8 L8.length c8,.int .i64 0])=.returned (.tuple #[.slice A L.length c,.int .i64 0])∧W7 M.length (kP v) Xl (G.map Zo) L∧Row Sd 5 w8 (fun b=>w.heap.size≤b) A L.length c L)∧Below w.heap.size w w8 from ⟨⟨A8,c8,L8,rfl,by rw [HM.out]; exact hL8,hr8.mv Zz (Mv.to w8 fun b hb _=>Nat.le_trans HB.out.size hb)⟩,(HB.out.trans ((below_drewN (Below.refl _ w1) 1).mono HB.out.size)).trans (hb8.mono HB.out.size)⟩); clear hL8 hr8 hb8))
 all_goals
  clear x0 x1 x2 x3 gv;go_wp2_with fail;go_ret2;exact HE.out
def Ypw (D:List Yg) (M:List Txt) (V:List (List Int)) (F:List Hld) (cnt:Int→Nat):Prop:=∀ (i:Nat) (v:List Int) (L:Rws),(Ye D V)[i]?=some v→W7 M.length (kP v) Xl F L→L.length=cnt i
theorem Ykg {κ:Hld→Zd}{c:Hld→PC}{F:List Hld}{R:Rws} (h:W7 m κ c F R):R.length≤F.length:=by
 have h1:(R.map (·.1)).Nodup:=by
  rw [List.nodup_iff_pairwise_ne,List.pairwise_map];exact h.ris.imp fun {a b} hab=>Ydv hab
 have h2:=h1.length_le_of_subset (l₂:=F.map κ) (fun k hk=>by
  obtain ⟨x,hx,rfl⟩:=List.mem_map.1 hk;obtain ⟨⟨f,hf,e⟩,_⟩:=(h.all x).1 hx;exact List.mem_map.2 ⟨f,hf,e⟩)
 simpa using h2
theorem LSt.cnt (h:LSt y g F R B D M V E Qs):∃ cnt:Int→Nat,Ypw D M V E cnt:=by
 obtain ⟨Cs,_,hI⟩:=h.ex;exact ⟨fun u=>(Cs.getD u.toNat []).length,fun i v L hv hL=>by simpa using (E8 h.ok hI hv hL).symm⟩
instance (a b:Zd):Decidable (Z0 a b):=by unfold Z0; exact inferInstance
theorem LSt.Ybp (h:LSt y g F R B D M V E Qs) {i:Nat}{v:List Int}(hi:(Ye D V)[i]?=some v):∃ L,W7 M.length (kP v) Xl E L:=by
 obtain ⟨Cs,_,hI⟩:=h.ex;refine ⟨(J8 Qs (Cs.getD i [])).mergeSort fun a b=>decide (¬ Z0 b.1 a.1),Yrs h.ok hI hi (List.mergeSort_perm _ _) ?_⟩
 refine (List.pairwise_mergeSort (fun a b c h1 h2=>?_) (fun a b=>?_) _).imp fun h=>of_decide_eq_true h
 ·exact decide_eq_true (Ya4 (of_decide_eq_true h2) (of_decide_eq_true h1))
 ·by_cases h1:Z0 b.1 a.1
  ·rw [decide_eq_true (Ydu h1),Bool.or_true]
  ·rw [decide_eq_true h1,Bool.true_or]
theorem Ydt {cnt:Int→Nat} (h:LSt y g F R B D M V E Qs) (hc:Ypw D M V E cnt) {i:Nat}{v:List Int}(hi:(Ye D V)[i]?=some v) :
  Calls Tryz.prog 16 #[.pointer (some ⟨g,0,none⟩),.int .i64 i] y fun e y'=>e=.returned (.tuple #[.int .i64 (cnt i:Nat),.int .i64 0])∧y=y':=by
 obtain ⟨L,hL⟩:=h.Ybp hi
 have h1:=Yn2 h hi hL
 rwa [hc i v L hi hL] at h1
def Yah (cnt:Int→Nat) (L:List Int) (k:Nat) (b c:Int):Prop:=(k=0∧b=-1∧c=0)∨(0≤b∧Va cnt (L.take k) b∧c=(cnt b:Int))
theorem Yah.yes {cnt:Int→Nat} (h:Yah cnt L k b c) (hu:L[k]?=some u) (h0:0≤u) (hn:n=cnt u) (hc:b<0∨(n:Int)<c):Yah cnt L (k+1) u (n:Int):=by
 subst hn;refine .inr ⟨h0,?_,rfl⟩;rw [← Z4 hu]
 rcases h with ⟨rfl,rfl,rfl⟩ | ⟨h1,h2,h3⟩
 ·rw [List.take_zero]; exact Cc cnt u
 ·exact h2.less (by omega)
theorem Yah.no {cnt:Int→Nat} (hr:L.Pairwise (·<·)) (h:Yah cnt L k b c) (hu:L[k]?=some u) (hn:n=cnt u) (hb:¬ b<0) (hc:¬ (n:Int)<c):Yah cnt L (k+1) b c:=by
 subst hn
 rcases h with ⟨rfl,rfl,rfl⟩ | ⟨h1,h2,h3⟩
 ·exact absurd (by decide) hb
 ·refine .inr ⟨h1,?_,h3⟩
  rw [← Z4 hu];exact h2.Vj (by omega) (Int.le_of_lt (E7 hr hu h2.1))
theorem Yah.done {cnt:Int→Nat} (h:Yah cnt L L.length b c) (h0:0<L.length):Va cnt L b:=by
 rcases h with ⟨h1,_,_⟩ | ⟨_,h2,_⟩
 ·omega
 ·rwa [List.take_length] at h2
def Ylz (cnt:Int→Nat) (L:List Int) (w:World) (e:Ending) (w' : World):Prop:=∃ v:Int,e=.returned (.tuple #[.int .i64 v,.int .i64 0])∧Va cnt L v∧Below w.heap.size w w'
theorem Dz {c1 c2:Nat}{q:Qry}{cnt:Int→Nat} 
  (h:RLt w r B D M V Qs G) (hL:Tk D M V (G.map Zo) Rs) (hn:G.length≤1000) (hcn:Ypw D M V (G.map Zo) cnt) (hq:V0 w S A1 n1 c1 A2 n2 c2 q) (hm:Wk D M V q=0) :
  Calls Tryz.prog 15 #[.pointer (some ⟨r,0,none⟩),O4 A1 n1 c1 A2 n2 c2] w (Ylz cnt (Vd D V q) w):=by
 have hb0:=Ya w (.cells #[.slice A1 n1 c1,.slice A2 n2 c2] 30)
 have hbl:=Block.new w 30 #[.slice A1 n1 c1,.slice A2 n2 c2]
 have h0:=hq.Yc hb0
 have hR:=h.below hb0
 clear h hq;go_enter Tryz.func15,Tryz.ntmps15;go_wp2_with fail;generalize w.alloc (.cells #[.slice A1 n1 c1,.slice A2 n2 c2] 30)=W at hb0 hbl h0 hR ⊢;obtain ⟨AL,cL,E1,k1,f1,E2,k2,f2,E3,k3,f3,KS,hmS,hk1,hM,hk3,_⟩:=hR.parts;obtain ⟨x0,x1,x2,_,_,_⟩:=KS W (Below.refl _ W)
 have hbx:Below W.heap.size W (W.drewN 1):=below_drewN (Below.refl _ W) 1
 obtain ⟨_,_,_,_,hS,_⟩:=KS (W.drewN 1) hbx
 have HCV:=N8 hS.has hk1 hk3 (h0.Yc hbx)
 rw [hm,Tp hm] at HCV
 have HCV:=hid HCV
 have hvl:V.length≤6:=hmS.2.2.1
 have Hm:=hid hm
 have HR:=hid hR
 have HL:=hid hL
 have HCN:=hid hcn
 have q0:W.cell? ⟨w.heap.size,0,none⟩=some (.slice A1 n1 c1):=hbl.cell 0
 have q1:W.cell? ⟨w.heap.size,1,none⟩=some (.slice A2 n2 c2):=hbl.cell 1
 have hz0:=hb0.size
 clear KS hmS hm hM hS hR hL hcn h0 hbl;go_wp2_with fail;go_region_law (first | (go_simp; go_at_call 10; refine HCV.out.mono ?_; rintro e w2 ⟨v2,rfl,hO2,hb2'⟩; have hb2:Below W.heap.size W w2:=hbx.trans hb2'; obtain ⟨Av,nv,cv,rfl,hN2,_⟩:=hO2.Yu))
 all_goals
  have hB2:=hb0.trans (hb2.mono hz0)
  obtain ⟨T,hT⟩:=Kd Hm.out
  have hne:0<nv:=by have h1:=hN2.len; rw [hT] at h1; simp at h1; omega
  have HLN:Hid ((Vd D V q).length=nv):=hid hN2.len
  have hmx:nv≤7:=by have h1:=Mp (Ye D V) (Xa q) (Ye D V).length; have h2:=HLN.out; unfold Vd at h2; have h3:(Ye D V).length=V.length+1:=rfl; omega
  have hz2:=hB2.size
  clear HCV hO2 x0 x1 x2 q0 q1 hT hb0;go_wp2_with fail;go_loopw [8,9,10] (fun bv cv i wr=>∃ (k:Nat) (b c:Int),k≤nv∧bv=.int .i64 b∧cv=.int .i64 c∧i=.int .i64 k∧Yah cnt (Vd D V q) k b c∧Below w2.heap.size w2 wr) (fun _ _ i _=>nv - (intOf i).toNat)
  case atStart=>exact ⟨0,-1,0,Nat.zero_le _,rfl,rfl,rfl,.inl ⟨rfl,rfl,rfl⟩,Below.refl _ _⟩
  case round =>
   obtain ⟨k,b,c,hk,rfl,rfl,rfl,hC,hB⟩:=hrel
   by_cases hlt:k<nv
   ·obtain ⟨bb,o,u,rfl,g0,hu⟩:=(hN2.below hB (Nat.le_refl _)).get hlt
    have i0:(0:Int)≤(k:Int):=by omega
    have i1:(k:Int)<(nv:Int):=by omega
    obtain ⟨j,hj,rfl,_⟩:=Hr (List.mem_of_getElem? hu.out);obtain ⟨vw,hvw⟩ : ∃ vw,(Ye D V)[j]?=some vw:=⟨_,List.getElem?_eq_getElem (show j<(Ye D V).length from by show j<V.length+1; omega)⟩
    have hBW:=hb2.trans (hB.mono hb2.size)
    have HX:=hid (Ybn (HR.out.below hBW) HL.out hn hvw)
    have HC:=hid hC
    have Hvw:=hid hvw
    clear hC hvw;go_wp2_with fail;refine HX.out.mono ?_;rintro e w5 ⟨⟨A5,c5,L5,rfl,hL5,_⟩,hb5⟩
    have hcnt:=HCN.out j vw L5 Hvw.out hL5
    have hB5:=hB.trans (hb5.mono hB.size)
    have g5:=(Below.cell hb5 (p:=⟨bb,o+k,none⟩) (World.block_lt_of_cell? wr _ g0)).trans g0
    obtain ⟨ln,hln⟩ : ∃ ln,L5.length=ln:=⟨_,rfl⟩;rw [hln] at hcnt ⊢
    have HCT:=hid hcnt
    clear HX hB hBW hb5 hL5 hln hcnt
    by_cases hb:b<0
    ·have hF:=hid (HC.out.yes hu.out (by omega) HCT.out (.inl hb))
     go_wp2_with fail;go_roundw
     case rel=>exact ⟨k+1,_,_,by omega,rfl,rfl,by go_num,hF.out,hB5⟩
     case measure=>simp [intOf]; omega
    ·by_cases hc:(ln:Int)<c
     ·have hF:=hid (HC.out.yes hu.out (by omega) HCT.out (.inr hc))
      go_wp2_with fail;go_roundw
      case rel=>exact ⟨k+1,_,_,by omega,rfl,rfl,by go_num,hF.out,hB5⟩
      case measure=>simp [intOf]; omega
     ·have hF:=hid (HC.out.no (Cp _ _ _) hu.out HCT.out hb hc)
      go_wp2_with fail;go_roundw
      case rel=>exact ⟨k+1,_,_,by omega,rfl,rfl,by go_num,hF.out,hB5⟩
      case measure=>simp [intOf]; omega
   ·obtain rfl:k=nv:=by omega
    have hF:=hid (show Va cnt (Vd D V q) b∧Below w.heap.size w wr from ⟨by have h1:=hC; rw [← HLN.out] at h1; exact h1.done (by rw [HLN.out]; exact hne),hB2.trans (hB.mono hz2)⟩)
    clear hC hB;go_wp2_with fail;go_ret2;exact ⟨b,rfl,hF.out⟩
theorem Ybg {c1 c2:Nat}{q:Qry} 
  (h:RLt w r B D M V Qs G) (hq:V0 w S A1 n1 c1 A2 n2 c2 q) (hm:Wk D M V q=x) (hx0:x≠0) :
  Calls Tryz.prog 15 #[.pointer (some ⟨r,0,none⟩),O4 A1 n1 c1 A2 n2 c2] w fun e w'=>e=.returned (.tuple #[.int .i64 0,.int .i64 x])∧Below w.heap.size w w':=by
 have hb0:=Ya w (.cells #[.slice A1 n1 c1,.slice A2 n2 c2] 30)
 have hbl:=Block.new w 30 #[.slice A1 n1 c1,.slice A2 n2 c2]
 have h0:=hq.Yc hb0
 have hR:=h.below hb0
 have hx1:((x:Int) != 0)=true:=by simp; omega
 clear h hq;go_enter Tryz.func15,Tryz.ntmps15;go_wp2_with fail;generalize w.alloc (.cells #[.slice A1 n1 c1,.slice A2 n2 c2] 30)=W at hb0 hbl h0 hR ⊢;obtain ⟨AL,cL,E1,k1,f1,E2,k2,f2,E3,k3,f3,KS,_,hk1,_,hk3,_⟩:=hR.parts;obtain ⟨x0,x1,x2,_,_,_⟩:=KS W (Below.refl _ W)
 have hbx:Below W.heap.size W (W.drewN 1):=below_drewN (Below.refl _ W) 1
 obtain ⟨_,_,_,_,hS,_⟩:=KS (W.drewN 1) hbx
 have HCV:=N8 hS.has hk1 hk3 (h0.Yc hbx)
 rw [hm] at HCV
 have HCV:=hid HCV
 have q0:W.cell? ⟨w.heap.size,0,none⟩=some (.slice A1 n1 c1):=hbl.cell 0
 have q1:W.cell? ⟨w.heap.size,1,none⟩=some (.slice A2 n2 c2):=hbl.cell 1
 clear KS hS hR h0 hbl hm hx0;go_wp2_with fail;go_region_law (first | (go_simp; go_at_call 10; refine HCV.out.mono ?_; rintro e w2 ⟨v2,rfl,_,hb2'⟩; have hb2:Below W.heap.size W w2:=hbx.trans hb2'))
 all_goals
  obtain hB2:=hb0.trans (hb2.mono hb0.size);clear HCV hb2 hb0;go_wp2_with fail;go_ret2;exact ⟨rfl,hB2⟩
section
section
variable {y:World}{g:Nat}{F R:Nat→Prop}{B:Nat}{D:List Yg}{M:List Txt}{V:List (List Int)}{E:List Hld}{Qs:List (List Pth)}{S:Nat→Prop}{A1 A2:Option Addr}{n1 c1 n2 c2:Nat}{q:Qry}
theorem Rh {cnt:Int→Nat}(h:LSt y g F R B D M V E Qs) (hcn:Ypw D M V E cnt) (hq:V0 y S A1 n1 c1 A2 n2 c2 q) (hm:Wk D M V q=0) (hE:E.length≤1000) :
  Calls Tryz.prog 14 #[.pointer (some ⟨g,0,none⟩),O4 A1 n1 c1 A2 n2 c2] y (Ylz cnt (Vd D V q) y):=by
 obtain ⟨Cs,h1,hI⟩:=h.ex
 have hfit:=En (Wv hm).1
 refine Ycp h1 hfit.1 hfit.2 hI.len (fun i hi=>?_) (fun i hi=>?_) hq hm
 ·have hv:=List.getElem?_eq_getElem hi
  obtain ⟨L,hL⟩:=h.Ybp hv;rw [← hcn i _ L hv hL,E8 h.ok hI hv hL]
 ·have hv:=List.getElem?_eq_getElem hi
  obtain ⟨L,hL⟩:=h.Ybp hv;rw [← hcn i _ L hv hL];exact Nat.le_trans (Ykg hL) (by omega)
theorem G1 {x:Nat}(h:LSt y g F R B D M V E Qs) (hmS:Z3 D M V) (hq:V0 y S A1 n1 c1 A2 n2 c2 q) (hm:Wk D M V q=x) (hx0:x≠0) :
  Calls Tryz.prog 14 #[.pointer (some ⟨g,0,none⟩),O4 A1 n1 c1 A2 n2 c2] y fun e w'=>e=.returned (.tuple #[.int .i64 0,.int .i64 x])∧Below y.heap.size y w':=by
 obtain ⟨Cs,h1,_⟩:=h.ex
 have hfit:=En hmS
 exact Yfl h1 hmS hfit.1 hfit.2 hq hm hx0
end
end
theorem Zt (w:World):Calls Tryz.prog 12 #[] w fun e w'=>e=.returned (.bool true)∧Below w.heap.size w w':=by
 have z7:w.heap.size+1+1+1+1+1+1+1=(LyS w).heap.size:=by unfold LyS; rw [World.size_alloc,Yb1]
 have hB0:=Yir w
 have hQB:=Yip (LyS w) (w.heap.size+1+1+1+1+1+1+1)
 have hB1:=Yb hB0 hQB
 have hS:=(Yp0 w).Yc hQB
 have hX:=(D7 w).below hQB (D7 w).lt
 have hQ:=Ypz (LyS w) _ z7
 have hY:=Yiq (LyS w) _ z7
 have zq:(LyQ (LyS w) (w.heap.size+1+1+1+1+1+1+1)).heap.size=w.heap.size+1+1+1+1+1+1+1+1+1:=by unfold LyQ; rw [World.size_alloc,World.size_alloc,← z7]
 have hS1:=hS.mv (R':=fun b=>b<(LyQ (LyS w) (w.heap.size+1+1+1+1+1+1+1)).heap.size) (Mv.to _ fun b _ hl=>hl)
 have HC:=Ve hS1.has Yob (fun s hs=>by rw [List.mem_singleton.1 hs]; decide) (by decide) (by decide) hQ
 rw [Hz,Tp Hz,Ygh] at HC
 have HC:=hid HC
 clear hS hB0 hQB zq z7;go_enter Tryz.func12,Tryz.ntmps12;go_wp2_with fail;refine HC.out.mono ?_;rintro e w1 ⟨v1,rfl,hO1,hb1⟩;obtain ⟨A1,n1,c1,rfl,hC1,_⟩:=hO1.Yu;obtain rfl:n1=2:=hC1.len.symm
 have hX1:=hX.below hb1 hX.lt
 have hY1:=hY.below hb1 hY.lt
 have hB2:=hB1.trans (hb1.mono hB1.size)
 have hzq:=hb1.size
 have hS2:=hS1.Yc hb1
 have hQ2:=hQ.Yc hb1
 have HN:=hid (Yed hS2 Yob (fun s hs=>by rw [List.mem_singleton.1 hs]; decide) Ysq)
 have x0:=hX1.cell 0
 have x1:=hX1.cell 1
 have x2:=hX1.cell 2
 clear HC hX hY hS1 hQ hO1 hb1 hB1 hS2;go_wp2_with fail;refine HN.out.mono ?_;rintro e w2 ⟨g,F,R,rfl,hL2,hR2,hb2⟩
 have HY2:=hid (hY1.below hb2 hY1.lt)
 have hyl:=hY1.lt
 have hz2:=hb2.size
 have hB3:=hB2.trans (hb2.mono hB2.size)
 have HQ2:=hid (hQ2.Yc hb2)
 have HC2:=hid (hC1.below hb2 (Nat.le_refl _))
 obtain ⟨cnt,hcnt⟩:=hL2.cnt
 have h00:cnt 0=0:=(hcnt 0 [2] [] (by rw [Em]; rfl) (Yf8 _ _ _)).symm
 have HCH:=Rh hL2 hcnt HQ2.out Hz (Nat.zero_le _)
 rw [Ygh] at HCH
 have HCH:=hid HCH
 have q0:=HY2.out.cell 0
 have q1:=HY2.out.cell 1
 have HL2:=hid hL2
 have H00:=hid h00
 clear HN x0 x1 x2 hX1 hY1 hQ2 hC1 hb2 hB2 hcnt hL2 hR2 h00;go_wp2_with fail;refine HCH.out.mono ?_;rintro e w3 ⟨v3,rfl,hv3,hb3⟩;obtain rfl:=Yod H00.out hv3
 have hbF:=Yio w3
 have hFt:=Ypy w3
 have hL3:=(HL2.out.below hb3).below hbF
 have hA:=Yfh (S:=fun b=>w3.heap.size≤b) hL3 (by have h1:=hb3.size; have h2:=hbF.size; omega) hFt (fun b hb hf=>by have h1:=(HL2.out.below hb3).lt hf; have hb:w3.heap.size≤b:=hb; omega) Yoc.1
 have HA:=hid hA
 have hB4:Below w1.heap.size w2 (LxW w3):=(hb3.mono hz2).trans (hbF.mono (Nat.le_trans hz2 hb3.size))
 have HLow:=hid hL3.low
 have HBW:=hid (hB3.trans (hB4.mono (by have:=hB3.size; omega)))
 have HB4:=hid hB4
 clear HCH q0 q1 hv3 hL3 hA hFt hb3 hbF hB4 hB3 HL2 H00;go_wp2_with fail;refine HA.out.mono ?_;rintro e w5 ⟨rfl,F5,hL5,hc5,_⟩
 have HB5:=hid (HB4.out.trans (hc5.below (Nat.le_trans hz2 HB4.out.size) HLow.out))
 have HBW5:=hid (HBW.out.trans ((hc5.below (B:=w1.heap.size) (Nat.le_trans hz2 HB4.out.size) HLow.out).mono (by have:=HBW.out.size; omega)))
 have HY5:=hid (HY2.out.below HB5.out hyl)
 have hQ5:=HQ2.out.mv (Mv.below HB5.out fun b hb=>Nat.lt_of_lt_of_le hb hzq)
 obtain ⟨cnt2,hcnt2⟩:=hL5.cnt
 have h03:cnt2 0=3:=(hcnt2 0 [2] LxB (by rw [Em]; rfl) Yq4).symm
 have h12:cnt2 1=2:=(hcnt2 1 [1] LxR (by rw [Em]; rfl) Yq5).symm
 have HCH:=Rh hL5 hcnt2 hQ5 Hz (by decide)
 rw [Ygh] at HCH
 have HCH:=hid HCH
 have HV:=hid (fun v (hv:Va cnt2 [0,1] v)=>Yoe h03 h12 hv)
 have q0:=HY5.out.cell 0
 have q1:=HY5.out.cell 1
 clear HA hL5 hc5 hQ5 hcnt2 h03 h12 HQ2 HY2;go_wp2_with fail;refine HCH.out.mono ?_;rintro e w6 ⟨v6,rfl,hv6,hb6⟩;obtain rfl:=HV.out _ hv6
 have HY6:=hid (HY5.out.below hb6 HY5.out.lt)
 have HN6:=hid (Yco w6 (some ⟨w.heap.size+1+1+1+1+1+1+1,0,none⟩) none 1 1 0 0)
 have HB6:=hid (HB5.out.trans (hb6.mono (Nat.le_trans hz2 HB5.out.size)))
 have HBW6:=hid (HBW5.out.trans (hb6.mono HBW5.out.size))
 have q0:=HY6.out.cell 0
 have q1:=HY6.out.cell 1
 clear HCH HV hv6 hb6;go_wp2_with fail;refine HN6.out.mono ?_;rintro e w7 ⟨rfl,hb7⟩
 have hC7:=(HC2.out.below HB6.out (Nat.le_refl _)).below hb7 (Nat.le_trans hz2 HB6.out.size)
 obtain ⟨b,o,x,rfl,g1,hx⟩:=hC7.get (k:=1) (by decide)
 obtain rfl:(1:Int)=x:=by have:=hx.out; simpa using this
 have HF:=hid (HBW6.out.trans (hb7.mono HBW6.out.size))
 clear HN6 q0 q1 hb7 hC7 hx;go_wp2_with fail;go_ret;exact ⟨rfl,HF.out⟩
section
structure Gg (y:World) (g r:Nat) (F R:Nat→Prop) (B:Nat) (D:List Yg) (M:List Txt) (V:List (List Int)) (G:List Fct) (Qs:List (List Pth)):Prop where
 l:LSt y g F R B D M V (G.map Zo) Qs
 q:RLt y r B D M V Qs G
 rr:∀ k,R k→k<r
section
variable {y y' : World}{g r:Nat}{F R:Nat→Prop}{B:Nat}{D:List Yg}{M:List Txt}{V:List (List Int)}{G:List Fct}{Qs:List (List Pth)}
theorem LSt.kind {E:List Hld}(h:LSt y g F R B D M V E Qs):∀ k,F k→∃ o,y.heap[k]?=some o∧Tt o:=fun k hk=>by
 obtain ⟨Cs,h1,_⟩:=h.ex;exact h1.kind hk
theorem RLt.may (h:RLt y r B D M V Qs G):Z3 D M V:=by
 obtain ⟨_,_,_,_,_,_,_,_,_,_,_,_,_,_,hm,_⟩:=h;exact hm
end
theorem LSt.less {B':Nat} (h:LSt y g F R B D M V E Qs) (hB:B'≤B):LSt y g F R B' D M V E Qs :=
 ⟨h.ex,h.ok,h.whole,fun k hk=>Nat.le_trans hB (h.low k hk),h.rlt⟩
def Bu (x:Nat) (G G2:List Fct):List Fct:=if x=0 then G++G2 else G
theorem Ygp (hx:(Y7 D M V (G.map Zo) Qs G2).2=x):(Y7 D M V (G.map Zo) Qs G2).1.1=(Bu x G G2).map Zo:=by
 unfold Bu
 by_cases h:x=0
 ·rw [Gn (by rw [hx]; exact h),if_pos h,List.map_append]
 ·rw [Yi4 (by rw [hx]; exact h),if_neg h]
theorem Yky (hx:(Y7 D M V (G.map Zo) Qs G2).2=x) (hl:G.length≤8*k):(Bu x G G2).length≤8*(k+1):=by
 unfold Bu
 by_cases h:x=0
 ·have h1:=Bl (Yb9 (by rw [hx]; exact h)).1
  rw [if_pos h,List.length_append];omega
 ·rw [if_neg h]
  omega
theorem Gg.next {y5 y6:World}{F':Nat→Prop} (h:Gg y g r F R B D M V G Qs) (hx:(Y7 D M V (G.map Zo) Qs G2).2=x) (h5:LSt y5 g F' R B D M V (Y7 D M V (G.map Zo) Qs G2).1.1 (Y7 D M V (G.map Zo) Qs G2).1.2) (hr5:RLt y5 r B D M V Qs G) (hc6:Chg (fun k=>k=r) y5 y6) (hr6:RLt y6 r B D M V (Y7 D M V (G.map Zo) Qs G2).1.2 (Bu x G G2)) :
  Gg y6 g r F' R B D M V (Bu x G G2) (Y7 D M V (G.map Zo) Qs G2).1.2:=by
 rw [Ygp hx] at h5
 have hne:=hr5.Yro h5.kind
 exact ⟨h5.chg hc6 (fun k hk e=>hne (e ▸ hk)) (fun k hk e=>by have h1:=h.rr k hk; have e:k=r:=e; omega),hr6,h.rr⟩
theorem RLt.rb (h:RLt w r B D M V Qs G):B≤r:=by
 obtain ⟨_,_,_,_,_,_,_,_,_,_,_,_,h1,_⟩:=h;exact h1.rb
end
section
def Yp2 (y:World) (D:List Yg) (M:List Txt) (V:List (List Int)) (e:Ending) (y' : World):Prop:=∃ g r F R G Qs,e=.returned (.tuple #[.pointer (some ⟨g,0,none⟩),.pointer (some ⟨r,0,none⟩)])∧Gg y' g r F R y.heap.size D M V G Qs∧G.length≤8*8∧Below y.heap.size y y'
section
variable {y:World}{A1 A2 A3 AL:Option Addr}{n1 c1 n2 c2 n3 c3 nl cl:Nat}{D:List Yg}{M:List Txt}{V:List (List Int)}{LB:List (List Fct)}
theorem Cd (hS:Wm y (fun b=>b<y.heap.size) A1 n1 c1 A2 n2 c2 A3 n3 c3 D M V) (hf:Sq D) (hM:∀ s∈M,s.length≤maxLen) (hn1:n1≤1000) (hn3:n3≤1000) (v:Value) (hno:¬ Z3 D M V) :
  Calls Tryz.prog 13 #[V6 A1 n1 c1 A2 n2 c2 A3 n3 c3,v] y fun e y'=>e=.returned (.tuple #[.pointer none,.pointer none])∧Below y.heap.size y y':=by
 have hb0:=Ya y (.cells #[.slice A1 n1 c1,.slice A2 n2 c2,.slice A3 n3 c3] 26)
 have hX:=Block.new y 26 #[.slice A1 n1 c1,.slice A2 n2 c2,.slice A3 n3 c3]
 have KS:Hid (∀ z,Below y.heap.size y z→Wm z (fun b=>b<y.heap.size) A1 n1 c1 A2 n2 c2 A3 n3 c3 D M V):=hid fun z hz=>hS.mv (Mv.below hz fun b hb=>hb)
 have HN:=hid (Yra (KS.out _ hb0) hf hM hn1 hno)
 have x0:=hX.cell 0
 have x1:=hX.cell 1
 have x2:=hX.cell 2
 have HX:=hid hX
 have HB0:=hid hb0
 clear hb0 hX hS hf hM;go_enter Tryz.func13,Tryz.ntmps13;go_wp2_with fail;refine HN.out.mono ?_;rintro e w1 ⟨rfl,hb1⟩
 have HB1:=hid (HB0.out.trans (hb1.mono HB0.out.size))
 have hX1:=HX.out.below hb1 HX.out.lt
 have x0:=hX1.cell 0
 have x1:=hX1.cell 1
 have x2:=hX1.cell 2
 have HR:=hid (Yg1 (KS.out _ HB1.out) hn1 hn3 hno)
 clear hb1 hX1 HN;go_wp2_with fail;refine HR.out.mono ?_;rintro e w2 ⟨rfl,hb2⟩
 have HB2:=hid (HB1.out.trans (hb2.mono HB1.out.size))
 clear hb2 HR x0 x1 x2;go_wp2_with fail;go_ret2;exact ⟨rfl,HB2.out⟩
theorem Gs (hS:Wm y (fun b=>b<y.heap.size) A1 n1 c1 A2 n2 c2 A3 n3 c3 D M V) (hf:Sq D) (hM:∀ s∈M,s.length≤maxLen) (hn3:n3≤1000) (hL:Row Yfy 1 y (fun b=>b<y.heap.size) AL nl cl LB) (hyes:Z3 D M V) :
  Calls Tryz.prog 13 #[V6 A1 n1 c1 A2 n2 c2 A3 n3 c3,.slice AL nl cl] y (Yp2 y D M V):=by
 have hb0:=Ya y (.cells #[.slice A1 n1 c1,.slice A2 n2 c2,.slice A3 n3 c3] 26)
 have hX:=Block.new y 26 #[.slice A1 n1 c1,.slice A2 n2 c2,.slice A3 n3 c3]
 have KS:Hid (∀ z,Below y.heap.size y z→Wm z (fun b=>b<y.heap.size) A1 n1 c1 A2 n2 c2 A3 n3 c3 D M V):=hid fun z hz=>hS.mv (Mv.below hz fun b hb=>hb)
 have KL:Hid (∀ z,Below y.heap.size y z→Row Yfy 1 z (fun b=>b<y.heap.size) AL nl cl LB):=hid fun z hz=>hL.mv Mt (Mv.below hz fun b hb=>hb)
 have hnl:=hL.Yn
 have HN:=hid (Yed (KS.out _ hb0) hf hM hyes)
 have x0:=hX.cell 0
 have x1:=hX.cell 1
 have x2:=hX.cell 2
 have HX:=hid hX
 have HB0:=hid hb0
 clear hb0 hX hS hf hM hL;go_enter Tryz.func13,Tryz.ntmps13;go_wp2_with fail;refine HN.out.mono ?_;rintro e w1 ⟨g,F,R,rfl,hL1,_,hb1⟩
 have HB1:=hid (HB0.out.trans (hb1.mono HB0.out.size))
 have hX1:=HX.out.below hb1 HX.out.lt
 have x0:=hX1.cell 0
 have x1:=hX1.cell 1
 have x2:=hX1.cell 2
 have HL1:=hid (hL1.less HB0.out.size)
 have HR:=hid (Yen (KS.out _ HB1.out) hn3 HB1.out.size hyes)
 clear hb1 hX1 HN hL1;go_wp2_with fail;refine HR.out.mono ?_;rintro e w2 ⟨r,rfl,hr2,hr0,hb2⟩
 have HB2:=hid (HB1.out.trans (hb2.mono HB1.out.size))
 have HT:=hid (show Gg w2 g r F R y.heap.size D M V [] (D.map fun _=>[]) from ⟨HL1.out.below hb2,hr2,fun k hk=>Nat.lt_of_lt_of_le (HL1.out.rlt k hk) hr0⟩)
 have Hrb:=hid hr2.rb
 clear hb2 HR x0 x1 x2 hr2 hr0;go_wp2_with fail;go_loopw [10] (fun i wr=>∃ k:Nat,k≤nl∧k≤8∧i=.int .i64 k∧Hid ((∃ F G Qs,Gg wr g r F R y.heap.size D M V G Qs∧G.length≤8*k)∧Below y.heap.size y wr)) (fun i _=>nl - (intOf i).toNat)
 case atStart=>exact ⟨0,Nat.zero_le _,Nat.zero_le _,rfl,hid ⟨⟨F,[],_,HT.out,Nat.zero_le _⟩,HB2.out⟩⟩
 case round =>
  obtain ⟨k,hk,hkm,rfl,hS⟩:=hrel
  by_cases hlt:k<nl
  ·have i1:(k:Int)<(nl:Int):=by omega
   by_cases hlm:k<8
   ·have i2:decide ((k:Int)<8)=true:=decide_eq_true (by omega)
    obtain ⟨⟨F,G,Qs,hT,hGl⟩,hB⟩:=hS.out;obtain ⟨bL,oL,Af,nf,cf,G2,rfl,hbS,hbl,gk,hG2,_⟩:=(KL.out wr hB).at1 hlt
    have KG:Hid (∀ z,Below y.heap.size y z→z.cell? ⟨bL,oL+k,none⟩=some (.slice Af nf cf)):=hid fun z hz=>by
     obtain ⟨b',o',A',n',c',l',e,_,_,g',_,_⟩:=(KL.out z hz).at1 hlt;injection e with e
     injection e with e1 e2
     subst e1 e2
     have h1:=(Below.cell hz (p:=⟨bL,oL+k,none⟩) hbS)
     have h2:=(Below.cell hB (p:=⟨bL,oL+k,none⟩) hbS)
     rw [h1,← h2];exact gk
    have KF:Hid (∀ z,Below wr.heap.size wr z∨(∃ F0,Chg F0 wr z∧∀ k,F0 k→y.heap.size≤k)→Tj z (fun b=>b<y.heap.size) Af nf cf G2):=hid fun z hz=>by
     rcases hz with hz | ⟨F0,hz,h0⟩
     ·exact hG2.mv Y1 (Mv.Yc hz _)
     ·exact hG2.mv Y1 fun b hb hl=>⟨hz.block b hl fun e=>by have h1:=h0 b e; have hb:b<y.heap.size:=hb; omega,hb⟩
    obtain ⟨x,hx⟩ : ∃ x,Hid ((Y7 D M V (G.map Zo) Qs G2).2=x):=⟨_,hid rfl⟩
    have hA:=Gp hT.l hB.size (KF.out _ (.inl (Below.refl _ _))) (fun b hb hf=>by have h1:=hT.l.low b hf; have hb:b<y.heap.size:=hb; omega)
    rw [hx.out] at hA
    have HA:=hid hA
    have HT:=hid hT
    have HGl:=hid hGl
    have HB:=hid hB
    have hne:((x:Int) != (x:Int))=false:=by simp
    have i0:(0:Int)≤(k:Int):=by omega
    have hGn:G.length≤900:=by omega
    have HGn:=hid hGn
    clear hS hT hGl hB hA hG2 hbS hbl hGn
    have c0:=KG.out wr HB.out
    go_wp2_with fail;refine HA.out.mono ?_;rintro e w5 ⟨rfl,F5,hs5,hc5,hf5⟩
    have hB5:Hid (Below y.heap.size y w5):=hid (HB.out.trans (hc5.below HB.out.size HT.out.l.low))
    have HS5:=hid hs5
    have HR5:=hid (HT.out.q.lat hc5 HT.out.l.kind fun b hb hf=>(by have h1:=HT.out.l.low b hf; omega))
    have HF5:=hid (KF.out w5 (.inr ⟨F,hc5,HT.out.l.low⟩))
    have c5:=KG.out w5 hB5.out
    clear hs5 hc5 hf5 c0;go_wp2_with fail;refine (Dy HR5.out HF5.out HGn.out).mono ?_;intro e w6 h6;unfold Sr at h6;rw [hx.out] at h6;obtain ⟨rfl,hc6,hr6⟩:=h6
    have HT6:=hid (HT.out.next hx.out HS5.out HR5.out hc6 hr6)
    have hB6:Hid (Below y.heap.size y w6):=hid (hB5.out.trans (hc6.below hB5.out.size fun q e=>Nat.le_trans Hrb.out (Nat.le_of_eq (Eq.symm e))))
    clear hc6 hr6
    have HF:=hid (show (∃ F G Qs,Gg w6 g r F R y.heap.size D M V G Qs∧G.length≤8*(k+1))∧Below y.heap.size y w6 from ⟨⟨_,_,_,HT6.out,Yky hx.out HGl.out⟩,hB6.out⟩)
    clear gk;go_wp2_with fail;go_roundw
    case rel=>exact ⟨k+1,by omega,by omega,by go_num,HF⟩
    case measure=>simp [intOf]; omega
   ·have i2:decide ((k:Int)<8)=false:=decide_eq_false (by omega)
    obtain rfl:k=8:=by omega
    go_wp2_with fail;go_ret2;obtain ⟨⟨F,G,Qs,hT,hGl⟩,hB⟩:=hS.out;exact ⟨g,r,F,R,G,Qs,rfl,hT,hGl,hB⟩
  ·have i1:¬ (k:Int)<(nl:Int):=by omega
   have HS:=hS
   go_wp2_with fail;go_ret2;obtain ⟨⟨F,G,Qs,hT,hGl⟩,hB⟩:=HS.out;exact ⟨g,r,F,R,G,Qs,rfl,hT,by omega,hB⟩
end
end
end Go.Proofs.YtkablhecedcngaaGreat
