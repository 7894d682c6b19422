/- Facts, Qrys, LatL -/
import Derived.Test.YtkablhecedcngaaGreatJ14
import Derived.Test.YtkablhecedcngaaGreatJ19
namespace Go.Proofs.YtkablhecedcngaaGreat
set_option maxRecDepth 100000
set_option maxHeartbeats 8000000
open Go.RowKit
open Go.Lib (hid)
variable {w w':World}{S S':Nat→Prop}{cs:List Value}{A A1 A2:Option Addr}{c c1 c2 n n1 n2:Nat}
abbrev O8:ElT Fct:=Ua (Zf (Zf Yy 1) 1) 1 (Zf Yr 1)
theorem Zr:(Zf Yy 1).Ok:=Xm Yp
theorem Fo:(Zf (Zf Yy 1) 1).Ok:=Xm Zr
theorem Yju:(Zf Yr 1).Ok:=Xm Yh
theorem Y1:O8.Ok:=Vo Fo Yju
theorem S3:(Vg Yr 3 1).Ok:=Zw Yh
abbrev Tj (w:World) (S:Nat→Prop) (A:Option Addr) (n c:Nat) (L:List Fct):Prop:=Row O8 2 w S A n c L
theorem C9:(Tryz.prog.info? 60).map (fun i=>(i.zero,i.size,i.bytes))=some (some (.agg #[.slice none 0 0,.slice none 0 0]),2,48):=by kernel_rfl
theorem Ykd:(Tryz.prog.info? 23).map (fun i=>(i.zero,i.size,i.bytes))=some (some (.slice none 0 0),1,24):=by kernel_rfl
theorem Bb:(Tryz.prog.info? 27).map (fun i=>(i.zero,i.size,i.bytes))=some (some (.slice none 0 0),1,24):=by kernel_rfl
/-! ### Facts that came in -/
theorem Gy:Tryz.prog.cellsOf 60=2:=by kernel_rfl
theorem Js:Tryz.prog.cellsOf 58=1:=by kernel_rfl
def Yr2 (f:Fct):Prop:=(∀ p∈f.1,∀ s∈p,s.length≤maxLen)∧∀ x∈f.2,-9223372036854775808≤x∧x≤9223372036854775807
theorem Yqn (h:RC Tryz.prog w 60 cs):∃ f,O8 w (fun b=>b<w.heap.size) cs f∧Yr2 f:=by
 have hl:=h.len Tryz.underlying60
 rw [Gy] at hl
 have f1:=h.field Tryz.underlying60 0 _ rfl
 have f2:=h.field Tryz.underlying60 1 _ rfl
 obtain ⟨p,h1,k1⟩:=RC.Zf (E:=Zf Yy 1) (G:=fun p=>∀ s∈p,s.length≤maxLen) Tryz.underlying58 Th (by decide)
  (fun cs h=>RC.Zf (E:=Yy) (G:=fun s=>s.length≤maxLen) Tryz.underlying23 Ul (by decide) (fun cs h=>RC.Yy Tryz.underlying9 h) h) f1
 obtain ⟨v,h2,k2⟩:=RC.Zf (E:=Yr) (G:=fun x=>-9223372036854775808≤x∧x≤9223372036854775807) Tryz.underlying27 S1 (by decide) (fun cs h=>RC.Yr Tryz.underlying3 h) f2
 refine ⟨(p,v),⟨?_,?_⟩,k1,k2⟩
 ·have h1:Zf (Zf Yy 1) 1 w (fun b=>b<w.heap.size) ((cs.drop 0).take (Tryz.prog.cellsOf 58)) p:=h1
  rw [Js] at h1;exact h1
 ·have h2:Zf Yr 1 w (fun b=>b<w.heap.size) ((cs.drop 1).take (Tryz.prog.cellsOf 27)) v:=h2
  rw [Nn,List.take_of_length_le (by simp; omega)] at h2
  exact h2
abbrev Yr6:ElT (List (List Txt)):=Zf (Zf Yy 1) 1
abbrev Q8:ElT Fil:=Ua Yr 1 (Ua Yr 1 Yr6)
theorem Xy:Q8.Ok:=Vo Yh (Vo Yh Fo)
theorem Fk {us:List Value}{f:Fil} (h:Q8 w S us f):∃ A n c,us=[.int .i64 f.1,.int .i64 f.2.1,.slice A n c]∧Row (Zf Yy 1) 1 w S A n c f.2.2:=by
 obtain ⟨h1,h2,A,n,c,h3,h4⟩:=h
 have h1:us.take 1=[.int .i64 f.1]:=h1
 have h2:(us.drop 1).take 1=[.int .i64 f.2.1]:=h2
 refine ⟨A,n,c,?_,h4⟩
 have e:=List.take_append_drop 1 us
 have e2:=List.take_append_drop 1 (us.drop 1)
 rw [← e,← e2,h1,h2,h3];rfl
theorem Row.atF {L:List Fil} (h:Row Q8 3 w S A n c L) {k:Nat}(hk:k<n):∃ b o d v A' n' c' M,A=some ⟨b,o,none⟩∧S b∧b<w.heap.size ∧
  w.cell? ⟨b,o+k*3,none⟩=some (.int .i64 d)∧w.cell? ⟨b,o+k*3+1,none⟩=some (.int .i64 v)∧w.cell? ⟨b,o+k*3+2,none⟩=some (.slice A' n' c')∧Row (Zf Yy 1) 1 w S A' n' c' M∧Hid (L[k]?=some (d,v,M)):=by
 obtain ⟨b,o,us,x,e,hb,hl,_,hc,hx,hL⟩:=h.at_ hk;obtain ⟨A',n',c',rfl,hM⟩:=Fk hx;exact ⟨b,o,x.1,x.2.1,A',n',c',x.2.2,e,hb,hl,hc 0 _ rfl,hc 1 _ rfl,hc 2 _ rfl,hM,hL⟩
abbrev O4 (A1:Option Addr) (n1 c1:Nat) (A2:Option Addr) (n2 c2:Nat):Value:=.agg #[.slice A1 n1 c1,.slice A2 n2 c2]
structure V0 (w:World) (S:Nat→Prop) (A1:Option Addr) (n1 c1:Nat) (A2:Option Addr) (n2 c2:Nat) (q:Qry):Prop where
 g:Row Yr 1 w S A1 n1 c1 q.1
 f:Row Q8 3 w S A2 n2 c2 q.2
theorem V0.mv {q:Qry} (h:V0 w S A1 n1 c1 A2 n2 c2 q) (m:Mv w S w' S'):V0 w' S' A1 n1 c1 A2 n2 c2 q:=⟨h.g.mv Yh m,h.f.mv Xy m⟩
theorem V0.Yc {q:Qry} (h:V0 w S A1 n1 c1 A2 n2 c2 q) (hb:Below w.heap.size w w'):V0 w' S A1 n1 c1 A2 n2 c2 q:=h.mv (Mv.Yc hb S)
/-! ### what came in -/
theorem Mn:Tryz.prog.cellsOf 86=3:=by kernel_rfl
theorem Ycm:Tryz.prog.cellsOf 30=2:=by kernel_rfl
theorem Dt:Tryz.prog.cellsOf 28=1:=by kernel_rfl
def Yh5 (x:Int):Prop:=-9223372036854775808≤x∧x≤9223372036854775807
def Ylv (f:Fil):Prop:=Yh5 f.1∧Yh5 f.2.1∧∀ p∈f.2.2,∀ s∈p,s.length≤maxLen
def Ys5 (q:Qry):Prop:=(∀ x∈q.1,Yh5 x)∧∀ f∈q.2,Ylv f
theorem Ysi (h:RC Tryz.prog w 86 cs):∃ f,Q8 w (fun b=>b<w.heap.size) cs f∧Ylv f:=by
 have hl:=h.len Tryz.underlying86
 rw [Mn] at hl
 have f1:=h.field Tryz.underlying86 0 _ rfl
 have f2:=h.field Tryz.underlying86 1 _ rfl
 have f3:=h.field Tryz.underlying86 2 _ rfl
 obtain ⟨d,h1,k1⟩:=RC.Yr (S:=fun b=>b<w.heap.size) Tryz.underlying3 f1
 obtain ⟨v,h2,k2⟩:=RC.Yr (S:=fun b=>b<w.heap.size) Tryz.underlying3 f2
 obtain ⟨M,h3,k3⟩:=RC.Zf (E:=Zf Yy 1) (G:=fun p=>∀ s∈p,s.length≤maxLen) Tryz.underlying58 Th (by decide)
  (fun cs h=>RC.Zf (E:=Yy) (G:=fun s=>s.length≤maxLen) Tryz.underlying23 Ul (by decide) (fun cs h=>RC.Yy Tryz.underlying9 h) h) f3
 refine ⟨(d,v,M),⟨?_,?_,?_⟩,k1,k2,k3⟩
 ·have h1:Yr w (fun b=>b<w.heap.size) ((cs.drop 0).take (Tryz.prog.cellsOf 3)) d:=h1
  rw [S1] at h1;exact h1
 ·have h2:Yr w (fun b=>b<w.heap.size) ((cs.drop 1).take (Tryz.prog.cellsOf 3)) v:=h2
  rw [S1] at h2;exact h2
 ·have h3:Yr6 w (fun b=>b<w.heap.size) ((cs.drop 2).take (Tryz.prog.cellsOf 58)) M:=h3
  rw [Js,List.take_of_length_le (by simp; omega)] at h3
  rw [List.drop_drop];exact h3
theorem Ll (h:RC Tryz.prog w 30 cs):∃ (A1:Option Addr) (n1 c1:Nat) (A2:Option Addr) (n2 c2:Nat) (q:Qry),cs=[.slice A1 n1 c1,.slice A2 n2 c2]∧V0 w (fun b=>b<w.heap.size) A1 n1 c1 A2 n2 c2 q∧Ys5 q:=by
 have hl:=h.len Tryz.underlying30
 rw [Ycm] at hl
 have f1:=h.field Tryz.underlying30 0 _ rfl
 have f2:=h.field Tryz.underlying30 1 _ rfl
 obtain ⟨A1,n1,c1,e1⟩:=f1.Uh Tryz.underlying27;obtain ⟨A2,n2,c2,e2⟩:=f2.Uh Tryz.underlying28;rw [e1] at f1;rw [e2] at f2;obtain ⟨G,h1,k1⟩:=f1.row (E:=Yr) (G:=Yh5) Tryz.underlying27 S1 (by decide) fun _ h=>RC.Yr Tryz.underlying3 h
 obtain ⟨L,h2,k2⟩:=f2.row (E:=Q8) (G:=Ylv) Tryz.underlying28 Mn (by decide) fun _ h=>Ysi h
 have e1:(cs.drop 0).take (Tryz.prog.cellsOf 27)=[.slice A1 n1 c1]:=e1
 have e2:(cs.drop 1).take (Tryz.prog.cellsOf 28)=[.slice A2 n2 c2]:=e2
 rw [Nn] at e1;rw [Dt] at e2
 match cs,hl with
 | [u0,u1],_ =>
  simp at e1 e2;subst e1 e2;exact ⟨A1,n1,c1,A2,n2,c2,(G,L),rfl,⟨h1,h2⟩,k1,k2⟩
theorem P2 {A':Option Addr}{n' c':Nat}{K K':Zd} (h:Row Xr 1 w S A n c K) (h' : Row Xr 1 w S' A' n' c' K') {x:Int}(hx:Hid (cmpL K K'=x)) :
  Calls Tryz.prog 86 #[.slice A n c,.slice A' n' c'] w fun e w'=>e=.returned (.int .i64 x)∧∃ k,w'=w.drewN k:=by
 have hn:=h.Yn
 have hn':=h'.Yn
 have HL:=hid h.len
 have HL':=hid h'.len
 have HR:=hid h
 have HR':=hid h'
 clear h h';go_enter Tryz.func86,Tryz.ntmps86;go_wp2_with fail;go_loopw [5] (fun i wr=>∃ k:Nat,k≤n∧k≤n'∧i=.int .i64 k∧Hid (∃ q,wr=w.drewN q)∧Hid (K.take k=K'.take k)) (fun i _=>n - (intOf i).toNat)
 case atStart=>exact ⟨0,Nat.zero_le _,Nat.zero_le _,rfl,hid ⟨0,rfl⟩,hid rfl⟩
 case round =>
  obtain ⟨k,hk,hk',rfl,hW,ht⟩:=hrel
  have HRr:Hid (Row Xr 1 wr S A n c K∧Row Xr 1 wr S' A' n' c' K'):=by
   obtain ⟨q,rfl⟩:=hW.out;exact hid ⟨HR.out.mv Z2 (Mv.drewN w q S),HR'.out.mv Z2 (Mv.drewN w q S')⟩
  by_cases hlt:k<n∧k<n'
  ·obtain ⟨hl1,hl2⟩:=hlt
   obtain ⟨b,o,B,m,d,p,rfl,_,_,g0,hp,he⟩:=HRr.out.1.at1 hl1;obtain ⟨b',o',B',m',d',p',rfl,_,_,g0',hq,he'⟩:=HRr.out.2.at1 hl2
   have i0:(0:Int)≤(k:Int):=by omega
   have i1:(k:Int)<(n:Int):=by omega
   have i2:(k:Int)<(n' : Int):=by omega
   obtain ⟨r,hr⟩ : ∃ r,Hid (Xw p p'=r):=⟨_,hid rfl⟩
   have hc:=fun j=>Yg0 (w:=wr.drewN j) (hp.Ea.drewN j) (hq.Ea.drewN j)
   rw [hr.out] at hc
   have HC:=hid hc
   clear hc hp hq
   by_cases h0:r=0
   ·have hT:=hid (Yje ht.out he.out he'.out (by rw [hr.out,h0]))
    subst h0;go_wp2_with fail;go_quiet ((go_at_call 125; exact Calls.quiet_of (HC.out _)));go_wp2_with fail;go_roundw
    case rel=>exact ⟨k+1,by omega,by omega,by go_num,by obtain ⟨q,rfl⟩:=hW.out; exact hid ⟨q+nq,World.drewN_drewN _ _ _⟩,hT⟩
    case measure=>simp [intOf]; omega
   ·have hT:=hid (Yqg ht.out he.out he'.out (by rw [hr.out]; exact h0))
    have e0:(r != 0)=true:=by simpa using h0
    obtain rfl:=hx.out.symm.trans (hT.out.trans hr.out);clear h0;go_wp2_with fail;go_quiet ((go_at_call 125; exact Calls.quiet_of (HC.out _)));go_wp2_with fail;go_ret;obtain ⟨q,rfl⟩:=hW.out;exact ⟨rfl,q+nq,World.drewN_drewN _ _ _⟩
  ·have hT:=Ymg ht.out (by have:=HL.out; omega) (by have:=HL'.out; omega) (by have:=HL.out; have:=HL'.out; omega)
   rw [HL.out,HL'.out,hx.out] at hT
   have hd:¬ (k:Int)<(n:Int)∨((k:Int)<(n:Int)∧¬ (k:Int)<(n' : Int)):=by omega
   clear hlt
   by_cases h1:n<n'
   ·rw [if_pos h1] at hT
    subst hT
    have i2:(n:Int)<(n' : Int):=by omega
    clear h1
    rcases hd with hd | ⟨hd,hd'⟩
    all_goals
     go_wp2_with fail;go_ret;exact ⟨rfl,hW.out⟩
   ·rw [if_neg h1] at hT
    by_cases h2:n'<n
    ·rw [if_pos h2] at hT
     subst hT
     have i2:¬ (n:Int)<(n' : Int):=by omega
     have i3:(n' : Int)<(n:Int):=by omega
     clear h1 h2
     rcases hd with hd | ⟨hd,hd'⟩
     all_goals
      go_wp2_with fail;go_ret;exact ⟨rfl,hW.out⟩
    ·rw [if_neg h2] at hT
     subst hT
     have i2:¬ (n:Int)<(n' : Int):=by omega
     have i3:¬ (n' : Int)<(n:Int):=by omega
     clear h1 h2
     rcases hd with hd | ⟨hd,hd'⟩
     all_goals
      go_wp2_with fail;go_ret;exact ⟨rfl,hW.out⟩
end Go.Proofs.YtkablhecedcngaaGreat
