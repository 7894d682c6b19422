/- CellE, Acc, Facts, LatL -/
import Derived.Test.YtmepdkdeanbbaaaGreatJ14
import Derived.Test.YtmepdkdeanbbaaaGreatJ17
namespace Go.Proofs.YtmepdkdeanbbaaaGreat
set_option maxRecDepth 100000
set_option maxHeartbeats 8000000
open Go.RowKit
open Proofs.Tryz renaming prog→aa,underlying83→af,underlying71→aj,underlying47→ak
open List renaming replicate→ae
open Nat renaming zero_le→ag,le_refl→ai
open Go.Lib (hid)
variable {w:World}{S S':Nat->Prop}{A A':Option Addr}{c c' n n':Nat}{K K':Zd}
def Bd(m:Nat):Array Value:=(ae m (X6 0)).toArray
theorem Ybg(m:Nat)(W:World)(hm:m<=1000000):(Instr.makeSlice 47 (.int .i64 m) (.int .i64 m)).run aa W=.ok (.slice (some ⟨W.heap.size,0,none⟩) m m) (W.alloc (.cells (Bd m) 3)):=by
 obtain⟨i,hi,hz,hy,hx⟩:=info_parts Rx
 have h:=run_make (P:=aa) W 47 3 i (.int .i64 0) ak hi hz .i64 .i64 m m (by omega) (by omega) (by rw[hx];omega) (by omega)
 rw[hy,Nat.mul_one,Int.toNat_natCast]at h;rw[h]
 congr 2
 congr 1
 apply Array.ext
 ·simp[Bd,madeCells]
 ·intro k h1 h2
  simp[Bd,madeCells,X6,Value.cells,Nat.mod_one]
theorem Jl{base g m:Nat}(hb:Block w g 3 (Bd m))(h:base<=g)(hm:m<=1000000):Yi w base (.slice (some ⟨g,0,none⟩) m m) (ae m 0):=by
 refine⟨by simp,.inr ⟨g,m,Bd m,by simp,h,hb,by simp,by unfold maxLen;omega,by simp[Bd],by simp[Bd]⟩⟩
theorem S7(w:World)(C:Obj)(T:TypeId)(cs:Array Value):Block ((((w.alloc C).alloc (.cells cs T)).alloc (.cells cs T)).alloc (.cells cs T)) (w.heap.size+1) T cs/\Block ((((w.alloc C).alloc (.cells cs T)).alloc (.cells cs T)).alloc (.cells cs T)) (w.heap.size+1+1) T cs/\Block ((((w.alloc C).alloc (.cells cs T)).alloc (.cells cs T)).alloc (.cells cs T)) (w.heap.size+1+1+1) T cs:=by
 have h1:=Block.new (w.alloc C) T cs
 have h2:=Block.new ((w.alloc C).alloc (.cells cs T)) T cs
 have h3:=Block.new (((w.alloc C).alloc (.cells cs T)).alloc (.cells cs T)) T cs
 simp only[World.size_alloc]at h1 h2 h3;exact⟨(h1.alloc _).alloc _,h2.alloc _,h3⟩
theorem Yrs(w:World)(o p q r:Obj):Below w.heap.size w ((((w.alloc o).alloc p).alloc q).alloc r):=Ya (Jc w o p q) (Yb _ r)
def Ywz(w:World)(m:Nat)(e:Ending)(w':World):Prop:=
 (∃g1 g2 g3:Nat,e=.returned (.agg #[.int .i64 0,.slice (some ⟨g1,0,none⟩) m m,.slice (some ⟨g2,0,none⟩) m m,.slice (some ⟨g3,0,none⟩) m m])∧
  X7 w' w.heap.size (.slice (some ⟨g1,0,none⟩) m m) (.slice (some ⟨g2,0,none⟩) m m) (.slice (some ⟨g3,0,none⟩) m m) (ae m 0) (ae m 0) (ae m 0)/\g1≠g2/\g1≠g3/\g2≠g3)/\Below w.heap.size w w'
theorem Mz(x:Int)(w:World){m:Nat}(hm:m=(min (max x 0) 2).toNat):
  Calls aa 173 #[.int .i64 x] w (Ywz w m):=by
 have hm2:grS x 0=max x 0:=rfl
 have hm3:leS (grS x 0) 2=(m:Int):=by unfold leS grS;omega
 have HM:=hid hm3
 have hm9:m<=2:=by omega
 clear hm hm2 hm3;go_enter Tryz.func173,Tryz.ntmps173;go_wp2_with fail;refine(Fi x 0 _).mono ?_;rintro e w' ⟨rfl,rfl⟩;go_wp2_with fail;refine(Bb _ 2 _).mono ?_;rintro e w' ⟨rfl,rfl⟩;rw[HM.out];go_wp2_with fail
 have HK:∀W:World,(Instr.makeSlice 47 (.int .i64 m) (.int .i64 m)).run aa W=.ok (.slice (some ⟨W.heap.size,0,none⟩) m m) (W.alloc (.cells (Bd m) 3)):=λW=>Ybg m W (by omega)
 clear HM;go_region
 all_goals
  go_wp2_with fail;refine bodyPost_ret (Zi rfl _ _ w.heap.size _ _ rfl (show Block (((((w.alloc _).alloc _).alloc _).alloc _).drew) w.heap.size 71 _ from(((Block.new w 71 _).alloc _).alloc _).alloc _) aj rfl Yz) rfl ?_
  exact⟨⟨_,_,_,rfl,⟨Jl (by first|exact(S7 w _ _ _).1|exact(S7 w _ _ _).2.1|exact(S7 w _ _ _).2.2) (by omega) (by omega),Jl (by first|exact(S7 w _ _ _).1|exact(S7 w _ _ _).2.1|exact(S7 w _ _ _).2.2) (by omega) (by omega),Jl (by first|exact(S7 w _ _ _).1|exact(S7 w _ _ _).2.1|exact(S7 w _ _ _).2.2) (by omega) (by omega)⟩,by omega,by omega,by omega⟩,Below.drew (Yrs _ _ _ _ _)⟩
/-! ### one,filled,the numbers of a cell -/
theorem Yu4(A:Option Addr)(n c:Nat)(w:World):
  Calls aa 219 #[.slice A n c] w λe w'=>e=.returned (S6 1 A n c A n c A n c)/\Below w.heap.size w w':=by
 go_enter Tryz.func219,Tryz.ntmps219;go_wp2_with fail;refine bodyPost_ret (Zi rfl _ _ w.heap.size _ _ rfl (Block.new w 71 _) aj rfl Yz) rfl ?_;exact⟨rfl,Yb _ _⟩
theorem Oq(n:Int)(A1:Option Addr)(n1 c1:Nat)(A2:Option Addr)(n2 c2:Nat)(A3:Option Addr)(n3 c3:Nat)(w:World){r:Bool}(hr:r=decide (0<n)):
  Calls aa 172 #[S6 n A1 n1 c1 A2 n2 c2 A3 n3 c3] w λe w'=>e=.returned (.bool r)/\Below w.heap.size w w':=by
 have R:=hid hr
 clear hr
 have hb:=hid (Yb w (.cells #[.int .i64 n,.slice A1 n1 c1,.slice A2 n2 c2,.slice A3 n3 c3] 71))
 go_enter Tryz.func172,Tryz.ntmps172;go_wp2_with fail;go_ret;exact⟨Yd R.out.symm,hb.out⟩
theorem Ydo(n:Int)(A1:Option Addr)(n1 c1:Nat)(A2:Option Addr)(n2 c2:Nat)(A3:Option Addr)(n3 c3:Nat)(w:World):
  Calls aa 224 #[S6 n A1 n1 c1 A2 n2 c2 A3 n3 c3] w λe w'=>e=.returned (.int .i64 n)/\Below w.heap.size w w':=by
 have hb:=hid (Yb w (.cells #[.int .i64 n,.slice A1 n1 c1,.slice A2 n2 c2,.slice A3 n3 c3] 71))
 go_enter Tryz.func224,Tryz.ntmps224;go_wp2_with fail;go_ret;exact⟨rfl,hb.out⟩
theorem Yif{n:Int}{A1:Option Addr}{n1 c1:Nat}{A2:Option Addr}{n2 c2:Nat}{A3:Option Addr}{n3 c3:Nat}{S M X:List Int}(h:Wi w w.heap.size A1 n1 c1 A2 n2 c2 A3 n3 c3 S M X){i:Nat}(hi:i<n1){B:Nat}(hB:w.cell? ⟨B,0,none⟩=some (.int .i64 i)):
  Calls aa 225 #[S6 n A1 n1 c1 A2 n2 c2 A3 n3 c3,.pointer (some ⟨B,0,none⟩)] w λe w'=>e=.returned (.int .i64 (S.getD i 0))/\Below w.heap.size w w':=by
 have hb:=hid (Yb w (.cells #[.int .i64 n,.slice A1 n1 c1,.slice A2 n2 c2,.slice A3 n3 c3] 71))
 have hBl:=World.block_lt_of_cell? w _ hB
 have hlm:=h.s.Ym
 obtain⟨b,o,y,rfl,hbl,cs,es⟩:=h.s.at_ hi
 have i0:(0:Int)<=(i:Int):=by omega
 have i1:(i:Int)<(n1:Int):=by omega
 clear h;rw[<-es.out];go_enter Tryz.func225,Tryz.ntmps225;go_wp2_with fail;generalize hW:w.alloc (.cells #[.int .i64 n,.slice (some ⟨b,o,none⟩) n1 c1,.slice A2 n2 c2,.slice A3 n3 c3] 71)=W at hb⊢
 have k1:W.cell? ⟨w.heap.size,1,none⟩=some (.slice (some ⟨b,o,none⟩) n1 c1):=by rw[<-hW];exact(Block.new w _ _).cell 1
 have k2:W.cell? ⟨B,0,none⟩=some (.int .i64 i):=(hb.out.cell (p:=⟨B,0,none⟩) hBl).trans hB
 have k3:W.cell? ⟨b,o+i,none⟩=some (.int .i64 y):=(hb.out.cell (p:=⟨b,o+i,none⟩) hbl).trans cs
 clear hW hB cs;go_wp2_with fail;go_ret;exact⟨rfl,hb.out⟩
section
theorem Yc6{v v':Value}(h:∀g,v.ownBlock=some g->v'.ownBlock≠some g):v.ownBlock=none∨v.ownBlock≠v'.ownBlock:=by
 cases hv:v.ownBlock with
 |none=>exact .inl rfl
 |some g=>exact .inr λe=>h g hv e.symm
theorem Block.app{w w':World}{r base:Nat}{T:TypeId}{cs:Array Value}{v v':Value}{l:List Int}(hb:Block w r T cs)(hT:T≠3)(hO:Yi w base v l)(hG:Zl w v w' v'):Block w' r T cs:=hb.grown hG.1 (hO.Wt hb hT)
structure Acc (w0 w:World) (s:Nat) (q:Int) (v1 v2 v3:Value) (S M X:List Int):Prop where
 blk:Block w s 71 #[.int .i64 q,v1,v2,v3]
 r1:Yi w w0.heap.size v1 S
 r2:Yi w w0.heap.size v2 M
 r3:Yi w w0.heap.size v3 X
 bel:Below w0.heap.size w0 w
 hs:w0.heap.size<=s
 d12:∀g,v1.ownBlock=some g->v2.ownBlock≠some g
 d13:∀g,v1.ownBlock=some g->v3.ownBlock≠some g
 d23:∀g,v2.ownBlock=some g->v3.ownBlock≠some g
section
variable {w0 w w' : World}{s:Nat}{q:Int}{v1 v2 v3:Value}{S M X:List Int}
theorem Acc.below(h:Acc w0 w s q v1 v2 v3 S M X)(hb:Below w.heap.size w w'):Acc w0 w' s q v1 v2 v3 S M X:=
 ⟨h.blk.below hb h.blk.lt,h.r1.below hb (ai _),h.r2.below hb (ai _),h.r3.below hb (ai _),h.bel.trans (hb.mono h.bel.size),h.hs,h.d12,h.d13,h.d23⟩
theorem Acc.alloc(h:Acc w0 w s q v1 v2 v3 S M X)(o:Obj):Acc w0 (w.alloc o) s q v1 v2 v3 S M X:=h.below (Yb w o)
theorem Acc.own(h:Acc w0 w s q v1 v2 v3 S M X):X7 w w0.heap.size v1 v2 v3 S M X:=⟨h.r1,h.r2,h.r3⟩
theorem Acc.new{s:Nat}(hb:Block w s 71 #[.int .i64 q,.slice none 0 0,.slice none 0 0,.slice none 0 0])(hbe:Below w0.heap.size w0 w)(hs:w0.heap.size<=s):Acc w0 w s q (.slice none 0 0) (.slice none 0 0) (.slice none 0 0) [] [] []:=
 ⟨hb,Yi.Zj _ _,Yi.Zj _ _,Yi.Zj _ _,hbe,hs,(λg h=>by cases h),(λg h=>by cases h),(λg h=>by cases h)⟩
theorem Acc.Yof{y:Int}{v':Value}(h:Acc w0 w s q v1 v2 v3 S M X)(hO:Yi w' w0.heap.size v' (S++[y]))(hG:Zl w v1 w' v'):Block w' s 71 #[.int .i64 q,v1,v2,v3]/\Acc w0 (w'.setCell ⟨s,1,none⟩ v') s q v' v2 v3 (S++[y]) M X:=by
 have hT:71≠3:=by decide
 have hb:Block w' s 71 #[.int .i64 q,v1,v2,v3]:=h.blk.grown hG.1 (Yi.Wt h.r1 h.blk hT)
 have hbe:Below w0.heap.size w0 w':=h.bel.trans (hG.Yw h.bel.size λk e=>(h.r1.lt k e).1)
 exact⟨hb,⟨hb.Ys 1 v',hO.other (hO.Wt hb hT) _,(Yi.kept h.r2 hG.1 (Yc6 λg h1 h2=>h.d12 g h2 h1)).other (λe=>(Yi.Wt h.r2 h.blk hT) e) _,(Yi.kept h.r3 hG.1 (Yc6 λg h1 h2=>h.d13 g h2 h1)).other (λe=>(Yi.Wt h.r3 h.blk hT) e) _,hbe.setCell (p:=⟨s,1,none⟩) h.hs _,h.hs,λg h1 h2=>(hG.2 g h1).elim (λe=>h.d12 g e h2) (λe=>by have:=(h.r2.lt g h2).2;omega),λg h1 h2=>(hG.2 g h1).elim (λe=>h.d13 g e h2) (λe=>by have:=(h.r3.lt g h2).2;omega),h.d23⟩⟩
theorem Acc.Ymg{y:Int}{v':Value}(h:Acc w0 w s q v1 v2 v3 S M X)(hO:Yi w' w0.heap.size v' (M++[y]))(hG:Zl w v2 w' v'):Block w' s 71 #[.int .i64 q,v1,v2,v3]/\Acc w0 (w'.setCell ⟨s,2,none⟩ v') s q v1 v' v3 S (M++[y]) X:=by
 have hT:71≠3:=by decide
 have hb:Block w' s 71 #[.int .i64 q,v1,v2,v3]:=h.blk.grown hG.1 (Yi.Wt h.r2 h.blk hT)
 have hbe:Below w0.heap.size w0 w':=h.bel.trans (hG.Yw h.bel.size λk e=>(h.r2.lt k e).1)
 exact⟨hb,⟨hb.Ys 2 v',(Yi.kept h.r1 hG.1 (Yc6 λg h1=>h.d12 g h1)).other (λe=>(Yi.Wt h.r1 h.blk hT) e) _,hO.other (hO.Wt hb hT) _,(Yi.kept h.r3 hG.1 (Yc6 λg h1 h2=>h.d23 g h2 h1)).other (λe=>(Yi.Wt h.r3 h.blk hT) e) _,hbe.setCell (p:=⟨s,2,none⟩) h.hs _,h.hs,λg h1 h2=>(hG.2 g h2).elim (λe=>h.d12 g h1 e) (λe=>by have:=(h.r1.lt g h1).2;omega),h.d13,λg h1 h2=>(hG.2 g h1).elim (λe=>h.d23 g e h2) (λe=>by have:=(h.r3.lt g h2).2;omega)⟩⟩
theorem Acc.Ym2{y:Int}{v':Value}(h:Acc w0 w s q v1 v2 v3 S M X)(hO:Yi w' w0.heap.size v' (X++[y]))(hG:Zl w v3 w' v'):Block w' s 71 #[.int .i64 q,v1,v2,v3]/\Acc w0 (w'.setCell ⟨s,3,none⟩ v') s q v1 v2 v' S M (X++[y]):=by
 have hT:71≠3:=by decide
 have hb:Block w' s 71 #[.int .i64 q,v1,v2,v3]:=h.blk.grown hG.1 (Yi.Wt h.r3 h.blk hT)
 have hbe:Below w0.heap.size w0 w':=h.bel.trans (hG.Yw h.bel.size λk e=>(h.r3.lt k e).1)
 exact⟨hb,⟨hb.Ys 3 v',(Yi.kept h.r1 hG.1 (Yc6 λg h1=>h.d13 g h1)).other (λe=>(Yi.Wt h.r1 h.blk hT) e) _,(Yi.kept h.r2 hG.1 (Yc6 λg h1=>h.d23 g h1)).other (λe=>(Yi.Wt h.r2 h.blk hT) e) _,hO.other (hO.Wt hb hT) _,hbe.setCell (p:=⟨s,3,none⟩) h.hs _,h.hs,h.d12,λg h1 h2=>(hG.2 g h2).elim (λe=>h.d13 g h1 e) (λe=>by have:=(h.r1.lt g h1).2;omega),λg h1 h2=>(hG.2 g h2).elim (λe=>h.d23 g h1 e) (λe=>by have:=(h.r2.lt g h1).2;omega)⟩⟩
end
end
abbrev Ll:ElT Fct:=U1 (Z0 (Z0 Y7 1) 1) 1 (Z0 Yy 1)
theorem Ww:(Z0 Y7 1).Ok:=Wc Yt
theorem Yjj:(Z0 (Z0 Y7 1) 1).Ok:=Wc Ww
theorem Ynk:(Z0 Yy 1).Ok:=Wc Yh
theorem Y3:Ll.Ok:=Wv Yjj Ynk
theorem Rm:(Vl Yy 3 1).Ok:=Zz Yh
abbrev S0(w:World)(S:Nat->Prop)(A:Option Addr)(n c:Nat)(L:List Fct):Prop:=Row Ll 2 w S A n c L
theorem Ycr:(aa.info? 83).map (λi=>(i.zero,i.size,i.bytes))=some (some (.agg #[.slice none 0 0,.slice none 0 0]),2,48):=by kernel_rfl
theorem Ycu:(aa.info? 23).map (λi=>(i.zero,i.size,i.bytes))=some (some (.slice none 0 0),1,24):=by kernel_rfl
theorem Yb5:(aa.info? 47).map (λi=>(i.zero,i.size,i.bytes))=some (some (.slice none 0 0),1,24):=by kernel_rfl
/-! ### Facts that came in -/
theorem Yaf:aa.cellsOf 83=2:=by kernel_rfl
theorem Yhx:aa.cellsOf 69=1:=by kernel_rfl
def Yva(f:Fct):Prop:=(∀p∈f.1,∀s∈p,s.length<=maxLen)/\∀x∈f.2,-9223372036854775808<=x/\x<=9223372036854775807
theorem Yu3{cs:List Value}(h:RC aa w 83 cs):∃f,Ll w (λb=>b<w.heap.size) cs f/\Yva f:=by
 have hl:=h.len af
 rw[Yaf]at hl
 have f1:=h.field af 0 _ rfl
 have f2:=h.field af 1 _ rfl
 obtain⟨p,h1,k1⟩:=RC.Z0 (E:=Z0 Y7 1) (G:=λp=>∀s∈p,s.length<=maxLen) Tryz.underlying69 Qn (by decide)
  (λcs h=>RC.Z0 (E:=Y7) (G:=λs=>s.length<=maxLen) Tryz.underlying23 S9 (by decide) (λcs h=>RC.Y7 Tryz.underlying9 h) h) f1
 obtain⟨v,h2,k2⟩:=RC.Z0 (E:=Yy) (G:=λx=>-9223372036854775808<=x/\x<=9223372036854775807) ak Co (by decide) (λcs h=>RC.Yy Tryz.underlying3 h) f2
 refine⟨(p,v),⟨?_,?_⟩,k1,k2⟩
 ·have h1:Z0 (Z0 Y7 1) 1 w (λb=>b<w.heap.size) ((cs.drop 0).take (aa.cellsOf 69)) p:=h1
  rw[Yhx]at h1;exact h1
 ·have h2:Z0 Yy 1 w (λb=>b<w.heap.size) ((cs.drop 1).take (aa.cellsOf 47)) v:=h2
  rw[Yao,List.take_of_length_le (by simp;omega)]at h2
  exact h2
theorem Ydx(h:Row Z4 1 w S A n c K)(h':Row Z4 1 w S' A' n' c' K'){x:Int}(hx:Hid (cmpL K K'=x)):
  Calls aa 79 #[.slice A n c,.slice A' n' c',.func (.func 80) #[] #[]] w λe w'=>e=.returned (.int .i64 x)/\w=w':=by
 have hn:=h.Ym
 have hn':=h'.Ym
 have HL:=hid h.len
 have HL':=hid h'.len
 have HR:=hid h
 have HR':=hid h'
 clear h h';go_enter Tryz.func79,Tryz.ntmps79;go_wp2_with fail;go_loop [13] (λi=>∃k:Nat,k<=n/\k<=n'∧i=.int .i64 k/\Hid (K.take k=K'.take k)) (λi=>n-(intOf i).toNat)
 case atStart=>exact⟨0,ag _,ag _,rfl,hid rfl⟩
 case round=>
  obtain⟨k,hk,hk',rfl,ht⟩:=hrel
  by_cases hlt:k<n
  ·obtain⟨b,o,B,m,d,p,rfl,_,_,g0,hp,he⟩:=HR.out.at1 hlt
   have i0:(0:Int)<=(k:Int):=by omega
   have i1:(k:Int)<(n:Int):=by omega
   by_cases hlt':k<n'
   ·obtain⟨b',o',B',m',d',q,rfl,_,_,g0',hq,he'⟩:=HR'.out.at1 hlt'
    have i2:(k:Int)<(n':Int):=by omega
    obtain⟨r,hr⟩: ∃r,Hid (X4 p q=r):=⟨_,hid rfl⟩
    have hc:=Yqj hp.Eu hq.Eu
    rw[hr.out]at hc
    have HC:=hid hc
    clear hc hp hq
    by_cases h0:r=0
    ·have hT:=hid (Ycn ht.out he.out he'.out (by rw[hr.out,h0]))
     subst h0;go_wp2_with fail;refine HC.out.mono ?_;rintro e w1 ⟨rfl,rfl⟩;go_wp2_with fail;go_round
     case rel=>exact⟨k+1,by omega,by omega,by go_num,hT⟩
     case measure=>simp[intOf];omega
    ·have hT:=hid (Ylu ht.out he.out he'.out (by rw[hr.out];exact h0))
     have e0:(r != 0)=true:=by simpa using h0
     obtain rfl:=hx.out.symm.trans (hT.out.trans hr.out);clear h0;go_wp2_with fail;refine HC.out.mono ?_;rintro e w1 ⟨rfl,rfl⟩;go_wp2_with fail;go_ret;exact⟨rfl,rfl⟩
   ·have hT:=Bs ht.out (by have:=HL.out;omega) (by have:=HL'.out;omega) (.inr (by have:=HL'.out;omega))
    rw[HL.out,HL'.out,if_neg (by omega),if_pos (by omega),hx.out]at hT
    subst hT
    have i2:(n':Int)<=(k:Int):=by omega
    clear hlt';go_wp2_with fail;go_ret;exact⟨rfl,rfl⟩
  ·have hT:=Bs ht.out (by have:=HL.out;omega) (by have:=HL'.out;omega) (.inl (by have:=HL.out;omega))
   rw[HL.out,HL'.out,hx.out]at hT
   by_cases h1:n<n'
   ·rw[if_pos h1]at hT
    subst hT
    have i2:(n:Int)<(n':Int):=by omega
    go_wp2_with fail;go_ret;exact⟨rfl,rfl⟩
   ·rw[if_neg h1,if_neg (by omega)]at hT
    subst hT
    have i2:¬(n:Int)<(n':Int):=by omega
    clear h1;go_wp2_with fail;go_ret;exact⟨rfl,rfl⟩
theorem Yrc(h:Row Z4 1 w S A n c K)(h':Row Z4 1 w S' A' n' c' K'){x:Int}(hx:Hid (cmpL K K'=x)):
  Calls aa 34 #[.slice A n c,.slice A' n' c'] w λe w'=>e=.returned (.int .i64 x)/\w=w':=by
 have HC:=hid (Ydx h h' hx)
 clear h h' hx;go_enter Tryz.func34,Tryz.ntmps34;go_wp2_with fail;refine HC.out.mono ?_;rintro e w1 ⟨rfl,rfl⟩;go_wp2_with fail;go_ret;exact⟨rfl,rfl⟩
theorem R8(h:Row Z4 1 w S A n c K)(h':Row Z4 1 w S' A' n' c' K'){x:Int}(hx:Hid (cmpL K K'=x)):
  Calls aa 35 #[.slice A n c,.slice A' n' c'] w λe w'=>e=.returned (.int .i64 x)/\∃k,w'=w.drewN k:=by
 have hn:=h.Ym
 have hn':=h'.Ym
 have HL:=hid h.len
 have HL':=hid h'.len
 have HR:=hid h
 have HR':=hid h'
 clear h h';go_enter Tryz.func35,Tryz.ntmps35;go_wp2_with fail;go_loopw [5] (λi wr=>∃k:Nat,k<=n/\k<=n'∧i=.int .i64 k/\Hid (∃q,wr=w.drewN q)/\Hid (K.take k=K'.take k)) (λi _=>n-(intOf i).toNat)
 case atStart=>exact⟨0,ag _,ag _,rfl,hid ⟨0,rfl⟩,hid rfl⟩
 case round=>
  obtain⟨k,hk,hk',rfl,hW,ht⟩:=hrel
  have HRr:Hid (Row Z4 1 wr S A n c K/\Row Z4 1 wr S' A' n' c' K'):=by
   obtain⟨q,rfl⟩:=hW.out;exact hid ⟨HR.out.mv Zr (Mv.drewN w q S),HR'.out.mv Zr (Mv.drewN w q S')⟩
  by_cases hlt:k<n/\k<n'
  ·obtain⟨hl1,hl2⟩:=hlt
   obtain⟨b,o,B,m,d,p,rfl,_,_,g0,hp,he⟩:=HRr.out.1.at1 hl1;obtain⟨b',o',B',m',d',p',rfl,_,_,g0',hq,he'⟩:=HRr.out.2.at1 hl2
   have i0:(0:Int)<=(k:Int):=by omega
   have i1:(k:Int)<(n:Int):=by omega
   have i2:(k:Int)<(n':Int):=by omega
   obtain⟨r,hr⟩: ∃r,Hid (X4 p p'=r):=⟨_,hid rfl⟩
   have hc:=λj=>Yiy (w:=wr.drewN j) (hp.Eu.drewN j) (hq.Eu.drewN j)
   rw[hr.out]at hc
   have HC:=hid hc
   clear hc hp hq
   by_cases h0:r=0
   ·have hT:=hid (Ycn ht.out he.out he'.out (by rw[hr.out,h0]))
    subst h0;go_wp2_with fail;go_quiet ((go_at_call 81;exact Calls.quiet_of (HC.out _)));go_wp2_with fail;go_roundw
    case rel=>exact⟨k+1,by omega,by omega,by go_num,by obtain⟨q,rfl⟩:=hW.out;exact hid ⟨q+nq,World.drewN_drewN _ _ _⟩,hT⟩
    case measure=>simp[intOf];omega
   ·have hT:=hid (Ylu ht.out he.out he'.out (by rw[hr.out];exact h0))
    have e0:(r != 0)=true:=by simpa using h0
    obtain rfl:=hx.out.symm.trans (hT.out.trans hr.out);clear h0;go_wp2_with fail;go_quiet ((go_at_call 81;exact Calls.quiet_of (HC.out _)));go_wp2_with fail;go_ret;obtain⟨q,rfl⟩:=hW.out;exact⟨rfl,q+nq,World.drewN_drewN _ _ _⟩
  ·have hT:=Bs ht.out (by have:=HL.out;omega) (by have:=HL'.out;omega) (by have:=HL.out;have:=HL'.out;omega)
   rw[HL.out,HL'.out,hx.out]at hT
   have hd:¬(k:Int)<(n:Int)∨((k:Int)<(n:Int)/\¬(k:Int)<(n':Int)):=by omega
   clear hlt
   by_cases h1:n<n'
   ·rw[if_pos h1]at hT
    subst hT
    have i2:(n:Int)<(n':Int):=by omega
    clear h1
    rcases hd with hd|⟨hd,hd'⟩
    all_goals
     go_wp2_with fail;go_ret;exact⟨rfl,hW.out⟩
   ·rw[if_neg h1]at hT
    by_cases h2:n'<n
    ·rw[if_pos h2]at hT
     subst hT
     have i2:¬(n:Int)<(n':Int):=by omega
     have i3:(n':Int)<(n:Int):=by omega
     clear h1 h2
     rcases hd with hd|⟨hd,hd'⟩
     all_goals
      go_wp2_with fail;go_ret;exact⟨rfl,hW.out⟩
    ·rw[if_neg h2]at hT
     subst hT
     have i2:¬(n:Int)<(n':Int):=by omega
     have i3:¬(n':Int)<(n:Int):=by omega
     clear h1 h2
     rcases hd with hd|⟨hd,hd'⟩
     all_goals
      go_wp2_with fail;go_ret;exact⟨rfl,hW.out⟩
end Go.Proofs.YtmepdkdeanbbaaaGreat
