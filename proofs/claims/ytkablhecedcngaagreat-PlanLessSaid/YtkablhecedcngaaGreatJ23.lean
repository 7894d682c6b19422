/- CellE, Acc -/
import Derived.Test.YtkablhecedcngaaGreatJ18
namespace Go.Proofs.YtkablhecedcngaaGreat
set_option maxRecDepth 100000
set_option maxHeartbeats 8000000
open Go.RowKit
open Go.Lib (hid)
variable {w:World}
def Dp (m:Nat):Array Value:=(List.replicate m (Xe 0)).toArray
theorem Bi (m:Nat) (W:World) (hm:m≤1000000):(Instr.makeSlice 27 (.int .i64 m) (.int .i64 m)).run Tryz.prog W=.ok (.slice (some ⟨W.heap.size,0,none⟩) m m) (W.alloc (.cells (Dp m) 3)):=by
 obtain ⟨i,hi,hz,hy,hx⟩:=info_parts S7
 have h:=run_make (P:=Tryz.prog) W 27 3 i (.int .i64 0) Tryz.underlying27 hi hz .i64 .i64 m m (by omega) (by omega) (by rw [hx]; omega) (by omega)
 rw [hy,Nat.mul_one,Int.toNat_natCast] at h;rw [h]
 congr 2
 congr 1
 apply Array.ext
 ·simp [Dp,madeCells]
 ·intro k h1 h2
  simp [Dp,madeCells,Xe,Value.cells,Nat.mod_one]
theorem Li {base g m:Nat} (hb:Block w g 3 (Dp m)) (h:base≤g) (hm:m≤1000000):Yf w base (.slice (some ⟨g,0,none⟩) m m) (List.replicate m 0):=by
 refine ⟨by simp,.inr ⟨g,m,Dp m,by simp,h,hb,by simp,by unfold maxLen; omega,by simp [Dp],by simp [Dp]⟩⟩
theorem Sc (w:World) (C:Obj) (T:TypeId) (cs:Array Value):Block ((((w.alloc C).alloc (.cells cs T)).alloc (.cells cs T)).alloc (.cells cs T)) (w.heap.size+1) T cs∧Block ((((w.alloc C).alloc (.cells cs T)).alloc (.cells cs T)).alloc (.cells cs T)) (w.heap.size+1+1) T cs∧Block ((((w.alloc C).alloc (.cells cs T)).alloc (.cells cs T)).alloc (.cells cs T)) (w.heap.size+1+1+1) T cs:=by
 have h1:=Block.new (w.alloc C) T cs
 have h2:=Block.new ((w.alloc C).alloc (.cells cs T)) T cs
 have h3:=Block.new (((w.alloc C).alloc (.cells cs T)).alloc (.cells cs T)) T cs
 simp only [World.size_alloc] at h1 h2 h3;exact ⟨(h1.alloc _).alloc _,h2.alloc _,h3⟩
theorem Yl8 (w:World) (o p q r:Obj):Below w.heap.size w ((((w.alloc o).alloc p).alloc q).alloc r):=Yb (Gr w o p q) (Ya _ r)
def Ys9 (w:World) (m:Nat) (e:Ending) (w' : World):Prop :=
 (∃ g1 g2 g3:Nat,e=.returned (.agg #[.int .i64 0,.slice (some ⟨g1,0,none⟩) m m,.slice (some ⟨g2,0,none⟩) m m,.slice (some ⟨g3,0,none⟩) m m]) ∧
  X5 w' w.heap.size (.slice (some ⟨g1,0,none⟩) m m) (.slice (some ⟨g2,0,none⟩) m m) (.slice (some ⟨g3,0,none⟩) m m) (List.replicate m 0) (List.replicate m 0) (List.replicate m 0)∧g1≠g2∧g1≠g3∧g2≠g3)∧Below w.heap.size w w'
theorem Oh (x:Int) (w:World) {m:Nat}(hm:m=(min (max x 0) 2).toNat) :
  Calls Tryz.prog 115 #[.int .i64 x] w (Ys9 w m):=by
 have hm2:grS x 0=max x 0:=rfl
 have hm3:leS (grS x 0) 2=(m:Int):=by unfold leS grS; omega
 have HM:=hid hm3
 have hm9:m≤2:=by omega
 clear hm hm2 hm3;go_enter Tryz.func115,Tryz.ntmps115;go_wp2_with fail;refine (Jv x 0 _).mono ?_;rintro e w' ⟨rfl,rfl⟩;go_wp2_with fail;refine (Ej _ 2 _).mono ?_;rintro e w' ⟨rfl,rfl⟩;rw [HM.out];go_wp2_with fail
 have HK:∀ W:World,(Instr.makeSlice 27 (.int .i64 m) (.int .i64 m)).run Tryz.prog W=.ok (.slice (some ⟨W.heap.size,0,none⟩) m m) (W.alloc (.cells (Dp m) 3)):=fun W=>Bi m W (by omega)
 clear HM;go_region
 all_goals
  go_wp2_with fail;refine bodyPost_ret (Za rfl _ _ w.heap.size _ _ rfl (show Block (((((w.alloc _).alloc _).alloc _).alloc _).drew) w.heap.size 105 _ from (((Block.new w 105 _).alloc _).alloc _).alloc _) Tryz.underlying105 rfl Y5) rfl ?_
  exact ⟨⟨_,_,_,rfl,⟨Li (by first | exact (Sc w _ _ _).1 | exact (Sc w _ _ _).2.1 | exact (Sc w _ _ _).2.2) (by omega) (by omega),Li (by first | exact (Sc w _ _ _).1 | exact (Sc w _ _ _).2.1 | exact (Sc w _ _ _).2.2) (by omega) (by omega),Li (by first | exact (Sc w _ _ _).1 | exact (Sc w _ _ _).2.1 | exact (Sc w _ _ _).2.2) (by omega) (by omega)⟩,by omega,by omega,by omega⟩,Below.drew (Yl8 _ _ _ _ _)⟩
/-! ### one,filled,the numbers of a cell -/
theorem Yrg (A:Option Addr) (n c:Nat) (w:World) :
  Calls Tryz.prog 134 #[.slice A n c] w fun e w'=>e=.returned (Mm 1 A n c A n c A n c)∧Below w.heap.size w w':=by
 go_enter Tryz.func134,Tryz.ntmps134;go_wp2_with fail;refine bodyPost_ret (Za rfl _ _ w.heap.size _ _ rfl (Block.new w 105 _) Tryz.underlying105 rfl Y5) rfl ?_;exact ⟨rfl,Ya _ _⟩
theorem Ql (n:Int) (A1:Option Addr) (n1 c1:Nat) (A2:Option Addr) (n2 c2:Nat) (A3:Option Addr) (n3 c3:Nat) (w:World) {r:Bool}(hr:r=decide (0<n)) :
  Calls Tryz.prog 114 #[Mm n A1 n1 c1 A2 n2 c2 A3 n3 c3] w fun e w'=>e=.returned (.bool r)∧Below w.heap.size w w':=by
 have R:=hid hr
 clear hr
 have hb:=hid (Ya w (.cells #[.int .i64 n,.slice A1 n1 c1,.slice A2 n2 c2,.slice A3 n3 c3] 105))
 go_enter Tryz.func114,Tryz.ntmps114;go_wp2_with fail;go_ret;exact ⟨Yd R.out.symm,hb.out⟩
theorem Ybc (n:Int) (A1:Option Addr) (n1 c1:Nat) (A2:Option Addr) (n2 c2:Nat) (A3:Option Addr) (n3 c3:Nat) (w:World) :
  Calls Tryz.prog 139 #[Mm n A1 n1 c1 A2 n2 c2 A3 n3 c3] w fun e w'=>e=.returned (.int .i64 n)∧Below w.heap.size w w':=by
 have hb:=hid (Ya w (.cells #[.int .i64 n,.slice A1 n1 c1,.slice A2 n2 c2,.slice A3 n3 c3] 105))
 go_enter Tryz.func139,Tryz.ntmps139;go_wp2_with fail;go_ret;exact ⟨rfl,hb.out⟩
theorem Ygt {n:Int}{A1:Option Addr}{n1 c1:Nat}{A2:Option Addr}{n2 c2:Nat}{A3:Option Addr}{n3 c3:Nat}{S M X:List Int} (h:Ww w w.heap.size A1 n1 c1 A2 n2 c2 A3 n3 c3 S M X) {i:Nat}(hi:i<n1) {B:Nat}(hB:w.cell? ⟨B,0,none⟩=some (.int .i64 i)) :
  Calls Tryz.prog 140 #[Mm n A1 n1 c1 A2 n2 c2 A3 n3 c3,.pointer (some ⟨B,0,none⟩)] w fun e w'=>e=.returned (.int .i64 (S.getD i 0))∧Below w.heap.size w w':=by
 have hb:=hid (Ya w (.cells #[.int .i64 n,.slice A1 n1 c1,.slice A2 n2 c2,.slice A3 n3 c3] 105))
 have hBl:=World.block_lt_of_cell? w _ hB
 have hlm:=h.s.Yn
 obtain ⟨b,o,y,rfl,hbl,cs,es⟩:=h.s.at_ hi
 have i0:(0:Int)≤(i:Int):=by omega
 have i1:(i:Int)<(n1:Int):=by omega
 clear h;rw [← es.out];go_enter Tryz.func140,Tryz.ntmps140;go_wp2_with fail;generalize hW:w.alloc (.cells #[.int .i64 n,.slice (some ⟨b,o,none⟩) n1 c1,.slice A2 n2 c2,.slice A3 n3 c3] 105)=W at hb ⊢
 have k1:W.cell? ⟨w.heap.size,1,none⟩=some (.slice (some ⟨b,o,none⟩) n1 c1):=by rw [← hW]; exact (Block.new w _ _).cell 1
 have k2:W.cell? ⟨B,0,none⟩=some (.int .i64 i):=(hb.out.cell (p:=⟨B,0,none⟩) hBl).trans hB
 have k3:W.cell? ⟨b,o+i,none⟩=some (.int .i64 y):=(hb.out.cell (p:=⟨b,o+i,none⟩) hbl).trans cs
 clear hW hB cs;go_wp2_with fail;go_ret;exact ⟨rfl,hb.out⟩
section
theorem Bt {v v' : Value}(h:∀ g,v.ownBlock=some g→v'.ownBlock≠some g):v.ownBlock=none∨v.ownBlock≠v'.ownBlock:=by
 cases hv:v.ownBlock with
 | none=>exact .inl rfl
 | some g=>exact .inr fun e=>h g hv e.symm
theorem Block.app {w w' : World}{r base:Nat}{T:TypeId}{cs:Array Value}{v v' : Value}{l:List Int}(hb:Block w r T cs) (hT:T≠3) (hO:Yf w base v l) (hG:Z7 w v w' v'):Block w' r T cs:=hb.grown hG.1 (hO.Vy hb hT)
structure Acc (w0 w:World) (s:Nat) (q:Int) (v1 v2 v3:Value) (S M X:List Int):Prop where
 blk:Block w s 105 #[.int .i64 q,v1,v2,v3]
 r1:Yf w w0.heap.size v1 S
 r2:Yf w w0.heap.size v2 M
 r3:Yf w w0.heap.size v3 X
 bel:Below w0.heap.size w0 w
 hs:w0.heap.size≤s
 d12:∀ g,v1.ownBlock=some g→v2.ownBlock≠some g
 d13:∀ g,v1.ownBlock=some g→v3.ownBlock≠some g
 d23:∀ g,v2.ownBlock=some g→v3.ownBlock≠some g
section
variable {w0 w w' : World}{s:Nat}{q:Int}{v1 v2 v3:Value}{S M X:List Int}
theorem Acc.below (h:Acc w0 w s q v1 v2 v3 S M X) (hb:Below w.heap.size w w'):Acc w0 w' s q v1 v2 v3 S M X :=
 ⟨h.blk.below hb h.blk.lt,h.r1.below hb (Nat.le_refl _),h.r2.below hb (Nat.le_refl _),h.r3.below hb (Nat.le_refl _),h.bel.trans (hb.mono h.bel.size),h.hs,h.d12,h.d13,h.d23⟩
theorem Acc.alloc (h:Acc w0 w s q v1 v2 v3 S M X) (o:Obj):Acc w0 (w.alloc o) s q v1 v2 v3 S M X:=h.below (Ya w o)
theorem Acc.own (h:Acc w0 w s q v1 v2 v3 S M X):X5 w w0.heap.size v1 v2 v3 S M X:=⟨h.r1,h.r2,h.r3⟩
theorem Acc.new {s:Nat}(hb:Block w s 105 #[.int .i64 q,.slice none 0 0,.slice none 0 0,.slice none 0 0]) (hbe:Below w0.heap.size w0 w) (hs:w0.heap.size≤s):Acc w0 w s q (.slice none 0 0) (.slice none 0 0) (.slice none 0 0) [] [] [] :=
 ⟨hb,Yf.Zj _ _,Yf.Zj _ _,Yf.Zj _ _,hbe,hs,(fun g h=>by cases h),(fun g h=>by cases h),(fun g h=>by cases h)⟩
theorem Acc.Ytd {y:Int}{v' : Value}(h:Acc w0 w s q v1 v2 v3 S M X) (hO:Yf w' w0.heap.size v' (S++[y])) (hG:Z7 w v1 w' v'):Block w' s 105 #[.int .i64 q,v1,v2,v3]∧Acc w0 (w'.setCell ⟨s,1,none⟩ v') s q v' v2 v3 (S++[y]) M X:=by
 have hT:105≠3:=by decide
 have hb:Block w' s 105 #[.int .i64 q,v1,v2,v3]:=h.blk.grown hG.1 (Yf.Vy h.r1 h.blk hT)
 have hbe:Below w0.heap.size w0 w':=h.bel.trans (hG.Y4 h.bel.size fun k e=>(h.r1.lt k e).1)
 exact ⟨hb,⟨hb.Yo 1 v',hO.other (hO.Vy hb hT) _,(Yf.kept h.r2 hG.1 (Bt fun g h1 h2=>h.d12 g h2 h1)).other (fun e=>(Yf.Vy h.r2 h.blk hT) e) _,(Yf.kept h.r3 hG.1 (Bt fun g h1 h2=>h.d13 g h2 h1)).other (fun e=>(Yf.Vy h.r3 h.blk hT) e) _,hbe.setCell (p:=⟨s,1,none⟩) h.hs _,h.hs,fun g h1 h2=>(hG.2 g h1).elim (fun e=>h.d12 g e h2) (fun e=>by have:=(h.r2.lt g h2).2; omega),fun g h1 h2=>(hG.2 g h1).elim (fun e=>h.d13 g e h2) (fun e=>by have:=(h.r3.lt g h2).2; omega),h.d23⟩⟩
theorem Acc.Yte {y:Int}{v' : Value}(h:Acc w0 w s q v1 v2 v3 S M X) (hO:Yf w' w0.heap.size v' (M++[y])) (hG:Z7 w v2 w' v'):Block w' s 105 #[.int .i64 q,v1,v2,v3]∧Acc w0 (w'.setCell ⟨s,2,none⟩ v') s q v1 v' v3 S (M++[y]) X:=by
 have hT:105≠3:=by decide
 have hb:Block w' s 105 #[.int .i64 q,v1,v2,v3]:=h.blk.grown hG.1 (Yf.Vy h.r2 h.blk hT)
 have hbe:Below w0.heap.size w0 w':=h.bel.trans (hG.Y4 h.bel.size fun k e=>(h.r2.lt k e).1)
 exact ⟨hb,⟨hb.Yo 2 v',(Yf.kept h.r1 hG.1 (Bt fun g h1=>h.d12 g h1)).other (fun e=>(Yf.Vy h.r1 h.blk hT) e) _,hO.other (hO.Vy hb hT) _,(Yf.kept h.r3 hG.1 (Bt fun g h1 h2=>h.d23 g h2 h1)).other (fun e=>(Yf.Vy h.r3 h.blk hT) e) _,hbe.setCell (p:=⟨s,2,none⟩) h.hs _,h.hs,fun g h1 h2=>(hG.2 g h2).elim (fun e=>h.d12 g h1 e) (fun e=>by have:=(h.r1.lt g h1).2; omega),h.d13,fun g h1 h2=>(hG.2 g h1).elim (fun e=>h.d23 g e h2) (fun e=>by have:=(h.r3.lt g h2).2; omega)⟩⟩
theorem Acc.Ytf {y:Int}{v' : Value}(h:Acc w0 w s q v1 v2 v3 S M X) (hO:Yf w' w0.heap.size v' (X++[y])) (hG:Z7 w v3 w' v'):Block w' s 105 #[.int .i64 q,v1,v2,v3]∧Acc w0 (w'.setCell ⟨s,3,none⟩ v') s q v1 v2 v' S M (X++[y]):=by
 have hT:105≠3:=by decide
 have hb:Block w' s 105 #[.int .i64 q,v1,v2,v3]:=h.blk.grown hG.1 (Yf.Vy h.r3 h.blk hT)
 have hbe:Below w0.heap.size w0 w':=h.bel.trans (hG.Y4 h.bel.size fun k e=>(h.r3.lt k e).1)
 exact ⟨hb,⟨hb.Yo 3 v',(Yf.kept h.r1 hG.1 (Bt fun g h1=>h.d13 g h1)).other (fun e=>(Yf.Vy h.r1 h.blk hT) e) _,(Yf.kept h.r2 hG.1 (Bt fun g h1=>h.d23 g h1)).other (fun e=>(Yf.Vy h.r2 h.blk hT) e) _,hO.other (hO.Vy hb hT) _,hbe.setCell (p:=⟨s,3,none⟩) h.hs _,h.hs,h.d12,fun g h1 h2=>(hG.2 g h2).elim (fun e=>h.d13 g h1 e) (fun e=>by have:=(h.r1.lt g h1).2; omega),fun g h1 h2=>(hG.2 g h2).elim (fun e=>h.d23 g h1 e) (fun e=>by have:=(h.r2.lt g h1).2; omega)⟩⟩
end
end
end Go.Proofs.YtkablhecedcngaaGreat
