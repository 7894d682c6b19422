/- DictY -/
import Derived.Test.YtkablhecedcngaaGreatJ41
import Derived.Shelf.SlMaps.Clone
namespace Go.Proofs.YtkablhecedcngaaGreat
set_option maxRecDepth 100000
set_option maxHeartbeats 8000000
open Go.RowKit
open Go.Lib (hid)
variable {w:World}{base:Nat}{E:List (Nat × Txt)}
theorem W8.empty (w:World):W8 (w.alloc (.cells #[] 139)) w.heap.size (.slice (some ⟨w.heap.size,0,none⟩) 0 0) [] :=
 ⟨rfl,.inr ⟨w.heap.size,0,#[],rfl,Nat.le_refl _,heap_alloc_new w _,Nat.le_refl _,Nat.zero_le _,rfl,rfl⟩⟩
theorem Yfn {A:Option Addr}{m c:Nat} (h:W8 w base (.slice A m c) E) (hm:m≤1000) :
  Calls Tryz.prog 75 #[.slice A m c] w fun e w'=>∃ A' c',e=.returned (.slice A' m c')∧W8 w' w.heap.size (.slice A' m c') E∧Below w.heap.size w w':=by
 obtain ⟨i0,hi,hz0,hz1,hz2⟩:=info_parts Ba
 have hform:=h.2
 rcases hform with ⟨e,h0⟩ | ⟨g,cap,cur,e,hb,hg,hnc,hcm,_⟩
 ·injection e with e1 e2 e3
  subst e1 e2 e3;obtain rfl:E=[]:=List.eq_nil_of_length_eq_zero h0
  have q:∀ W,(binOp .eql 129 (.slice none 0 0) (.slice none 0 0)).run Tryz.prog W=.ok (.bool true) W:=fun W=>Lib.run_eql_slice_nil W _ _ none 0 0 0 0 Tryz.underlying129
  go_enter Tryz.func75,Tryz.ntmps75;go_wp2;go_ret;exact ⟨none,0,rfl,W8.Zj _ _,Below.refl _ _⟩
 ·injection e with e1 e2 e3
  subst e1 e3
  have q:∀ W,(binOp .eql 129 (.slice (some ⟨g,0,none⟩) m c) (.slice none 0 0)).run Tryz.prog W=.ok (.bool false) W:=fun W=>Lib.run_eql_slice_nil W _ _ (some ⟨g,0,none⟩) m c 0 0 Tryz.underlying129
  have hcells:=hid (World.ownsRow.cells (World.ownsRow.alloc h (.cells #[] 139)) (g:=g) rfl)
  have hEm:E.length=m:=e2.symm
  have HE:=hid hEm
  clear hg hEm e2;go_enter Tryz.func75,Tryz.ntmps75;go_wp2_with (at_builtin; refine wpList_append_own_at _ rfl _ _ 129 rfl w.heap.size 139 i0 _ 2 24 Tryz.underlying129 hi hz0 hz1 hz2 rfl (by decide) _ 0 [] rfl (W8.empty w) ⟨g,0,none⟩ m c (E.flatMap pcs) rfl (by rw [Yrk,HE.out]) hcells.out (Yrl E) (by unfold maxLen; omega) (by omega) (by simp) ?_)
  intro v2 w2 hO hG hnil _
  have hO2:W8 w2 w.heap.size v2 E:=by unfold W8; rw [HE.out]; simpa using hO
  have hB2:Below w.heap.size w w2:=⟨hG.os,hG.tape,hG.output,Nat.le_trans (by simp) hG.size,fun k hk=>(hG.block k (by simp; omega) (fun e=>by simp [Value.ownBlock] at e; omega)).trans (Below.heap_alloc w _ k hk)⟩
  obtain ⟨A2,c2,rfl,_⟩:=hO2.form
  have hF:=hid (show W8 w2 w.heap.size (.slice A2 m c2) E∧Below w.heap.size w w2 from ⟨by have:=hO2; rwa [HE.out] at this,hB2⟩)
  rw [HE.out];clear hO hG hnil hO2 hB2;go_wp2;go_ret;exact ⟨A2,c2,rfl,hF.out.1,hF.out.2⟩
theorem Yfp {b:Nat} (h:W6 w b E) :
  Calls Tryz.prog 76 #[.map (some b)] w fun e w'=>e=.returned (.map (some w.heap.size))∧W6 w' w.heap.size E∧Below w.heap.size w w':=by
 obtain ⟨n,D,⟨es,clock,hb,F,hs,hD⟩,hn,hlook⟩:=h
 have hq:=fun w=>run_eql_map_nil_sl (P:=Tryz.prog) w 128 _ _ (some b) Tryz.underlying128
 have hF:=hid (show W6 (w.alloc (.map es clock)) w.heap.size E∧Below w.heap.size w (w.alloc (.map es clock)) from ⟨⟨n,D,⟨es,clock,(MapKept.heap_alloc w _).1,F,hs,hD⟩,hn,hlook⟩,Ya w _⟩)
 clear F hs hD hlook;go_enter Tryz.func76,Tryz.ntmps76;go_wp2;rw [run_callFunc_extern Tryz.func101 (by kernel_rfl) (by kernel_rfl) (by kernel_rfl) (e:=Extern.MapsClone.clone) (by kernel_rfl),run_maps_clone_sl w 128 hb]
 simp only [Result.andThen];rw [Oper.upon_value];go_wp2;rw [run_typeAssert_map_sl _ 128 20 _ _ _ Tryz.underlying128];simp only [Result.andThen];rw [Oper.upon_value];go_wp2;go_ret;exact ⟨rfl,hF.out.1,hF.out.2⟩
theorem Yml {g:Nat}{pv:Value}{bm n:Nat}{Q:List Pth} (h:Dc w base g pv bm n Q) :
  Calls Tryz.prog 49 #[.pointer (some ⟨g,0,none⟩)] w fun e w'=>∃ g' pv' bm',e=.returned (.pointer (some ⟨g',0,none⟩))∧Dc w' w.heap.size g' pv' bm' n Q∧Below w.heap.size w w':=by
 have hgl:=h.block.lt
 have hQ:=h.good.size
 have HH:=hid h
 have K:Hid (∀ y,Below w.heap.size w y→y.cell? ⟨g,0,none⟩=some (.int .i64 n)∧y.cell? ⟨g,1,none⟩=some pv∧y.cell? ⟨g,2,none⟩=some (.map (some bm))):=hid fun y hy=>⟨(h.below hy).c0,(h.below hy).c1,(h.below hy).c2⟩
 obtain ⟨A,cap,rfl,_⟩:=h.form
 have c0:=h.c0
 have c1:=h.c1
 have c2:=h.c2
 have hrow:W8 w.drew base (.slice A Q.length cap) (Un Q):=h.row
 have hcl:=Yfn hrow (by omega)
 clear h;go_enter Tryz.func49,Tryz.ntmps49;go_wp2_with fail;go_region_held3 (fun w'=>w'.cell? ⟨g,0,none⟩=some (.int .i64 n)∧w'.cell? ⟨g,1,none⟩=some (.slice A Q.length cap)∧w'.cell? ⟨g,2,none⟩=some (.map (some bm)))
  (first
   | go_keep
   | exact K.out _ hBB2
   | exact K.out _ hBB1)
  (first
   | (go_at_call 75; refine hcl.mono ?_; rintro e w1 ⟨A1,cap1,rfl,hO1,hB1⟩; have hBB1:Below w.heap.size w w1:=((below_drewN (Below.refl _ w) 1).trans hB1); have hM1:=(HH.out.below hBB1).map)
   | (go_at_call 76; refine (Yfp hM1).mono ?_; rintro e w2 ⟨rfl,hM2,hB2⟩; have hBB2:=hBB1.trans (hB2.mono hBB1.size)))
 have hs1:=hBB1.size
 have hs2:=hBB2.size
 have hF:=hid (show Dc (w2.alloc (.cells #[.int .i64 n,.slice A1 Q.length cap1,.map (some w1.heap.size)] 131)) w.heap.size w2.heap.size (.slice A1 Q.length cap1) w1.heap.size n Q∧Below w.heap.size w (w2.alloc (.cells #[.int .i64 n,.slice A1 Q.length cap1,.map (some w1.heap.size)] 131)) from
  ⟨⟨Block.new w2 _ _,W8.alloc (w:=w2) (W8.low (W8.below hO1 hB2) (Nat.le_refl _)) _,hM2.alloc _,hs2,hs1,HH.out.good⟩,hBB2.alloc hs2 _⟩)
 clear hO1 hB1 hB2 hM1 hM2 hBB1 hBB2;go_wp2_with fail;go_ret;exact ⟨_,_,_,rfl,hF.out.1,hF.out.2⟩
end Go.Proofs.YtkablhecedcngaaGreat
