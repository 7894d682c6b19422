/- Wide -/
import Derived.Test.YtmepdkdeanbbaaaGreatJ2
namespace Go.Proofs.YtmepdkdeanbbaaaGreat
set_option maxRecDepth 100000
set_option maxHeartbeats 8000000
open Go.RowKit
open BitVec renaming ofInt→aa,toNat_ofInt→af,toNat_and→ao
open Proofs.Tryz renaming underlying305→ae,prog→ai,ntmps257→aq,func257→ar
open IntKind renaming wrap_i64→ag,i64→aj
open Nat renaming and_two_pow_sub_one_eq_mod→ak,le_refl→an
theorem Yj3(n:Int):bits .and .i64 n 4294967295=n%4294967296:=by
 have h127:(aa 64 4294967295).toNat=2 ^ 32-1:=by decide
 have key:(aa 64 n&&&aa 64 4294967295).toNat=(n%((2 ^ 64:Nat):Int)).toNat%2 ^ 32:=by
  rw[ao,af,h127,ak]
 show aj.wrap ((aa 64 n&&&aa 64 4294967295).toNat:Nat)=_
 rw[key,ag];omega
theorem Yfy(n:Int):bits .and .i64 n 1=n%2:=by
 have h127:(aa 64 1).toNat=2 ^ 1-1:=by decide
 have key:(aa 64 n&&&aa 64 1).toNat=(n%((2 ^ 64:Nat):Int)).toNat%2 ^ 1:=by
  rw[ao,af,h127,ak]
 show aj.wrap ((aa 64 n&&&aa 64 1).toNat:Nat)=_
 rw[key,ag];omega
theorem Ym3(x y:Int)(hx:x%4294967296=0)(h0:0<=y)(h1:y<4294967296):bits .or .i64 x y=aj.wrap (x+y):=by
 have key:(aa 64 x|||aa 64 y).toNat=(x%((2 ^ 64:Nat):Int)).toNat+y.toNat:=by
  rw[BitVec.toNat_or,af,af]
  have e:(y%((2 ^ 64:Nat):Int)).toNat=y.toNat:=by omega
  rw[e];exact nat_join32 _ _ (by omega) (by omega)
 show aj.wrap ((aa 64 x|||aa 64 y).toNat:Nat)=_
 rw[key,ag,ag];omega
theorem Rd:(ai.info? 305).map (·.size)=some 2:=by kernel_rfl
theorem Ef(hi lo:Int)(w:World)(h0: -9223372036854775808<=hi+lo/4294967296)(h1:hi+lo/4294967296<=9223372036854775807):
  Calls ai 268 #[.int .i64 hi,.int .i64 lo] w λe w'=>e=.returned (.agg #[.int .i64 (hi+lo/4294967296),.int .i64 (lo%4294967296)])/\Below w.heap.size w w':=by
 have hm:bits .and .i64 lo 4294967295=lo%4294967296:=Yj3 lo
 go_enter Tryz.func268,Tryz.ntmps268;go_wp2;refine bodyPost_ret (Zi rfl _ _ w.heap.size _ _ rfl (Block.new _ _ _) ae rfl Rd) rfl ?_;exact⟨rfl,(Below.refl _ _).alloc (an _) _⟩
theorem Ypu(n:Int)(w:World)(l0: -9223372036854775808<=n)(l1:n<=9223372036854775807):
  Calls ai 256 #[.int .i64 n] w λe w'=>e=.returned (.agg #[.int .i64 (n/4294967296),.int .i64 (n%4294967296)])/\Below w.heap.size w w':=by
 go_enter Tryz.func256,Tryz.ntmps256;go_wp2_with fail;refine(Ef 0 n _ (by omega) (by omega)).mono ?_
 rintro e w1 ⟨rfl,hb⟩
 have hbl:=Qx hb rfl
 have hf0:=hbl.free 0
 have hf1:=hbl.free 1
 have hc0:w1.cell? ⟨w.heap.size,0,none⟩=some (.int .i64 0):=hbl.cell 0
 have hc1:w1.cell? ⟨w.heap.size,1,none⟩=some (.int .i64 0):=hbl.cell 1
 have hbe:=Ya (Yb _ _) hb
 clear hb;go_wp2_with fail;refine bodyPost_ret (Zi rfl _ _ w.heap.size _ _ rfl ((hbl.Ys 0 _).Ys 1 _) ae rfl Rd) rfl ?_;exact⟨by simp,(hbe.setCell (p:=⟨w.heap.size,0,none⟩) (an _) _).setCell (p:=⟨w.heap.size,1,none⟩) (an _) _⟩
theorem Cn(hi lo:Int)(w:World):
  Calls ai 258 #[.agg #[.int .i64 hi,.int .i64 lo]] w λe w'=>e=.returned (.bool (decide (N4 hi lo)))/\Below w.heap.size w w':=by
 have hc:(¬0<=lo∨(0<=lo/\¬lo<4294967296))∨(0<=lo/\lo<4294967296/\¬-1099511627776<=hi)∨(0<=lo/\lo<4294967296∧-1099511627776<=hi/\¬hi<=1099511627776)∨(0<=lo/\lo<4294967296∧-1099511627776<=hi/\hi<=1099511627776):=by omega
 rcases hc with(h|⟨h,h1⟩)|⟨h,h1,h2⟩|⟨h,h1,h2,h3⟩|⟨h,h1,h2,h3⟩
 all_goals
  go_enter Tryz.func258,Tryz.ntmps258;go_wp2;go_ret;refine⟨Yd ?_,(Below.refl _ _).alloc (an _) _⟩
  first|exact(decide_eq_true (show N4 hi lo by unfold N4;omega)).symm|exact(decide_eq_false (show ¬N4 hi lo by unfold N4;omega)).symm
theorem Yql(ah al bh bl:Int)(w:World)(h0: -4611686018427387904<=ah)(h1:ah<=4611686018427387903)(k0: -4611686018427387904<bh)(k1:bh<4611686018427387903)(l0:0<=al)(l1:al<4294967296)(m0:0<=bl)(m1:bl<4294967296):
  Calls ai 255 #[.agg #[.int .i64 ah,.int .i64 al],.agg #[.int .i64 bh,.int .i64 bl]] w λe w'=>e=.returned (.agg #[.int .i64 (ah+bh+(al+bl)/4294967296),.int .i64 ((al+bl)%4294967296)])/\Below w.heap.size w w':=by
 go_enter Tryz.func255,Tryz.ntmps255;go_wp2_with fail;refine(Ef (ah+bh) (al+bl) _ (by omega) (by omega)).mono ?_
 rintro e w1 ⟨rfl,hb⟩
 have hbl:=Qx hb (g:=w.heap.size+1+1) (by simp)
 have hc0:w1.cell? ⟨w.heap.size+1+1,0,none⟩=some (.int .i64 0):=hbl.cell 0
 have hc1:w1.cell? ⟨w.heap.size+1+1,1,none⟩=some (.int .i64 0):=hbl.cell 1
 have hf0:=hbl.free 0
 have hf1:=hbl.free 1
 have hbe:=Ya (Jc _ _ _ _) hb
 clear hb;go_wp2_with fail;refine bodyPost_ret (Zi rfl _ _ (w.heap.size+1+1) _ _ rfl ((hbl.Ys 0 _).Ys 1 _) ae rfl Rd) rfl ?_;exact⟨rfl,(hbe.setCell (p:=⟨w.heap.size+1+1,0,none⟩) (by simp;omega) _).setCell (p:=⟨w.heap.size+1+1,1,none⟩) (by simp;omega) _⟩
theorem Ymy(hi lo:Int)(w:World)(h:N4 hi lo):
  Calls ai 257 #[.agg #[.int .i64 hi,.int .i64 lo]] w λe w'=>e=.returned (.tuple #[.agg #[.int .i64 hi,.int .i64 lo],.int .i64 0])/\Below w.heap.size w w':=by
 have h':decide (N4 hi lo)=true:=decide_eq_true h
 go_enter ar,aq;go_wp2_with fail;refine(Cn hi lo _).mono ?_;rintro e w1 ⟨rfl,hb⟩;rw[h']
 have hbl:=Qx hb (g:=w.heap.size+1) (by simp)
 have hba:=Block.below (Block.alloc (Block.new w 305 #[.int .i64 hi,.int .i64 lo]) (.cells #[.int .i64 0,.int .i64 0] 305)) hb (by simp;omega)
 have hc0:w1.cell? ⟨w.heap.size,0,none⟩=some (.int .i64 hi):=hba.cell 0
 have hc1:w1.cell? ⟨w.heap.size,1,none⟩=some (.int .i64 lo):=hba.cell 1
 have hd0:w1.cell? ⟨w.heap.size+1,0,none⟩=some (.int .i64 0):=hbl.cell 0
 have hd1:w1.cell? ⟨w.heap.size+1,1,none⟩=some (.int .i64 0):=hbl.cell 1
 have hf0:=hbl.free 0
 have hf1:=hbl.free 1
 have hbe:=Ya (Wz _ _ _) hb
 clear hb h h';go_wp2_with fail;refine bodyPost_ret (Ye rfl _ _ (w.heap.size+1) _ _ rfl ((hbl.Ys 0 _).Ys 1 _) ae rfl Rd) rfl ?_;exact⟨rfl,(hbe.setCell (p:=⟨w.heap.size+1,0,none⟩) (by simp) _).setCell (p:=⟨w.heap.size+1,1,none⟩) (by simp) _⟩
theorem Yl7(hi lo:Int)(w:World)(h:¬N4 hi lo):
  Calls ai 257 #[.agg #[.int .i64 hi,.int .i64 lo]] w λe w'=>e=.returned (.tuple #[.agg #[.int .i64 0,.int .i64 0],.int .i64 14])/\Below w.heap.size w w':=by
 have h':decide (N4 hi lo)=false:=decide_eq_false h
 go_enter ar,aq;go_wp2_with fail;refine(Cn hi lo _).mono ?_;rintro e w1 ⟨rfl,hb⟩;rw[h']
 have hbl:=Qx hb (g:=w.heap.size+1) (by simp)
 have hd0:w1.cell? ⟨w.heap.size+1,0,none⟩=some (.int .i64 0):=hbl.cell 0
 have hd1:w1.cell? ⟨w.heap.size+1,1,none⟩=some (.int .i64 0):=hbl.cell 1
 have hf0:=hbl.free 0
 have hf1:=hbl.free 1
 have hbe:=Ya (Wz _ _ _) hb
 clear hb h h';go_wp2_with fail;refine bodyPost_ret (Ye rfl _ _ (w.heap.size+1) _ _ rfl ((hbl.Ys 0 _).Ys 1 _) ae rfl Rd) rfl ?_;exact⟨rfl,(hbe.setCell (p:=⟨w.heap.size+1,0,none⟩) (by simp) _).setCell (p:=⟨w.heap.size+1,1,none⟩) (by simp) _⟩
end Go.Proofs.YtmepdkdeanbbaaaGreat
