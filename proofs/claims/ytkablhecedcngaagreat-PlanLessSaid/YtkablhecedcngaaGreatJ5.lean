/- Wide -/
import Derived.Test.YtkablhecedcngaaGreatJ3
namespace Go.Proofs.YtkablhecedcngaaGreat
set_option maxRecDepth 100000
set_option maxHeartbeats 8000000
open Go.RowKit
theorem Yf4 (n:Int):bits .and .i64 n 4294967295=n % 4294967296:=by
 have h127:(BitVec.ofInt 64 4294967295).toNat=2 ^ 32 - 1:=by decide
 have key:(BitVec.ofInt 64 n &&& BitVec.ofInt 64 4294967295).toNat=(n % ((2 ^ 64:Nat):Int)).toNat % 2 ^ 32:=by
  rw [BitVec.toNat_and,BitVec.toNat_ofInt,h127,Nat.and_two_pow_sub_one_eq_mod]
 show IntKind.i64.wrap ((BitVec.ofInt 64 n &&& BitVec.ofInt 64 4294967295).toNat:Nat)=_
 rw [key,IntKind.wrap_i64];omega
theorem Yda (n:Int):bits .and .i64 n 1=n % 2:=by
 have h127:(BitVec.ofInt 64 1).toNat=2 ^ 1 - 1:=by decide
 have key:(BitVec.ofInt 64 n &&& BitVec.ofInt 64 1).toNat=(n % ((2 ^ 64:Nat):Int)).toNat % 2 ^ 1:=by
  rw [BitVec.toNat_and,BitVec.toNat_ofInt,h127,Nat.and_two_pow_sub_one_eq_mod]
 show IntKind.i64.wrap ((BitVec.ofInt 64 n &&& BitVec.ofInt 64 1).toNat:Nat)=_
 rw [key,IntKind.wrap_i64];omega
theorem Yj7 (x y:Int) (hx:x % 4294967296=0) (h0:0≤y) (h1:y<4294967296):bits .or .i64 x y=IntKind.i64.wrap (x+y):=by
 have key:(BitVec.ofInt 64 x ||| BitVec.ofInt 64 y).toNat=(x % ((2 ^ 64:Nat):Int)).toNat+y.toNat:=by
  rw [BitVec.toNat_or,BitVec.toNat_ofInt,BitVec.toNat_ofInt]
  have e:(y % ((2 ^ 64:Nat):Int)).toNat=y.toNat:=by omega
  rw [e];exact nat_join32 _ _ (by omega) (by omega)
 show IntKind.i64.wrap ((BitVec.ofInt 64 x ||| BitVec.ofInt 64 y).toNat:Nat)=_
 rw [key,IntKind.wrap_i64,IntKind.wrap_i64];omega
theorem Sh:(Tryz.prog.info? 218).map (·.size)=some 2:=by kernel_rfl
theorem Jp (hi lo:Int) (w:World) (h0 : -9223372036854775808≤hi+lo / 4294967296) (h1:hi+lo / 4294967296≤9223372036854775807) :
  Calls Tryz.prog 172 #[.int .i64 hi,.int .i64 lo] w fun e w'=>e=.returned (.agg #[.int .i64 (hi+lo / 4294967296),.int .i64 (lo % 4294967296)])∧Below w.heap.size w w':=by
 have hm:bits .and .i64 lo 4294967295=lo % 4294967296:=Yf4 lo
 go_enter Tryz.func172,Tryz.ntmps172;go_wp2;refine bodyPost_ret (Za rfl _ _ w.heap.size _ _ rfl (Block.new _ _ _) Tryz.underlying218 rfl Sh) rfl ?_;exact ⟨rfl,(Below.refl _ _).alloc (Nat.le_refl _) _⟩
theorem Yo0 (n:Int) (w:World) (l0 : -9223372036854775808≤n) (l1:n≤9223372036854775807) :
  Calls Tryz.prog 165 #[.int .i64 n] w fun e w'=>e=.returned (.agg #[.int .i64 (n / 4294967296),.int .i64 (n % 4294967296)])∧Below w.heap.size w w':=by
 go_enter Tryz.func165,Tryz.ntmps165;go_wp2_with fail;refine (Jp 0 n _ (by omega) (by omega)).mono ?_
 rintro e w1 ⟨rfl,hb⟩
 have hbl:=Rz hb rfl
 have hf0:=hbl.free 0
 have hf1:=hbl.free 1
 have hc0:w1.cell? ⟨w.heap.size,0,none⟩=some (.int .i64 0):=hbl.cell 0
 have hc1:w1.cell? ⟨w.heap.size,1,none⟩=some (.int .i64 0):=hbl.cell 1
 have hbe:=Yb (Ya _ _) hb
 clear hb;go_wp2_with fail;refine bodyPost_ret (Za rfl _ _ w.heap.size _ _ rfl ((hbl.Yo 0 _).Yo 1 _) Tryz.underlying218 rfl Sh) rfl ?_;exact ⟨by simp,(hbe.setCell (p:=⟨w.heap.size,0,none⟩) (Nat.le_refl _) _).setCell (p:=⟨w.heap.size,1,none⟩) (Nat.le_refl _) _⟩
theorem Dn (hi lo:Int) (w:World) :
  Calls Tryz.prog 167 #[.agg #[.int .i64 hi,.int .i64 lo]] w fun e w'=>e=.returned (.bool (decide (P6 hi lo)))∧Below w.heap.size w w':=by
 have hc:(¬ 0≤lo∨(0≤lo∧¬ lo<4294967296))∨(0≤lo∧lo<4294967296∧¬ -1099511627776≤hi)∨(0≤lo∧lo<4294967296∧-1099511627776≤hi∧¬ hi≤1099511627776)∨(0≤lo∧lo<4294967296∧-1099511627776≤hi∧hi≤1099511627776):=by omega
 rcases hc with (h | ⟨h,h1⟩) | ⟨h,h1,h2⟩ | ⟨h,h1,h2,h3⟩ | ⟨h,h1,h2,h3⟩
 all_goals
  go_enter Tryz.func167,Tryz.ntmps167;go_wp2;go_ret;refine ⟨Yd ?_,(Below.refl _ _).alloc (Nat.le_refl _) _⟩
  first | exact (decide_eq_true (show P6 hi lo by unfold P6; omega)).symm | exact (decide_eq_false (show ¬ P6 hi lo by unfold P6; omega)).symm
theorem Yo9 (ah al bh bl:Int) (w:World) (h0 : -4611686018427387904≤ah) (h1:ah≤4611686018427387903) (k0 : -4611686018427387904<bh) (k1:bh<4611686018427387903) (l0:0≤al) (l1:al<4294967296) (m0:0≤bl) (m1:bl<4294967296) :
  Calls Tryz.prog 164 #[.agg #[.int .i64 ah,.int .i64 al],.agg #[.int .i64 bh,.int .i64 bl]] w fun e w'=>e=.returned (.agg #[.int .i64 (ah+bh+(al+bl) / 4294967296),.int .i64 ((al+bl) % 4294967296)])∧Below w.heap.size w w':=by
 go_enter Tryz.func164,Tryz.ntmps164;go_wp2_with fail;refine (Jp (ah+bh) (al+bl) _ (by omega) (by omega)).mono ?_
 rintro e w1 ⟨rfl,hb⟩
 have hbl:=Rz hb (g:=w.heap.size+1+1) (by simp)
 have hc0:w1.cell? ⟨w.heap.size+1+1,0,none⟩=some (.int .i64 0):=hbl.cell 0
 have hc1:w1.cell? ⟨w.heap.size+1+1,1,none⟩=some (.int .i64 0):=hbl.cell 1
 have hf0:=hbl.free 0
 have hf1:=hbl.free 1
 have hbe:=Yb (Gr _ _ _ _) hb
 clear hb;go_wp2_with fail;refine bodyPost_ret (Za rfl _ _ (w.heap.size+1+1) _ _ rfl ((hbl.Yo 0 _).Yo 1 _) Tryz.underlying218 rfl Sh) rfl ?_;exact ⟨rfl,(hbe.setCell (p:=⟨w.heap.size+1+1,0,none⟩) (by simp; omega) _).setCell (p:=⟨w.heap.size+1+1,1,none⟩) (by simp; omega) _⟩
theorem Yla (hi lo:Int) (w:World) (h:P6 hi lo) :
  Calls Tryz.prog 166 #[.agg #[.int .i64 hi,.int .i64 lo]] w fun e w'=>e=.returned (.tuple #[.agg #[.int .i64 hi,.int .i64 lo],.int .i64 0])∧Below w.heap.size w w':=by
 have h' : decide (P6 hi lo)=true:=decide_eq_true h
 go_enter Tryz.func166,Tryz.ntmps166;go_wp2_with fail;refine (Dn hi lo _).mono ?_;rintro e w1 ⟨rfl,hb⟩;rw [h']
 have hbl:=Rz hb (g:=w.heap.size+1) (by simp)
 have hba:=Block.below (Block.alloc (Block.new w 218 #[.int .i64 hi,.int .i64 lo]) (.cells #[.int .i64 0,.int .i64 0] 218)) hb (by simp; omega)
 have hc0:w1.cell? ⟨w.heap.size,0,none⟩=some (.int .i64 hi):=hba.cell 0
 have hc1:w1.cell? ⟨w.heap.size,1,none⟩=some (.int .i64 lo):=hba.cell 1
 have hd0:w1.cell? ⟨w.heap.size+1,0,none⟩=some (.int .i64 0):=hbl.cell 0
 have hd1:w1.cell? ⟨w.heap.size+1,1,none⟩=some (.int .i64 0):=hbl.cell 1
 have hf0:=hbl.free 0
 have hf1:=hbl.free 1
 have hbe:=Yb (We _ _ _) hb
 clear hb h h';go_wp2_with fail;refine bodyPost_ret (Yj rfl _ _ (w.heap.size+1) _ _ rfl ((hbl.Yo 0 _).Yo 1 _) Tryz.underlying218 rfl Sh) rfl ?_;exact ⟨rfl,(hbe.setCell (p:=⟨w.heap.size+1,0,none⟩) (by simp) _).setCell (p:=⟨w.heap.size+1,1,none⟩) (by simp) _⟩
theorem Yk9 (hi lo:Int) (w:World) (h:¬ P6 hi lo) :
  Calls Tryz.prog 166 #[.agg #[.int .i64 hi,.int .i64 lo]] w fun e w'=>e=.returned (.tuple #[.agg #[.int .i64 0,.int .i64 0],.int .i64 14])∧Below w.heap.size w w':=by
 have h' : decide (P6 hi lo)=false:=decide_eq_false h
 go_enter Tryz.func166,Tryz.ntmps166;go_wp2_with fail;refine (Dn hi lo _).mono ?_;rintro e w1 ⟨rfl,hb⟩;rw [h']
 have hbl:=Rz hb (g:=w.heap.size+1) (by simp)
 have hd0:w1.cell? ⟨w.heap.size+1,0,none⟩=some (.int .i64 0):=hbl.cell 0
 have hd1:w1.cell? ⟨w.heap.size+1,1,none⟩=some (.int .i64 0):=hbl.cell 1
 have hf0:=hbl.free 0
 have hf1:=hbl.free 1
 have hbe:=Yb (We _ _ _) hb
 clear hb h h';go_wp2_with fail;refine bodyPost_ret (Yj rfl _ _ (w.heap.size+1) _ _ rfl ((hbl.Yo 0 _).Yo 1 _) Tryz.underlying218 rfl Sh) rfl ?_;exact ⟨rfl,(hbe.setCell (p:=⟨w.heap.size+1,0,none⟩) (by simp) _).setCell (p:=⟨w.heap.size+1,1,none⟩) (by simp) _⟩
end Go.Proofs.YtkablhecedcngaaGreat
