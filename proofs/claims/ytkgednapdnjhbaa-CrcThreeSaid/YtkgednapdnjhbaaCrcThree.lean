/-
  Proved: the sums of three texts of one length (any bytes, as many as the shortest has, at most 1000), put together by exclusive or, are the sum of the three put together so; nothing that was handed in changes. No condition.
-/
import Derived.Test.YtkgednapdnjhbaaRows
import Derived.Test.YtkgednapdnjhbaaCrcD
import Derived.Test.YtkgednapdnjhbaaCrcBits
import Derived.Deep.RegionHeld3
import Derived.WalkKit
import Derived.ProofKit
import Derived.OpenShut
import Derived.ShutString
import Derived.ChangeOld
import Derived.Below
namespace Go.Proofs.Ytkgednapdnjhbaa.crcThree
open Go.ChangeShapes Go.WideShapes Go.ChangeAt Go.RowKit
open Go.ChangeMaps (open_string shut_string)
set_option linter.unusedVariables false

theorem own : ownKnob Try.prog.godebug = none := by kernel_rfl
theorem laidOut : laidOutB Try.prog = true := by kernel_rfl

def IsRow (k : IntKind) (w : World) (a : Option Addr) (len cap : Nat) (zs : List Int) : Prop :=
  (a = none ∧ len = 0 ∧ cap = 0 ∧ zs = []) ∨
  ∃ x, a = some x ∧ len ≤ cap ∧ cap ≤ maxLen ∧ zs.length = cap ∧ (∀ i, i < zs.length → w.cell? (x.add i) = some (.int k (zs.getD i 0))) ∧ ∀ n ∈ zs, (Lit.int k n).wf = true

set_option maxRecDepth 100000 in
set_option maxHeartbeats 2000000 in
theorem walk (a0 : Option Addr) (len0 cap0 : Nat) (z0 : List Int) (a1 : Option Addr) (len1 cap1 : Nat) (z1 : List Int) (a2 : Option Addr) (len2 cap2 : Nat) (z2 : List Int) (w : World) (w0 : IsRow .u8 w a0 len0 cap0 z0) (w1 : IsRow .u8 w a1 len1 cap1 z1) (w2 : IsRow .u8 w a2 len2 cap2 z2) :
    Calls Try.prog 7 #[.slice a0 len0 cap0, .slice a1 len1 cap1, .slice a2 len2 cap2] w fun e w' => e = .returned (.bool true) ∧ Below w.heap.size w w' := by
  obtain ⟨l0, hr0⟩ := HasB.of_row w0
  obtain ⟨l1, hr1⟩ := HasB.of_row w1
  obtain ⟨l2, hr2⟩ := HasB.of_row w2
  obtain ⟨i0, hi, hz0, hz1, hz2⟩ := info_parts info_u8
  have hm1 := hr1.lenMax
  have hm2 := hr2.lenMax
  have hcm1 := hr1.capMax
  have hcm2 := hr2.capMax
  have hc1 := hr1.cap
  have hc2 := hr2.cap
  go_enter Try.func7, Try.ntmps7
  go_wp2_with fail
  refine (few_any _ _ _ l0 _ _ hr0 1000 (by omega)).mono ?_
  rintro e w' ⟨⟨n1, rfl, hA, -, hn1⟩, rfl⟩
  go_wp2_with fail
  refine (few_any _ _ _ _ _ _ hA len1 (by omega)).mono ?_
  rintro e w' ⟨⟨n2, rfl, hB, hn2, hn3⟩, rfl⟩
  go_wp2_with fail
  refine (few_any _ _ _ _ _ _ hB len2 (by omega)).mono ?_
  rintro e w' ⟨⟨n, rfl, hC, hn4, hn5⟩, rfl⟩
  have hn : n ≤ 1000 := by have : n1 ≤ 1000 := hn1; omega
  have hnb : n ≤ len1 := by have : n2 ≤ len1 := hn3; omega
  have hnc : n ≤ len2 := hn5
  have hnb' : (n : Int) ≤ cap1 := by omega
  have hnc' : (n : Int) ≤ cap2 := by omega
  have hb := hr1.take_ n hnb
  have hc := hr2.take_ n hnc
  clear hr0 hA hB hr1 hr2 hn1 hn2 hn3 hn4 hn5
  generalize ((l0.take (Int.toNat 1000)).take (Int.toNat len1)).take (Int.toNat len2) = la at hC
  generalize l1.take n = lb at hb
  generalize l2.take n = lc at hc
  go_wp2_with fail
  go_loopw [7, 8] (fun v i wr => ∃ k : Nat, k ≤ n ∧ i = .int .i64 k ∧ OwnB wr w.heap.size 5 v ((xor3 la lb lc).take k) ∧ Below w.heap.size w wr) (fun _ i _ => n - (intOf i).toNat)
  case atStart => exact ⟨0, by omega, rfl, OwnB.nil_ _ _ _, Below.refl _ _⟩
  case round =>
    obtain ⟨k, hk, rfl, ho, hbel⟩ := hrel
    have hws := hbel.size
    have ha' := hC.below hbel (Nat.le_refl _)
    have hb' := hb.below hbel (Nat.le_refl _)
    have hc' := hc.below hbel (Nat.le_refl _)
    by_cases hlt : k < n
    · obtain ⟨ba, oa, x, rfl, hba, hca, hx, ex⟩ := ha'.at_ hlt
      obtain ⟨bb, ob, y, rfl, hbb, hcb, hy, ey⟩ := hb'.at_ hlt
      obtain ⟨bc, oc, z, rfl, hbc, hcc, hz, ez⟩ := hc'.at_ hlt
      have hxy : x ^^^ y < 256 := Nat.xor_lt_two_pow (n := 8) hx hy
      have hxyz : x ^^^ y ^^^ z < 256 := Nat.xor_lt_two_pow (n := 8) hxy hz
      have g1 := u8_xor_nat x y hx hy
      have g2 := u8_xor_nat (x ^^^ y) z hxy hz
      have ht := Lib.hid (xor3_take hC.len hb.len hc.len hlt x y z ex.out ey.out ez.out)
      go_wp2_with fail
      have hone := Lib.hid (HasB.litAt wr [UInt8.ofNat (x ^^^ y ^^^ z)] #[.int .u8 ((x ^^^ y ^^^ z : Nat) : Int)] (by simp only [List.map_cons, List.map_nil, byt, UInt8.toNat_ofNat', Nat.mod_eq_of_lt hxyz]) 5 (0, 0) 1 rfl (by decide) wr.heap.size rfl)
      have hL : Hid (((xor3 la lb lc).take k).length + 1 ≤ 140737488355328) := Lib.hid (by have := List.length_take_le k (xor3 la lb lc); omega)
      have hW : Hid (w.heap.size ≤ wr.heap.size + 1) := Lib.hid (by omega)
      have hne (b : Nat) (hb : b < w.heap.size) : some b ≠ Value.ownBlock u7 := fun e => by have := (ho.lt b e.symm).1; omega
      go_region_held3 (fun w' => w'.cell? ⟨ba, oa + k, none⟩ = some (.int .u8 x) ∧ w'.cell? ⟨bb, ob + k, none⟩ = some (.int .u8 y) ∧ w'.cell? ⟨bc, oc + k, none⟩ = some (.int .u8 z))
        (first
          | go_keep
          | (go_split_ands
             refine ⟨?_, ?_, ?_⟩
             · exact hg2.cell (by assumption) (hne _ hba)
             · exact hg2.cell (by assumption) (hne _ hbb)
             · exact hg2.cell (by assumption) (hne _ hbc)))
        ((refine step_app ((wr.alloc (.cells #[.int .u8 ((x ^^^ y ^^^ z : Nat) : Int)] 5)).drew) (by rfl) _ _ 23 (by rfl) w.heap.size 5 i0 (.int .u8 0) Try.underlying23 hi hz0 hz1 hz2 rfl u7 _ (by rfl) ((ho.alloc _).drewN 1) (wr.heap.size + 1) _ 1 1 _ (by rfl) hone.out.drew hL.out (by simp; exact hW.out) ?_; intro v2 w2 ho2 hg2))
      have hb2 : Below w.heap.size w w2 := (hbel.alloc hws (.cells #[.int .u8 ((x ^^^ y ^^^ z : Nat) : Int)] 5)).drew.grown hg2 (by simp; exact hW.out) (fun g h => (ho.lt g h).1)
      have ho3 : Hid (OwnB w2 w.heap.size 5 v2 ((xor3 la lb lc).take (k + 1))) := Lib.hid (by rw [ht.out]; exact ho2)
      clear ho ho2 hg2 hbel hone ha' hb' hc' hca hcb hcc g1 g2
      go_wp2_with fail
      go_roundw
      case rel => exact ⟨k + 1, by omega, by go_num, ho3.out, hb2⟩
      case measure => simp [intOf]; omega
    · have hkn : k = n := by omega
      subst hkn
      have hfin : (xor3 la lb lc).take k = xor3 la lb lc := List.take_of_length_le (by rw [xor3_length hC.len hb.len hc.len]; exact Nat.le_refl _)
      rw [hfin] at ho
      have hsum := more_three la lb lc (hC.len.trans hb.len.symm) (hC.len.trans hc.len.symm)
      obtain ⟨A, m, c, rfl, hv, -⟩ := ho.formN
      have Hsum := Lib.hid hsum
      have hxy : more 0 la ^^^ more 0 lb < 4294967296 := Nat.xor_lt_two_pow (n := 32) (more_lt 0 la) (more_lt 0 lb)
      have g1 := u32_xor_nat _ _ (more_lt 0 la) (more_lt 0 lb)
      have g2 := u32_xor_nat _ _ hxy (more_lt 0 lc)
      rw [Hsum.out] at g2
      clear ho hfin hsum hxy
      go_wp2_with fail
      refine (sum_any _ _ _ _ _ _ ha').mono ?_
      rintro e w' ⟨rfl, rfl⟩
      go_wp2_with fail
      refine (sum_any _ _ _ _ _ _ hb').mono ?_
      rintro e w' ⟨rfl, rfl⟩
      go_wp2_with fail
      refine (sum_any _ _ _ _ _ _ hc').mono ?_
      rintro e w' ⟨rfl, rfl⟩
      go_wp2_with fail
      refine (sum_any _ _ _ _ _ _ hv).mono ?_
      rintro e w' ⟨rfl, rfl⟩
      go_wp2_with fail
      refine (lives_any _).mono ?_
      rintro e w' ⟨rfl, hl⟩
      go_wp2_with fail
      go_ret
      exact ⟨rfl, hbel.trans (hl.mono hws)⟩

set_option maxRecDepth 100000 in
theorem lifted (os : Os) (started : os.Started) (H : Type) (enc : TypeId × Value → H) :
    ReturnsInHanded {} Try.checked os 7 .any (Rows.crcThreeSpec.pre6 enc Try.prog Try.f7 Rows.crcThreeRow.domain false) (Rows.crcThreeSpec.post enc Try.prog Try.f7 false true false false) := by
  refine returnsInHanded_of_change (C := Try.checked) own started (by kernel_rfl) Try.func7
    (ChangeSpec.witness6 (enc := enc) (C := Try.checked) false ⟨#[], #[.slice none 0 0, .slice none 0 0, .slice none 0 0], []⟩ 8 (by kernel_rfl) (by kernel_rfl) (by kernel_rfl) (by kernel_rfl)) ?_
  intro W base args ds gs before hval0 hW hcnd _
  have hval : ∀ (j : Nat) t v, Try.f7.params[j]? = some t → args[j]? = some v → Value.okWide Try.prog W .any base t v := hval0
  have hW' := hW
  obtain ⟨p, q, hA0, hV, rfl, hfz, hnd⟩ := hW
  have hA : DataW.TrodAll enc Try.prog W 0 (fun _ => true) true Try.f7.params.toList args.toList ds p := hA0
  rw [Try.params7] at hA hval
  obtain ⟨v0, vs0, d0, ds0, p0, q0, hargs, rfl, rfl, h0, r0⟩ := trodAll_cons hA
  obtain ⟨v1, vs1, d1, ds1, p1, q1, rfl, rfl, rfl, h1, r1⟩ := trodAll_cons r0
  obtain ⟨v2, vs2, d2, ds2, p2, q2, rfl, rfl, rfl, h2, r2⟩ := trodAll_cons r1
  obtain ⟨rfl, rfl, rfl⟩ := trodAll_nil r2
  obtain rfl : args = #[v0, v1, v2] := by cases args; simp_all
  obtain ⟨rfl, rfl⟩ := trodVars_none hV
  obtain ⟨a0, len0, cap0, rfl⟩ := okWide_slice Try.underlying23 (hval 0 23 v0 rfl rfl)
  have k0 := h0
  have lt0 : ∀ x ∈ p0, x.block < W.heap.size := by obtain ⟨m, hm⟩ := k0; exact DataW.trod_lt m _ _ _ hm
  obtain ⟨z0, w0⟩ : ∃ zs, IsRow .u8 W a0 len0 cap0 zs := by
    obtain ⟨fuel, hf⟩ := h0
    rcases open_ints Try.underlying23 Try.underlying5 (by kernel_rfl) hf with ⟨hcs, _⟩ | ⟨x, l, c, zs, hcs, _, hl, hm, hz, _, hcell, hwz⟩
    · simp [Value.cells] at hcs
      obtain ⟨rfl, rfl, rfl⟩ := hcs
      exact ⟨[], .inl ⟨rfl, rfl, rfl, rfl⟩⟩
    · simp [Value.cells] at hcs
      obtain ⟨rfl, rfl, rfl⟩ := hcs
      exact ⟨zs, .inr ⟨_, rfl, hl, hm, by simpa using hz, hcell, hwz⟩⟩
  obtain ⟨a1, len1, cap1, rfl⟩ := okWide_slice Try.underlying23 (hval 1 23 v1 rfl rfl)
  have k1 := h1
  have lt1 : ∀ x ∈ p1, x.block < W.heap.size := by obtain ⟨m, hm⟩ := k1; exact DataW.trod_lt m _ _ _ hm
  obtain ⟨z1, w1⟩ : ∃ zs, IsRow .u8 W a1 len1 cap1 zs := by
    obtain ⟨fuel, hf⟩ := h1
    rcases open_ints Try.underlying23 Try.underlying5 (by kernel_rfl) hf with ⟨hcs, _⟩ | ⟨x, l, c, zs, hcs, _, hl, hm, hz, _, hcell, hwz⟩
    · simp [Value.cells] at hcs
      obtain ⟨rfl, rfl, rfl⟩ := hcs
      exact ⟨[], .inl ⟨rfl, rfl, rfl, rfl⟩⟩
    · simp [Value.cells] at hcs
      obtain ⟨rfl, rfl, rfl⟩ := hcs
      exact ⟨zs, .inr ⟨_, rfl, hl, hm, by simpa using hz, hcell, hwz⟩⟩
  obtain ⟨a2, len2, cap2, rfl⟩ := okWide_slice Try.underlying23 (hval 2 23 v2 rfl rfl)
  have k2 := h2
  have lt2 : ∀ x ∈ p2, x.block < W.heap.size := by obtain ⟨m, hm⟩ := k2; exact DataW.trod_lt m _ _ _ hm
  obtain ⟨z2, w2⟩ : ∃ zs, IsRow .u8 W a2 len2 cap2 zs := by
    obtain ⟨fuel, hf⟩ := h2
    rcases open_ints Try.underlying23 Try.underlying5 (by kernel_rfl) hf with ⟨hcs, _⟩ | ⟨x, l, c, zs, hcs, _, hl, hm, hz, _, hcell, hwz⟩
    · simp [Value.cells] at hcs
      obtain ⟨rfl, rfl, rfl⟩ := hcs
      exact ⟨[], .inl ⟨rfl, rfl, rfl, rfl⟩⟩
    · simp [Value.cells] at hcs
      obtain ⟨rfl, rfl, rfl⟩ := hcs
      exact ⟨zs, .inr ⟨_, rfl, hl, hm, by simpa using hz, hcell, hwz⟩⟩
  clear hA0 hval0
  refine (walk a0 len0 cap0 z0 a1 len1 cap1 z1 a2 len2 cap2 z2 W w0 w1 w2).mono fun e W' ⟨he, bel⟩ => ?_
  subst he
  exact ⟨_, rfl, _, _, _, [], _, [], hW', trodAll_mk1 (shut_bool Try.underlying4 _), (trodAll_cons_mk (Below.trod laidOut (by kernel_rfl) (of_decide_eq_true (by kernel_rfl)) k0 bel lt0) (trodAll_cons_mk (Below.trod laidOut (by kernel_rfl) (of_decide_eq_true (by kernel_rfl)) k1 bel lt1) (trodAll_cons_mk (Below.trod laidOut (by kernel_rfl) (of_decide_eq_true (by kernel_rfl)) k2 bel lt2) trodAll_mk0))), rfl, bel.frame _, fun h => by cases h⟩

theorem over : Rows.crcThreeRow.holds Try.pinned (OpenSpec.ofChange Rows.crcThreeSpec) :=
  OpenClaim.holds_of_wide 7 Try.f7 rfl rfl rfl rfl rfl rfl rfl ⟨rfl, rfl, rfl, rfl, rfl⟩ rfl rfl rfl rfl rfl (by kernel_rfl) Try.func7 (by kernel_rfl)
    (of_decide_eq_true (by kernel_rfl)) (by unfold Func.isWrapper; first | (rw [if_pos (by decide +kernel)]; kernel_rfl) | (rw [if_neg (by decide +kernel)]; exact ⟨rfl, rfl⟩))
    (fun os started H enc _ => lifted os started H enc)

theorem proved : Rows.CrcThreeSaid := over
end Go.Proofs.Ytkgednapdnjhbaa.crcThree
