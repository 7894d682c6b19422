/-
  Proved: whatever bytes (the first 2000), frame.Get and frame.Scan answer just what the document's Get and Scan answer: the frames, how many bytes they have, and the error; the document's examples hold, and nothing that was handed in changes. No condition.
-/
import Derived.Test.YtpegmingmcedmaaRows
import Derived.Test.YtpegmingmcedmaaFew
import Derived.Test.YtpegmingmcedmaaFrameRefScan
import Derived.Test.YtpegmingmcedmaaFrameSame
import Derived.Test.YtpegmingmcedmaaFrameLives
import Derived.WalkKit
import Derived.ProofKit
import Derived.OpenShut
import Derived.ShutString
import Derived.ChangeOld
import Derived.Below
namespace Go.Proofs.Ytpegmingmcedmaa.frameScans
open Go.ChangeShapes Go.WideShapes Go.ChangeAt Go.RowKit
open Go.ChangeMaps (open_string shut_string)
set_option linter.unusedVariables false

theorem own : ownKnob Try.prog.godebug = none := by kernel_rfl
theorem laidOut : laidOutB Try.prog = true := by kernel_rfl

def IsRow (k : IntKind) (w : World) (a : Option Addr) (len cap : Nat) (zs : List Int) : Prop :=
  (a = none ∧ len = 0 ∧ cap = 0 ∧ zs = []) ∨
  ∃ x, a = some x ∧ len ≤ cap ∧ cap ≤ maxLen ∧ zs.length = cap ∧ (∀ i, i < zs.length → w.cell? (x.add i) = some (.int k (zs.getD i 0))) ∧ ∀ n ∈ zs, (Lit.int k n).wf = true

set_option maxRecDepth 100000 in
set_option maxHeartbeats 2000000 in
theorem walk (a0 : Option Addr) (len0 cap0 : Nat) (z0 : List Int) (w : World) (w0 : IsRow .u8 w a0 len0 cap0 z0) :
    Calls Try.prog 4 #[.slice a0 len0 cap0] w fun e w' => e = .returned (.bool true) ∧ Below w.heap.size w w' := by
  obtain ⟨l0, hr0⟩ := HasB.of_row w0
  go_enter Try.func4, Try.ntmps4
  go_wp2_with fail
  refine (few_any _ _ _ l0 _ _ hr0 2000 (by omega)).mono ?_
  rintro e w' ⟨⟨n, rfl, hA, -, hn⟩, rfl⟩
  have hn2 : n ≤ 2000 := hn
  clear hr0 hn
  generalize l0.take (Int.toNat 2000) = l at hA
  obtain ⟨k, body, u, x, hg⟩ : ∃ k body u x, frGot l = ((k, body), u, x) := ⟨_, _, _, _, rfl⟩
  obtain ⟨fs, p, y, hs⟩ : ∃ fs p y, frScan l = (fs, p, y) := ⟨_, _, _, rfl⟩
  have Hg := Lib.hid hg
  have Hs := Lib.hid hs
  clear hg hs
  go_wp2_with fail
  refine (get_any _ _ _ l _ hA).mono ?_
  rintro e v1 he
  obtain ⟨u1, rfl, hv1, hb1⟩ := getIs_of Hg.out he
  obtain ⟨A1, n1, c1, rfl, hv1', -⟩ := hv1.formN
  have hz1 := hb1.size
  have hA1 := (hA.below hb1 (Nat.le_refl _)).more hz1
  clear he hv1 hA
  have hbx : Below w.heap.size w (v1.alloc (.cells #[.int .i64 (k : Int), .slice A1 n1 c1] 31)) := hb1.alloc hz1 _
  have hvx := (hv1'.alloc (Nat.le_refl _) (.cells #[.int .i64 (k : Int), .slice A1 n1 c1] 31)).more (Nat.le_of_lt (Block.new v1 31 #[.int .i64 (k : Int), .slice A1 n1 c1]).lt)
  have hAx := (hA1.alloc (Nat.le_refl _) (.cells #[.int .i64 (k : Int), .slice A1 n1 c1] 31)).more (Nat.le_of_lt (Block.new v1 31 #[.int .i64 (k : Int), .slice A1 n1 c1]).lt)
  have hBx := Block.new v1 31 #[.int .i64 (k : Int), .slice A1 n1 c1]
  clear hb1 hv1' hA1
  go_wp2_with fail
  generalize v1.alloc (.cells #[.int .i64 (k : Int), .slice A1 n1 c1] 31) = wx at *
  have hzx := hbx.size
  refine (refGet_any _ _ _ l _ hAx).mono ?_
  rintro e v2 he
  obtain ⟨u2, rfl, hv2, hb2⟩ := getIs_of Hg.out he
  obtain ⟨A2, n2, c2, rfl, hv2', -⟩ := hv2.formN
  clear he hv2
  have hz2 := hb2.size
  have hB2 := hBx.below hb2 hBx.lt
  have hv12 := (hvx.below hb2 (Nat.le_refl _)).more hz2
  have hA2 := (hAx.below hb2 (Nat.le_refl _)).more hz2
  have hb02 := hbx.trans (hb2.mono hzx)
  have hz02 := hb02.size
  clear hvx hAx hBx hbx hb2
  have hb3 : Below w.heap.size w (v2.alloc (.cells #[.int .i64 (k : Int), .slice A2 n2 c2] 34)) := hb02.alloc hz02 _
  have hB3 := hB2.alloc (.cells #[.int .i64 (k : Int), .slice A2 n2 c2] 34)
  have hC3 := Block.new v2 34 #[.int .i64 (k : Int), .slice A2 n2 c2]
  have hz3 := Nat.le_of_lt hC3.lt
  have hv13 := (hv12.alloc (Nat.le_refl _) (.cells #[.int .i64 (k : Int), .slice A2 n2 c2] 34)).more hz3
  have hv23 := (hv2'.alloc (Nat.le_refl _) (.cells #[.int .i64 (k : Int), .slice A2 n2 c2] 34)).more hz3
  have hA3 := (hA2.alloc (Nat.le_refl _) (.cells #[.int .i64 (k : Int), .slice A2 n2 c2] 34)).more hz3
  have hx0 := hB3.cell 0
  have hx1 := hB3.cell 1
  clear hb02 hB2 hv12 hv2' hA2
  have hsy : (v2.alloc (.cells #[.int .i64 (k : Int), .slice A2 n2 c2] 34)).heap.size = v2.heap.size + 1 := by simp
  have hr1 := FrRead.lit _ k A1 n1 c1 body hv13 31 (v2.heap.size + 1) hsy.symm
  have hv24 := hv23.allocS (.cells #[.int .i64 (k : Int), .slice A1 n1 c1] 31)
  have hA4 := hA3.allocS (.cells #[.int .i64 (k : Int), .slice A1 n1 c1] 31)
  have hr2 := FrRead.lit _ k A2 n2 c2 body hv24 34 (v2.heap.size + 1 + 1) (by simp)
  have hr1' := hr1.below ((Below.refl _ _).alloc (Nat.le_refl _) (.cells #[.int .i64 (k : Int), .slice A2 n2 c2] 34))
  have hA5 := hA4.allocS (.cells #[.int .i64 (k : Int), .slice A2 n2 c2] 34)
  have hb5 := (hb3.alloc hb3.size (.cells #[.int .i64 (k : Int), .slice A1 n1 c1] 31)).alloc (hb3.alloc hb3.size _).size (.cells #[.int .i64 (k : Int), .slice A2 n2 c2] 34)
  go_wp2_with fail
  clear hr1 hv13 hv23 hA3 hA4 hv24 hx0 hx1 hB3 hC3 hz3 hb3 hsy
  generalize ((v2.alloc (.cells #[.int .i64 (k : Int), .slice A2 n2 c2] 34)).alloc (.cells #[.int .i64 (k : Int), .slice A1 n1 c1] 31)).alloc (.cells #[.int .i64 (k : Int), .slice A2 n2 c2] 34) = wy at *
  refine (frSame_any _ _ _ _ _ _ _ _ _ hr1' hr2).mono ?_
  rintro e wz ⟨rfl, q, ewz⟩
  rw [show decide ([(k, body)] = [(k, body)]) = true from by simp]
  have hbz : Below w.heap.size w wz := by rw [ewz]; exact below_drewN hb5 q
  have hAz : HasB wz wz.heap.size a0 n cap0 l := by rw [ewz]; exact hA5.drewN q
  have hzz := hbz.size
  clear ewz hb5 hA5 hr1' hr2
  go_wp2_with fail
  refine (scan_is _ _ _ l _ hAz (by omega) Hs.out).mono ?_
  rintro e s1 ⟨⟨v, rfl, ho1⟩, hbs⟩
  have hA6 := (hAz.below hbs (Nat.le_refl _)).more hbs.size
  have hb6 := hbz.trans (hbs.mono hzz)
  have hz6 := hb6.size
  obtain ⟨A3, n3, c3, rfl, -, -⟩ := FrRow.form ho1
  have hr3 := FrOwn.read ho1
  clear hAz hbs ho1 hbz
  go_wp2_with fail
  refine (refScan_is _ _ _ l _ hA6 (by omega) Hs.out).mono ?_
  rintro e s2 ⟨⟨v, rfl, ho2⟩, hbs⟩
  have hb7 := hb6.trans (hbs.mono hz6)
  have hz7 := hb7.size
  obtain ⟨A4, n4, c4, rfl, -, -⟩ := FrRow.form ho2
  have hr4 := FrOwn.read ho2
  have hr3' := hr3.below hbs
  clear hA6 hbs ho2 hb6 hr3
  go_wp2_with fail
  refine (frSame_any _ _ _ _ _ _ _ _ _ hr3' hr4).mono ?_
  rintro e wz ⟨rfl, q, ewz⟩
  rw [show decide (fs = fs) = true from by simp]
  have hb8 : Below w.heap.size w wz := by rw [ewz]; exact below_drewN hb7 q
  clear ewz hr3' hr4 hb7
  go_wp2_with fail
  refine (lives_any _).mono ?_
  rintro e w' ⟨rfl, hl⟩
  go_wp2_with fail
  go_ret
  exact ⟨rfl, hb8.trans (hl.mono hb8.size)⟩

set_option maxRecDepth 100000 in
theorem lifted (os : Os) (started : os.Started) (H : Type) (enc : TypeId × Value → H) :
    ReturnsInHanded {} Try.checked os 4 .any (Rows.frameScansSpec.pre6 enc Try.prog Try.f4 Rows.frameScansRow.domain false) (Rows.frameScansSpec.post enc Try.prog Try.f4 false true false false) := by
  refine returnsInHanded_of_change (C := Try.checked) own started (by kernel_rfl) Try.func4
    (ChangeSpec.witness6 (enc := enc) (C := Try.checked) false ⟨#[], #[.slice none 0 0], []⟩ 8 (by kernel_rfl) (by kernel_rfl) (by kernel_rfl) (by kernel_rfl)) ?_
  intro W base args ds gs before hval0 hW hcnd _
  have hval : ∀ (j : Nat) t v, Try.f4.params[j]? = some t → args[j]? = some v → Value.okWide Try.prog W .any base t v := hval0
  have hW' := hW
  obtain ⟨p, q, hA0, hV, rfl, hfz, hnd⟩ := hW
  have hA : DataW.TrodAll enc Try.prog W 0 (fun _ => true) true Try.f4.params.toList args.toList ds p := hA0
  rw [Try.params4] at hA hval
  obtain ⟨v0, vs0, d0, ds0, p0, q0, hargs, rfl, rfl, h0, r0⟩ := trodAll_cons hA
  obtain ⟨rfl, rfl, rfl⟩ := trodAll_nil r0
  obtain rfl : args = #[v0] := by cases args; simp_all
  obtain ⟨rfl, rfl⟩ := trodVars_none hV
  obtain ⟨a0, len0, cap0, rfl⟩ := okWide_slice Try.underlying22 (hval 0 22 v0 rfl rfl)
  have k0 := h0
  have lt0 : ∀ x ∈ p0, x.block < W.heap.size := by obtain ⟨m, hm⟩ := k0; exact DataW.trod_lt m _ _ _ hm
  obtain ⟨z0, w0⟩ : ∃ zs, IsRow .u8 W a0 len0 cap0 zs := by
    obtain ⟨fuel, hf⟩ := h0
    rcases open_ints Try.underlying22 Try.underlying5 (by kernel_rfl) hf with ⟨hcs, _⟩ | ⟨x, l, c, zs, hcs, _, hl, hm, hz, _, hcell, hwz⟩
    · simp [Value.cells] at hcs
      obtain ⟨rfl, rfl, rfl⟩ := hcs
      exact ⟨[], .inl ⟨rfl, rfl, rfl, rfl⟩⟩
    · simp [Value.cells] at hcs
      obtain ⟨rfl, rfl, rfl⟩ := hcs
      exact ⟨zs, .inr ⟨_, rfl, hl, hm, by simpa using hz, hcell, hwz⟩⟩
  clear hA0 hval0
  refine (walk a0 len0 cap0 z0 W w0).mono fun e W' ⟨he, bel⟩ => ?_
  subst he
  exact ⟨_, rfl, _, _, _, [], _, [], hW', trodAll_mk1 (shut_bool Try.underlying4 _), (trodAll_cons_mk (Below.trod laidOut (by kernel_rfl) (of_decide_eq_true (by kernel_rfl)) k0 bel lt0) trodAll_mk0), rfl, bel.frame _, fun h => by cases h⟩

theorem over : Rows.frameScansRow.holds Try.pinned (OpenSpec.ofChange Rows.frameScansSpec) :=
  OpenClaim.holds_of_wide 4 Try.f4 rfl rfl rfl rfl rfl rfl rfl ⟨rfl, rfl, rfl, rfl, rfl⟩ rfl rfl rfl rfl rfl (by kernel_rfl) Try.func4 (by kernel_rfl)
    (of_decide_eq_true (by kernel_rfl)) (by unfold Func.isWrapper; first | (rw [if_pos (by decide +kernel)]; kernel_rfl) | (rw [if_neg (by decide +kernel)]; exact ⟨rfl, rfl⟩))
    (fun os started H enc _ => lifted os started H enc)

theorem proved : Rows.FrameScansSaid := over
end Go.Proofs.Ytpegmingmcedmaa.frameScans
