/-
  Proved: whatever bytes (the first 500) frame.Scan reads, and frame.Put puts, of any kind, all that is told can be written over: the bytes that were handed in stay as they were; the document's examples hold. No condition.
-/
import Derived.Test.YtpegmingmcedmaaRows
import Derived.Test.YtpegmingmcedmaaFew
import Derived.Test.YtpegmingmcedmaaSame
import Derived.Test.YtpegmingmcedmaaFrameOwn
import Derived.Test.YtpegmingmcedmaaFrameLives
import Derived.WalkKit
import Derived.ProofKit
import Derived.OpenShut
import Derived.ShutString
import Derived.ChangeOld
import Derived.Below
namespace Go.Proofs.Ytpegmingmcedmaa.frameOwns
open Go.ChangeShapes Go.WideShapes Go.ChangeAt Go.RowKit
open Go.ChangeMaps (open_string shut_string)
set_option linter.unusedVariables false

theorem own : ownKnob Try.prog.godebug = none := by kernel_rfl
theorem laidOut : laidOutB Try.prog = true := by kernel_rfl

def IsRow (k : IntKind) (w : World) (a : Option Addr) (len cap : Nat) (zs : List Int) : Prop :=
  (a = none ∧ len = 0 ∧ cap = 0 ∧ zs = []) ∨
  ∃ x, a = some x ∧ len ≤ cap ∧ cap ≤ maxLen ∧ zs.length = cap ∧ (∀ i, i < zs.length → w.cell? (x.add i) = some (.int k (zs.getD i 0))) ∧ ∀ n ∈ zs, (Lit.int k n).wf = true

set_option maxRecDepth 100000 in
set_option maxHeartbeats 2000000 in
theorem walk (a0 : Option Addr) (len0 cap0 : Nat) (z0 : List Int) (a1 : Int) (w : World) (w0 : IsRow .u8 w a0 len0 cap0 z0) (w1 : (Lit.int .i64 a1).wf = true) :
    Calls Try.prog 8 #[.slice a0 len0 cap0, .int .i64 a1] w fun e w' => e = .returned (.bool true) ∧ Below w.heap.size w w' := by
  obtain ⟨l0, hr0⟩ := HasB.of_row w0
  obtain ⟨i0, hi, hz0, hz1, hz2⟩ := info_parts info_u8
  go_enter Try.func8, Try.ntmps8
  go_wp2_with fail
  refine (few_any _ _ _ l0 _ _ hr0 500 (by omega)).mono ?_
  rintro e w' ⟨⟨n, rfl, hr, -, hn⟩, rfl⟩
  have hn5 : n ≤ 500 := hn
  clear hr0 hn
  generalize l0.take (Int.toNat 500) = l at hr
  go_wp2_with (at_builtin; refine wpList_app _ rfl _ _ 22 rfl w.heap.size 5 i0 (.int .u8 0) Try.underlying22 hi hz0 hz1 hz2 rfl _ [] rfl (OwnB.nil_ w w.heap.size 5) w.heap.size _ n _ l rfl hr (by simp; omega) (Nat.le_refl _) ?_)
  intro v1 w1' ho hg
  have hr1 := hr.grown hg (Nat.le_refl _) (fun g h => by cases h)
  have hb1 : Below w.heap.size w w1' := (Below.refl _ _).grown hg (Nat.le_refl _) (fun g h => by cases h)
  have hsz1 := hb1.size
  obtain ⟨A, m, c, rfl, hv, -⟩ := ho.formN
  clear hr ho hg hi hz0 hz1 hz2
  go_wp2_with fail
  refine (scan_any _ _ _ l _ (hr1.more hsz1) (by omega)).mono ?_
  rintro e w2 ⟨⟨v2, rfl, ho2⟩, hb2⟩
  obtain ⟨A2, n2, c2, rfl, hn2, hc2, hcm2, -, -⟩ := FrRow.form ho2
  obtain ⟨fs, hfs⟩ : ∃ fs, fs = (frScan l).1 := ⟨_, rfl⟩
  rw [← hfs] at ho2 hn2
  subst hn2
  obtain ⟨xs, hrow, hcs⟩ := ho2
  have hO : Own9 w1' w2 (.slice A2 fs.length c2) fs xs := ⟨hb2, hrow, hcs.mono fun c l h => ⟨l, h⟩⟩
  unfold maxLen at hcm2
  clear hrow hcs hb2 hfs
  go_wp2_with fail
  go_loopw [9, 10] (fun i _ wr => ∃ k : Nat, k ≤ fs.length ∧ i = .int .i64 k ∧ Own9 w1' wr (.slice A2 fs.length c2) fs xs) (fun i _ _ => fs.length - (intOf i).toNat)
  case atStart => exact ⟨0, Nat.zero_le _, rfl, hO⟩
  case round =>
    obtain ⟨k, hk, rfl, hW⟩ := hrel
    clear hO
    have k0 : (0 : Int) ≤ (k : Int) := by omega
    by_cases hlt : k < fs.length
    · have k1 : (k : Int) < (fs.length : Int) := by omega
      obtain ⟨cv, hcv, hS⟩ := hW.body hlt
      obtain ⟨B1, m1, d1, rfl, hm1, -⟩ := hS.form
      obtain ⟨G, rfl, hcell⟩ := hW.cell hlt hcv
      clear hS hcell
      go_wp2_with fail
      go_loopw [10] (fun j wr => ∃ q : Nat, q ≤ m1 ∧ j = .int .i64 q ∧ Own9 w1' wr (.slice (some ⟨G, 0, none⟩) fs.length c2) fs xs) (fun j _ => m1 - (intOf j).toNat)
      case atStart => exact ⟨0, Nat.zero_le _, rfl, hW⟩
      case round =>
        obtain ⟨q, hq, rfl, hV⟩ := hrel
        clear hW
        obtain ⟨cv, hcv', hS⟩ := hV.body hlt
        obtain rfl : Value.slice B1 m1 d1 = cv := Option.some.inj (hcv.symm.trans hcv')
        obtain ⟨G', hG, hcell⟩ := hV.cell hlt hcv
        injection hG with hG
        injection hG with hG
        subst hG
        by_cases hqm : q < m1
        · obtain ⟨B1', m1', d1', hsl, -, hc8⟩ := hS.form
          injection hsl with e1 e2 e3
          subst e1 e2 e3
          obtain ⟨g, u, rfl, hge, hc0, hf0⟩ := hc8 q hqm
          have hN := Lib.hid (hV.set_ hS (g := g) (k := q) rfl hge 9)
          have h9 : byt 9 = .int .u8 9 := rfl
          rw [h9] at hN
          clear hc8 h9
          go_wp2_with fail
          go_roundw
          case rel => exact ⟨q + 1, by omega, by go_num, hN.out⟩
          case measure => simp [intOf]; omega
        · have hqe : q = m1 := by omega
          clear hS
          go_wp2_with fail
          go_roundw
          case rel => exact ⟨k + 1, by omega, by go_num, hV⟩
          case measure => simp [intOf]; omega
    · have hb3 := hb1.trans (hW.below.mono hsz1)
      have hz3 := hb3.size
      have hr3 := hr1.below hW.below hsz1
      have hv3 := (hv.below hW.below (Nat.le_refl _)).more hW.below.size
      clear hW hr1 hv hb1
      go_wp2_with fail
      refine (put_new _ _ _ l a1 _ _ _ l _ (hr3.more hz3) (hr3.more hz3) (by omega)).mono ?_
      rintro e w4 ⟨v4, x4, y4, rfl, ho4, hb4⟩
      have hr4 := hr3.below hb4 hz3
      have hv4 := hv3.below hb4 (Nat.le_refl _)
      have hb04 := hb3.trans (hb4.mono hz3)
      have hS4 : Some8 w4 wr.heap.size v4 := ⟨_, ho4⟩
      obtain ⟨A4, m4, d4, rfl, hm4, -⟩ := hS4.form
      have hz34 := hb4.size
      clear ho4 hb4 hr3 hv3 hb3
      go_wp2_with fail
      go_loopw [13] (fun j w9 => ∃ q : Nat, q ≤ m4 ∧ j = .int .i64 q ∧ Below wr.heap.size w4 w9 ∧ Some8 w9 wr.heap.size (.slice A4 m4 d4)) (fun j _ => m4 - (intOf j).toNat)
      case atStart => exact ⟨0, Nat.zero_le _, rfl, Below.refl _ _, hS4⟩
      case round =>
        obtain ⟨q, hq, rfl, hb9, hS⟩ := hrel
        clear hS4
        by_cases hqm : q < m4
        · obtain ⟨B1', m1', d1', hsl, -, hc8⟩ := hS.form
          injection hsl with e1 e2 e3
          subst e1 e2 e3
          obtain ⟨g, u, rfl, hge, hc0, hf0⟩ := hc8 q hqm
          have hN := Lib.hid (hS.set_ g q 3)
          have hbN := Lib.hid (hb9.setCell (p := ⟨g, q, none⟩) hge (byt 3))
          have h9 : byt 3 = .int .u8 3 := rfl
          rw [h9] at hN hbN
          clear hc8 h9 hb9 hS
          go_wp2_with fail
          go_roundw
          case rel => exact ⟨q + 1, by omega, by go_num, hbN.out, hN.out⟩
          case measure => simp [intOf]; omega
        · have hr9 := hr4.below hb9 hz3
          have hv9 := hv4.below hb9 (Nat.le_refl _)
          have hb0 := hb04.trans (hb9.mono hz3)
          clear hS hb9 hr4 hv4 hb04
          go_wp2_with fail
          refine (same_any _ _ _ _ _ _ _ _ _ _ _ hv9 hr9).mono ?_
          rintro e w5 ⟨rfl, k5, ew5⟩
          rw [show (l == l) = true from by simp]
          have hb5 : Below w.heap.size w w5 := by rw [ew5]; exact below_drewN hb0 _
          clear ew5 hv9 hr9 hb0
          go_wp2_with fail
          refine (lives_any _).mono ?_
          rintro e w' ⟨rfl, hl⟩
          go_wp2_with fail
          go_ret
          exact ⟨rfl, hb5.trans (hl.mono hb5.size)⟩

set_option maxRecDepth 100000 in
theorem lifted (os : Os) (started : os.Started) (H : Type) (enc : TypeId × Value → H) :
    ReturnsInHanded {} Try.checked os 8 .any (Rows.frameOwnsSpec.pre6 enc Try.prog Try.f8 Rows.frameOwnsRow.domain false) (Rows.frameOwnsSpec.post enc Try.prog Try.f8 false true false false) := by
  refine returnsInHanded_of_change (C := Try.checked) own started (by kernel_rfl) Try.func8
    (ChangeSpec.witness6 (enc := enc) (C := Try.checked) false ⟨#[], #[.slice none 0 0, .int .i64 0], []⟩ 8 (by kernel_rfl) (by kernel_rfl) (by kernel_rfl) (by kernel_rfl)) ?_
  intro W base args ds gs before hval0 hW hcnd _
  have hval : ∀ (j : Nat) t v, Try.f8.params[j]? = some t → args[j]? = some v → Value.okWide Try.prog W .any base t v := hval0
  have hW' := hW
  obtain ⟨p, q, hA0, hV, rfl, hfz, hnd⟩ := hW
  have hA : DataW.TrodAll enc Try.prog W 0 (fun _ => true) true Try.f8.params.toList args.toList ds p := hA0
  rw [Try.params8] at hA hval
  obtain ⟨v0, vs0, d0, ds0, p0, q0, hargs, rfl, rfl, h0, r0⟩ := trodAll_cons hA
  obtain ⟨v1, vs1, d1, ds1, p1, q1, rfl, rfl, rfl, h1, r1⟩ := trodAll_cons r0
  obtain ⟨rfl, rfl, rfl⟩ := trodAll_nil r1
  obtain rfl : args = #[v0, v1] := by cases args; simp_all
  obtain ⟨rfl, rfl⟩ := trodVars_none hV
  obtain ⟨a0, len0, cap0, rfl⟩ := okWide_slice Try.underlying22 (hval 0 22 v0 rfl rfl)
  have k0 := h0
  have lt0 : ∀ x ∈ p0, x.block < W.heap.size := by obtain ⟨m, hm⟩ := k0; exact DataW.trod_lt m _ _ _ hm
  obtain ⟨z0, w0⟩ : ∃ zs, IsRow .u8 W a0 len0 cap0 zs := by
    obtain ⟨fuel, hf⟩ := h0
    rcases open_ints Try.underlying22 Try.underlying5 (by kernel_rfl) hf with ⟨hcs, _⟩ | ⟨x, l, c, zs, hcs, _, hl, hm, hz, _, hcell, hwz⟩
    · simp [Value.cells] at hcs
      obtain ⟨rfl, rfl, rfl⟩ := hcs
      exact ⟨[], .inl ⟨rfl, rfl, rfl, rfl⟩⟩
    · simp [Value.cells] at hcs
      obtain ⟨rfl, rfl, rfl⟩ := hcs
      exact ⟨zs, .inr ⟨_, rfl, hl, hm, by simpa using hz, hcell, hwz⟩⟩
  obtain ⟨a1, rfl, rfl, rfl, w1⟩ := open_int Try.underlying3 (hval 1 3 v1 rfl rfl) h1
  clear hA0 hval0
  refine (walk a0 len0 cap0 z0 a1 W w0 w1).mono fun e W' ⟨he, bel⟩ => ?_
  subst he
  exact ⟨_, rfl, _, _, _, [], _, [], hW', trodAll_mk1 (shut_bool Try.underlying4 _), (trodAll_cons_mk (Below.trod laidOut (by kernel_rfl) (of_decide_eq_true (by kernel_rfl)) k0 bel lt0) (trodAll_cons_mk (shut_int Try.underlying3 w1) trodAll_mk0)), rfl, bel.frame _, fun h => by cases h⟩

theorem over : Rows.frameOwnsRow.holds Try.pinned (OpenSpec.ofChange Rows.frameOwnsSpec) :=
  OpenClaim.holds_of_wide 8 Try.f8 rfl rfl rfl rfl rfl rfl rfl ⟨rfl, rfl, rfl, rfl, rfl⟩ rfl rfl rfl rfl rfl (by kernel_rfl) Try.func8 (by kernel_rfl)
    (of_decide_eq_true (by kernel_rfl)) (by unfold Func.isWrapper; first | (rw [if_pos (by decide +kernel)]; kernel_rfl) | (rw [if_neg (by decide +kernel)]; exact ⟨rfl, rfl⟩))
    (fun os started H enc _ => lifted os started H enc)

theorem proved : Rows.FrameOwnsSaid := over
end Go.Proofs.Ytpegmingmcedmaa.frameOwns
