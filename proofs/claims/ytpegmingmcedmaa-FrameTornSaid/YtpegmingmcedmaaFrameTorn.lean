/-
  Proved: whatever frames (the first 12, bodies of at most 100 bytes) are put one behind the other by frame.Put, and wherever their bytes are cut off, frame.Scan tells just the frames that are whole, the bytes that these have, and no error just at a frame's end, else api.ErrShort; the document's examples hold, and nothing that was handed in changes. No condition.
-/
import Derived.Test.YtpegmingmcedmaaRows
import Derived.Test.YtpegmingmcedmaaFrameMade
import Derived.Test.YtpegmingmcedmaaFrameSame
import Derived.Test.YtpegmingmcedmaaFrameLives
import Derived.WalkKit
import Derived.ProofKit
import Derived.OpenShut
import Derived.ShutString
import Derived.ChangeOld
import Derived.Below
namespace Go.Proofs.Ytpegmingmcedmaa.frameTorn
open Go.ChangeShapes Go.WideShapes Go.ChangeAt Go.RowKit
open Go.ChangeMaps (open_string shut_string)
set_option linter.unusedVariables false

theorem own : ownKnob Try.prog.godebug = none := by kernel_rfl
theorem laidOut : laidOutB Try.prog = true := by kernel_rfl

def IsRow (k : IntKind) (w : World) (a : Option Addr) (len cap : Nat) (zs : List Int) : Prop :=
  (a = none ∧ len = 0 ∧ cap = 0 ∧ zs = []) ∨
  ∃ x, a = some x ∧ len ≤ cap ∧ cap ≤ maxLen ∧ zs.length = cap ∧ (∀ i, i < zs.length → w.cell? (x.add i) = some (.int k (zs.getD i 0))) ∧ ∀ n ∈ zs, (Lit.int k n).wf = true

set_option maxRecDepth 100000 in
set_option maxHeartbeats 2000000 in
theorem walk (a0 : Option Addr) (len0 cap0 : Nat) (a1 : Int) (w : World) (w0 : RC Try.prog w 45 [.slice a0 len0 cap0]) (w1 : (Lit.int .i64 a1).wf = true) :
    Calls Try.prog 6 #[.slice a0 len0 cap0, .int .i64 a1] w fun e w' => e = .returned (.bool true) ∧ Below w.heap.size w w' := by
  have hn0 : len0 ≤ 9223372036854775807 := by
    rcases w0.slice Try.underlying45 with ⟨_, h, _⟩ | ⟨_, _, h1, h2, _⟩
    · omega
    · unfold maxLen at h2; omega
  obtain ⟨h0, h9⟩ := i64_of_wf w1
  go_enter Try.func6, Try.ntmps6
  go_wp2_with fail
  refine (made_any _ _ _ _ w0 hn0).mono ?_
  rintro e v1 ⟨vb, vw, ve, fs, rfl, hM, hfl⟩
  obtain ⟨hsm, hby, hwa, hen, hbe⟩ := hM
  have hz := hbe.size
  obtain ⟨A1, n1, c1, rfl, hv1, -⟩ := hby.formN
  have hcl := frCat_small hsm
  have Hl := Lib.hid hv1.len
  have hn1 : n1 ≤ 10000 := by have := Hl.out; omega
  have hcap1 := hv1.cap
  have hcm1 := hv1.capMax
  obtain ⟨A2, n2, c2, rfl, hn2, hc2, hcm2, -, -⟩ := hwa.form
  obtain rfl := hn2
  have hr2 := hwa.read fun c l h => by
    obtain ⟨A', n', c', rfl, hh⟩ := h
    exact ⟨A', n', c', rfl, (hh.below hbe (Nat.le_refl _)).more hz⟩
  obtain ⟨A4, c4, rfl, hc4, hcm4, hen4⟩ := row_one hen
  unfold maxLen at hcm2 hcm4
  have Htorn : ∀ N k : Nat, k ≤ fs.length → (frCat (fs.take k)).length ≤ N → N ≤ n1 → (k < fs.length → N < (frCat (fs.take (k + 1))).length) → frScan ((frCat fs).take N) = (fs.take k, (frCat (fs.take k)).length, if (frCat (fs.take k)).length = N then 0 else 3) :=
    fun N k h1 h2 h3 h4 => frScan_torn fs (fun f hf => (hsm f hf).may) N k h1 h2 (by rw [Hl.out]; exact h3) h4
  obtain ⟨L, hL⟩ : ∃ L : Nat → Nat, ∀ k, Hid ((frCat (fs.take k)).length = L k) := ⟨fun k => (frCat (fs.take k)).length, fun k => Lib.hid rfl⟩
  have hL0 : L 0 = 0 := by rw [← (hL 0).out]; simp [frCat]
  have hLn : ∀ k, L k ≤ 10000 := fun k => by
    rw [← (hL k).out]
    have h1 := frCat_small (fs := fs.take k) (fun f hf => hsm f (List.mem_of_mem_take hf))
    have h2 : (fs.take k).length ≤ 12 := by rw [List.length_take]; omega
    omega
  have hend : ∀ j, j < fs.length → ∃ b, A4 = some ⟨b, 0, none⟩ ∧ b < v1.heap.size ∧ v1.cell? ⟨b, j, none⟩ = some (.int .i64 (L (j + 1) : Int)) := fun j hj => by
    obtain ⟨b, h1, h2, h3⟩ := hen4 j hj
    exact ⟨b, h1, h2, by rw [h3, frEnds_get fs j hj, (hL (j + 1)).out]⟩
  simp only [fun k => (hL k).out] at Htorn
  have HT := Lib.hid Htorn
  clear hby hcl hwa hsm hen hen4 Htorn
  have hcutN : ∃ N : Nat, N ≤ n1 ∧ ((a1 < 0 ∧ (a1 + 1).tmod ((n1 : Int) + 1) = -(N : Int)) ∨ (0 ≤ a1 ∧ a1.tmod ((n1 : Int) + 1) = (N : Int))) := by
    by_cases hneg : a1 < 0
    · have e : (a1 + 1).tmod ((n1 : Int) + 1) = -((-(a1 + 1)) % ((n1 : Int) + 1)) := by
        rw [show (-(a1 + 1)) % ((n1 : Int) + 1) = (-(a1 + 1)).tmod ((n1 : Int) + 1) from (Int.tmod_eq_emod_of_nonneg (by omega)).symm, Int.neg_tmod, Int.neg_neg]
      have h1 := Int.emod_nonneg (-(a1 + 1)) (show ((n1 : Int) + 1) ≠ 0 by omega)
      have h2 := Int.emod_lt_of_pos (-(a1 + 1)) (show 0 < ((n1 : Int) + 1) by omega)
      exact ⟨((-(a1 + 1)) % ((n1 : Int) + 1)).toNat, by omega, .inl ⟨hneg, by rw [e]; omega⟩⟩
    · have h1 := Int.emod_nonneg a1 (show ((n1 : Int) + 1) ≠ 0 by omega)
      have h2 := Int.emod_lt_of_pos a1 (show 0 < ((n1 : Int) + 1) by omega)
      exact ⟨(a1 % ((n1 : Int) + 1)).toNat, by omega, .inr ⟨by omega, by rw [Int.tmod_eq_emod_of_nonneg (by omega)]; omega⟩⟩
  obtain ⟨N, hN, hcut⟩ := hcutN
  have hT := hv1.take_ N hN
  obtain ⟨gs, p, y, hs⟩ : ∃ gs p y, Hid (frScan ((frCat fs).take N) = (gs, p, y)) := ⟨_, _, _, Lib.hid rfl⟩
  have hb1 : (N : Int) ≤ (c1 : Int) := by omega
  have hb2 : (N : Int) ≤ (n1 : Int) := by omega
  clear hv1
  rcases hcut with ⟨hneg, he⟩ | ⟨hneg, he⟩
  all_goals
    go_wp2_with fail
    refine (scan_is _ _ _ _ _ hT (by omega) hs.out).mono ?_
    rintro e s1 ⟨⟨v, rfl, ho1⟩, hbs⟩
    have hb6 := hbe.trans (hbs.mono hz)
    have hz6 := hb6.size
    obtain ⟨A3, n3, c3, rfl, -, -⟩ := FrRow.form ho1
    have hr3 := FrOwn.read ho1
    have hr2' := hr2.below hbs
    have hend' : ∀ j, j < fs.length → ∃ b, A4 = some ⟨b, 0, none⟩ ∧ s1.cell? ⟨b, j, none⟩ = some (.int .i64 (L (j + 1) : Int)) := fun j hj => by
      obtain ⟨b, h1, h2, h3⟩ := hend j hj
      exact ⟨b, h1, (hbs.cell (p := ⟨b, j, none⟩) h2).trans h3⟩
    clear hbs ho1 hr2 hbe hend hT
    go_wp2_with fail
    clear he hneg h0 h9
    go_loop [11, 12] (fun k a => ∃ j : Nat, j ≤ fs.length ∧ k = .int .i64 j ∧ a = .int .i64 (L j : Int) ∧ Hid (L j ≤ N)) (fun k _ => fs.length - (intOf k).toNat)
    case atStart => exact ⟨0, Nat.zero_le _, rfl, by rw [hL0]; rfl, by rw [hL0]; exact Nat.zero_le _⟩
    case round =>
      obtain ⟨j, hj, rfl, rfl, hLj⟩ := hrel
      have i0 : (0 : Int) ≤ (j : Int) := by omega
      have i1 : (j : Int) < 9223372036854775807 := by omega
      have hfin : ∀ (hstop : j < fs.length → N < L (j + 1)), Hid ((gs, p, y) = (fs.take j, L j, if L j = N then 0 else 3)) := fun hstop => Lib.hid (by
        rw [← hs.out]; exact HT.out N j hj hLj.out hN hstop)
      by_cases hlt : j < fs.length
      · obtain ⟨b, rfl, hc⟩ := hend' j hlt
        have i2 : (j : Int) < (fs.length : Int) := by omega
        have hL1 := hLn (j + 1)
        by_cases hle : L (j + 1) ≤ N
        · have hF : Hid (L (j + 1) ≤ N) := Lib.hid hle
          have hle' : (L (j + 1) : Int) ≤ (N : Int) := by omega
          obtain ⟨L1, hL1e⟩ : ∃ L1, Hid (L (j + 1) = L1) := ⟨_, Lib.hid rfl⟩
          rw [hL1e.out] at hle' hc hL1
          go_wp2_with fail
          go_round
          case rel => exact ⟨j + 1, by omega, by go_num, by rw [hL1e.out], hF⟩
          case measure => simp [intOf]; omega
        · have hfin := hfin (fun _ => by omega)
          have hle' : ¬ (L (j + 1) : Int) ≤ (N : Int) := by omega
          have hlj := hLj.out
          have he := hfin.out
          simp only [Prod.mk.injEq] at he
          obtain ⟨rfl, rfl, hy⟩ := he
          have hrT := hr2'.take_ j hj
          obtain ⟨M, hM⟩ : ∃ M, Hid (L j = M) := ⟨_, Lib.hid rfl⟩
          rw [hM.out] at hy hlj
          obtain ⟨L1, hL1e⟩ : ∃ L1, Hid (L (j + 1) = L1) := ⟨_, Lib.hid rfl⟩
          rw [hL1e.out] at hle' hc hL1
          simp only [hM.out] at *
          have hj0 : (j : Int) ≤ (fs.length : Int) := by omega
          have hj1 : (j : Int) ≤ (c2 : Int) := by omega
          clear hfin hle hr2'
          by_cases hMN : M = N
          case' pos => subst hMN
          case' pos => rw [if_pos rfl] at hy
          case' pos => have hq1 : True := trivial
          case' neg => rw [if_neg hMN] at hy
          case' neg => have hq1 : ((M : Int) == (N : Int)) = false := by simp; omega
          all_goals
            subst hy
            have hpp : ((M : Int) == (M : Int)) = true := by simp
            go_wp2_with fail
            refine (frSame_any _ _ _ _ _ _ _ _ _ hr3 hrT).mono ?_
            rintro e wz ⟨rfl, q, ewz⟩
            rw [show decide (fs.take j = fs.take j) = true from by simp]
            have hb8 : Below w.heap.size w wz := by rw [ewz]; exact below_drewN hb6 q
            clear ewz hr3 hrT hb6
            go_wp2_with fail
            refine (lives_any _).mono ?_
            rintro e w' ⟨rfl, hl⟩
            go_wp2_with fail
            go_ret
            exact ⟨rfl, hb8.trans (hl.mono hb8.size)⟩
      · have hfin := hfin (fun h => absurd h hlt)
        have hlj := hLj.out
        have he := hfin.out
        simp only [Prod.mk.injEq] at he
        obtain ⟨rfl, rfl, hy⟩ := he
        have hrT := hr2'.take_ j hj
        obtain ⟨M, hM⟩ : ∃ M, Hid (L j = M) := ⟨_, Lib.hid rfl⟩
        rw [hM.out] at hy hlj
        simp only [hM.out] at *
        have hj0 : (j : Int) ≤ (fs.length : Int) := by omega
        have hj1 : (j : Int) ≤ (c2 : Int) := by omega
        have hj2 : ¬ (j : Int) < (fs.length : Int) := by omega
        clear hfin hlt hr2'
        by_cases hMN : M = N
        case' pos => subst hMN
        case' pos => rw [if_pos rfl] at hy
        case' pos => have hq1 : True := trivial
        case' neg => rw [if_neg hMN] at hy
        case' neg => have hq1 : ((M : Int) == (N : Int)) = false := by simp; omega
        all_goals
          subst hy
          have hpp : ((M : Int) == (M : Int)) = true := by simp
          go_wp2_with fail
          refine (frSame_any _ _ _ _ _ _ _ _ _ hr3 hrT).mono ?_
          rintro e wz ⟨rfl, q, ewz⟩
          rw [show decide (fs.take j = fs.take j) = true from by simp]
          have hb8 : Below w.heap.size w wz := by rw [ewz]; exact below_drewN hb6 q
          clear ewz hr3 hrT hb6
          go_wp2_with fail
          refine (lives_any _).mono ?_
          rintro e w' ⟨rfl, hl⟩
          go_wp2_with fail
          go_ret
          exact ⟨rfl, hb8.trans (hl.mono hb8.size)⟩

set_option maxRecDepth 100000 in
theorem lifted (os : Os) (started : os.Started) (H : Type) (enc : TypeId × Value → H) :
    ReturnsInHanded {} Try.checked os 6 .any (Rows.frameTornSpec.pre6 enc Try.prog Try.f6 Rows.frameTornRow.domain false) (Rows.frameTornSpec.post enc Try.prog Try.f6 false true false false) := by
  refine returnsInHanded_of_change (C := Try.checked) own started (by kernel_rfl) Try.func6
    (ChangeSpec.witness6 (enc := enc) (C := Try.checked) false ⟨#[], #[.slice none 0 0, .int .i64 0], []⟩ 8 (by kernel_rfl) (by kernel_rfl) (by kernel_rfl) (by kernel_rfl)) ?_
  intro W base args ds gs before hval0 hW hcnd _
  have hval : ∀ (j : Nat) t v, Try.f6.params[j]? = some t → args[j]? = some v → Value.okWide Try.prog W .any base t v := hval0
  have hW' := hW
  obtain ⟨p, q, hA0, hV, rfl, hfz, hnd⟩ := hW
  have hA : DataW.TrodAll enc Try.prog W 0 (fun _ => true) true Try.f6.params.toList args.toList ds p := hA0
  rw [Try.params6] at hA hval
  obtain ⟨v0, vs0, d0, ds0, p0, q0, hargs, rfl, rfl, h0, r0⟩ := trodAll_cons hA
  obtain ⟨v1, vs1, d1, ds1, p1, q1, rfl, rfl, rfl, h1, r1⟩ := trodAll_cons r0
  obtain ⟨rfl, rfl, rfl⟩ := trodAll_nil r1
  obtain rfl : args = #[v0, v1] := by cases args; simp_all
  obtain ⟨rfl, rfl⟩ := trodVars_none hV
  obtain ⟨a0, len0, cap0, rfl⟩ := okWide_slice Try.underlying45 (hval 0 45 v0 rfl rfl)
  have k0 := h0
  have lt0 : ∀ x ∈ p0, x.block < W.heap.size := by obtain ⟨m, hm⟩ := k0; exact DataW.trod_lt m _ _ _ hm
  have w0 : RC Try.prog W 45 [.slice a0 len0 cap0] := by
    obtain ⟨fuel, hf⟩ := h0
    exact ⟨_, _, _, _, _, fuel, _, hf⟩
  obtain ⟨a1, rfl, rfl, rfl, w1⟩ := open_int Try.underlying3 (hval 1 3 v1 rfl rfl) h1
  clear hA0 hval0
  refine (walk a0 len0 cap0 a1 W w0 w1).mono fun e W' ⟨he, bel⟩ => ?_
  subst he
  exact ⟨_, rfl, _, _, _, [], _, [], hW', trodAll_mk1 (shut_bool Try.underlying4 _), (trodAll_cons_mk (Below.trod laidOut (by kernel_rfl) (of_decide_eq_true (by kernel_rfl)) k0 bel lt0) (trodAll_cons_mk (shut_int Try.underlying3 w1) trodAll_mk0)), rfl, bel.frame _, fun h => by cases h⟩

theorem over : Rows.frameTornRow.holds Try.pinned (OpenSpec.ofChange Rows.frameTornSpec) :=
  OpenClaim.holds_of_wide 6 Try.f6 rfl rfl rfl rfl rfl rfl rfl ⟨rfl, rfl, rfl, rfl, rfl⟩ rfl rfl rfl rfl rfl (by kernel_rfl) Try.func6 (by kernel_rfl)
    (of_decide_eq_true (by kernel_rfl)) (by unfold Func.isWrapper; first | (rw [if_pos (by decide +kernel)]; kernel_rfl) | (rw [if_neg (by decide +kernel)]; exact ⟨rfl, rfl⟩))
    (fun os started H enc _ => lifted os started H enc)

theorem proved : Rows.FrameTornSaid := over
end Go.Proofs.Ytpegmingmcedmaa.frameTorn
