/-
  Proved: dictionaries (of 1 to 3 levels, whatever number is handed in, and any lists of texts, the first 60, put into them) answer Add, Code, Path, Up, Len and Put just what the document's definitions say, call by call, of these and of any other lists of texts (the first 30); none is made of 0 or 4 levels; the document's examples hold, and nothing that was handed in is changed. No condition.
-/
import Derived.Test.YtccdjjpkcahgfaaRows
import Derived.Test.YtccdjjpkcahgfaaDictH
import Derived.WalkKit
import Derived.ProofKit
import Derived.OpenShut
import Derived.ShutString
import Derived.ChangeOld
import Derived.Below
namespace Go.Proofs.Ytccdjjpkcahgfaa.dictPlays
open Go.ChangeShapes Go.WideShapes Go.ChangeAt Go.RowKit
open Go.ChangeMaps (open_string shut_string)
set_option linter.unusedVariables false

theorem own : ownKnob Try.prog.godebug = none := by kernel_rfl
theorem laidOut : laidOutB Try.prog = true := by kernel_rfl

def IsRow (k : IntKind) (w : World) (a : Option Addr) (len cap : Nat) (zs : List Int) : Prop :=
  (a = none ∧ len = 0 ∧ cap = 0 ∧ zs = []) ∨
  ∃ x, a = some x ∧ len ≤ cap ∧ cap ≤ maxLen ∧ zs.length = cap ∧ (∀ i, i < zs.length → w.cell? (x.add i) = some (.int k (zs.getD i 0))) ∧ ∀ n ∈ zs, (Lit.int k n).wf = true

set_option maxRecDepth 100000 in
set_option maxHeartbeats 2000000 in
theorem walk (a0 : Int) (a1 : Option Addr) (len1 cap1 : Nat) (a2 : Option Addr) (len2 cap2 : Nat) (w : World) (w0 : (Lit.int .i64 a0).wf = true) (w1 : RC Try.prog w 22 [.slice a1 len1 cap1]) (w2 : RC Try.prog w 22 [.slice a2 len2 cap2]) :
    Calls Try.prog 3 #[.int .i64 a0, .slice a1 len1 cap1, .slice a2 len2 cap2] w fun e w' => e = .returned (.bool true) ∧ Below w.heap.size w w' := by
  obtain ⟨L, hL⟩ := w1.textss Try.underlying22 Try.underlying30 Try.underlying9 (by kernel_rfl) (by kernel_rfl)
  obtain ⟨M, hM⟩ := w2.textss Try.underlying22 Try.underlying30 Try.underlying9 (by kernel_rfl) (by kernel_rfl)
  clear w1 w2
  obtain ⟨l1, l2⟩ := i64_of_wf w0
  have hcap2 := hM.cap
  have hcm2 : cap2 ≤ 9223372036854775807 := by have := hM.fit; unfold maxLen at this; omega
  have HM := Lib.hid hM
  clear hM w0
  go_enter Try.func3, Try.ntmps3
  go_wp2_with fail
  refine (both_any a0 l1 l2 hL).mono ?_
  rintro e w1 ⟨⟨g, bm, r, n, pv, Lv, Q, rfl, hT⟩, hB1⟩
  have HT := Lib.hid hT
  have hs1 := hB1.size
  clear hT hL l1 l2
  go_wp2_with fail
  go_loopw [10] (fun i wr => ∃ k : Nat, k ≤ len2 ∧ i = .int .i64 k ∧ Below w1.heap.size w1 wr) (fun i _ => len2 - (intOf i).toNat)
  case atStart => exact ⟨0, Nat.zero_le _, rfl, Below.refl _ _⟩
  case round =>
    obtain ⟨k, hk, rfl, hB⟩ := hrel
    have hBw := hB1.trans (hB.mono hs1)
    have hT := HT.out.below hB
    by_cases hlt : k < len2 ∧ k < 30
    · obtain ⟨q, hq⟩ : ∃ q, Hid (M[k]? = some q) := ⟨_, Lib.hid (List.getElem?_eq_getElem (by rw [HM.out.len]; exact hlt.1))⟩
      obtain ⟨b, o, A', m', c', rfl, hb, hc, hP⟩ := (HM.out.below hBw).has k q hq.out
      obtain ⟨x, hx⟩ : ∃ x, Hid (codeA Q q = x) := ⟨_, Lib.hid rfl⟩
      obtain ⟨x1, x2⟩ := x
      have hcd := code_any hT.d hP hx
      have hx11 : ((x1 : Int) != (x1 : Int)) = false := by simp
      have hx22 : ((x2 : Int) != (x2 : Int)) = false := by simp
      have hk0 : (0 : Int) ≤ (k : Int) := by omega
      have hk1 : (k : Int) < (len2 : Int) := by omega
      have hk2 : (k : Int) < 30 := by omega
      have HP := Lib.hid hP
      have Hb := Lib.hid hb
      have Hc := Lib.hid hc
      have H := Lib.hid hT
      clear hT hP hBw hb
      go_wp2_with fail
      refine hcd.mono ?_
      rintro e w2 ⟨rfl, hB2⟩
      have hc2 := (hB2.cell (p := ⟨b, o + k, none⟩) Hb.out).trans Hc.out
      have hrc := refCode_any (H.out.below hB2).f (HP.out.belowS hB2) hx
      have hB3 := hB.trans (hB2.mono hB.size)
      clear hcd hc hB hB2
      go_wp2_with fail
      refine hrc.mono ?_
      rintro e w3 ⟨rfl, j, rfl⟩
      have hB4 := below_drewN hB3 j
      clear hrc hc2 hB3
      go_wp2_with fail
      go_roundw
      case rel => exact ⟨k + 1, by omega, by go_num, hB4⟩
      case measure => simp [intOf]; omega
    · have hn0 := fun W => new_no W (n := 0) (by omega)
      have hn4 := fun W => new_no W (n := 4) (by omega)
      have hlk := like_any hT.d hT.f
      by_cases hkm : k < len2
      · have h1 : (k : Int) < (len2 : Int) := by omega
        have h2 : ¬ (k : Int) < 30 := by omega
        clear hlt hT
        go_wp2_with fail
        refine hlk.mono ?_
        rintro e w2 ⟨rfl, hB2⟩
        have hB3 := hBw.trans (hB2.mono hBw.size)
        clear hB2 hBw hlk
        go_wp2_with fail
        refine (hn0 _).mono ?_
        rintro e w2' ⟨rfl, rfl⟩
        go_wp2_with fail
        refine (hn4 _).mono ?_
        rintro e w2' ⟨rfl, rfl⟩
        go_wp2_with fail
        refine (dictLives_any _).mono ?_
        rintro e w4 ⟨rfl, hB4⟩
        go_wp2_with fail
        go_ret
        exact ⟨rfl, hB3.trans (hB4.mono hB3.size)⟩
      · have h1 : ¬ (k : Int) < (len2 : Int) := by omega
        clear hlt hT
        go_wp2_with fail
        refine hlk.mono ?_
        rintro e w2 ⟨rfl, hB2⟩
        have hB3 := hBw.trans (hB2.mono hBw.size)
        clear hB2 hBw hlk
        go_wp2_with fail
        refine (hn0 _).mono ?_
        rintro e w2' ⟨rfl, rfl⟩
        go_wp2_with fail
        refine (hn4 _).mono ?_
        rintro e w2' ⟨rfl, rfl⟩
        go_wp2_with fail
        refine (dictLives_any _).mono ?_
        rintro e w4 ⟨rfl, hB4⟩
        go_wp2_with fail
        go_ret
        exact ⟨rfl, hB3.trans (hB4.mono hB3.size)⟩

set_option maxRecDepth 100000 in
theorem lifted (os : Os) (started : os.Started) (H : Type) (enc : TypeId × Value → H) :
    ReturnsInHanded {} Try.checked os 3 .any (Rows.dictPlaysSpec.pre6 enc Try.prog Try.f3 Rows.dictPlaysRow.domain false) (Rows.dictPlaysSpec.post enc Try.prog Try.f3 false true false false) := by
  refine returnsInHanded_of_change (C := Try.checked) own started (by kernel_rfl) Try.func3
    (ChangeSpec.witness6 (enc := enc) (C := Try.checked) false ⟨#[], #[.int .i64 0, .slice none 0 0, .slice none 0 0], []⟩ 8 (by kernel_rfl) (by kernel_rfl) (by kernel_rfl) (by kernel_rfl)) ?_
  intro W base args ds gs before hval0 hW hcnd _
  have hval : ∀ (j : Nat) t v, Try.f3.params[j]? = some t → args[j]? = some v → Value.okWide Try.prog W .any base t v := hval0
  have hW' := hW
  obtain ⟨p, q, hA0, hV, rfl, hfz, hnd⟩ := hW
  have hA : DataW.TrodAll enc Try.prog W 0 (fun _ => true) true Try.f3.params.toList args.toList ds p := hA0
  rw [Try.params3] at hA hval
  obtain ⟨v0, vs0, d0, ds0, p0, q0, hargs, rfl, rfl, h0, r0⟩ := trodAll_cons hA
  obtain ⟨v1, vs1, d1, ds1, p1, q1, rfl, rfl, rfl, h1, r1⟩ := trodAll_cons r0
  obtain ⟨v2, vs2, d2, ds2, p2, q2, rfl, rfl, rfl, h2, r2⟩ := trodAll_cons r1
  obtain ⟨rfl, rfl, rfl⟩ := trodAll_nil r2
  obtain rfl : args = #[v0, v1, v2] := by cases args; simp_all
  obtain ⟨rfl, rfl⟩ := trodVars_none hV
  obtain ⟨a0, rfl, rfl, rfl, w0⟩ := open_int Try.underlying3 (hval 0 3 v0 rfl rfl) h0
  obtain ⟨a1, len1, cap1, rfl⟩ := okWide_slice Try.underlying22 (hval 1 22 v1 rfl rfl)
  have k1 := h1
  have lt1 : ∀ x ∈ p1, x.block < W.heap.size := by obtain ⟨m, hm⟩ := k1; exact DataW.trod_lt m _ _ _ hm
  have w1 : RC Try.prog W 22 [.slice a1 len1 cap1] := by
    obtain ⟨fuel, hf⟩ := h1
    exact ⟨_, _, _, _, _, fuel, _, hf⟩
  obtain ⟨a2, len2, cap2, rfl⟩ := okWide_slice Try.underlying22 (hval 2 22 v2 rfl rfl)
  have k2 := h2
  have lt2 : ∀ x ∈ p2, x.block < W.heap.size := by obtain ⟨m, hm⟩ := k2; exact DataW.trod_lt m _ _ _ hm
  have w2 : RC Try.prog W 22 [.slice a2 len2 cap2] := by
    obtain ⟨fuel, hf⟩ := h2
    exact ⟨_, _, _, _, _, fuel, _, hf⟩
  clear hA0 hval0
  refine (walk a0 a1 len1 cap1 a2 len2 cap2 W w0 w1 w2).mono fun e W' ⟨he, bel⟩ => ?_
  subst he
  exact ⟨_, rfl, _, _, _, [], _, [], hW', trodAll_mk1 (shut_bool Try.underlying4 _), (trodAll_cons_mk (shut_int Try.underlying3 w0) (trodAll_cons_mk (Below.trod laidOut (by kernel_rfl) (of_decide_eq_true (by kernel_rfl)) k1 bel lt1) (trodAll_cons_mk (Below.trod laidOut (by kernel_rfl) (of_decide_eq_true (by kernel_rfl)) k2 bel lt2) trodAll_mk0))), rfl, bel.frame _, fun h => by cases h⟩

theorem over : Rows.dictPlaysRow.holds Try.pinned (OpenSpec.ofChange Rows.dictPlaysSpec) :=
  OpenClaim.holds_of_wide 3 Try.f3 rfl rfl rfl rfl rfl rfl rfl ⟨rfl, rfl, rfl, rfl, rfl⟩ rfl rfl rfl rfl rfl (by kernel_rfl) Try.func3 (by kernel_rfl)
    (of_decide_eq_true (by kernel_rfl)) (by unfold Func.isWrapper; first | (rw [if_pos (by decide +kernel)]; kernel_rfl) | (rw [if_neg (by decide +kernel)]; exact ⟨rfl, rfl⟩))
    (fun os started H enc _ => lifted os started H enc)

theorem proved : Rows.DictPlaysSaid := over
end Go.Proofs.Ytccdjjpkcahgfaa.dictPlays
