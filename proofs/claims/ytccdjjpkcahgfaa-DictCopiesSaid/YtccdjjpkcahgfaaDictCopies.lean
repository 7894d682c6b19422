/-
  Proved: a copy of a dictionary (of 1 to 3 levels, of any lists of texts, the first 60 put in) and the dictionary know nothing of each other: whatever lists of texts (the first 40) are put into the copy, and though all lists that were handed to it, and all that it and the dictionary told, are written over, the dictionary tells just what the document says; the document's examples hold, and nothing that was handed in to the statement is changed. No condition.
-/
import Derived.Test.YtccdjjpkcahgfaaRows
import Derived.Test.YtccdjjpkcahgfaaDictZ
import Derived.Test.YtccdjjpkcahgfaaSized
import Derived.Test.YtccdjjpkcahgfaaSizedT
import Derived.WalkKit
import Derived.ProofKit
import Derived.OpenShut
import Derived.ShutString
import Derived.ChangeOld
import Derived.Below
namespace Go.Proofs.Ytccdjjpkcahgfaa.dictCopies
open Go.ChangeShapes Go.WideShapes Go.ChangeAt Go.RowKit
open Go.ChangeMaps (open_string shut_string)
set_option linter.unusedVariables false

theorem own : ownKnob Try.prog.godebug = none := by kernel_rfl
theorem laidOut : laidOutB Try.prog = true := by kernel_rfl

def IsRow (k : IntKind) (w : World) (a : Option Addr) (len cap : Nat) (zs : List Int) : Prop :=
  (a = none ∧ len = 0 ∧ cap = 0 ∧ zs = []) ∨
  ∃ x, a = some x ∧ len ≤ cap ∧ cap ≤ maxLen ∧ zs.length = cap ∧ (∀ i, i < zs.length → w.cell? (x.add i) = some (.int k (zs.getD i 0))) ∧ ∀ n ∈ zs, (Lit.int k n).wf = true

set_option maxRecDepth 100000 in
set_option maxHeartbeats 2000000 in
theorem walk (a0 : Int) (a1 : Option Addr) (len1 cap1 : Nat) (a2 : Option Addr) (len2 cap2 : Nat) (w : World) (w0 : (Lit.int .i64 a0).wf = true) (w1 : RZ Try.prog w 22 [.slice a1 len1 cap1]) (w2 : RZ Try.prog w 22 [.slice a2 len2 cap2]) :
    Calls Try.prog 7 #[.int .i64 a0, .slice a1 len1 cap1, .slice a2 len2 cap2] w fun e w' => e = .returned (.bool true) ∧ Below w.heap.size w w' := by
  obtain ⟨L, hL⟩ := w1.rc.textss Try.underlying22 Try.underlying30 Try.underlying9 (by kernel_rfl) (by kernel_rfl)
  obtain ⟨M, hM, hMz⟩ := w2.textss Try.underlying22 Try.underlying30 Try.underlying9 (by kernel_rfl) (by kernel_rfl) (by kernel_rfl)
  clear w1 w2
  obtain ⟨l1, l2⟩ := i64_of_wf w0
  have hcap2 := hM.cap
  have hcm2 : cap2 ≤ 9223372036854775807 := by have := hM.fit; unfold maxLen at this; omega
  have HM := Lib.hid hM
  have HZ := Lib.hid hMz
  clear hM w0 hMz
  go_enter Try.func7, Try.ntmps7
  go_wp2_with fail
  refine (both_any a0 l1 l2 hL).mono ?_
  rintro e w1 ⟨⟨g, bm, r, n, pv, Lv, Q, rfl, hT⟩, hB1⟩
  have HT := Lib.hid hT
  have hs1 := hB1.size
  have hcp := copy_any hT.d
  clear hT hL l1 l2
  go_wp2_with fail
  refine hcp.mono ?_
  rintro e w2 ⟨g', pvc, bmc, rfl, hC, hB2⟩
  clear hcp
  go_wp2_with fail
  go_loopw [11] (fun i wr => ∃ (k : Nat) (pvc : Value) (Qc : List Pth), k ≤ len2 ∧ i = .int .i64 k ∧ Dc wr w1.heap.size g' pvc bmc n Qc ∧ Below w1.heap.size w1 wr) (fun i _ => len2 - (intOf i).toNat)
  case atStart => exact ⟨0, pvc, Q, Nat.zero_le _, rfl, hC, hB2⟩
  case round =>
    clear hC hB2
    obtain ⟨k, pvc, Qc, hk, rfl, hC, hB⟩ := hrel
    have hBw := hB1.trans (hB.mono hs1)
    by_cases hlt : k < len2 ∧ k < 40
    · obtain ⟨q, hq⟩ : ∃ q, Hid (M[k]? = some q) := ⟨_, Lib.hid (List.getElem?_eq_getElem (by rw [HM.out.len]; exact hlt.1))⟩
      obtain ⟨b, o, A', m', c', rfl, hb, hc, hP⟩ := (HM.out.below hBw).has k q hq.out
      have hz := HZ.out q (List.mem_of_getElem? hq.out)
      rw [hP.len] at hz
      have hk0 : (0 : Int) ≤ (k : Int) := by omega
      have hk1 : (k : Int) < (len2 : Int) := by omega
      have hk2 : (k : Int) < 40 := by omega
      have hs := hB.size
      have Hbz := Lib.hid (show (([] : List Txt).length + m') * 16 ≤ 140737488355328 by simp; omega)
      clear hBw hz
      go_wp2_with (at_builtin; refine wpList_appTs rfl _ _ rfl wr.heap.size _ [] rfl (OwnT.nil_ _ _) _ A' m' c' _ rfl hP Hbz.out (Nat.le_refl _) ?_)
      intro v3 w3 hO3 hG3
      have hb3 : Below wr.heap.size wr w3 := ⟨hG3.1.os, hG3.1.tape, hG3.1.output, hG3.1.size, fun k hk => hG3.1.block k hk (by simp [Value.ownBlock])⟩
      have hB3 := hB.trans (hb3.mono hs)
      have hC3 := hC.below hb3
      have hO3' : OwnT w3 wr.heap.size v3 q := by simpa using hO3
      have hfr := hC3.foot_row hO3' (by decide) (by decide)
      obtain ⟨A3, n3, c3, rfl, hT3, _⟩ := hO3'.formN
      have hadd := add_any hC3 hT3 (fun _ ad had => hfr _ (by rw [had]; rfl))
      have hcap3 := hT3.cap
      have hcm3 := hT3.capMax
      have hs3 := hB3.size
      have HC3 := Lib.hid hC3
      have HO3 := Lib.hid hO3'
      clear hO3 hG3 hP hT3 hC3 hO3' hC hb3 hB
      go_wp2_with fail
      refine hadd.mono ?_
      rintro e w4 ⟨va, pv4, rfl, hTa, hC4, hch4, _⟩
      have hB4 := hB3.trans (hch4.below hs3 (fun k hk => (HC3.out.foot_base hk).1))
      have hO4 : OwnT w4 wr.heap.size (.slice A3 n3 c3) q := hch4.row HO3.out hfr
      obtain ⟨Aa, ma, ca, rfl, hIa, _⟩ := hTa.read
      have hcapa := hIa.cap
      have hcma := hIa.capMax
      have hTa4 : TellI w4 w1.heap.size (.slice Aa ma ca) (addC n Qc q) := by
        rcases hTa with h | ⟨g1, c1, x1, e1, h1⟩
        · exact .inl h
        · exact .inr ⟨g1, c1, x1, e1, h1.low hs3⟩
      clear hadd hTa hIa hch4 hfr hB3
      go_wp2_with fail
      go_loopw [15] (fun i wx => ∃ (j : Nat) (l : List Txt), j ≤ n3 ∧ i = .int .i64 j ∧ OwnT wx wr.heap.size (.slice A3 n3 c3) l ∧ Dc wx w1.heap.size g' pv4 bmc n (addQ n Qc q) ∧ TellI wx w1.heap.size (.slice Aa ma ca) (addC n Qc q) ∧ Below w1.heap.size w1 wx) (fun i _ => n3 - (intOf i).toNat)
      case atStart => exact ⟨0, q, Nat.zero_le _, rfl, hO4, hC4, hTa4, hB4⟩
      case round =>
        clear hO4 hC4 hTa4 hB4
        obtain ⟨j, l, hj, rfl, hO, hCx, hTx, hBx⟩ := hrel
        by_cases hjl : j < n3
        · obtain ⟨b5, o5, x5, rfl, hc5, hf5, hO5, hb5, cs5, fr5, hh5⟩ := hO.store hjl [122, 122]
          have hC5 := Lib.hid (hCx.set_far (i := o5 + j) (u := strV [122, 122]) hh5 (by decide) (by decide))
          have hT5 := Lib.hid (hTx.set_far (i := o5 + j) (u := strV [122, 122]) hh5)
          have hB5 := Lib.hid (Below.set_above hBx (i := o5 + j) (Nat.le_trans hs hb5) (strV [122, 122]))
          have HO5 := Lib.hid hO5
          have hj0 : (0 : Int) ≤ (j : Int) := by omega
          have hj1 : (j : Int) < (n3 : Int) := by omega
          clear hO hCx hTx hBx hO5 hh5
          go_wp2_with fail
          go_roundw
          case rel => exact ⟨j + 1, _, by omega, by go_num, HO5.out, hC5.out, hT5.out, hB5.out⟩
          case measure => simp [intOf]; omega
        · clear hO
          go_wp2_with fail
          go_loopw [16] (fun i wy => ∃ (j : Nat) (l : List Int), j ≤ ma ∧ i = .int .i64 j ∧ Dc wy w1.heap.size g' pv4 bmc n (addQ n Qc q) ∧ TellI wy w1.heap.size (.slice Aa ma ca) l ∧ Below w1.heap.size w1 wy) (fun i _ => ma - (intOf i).toNat)
          case atStart => exact ⟨0, _, Nat.zero_le _, rfl, hCx, hTx, hBx⟩
          case round =>
            clear hCx hTx hBx
            obtain ⟨t, l, ht, rfl, hCy, hTy, hBy⟩ := hrel
            by_cases htl : t < ma
            · obtain ⟨b6, o6, x6, rfl, hc6, hf6, hT6, hb6, cs6, fr6, hh6⟩ := hTy.store htl 99
              have hC6 := Lib.hid (hCy.set_far (i := o6 + t) (u := .int .i64 99) hh6 (by decide) (by decide))
              have hB6 := Lib.hid (Below.set_above hBy (i := o6 + t) hb6 (.int .i64 99))
              have HT6 := Lib.hid hT6
              have ht0 : (0 : Int) ≤ (t : Int) := by omega
              have ht1 : (t : Int) < (ma : Int) := by omega
              clear hCy hTy hBy hT6 hh6
              go_wp2_with fail
              go_roundw
              case rel => exact ⟨t + 1, _, by omega, by go_num, hC6.out, HT6.out, hB6.out⟩
              case measure => simp [intOf]; omega
            · clear hTy
              go_wp2_with fail
              go_roundw
              case rel => exact ⟨k + 1, pv4, _, by omega, by go_num, hCy, hBy⟩
              case measure => simp [intOf]; omega
    · have hT := HT.out.below hB
      have hln := len_any hT.d
      obtain ⟨q, hq⟩ : ∃ q, Hid (pth Q Q.length = q) := ⟨_, Lib.hid rfl⟩
      have hpt := path_any hT.d Q.length (Nat.le_refl _) hq
      have HTr := Lib.hid hT
      clear hC hT
      by_cases hkm : k < len2
      case' pos => have h1 : (k : Int) < (len2 : Int) := by omega
      case' pos => have h2 : ¬ (k : Int) < 40 := by omega
      case' neg => have h1 : ¬ (k : Int) < (len2 : Int) := by omega
      all_goals
        clear hlt
        go_wp2_with fail
        refine hln.mono ?_
        rintro e w3' ⟨rfl, rfl⟩
        go_wp2_with fail
        refine hpt.mono ?_
        rintro e w3 ⟨v3, rfl, hO3, hB3⟩
        obtain ⟨A3, n3, c3, rfl, hT3, _⟩ := hO3.formN
        have hcap3 := hT3.cap
        have hcm3 := hT3.capMax
        clear hln hpt hT3 hB
        go_wp2_with fail
        go_loopw [19] (fun i wx => ∃ (j : Nat) (l : List Txt), j ≤ n3 ∧ i = .int .i64 j ∧ OwnT wx wr.heap.size (.slice A3 n3 c3) l ∧ Below wr.heap.size wr wx) (fun i _ => n3 - (intOf i).toNat)
        case atStart => exact ⟨0, q, Nat.zero_le _, rfl, hO3, hB3⟩
        case round =>
          clear hO3 hB3
          obtain ⟨j, l, hj, rfl, hO, hBx⟩ := hrel
          by_cases hjl : j < n3
          · obtain ⟨b5, o5, x5, rfl, hc5, hf5, hO5, hb5, cs5, fr5, hh5⟩ := hO.store hjl [122, 122]
            have hB5 := Lib.hid (Below.set_above hBx (i := o5 + j) hb5 (strV [122, 122]))
            have HO5 := Lib.hid hO5
            have hj0 : (0 : Int) ≤ (j : Int) := by omega
            have hj1 : (j : Int) < (n3 : Int) := by omega
            clear hO hBx hO5 hh5
            go_wp2_with fail
            go_roundw
            case rel => exact ⟨j + 1, _, by omega, by go_num, HO5.out, hB5.out⟩
            case measure => simp [intOf]; omega
          · have hTx := HTr.out.below hBx
            have hlk := like_any hTx.d hTx.f
            have hBz := hBw.trans (hBx.mono hBw.size)
            clear hO hTx
            go_wp2_with fail
            refine hlk.mono ?_
            rintro e w7 ⟨rfl, hB7⟩
            have hB8 := hBz.trans (hB7.mono hBz.size)
            clear hlk hB7 hBz hBx
            go_wp2_with fail
            refine (dictLives_any _).mono ?_
            rintro e w9 ⟨rfl, hB9⟩
            go_wp2_with fail
            go_ret
            exact ⟨rfl, hB8.trans (hB9.mono hB8.size)⟩

set_option maxRecDepth 100000 in
theorem lifted (os : Os) (started : os.Started) (H : Type) (enc : TypeId × Value → H) :
    ReturnsInHanded {} Try.checked os 7 .any (Rows.dictCopiesSpec.pre6 enc Try.prog Try.f7 Rows.dictCopiesRow.domain false) (Rows.dictCopiesSpec.post enc Try.prog Try.f7 false true false false) := by
  refine returnsInHanded_of_change_sized (C := Try.checked) own started (by kernel_rfl) Try.func7
    (ChangeSpec.witness6 (enc := enc) (C := Try.checked) false ⟨#[], #[.int .i64 0, .slice none 0 0, .slice none 0 0], []⟩ 8 (by kernel_rfl) (by kernel_rfl) (by kernel_rfl) (by kernel_rfl)) ?_
  intro W base args ds gs before hval0 hW hcnd hsz _
  have hval : ∀ (j : Nat) t v, Try.f7.params[j]? = some t → args[j]? = some v → Value.okWide Try.prog W .any base t v := hval0
  have hW' := hW
  obtain ⟨p, q, hA0, hV, rfl, hfz, hnd⟩ := hW
  have hA : DataW.TrodAll enc Try.prog W 0 (fun _ => true) true Try.f7.params.toList args.toList ds p := hA0
  rw [Try.params7] at hA hval
  obtain ⟨v0, vs0, d0, ds0, p0, q0, hargs, rfl, rfl, h0, r0⟩ := trodAll_cons hA
  obtain ⟨v1, vs1, d1, ds1, p1, q1, rfl, rfl, rfl, h1, r1⟩ := trodAll_cons r0
  obtain ⟨v2, vs2, d2, ds2, p2, q2, rfl, rfl, rfl, h2, r2⟩ := trodAll_cons r1
  obtain ⟨rfl, rfl, rfl⟩ := trodAll_nil r2
  obtain rfl : args = #[v0, v1, v2] := by cases args; simp_all
  obtain ⟨rfl, rfl⟩ := trodVars_none hV
  obtain ⟨a0, rfl, rfl, rfl, w0⟩ := open_int Try.underlying3 (hval 0 3 v0 rfl rfl) h0
  obtain ⟨a1, len1, cap1, rfl⟩ := okWide_slice Try.underlying22 (hval 1 22 v1 rfl rfl)
  have k1 := h1
  have lt1 : ∀ x ∈ p1, x.block < W.heap.size := by obtain ⟨m, hm⟩ := k1; exact DataW.trod_lt m _ _ _ hm
  have w1 : RZ Try.prog W 22 [.slice a1 len1 cap1] := by
    obtain ⟨fuel, hf⟩ := h1
    refine ⟨_, _, _, _, _, fuel, _, hf, fun n hn => ?_⟩
    have := List.all_eq_true.1 hsz _ (DataW.weights_mem_each (j := 1) rfl rfl n hn)
    simpa using this
  obtain ⟨a2, len2, cap2, rfl⟩ := okWide_slice Try.underlying22 (hval 2 22 v2 rfl rfl)
  have k2 := h2
  have lt2 : ∀ x ∈ p2, x.block < W.heap.size := by obtain ⟨m, hm⟩ := k2; exact DataW.trod_lt m _ _ _ hm
  have w2 : RZ Try.prog W 22 [.slice a2 len2 cap2] := by
    obtain ⟨fuel, hf⟩ := h2
    refine ⟨_, _, _, _, _, fuel, _, hf, fun n hn => ?_⟩
    have := List.all_eq_true.1 hsz _ (DataW.weights_mem_each (j := 2) rfl rfl n hn)
    simpa using this
  clear hA0 hval0
  refine (walk a0 a1 len1 cap1 a2 len2 cap2 W w0 w1 w2).mono fun e W' ⟨he, bel⟩ => ?_
  subst he
  exact ⟨_, rfl, _, _, _, [], _, [], hW', trodAll_mk1 (shut_bool Try.underlying4 _), (trodAll_cons_mk (shut_int Try.underlying3 w0) (trodAll_cons_mk (Below.trod laidOut (by kernel_rfl) (of_decide_eq_true (by kernel_rfl)) k1 bel lt1) (trodAll_cons_mk (Below.trod laidOut (by kernel_rfl) (of_decide_eq_true (by kernel_rfl)) k2 bel lt2) trodAll_mk0))), rfl, bel.frame _, fun h => by cases h⟩

theorem over : Rows.dictCopiesRow.holds Try.pinned (OpenSpec.ofChange Rows.dictCopiesSpec) :=
  OpenClaim.holds_of_wide 7 Try.f7 rfl rfl rfl rfl rfl rfl rfl ⟨rfl, rfl, rfl, rfl, rfl⟩ rfl rfl rfl rfl rfl (by kernel_rfl) Try.func7 (by kernel_rfl)
    (of_decide_eq_true (by kernel_rfl)) (by unfold Func.isWrapper; first | (rw [if_pos (by decide +kernel)]; kernel_rfl) | (rw [if_neg (by decide +kernel)]; exact ⟨rfl, rfl⟩))
    (fun os started H enc _ => lifted os started H enc)

theorem proved : Rows.DictCopiesSaid := over
end Go.Proofs.Ytccdjjpkcahgfaa.dictCopies
