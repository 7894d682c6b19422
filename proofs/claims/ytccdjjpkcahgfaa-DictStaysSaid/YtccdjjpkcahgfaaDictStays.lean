/-
  Proved: any lists of texts (the first 40), put twice into a dictionary of 1 to 3 levels, get the document's codes each time, what is there comes no second time, the code of each path that was taken is the last of the codes that Add told, and all that the dictionary tells behind it is the document's; the document's examples hold, and nothing that was handed in is changed. No condition.
-/
import Derived.Test.YtccdjjpkcahgfaaRows
import Derived.Test.YtccdjjpkcahgfaaDictG
import Derived.Deep.DeepCutAuto
import Derived.WalkKit
import Derived.ProofKit
import Derived.OpenShut
import Derived.ShutString
import Derived.ChangeOld
import Derived.Below
namespace Go.Proofs.Ytccdjjpkcahgfaa.dictStays
open Go.ChangeShapes Go.WideShapes Go.ChangeAt Go.RowKit
open Go.ChangeMaps (open_string shut_string)
set_option linter.unusedVariables false

theorem own : ownKnob Try.prog.godebug = none := by kernel_rfl
theorem laidOut : laidOutB Try.prog = true := by kernel_rfl

def IsRow (k : IntKind) (w : World) (a : Option Addr) (len cap : Nat) (zs : List Int) : Prop :=
  (a = none ∧ len = 0 ∧ cap = 0 ∧ zs = []) ∨
  ∃ x, a = some x ∧ len ≤ cap ∧ cap ≤ maxLen ∧ zs.length = cap ∧ (∀ i, i < zs.length → w.cell? (x.add i) = some (.int k (zs.getD i 0))) ∧ ∀ n ∈ zs, (Lit.int k n).wf = true

set_option maxRecDepth 100000 in
set_option maxHeartbeats 2000000 in
theorem walk (a0 : Int) (a1 : Option Addr) (len1 cap1 : Nat) (w : World) (w0 : (Lit.int .i64 a0).wf = true) (w1 : RC Try.prog w 22 [.slice a1 len1 cap1]) :
    Calls Try.prog 6 #[.int .i64 a0, .slice a1 len1 cap1] w fun e w' => e = .returned (.bool true) ∧ Below w.heap.size w w' := by
  obtain ⟨L, hL⟩ := w1.textss Try.underlying22 Try.underlying30 Try.underlying9 (by kernel_rfl) (by kernel_rfl)
  clear w1
  obtain ⟨l1, l2⟩ := i64_of_wf w0
  have hcap1 := hL.cap
  have hcm1 : cap1 ≤ 9223372036854775807 := by have := hL.fit; unfold maxLen at this; omega
  have HL := Lib.hid hL
  clear hL w0
  go_enter Try.func6, Try.ntmps6
  go_upto_if 19 with fail
  go_cut [1] (fun s0 wx => ∃ (m : Nat) (P : List Pth), s0 = .slice a1 m cap1 ∧ Hid (HasTs w a1 m cap1 P) ∧ m ≤ cap1 ∧ wx = w)
  case first =>
    by_cases h : 40 < len1
    · have h1 : (40 : Int) < (len1 : Int) := by omega
      have h2 : (40 : Int) ≤ (cap1 : Int) := by omega
      have hz := Lib.hid (HL.out.take_ 40 (by omega))
      go_wp2_with fail
      go_meet
      exact ⟨40, _, rfl, hz, by omega, rfl⟩
    · have h1 : ¬ (40 : Int) < (len1 : Int) := by omega
      go_wp2_with fail
      go_meet
      exact ⟨len1, _, rfl, HL, hcap1, rfl⟩
  case rest =>
    obtain ⟨m, P, rfl, HP, hmc, rfl⟩ := hcut
    clear HL hcap1
    go_wp2_with fail
    refine (both_any a0 l1 l2 HP.out).mono ?_
    rintro e w1 ⟨⟨g, bm, r, n, pv, Lv, Q, rfl, hT⟩, hB1⟩
    have HT := Lib.hid hT
    clear hT l1 l2
    go_wp2_with fail
    go_loopw [8] (fun i wr => ∃ (k : Nat) (pv Lv : Value) (Q : List Pth), k ≤ m ∧ i = .int .i64 k ∧ Hid (Two wr wc.heap.size g bm r n pv Lv Q) ∧ Below wc.heap.size wc wr) (fun i _ => m - (intOf i).toNat)
    case atStart => exact ⟨0, _, _, _, Nat.zero_le _, rfl, HT, hB1⟩
    case round =>
      clear HT
      obtain ⟨k, pv, Lv, Q, hk, rfl, hT, hB⟩ := hrel
      by_cases hlt : k < m
      · obtain ⟨q, hq⟩ : ∃ q, Hid (P[k]? = some q) := ⟨_, Lib.hid (List.getElem?_eq_getElem (by rw [HP.out.len]; exact hlt))⟩
        obtain ⟨b, o, A', m', c', rfl, hb, hc, hP⟩ := HP.out.has k q hq.out
        have hc1 := (hB.cell (p := ⟨b, o + k, none⟩) hb).trans hc
        have hs := hB.size
        obtain ⟨x, hx⟩ : ∃ x : Int, Hid (((addE n Q q : Nat) : Int) = x) := ⟨_, Lib.hid rfl⟩
        have hadd := add_is hT.out.d ((hP.below hB (Nat.le_refl _)).more hs) (hP.far _ (fun k hk => (hT.out.d.foot_base hk).1)) hx
        have hk0 : (0 : Int) ≤ (k : Int) := by omega
        have hk1 : (k : Int) < (m : Int) := by omega
        have Hq := Lib.hid hP
        have Hb : Hid (b < wc.heap.size) := Lib.hid hb
        have Hc := Lib.hid hc
        clear hP hc
        go_wp2_with fail
        refine hadd.mono ?_
        rintro e w3 ⟨va, pv3, rfl, hTa, hD3, hch3⟩
        have hB3 := hB.trans (hch3.below hs (fun k hk => (hT.out.d.foot_base hk).1))
        have hF3 := hT.out.f.past hT.out.d hch3
        have hc3 := (hB3.cell (p := ⟨b, o + k, none⟩) Hb.out).trans Hc.out
        have hs3 := hB3.size
        have hadd2 := refAdd_is hF3 ((Hq.out.below hB3 (Nat.le_refl _)).more hs3) (Hq.out.far _ (fun k hk => (hF3.foot_base hk).1)) hx
        have HD3 := Lib.hid hD3
        have HF3 := Lib.hid hF3
        have HTa := Lib.hid hTa
        obtain ⟨Aa, ma, ca, rfl, hIa0, _⟩ := hTa.read
        clear hadd hTa hD3 hch3 hF3 hB hIa0 hc1
        go_wp2_with fail
        refine hadd2.mono ?_
        rintro e w4 ⟨vb, Lv4, rfl, hOb, hF4, hch4⟩
        have hB4 := hB3.trans (hch4.below hs3 (fun k hk => (HF3.out.foot_base hk).1))
        have hD4 := HD3.out.past HF3.out hch4
        have hTa4 := HTa.out.past HF3.out hch4
        obtain ⟨_, _, _, ea, hIa, _⟩ := hTa4.read
        injection ea with ea1 ea2 ea3
        subst ea1 ea2 ea3
        obtain ⟨Ab, mb, cb, rfl, hIb, _⟩ := hOb.formN
        have hin := ints_same hIa hIb
        have HT4 : Hid (Two w4 wc.heap.size g bm r n pv3 Lv4 (addQ n Q q)) := Lib.hid ⟨hD4, hF4, Whole.add hT.out.d.good hT.out.whole⟩
        have hxx : (x != x) = false := by simp
        have HIa := Lib.hid hIa
        have hs4 := hB4.size
        have hc4 := (hB4.cell (p := ⟨b, o + k, none⟩) Hb.out).trans Hc.out
        clear hadd2 hTa4 hOb hF4 hch4 hD4 hIa hIb HTa hc3 hB3
        go_wp2_with fail
        refine hin.mono ?_
        rintro e w5 ⟨rfl, j, rfl⟩
        have HT5 : Hid (Two (w4.drewN j) wc.heap.size g bm r n pv3 Lv4 (addQ n Q q)) := Lib.hid ⟨HT4.out.d.drewN j, HT4.out.f.drewN j, HT4.out.whole⟩
        have hB5 := below_drewN hB4 j
        have hc5 : (w4.drewN j).cell? ⟨b, o + k, none⟩ = some (.slice A' m' c') := hc4
        clear hin hc4 hB4
        by_cases ho : addOk n Q q
        · obtain rfl : x = 0 := by rw [← hx.out, (add_ok ho.1 ho.2).2.2]; rfl
          obtain ⟨z1, z2, z3⟩ := addC_last hT.out.d.good ho
          obtain ⟨d, hd⟩ : ∃ d, Hid (fnd (addQ n Q q) q = d) := ⟨_, Lib.hid rfl⟩
          rw [hd.out] at z2 z3
          have Hz1 := Lib.hid z1
          have Hz2 := Lib.hid z2
          have Hz3 := Lib.hid z3
          have hcd := code_any HT5.out.d ((Hq.out.below hB5 (Nat.le_refl _)).more hB5.size) Hz3
          have hn1 := hT.out.d.good.lv.1
          have hma : ma = n := by rw [← HIa.out.len, Hz1.out]
          have hdd : ((d : Int) != (d : Int)) = false := by simp
          have hn3 := hT.out.d.good.lv.2
          clear z1 z2 z3 ho hxx
          go_wp2_with fail
          refine hcd.mono ?_
          rintro e w6 ⟨rfl, hB6⟩
          have hI6 := (HIa.out.drewN j).belowS hB6
          obtain ⟨b3, o3, y, rfl, hb3, hy, ey⟩ := hI6.at_ (k := n - 1) (by omega)
          rw [Hz2.out] at ey
          obtain rfl : y = (d : Int) := ey.out
          obtain ⟨t, ht⟩ : ∃ t, n = t + 1 := ⟨n - 1, by omega⟩
          have hy2 : w6.cell? ⟨b3, o3 + t, none⟩ = some (.int .i64 (d : Int)) := by rw [show t = n - 1 by omega]; exact hy
          have hcapa := hI6.cap
          have hcma := hI6.capMax
          have HT6 : Hid (Two w6 wc.heap.size g bm r n pv3 Lv4 (addQ n Q q)) := Lib.hid (HT5.out.below hB6)
          have hB7 := hB5.trans (hB6.mono hB5.size)
          have ht1 : (n : Int) - 1 = (t : Int) := by omega
          have ht2 : ¬ (n : Int) < 1 := by omega
          have ht5 : (t : Int) < (n : Int) := by omega
          have ht3 : (0 : Int) ≤ (t : Int) := by omega
          have ht4 : t ≤ 3 := by omega
          clear hI6 hy ey hma ht hB6 hcd hc5 hB5
          go_wp2_with fail
          go_roundw
          case rel => exact ⟨k + 1, pv3, Lv4, _, by omega, by go_num, HT6, hB7⟩
          case measure => simp [intOf]; omega
        · have hx0 : (x == 0) = false := by
            have := addE_no ho
            rw [← hx.out]
            simp
            omega
          clear ho hc5
          go_wp2_with fail
          go_roundw
          case rel => exact ⟨k + 1, pv3, Lv4, _, by omega, by go_num, HT5, hB5⟩
          case measure => simp [intOf]; omega
      · have hlk := like_any hT.out.d hT.out.f
        have h1 : ¬ (k : Int) < (m : Int) := by omega
        clear hlt
        go_wp2_with fail
        refine hlk.mono ?_
        rintro e w2 ⟨rfl, hB2⟩
        have hB3 := hB.trans (hB2.mono hB.size)
        clear hB2 hB hlk
        go_wp2_with fail
        refine (dictLives_any _).mono ?_
        rintro e w4 ⟨rfl, hB4⟩
        go_wp2_with fail
        go_ret
        exact ⟨rfl, hB3.trans (hB4.mono hB3.size)⟩

set_option maxRecDepth 100000 in
theorem lifted (os : Os) (started : os.Started) (H : Type) (enc : TypeId × Value → H) :
    ReturnsInHanded {} Try.checked os 6 .any (Rows.dictStaysSpec.pre6 enc Try.prog Try.f6 Rows.dictStaysRow.domain false) (Rows.dictStaysSpec.post enc Try.prog Try.f6 false true false false) := by
  refine returnsInHanded_of_change (C := Try.checked) own started (by kernel_rfl) Try.func6
    (ChangeSpec.witness6 (enc := enc) (C := Try.checked) false ⟨#[], #[.int .i64 0, .slice none 0 0], []⟩ 8 (by kernel_rfl) (by kernel_rfl) (by kernel_rfl) (by kernel_rfl)) ?_
  intro W base args ds gs before hval0 hW hcnd _
  have hval : ∀ (j : Nat) t v, Try.f6.params[j]? = some t → args[j]? = some v → Value.okWide Try.prog W .any base t v := hval0
  have hW' := hW
  obtain ⟨p, q, hA0, hV, rfl, hfz, hnd⟩ := hW
  have hA : DataW.TrodAll enc Try.prog W 0 (fun _ => true) true Try.f6.params.toList args.toList ds p := hA0
  rw [Try.params6] at hA hval
  obtain ⟨v0, vs0, d0, ds0, p0, q0, hargs, rfl, rfl, h0, r0⟩ := trodAll_cons hA
  obtain ⟨v1, vs1, d1, ds1, p1, q1, rfl, rfl, rfl, h1, r1⟩ := trodAll_cons r0
  obtain ⟨rfl, rfl, rfl⟩ := trodAll_nil r1
  obtain rfl : args = #[v0, v1] := by cases args; simp_all
  obtain ⟨rfl, rfl⟩ := trodVars_none hV
  obtain ⟨a0, rfl, rfl, rfl, w0⟩ := open_int Try.underlying3 (hval 0 3 v0 rfl rfl) h0
  obtain ⟨a1, len1, cap1, rfl⟩ := okWide_slice Try.underlying22 (hval 1 22 v1 rfl rfl)
  have k1 := h1
  have lt1 : ∀ x ∈ p1, x.block < W.heap.size := by obtain ⟨m, hm⟩ := k1; exact DataW.trod_lt m _ _ _ hm
  have w1 : RC Try.prog W 22 [.slice a1 len1 cap1] := by
    obtain ⟨fuel, hf⟩ := h1
    exact ⟨_, _, _, _, _, fuel, _, hf⟩
  clear hA0 hval0
  refine (walk a0 a1 len1 cap1 W w0 w1).mono fun e W' ⟨he, bel⟩ => ?_
  subst he
  exact ⟨_, rfl, _, _, _, [], _, [], hW', trodAll_mk1 (shut_bool Try.underlying4 _), (trodAll_cons_mk (shut_int Try.underlying3 w0) (trodAll_cons_mk (Below.trod laidOut (by kernel_rfl) (of_decide_eq_true (by kernel_rfl)) k1 bel lt1) trodAll_mk0)), rfl, bel.frame _, fun h => by cases h⟩

theorem over : Rows.dictStaysRow.holds Try.pinned (OpenSpec.ofChange Rows.dictStaysSpec) :=
  OpenClaim.holds_of_wide 6 Try.f6 rfl rfl rfl rfl rfl rfl rfl ⟨rfl, rfl, rfl, rfl, rfl⟩ rfl rfl rfl rfl rfl (by kernel_rfl) Try.func6 (by kernel_rfl)
    (of_decide_eq_true (by kernel_rfl)) (by unfold Func.isWrapper; first | (rw [if_pos (by decide +kernel)]; kernel_rfl) | (rw [if_neg (by decide +kernel)]; exact ⟨rfl, rfl⟩))
    (fun os started H enc _ => lifted os started H enc)

theorem proved : Rows.DictStaysSaid := over
end Go.Proofs.Ytccdjjpkcahgfaa.dictStays
