/-
  Proved: whatever facts come in (the first 10, with at most 5 paths of 5 names and 5 values), what batch.Copy and batch.Values tell is the same and new: it is written over, and what came in and a later copy stay; the examples of the document hold, and nothing that was handed in changes. No condition.
-/
import Derived.Test.YtfddaegepmdohaaJ30
import Derived.Test.YtfddaegepmdohaaJ31
import Derived.Test.YtfddaegepmdohaaJ44
import Derived.Below
import Derived.ChangeOld
import Derived.OpenShut
import Derived.ProofKit
import Derived.ShutString
import Derived.Test.YtfddaegepmdohaaRows
import Derived.WalkKit
namespace Go.Proofs.Ytfddaegepmdohaa.batchOwns
open Go.ChangeShapes Go.WideShapes Go.ChangeAt Go.RowKit
open Go.ChangeMaps (open_string shut_string)
set_option linter.unusedVariables false

theorem own : ownKnob Try.prog.godebug = none := by kernel_rfl
theorem laidOut : laidOutB Try.prog = true := by kernel_rfl

def IsRow (k : IntKind) (w : World) (a : Option Addr) (len cap : Nat) (zs : List Int) : Prop :=
  (a = none ∧ len = 0 ∧ cap = 0 ∧ zs = []) ∨
  ∃ x, a = some x ∧ len ≤ cap ∧ cap ≤ maxLen ∧ zs.length = cap ∧ (∀ i, i < zs.length → w.cell? (x.add i) = some (.int k (zs.getD i 0))) ∧ ∀ n ∈ zs, (Lit.int k n).wf = true

set_option maxRecDepth 100000 in
set_option maxHeartbeats 2000000 in
theorem walk (a0 : Option Addr) (len0 cap0 : Nat) (w : World) (w0 : RC Try.prog w 27 [.slice a0 len0 cap0]) :
    Calls Try.prog 6 #[.slice a0 len0 cap0] w fun e w' => e = .returned (.bool true) ∧ Below w.heap.size w w' := by
  obtain ⟨L, hF, _⟩ := facts_of w0
  clear w0
  go_enter Try.func6, Try.ntmps6
  go_wp2_with fail
  refine (few_any hF).mono ?_
  rintro e w4 ⟨a2, len2, cap2, rfl, hF4, hB4⟩
  have hSm := fewF_small (L := L)
  generalize fewF L = L' at hF4 hSm
  have HLm := Lib.hid hF4.len
  have hln : len2 ≤ 10 := by have := HLm.out; have := hSm.1; omega
  have HC := Lib.hid (copyB_any hF4 (by omega) hSm.2)
  have HSm := Lib.hid hSm.2
  have hC4 := hB4.size
  clear hF hSm
  go_wp2_with fail
  refine HC.out.mono ?_
  rintro e w5 ⟨v5, rfl, hO5, hb5⟩
  obtain ⟨A5, c5, rfl, hc51, hc52, ha5⟩ := tfs_of hO5
  have hrow5 : HasF w5 (fun _ => True) A5 L'.length c5 L' := by
    obtain ⟨A, c, e, h⟩ := hO5.read elFctO_ok
    injection e with e1 _ e3
    subst e1 e3
    exact (h.map (E' := elFct) (fun _ _ h => elFctO_read h)).mv elFct_ok (Mv.to w5 fun _ _ _ => trivial)
  rw [HLm.out] at ha5 hrow5 hc51 ⊢
  have hF5 := hF4.mv elFct_ok (Mv.belowS hb5 _)
  have hB5 := hB4.trans (hb5.mono hB4.size)
  have HSM := Lib.hid (sameF_any hrow5 hF5)
  rw [decide_eq_true rfl] at HSM
  have hz45 := hb5.size
  clear HC hO5 hb5 hrow5 hF4 hB4
  go_wp2_with fail
  refine HSM.out.mono ?_
  rintro y w6' ⟨rfl, k6, rfl⟩
  have ha6 := ha5.below (below_drewN (Below.refl _ _) k6)
  have hF6 := hF5.mv elFct_ok (Mv.drewN w5 k6 _)
  have hB6 := below_drewN hB5 k6
  have hz6 : (w5.drewN k6).heap.size = w5.heap.size := rfl
  generalize w5.drewN k6 = w6 at ha6 hF6 hB6 hz6 ⊢
  have HV := Lib.hid (values_any hF6 (by omega) HSm.out)
  clear HSM ha5 hF5 hB5
  go_wp2_with fail
  refine HV.out.mono ?_
  rintro e w7 ⟨v7, rfl, hO7, hb7⟩
  have hv7 := trows_of hO7
  obtain ⟨A7, c7, rfl⟩ := hO7.shape
  rw [show (L'.map Prod.snd).length = len2 by rw [List.length_map]; exact HLm.out] at hv7 ⊢
  have h7 : OwnV w w.heap.size w4.heap.size w5.heap.size w6.heap.size w7.heap.size (.slice A7 len2 c7) A5 len2 a2 len2 cap2 L' w7 := ⟨hv7, ha6.below hb7, hF6.mv elFct_ok (Mv.belowS hb7 _), hB6.trans (hb7.mono hB6.size)⟩
  have hz7 := hb7.size
  clear HV hO7 hb7 hv7 ha6 hF6 hB6
  go_wp2_with fail
  go_loopw [6] (fun i wr => ∃ k : Nat, k ≤ len2 ∧ i = .int .i64 k ∧ OwnV w w.heap.size w4.heap.size w5.heap.size w6.heap.size w7.heap.size (.slice A7 len2 c7) A5 len2 a2 len2 cap2 L' wr ∧ w7.heap.size ≤ wr.heap.size) (fun i _ => len2 - (intOf i).toNat)
  case atStart => exact ⟨0, Nat.zero_le _, rfl, h7, Nat.le_refl _⟩
  case round =>
    clear h7
    obtain ⟨i, hi, rfl, h8, hz8⟩ := hrel
    by_cases hlt : i < len2
    · obtain ⟨g, o, cs, P, np, cp, rfl, hblk, hcs, hp1, hp2, hg1, hg2⟩ := h8.v.raw hlt
      have i0 : (0 : Int) ≤ (i : Int) := by omega
      have i1 : (i : Int) < (len2 : Int) := by omega
      go_wp2_with fail
      go_loopw [7] (fun j wi => ∃ k : Nat, k ≤ np ∧ j = .int .i64 k ∧ OwnV w w.heap.size w4.heap.size w5.heap.size w6.heap.size w7.heap.size (.slice (some ⟨g, o, none⟩) len2 c7) A5 len2 a2 len2 cap2 L' wi ∧ w7.heap.size ≤ wi.heap.size ∧ Block wi g 32 cs) (fun j _ => np - (intOf j).toNat)
      case atStart => exact ⟨0, Nat.zero_le _, rfl, h8, hz8, hblk⟩
      case round =>
        clear h8 hz8 hblk
        obtain ⟨k, hk, rfl, h9, hz9, hb9⟩ := hrel
        have f0 : wr.cell? ⟨g, o + i, none⟩ = some (.slice P np cp) := (hb9.cell _).trans hcs
        by_cases hlk : k < np
        · obtain ⟨b, o2, u, rfl, t0, t1, hbb1, hbb2, ds, hbb⟩ := (h9.v.atB hlt hb9 hcs).wr.at_ hlk
          have i2 : (0 : Int) ≤ (k : Int) := by omega
          have i3 : (k : Int) < (np : Int) := by omega
          have hF := Lib.hid (show OwnV w w.heap.size w4.heap.size w5.heap.size w6.heap.size w7.heap.size (.slice (some ⟨g, o, none⟩) len2 c7) A5 len2 a2 len2 cap2 L' (wr.setCell ⟨b, o2 + k, none⟩ (.int .i64 77)) ∧ w7.heap.size ≤ (wr.setCell ⟨b, o2 + k, none⟩ (.int .i64 77)).heap.size ∧ Block (wr.setCell ⟨b, o2 + k, none⟩ (.int .i64 77)) g 32 cs from
            ⟨h9.set_ hC4 (by omega) hbb hbb1 _ _, by simpa [World.setCell] using hz9, hb9.other hbb (by decide) _ _⟩)
          clear h9 hz9 hb9 hbb
          go_wp2_with fail
          go_roundw
          case rel => exact ⟨k + 1, by omega, by go_num, hF.out⟩
          case measure => simp [intOf]; omega
        · go_wp2_with fail
          go_roundw
          case rel => exact ⟨i + 1, by omega, by go_num, h9, hz9⟩
          case measure => simp [intOf]; omega
    · have HCB := Lib.hid (copyB_any h8.l (by omega) HSm.out)
      go_wp2_with fail
      refine HCB.out.mono ?_
      rintro e w9 ⟨v9, rfl, hO9, hb9⟩
      obtain ⟨A9, n9, c9, rfl, hrow9⟩ : ∃ A n c, v9 = .slice A n c ∧ HasF w9 (fun b => w5.heap.size ≤ b) A n c L' := by
        obtain ⟨A, c, e, h⟩ := hO9.read elFctO_ok
        refine ⟨A, _, c, e, (h.map (E' := elFct) (fun _ _ h => elFctO_read h)).mv elFct_ok (Mv.to w9 fun b hb _ => ?_)⟩
        rcases hb with hb | hb
        · omega
        · have := hb.1; omega
      have hS9 : OwnSt w w.heap.size w4.heap.size w5.heap.size A5 len2 A9 n9 c9 a2 len2 cap2 L' w9 := ⟨h8.a.below hb9, hrow9, h8.l.mv elFct_ok (Mv.belowS hb9 _), h8.bel.trans (hb9.mono h8.bel.size)⟩
      clear HCB hO9 hb9 hrow9 h8
      go_wp2_with fail
      go_loopw [9] (fun i wr => ∃ k : Nat, k ≤ len2 ∧ i = .int .i64 k ∧ OwnSt w w.heap.size w4.heap.size w5.heap.size A5 len2 A9 n9 c9 a2 len2 cap2 L' wr) (fun i _ => len2 - (intOf i).toNat)
      case atStart => exact ⟨0, Nat.zero_le _, rfl, hS9⟩
      case round =>
        clear hS9
        obtain ⟨i, hi, rfl, h1⟩ := hrel
        by_cases hlt : i < len2
        · obtain ⟨g, o, cs, P, np, cp, Q, nq, cq, rfl, hblk, hcs1, hcs2, hp1, hp2, hq1, hq2⟩ := h1.a.raw hlt
          have i0 : (0 : Int) ≤ (i : Int) := by omega
          have i1 : (i : Int) < (len2 : Int) := by omega
          go_wp2_with fail
          go_loopw [10] (fun j wi => ∃ k : Nat, k ≤ nq ∧ j = .int .i64 k ∧ OwnSt w w.heap.size w4.heap.size w5.heap.size (some ⟨g, o, none⟩) len2 A9 n9 c9 a2 len2 cap2 L' wi ∧ Block wi g 35 cs) (fun j _ => nq - (intOf j).toNat)
          case atStart => exact ⟨0, Nat.zero_le _, rfl, h1, hblk⟩
          case round =>
            clear h1 hblk
            obtain ⟨k, hk, rfl, h2, hb2⟩ := hrel
            have f1 : wr.cell? ⟨g, o + i * 2 + 1, none⟩ = some (.slice Q nq cq) := (hb2.cell _).trans hcs2
            by_cases hlk : k < nq
            · obtain ⟨b, o2, u, rfl, t0, t1, hbb1, hbb2, ds, hbb⟩ := (h2.a.atB hlt hb2 hcs1 hcs2).2.wr.at_ hlk
              have i2 : (0 : Int) ≤ (k : Int) := by omega
              have i3 : (k : Int) < (nq : Int) := by omega
              have hF := Lib.hid (show OwnSt w w.heap.size w4.heap.size w5.heap.size (some ⟨g, o, none⟩) len2 A9 n9 c9 a2 len2 cap2 L' (wr.setCell ⟨b, o2 + k, none⟩ (.int .i64 77)) ∧ Block (wr.setCell ⟨b, o2 + k, none⟩ (.int .i64 77)) g 35 cs from
                ⟨h2.set_ hC4 hbb hbb1 hbb2 (by decide) _ _ (.inl (by decide)), hb2.other hbb (by decide) _ _⟩)
              clear h2 hb2 hbb
              go_wp2_with fail
              go_roundw
              case rel => exact ⟨k + 1, by omega, by go_num, hF.out⟩
              case measure => simp [intOf]; omega
            · go_wp2_with fail
              clear f1
              go_loopw [11] (fun j wi => ∃ k : Nat, k ≤ np ∧ j = .int .i64 k ∧ OwnSt w w.heap.size w4.heap.size w5.heap.size (some ⟨g, o, none⟩) len2 A9 n9 c9 a2 len2 cap2 L' wi ∧ Block wi g 35 cs) (fun j _ => np - (intOf j).toNat)
              case atStart => exact ⟨0, Nat.zero_le _, rfl, h2, hb2⟩
              case round =>
                clear h2 hb2
                obtain ⟨k2, hk2, rfl, h3, hb3⟩ := hrel
                have f0 : wr.cell? ⟨g, o + i * 2, none⟩ = some (.slice P np cp) := (hb3.cell _).trans hcs1
                by_cases hlk2 : k2 < np
                · obtain ⟨gp, op, csp, X, nx, cx, rfl, hbp, hcsp, hx1, hx2, hgp1, hgp2⟩ := (h3.a.atB hlt hb3 hcs1 hcs2).1.raw hlk2
                  have i2 : (0 : Int) ≤ (k2 : Int) := by omega
                  have i3 : (k2 : Int) < (np : Int) := by omega
                  go_wp2_with fail
                  clear f0
                  go_loopw [12] (fun j wi => ∃ k : Nat, k ≤ nx ∧ j = .int .i64 k ∧ OwnSt w w.heap.size w4.heap.size w5.heap.size (some ⟨g, o, none⟩) len2 A9 n9 c9 a2 len2 cap2 L' wi ∧ Block wi g 35 cs ∧ Block wi gp 23 csp) (fun j _ => nx - (intOf j).toNat)
                  case atStart => exact ⟨0, Nat.zero_le _, rfl, h3, hb3, hbp⟩
                  case round =>
                    clear h3 hb3 hbp
                    obtain ⟨j, hj, rfl, h4, hb4, hbp4⟩ := hrel
                    have f0 : wr.cell? ⟨g, o + i * 2, none⟩ = some (.slice (some ⟨gp, op, none⟩) np cp) := (hb4.cell _).trans hcs1
                    have f2 : wr.cell? ⟨gp, op + k2, none⟩ = some (.slice X nx cx) := (hbp4.cell _).trans hcsp
                    by_cases hlj : j < nx
                    · obtain ⟨b, o2, u, rfl, t0, t1, hbb1, hbb2, ds, hbb⟩ := ((h4.a.atB hlt hb4 hcs1 hcs2).1.atB hlk2 hbp4 hcsp).wr.at_ hlj
                      have i4 : (0 : Int) ≤ (j : Int) := by omega
                      have i5 : (j : Int) < (nx : Int) := by omega
                      have hF := Lib.hid (show OwnSt w w.heap.size w4.heap.size w5.heap.size (some ⟨g, o, none⟩) len2 A9 n9 c9 a2 len2 cap2 L' (wr.setCell ⟨b, o2 + j, none⟩ (.string ⟨#[122, 122]⟩)) ∧ Block (wr.setCell ⟨b, o2 + j, none⟩ (.string ⟨#[122, 122]⟩)) g 35 cs ∧ Block (wr.setCell ⟨b, o2 + j, none⟩ (.string ⟨#[122, 122]⟩)) gp 23 csp from
                        ⟨h4.set_ hC4 hbb hbb1 hbb2 (by decide) _ _ (.inl (by decide)), hb4.other hbb (by decide) _ _, hbp4.other hbb (by decide) _ _⟩)
                      clear h4 hb4 hbp4 hbb
                      go_wp2_with fail
                      go_roundw
                      case rel => exact ⟨j + 1, by omega, by go_num, hF.out⟩
                      case measure => simp [intOf]; omega
                    · have f3 := hbp4.free (op + k2)
                      have hF := Lib.hid (show OwnSt w w.heap.size w4.heap.size w5.heap.size (some ⟨g, o, none⟩) len2 A9 n9 c9 a2 len2 cap2 L' (wr.setCell ⟨gp, op + k2, none⟩ (.slice none 0 0)) ∧ Block (wr.setCell ⟨gp, op + k2, none⟩ (.slice none 0 0)) g 35 cs from
                        ⟨h4.set_ hC4 hbp4 hgp1 hgp2 (by decide) _ _ (.inr rfl), hb4.other hbp4 (by decide) _ _⟩)
                      clear h4 hb4 hbp4
                      go_wp2_with fail
                      go_roundw
                      case rel => exact ⟨k2 + 1, by omega, by go_num, hF.out⟩
                      case measure => simp [intOf]; omega
                · go_wp2_with fail
                  go_roundw
                  case rel => exact ⟨i + 1, by omega, by go_num, h3⟩
                  case measure => simp [intOf]; omega
        · have HSE := Lib.hid (sameF_any h1.b h1.l)
          rw [decide_eq_true rfl] at HSE
          have hB1 := h1.bel
          clear h1
          go_wp2_with fail
          refine HSE.out.mono ?_
          rintro y w10 ⟨rfl, k10, rfl⟩
          have hB2 := below_drewN hB1 k10
          clear HSE hB1
          go_wp2_with fail
          refine (batchLives_any _).mono ?_
          rintro e vz ⟨rfl, hbz⟩
          have HF := Lib.hid (hB2.trans (hbz.mono hB2.size))
          clear hbz hB2
          go_wp2_with fail
          go_ret
          exact ⟨rfl, HF.out⟩

set_option maxRecDepth 100000 in
theorem lifted (os : Os) (started : os.Started) (H : Type) (enc : TypeId × Value → H) :
    ReturnsInHanded {} Try.checked os 6 .any (Rows.batchOwnsSpec.pre6 enc Try.prog Try.f6 Rows.batchOwnsRow.domain false) (Rows.batchOwnsSpec.post enc Try.prog Try.f6 false true false false) := by
  refine returnsInHanded_of_change (C := Try.checked) own started (by kernel_rfl) Try.func6
    (ChangeSpec.witness6 (enc := enc) (C := Try.checked) false ⟨#[], #[.slice none 0 0], []⟩ 8 (by kernel_rfl) (by kernel_rfl) (by kernel_rfl) (by kernel_rfl)) ?_
  intro W base args ds gs before hval0 hW hcnd _
  have hval : ∀ (j : Nat) t v, Try.f6.params[j]? = some t → args[j]? = some v → Value.okWide Try.prog W .any base t v := hval0
  have hW' := hW
  obtain ⟨p, q, hA0, hV, rfl, hfz, hnd⟩ := hW
  have hA : DataW.TrodAll enc Try.prog W 0 (fun _ => true) true Try.f6.params.toList args.toList ds p := hA0
  rw [Try.params6] at hA hval
  obtain ⟨v0, vs0, d0, ds0, p0, q0, hargs, rfl, rfl, h0, r0⟩ := trodAll_cons hA
  obtain ⟨rfl, rfl, rfl⟩ := trodAll_nil r0
  obtain rfl : args = #[v0] := by cases args; simp_all
  obtain ⟨rfl, rfl⟩ := trodVars_none hV
  obtain ⟨a0, len0, cap0, rfl⟩ := okWide_slice Try.underlying27 (hval 0 27 v0 rfl rfl)
  have k0 := h0
  have lt0 : ∀ x ∈ p0, x.block < W.heap.size := by obtain ⟨m, hm⟩ := k0; exact DataW.trod_lt m _ _ _ hm
  have w0 : RC Try.prog W 27 [.slice a0 len0 cap0] := by
    obtain ⟨fuel, hf⟩ := h0
    exact ⟨_, _, _, _, _, fuel, _, hf⟩
  clear hA0 hval0
  refine (walk a0 len0 cap0 W w0).mono fun e W' ⟨he, bel⟩ => ?_
  subst he
  exact ⟨_, rfl, _, _, _, [], _, [], hW', trodAll_mk1 (shut_bool Try.underlying4 _), (trodAll_cons_mk (Below.trod laidOut (by kernel_rfl) (of_decide_eq_true (by kernel_rfl)) k0 bel lt0) trodAll_mk0), rfl, bel.frame _, fun h => by cases h⟩

theorem over : Rows.batchOwnsRow.holds Try.pinned (OpenSpec.ofChange Rows.batchOwnsSpec) :=
  OpenClaim.holds_of_wide 6 Try.f6 rfl rfl rfl rfl rfl rfl rfl ⟨rfl, rfl, rfl, rfl, rfl⟩ rfl rfl rfl rfl rfl (by kernel_rfl) Try.func6 (by kernel_rfl)
    (of_decide_eq_true (by kernel_rfl)) (by unfold Func.isWrapper; first | (rw [if_pos (by decide +kernel)]; kernel_rfl) | (rw [if_neg (by decide +kernel)]; exact ⟨rfl, rfl⟩))
    (fun os started H enc _ => lifted os started H enc)

theorem proved : Rows.BatchOwnsSaid := over
end Go.Proofs.Ytfddaegepmdohaa.batchOwns
