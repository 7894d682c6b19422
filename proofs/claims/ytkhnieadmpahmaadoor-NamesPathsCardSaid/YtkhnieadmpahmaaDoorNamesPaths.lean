/-
  Proved: of any text (its first 100 bytes) names.Path tells just the document's path, or refuses it, and the text of the path that it tells is that very text; the document's examples hold, and nothing that was handed in changes. Condition: the two tables of Go's library that the row lists (unicode/utf8's first and acceptRanges) hold what their initialisers lay, to which the card ties them; the walk reads neither.
-/
import Derived.Test.YtkhnieadmpahmaaDoorTie
import Derived.Test.YtkhnieadmpahmaaDoorCards
import Derived.LaidMore
import Derived.Lay
import Derived.SevenTiedAt
import Derived.Stop.Joined
import Derived.Test.YtkhnieadmpahmaaDoorNamesW
import Derived.Deep.DeepCutAuto
import Derived.WalkKit
import Derived.Below
import Derived.OpenShut
import Derived.ProofKit
import Derived.OpenShut
import Derived.ShutString
namespace Go.Proofs.YtkhnieadmpahmaaDoor.namesPaths
open Go.ChangeShapes Go.WideShapes Go.ChangeAt Go.RowKit
open Go.ChangeMaps (open_string shut_string)
set_option linter.unusedVariables false      -- a walk need not use every 'w<i>' (that an integer argument fits its kind)

theorem own : ownKnob Tryd.prog.godebug = none := by kernel_rfl

set_option maxRecDepth 100000 in
set_option maxHeartbeats 2000000 in
theorem walk (a0 : ByteArray) (w0 : a0.size ≤ maxLen) (w : World) :
    Calls Tryd.prog 4 #[.string a0] w fun e w' => e = .returned (.bool true) ∧ Below w.heap.size w w' := by
  clear w0
  go_enter Tryd.func4, Tryd.ntmps4
  go_upto_if 12 with fail
  go_cut [0] (fun s0 wx => ∃ t : ByteArray, s0 = .string t ∧ t.size ≤ 100 ∧ wx = w)
  case first =>
    by_cases h : 100 < a0.size
    · have h1 : (100 : Int) < (a0.size : Int) := by omega
      have hz : Hid ((a0.extract 0 100).size ≤ 100) := Lib.hid (by rw [ByteArray.size_extract]; omega)
      go_wp2_with fail
      go_meet
      exact ⟨a0.extract 0 100, rfl, hz.out, rfl⟩
    · have h1 : ¬ (100 : Int) < (a0.size : Int) := by omega
      go_wp2_with fail
      go_meet
      exact ⟨a0, rfl, by omega, rfl⟩
  case rest =>
    obtain ⟨t, rfl, ht, rfl⟩ := hcut
    have HC := Lib.hid (pathS_any t wc (by omega))
    have HD := Lib.hid (fun v => refPathS_any t v (by omega))
    rcases hp : pathP t.data.toList with _ | p
    · rw [hp] at HC HD
      clear hp
      go_wp2_with fail
      refine (HC.out).mono ?_
      rintro e v he
      obtain ⟨rfl, hb1⟩ := he.no
      clear he HC
      go_wp2_with fail
      refine (HD.out v).mono ?_
      rintro e v2 he
      obtain ⟨rfl, hb2⟩ := he.no
      clear he HD
      have HB := below_then hb1 hb2
      clear hb1 hb2
      go_wp2_with fail
      refine (same_is (Lib.hid (decide_eq_true rfl)) (HasT.none_ v2 0) (HasT.none_ v2 0)).mono ?_
      rintro e v3 ⟨rfl, k, rfl⟩
      have HB2 := below_drewN HB k
      go_wp2_with fail
      refine (namesLives_any _).mono ?_
      rintro e vl ⟨rfl, hbl⟩
      go_wp2_with fail
      go_ret
      exact ⟨rfl, HB2.trans (hbl.mono HB2.size)⟩
    · have HQ := Lib.hid (textP_path hp)
      rw [hp] at HC HD
      clear hp
      go_wp2_with fail
      refine (HC.out).mono ?_
      rintro e v he
      obtain ⟨B1, j1, d1, rfl, hU, hb1⟩ := he.yes
      clear he HC
      go_wp2_with fail
      refine (HD.out v).mono ?_
      rintro e v2 he
      obtain ⟨B2, j2, d2, rfl, hV, hb2⟩ := he.yes
      have hU2 := hU.belowS hb2
      have HB := below_then hb1 hb2
      clear he HD hU hb1 hb2
      go_wp2_with fail
      refine (same_is (Lib.hid (decide_eq_true rfl)) hU2 hV).mono ?_
      rintro e v3 ⟨rfl, k, rfl⟩
      have HB2 := below_drewN HB k
      have HT := text_yes (hU2.drewN k) HQ.out.1
      rw [HQ.out.2] at HT
      have HT2 := Lib.hid HT
      have htt : (t.toList == t.toList) = true := by simp
      clear hU2 hV HT
      go_wp2_with fail
      refine (HT2.out).mono ?_
      rintro e v4 ⟨rfl, hb3⟩
      have HB3 := HB2.trans (hb3.mono HB2.size)
      clear HT2 hb3
      go_wp2_with fail
      refine (namesLives_any _).mono ?_
      rintro e vl ⟨rfl, hbl⟩
      go_wp2_with fail
      go_ret
      exact ⟨rfl, HB3.trans (hbl.mono HB3.size)⟩
  -- go_enter Tryd.func4, Tryd.ntmps4
  -- go_wp2
  -- go_ret
  -- exact ⟨rfl, by repeat (first | exact Grown.refl _ | apply Grown.drew | apply Grown.alloc)⟩

set_option maxRecDepth 100000 in
theorem lifted (os : Os) (started : os.Started) (H : Type) (enc : TypeId × Value → H) :
    ReturnsInHanded {} Tryd.checked os 4 .any (fun w args => (Rows.namesPathsSpec.pre enc Tryd.prog Tryd.f4 Rows.namesPathsRow.domain false w args ∧ laidMetH Tryd.prog Rows.namesPathsRow.laid w) ∧ sizedMet enc Tryd.prog Tryd.f4 (OpenSpec.ofChange Rows.namesPathsSpec) false w args) (Rows.namesPathsSpec.post enc Tryd.prog Tryd.f4 false true false false) := by
  refine returnsInHanded_of_change_and (C := Tryd.checked) (X := fun w _ => laidMetH Tryd.prog Rows.namesPathsRow.laid w) (fun _ _ _ hh h => h.of_heap hh) own started (by kernel_rfl) Tryd.func4
    (ChangeSpec.witness_shaped (enc := enc) (C := Tryd.checked) (os := os) (X := fun w _ => laidMetH Tryd.prog Rows.namesPathsRow.laid w) false (World.laidAll Tryd.prog os Rows.namesPathsRow.laid) #[.string ByteArray.empty] 8 (World.laidAll_os _ _ _)
      (World.shaped_of_ZipB (by kernel_rfl) (by kernel_rfl)) (by kernel_rfl) (by kernel_rfl) (by kernel_rfl)
      (by rw [MakeChecks.laidMetH_plain _ _ _ (by kernel_rfl)]; exact laidMet_laidAll _ (by kernel_rfl) (by kernel_rfl))) ?_
  intro W base args ds gs before hval0 hW hcnd _ hL _
  have hval : ∀ (j : Nat) t v, Tryd.f4.params[j]? = some t → args[j]? = some v → Value.okWide Tryd.prog W .any base t v := hval0
  have hW' := hW
  obtain ⟨p, q, hA0, hV, rfl, hfz, hnd⟩ := hW
  have hA : DataW.TrodAll enc Tryd.prog W 0 (fun _ => true) true Tryd.f4.params.toList args.toList ds p := hA0
  rw [Tryd.params4] at hA hval
  obtain ⟨v0, vs0, d0, ds0, p0, q0, hargs, rfl, rfl, h0, r0⟩ := trodAll_cons hA
  obtain ⟨rfl, rfl, rfl⟩ := trodAll_nil r0
  obtain rfl : args = #[v0] := by cases args; simp_all
  obtain ⟨rfl, rfl⟩ := trodVars_none hV
  obtain ⟨a0, rfl, rfl, rfl, w0⟩ := open_string Tryd.underlying9 (hval 0 9 v0 rfl rfl) h0
  clear hA0 hval0
  simp only [List.append_nil] at hW'
  refine (walk a0 w0 W).mono fun e W' ⟨he, hg⟩ => ?_
  subst he
  exact ⟨_, rfl, _, _, _, [], _, [], hW', trodAll_mk1 (shut_bool Tryd.underlying4 _), (trodAll_cons_mk (shut_string Tryd.underlying9 w0) trodAll_mk0), rfl, hg.frame _, fun h => by cases h⟩

theorem over : Rows.namesPathsRow.holds Tryd.pinned (OpenSpec.ofChange Rows.namesPathsSpec) :=
  OpenClaim.holds_of_wide 4 Tryd.f4 rfl rfl rfl rfl rfl rfl rfl ⟨rfl, rfl, rfl, rfl, rfl⟩ rfl rfl rfl rfl rfl (by kernel_rfl) Tryd.func4 (by kernel_rfl)
    (of_decide_eq_true (by kernel_rfl)) (by unfold Func.isWrapper; first | (rw [if_pos (by decide +kernel)]; kernel_rfl) | (rw [if_neg (by decide +kernel)]; exact ⟨rfl, rfl⟩))
    (fun os started H enc _ => lifted os started H enc)

theorem proved : Rows.NamesPathsCardSaid :=
  Claim7.holds_tied_plain_at .later [] [.data, .pinned] true (true, "8c47760688d2123e3d86ea739eb4e27e792e065c555e72cf01bd78d17d5cea6d") false over (fun _ h => by cases h) (by kernel_rfl) (fun _ h => by cases h) namesPaths_row_tie rfl ⟨rfl, rfl⟩ (by kernel_rfl) rfl
    (fun f fn hf hfn => by
      obtain rfl : f = 4 := Option.some.inj ((show Tryd.prog.funcNamed "tesseract/tesseractlaw06.NamesPaths" = some 4 by kernel_rfl).symm.trans hf) |>.symm
      obtain rfl : fn = Tryd.f4 := (Option.some.inj (Tryd.func4.symm.trans hfn)).symm
      exact ⟨by kernel_rfl, fun j t ht => by
        rw [Tryd.params4] at ht
        have hm : t ∈ [9] := by simpa using Array.mem_of_getElem? ht
        have hall : ([9].all fun u => !Tryd.prog.wantsStandIn u) = true := by kernel_rfl
        exact (show Tryd.prog.wantsStandIn t = false by simpa using List.all_eq_true.1 hall t hm)⟩)
    (by kernel_rfl)
end Go.Proofs.YtkhnieadmpahmaaDoor.namesPaths
