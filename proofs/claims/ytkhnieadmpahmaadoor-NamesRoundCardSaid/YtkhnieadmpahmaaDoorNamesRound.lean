/-
  Proved: names.Path of the text that names.Text tells of any texts (the first 6) that are a path tells that path, and of texts that are none Text tells no text; the document's examples hold, and nothing that was handed in changes. Condition: the two tables of Go's library that the row lists (unicode/utf8's first and acceptRanges) hold what their initialisers lay, to which the card ties them; the walk reads neither.
-/
import Derived.Test.YtkhnieadmpahmaaDoorTie
import Derived.Test.YtkhnieadmpahmaaDoorCards
import Derived.LaidMore
import Derived.Lay
import Derived.SevenTiedAt
import Derived.Stop.Joined
import Derived.Test.YtkhnieadmpahmaaDoorNamesW
import Derived.WalkKit
import Derived.ProofKit
import Derived.OpenShut
import Derived.ShutString
import Derived.ChangeOld
import Derived.Below
namespace Go.Proofs.YtkhnieadmpahmaaDoor.namesRound
open Go.ChangeShapes Go.WideShapes Go.ChangeAt Go.RowKit
open Go.ChangeMaps (open_string shut_string)
set_option linter.unusedVariables false

theorem own : ownKnob Tryd.prog.godebug = none := by kernel_rfl
theorem laidOut : laidOutB Tryd.prog = true := by kernel_rfl

def IsRow (k : IntKind) (w : World) (a : Option Addr) (len cap : Nat) (zs : List Int) : Prop :=
  (a = none ∧ len = 0 ∧ cap = 0 ∧ zs = []) ∨
  ∃ x, a = some x ∧ len ≤ cap ∧ cap ≤ maxLen ∧ zs.length = cap ∧ (∀ i, i < zs.length → w.cell? (x.add i) = some (.int k (zs.getD i 0))) ∧ ∀ n ∈ zs, (Lit.int k n).wf = true

set_option maxRecDepth 100000 in
set_option maxHeartbeats 2000000 in
theorem walk (a0 : Option Addr) (len0 cap0 : Nat) (w : World) (w0 : RC Tryd.prog w 22 [.slice a0 len0 cap0]) :
    Calls Tryd.prog 5 #[.slice a0 len0 cap0] w fun e w' => e = .returned (.bool true) ∧ Below w.heap.size w w' := by
  obtain ⟨P, hP, _⟩ := w0.texts Tryd.underlying22 Tryd.underlying9 (by kernel_rfl)
  clear w0
  go_enter Tryd.func5, Tryd.ntmps5
  go_wp2_with fail
  refine (fewT_any hP).mono ?_
  rintro e v ⟨⟨n0, rfl, hP6, hn0⟩, rfl⟩
  generalize P.take 6 = P6 at hP6
  clear hP
  by_cases hm : mayP P6
  · have HM := Lib.hid hm
    have HT := Lib.hid (textP_length hm)
    have HP := Lib.hid (pathP_text hm)
    clear hm
    go_wp2_with fail
    refine (text_yes hP6 HM.out).mono ?_
    rintro e v ⟨rfl, hb1⟩
    have hP1 := hP6.belowS hb1
    clear hP6
    have HC := Lib.hid (path_any (textP P6) v (by have := HT.out; omega))
    rw [HP.out] at HC
    go_wp2_with fail
    refine (HC.out).mono ?_
    rintro e v2 he
    obtain ⟨B, j, d, rfl, hQ, hb2⟩ := he.yes
    have hP2 := hP1.belowS hb2
    have HB := below_then hb1 hb2
    clear hP1 HC he hb1 hb2
    go_wp2_with fail
    refine (same_is (Lib.hid (decide_eq_true rfl)) hP2 hQ).mono ?_
    rintro e v3 ⟨rfl, k, rfl⟩
    have HB2 := below_drewN HB k
    clear hP2 hQ
    go_wp2_with fail
    refine (namesLives_any _).mono ?_
    rintro e vl ⟨rfl, hbl⟩
    go_wp2_with fail
    go_ret
    exact ⟨rfl, HB2.trans (hbl.mono HB2.size)⟩
  · have HM := Lib.hid hm
    clear hm
    go_wp2_with fail
    refine (text_no hP6 HM.out).mono ?_
    rintro e v ⟨rfl, HB⟩
    clear hP6
    go_wp2_with fail
    refine (namesLives_any _).mono ?_
    rintro e vl ⟨rfl, hbl⟩
    go_wp2_with fail
    go_ret
    exact ⟨rfl, HB.trans (hbl.mono HB.size)⟩

set_option maxRecDepth 100000 in
theorem lifted (os : Os) (started : os.Started) (H : Type) (enc : TypeId × Value → H) :
    ReturnsInHanded {} Tryd.checked os 5 .any (fun w args => (Rows.namesRoundSpec.pre enc Tryd.prog Tryd.f5 Rows.namesRoundRow.domain false w args ∧ laidMetH Tryd.prog Rows.namesRoundRow.laid w) ∧ sizedMet enc Tryd.prog Tryd.f5 (OpenSpec.ofChange Rows.namesRoundSpec) false w args) (Rows.namesRoundSpec.post enc Tryd.prog Tryd.f5 false true false false) := by
  refine returnsInHanded_of_change_and (C := Tryd.checked) (X := fun w _ => laidMetH Tryd.prog Rows.namesRoundRow.laid w) (fun _ _ _ hh h => h.of_heap hh) own started (by kernel_rfl) Tryd.func5
    (ChangeSpec.witness_shaped (enc := enc) (C := Tryd.checked) (os := os) (X := fun w _ => laidMetH Tryd.prog Rows.namesRoundRow.laid w) false (World.laidAll Tryd.prog os Rows.namesRoundRow.laid) #[.slice none 0 0] 8 (World.laidAll_os _ _ _)
      (World.shaped_of_ZipB (by kernel_rfl) (by kernel_rfl)) (by kernel_rfl) (by kernel_rfl) (by kernel_rfl)
      (by rw [MakeChecks.laidMetH_plain _ _ _ (by kernel_rfl)]; exact laidMet_laidAll _ (by kernel_rfl) (by kernel_rfl))) ?_
  intro W base args ds gs before hval0 hW hcnd _ hL _
  have hval : ∀ (j : Nat) t v, Tryd.f5.params[j]? = some t → args[j]? = some v → Value.okWide Tryd.prog W .any base t v := hval0
  have hW' := hW
  obtain ⟨p, q, hA0, hV, rfl, hfz, hnd⟩ := hW
  have hA : DataW.TrodAll enc Tryd.prog W 0 (fun _ => true) true Tryd.f5.params.toList args.toList ds p := hA0
  rw [Tryd.params5] at hA hval
  obtain ⟨v0, vs0, d0, ds0, p0, q0, hargs, rfl, rfl, h0, r0⟩ := trodAll_cons hA
  obtain ⟨rfl, rfl, rfl⟩ := trodAll_nil r0
  obtain rfl : args = #[v0] := by cases args; simp_all
  obtain ⟨rfl, rfl⟩ := trodVars_none hV
  obtain ⟨a0, len0, cap0, rfl⟩ := okWide_slice Tryd.underlying22 (hval 0 22 v0 rfl rfl)
  have k0 := h0
  have lt0 : ∀ x ∈ p0, x.block < W.heap.size := by obtain ⟨m, hm⟩ := k0; exact DataW.trod_lt m _ _ _ hm
  have w0 : RC Tryd.prog W 22 [.slice a0 len0 cap0] := by
    obtain ⟨fuel, hf⟩ := h0
    exact ⟨_, _, _, _, _, fuel, _, hf⟩
  clear hA0 hval0
  refine (walk a0 len0 cap0 W w0).mono fun e W' ⟨he, bel⟩ => ?_
  subst he
  exact ⟨_, rfl, _, _, _, [], _, [], hW', trodAll_mk1 (shut_bool Tryd.underlying4 _), (trodAll_cons_mk (Below.trod laidOut (by kernel_rfl) (of_decide_eq_true (by kernel_rfl)) k0 bel lt0) trodAll_mk0), rfl, bel.frame _, fun h => by cases h⟩

theorem over : Rows.namesRoundRow.holds Tryd.pinned (OpenSpec.ofChange Rows.namesRoundSpec) :=
  OpenClaim.holds_of_wide 5 Tryd.f5 rfl rfl rfl rfl rfl rfl rfl ⟨rfl, rfl, rfl, rfl, rfl⟩ rfl rfl rfl rfl rfl (by kernel_rfl) Tryd.func5 (by kernel_rfl)
    (of_decide_eq_true (by kernel_rfl)) (by unfold Func.isWrapper; first | (rw [if_pos (by decide +kernel)]; kernel_rfl) | (rw [if_neg (by decide +kernel)]; exact ⟨rfl, rfl⟩))
    (fun os started H enc _ => lifted os started H enc)

theorem proved : Rows.NamesRoundCardSaid :=
  Claim7.holds_tied_plain_at .later [] [.data, .pinned] true (true, "8c47760688d2123e3d86ea739eb4e27e792e065c555e72cf01bd78d17d5cea6d") false over (fun _ h => by cases h) (by kernel_rfl) (fun _ h => by cases h) namesRound_row_tie rfl ⟨rfl, rfl⟩ (by kernel_rfl) rfl
    (fun f fn hf hfn => by
      obtain rfl : f = 5 := Option.some.inj ((show Tryd.prog.funcNamed "tesseract/tesseractlaw06.NamesRound" = some 5 by kernel_rfl).symm.trans hf) |>.symm
      obtain rfl : fn = Tryd.f5 := (Option.some.inj (Tryd.func5.symm.trans hfn)).symm
      exact ⟨by kernel_rfl, fun j t ht => by
        rw [Tryd.params5] at ht
        have hm : t ∈ [22] := by simpa using Array.mem_of_getElem? ht
        have hall : ([22].all fun u => !Tryd.prog.wantsStandIn u) = true := by kernel_rfl
        exact (show Tryd.prog.wantsStandIn t = false by simpa using List.all_eq_true.1 hall t hm)⟩)
    (by kernel_rfl)
end Go.Proofs.YtkhnieadmpahmaaDoor.namesRound
